/-
  What the rows of this claim stand on: TpTake, SdZero, SdPutTop, VdI, CdB, CdD, VdK.
-/
import Derived.Test.YtjlfehpockfkdaaGreatB01
import Derived.Test.YtjlfehpockfkdaaGreatB05
import Derived.Test.YtjlfehpockfkdaaGreatB04
import Derived.Test.YtjlfehpockfkdaaGreatB02
namespace Go.Proofs.YtjlfehpockfkdaaGreat
open Go.RowKit Go.Shelf Fb
attribute [local go_sem] Oper.semAt_some
theorem vec_short{n:Note}(hn:Nt.fmd n=true):n.e.length≤64:=by
 unfold Nt.fmd at hn
 simp only[Bool.and_eq_true]at hn
 exact Tr.short hn.2.1
theorem run_store_func(P:Program)(w:World)(a:Addr)(m:Mode)(f:Fn)(ca lb:Array Value):(store a (.func f ca lb) m).run P w=stored P w a (.func f ca lb) m:=run_store P w a _ m rfl
attribute [local go_sem] run_store_func
theorem stay_bounds{z:Zn}{fu:List (Int × Int)}{n:Note}:∀y∈Tr.stay z fu n,0≤y.1∧y.1≤255∧0≤y.2.1∧y.2.1≤255:=fun y hy=>by
 unfold Tr.stay at hy
 obtain⟨s,hs,rfl⟩:=List.mem_map.1 hy
 unfold Tr.keeps Sp.meetS at hs
 obtain⟨k,hk,rfl⟩:=List.mem_iff_getElem.1 hs
 have:=Sp.good_ofL _ k hk
 rw[List.getD_eq_getElem?_getD,List.getElem?_eq_getElem hk]at this
 obtain⟨g1,g2,g3,-⟩:=this
 simp only[Option.getD_some]at g1 g2 g3
 refine⟨g1,?_,?_,?_⟩
 ·show(_:Int × Int).1≤255;omega
 ·show 0≤(_:Int × Int).2;omega
 ·show(_:Int × Int).2≤255;omega
theorem part_zn{p:Zc}{n:Note}{SL:List Zc}(hS:SL.map Zc.zn=Tr.stay (p.lo,p.hi,p.l) (Tr.fur p.l n) n)(FX:Option Addr)(fd:Nat):(pcc ⟨0,0,FX,fd,Tr.fur p.l n⟩ p.hi p.lo SL).map Zc.zn=Tr.parts (p.lo,p.hi,p.l) n:=by
 rw[pcc_zn,hS]
 rfl
theorem part_piece{p:Zc}{n:Note}(hn:Nt.fmd n=true)(h1:0≤p.lo)(h2:p.lo≤p.hi)(h3:p.hi≤255)(hl:p.l.length≤64){SL:List Zc}(hS:SL.map Zc.zn=Tr.stay (p.lo,p.hi,p.l) (Tr.fur p.l n) n)(hX:∀z∈SL,z.X=p.X∧z.c=p.c∧z.l=p.l)(FX:Option Addr)(fd k:Nat) :
  0≤((pcc ⟨0,0,FX,fd,Tr.fur p.l n⟩ p.hi p.lo SL).getD k Zc.none).lo∧0≤((pcc ⟨0,0,FX,fd,Tr.fur p.l n⟩ p.hi p.lo SL).getD k Zc.none).hi∧((pcc ⟨0,0,FX,fd,Tr.fur p.l n⟩ p.hi p.lo SL).getD k Zc.none).hi≤255∧((pcc ⟨0,0,FX,fd,Tr.fur p.l n⟩ p.hi p.lo SL).getD k Zc.none).l.length≤64 ∧
  ∀w,OneL w p.X p.c p.l→OneL w FX fd (Tr.fur p.l n)→OneL w ((pcc ⟨0,0,FX,fd,Tr.fur p.l n⟩ p.hi p.lo SL).getD k Zc.none).X ((pcc ⟨0,0,FX,fd,Tr.fur p.l n⟩ p.hi p.lo SL).getD k Zc.none).c ((pcc ⟨0,0,FX,fd,Tr.fur p.l n⟩ p.hi p.lo SL).getD k Zc.none).l:=by
 have hz:=part_zn hS FX fd
 have hfl:(Tr.fur p.l n).length≤64:=Ve.ofL_len _
 obtain⟨Q,hQ⟩:∃Q,pcc ⟨0,0,FX,fd,Tr.fur p.l n⟩ p.hi p.lo SL=Q:=⟨_,rfl⟩
 have hmem:=fun z hz=>pcc_mem ⟨0,0,FX,fd,Tr.fur p.l n⟩ p.hi SL p.lo z hz
 rw[hQ]at hz hmem ⊢
 rw[List.getD_eq_getElem?_getD]
 cases hk:Q[k]? with
 |none=>exact⟨Int.le_refl _,Int.le_refl _,by show(0:Int)≤255;omega,Nat.zero_le _,fun w _ _=>OneL.nil⟩
 |some q=>
  have hm:=List.mem_of_getElem? hk
  have hq:q.zn∈Tr.parts (p.lo,p.hi,p.l) n:=by rw[←hz];exact List.mem_map.2 ⟨q,hm,rfl⟩
  obtain⟨t1,t2,t3,-⟩:=Tr.tiles_of _ _ _ (Tr.parts_tiles hn (z:=(p.lo,p.hi,p.l)) h1 h2 h3) _ hq
  have t1:(p.lo.toNat:Int)≤q.lo:=t1
  have t2:q.lo≤q.hi:=t2
  have t3:q.hi<((p.hi.toNat+1:Nat):Int):=t3
  refine⟨by show 0≤q.lo;omega,by show 0≤q.hi;omega,by show q.hi≤255;omega,?_,fun w q1 q2 =>?_⟩
  ·show q.l.length≤64
   rcases hmem q hm with hl2|⟨-,-,hl2⟩
   ·rw[(hX q hl2).2.2];exact hl
   ·rw[hl2];exact hfl
  ·show OneL w q.X q.c q.l
   rcases hmem q hm with hl2|⟨e1,e2,e3⟩
   ·obtain⟨e1,e2,e3⟩:=hX q hl2
    rw[e1,e2,e3];exact q1
   ·rw[e1,e2,e3];exact q2
theorem keepsFrom_below{n0:Nat}{W W':World}(hb:Below W.heap.size W W'):KeepsFrom n0 W W':=(keeps_below hb).from _
set_option maxRecDepth 100000 in
set_option maxHeartbeats 12800000 in
theorem ttakeN_any(A B S E Bl V:Option Addr)(c cb cs ce cl cv:Nat)(L:List Zc)(kn:List (Int × Int))(n:Note)(w:World)(h:OneZ w A c L)(hb:OneL w B cb kn)(hN:NoteAt w S E Bl V cs ce cl cv n) :
  Calls Tryz.prog 66 #[.slice A L.length c,.slice B kn.length cb,.agg (noteCells S E Bl V cs ce cl cv n)] w (GivesTN (Tr.tkR (L.map Zc.zn) kn n) w):=by
 have N1:=Hd (fun (w':World) (b:Below w.heap.size w w')=>tformed_any A c L w' (h.later b))
 have N2:=Hd (fun (w':World) (b:Below w.heap.size w w')=>formed_any B cb kn w' (hb.later b))
 have N3:=Hd (fun (w':World) (b:Below w.heap.size w w')=>dnformed_any S E Bl V cs ce cl cv n w' (hN.later b))
 have N4:=Hd (fun (w':World) (b:Below w.heap.size w w')=>dnfits_any S E Bl V B cs ce cl cv cb n kn w' (hN.later b) (hb.later b))
 have HD:=Hd h
 have HK:=Hd hb
 have HNA:=Hd hN
 clear h hb hN
 have b0:=below_new (Below.refl w.heap.size w) (.cells (noteCells S E Bl V cs ce cl cv n) 40)
 have B5:=Blk.new w 40 (noteCells S E Bl V cs ce cl cv n)
 obtain⟨W1,hW1⟩:∃W1,w.alloc (.cells (noteCells S E Bl V cs ce cl cv n) 40)=W1:=⟨_,rfl⟩
 rw[hW1]at b0 B5
 have hz1:w.heap.size+1≤W1.heap.size:=by rw[←hW1];simp
 have HW1:=Hd hW1
 clear hW1
 refine(callsIn_wide (n:=5)).1 ?_
 refine callsIn_of_wp_marks Tryz.func66 rfl trivial ?_ rfl
 simp only[Tryz.ntmps66,List.size_toArray,List.length_cons,List.length_nil,Nat.reduceAdd,Nat.reduceSub,Array.replicate_succ,Array.replicate_zero,List.push_toArray,List.append_toArray,List.nil_append,List.cons_append]
 unfold noteCells at N3 N4 B5 HW1 ⊢
 cases hq:Tr.fmd (L.map Zc.zn) with
 |false=>
  have hR:Tr.tkR (L.map Zc.zn) kn n=([],[],1):=by unfold Tr.tkR;rw[if_neg (fun h=>by rw[hq]at h;exact absurd h.1 Bool.false_ne_true)]
  rw[hR]
  rw[hq]at N1
  clear hR hq
  gi_wp2_with fail
  rw[HW1.out]
  refine⟨trivial,(callsIn_wide.2 (N1.out _ b0)).mono ?_⟩
  rintro e w1 ⟨rfl,b1⟩
  have FB:=Hd (GivesTN.err 1 (below_on b0 b1))
  clear N1 N2 N3 N4 B5 b1 HW1
  gi_wp2_with fail
  refine⟨trivial,?_⟩
  gi_wp2_with fail
  refine⟨trivial,?_⟩
  gi_wp2
  exact⟨_,by simp[results,Tryz.f66,go_sem],FB.out⟩
 |true=>
 rw[hq]at N1
 cases hk:Ve.fmd kn with
 |false=>
  have hR:Tr.tkR (L.map Zc.zn) kn n=([],[],1):=by unfold Tr.tkR;rw[if_neg (fun h=>by rw[hk]at h;exact absurd h.2.1 Bool.false_ne_true)]
  rw[hR]
  rw[hk]at N2
  clear hR hk
  gi_wp2_with fail
  rw[HW1.out]
  refine⟨trivial,(callsIn_wide.2 (N1.out _ b0)).mono ?_⟩
  rintro e w1 ⟨rfl,b1⟩
  have bb1:=below_on b0 b1
  gi_wp2_with fail
  refine⟨trivial,(callsIn_wide.2 (N2.out _ bb1)).mono ?_⟩
  rintro e w2 ⟨rfl,b2⟩
  have FB:=Hd (GivesTN.err 1 (below_on bb1 b2))
  clear N1 N2 N3 N4 B5 b1 b2 bb1 HW1
  gi_wp2_with fail
  refine⟨trivial,?_⟩
  gi_wp2
  exact⟨_,by simp[results,Tryz.f66,go_sem],FB.out⟩
 |true=>
 rw[hk]at N2
 cases hn:Nt.fmd n with
 |false=>
  have hR:Tr.tkR (L.map Zc.zn) kn n=([],[],1):=by unfold Tr.tkR;rw[if_neg (fun h=>by rw[hn]at h;exact absurd h.2.2 Bool.false_ne_true)]
  rw[hR]
  rw[hn]at N3
  clear hR hn
  gi_wp2_with fail
  rw[HW1.out]
  refine⟨trivial,(callsIn_wide.2 (N1.out _ b0)).mono ?_⟩
  rintro e w1 ⟨rfl,b1⟩
  have bb1:=below_on b0 b1
  have C5:=B5.later b1
  gi_wp2_with fail
  refine⟨trivial,(callsIn_wide.2 (N2.out _ bb1)).mono ?_⟩
  rintro e w2 ⟨rfl,b2⟩
  have bb2:=below_on bb1 b2
  have D5:=C5.later b2
  have c0:=D5.cell (i:=0) rfl
  have c1:=D5.cell (i:=1) rfl
  have c2:=D5.cell (i:=2) rfl
  have c3:=D5.cell (i:=3) rfl
  clear b1 b2 C5
  gi_wp2_with fail
  refine⟨trivial,(callsIn_wide.2 (N3.out _ bb2)).mono ?_⟩
  rintro e w3 ⟨rfl,b3⟩
  have FB:=Hd (GivesTN.err 1 (below_on bb2 b3))
  clear N1 N2 N3 N4 B5 b3 bb1 bb2 HW1 D5 c0 c1 c2 c3
  gi_wp2
  exact⟨_,by simp[results,Tryz.f66,go_sem],FB.out⟩
 |true=>
 rw[hn]at N3
 cases hf:Ve.cov (Ve.cnt kn) (Ve.cnt n.s) with
 |false=>
  have hR:Tr.tkR (L.map Zc.zn) kn n=([],[],3):=by unfold Tr.tkR;rw[if_pos ⟨hq,hk,hn⟩,if_neg (by rw[hf];exact Bool.false_ne_true)]
  rw[hR]
  rw[hf]at N4
  clear hR hf hq hk hn
  gi_wp2_with fail
  rw[HW1.out]
  refine⟨trivial,(callsIn_wide.2 (N1.out _ b0)).mono ?_⟩
  rintro e w1 ⟨rfl,b1⟩
  have bb1:=below_on b0 b1
  have C5:=B5.later b1
  gi_wp2_with fail
  refine⟨trivial,(callsIn_wide.2 (N2.out _ bb1)).mono ?_⟩
  rintro e w2 ⟨rfl,b2⟩
  have bb2:=below_on bb1 b2
  have D5:=C5.later b2
  have c0:=D5.cell (i:=0) rfl
  have c1:=D5.cell (i:=1) rfl
  have c2:=D5.cell (i:=2) rfl
  have c3:=D5.cell (i:=3) rfl
  clear b1 b2 C5
  gi_wp2_with fail
  refine⟨trivial,(callsIn_wide.2 (N3.out _ bb2)).mono ?_⟩
  rintro e w3 ⟨rfl,b3⟩
  have bb3:=below_on bb2 b3
  have E5:=D5.later b3
  have d0:=E5.cell (i:=0) rfl
  have d1:=E5.cell (i:=1) rfl
  have d2:=E5.cell (i:=2) rfl
  have d3:=E5.cell (i:=3) rfl
  clear b3 c0 c1 c2 c3
  gi_wp2_with fail
  refine⟨trivial,(callsIn_wide.2 (N4.out _ bb3)).mono ?_⟩
  rintro e w4 ⟨rfl,b4⟩
  have FB:=Hd (GivesTN.err 3 (below_on bb3 b4))
  clear N1 N2 N3 N4 B5 b4 bb1 bb2 bb3 HW1 D5 E5 d0 d1 d2 d3
  gi_wp2
  exact⟨_,by simp[results,Tryz.f66,go_sem],FB.out⟩
 |true=>
 have hR:=Tr.take_yes hq hk hn hf
 have hfold:=Tr.take_fold hq kn hn
 rw[hf]at N4
 obtain⟨T,hT⟩:∃T,Ve.joinL [kn,n.e]=T:=⟨_,rfl⟩
 rw[hT]at hR hfold
 rw[←hfold]at hR
 have HTR:=Hd hR
 have HQ:=Hd hq
 have HKF:=Hd hk
 have HNF:=Hd hn
 clear hR hfold hq hk hn hf
 gi_wp2_with fail
 rw[HW1.out]
 refine⟨trivial,(callsIn_wide.2 (N1.out _ b0)).mono ?_⟩
 rintro e w1 ⟨rfl,b1⟩
 have bb1:=below_on b0 b1
 have C5:=B5.later b1
 gi_wp2_with fail
 refine⟨trivial,(callsIn_wide.2 (N2.out _ bb1)).mono ?_⟩
 rintro e w2 ⟨rfl,b2⟩
 have bb2:=below_on bb1 b2
 have D5:=C5.later b2
 have c0:=D5.cell (i:=0) rfl
 have c1:=D5.cell (i:=1) rfl
 have c2:=D5.cell (i:=2) rfl
 have c3:=D5.cell (i:=3) rfl
 clear b1 b2 C5
 gi_wp2_with fail
 refine⟨trivial,(callsIn_wide.2 (N3.out _ bb2)).mono ?_⟩
 rintro e w3 ⟨rfl,b3⟩
 have bb3:=below_on bb2 b3
 have E5:=D5.later b3
 have d0:=E5.cell (i:=0) rfl
 have d1:=E5.cell (i:=1) rfl
 have d2:=E5.cell (i:=2) rfl
 have d3:=E5.cell (i:=3) rfl
 clear b3 c0 c1 c2 c3 D5
 gi_wp2_with fail
 refine⟨trivial,(callsIn_wide.2 (N4.out _ bb3)).mono ?_⟩
 rintro e w4 ⟨rfl,b4⟩
 have bb4:=below_on bb3 b4
 have F5:=E5.later b4
 have f1:=F5.cell (i:=1) rfl
 have JB:=Blk.new w4 22 #[.slice B kn.length cb,.slice E n.e.length ce]
 have bJ:=below_new (Below.refl w4.heap.size w4) (.cells #[.slice B kn.length cb,.slice E n.e.length ce] 22)
 have JN:=join_any (some ⟨w4.heap.size,0,none⟩) 2 [kn,n.e] _ (by simp) (rows_two JB (HK.out.later (below_on bb4 bJ)) (HNA.out.he.later (below_on bb4 bJ)))
 rw[hT]at JN
 have NJ:=Hd JN
 have G5:=F5.later bJ
 have bb5:=below_on bb4 bJ
 clear b4 d0 d1 d2 d3 E5 F5 JB bJ JN N1 N2 N3 N4 bb1 bb2 bb3 bb4 HW1 B5
 gi_wp2_with fail
 refine⟨trivial,(callsIn_wide.2 NJ.out).mono ?_⟩
 rintro e w5 ⟨u,rfl,ho5,b5⟩
 obtain⟨TX,tc,rfl,-,-,-,-⟩:=own_form ho5
 have bb6:=below_on bb5 b5
 have G6:=G5.later b5
 have hT5:=own_base ho5 bb5.size
 clear NJ G5 ho5 b5 f1
 gi_wp2_with fail
 have B9:=((Blk.new w5 22 #[.slice TX T.length tc]).alloc (.cells #[.slice none 0 0] 23)).alloc (.cells #[.func (.func 126) #[] #[.pointer (some ⟨w5.heap.size+1,0,none⟩),.pointer (some ⟨w5.heap.size,0,none⟩)]] 165)
 have B10:=(Blk.new (w5.alloc (.cells #[.slice TX T.length tc] 22)) 23 #[.slice none 0 0]).alloc (.cells #[.func (.func 126) #[] #[.pointer (some ⟨w5.heap.size+1,0,none⟩),.pointer (some ⟨w5.heap.size,0,none⟩)]] 165)
 have B11:=Blk.new ((w5.alloc (.cells #[.slice TX T.length tc] 22)).alloc (.cells #[.slice none 0 0] 23)) 165 #[.func (.func 126) #[] #[.pointer (some ⟨w5.heap.size+1,0,none⟩),.pointer (some ⟨w5.heap.size,0,none⟩)]]
 have b8:Below w5.heap.size w5 (((w5.alloc (.cells #[.slice TX T.length tc] 22)).alloc (.cells #[.slice none 0 0] 23)).alloc (.cells #[.func (.func 126) #[] #[.pointer (some ⟨w5.heap.size+1,0,none⟩),.pointer (some ⟨w5.heap.size,0,none⟩)]] 165)):=below_new (below_new (below_new (Below.refl _ _) _) _) _
 simp only[World.size_alloc]at B10 B11
 obtain⟨W8,hW8⟩:∃W8,((w5.alloc (.cells #[.slice TX T.length tc] 22)).alloc (.cells #[.slice none 0 0] 23)).alloc (.cells #[.func (.func 126) #[] #[.pointer (some ⟨w5.heap.size+1,0,none⟩),.pointer (some ⟨w5.heap.size,0,none⟩)]] 165)=W8:=⟨_,rfl⟩
 rw[hW8]at B9 B10 B11 b8
 have G8:=G6.later b8
 have hT8:=own_later hT5 b8
 have bb8:=below_on bb6 b8
 have hb5:w.heap.size<w5.heap.size:=by have:=G6.lt;omega
 have HW8:=Hd hW8
 obtain⟨g,hg⟩:∃g,w5.heap.size=g:=⟨_,rfl⟩
 have HG:=Hd hg
 rw[hg]at B9 B10 B11 hb5
 have TS:=(⟨⟨.slice none 0 0,[],B10,OwnZ.nil _ _,rfl⟩,G8,B9,B11,hT8⟩:TkS w.heap.size w.heap.size g #[.slice S n.s.length cs,.slice E n.e.length ce,.slice Bl n.b.length cl,.slice V n.ws.length cv] TX tc T [] W8)
 clear B9 b8 G6 hT5 G8 hT8 bb6 bb5 hW8 hg b0 hz1 hT
 rw[HW8.out]
 refine⟨trivial,(callsIn_wide.2 (everything_any W8)).mono ?_⟩
 rintro e w6 ⟨rfl,b6⟩
 have TS6:=TS.below b6
 have bb9:=below_on bb8 b6
 have D10:=B10.later b6
 have hg6:=(B11.later b6).lt
 have NP:=Hd (pieces_any A c L ⟨0,0,B,cb,kn⟩ 0 255 w6)
 clear TS b6 bb8 B10 B11
 gi_wp2_with fail
 refine⟨trivial,(callsIn_wide.2 NP.out).mono ?_⟩
 rintro e w7 ⟨bw,bz,br,rfl,Bw,Bz,Br,l1,l2,l3,b7⟩
 have TS7:=TS6.below b7
 have bb7:=below_on bb9 b7
 have E10:=D10.later b7
 clear NP
 gi_wp2_with fail
 rw[HG.out]
 have hrn:rowIn w7 (g+1)=none:=by unfold rowIn;rw[E10.cell (i:=0) rfl];rfl
 have hok:=TS7.ok
 have hok6:=TS6.ok
 obtain⟨P,hP⟩:∃P,pcc ⟨0,0,B,cb,kn⟩ 255 0 L=P:=⟨_,rfl⟩
 have hpc:=fun k=>all_piece HQ.out (R:=⟨0,0,B,cb,kn⟩) HKF.out k
 have hsh:=all_short HQ.out ⟨0,0,B,cb,kn⟩
 have hzn:=all_zn L ⟨0,0,B,cb,kn⟩
 rw[hP]at hpc hsh hzn
 have HPC:=Hd hpc
 have HZN:=Hd hzn
 have SEQ:=pieces_stops (g+1) 4 L P ⟨0,0,B,cb,kn⟩ 0 255 hP (fmd_bounds HQ.out) (by omega) (by omega) HD.out.len A c bw bz br w7 hok (Safe.newer hok6 b7 l1 Bw.isCells) (Safe.newer hok6 b7 l3 Br.isCells) Bw Bz Br (ZoneSafe.old HD.out bb7 (by omega) (fun r e=>by rw[hrn]at e;cases e))
 have hz7:=bb7.size
 have hg7:g+2<w7.heap.size:=by have:=TS7.fn.lt;omega
 have HBB7:=Hd bb7
 have HB5:=Hd hb5
 clear hpc hzn hP hok6 Bw Bz Br l1 l2 l3 D10 b7 bb9 TS6 hrn E10 hg6
 refine wpIn_rangeFunc_ownH rfl (by omega) (gf:=163) (lb:=#[.pointer (some ⟨bw,0,none⟩),.pointer (some ⟨bz,0,none⟩),.pointer (some ⟨br,0,none⟩)]) rfl trivial enters_eachP SEQ KeepB.trans (fun W l' o o' hl h1 h2 _=>KeepB.put l' o o' h1 h2 (show l'≠g+1 by omega)) (Below.refl _ _) (fun _=>rfl)
  (fun pre W=>TkS w.heap.size w.heap.size g #[.slice S n.s.length cs,.slice E n.e.length ce,.slice Bl n.b.length cl,.slice V n.ws.length cv] TX tc T ((pre.map fun k=>(P.getD k Zc.none).zn).foldl (Tr.puts T n) []) W∧Below w.heap.size w W)
  (fun _ _ _=>False)
  ?hI (fun _ _ _ _ _ h _ _=>h) ⟨TS7,bb7⟩
  (fun x a' W=>∃Bx,g+2<Bx∧Blk W Bx 97 #[.int .i64 (P.getD x Zc.none).lo,.int .i64 (P.getD x Zc.none).hi]∧a'={ tmps:=#[.slice A L.length c,.slice B kn.length cb,.agg #[.slice S n.s.length cs,.slice E n.e.length ce,.slice Bl n.b.length cl,.slice V n.ws.length cv],undef,undef,.pointer (some ⟨w.heap.size,0,none⟩),.slice none 0 0,.slice none 0 0,.int .i64 0,.pointer (some ⟨g,0,none⟩),.pointer (some ⟨g+1,0,none⟩),.pointer (some ⟨g+1+1,0,none⟩),.pointer (some ⟨Bx,0,none⟩),.slice (P.getD x Zc.none).X (P.getD x Zc.none).l.length (P.getD x Zc.none).c,undef,undef,undef,.bool false,.slice A L.length c,.bool true,.bool false,.bool false,.slice B kn.length cb,.bool true,.bool false,.bool false,.bool false,.agg #[.slice S n.s.length cs,.slice E n.e.length ce,.slice Bl n.b.length cl,.slice V n.ws.length cv],.bool true,.bool false,.bool false,.bool false,.agg #[.slice S n.s.length cs,.slice E n.e.length ce,.slice Bl n.b.length cl,.slice V n.ws.length cv],.slice B kn.length cb,.bool true,.bool false,.slice B kn.length cb,.pointer (some ⟨w.heap.size,1,none⟩),.slice E n.e.length ce,.slice (some ⟨w4.heap.size,0,none⟩) 2 2,.slice TX T.length tc,.func (.func 126) #[] #[.pointer (some ⟨g+1,0,none⟩),.pointer (some ⟨g,0,none⟩)],.slice A L.length c,.slice B kn.length cb,.agg #[.int .i64 0,.int .i64 255],.func (.func 163) #[] #[.pointer (some ⟨bw,0,none⟩),.pointer (some ⟨bz,0,none⟩),.pointer (some ⟨br,0,none⟩)],.agg #[.int .i64 (P.getD x Zc.none).lo,.int .i64 (P.getD x Zc.none).hi],.slice (P.getD x Zc.none).X (P.getD x Zc.none).l.length (P.getD x Zc.none).c,undef,undef,undef,undef,undef,undef,undef,undef,undef,undef,undef,undef,undef,undef,undef,undef,undef,undef,undef],defers:=[] })
  ?hAx ?assign ?body ?done ?stop
 case hI=>exact OwnFrom.and (Own.from (fun s X Y row h hg hr=>(h.own hg hr).1) _) (ownFrom_below (Nat.le_refl _) hz7)
 case hAx=>exact fun x a' _ X Y row ⟨Bx,h1,h2,h3⟩ hg hr=>⟨Bx,h1,blk_own _ _ (fun (_:Unit)=>#[.int .i64 (P.getD x Zc.none).lo,.int .i64 (P.getD x Zc.none).hi]) () X Y row h2 hg (fun r e=>(hr r e).2),h3⟩
 case assign=>
  rintro l' pre x W K ⟨i1,i3⟩ hK
  unfold tellP toldP
  have bN:=below_new (Below.refl W.heap.size W) (.cells #[.int .i64 (P.getD x Zc.none).lo,.int .i64 (P.getD x Zc.none).hi] 97)
  have HK:=Hd (fun a' W' h1 h2 h3 h4=>hK a' W' h1 h2 h3 h4)
  have I1:=Hd i1
  have I3:=Hd i3
  have BN:=Hd bN
  clear hK i1 i3 bN
  gi_wp2
  exact HK.out _ _ (keepsFrom_below BN.out) (KeepB.below I1.out.ok BN.out) ⟨I1.out.below BN.out,below_on I3.out BN.out⟩ ⟨W.heap.size,I1.out.fn.lt,Blk.new _ _ _,rfl⟩
 case body=>
  rintro l' pre x a' W hl hloop ⟨i1,i3⟩ ⟨Bx,hBx,hX,rfl⟩ hlt
  obtain⟨p1,p2,p3,p4,p5⟩:=HPC.out x
  have p6:=fun (W':World) (q:Below w.heap.size w W')=>p5 W' (fun z hz=>(HD.out.each z hz).later q) (HK.out.later q)
  have p5:=p6 W i3
  have hob:=Tr.okZ_puts (T:=T) HNF.out (pre.map fun k=>(P.getD k Zc.none).zn) [] (fun z hz=>by cases hz) (fun z hz=>by
   obtain⟨k,-,rfl⟩:=List.mem_map.1 hz
   obtain⟨q1,q2,q3,-,-⟩:=HPC.out k
   exact⟨q1,q2,q3⟩)
  obtain⟨O,hO⟩:∃O,(pre.map fun k=>(P.getD k Zc.none).zn).foldl (Tr.puts T n) []=O:=⟨_,rfl⟩
  have hOn:((pre++[x]).map fun k=>(P.getD k Zc.none).zn).foldl (Tr.puts T n) []=(Tr.parts (P.getD x Zc.none).zn n).foldl (Tr.put T) O:=by
   rw[List.map_append,List.foldl_append,hO]
   rfl
  rw[hO]at i1 hob
  rw[List.length_map]at hob
  obtain⟨p,hp⟩:∃p,P.getD x Zc.none=p:=⟨_,rfl⟩
  rw[hp]at hX p1 p2 p3 p4 p5 p6 hOn ⊢
  have hpl:=Tr.short p4
  have hobl:O.length≤140000:=by have:=hob.2;simp only[List.length_nil]at this;omega
  have c0:=i1.note.cell (i:=0) rfl
  have c1:=i1.note.cell (i:=1) rfl
  have c2:=i1.note.cell (i:=2) rfl
  have c3:=i1.note.cell (i:=3) rfl
  obtain⟨fu,hfu⟩:∃fu,Tr.fur p.l n=fu:=⟨_,rfl⟩
  have STR:=tstretched_any p.X S E Bl V p.c cs ce cl cv p.l n W p5 (HNA.out.later i3) (vec_short HNF.out)
  rw[hfu]at STR
  unfold noteCells at STR
  have HSTR:=Hd STR
  have I1:=Hd i1
  have I3:=Hd i3
  have HX:=Hd hX
  have H5:=Hd p6
  have HOB:=Hd hob.1
  have HON:=Hd hOn
  have HFU:=Hd hfu
  have HLO:=Hd hloop
  clear i1 i3 hX p5 p6 p4 hob hOn hO hp STR hloop SEQ hok TS7 bb7 hfu
  gi_wp2_with fail
  refine⟨trivial,(CallsIn.inRound l' (callsIn_wide.2 HSTR.out)).mono ?_⟩
  rintro e wa ⟨uF,rfl,hoF,ba⟩
  obtain⟨FX,fd,rfl,-,-,-,-⟩:=own_form hoF
  have JA:=I1.out.below ba
  have HJA:=Hd JA
  have HNB:=Hd JA.note
  have HXA:=Hd (HX.out.later ba)
  have HBA:=Hd ba
  have hwa:=I3.out.size
  have HFR:=Hd (own_base hoF hwa)
  have HSTA:=Hd (fun (w':World) (q:Below wa.heap.size wa w')=>(show Calls Tryz.prog 129 #[.agg #[.slice S n.s.length cs,.slice E n.e.length ce,.slice Bl n.b.length cl,.slice V n.ws.length cv],.agg #[.int .i64 p.lo,.int .i64 p.hi],.slice p.X p.l.length p.c,.slice FX fu.length fd] w' (GivesStay p.X p.c p.l (Tr.stay (p.lo,p.hi,p.l) fu n) w') from
   tstaying_any S E Bl V p.X FX cs ce cl cv p.c fd n p.lo p.hi p.l fu w' (HNA.out.later (below_on (below_on I3.out ba) q)) HNF.out (by
    obtain⟨F2,f2,e2,o2⟩:=OneL.of_own (own_later hoF q)
    injection e2 with e3 _ e4
    subst e3 e4
    exact o2)))
  obtain⟨STY,hSTY⟩:∃STY,Tr.stay (p.lo,p.hi,p.l) fu n=STY:=⟨_,rfl⟩
  rw[hSTY]at HSTA
  have HSTY:=Hd hSTY
  clear ba hoF JA c0 c1 c2 c3 HSTR hSTY
  gi_wp2_with fail
  refine wpIn_region_facts 7 (by kernel_rfl) (by kernel_rfl) (by kernel_rfl) ?letsoutR
   (fun v=>{ tmps:=#[.slice A L.length c,.slice B kn.length cb,.agg #[.slice S n.s.length cs,.slice E n.e.length ce,.slice Bl n.b.length cl,.slice V n.ws.length cv],undef,undef,.pointer (some ⟨w.heap.size,0,none⟩),.slice none 0 0,.slice none 0 0,.int .i64 0,.pointer (some ⟨g,0,none⟩),.pointer (some ⟨g+1,0,none⟩),.pointer (some ⟨g+1+1,0,none⟩),.pointer (some ⟨Bx,0,none⟩),.slice p.X p.l.length p.c,.slice FX fu.length fd,undef,undef,.bool false,.slice A L.length c,.bool true,.bool false,.bool false,.slice B kn.length cb,.bool true,.bool false,.bool false,.bool false,.agg #[.slice S n.s.length cs,.slice E n.e.length ce,.slice Bl n.b.length cl,.slice V n.ws.length cv],.bool true,.bool false,.bool false,.bool false,.agg #[.slice S n.s.length cs,.slice E n.e.length ce,.slice Bl n.b.length cl,.slice V n.ws.length cv],.slice B kn.length cb,.bool true,.bool false,.slice B kn.length cb,.pointer (some ⟨w.heap.size,1,none⟩),.slice E n.e.length ce,.slice (some ⟨w4.heap.size,0,none⟩) 2 2,.slice TX T.length tc,.func (.func 126) #[] #[.pointer (some ⟨g+1,0,none⟩),.pointer (some ⟨g,0,none⟩)],.slice A L.length c,.slice B kn.length cb,.agg #[.int .i64 0,.int .i64 255],.func (.func 163) #[] #[.pointer (some ⟨bw,0,none⟩),.pointer (some ⟨bz,0,none⟩),.pointer (some ⟨br,0,none⟩)],.agg #[.int .i64 p.lo,.int .i64 p.hi],.slice p.X p.l.length p.c,.slice p.X p.l.length p.c,.agg #[.slice S n.s.length cs,.slice E n.e.length ce,.slice Bl n.b.length cl,.slice V n.ws.length cv],.slice FX fu.length fd,v 0,v 1,v 2,v 3,v 4,v 5,v 6,undef,undef,undef,undef,undef,undef,undef,undef,undef],defers:=[] }) (fun _=>undef)
   (fun i x wx=>match i with
    |0=>x = .agg #[.slice S n.s.length cs,.slice E n.e.length ce,.slice Bl n.b.length cl,.slice V n.ws.length cv]
    |1=>x = .agg #[.int .i64 p.lo,.int .i64 p.hi]
    |2=>x = .slice p.X p.l.length p.c
    |3=>x = .slice FX fu.length fd
    |4=>∃U d SL,x = .slice U (List.length SL) d∧wx.ownsRow wa.heap.size 99 3 (.slice U SL.length d) SL.length (zCells SL)∧SL.map Zc.zn=STY∧(∀z∈SL,z.X=p.X∧z.c=p.c∧z.l=p.l)
    |5=>x = .slice FX fu.length fd
    |6=>x = .agg #[.int .i64 p.lo,.int .i64 p.hi]
    |_=>True)
   (fun w1 w2=>Below w1.heap.size w1 w2) (fun h1 h2=>below_on h1 h2) (fun _=>Below.refl _ _) (Below.drew (Below.refl _ _)) ?stabR ?stepR ?doneR
  case letsoutR=>exact fun⟨_,_,h⟩=>h
  case stabR=>
   rintro i x w1 w2 h hb
   match i,h with
   |0,h=>exact h
   |1,h=>exact h
   |2,h=>exact h
   |3,h=>exact h
   |4,h=>obtain⟨U,d,SL,h1,h2,h3,h4⟩:=h;exact⟨U,d,SL,h1,own_later h2 hb,h3,h4⟩
   |5,h=>exact h
   |6,h=>exact h
   |i+7,_=>trivial
  case stepR=>
   intro i hi v w' hb hd
   match i,hi with
   |0,_=>
    refine wpOp_oneH rfl fun KK HKK =>?_
    clear hd
    have q0:=cell_later hb (HNB.out.cell (i:=0) rfl)
    have q1:=cell_later hb (HNB.out.cell (i:=1) rfl)
    have q2:=cell_later hb (HNB.out.cell (i:=2) rfl)
    have q3:=cell_later hb (HNB.out.cell (i:=3) rfl)
    go_wp2
    exact HKK.out _ _ ⟨_,(by simp[upd];done),Below.refl _ _,rfl⟩
   |1,_=>
    refine wpOp_oneH rfl fun KK HKK =>?_
    clear hd
    have q0:=cell_later hb (HXA.out.cell (i:=0) rfl)
    have q1:=cell_later hb (HXA.out.cell (i:=1) rfl)
    go_wp2
    exact HKK.out _ _ ⟨_,(by simp[upd];done),Below.refl _ _,rfl⟩
   |2,_=>
    refine wpOp_oneH rfl fun KK HKK =>?_
    clear hd
    go_wp2
    exact HKK.out _ _ ⟨_,(by simp[upd];done),Below.refl _ _,rfl⟩
   |3,_=>
    refine wpOp_oneH rfl fun KK HKK =>?_
    clear hd
    go_wp2
    exact HKK.out _ _ ⟨_,(by simp[upd];done),Below.refl _ _,rfl⟩
   |4,_=>
    have h0:v 0=_:=hdx hd 0 (by kernel_rfl)
    have h1:v 1=_:=hdx hd 1 (by kernel_rfl)
    have h2:v 2=_:=hdx hd 2 (by kernel_rfl)
    have h3:v 3=_:=hdx hd 3 (by kernel_rfl)
    refine wpOp_oneH rfl fun KK HKK =>?_
    clear hd
    rw[h0,h1,h2,h3]
    have hsz:=hb.size
    go_wp2_with fail
    refine(HSTA.out _ hb).mono ?_
    rintro e w'' ⟨u,SL,rfl,ho,hz,hy,b⟩
    obtain⟨U,d,rfl,-,-,-,-⟩:=own_form ho
    have HHO:=Hd (own_base ho hsz)
    have HHZ:=Hd hz
    have HHY:=Hd hy
    clear ho hz hy
    go_wp2
    exact HKK.out _ _ ⟨_,(by simp[upd,h0,h1,h2,h3];done),b,U,d,SL,rfl,HHO.out,HHZ.out,HHY.out⟩
   |5,_=>
    refine wpOp_oneH rfl fun KK HKK =>?_
    clear hd
    go_wp2
    exact HKK.out _ _ ⟨_,(by simp[upd];done),Below.refl _ _,rfl⟩
   |6,_=>
    refine wpOp_oneH rfl fun KK HKK =>?_
    clear hd
    have q0:=cell_later hb (HXA.out.cell (i:=0) rfl)
    have q1:=cell_later hb (HXA.out.cell (i:=1) rfl)
    go_wp2
    exact HKK.out _ _ ⟨_,(by simp[upd];done),Below.refl _ _,rfl⟩
   |k+7,hk=>exact absurd hk (by omega)
  case doneR=>
   intro v w5 hb hf
   have h0:v 0=_:=hf 0 (by decide)
   have h1:v 1=_:=hf 1 (by decide)
   have h2:v 2=_:=hf 2 (by decide)
   have h3:v 3=_:=hf 3 (by decide)
   obtain⟨U4,d4,SL4,h4,o4,z4,y4⟩:=hf 4 (by decide)
   have h5:v 5=_:=hf 5 (by decide)
   have h6:v 6=_:=hf 6 (by decide)
   clear hf
   rw[h0,h1,h2,h3,h4,h5,h6]
   have NP2:=Hd (pieces_any U4 d4 SL4 ⟨0,0,FX,fd,fu⟩ p.lo p.hi w5)
   have HZ4:=Hd z4
   have HY4:=Hd y4
   have HO4:=Hd o4
   have BA5:=Hd hb
   clear h0 h1 h2 h3 h4 h5 h6 z4 y4 o4 hb HSTA
   go_wp2_with fail
   refine NP2.out.mono ?_
   rintro e w6 ⟨bw2,bz2,br2,rfl,Bw2,Bz2,Br2,m1,m2,m3,b6⟩
   have baw:=below_on BA5.out b6
   have bWw:=below_on HBA.out baw
   have JB:=HJA.out.below baw
   have hok5:=(HJA.out.below BA5.out).ok
   have hstay:SL4.map Zc.zn=Tr.stay (p.lo,p.hi,p.l) (Tr.fur p.l n) n:=by rw[HFU.out,HSTY.out];exact HZ4.out
   have hpp:=fun k=>part_piece HNF.out p1 p2 p3 hpl hstay HY4.out FX fd k
   have hpz:=part_zn hstay FX fd
   have hSb:∀z∈SL4,0≤z.lo∧z.lo≤255∧0≤z.hi∧z.hi≤255:=fun z hz=>stay_bounds (z:=(p.lo,p.hi,p.l)) (fu:=Tr.fur p.l n) (n:=n) z.zn (by rw[←hstay];exact List.mem_map.2 ⟨z,hz,rfl⟩)
   have hSl:SL4.length≤128:=by
    rw[←List.length_map (f:=Zc.zn),hstay]
    unfold Tr.stay Tr.keeps Sp.meetS
    rw[List.length_map]
    exact Sp.ofL_len _
   rw[HFU.out]at hpp hpz
   obtain⟨Qp,hQp⟩:∃Qp,pcc ⟨0,0,FX,fd,fu⟩ p.hi p.lo SL4=Qp:=⟨_,rfl⟩
   rw[hQp]at hpp hpz
   have hQl:Qp.length≤257:=by rw[←List.length_map (f:=Zc.zn),hpz];exact Tr.parts_len _ _
   have HPP:=Hd hpp
   have HPZ:=Hd hpz
   have SEQ2:=pieces_stops (g+1) 2 SL4 Qp ⟨0,0,FX,fd,fu⟩ p.lo p.hi hQp hSb (by omega) (by omega) (by omega) U4 d4 bw2 bz2 br2 w6 JB.ok (Safe.newer hok5 b6 m1 Bw2.isCells) (Safe.newer hok5 b6 m3 Br2.isCells) Bw2 Bz2 Br2 (ZoneSafe.own HJA.out.ok baw (own_later HO4.out b6) rfl)
   obtain⟨rl,hrl⟩:=HLO.out
   have hrl6:w6.heap[l']?=some (.loop rl):=(bWw.block l' (Array.getElem?_eq_some_iff.1 hrl).1).trans hrl
   have hF6:=own_later HFR.out baw
   have KB6:=KeepB.below I1.out.ok bWw
   have bw6:=below_on I3.out bWw
   have hg6:g+2<w6.heap.size:=JB.fn.lt
   have hWs:=bWw.size
   have hz6:=bw6.size
   clear hpp hpz hSb hSl hQp hstay hok5 baw Bw2 Bz2 Br2 m1 m2 m3 b6 NP2 HO4 HZ4 HY4
   go_wp2_with fail
   gi_wp2_with fail
   refine wpIn_rangeFunc_ownN (l₀:=l') (r₀:=rl) rfl hrl6 (by omega) (gf:=163) (lb:=#[.pointer (some ⟨bw2,0,none⟩),.pointer (some ⟨bz2,0,none⟩),.pointer (some ⟨br2,0,none⟩)]) rfl trivial enters_eachP (SEQ2.inRound l') KeepB.trans (fun W9 l9 o o' hl9 h1 h2 _=>KeepB.put l9 o o' h1 h2 (show l9≠g+1 by omega)) (Below.refl _ _) (fun _=>rfl)
    (fun pre' W'=>((TkS w.heap.size w.heap.size g #[.slice S n.s.length cs,.slice E n.e.length ce,.slice Bl n.b.length cl,.slice V n.ws.length cv] TX tc T ((pre'.map fun k=>(Qp.getD k Zc.none).zn).foldl (Tr.put T) O) W'∧W'.ownsRow w.heap.size 46 2 (.slice FX fu.length fd) fu.length (stCells fu))∧KeepB (g+1) W W')∧(KeepsFrom w7.heap.size W W'∧Below w.heap.size w W'))
    (fun _ _ _=>False)
    ?hI2 (fun _ _ _ _ _ h _ _=>h) ⟨⟨⟨JB,hF6⟩,KB6⟩,keepsFrom_below bWw,bw6⟩
    (fun y a'' W'=>∃By,g+2<By∧Blk W' By 97 #[.int .i64 (Qp.getD y Zc.none).lo,.int .i64 (Qp.getD y Zc.none).hi]∧a''={ tmps:=#[.slice A L.length c,.slice B kn.length cb,.agg #[.slice S n.s.length cs,.slice E n.e.length ce,.slice Bl n.b.length cl,.slice V n.ws.length cv],undef,undef,.pointer (some ⟨w.heap.size,0,none⟩),.slice none 0 0,.slice none 0 0,.int .i64 0,.pointer (some ⟨g,0,none⟩),.pointer (some ⟨g+1,0,none⟩),.pointer (some ⟨g+1+1,0,none⟩),.pointer (some ⟨Bx,0,none⟩),.slice p.X p.l.length p.c,.slice FX fu.length fd,.pointer (some ⟨By,0,none⟩),.slice (Qp.getD y Zc.none).X (Qp.getD y Zc.none).l.length (Qp.getD y Zc.none).c,.bool false,.slice A L.length c,.bool true,.bool false,.bool false,.slice B kn.length cb,.bool true,.bool false,.bool false,.bool false,.agg #[.slice S n.s.length cs,.slice E n.e.length ce,.slice Bl n.b.length cl,.slice V n.ws.length cv],.bool true,.bool false,.bool false,.bool false,.agg #[.slice S n.s.length cs,.slice E n.e.length ce,.slice Bl n.b.length cl,.slice V n.ws.length cv],.slice B kn.length cb,.bool true,.bool false,.slice B kn.length cb,.pointer (some ⟨w.heap.size,1,none⟩),.slice E n.e.length ce,.slice (some ⟨w4.heap.size,0,none⟩) 2 2,.slice TX T.length tc,.func (.func 126) #[] #[.pointer (some ⟨g+1,0,none⟩),.pointer (some ⟨g,0,none⟩)],.slice A L.length c,.slice B kn.length cb,.agg #[.int .i64 0,.int .i64 255],.func (.func 163) #[] #[.pointer (some ⟨bw,0,none⟩),.pointer (some ⟨bz,0,none⟩),.pointer (some ⟨br,0,none⟩)],.agg #[.int .i64 p.lo,.int .i64 p.hi],.slice p.X p.l.length p.c,.slice p.X p.l.length p.c,.agg #[.slice S n.s.length cs,.slice E n.e.length ce,.slice Bl n.b.length cl,.slice V n.ws.length cv],.slice FX fu.length fd,.agg #[.slice S n.s.length cs,.slice E n.e.length ce,.slice Bl n.b.length cl,.slice V n.ws.length cv],.agg #[.int .i64 p.lo,.int .i64 p.hi],.slice p.X p.l.length p.c,.slice FX fu.length fd,.slice U4 SL4.length d4,.slice FX fu.length fd,.agg #[.int .i64 p.lo,.int .i64 p.hi],.func (.func 163) #[] #[.pointer (some ⟨bw2,0,none⟩),.pointer (some ⟨bz2,0,none⟩),.pointer (some ⟨br2,0,none⟩)],.agg #[.int .i64 (Qp.getD y Zc.none).lo,.int .i64 (Qp.getD y Zc.none).hi],.slice (Qp.getD y Zc.none).X (Qp.getD y Zc.none).l.length (Qp.getD y Zc.none).c,undef,undef,undef,undef,undef,undef],defers:=[] })
    ?hAx2 ?assign2 ?body2 ?done2 ?stop2
   case hI2=>exact OwnFrom.and (Own.from (fun s X Y row ⟨⟨h1,h2⟩,h3⟩ hg hr=>⟨⟨(h1.own hg hr).1,own_row _ _ _ _ _ _ () X Y row h2 hg hr⟩,(h1.own hg hr).2 W h3⟩) _) (OwnFrom.and (ownFrom_keepsFrom hWs) (ownFrom_below (Nat.le_refl _) hz6))
   case hAx2=>exact fun y a'' _ X Y row ⟨By,h1,h2,h3⟩ hg hr=>⟨By,h1,blk_own _ _ (fun (_:Unit)=>#[.int .i64 (Qp.getD y Zc.none).lo,.int .i64 (Qp.getD y Zc.none).hi]) () X Y row h2 hg (fun r e=>(hr r e).2),h3⟩
   case assign2=>
    rintro l2 pre' y W' K ⟨⟨⟨i1,i2⟩,i3⟩,i4,i5⟩ hK
    unfold tellP toldP
    have bN:=below_new (Below.refl W'.heap.size W') (.cells #[.int .i64 (Qp.getD y Zc.none).lo,.int .i64 (Qp.getD y Zc.none).hi] 97)
    have HK2:=Hd (fun a' W' h1 h2 h3 h4=>hK a' W' h1 h2 h3 h4)
    have J1:=Hd i1
    have J2:=Hd i2
    have J3:=Hd i3
    have J4:=Hd i4
    have J5:=Hd i5
    have BN:=Hd bN
    clear hK i1 i2 i3 i4 i5 bN JB hF6 KB6 SEQ2 hrl6
    gi_wp2
    exact HK2.out _ _ (keepsFrom_below BN.out) (KeepB.below J1.out.ok BN.out) ⟨⟨⟨J1.out.below BN.out,own_later J2.out BN.out⟩,J3.out.trans (KeepB.below J1.out.ok BN.out)⟩,J4.out.trans (keepsFrom_below BN.out),below_on J5.out BN.out⟩ ⟨W'.heap.size,J1.out.fn.lt,Blk.new _ _ _,rfl⟩
   case body2=>
    rintro l2 pre' y a'' W' hl2 _ ⟨⟨⟨i1,i2⟩,i3⟩,i4,i5⟩ ⟨By,hBy,hY,rfl⟩ hlt2
    obtain⟨q1,q2,q3,q4,q5⟩:=HPP.out y
    have hfo:=Tr.okZ_fold (T:=T) (pre'.map fun k=>(Qp.getD k Zc.none).zn) O HOB.out (fun z hz=>by
     obtain⟨k,-,rfl⟩:=List.mem_map.1 hz
     obtain⟨-,t2,t3,-,-⟩:=HPP.out k
     exact⟨t2,t3⟩)
    obtain⟨Z,hZ⟩:∃Z,(pre'.map fun k=>(Qp.getD k Zc.none).zn).foldl (Tr.put T) O=Z:=⟨_,rfl⟩
    have hZn:((pre'++[y]).map fun k=>(Qp.getD k Zc.none).zn).foldl (Tr.put T) O=Tr.put T Z (Qp.getD y Zc.none).zn:=by
     rw[List.map_append,List.foldl_append,hZ]
     rfl
    rw[hZ]at i1 hfo
    rw[List.length_map]at hfo
    obtain⟨FX2,fd2,e2,hF⟩:=OneL.of_own i2
    injection e2 with e3 _ e4
    subst e3 e4
    obtain⟨v,LZ,u1,u2,u3⟩:=i1.after
    obtain⟨TX2,tc2,e5,hTL⟩:=OneL.of_own i1.row
    injection e5 with e6 _ e7
    subst e6 e7
    have hq5:=q5 W' (H5.out W' i5) hF
    have hLh:∀z∈LZ,0≤z.hi∧z.hi≤255:=fun z hz=>hfo.1 z.zn (by rw[←u3];exact List.mem_map.2 ⟨z,hz,rfl⟩)
    have hLl:LZ.length≤1000000:=by
     have e:=congrArg List.length u3
     rw[List.length_map]at e
     have:=hfo.2
     omega
    obtain⟨q,hq⟩:∃q,Qp.getD y Zc.none=q:=⟨_,rfl⟩
    rw[hq]at q1 q2 q3 q4 hq5 hY hZn ⊢
    have PUT:=tput_any (g+1) g w.heap.size v LZ TX q.X tc q.c T q.l q.lo q.hi W' u1 u2 i1.then_ hTL hq5 q4 i5.size (by have:=HB5.out;omega) ⟨q1,q2⟩ hLh hLl
    rw[u3]at PUT
    have HPUT:=Hd PUT
    have cF:W'.cell? ⟨g+1+1,0,none⟩=some (.func (.func 126) #[] #[.pointer (some ⟨g+1,0,none⟩),.pointer (some ⟨g,0,none⟩)]):=i1.fn.cell (i:=0) rfl
    have y0:=hY.cell (i:=0) rfl
    have y1:=hY.cell (i:=1) rfl
    have J1:=Hd i1
    have J2:=Hd i2
    have J3:=Hd i3
    have J4:=Hd i4
    have J5:=Hd i5
    have HZN2:=Hd hZn
    have HU1:=Hd u1
    have HU2:=Hd u2
    clear PUT i1 i2 i3 i4 i5 u1 u2 u3 hTL hq5 hF hfo hZ hZn hLh hLl hq hY JB hF6 KB6 SEQ2 hrl6 hrl
    gi_wp2_with fail
    refine⟨trivial,(CallsIn.inRound l2 (CallsIn.inRound l' (callsIn_wide.2 HPUT.out))).mono ?_⟩
    rintro e W3 hp3
    have JN:=Hd (J1.out.put HB5.out hp3)
    obtain⟨u,v',L',rfl,-,-,-,kb,ko,bl⟩:=hp3
    have FIN:=Hd (show KeepsFrom w6.heap.size W' W3∧KeepB (g+1) W' W3∧((TkS w.heap.size w.heap.size g #[.slice S n.s.length cs,.slice E n.e.length ce,.slice Bl n.b.length cl,.slice V n.ws.length cv] TX tc T (((pre'++[y]).map fun k=>(Qp.getD k Zc.none).zn).foldl (Tr.put T) O) W3∧W3.ownsRow w.heap.size 46 2 (.slice FX fu.length fd) fu.length (stCells fu))∧KeepB (g+1) W W3)∧(KeepsFrom w7.heap.size W W3∧Below w.heap.size w W3) from
     ⟨ko.from _,kb,⟨⟨by rw[HZN2.out];exact JN.out,own_keepB J2.out HU1.out HU2.out kb⟩,J3.out.trans kb⟩,J4.out.trans (ko.from _),J5.out.trans bl⟩)
    clear kb ko bl
    gi_wp2
    exact FIN.out
   case done2=>
    rintro xs W' hxs ⟨⟨⟨i1,i2⟩,i3⟩,i4,i5⟩
    have hall:((List.range Qp.length).map fun k=>(Qp.getD k Zc.none).zn)=Qp.map Zc.zn:=by
     have:=congrArg (List.map Zc.zn) (range_all Qp)
     rw[List.map_map]at this
     exact this
    rw[hxs,hall,HPZ.out]at i1
    have FIN:=Hd (show KeepsFrom w7.heap.size W W'∧KeepB (g+1) W W'∧TkS w.heap.size w.heap.size g #[.slice S n.s.length cs,.slice E n.e.length ce,.slice Bl n.b.length cl,.slice V n.ws.length cv] TX tc T (((pre++[x]).map fun k=>(P.getD k Zc.none).zn).foldl (Tr.puts T n) []) W'∧Below w.heap.size w W' from⟨i4,i3,by rw[HON.out];exact i1,i5⟩)
    clear i1 i2 i3 i4 i5 hxs hall JB hF6 KB6 SEQ2 hrl6 hrl
    gi_wp2
    exact FIN.out
   case stop2=>
    rintro cd pre' W' _ h
    exact h.elim
 case done=>
  rintro DD ys W hDD hys ⟨i1,i3⟩ hK
  have hall:((List.range P.length).map fun k=>(P.getD k Zc.none).zn)=P.map Zc.zn:=by
   have:=congrArg (List.map Zc.zn) (range_all P)
   rw[List.map_map]at this
   exact this
  have hzn2:P.map Zc.zn=Tr.all (L.map Zc.zn) kn:=HZN.out
  rw[hys,hall,hzn2]at i1
  have hR:=HTR.out
  obtain⟨v,aL,u1,u2,u3⟩:=i1.after
  obtain⟨AV,ac,rfl,-,-,-,-⟩:=own_form u2.row
  have HAC:=Hd u1.cell
  have HTC:=Hd (show W.cell? ⟨g,0,none⟩=some (.slice TX T.length tc) from i1.then_.cell (i:=0) rfl)
  have HU2:=Hd u2
  have HU3:=Hd u3
  have HRW:=Hd i1.row
  have HK2:=Hd hK
  have I3:=Hd i3
  have hDl:=(Array.getElem?_eq_some_iff.1 hK).1
  clear hall hzn2 hR i1 i3 u1 u2 u3 hys hK SEQ hok TS7
  gi_wp2_with fail
  refine wpIn_wide.2 ?_
  refine wp_region_all (by kernel_rfl) (by kernel_rfl)
   (fun v=>{ tmps:=#[.slice A L.length c,.slice B kn.length cb,.agg #[.slice S n.s.length cs,.slice E n.e.length ce,.slice Bl n.b.length cl,.slice V n.ws.length cv],undef,undef,.pointer (some ⟨w.heap.size,0,none⟩),v 2,v 3,v 4,.pointer (some ⟨g,0,none⟩),.pointer (some ⟨g+1,0,none⟩),.pointer (some ⟨g+1+1,0,none⟩),undef,undef,undef,undef,undef,.bool false,.slice A L.length c,.bool true,.bool false,.bool false,.slice B kn.length cb,.bool true,.bool false,.bool false,.bool false,.agg #[.slice S n.s.length cs,.slice E n.e.length ce,.slice Bl n.b.length cl,.slice V n.ws.length cv],.bool true,.bool false,.bool false,.bool false,.agg #[.slice S n.s.length cs,.slice E n.e.length ce,.slice Bl n.b.length cl,.slice V n.ws.length cv],.slice B kn.length cb,.bool true,.bool false,.slice B kn.length cb,.pointer (some ⟨w.heap.size,1,none⟩),.slice E n.e.length ce,.slice (some ⟨w4.heap.size,0,none⟩) 2 2,.slice TX T.length tc,.func (.func 126) #[] #[.pointer (some ⟨g+1,0,none⟩),.pointer (some ⟨g,0,none⟩)],.slice A L.length c,.slice B kn.length cb,.agg #[.int .i64 0,.int .i64 255],.func (.func 163) #[] #[.pointer (some ⟨bw,0,none⟩),.pointer (some ⟨bz,0,none⟩),.pointer (some ⟨br,0,none⟩)],undef,undef,undef,undef,undef,undef,undef,undef,undef,undef,undef,undef,undef,undef,undef,undef,undef,undef,undef,v 0,v 1],defers:=[{ target :=.collected DD,args:=#[] }] }) (fun i=>match i with|0=>undef|1=>undef|2 =>.slice none 0 0|3 =>.slice none 0 0|4 =>.int .i64 0|_=>undef)
   (fun i x wx=>match i with
    |0=>x = .slice AV aL.length ac
    |1=>x = .slice TX T.length tc
    |2=>x = .slice AV aL.length ac
    |3=>x = .slice TX T.length tc
    |4=>x = .int .i64 0
    |_=>True)
   (fun w1 w2=>Below w1.heap.size w1 w2) (fun h1 h2=>below_on h1 h2) (fun _=>Below.refl _ _) (Below.drew (Below.refl _ _)) ?stabE ?stepE ?doneE
  case stabE=>
   rintro i x w1 w2 h hb
   match i,h with
   |0,h=>exact h
   |1,h=>exact h
   |2,h=>exact h
   |3,h=>exact h
   |4,h=>exact h
   |i+5,_=>trivial
  case stepE=>
   intro i hi v w' hb hd
   match i,hi with
   |0,_=>
    refine wpOp_oneH rfl fun KK HKK =>?_
    clear hd
    have q0:=cell_later hb HAC.out
    go_wp2
    exact HKK.out _ _ ⟨_,(by simp[upd];done),Below.refl _ _,rfl⟩
   |1,_=>
    refine wpOp_oneH rfl fun KK HKK =>?_
    clear hd
    have q0:=cell_later hb HTC.out
    go_wp2
    exact HKK.out _ _ ⟨_,(by simp[upd];done),Below.refl _ _,rfl⟩
   |2,_=>
    have h0:v 0=_:=hdx hd 0 (by kernel_rfl)
    refine wpOp_oneH rfl fun KK HKK =>?_
    clear hd
    rw[h0]
    go_wp2
    exact HKK.out _ _ ⟨_,(by simp[upd,h0];done),Below.refl _ _,rfl⟩
   |3,_=>
    have h1:v 1=_:=hdx hd 1 (by kernel_rfl)
    refine wpOp_oneH rfl fun KK HKK =>?_
    clear hd
    rw[h1]
    go_wp2
    exact HKK.out _ _ ⟨_,(by simp[upd,h1];done),Below.refl _ _,rfl⟩
   |4,_=>
    refine wpOp_oneH rfl fun KK HKK =>?_
    clear hd
    go_wp2
    exact HKK.out _ _ ⟨_,(by simp[upd];done),Below.refl _ _,rfl⟩
   |k+5,hk=>exact absurd hk (by simp)
  case doneE=>
   intro v w5 hb hf
   have h0:v 0=_:=hf 0 (by decide)
   have h1:v 1=_:=hf 1 (by decide)
   have h2:v 2=_:=hf 2 (by decide)
   have h3:v 3=_:=hf 3 (by decide)
   have h4:v 4=_:=hf 4 (by decide)
   clear hf
   rw[h0,h1,h2,h3,h4]
   have hK5:=(hb.block DD hDl).trans HK2.out
   have hb9:=below_on I3.out hb
   have hO9:OwnZ (w5.putObj DD (.deferred none)) w.heap.size (.slice AV aL.length ac) aL:=⟨ownsRow_putObj (own_later HU2.out.row hb) _ hK5 rfl,fun z hz=>ownsRow_putObj (own_later (HU2.out.each z hz) hb) _ hK5 rfl⟩
   have hlz:LoZ w.heap.size AV aL:=⟨Lo.of_own hO9.row,fun z hz=>Lo.of_own (hO9.each z hz)⟩
   have hlk:Lo w.heap.size TX:=Lo.of_own HRW.out
   obtain⟨A9,c9,e9,hZ9⟩:=hO9.one
   injection e9 with e1 _ e3
   subst e1 e3
   obtain⟨T9,d9,e9,hT9⟩:=OneL.of_own (ownsRow_putObj (own_later HRW.out hb) (.deferred none) hK5 rfl)
   injection e9 with e1 _ e3
   subst e1 e3
   have FIN:=Hd (show GivesTN (Tr.tkR (L.map Zc.zn) kn n) w (.returned (.tuple #[.slice AV aL.length ac,.slice TX T.length tc,.int .i64 0])) (w5.putObj DD (.deferred none)) from by
    rw[HTR.out]
    exact⟨AV,ac,aL,TX,tc,rfl,hZ9,HU3.out,hT9,hlz,hlk,hb9.trans (belowK_b (w:=w) (Nat.le_refl _) w5 DD _ (.deferred none) (by omega) hK5 rfl rfl)⟩)
   have HK5:=Hd hK5
   clear hb hb9 hO9 hZ9 hT9 hlz hlk hK5 h0 h1 h2 h3 h4 hDl
   gi_wp2
   refine⟨by simp,.inl ⟨_,_,rfl,run_takeDeferred HK5.out,?_⟩⟩
   exact⟨_,by simp[results,Tryz.f66,go_sem],FIN.out⟩
 case stop=>
  rintro DD cd pre W _ _ h _
  exact h.elim
end Go.Proofs.YtjlfehpockfkdaaGreat
namespace Go.Proofs.YtjlfehpockfkdaaGreat
open Fb
set_option maxRecDepth 100000 in
theorem pls_zero:Tryz.zeroCells169=Sf.arr (fun _=>Nt.zeroW):=by rfl
@[simp] theorem pls_zeroV(w:World):(zeroValue 169).run Tryz.prog w = .ok (.agg Tryz.zeroCells169) w:=by kernel_rfl
@[simp] theorem pls_zero_size:Tryz.zeroCells169.size=1024:=by rw[pls_zero,Sf.arr_size]
@[simp] theorem pls_zero_ne:¬Tryz.zeroCells169=#[]:=fun h=>by have h2:=pls_zero_size;rw[h]at h2;cases h2
end Go.Proofs.YtjlfehpockfkdaaGreat
namespace Go.Proofs.YtjlfehpockfkdaaGreat
open Go.RowKit Fb
namespace Sf
def Rep(F:Nat→Wr)(m:Mp):Prop:=∀i,i<256→F i=(m i).getD Nt.zeroW
theorem rep_none:Rep (fun _=>Nt.zeroW) none_:=fun _ _=>rfl
theorem Rep.put{F:Nat→Wr}{m:Mp}(h:Rep F m){x:Wr}(hx:right x=true):Rep (dput F x) (put1 m x):=fun i hi=>by
 have hr:=(right_iff x).1 hx
 have h1:1≤x.1:=by have:=hr.2.2;unfold St.rgt at this;simp at this;omega
 obtain⟨o,ho⟩:∃o:Nat,x.2.2.1=(o:Int):=⟨x.2.2.1.toNat,by omega⟩
 have ho2:x.2.2.1.toNat=o:=by omega
 have hFi:=h i hi
 have hd:dput F x i=if 0<St.cmpS x.1 x.2.1 (F o).1 (F o).2.1 then (if i=o then x else F i) else F i:=by
  unfold dput
  rw[ho2]
  split<;>rfl
 rw[hd]
 by_cases e:i=o
 ·subst e
  have hp:put1 m x i=some (newer x (m i)):=by unfold put1;rw[if_pos ho.symm]
  rw[hp,if_pos rfl]
  show _=newer x (m i)
  rw[hFi]
  cases hm:m i with
  |none=>
   have hc:St.cmpS x.1 x.2.1 0 0=1:=St.cmpS_gt (by omega)
   show(if 0<St.cmpS x.1 x.2.1 0 0 then x else Nt.zeroW)=x
   rw[if_pos (by omega)]
  |some y=>
   have hn:=St.cmpS_neg x.1 x.2.1 y.1 y.2.1
   show(if 0<St.cmpS x.1 x.2.1 y.1 y.2.1 then x else y)=if St.cmpS y.1 y.2.1 x.1 x.2.1<0 then x else y
   by_cases hc:0<St.cmpS x.1 x.2.1 y.1 y.2.1
   ·rw[if_pos hc,if_pos (by omega)]
   ·rw[if_neg hc,if_neg (by omega)]
 ·have hp:put1 m x i=m i:=by unfold put1;rw[if_neg (by omega)]
  rw[hp,if_neg e]
  split<;>exact hFi
theorem Rep.puts{F:Nat→Wr}{m:Mp}(h:Rep F m):∀(l:List Wr),(∀x∈l,right x=true)→Rep (dputs F l) (Sf.puts m l)
 | [],_=>h
 |x::r,hr=>Rep.puts (F:=dput F x) (m:=put1 m x) (h.put (hr x List.mem_cons_self)) r fun y hy=>hr y (List.mem_cons_of_mem _ hy)
theorem put_set(x:Wr)(f:Mp)(h:∀j:Nat,(j:Int)=x.2.2.1→f j=none):put1 f x=set1 f x:=by
 funext j
 unfold put1 set1
 by_cases e:(j:Int)=x.2.2.1
 ·rw[if_pos e,if_pos e,h j e];rfl
 ·rw[if_neg e,if_neg e]
theorem puts_sets:∀(r:List Wr) (f:Mp),r.Pairwise (fun x y=>x.2.2.1<y.2.2.1)→(∀x∈r,∀j:Nat,(j:Int)=x.2.2.1→f j=none)→Sf.puts f r=r.foldl set1 f
 | [],_,_,_=>rfl
 |x::r,f,hp,hf=>by
  have hp:=List.pairwise_cons.1 hp
  show Sf.puts (put1 f x) r=r.foldl set1 (set1 f x)
  rw[put_set x f (hf x List.mem_cons_self)]
  refine puts_sets r (set1 f x) hp.2 fun y hy j hj =>?_
  unfold set1
  have:=hp.1 y hy
  rw[if_neg (by omega)]
  exact hf y (List.mem_cons_of_mem _ hy) j hj
theorem puts_of{l:List Wr}(h:fmd l=true):Sf.puts none_ l=of l:=puts_sets l none_ ((fmd_list l).1 h).2 fun _ _ _ _=>rfl
theorem flt_rep{F:Nat→Wr}{m:Mp}(h:Rep F m)(hk:Keyed m):flt (lst F)=outTo m 256:=by
 unfold flt lst outTo
 have:∀L:List Nat,(∀i∈L,i<256)→(L.map F).filter (fun x=>St.rgt x.1 x.2.1)=L.filterMap m:=by
  intro L
  induction L with
  |nil=>intro _;rfl
  |cons i r ih=>
   intro hi
   have ih:=ih fun j hj=>hi j (List.mem_cons_of_mem _ hj)
   have hF:=h i (hi i List.mem_cons_self)
   rw[List.map_cons,List.filter_cons,List.filterMap_cons,ih]
   cases hm:m i with
   |none=>
    rw[hm]at hF
    have hF:F i=Nt.zeroW:=hF
    rw[hF,if_neg (by show ¬St.rgt 0 0=true;decide)]
   |some x=>
    rw[hm]at hF
    have hF:F i=x:=hF
    have:=((right_iff x).1 (hk i x hm).2.2).2.2
    rw[hF,if_pos this]
 exact this _ fun i hi=>List.mem_range.1 hi
theorem put_two{l r:List Wr}(hl:fmd l=true)(hr:r.all right=true):flt (lst (dputs (dputs (fun _=>Nt.zeroW) l) r))=outTo (Sf.puts (of l) r) 256:=by
 have h1:=rep_none.puts l ((fmd_list l).1 hl).1
 rw[puts_of hl]at h1
 exact flt_rep (h1.puts r (all_right hr)) ((keyed_of hl).puts r (all_right hr))
end Sf
set_option maxRecDepth 100000 in
set_option maxHeartbeats 3200000 in
theorem sdputsN_any(A B:Option Addr)(c d:Nat)(l r:List Wr)(w:World)(h:OneW w A c l)(h2:OneW w B d r) :
  Calls Tryz.prog 67 #[.slice A l.length c,.slice B r.length d] w (AnsWN (Sf.putR l r).1 (Sf.putR l r).2 w):=by
 have N1:=Hd (sdformed_any A c l w h)
 have N2:=Hd (fun (w':World) (b:Below w.heap.size w w')=>allRight_any B d r w' (h2.later b))
 have H1:=Hd h
 have H2:=Hd h2
 have hR:Sf.putR l r=if Sf.fmd l=true then (if r.all Sf.right=true then (Sf.outTo (Sf.puts (Sf.of l) r) 256,0) else ([],1)) else ([],1):=rfl
 rw[hR]
 clear h h2 hR
 cases hf:Sf.fmd l with
 |false=>
  rw[hf]at N1
  rw[if_neg Bool.false_ne_true]
  clear hf
  go_enter Tryz.func67,Tryz.ntmps67
  go_wp2_with fail
  refine N1.out.mono ?_
  rintro e w1 ⟨rfl,b1⟩
  have BB:=Hd b1
  clear N1 N2 b1
  go_wp2
  go_ret2
  exact⟨none,0,rfl,OneW.nil,Lo.none,BB.out⟩
 |true=>
 rw[if_pos rfl]
 cases ha:r.all Sf.right with
 |false=>
  rw[hf]at N1
  rw[ha]at N2
  rw[if_neg Bool.false_ne_true]
  clear hf ha
  go_enter Tryz.func67,Tryz.ntmps67
  go_wp2_with fail
  refine N1.out.mono ?_
  rintro e w1 ⟨rfl,b1⟩
  go_wp2_with fail
  refine(N2.out w1 b1).mono ?_
  rintro e w2 ⟨rfl,b2⟩
  have BB:=Hd (below_on b1 b2)
  clear N1 N2 b1 b2
  go_wp2
  go_ret2
  exact⟨none,0,rfl,OneW.nil,Lo.none,BB.out⟩
 |true=>
  rw[if_pos rfl]
  have HT:=Hd (Sf.put_two hf ha)
  have HRL:=Hd ((Sf.fmd_list l).1 hf).1
  have HRR:=Hd (Sf.all_right ha)
  rw[hf]at N1
  rw[ha]at N2
  obtain⟨M,hM⟩:∃M,Sf.outTo (Sf.puts (Sf.of l) r) 256=M:=⟨_,rfl⟩
  rw[hM]at HT ⊢
  clear hf ha hM
  go_enter Tryz.func67,Tryz.ntmps67
  go_wp2_with fail
  refine N1.out.mono ?_
  rintro e w1 ⟨rfl,b1⟩
  go_wp2_with fail
  refine(N2.out w1 b1).mono ?_
  rintro e w2 ⟨rfl,b2⟩
  have bb2:=below_on b1 b2
  have bz:=below_new (Below.refl w2.heap.size w2) (.cells Tryz.zeroCells169 169)
  have BZ:=Blk.new w2 169 Tryz.zeroCells169
  obtain⟨W,hW⟩:∃W,w2.alloc (.cells Tryz.zeroCells169 169)=W:=⟨_,rfl⟩
  rw[hW]at bz BZ
  rw[pls_zero]at BZ
  have N3:=Hd (sdput_any w2 w2.heap.size _ A c l W (Nat.le_refl _) bz (H1.out.later bb2) HRL.out BZ)
  have HW:=Hd hW
  have BB2:=Hd bb2
  have L2:=Hd (H2.out.later bb2)
  clear N1 N2 b1 b2 bb2 bz BZ hW HRL
  go_wp2_with fail
  rw[HW.out]
  refine N3.out.mono ?_
  rintro e w3 ⟨⟨v3,rfl⟩,P3,b3⟩
  have N4:=Hd (sdput_any w2 w2.heap.size _ B d r w3 (Nat.le_refl _) b3 L2.out HRR.out P3)
  clear P3 b3 N3 HW L2 HRR
  go_wp2_with fail
  refine N4.out.mono ?_
  rintro e w4 ⟨⟨v4,rfl⟩,P4,b4⟩
  have N5:=Hd (sdshelf_any w2.heap.size _ w4 P4)
  rw[HT.out]at N5
  have B4:=Hd (Below.trans BB2.out (b4.mono BB2.out.size))
  clear P4 b4 N4 HT BB2
  go_wp2_with fail
  refine N5.out.mono ?_
  rintro e w5 ⟨v,rfl,ho,b5⟩
  have hlo:=own_base ho (show w.heap.size≤w4.heap.size from B4.out.size)
  obtain⟨VA,vc,rfl,hO⟩:=OneW.of_own ho
  have HLO:=Hd (Lo.of_own hlo)
  have HO:=Hd hO
  have B5:=Hd (below_on B4.out b5)
  clear ho hlo hO b5 N5 B4
  go_wp2
  go_ret2
  exact⟨VA,vc,rfl,HO.out,HLO.out,B5.out⟩
theorem Vd.ws_right{n:Note}(h:Nt.fmd n=true):∀y∈n.ws,Sf.right y=true:=fun y hy=>by
 have hw:Nt.wsOk n=true:=by
  unfold Nt.fmd at h
  simp only[Bool.and_eq_true]at h
  exact h.2.2.2.2
 unfold Nt.wsOk at hw
 obtain⟨j,hj,rfl⟩:=List.mem_iff_getElem.1 hy
 have h3:=of_decide_eq_true hw ⟨j,hj⟩
 have hg:n.ws.getD j Nt.zeroW=n.ws[j]:=by rw[List.getD_eq_getElem?_getD,List.getElem?_eq_getElem hj];rfl
 have h4:=h3.2.1
 have h5:=h3.1
 unfold Nt.obj at h4
 dsimp only at h4 h5
 rw[hg]at h4 h5
 unfold hasOf at h5
 exact(Sf.right_iff _).2 ⟨h4.1,h4.2,(Bool.and_eq_true_iff.1 h5).1⟩
theorem Vd.take_parts{v:Vw}{n:Note}(hf:Vw.fmd v=true)(h0:(Tr.tkR v.z v.k n).2.2=0) :
  Nt.fmd n=true∧Sf.putR v.h (n.ws.filter (Vd.rd (Tr.tkR v.z v.k n).1 (Tr.tkR v.z v.k n).2.1))=(Vw.heldR v (Tr.tkR v.z v.k n).1 (Tr.tkR v.z v.k n).2.1 n,0)∧Sf.fmd (Vw.heldR v (Tr.tkR v.z v.k n).1 (Tr.tkR v.z v.k n).2.1 n)=true:=by
 have hn:=Vw.tk_ok h0
 have ht:Vw.takeR v n=(⟨(Tr.tkR v.z v.k n).2.1,(Tr.tkR v.z v.k n).1,Vw.heldR v (Tr.tkR v.z v.k n).1 (Tr.tkR v.z v.k n).2.1 n,
   v.b.filter (Vw.wants ⟨(Tr.tkR v.z v.k n).2.1,(Tr.tkR v.z v.k n).1,Vw.heldR v (Tr.tkR v.z v.k n).1 (Tr.tkR v.z v.k n).2.1 n,[],v.r⟩),v.r⟩,0):=by
  unfold Vw.takeR;rw[if_pos hf,if_pos h0]
 have hok:=Vw.take_ok (v:=v) (n:=n) (by rw[ht])
 rw[ht]at hok
 have hk:Ve.fmd (Tr.tkR v.z v.k n).2.1=true:=hok.k
 have hz:Tr.fmd (Tr.tkR v.z v.k n).1=true:=hok.z
 have hw:n.ws.filter (Vd.rd (Tr.tkR v.z v.k n).1 (Tr.tkR v.z v.k n).2.1)=n.ws.filter (Vw.has ⟨(Tr.tkR v.z v.k n).2.1,(Tr.tkR v.z v.k n).1,[],[],v.r⟩):=
  List.filter_congr fun y hy=>(Vd.rd_has (v:=⟨(Tr.tkR v.z v.k n).2.1,(Tr.tkR v.z v.k n).1,[],[],v.r⟩) hk hz (Vd.ws_right hn y hy)).symm
 have hv:=(Vw.ok_iff v).1 hf
 refine⟨hn,?_,hok.h⟩
 rw[hw]
 have hp:=Sf.putR_yes (l:=v.h) (r:=n.ws.filter (Vw.has ⟨(Tr.tkR v.z v.k n).2.1,(Tr.tkR v.z v.k n).1,[],[],v.r⟩)) hv.h (List.all_eq_true.2 fun y hy=>Vd.ws_right hn y (List.mem_filter.1 hy).1)
 unfold Vw.heldR
 rw[hp]
set_option maxRecDepth 100000 in
set_option maxHeartbeats 6400000 in
theorem vdtakeN_any(q:Vl)(S E P U:Option Addr)(cs ce cp cu:Nat)(n:Note)(w:World)(h:VwAt w q)(hn:NoteAt w S E P U cs ce cp cu n) :
  Calls Tryz.prog 22 #[.agg (vwCells q),.agg (noteCells S E P U cs ce cp cu n)] w (GivesVwN (Vw.takeR q.vw n).1 (Vw.takeR q.vw n).2 w):=by
 have c1:=fun wx (hb:Below w.heap.size w wx)=>vdformed_any q wx (h.later hb)
 have c2:=fun wx (hb:Below w.heap.size w wx)=>ttakeN_any q.Z q.K S E P U q.cz q.ck cs ce cp cu q.z q.k n wx (h.later hb).z (h.later hb).k (hn.later hb)
 have hR:Vw.takeR q.vw n=if Vw.fmd q.vw=true then
  (if (Tr.tkR (q.z.map Zc.zn) q.k n).2.2=0 then
    (⟨(Tr.tkR (q.z.map Zc.zn) q.k n).2.1,(Tr.tkR (q.z.map Zc.zn) q.k n).1,Vw.heldR q.vw (Tr.tkR (q.z.map Zc.zn) q.k n).1 (Tr.tkR (q.z.map Zc.zn) q.k n).2.1 n,
     (q.b.map Bc.b).filter (Vw.wants ⟨(Tr.tkR (q.z.map Zc.zn) q.k n).2.1,(Tr.tkR (q.z.map Zc.zn) q.k n).1,Vw.heldR q.vw (Tr.tkR (q.z.map Zc.zn) q.k n).1 (Tr.tkR (q.z.map Zc.zn) q.k n).2.1 n,[],q.r⟩),q.r⟩,0)
   else (Vw.zero,(Tr.tkR (q.z.map Zc.zn) q.k n).2.2))
  else (Vw.zero,1):=rfl
 rw[hR]
 clear hR
 cases hf:Vw.fmd q.vw with
 |false=>
  rw[if_neg Bool.false_ne_true]
  rw[hf]at c1
  clear c2 h hn hf
  obtain⟨K,ck,kn,Z,cz,zs,H,ch,hs,B,cb,bs,room⟩:=q
  unfold vwCells noteCells at *
  dsimp only at *
  have C1:=Hd c1
  clear c1
  have hb0:=below_new (below_new (below_new (Below.refl w.heap.size w) (.cells #[.slice K kn.length ck,.slice Z zs.length cz,.slice H hs.length ch,.slice B bs.length cb,.int .i64 room] 27)) (.cells #[.slice S n.s.length cs,.slice E n.e.length ce,.slice P n.b.length cp,.slice U n.ws.length cu] 40)) (.cells #[.slice none 0 0,.slice none 0 0,.slice none 0 0,.slice none 0 0,.int .i64 0] 27)
  have hV:=((Blk.new w 27 #[.slice K kn.length ck,.slice Z zs.length cz,.slice H hs.length ch,.slice B bs.length cb,.int .i64 room]).alloc (.cells #[.slice S n.s.length cs,.slice E n.e.length ce,.slice P n.b.length cp,.slice U n.ws.length cu] 40)).alloc (.cells #[.slice none 0 0,.slice none 0 0,.slice none 0 0,.slice none 0 0,.int .i64 0] 27)
  have hN:=(Blk.new (w.alloc (.cells #[.slice K kn.length ck,.slice Z zs.length cz,.slice H hs.length ch,.slice B bs.length cb,.int .i64 room] 27)) 40 #[.slice S n.s.length cs,.slice E n.e.length ce,.slice P n.b.length cp,.slice U n.ws.length cu]).alloc (.cells #[.slice none 0 0,.slice none 0 0,.slice none 0 0,.slice none 0 0,.int .i64 0] 27)
  simp only[World.size_alloc]at hN
  have hR:=Blk.new ((w.alloc (.cells #[.slice K kn.length ck,.slice Z zs.length cz,.slice H hs.length ch,.slice B bs.length cb,.int .i64 room] 27)).alloc (.cells #[.slice S n.s.length cs,.slice E n.e.length ce,.slice P n.b.length cp,.slice U n.ws.length cu] 40)) 27 #[.slice none 0 0,.slice none 0 0,.slice none 0 0,.slice none 0 0,.int .i64 0]
  simp only[World.size_alloc]at hR
  obtain⟨W,hW⟩:∃W,((w.alloc (.cells #[.slice K kn.length ck,.slice Z zs.length cz,.slice H hs.length ch,.slice B bs.length cb,.int .i64 room] 27)).alloc (.cells #[.slice S n.s.length cs,.slice E n.e.length ce,.slice P n.b.length cp,.slice U n.ws.length cu] 40)).alloc (.cells #[.slice none 0 0,.slice none 0 0,.slice none 0 0,.slice none 0 0,.int .i64 0] 27)=W:=⟨_,rfl⟩
  rw[hW]at hb0 hV hN hR
  have HW:=Hd hW
  obtain⟨g,hgg⟩:∃g,w.heap.size=g:=⟨_,rfl⟩
  rw[hgg]at hV hN hR
  have HV:=Hd (show Blk W (g) 27 #[.slice K kn.length ck,.slice Z zs.length cz,.slice H hs.length ch,.slice B bs.length cb,.int .i64 room] from hV)
  have HN:=Hd (show Blk W (g+1) 40 #[.slice S n.s.length cs,.slice E n.e.length ce,.slice P n.b.length cp,.slice U n.ws.length cu] from hN)
  have HR:=Hd (show Blk W (g+2) 27 #[.slice none 0 0,.slice none 0 0,.slice none 0 0,.slice none 0 0,.int .i64 0] from hR)
  have HB0:=Hd hb0
  clear hW hb0 hV hN hR
  go_enter Tryz.func22,Tryz.ntmps22
  go_upto_region 1 with (fail)
  rw[HW.out]
  clear HW
  have V_0:=HV.out.cell (i:=0) rfl
  have V_1:=HV.out.cell (i:=1) rfl
  have V_2:=HV.out.cell (i:=2) rfl
  have V_3:=HV.out.cell (i:=3) rfl
  have V_4:=HV.out.cell (i:=4) rfl
  go_wp2_with fail
  refine(C1.out _ HB0.out).mono ?_
  rintro e w1 ⟨rfl,b1⟩
  clear V_0 V_1 V_2 V_3 V_4
  replace HV:=Hd (HV.out.later b1)
  replace HN:=Hd (HN.out.later b1)
  replace HR:=Hd (HR.out.later b1)
  have HB1:=Hd (below_on HB0.out b1)
  clear HB0
  clear b1 C1
  have R_0:=HR.out.cell (i:=0) rfl
  have R_1:=HR.out.cell (i:=1) rfl
  have R_2:=HR.out.cell (i:=2) rfl
  have R_3:=HR.out.cell (i:=3) rfl
  have R_4:=HR.out.cell (i:=4) rfl
  have R_f0:=HR.out.free 0
  have R_f1:=HR.out.free 1
  have R_f2:=HR.out.free 2
  have R_f3:=HR.out.free 3
  have R_f4:=HR.out.free 4
  have hh:w.heap.size≤g+2:=by omega
  have HP:=Hd (((((HR.out.put 0 (.slice none 0 0)).put 1 (.slice none 0 0)).put 2 (.slice none 0 0)).put 3 (.slice none 0 0)).put 4 (.int .i64 0))
  have HQ:=Hd (((((HB1.out.setCell (p:=⟨g+2,0,none⟩) hh (.slice none 0 0)).setCell (p:=⟨g+2,1,none⟩) hh (.slice none 0 0)).setCell (p:=⟨g+2,2,none⟩) hh (.slice none 0 0)).setCell (p:=⟨g+2,3,none⟩) hh (.slice none 0 0)).setCell (p:=⟨g+2,4,none⟩) hh (.int .i64 0))
  clear hh
  go_wp2
  exact bodyPost_ret (results_cell_tmp (p:=4) (t1:=5) (ty:=27) rfl _ _ (g+2) 27 #[.slice none 0 0,.slice none 0 0,.slice none 0 0,.slice none 0 0,.int .i64 0] _ rfl HP.out Tryz.underlying27 rfl infoVw) rfl ⟨Vl.none,rfl,rfl,VwAt.none _,VwLo.none,HQ.out⟩
 |true=>
 rw[if_pos rfl]
 rw[hf]at c1
 by_cases h0:(Tr.tkR (q.z.map Zc.zn) q.k n).2.2=0
 ·rw[if_pos h0]
  obtain⟨hnf,hput,hhd⟩:=Vd.take_parts (v:=q.vw) (n:=n) hf h0
  have hwl:=Vw.ws_len hnf
  rw[show q.vw.z=q.z.map Zc.zn from rfl,show q.vw.k=q.k from rfl,show q.vw.h=q.h from rfl]at hput
  rw[show q.vw.z=q.z.map Zc.zn from rfl,show q.vw.k=q.k from rfl]at hhd
  obtain⟨⟨zr,kr,te⟩,htk⟩:∃t,Tr.tkR (q.z.map Zc.zn) q.k n=t:=⟨_,rfl⟩
  rw[htk]at c2 hput hhd h0 ⊢
  have h0:te=0:=h0
  subst h0
  dsimp only at c2 hput hhd ⊢
  obtain⟨hd,hhq⟩:∃hd,Vw.heldR q.vw zr kr n=hd:=⟨_,rfl⟩
  rw[hhq]at hput hhd ⊢
  obtain⟨ws,hws⟩:∃ws,n.ws.filter (Vd.rd zr kr)=ws:=⟨_,rfl⟩
  rw[hws]at hput
  have c3:=fun A c (L:List Zc) B cb (hz:L.map Zc.zn=zr) wx (hb:Below w.heap.size w wx) (hO:OneZ wx A c L) (hB:OneL wx B cb kr)=>(by
    have hq:=vdreached_any U A B cu c cb n.ws L kr wx (hn.later hb).hv hO hB hwl
    rw[hz,hws]at hq
    exact hq:Calls Tryz.prog 68 #[.slice U n.ws.length cu,.slice A L.length c,.slice B kr.length cb] wx (AnsW ws wx))
  have c4:=fun A c wx (hb:Below w.heap.size w wx) (hO:OneW wx A c ws)=>(by
    have hq:=sdputsN_any q.H A q.ch c q.h ws wx (h.later hb).h hO
    rw[hput]at hq
    exact hq:Calls Tryz.prog 67 #[.slice q.H q.h.length q.ch,.slice A ws.length c] wx (AnsWN hd 0 wx))
  obtain⟨p,hp⟩:∃p,Vw.wants ⟨kr,zr,hd,[],q.r⟩=p:=⟨_,rfl⟩
  have hwt:∀x,Wi.bright x=true→decide (Vd.val hd x.o.toNat=(x.c,x.n))=p x:=fun x hx=>by rw[←hp];exact Vd.has_wants (v:=⟨kr,zr,hd,[],q.r⟩) hhd hx
  have hbf:=Vw.fmd_b hf
  have c5:=fun A c wx (hb:Below w.heap.size w wx) (hO:OneW wx A c hd)=>vdstayingN_any q.B A q.cb c q.b hd p wx (h.later hb).b hO hhd (Vd.fmd_bright hbf) (fmd_fits hbf) hwt
  rw[hp]
  obtain⟨BF,hBF⟩:∃BF,(q.b.map Bc.b).filter p=BF:=⟨_,rfl⟩
  rw[hBF]at c5 ⊢
  clear hp hwt hBF hput hws hhq htk hhd hwl hnf h hn hbf hf
  obtain⟨K,ck,kn,Z,cz,zs,H,ch,hs,B,cb,bs,room⟩:=q
  unfold vwCells noteCells at *
  dsimp only at *
  have C1:=Hd c1
  have C2:=Hd c2
  have C3:=Hd c3
  have C4:=Hd c4
  have C5:=Hd c5
  clear c1 c2 c3 c4 c5
  have hb0:=below_new (below_new (below_new (Below.refl w.heap.size w) (.cells #[.slice K kn.length ck,.slice Z zs.length cz,.slice H hs.length ch,.slice B bs.length cb,.int .i64 room] 27)) (.cells #[.slice S n.s.length cs,.slice E n.e.length ce,.slice P n.b.length cp,.slice U n.ws.length cu] 40)) (.cells #[.slice none 0 0,.slice none 0 0,.slice none 0 0,.slice none 0 0,.int .i64 0] 27)
  have hV:=((Blk.new w 27 #[.slice K kn.length ck,.slice Z zs.length cz,.slice H hs.length ch,.slice B bs.length cb,.int .i64 room]).alloc (.cells #[.slice S n.s.length cs,.slice E n.e.length ce,.slice P n.b.length cp,.slice U n.ws.length cu] 40)).alloc (.cells #[.slice none 0 0,.slice none 0 0,.slice none 0 0,.slice none 0 0,.int .i64 0] 27)
  have hN:=(Blk.new (w.alloc (.cells #[.slice K kn.length ck,.slice Z zs.length cz,.slice H hs.length ch,.slice B bs.length cb,.int .i64 room] 27)) 40 #[.slice S n.s.length cs,.slice E n.e.length ce,.slice P n.b.length cp,.slice U n.ws.length cu]).alloc (.cells #[.slice none 0 0,.slice none 0 0,.slice none 0 0,.slice none 0 0,.int .i64 0] 27)
  simp only[World.size_alloc]at hN
  have hR:=Blk.new ((w.alloc (.cells #[.slice K kn.length ck,.slice Z zs.length cz,.slice H hs.length ch,.slice B bs.length cb,.int .i64 room] 27)).alloc (.cells #[.slice S n.s.length cs,.slice E n.e.length ce,.slice P n.b.length cp,.slice U n.ws.length cu] 40)) 27 #[.slice none 0 0,.slice none 0 0,.slice none 0 0,.slice none 0 0,.int .i64 0]
  simp only[World.size_alloc]at hR
  obtain⟨W,hW⟩:∃W,((w.alloc (.cells #[.slice K kn.length ck,.slice Z zs.length cz,.slice H hs.length ch,.slice B bs.length cb,.int .i64 room] 27)).alloc (.cells #[.slice S n.s.length cs,.slice E n.e.length ce,.slice P n.b.length cp,.slice U n.ws.length cu] 40)).alloc (.cells #[.slice none 0 0,.slice none 0 0,.slice none 0 0,.slice none 0 0,.int .i64 0] 27)=W:=⟨_,rfl⟩
  rw[hW]at hb0 hV hN hR
  have HW:=Hd hW
  obtain⟨g,hgg⟩:∃g,w.heap.size=g:=⟨_,rfl⟩
  rw[hgg]at hV hN hR
  have HV:=Hd (show Blk W (g) 27 #[.slice K kn.length ck,.slice Z zs.length cz,.slice H hs.length ch,.slice B bs.length cb,.int .i64 room] from hV)
  have HN:=Hd (show Blk W (g+1) 40 #[.slice S n.s.length cs,.slice E n.e.length ce,.slice P n.b.length cp,.slice U n.ws.length cu] from hN)
  have HR:=Hd (show Blk W (g+2) 27 #[.slice none 0 0,.slice none 0 0,.slice none 0 0,.slice none 0 0,.int .i64 0] from hR)
  have HB0:=Hd hb0
  clear hW hb0 hV hN hR
  go_enter Tryz.func22,Tryz.ntmps22
  go_upto_region 1 with (fail)
  rw[HW.out]
  clear HW
  have V_0:=HV.out.cell (i:=0) rfl
  have V_1:=HV.out.cell (i:=1) rfl
  have V_2:=HV.out.cell (i:=2) rfl
  have V_3:=HV.out.cell (i:=3) rfl
  have V_4:=HV.out.cell (i:=4) rfl
  go_wp2_with fail
  refine(C1.out _ HB0.out).mono ?_
  rintro e w1 ⟨rfl,b1⟩
  clear V_0 V_1 V_2 V_3 V_4
  replace HV:=Hd (HV.out.later b1)
  replace HN:=Hd (HN.out.later b1)
  replace HR:=Hd (HR.out.later b1)
  have HB1:=Hd (below_on HB0.out b1)
  clear HB0
  clear b1 C1
  have V_0:=HV.out.cell (i:=0) rfl
  have V_1:=HV.out.cell (i:=1) rfl
  have N_0:=HN.out.cell (i:=0) rfl
  have N_1:=HN.out.cell (i:=1) rfl
  have N_2:=HN.out.cell (i:=2) rfl
  have N_3:=HN.out.cell (i:=3) rfl
  have HLE:=Hd HB1.out.size
  go_wp2_with fail
  refine(C2.out _ HB1.out).mono ?_
  rintro e w2 ⟨A1,c1,L1,B1,cb1,rfl,hO1,hz1,hB1,hlz,hlk,b2⟩
  clear V_0 V_1 N_0 N_1 N_2 N_3
  replace HV:=Hd (HV.out.later b2)
  replace HN:=Hd (HN.out.later b2)
  replace HR:=Hd (HR.out.later b2)
  have HB2:=Hd (below_on HB1.out b2)
  clear HB1
  clear b2 C2
  dsimp only at hO1 hz1 hB1 hlz hlk ⊢
  have HZ1:=Hd hz1
  have XZ:=Hd hO1
  have XK:=Hd hB1
  have HLZ:=Hd (hlz.lower HLE.out)
  have HLK:=Hd (hlk.lower HLE.out)
  clear hO1 hz1 hB1 hlz hlk HLE
  go_upto_region 6 with (fail)
  have V_2:=HV.out.cell (i:=2) rfl
  have N_3:=HN.out.cell (i:=3) rfl
  refine wp_region_all (by kernel_rfl) (by kernel_rfl)
    (fun v=>{ tmps:=#[.agg #[.slice K kn.length ck,.slice Z zs.length cz,.slice H hs.length ch,.slice B bs.length cb,.int .i64 room],.agg #[.slice S n.s.length cs,.slice E n.e.length ce,.slice P n.b.length cp,.slice U n.ws.length cu],.pointer (some ⟨g,0,none⟩),.pointer (some ⟨g+1,0,none⟩),.pointer (some ⟨g+1+1,0,none⟩),.int .i64 0,.slice A1 L1.length c1,.slice B1 kr.length cb1,v 12,v 11,.agg #[.slice K kn.length ck,.slice Z zs.length cz,.slice H hs.length ch,.slice B bs.length cb,.int .i64 room],.bool true,.bool false,undef,.tuple #[.slice A1 L1.length c1,.slice B1 kr.length cb1,.int .i64 0],.pointer (some ⟨g,1,none⟩),.slice Z zs.length cz,.pointer (some ⟨g,0,none⟩),.slice K kn.length ck,.agg #[.slice S n.s.length cs,.slice E n.e.length ce,.slice P n.b.length cp,.slice U n.ws.length cu],.tuple #[.slice A1 L1.length c1,.slice B1 kr.length cb1,.int .i64 0],.slice A1 L1.length c1,.slice B1 kr.length cb1,.int .i64 0,.int .i64 0,.bool false,undef,undef,v 8,v 0,v 1,v 2,v 3,v 4,v 5,v 6,v 7,v 9,v 10,undef,undef,undef,undef,undef,undef,undef,undef,undef,undef,undef,undef,undef,undef],defers:=[] }) (fun i=>match i with|0=>undef|1=>undef|2=>undef|3=>undef|4=>undef|5=>undef|6=>undef|7=>undef|8=>undef|9=>undef|10=>undef|11=>undef|12 =>.int .i64 0|_=>undef)
    (fun i x wx=>match i with
     |0=>x = .pointer (some ⟨g,2,none⟩)
     |1=>x = .slice H hs.length ch
     |2=>x = .pointer (some ⟨g+1,3,none⟩)
     |3=>x = .slice U n.ws.length cu
     |4=>x = .slice A1 L1.length c1
     |5=>x = .slice B1 kr.length cb1
     |6=>∃A9 c9,x = .slice A9 ws.length c9∧OneW wx A9 c9 ws
     |7=>∃A9 c9,x = .tuple #[.slice A9 hd.length c9,.int .i64 0]∧OneW wx A9 c9 hd∧Lo w.heap.size A9
     |8=>∃Ax cx,x = .tuple #[.slice Ax hd.length cx,.int .i64 0]∧OneW wx Ax cx hd∧Lo w.heap.size Ax
     |9=>∃Ax cx,x = .slice Ax hd.length cx∧OneW wx Ax cx hd∧Lo w.heap.size Ax
     |10=>x = .int .i64 0
     |11=>∃Ax cx,x = .slice Ax hd.length cx∧OneW wx Ax cx hd∧Lo w.heap.size Ax
     |12=>x = .int .i64 0
     |_=>True)
    (fun w1 w2=>Below w1.heap.size w1 w2) (fun h1 h2=>below_on h1 h2) (fun _=>Below.refl _ _) (Below.drew (Below.refl _ _)) ?stabP ?stepP ?doneP
  case stabP=>
    rintro i x w1 w2 h hb
    match i,h with
    |0,h=>exact h
    |1,h=>exact h
    |2,h=>exact h
    |3,h=>exact h
    |4,h=>exact h
    |5,h=>exact h
    |6,h=>obtain⟨A9,c9,e9,h9⟩:=h;exact⟨A9,c9,e9,h9.later hb⟩
    |7,h=>obtain⟨A9,c9,e9,h9,l9⟩:=h;exact⟨A9,c9,e9,h9.later hb,l9⟩
    |8,h=>obtain⟨Ax,cx,ex,hx,lx⟩:=h;exact⟨Ax,cx,ex,hx.later hb,lx⟩
    |9,h=>obtain⟨Ax,cx,ex,hx,lx⟩:=h;exact⟨Ax,cx,ex,hx.later hb,lx⟩
    |10,h=>exact h
    |11,h=>obtain⟨Ax,cx,ex,hx,lx⟩:=h;exact⟨Ax,cx,ex,hx.later hb,lx⟩
    |12,h=>exact h
    |i+13,_=>trivial
  case stepP=>
    intro i hi v w' hb hd
    match i,hi with
    |0,_=>
     refine wpOp_oneH rfl fun KK HKK =>?_
     clear hd
     go_wp2
     exact HKK.out _ _ ⟨_,(by simp[upd];done),Below.refl _ _,rfl⟩
    |1,_=>
     have h0:v 0=_:=hdx hd 0 (by kernel_rfl)
     refine wpOp_oneH rfl fun KK HKK =>?_
     clear hd
     rw[h0]
     have q0:=cell_later hb V_2
     go_wp2
     exact HKK.out _ _ ⟨_,(by simp[upd,h0];done),Below.refl _ _,rfl⟩
    |2,_=>
     refine wpOp_oneH rfl fun KK HKK =>?_
     clear hd
     go_wp2
     exact HKK.out _ _ ⟨_,(by simp[upd];done),Below.refl _ _,rfl⟩
    |3,_=>
     have h2:v 2=_:=hdx hd 2 (by kernel_rfl)
     refine wpOp_oneH rfl fun KK HKK =>?_
     clear hd
     rw[h2]
     have q0:=cell_later hb N_3
     go_wp2
     exact HKK.out _ _ ⟨_,(by simp[upd,h2];done),Below.refl _ _,rfl⟩
    |4,_=>
     refine wpOp_oneH rfl fun KK HKK =>?_
     clear hd
     go_wp2
     exact HKK.out _ _ ⟨_,(by simp[upd];done),Below.refl _ _,rfl⟩
    |5,_=>
     refine wpOp_oneH rfl fun KK HKK =>?_
     clear hd
     go_wp2
     exact HKK.out _ _ ⟨_,(by simp[upd];done),Below.refl _ _,rfl⟩
    |6,_=>
     have h3:v 3=_:=hdx hd 3 (by kernel_rfl)
     have h4:v 4=_:=hdx hd 4 (by kernel_rfl)
     have h5:v 5=_:=hdx hd 5 (by kernel_rfl)
     refine wpOp_oneH rfl fun KK HKK =>?_
     clear hd
     rw[h3,h4,h5]
     go_wp2_with fail
     refine(C3.out A1 c1 L1 B1 cb1 HZ1.out _ (below_on HB2.out hb) (XZ.out.later hb) (XK.out.later hb)).mono ?_
     rintro e w'' ⟨A9,c9,rfl,hB,b⟩
     go_wp2
     exact HKK.out _ _ ⟨_,(by simp[upd,h3,h4,h5];done),b,A9,c9,rfl,hB⟩
    |7,_=>
     have h1:v 1=_:=hdx hd 1 (by kernel_rfl)
     obtain⟨A6,c6,h6,o6⟩:=hd 6 (List.elem_iff.1 (by kernel_rfl))
     refine wpOp_oneH rfl fun KK HKK =>?_
     clear hd
     rw[h1,h6]
     have NP:=Hd (C4.out A6 c6 w' (below_on HB2.out hb) o6)
     clear o6
     go_wp2_with fail
     refine NP.out.mono ?_
     rintro e w'' ⟨A9,c9,rfl,hB,hlo,b⟩
     have hlo:=hlo.lower (below_on HB2.out hb).size
     go_wp2
     exact HKK.out _ _ ⟨_,(by simp[upd,h1,h6];done),b,A9,c9,rfl,hB,hlo⟩
    |8,_=>
     obtain⟨A7,c7,h7,o7,l7⟩:=hd 7 (List.elem_iff.1 (by kernel_rfl))
     refine wpOp_oneH rfl fun KK HKK =>?_
     clear hd
     rw[h7]
     go_wp2
     exact HKK.out _ _ ⟨_,(by simp[upd,h7];done),Below.refl _ _,A7,c7,rfl,o7,l7⟩
    |9,_=>
     obtain⟨A8,c8,h8,o8,l8⟩:=hd 8 (List.elem_iff.1 (by kernel_rfl))
     refine wpOp_oneH rfl fun KK HKK =>?_
     clear hd
     rw[h8]
     go_wp2
     exact HKK.out _ _ ⟨_,(by simp[upd,h8];done),Below.refl _ _,A8,c8,rfl,o8,l8⟩
    |10,_=>
     obtain⟨A8,c8,h8,o8,l8⟩:=hd 8 (List.elem_iff.1 (by kernel_rfl))
     refine wpOp_oneH rfl fun KK HKK =>?_
     clear hd
     rw[h8]
     go_wp2
     exact HKK.out _ _ ⟨_,(by simp[upd,h8];done),Below.refl _ _,rfl⟩
    |11,_=>
     obtain⟨A9,c9,h9,o9,l9⟩:=hd 9 (List.elem_iff.1 (by kernel_rfl))
     refine wpOp_oneH rfl fun KK HKK =>?_
     clear hd
     rw[h9]
     go_wp2
     exact HKK.out _ _ ⟨_,(by simp[upd,h9];done),Below.refl _ _,A9,c9,rfl,o9,l9⟩
    |12,_=>
     have h10:v 10=_:=hdx hd 10 (by kernel_rfl)
     refine wpOp_oneH rfl fun KK HKK =>?_
     clear hd
     rw[h10]
     go_wp2
     exact HKK.out _ _ ⟨_,(by simp[upd,h10];done),Below.refl _ _,rfl⟩
    |k+13,hk=>exact absurd hk (by simp)
  case doneP=>
    intro v w5 hb hf
    have h0:v 0=_:=hf 0 (by decide)
    have h1:v 1=_:=hf 1 (by decide)
    have h2:v 2=_:=hf 2 (by decide)
    have h3:v 3=_:=hf 3 (by decide)
    have h4:v 4=_:=hf 4 (by decide)
    have h5:v 5=_:=hf 5 (by decide)
    obtain⟨A6,c6,h6,o6⟩:=hf 6 (by decide)
    obtain⟨A7,c7,h7,o7,l7⟩:=hf 7 (by decide)
    obtain⟨A8,c8,h8,o8,l8⟩:=hf 8 (by decide)
    obtain⟨A9,c9,h9,o9,l9⟩:=hf 9 (by decide)
    have h10:v 10=_:=hf 10 (by decide)
    obtain⟨A11,c11,h11,o11,l11⟩:=hf 11 (by decide)
    have h12:v 12=_:=hf 12 (by decide)
    clear hf
    rw[h0,h1,h2,h3,h4,h5,h6,h7,h8,h9,h10,h11,h12]
    clear V_2 N_3
    replace HV:=Hd (HV.out.later hb)
    replace HN:=Hd (HN.out.later hb)
    replace HR:=Hd (HR.out.later hb)
    have HB3:=Hd (below_on HB2.out hb)
    clear HB2
    replace XZ:=Hd (XZ.out.later hb)
    replace XK:=Hd (XK.out.later hb)
    clear hb
    have XD:=Hd o11
    have HLD:=Hd l11
    clear o6 o7 o8 o9 o11 l7 l8 l9 l11 C3 C4
    go_upto_region 9 with (fail)
    have V_3:=HV.out.cell (i:=3) rfl
    have V_4:=HV.out.cell (i:=4) rfl
    refine wp_region_facts 10 (by kernel_rfl) (by kernel_rfl)
     (fun v=>{ tmps:=#[.agg #[.slice K kn.length ck,.slice Z zs.length cz,.slice H hs.length ch,.slice B bs.length cb,.int .i64 room],.agg #[.slice S n.s.length cs,.slice E n.e.length ce,.slice P n.b.length cp,.slice U n.ws.length cu],.pointer (some ⟨g,0,none⟩),.pointer (some ⟨g+1,0,none⟩),.pointer (some ⟨g+1+1,0,none⟩),.int .i64 0,.slice A1 L1.length c1,.slice B1 kr.length cb1,.int .i64 0,.slice A11 hd.length c11,.agg #[.slice K kn.length ck,.slice Z zs.length cz,.slice H hs.length ch,.slice B bs.length cb,.int .i64 room],.bool true,.bool false,undef,.tuple #[.slice A1 L1.length c1,.slice B1 kr.length cb1,.int .i64 0],.pointer (some ⟨g,1,none⟩),.slice Z zs.length cz,.pointer (some ⟨g,0,none⟩),.slice K kn.length ck,.agg #[.slice S n.s.length cs,.slice E n.e.length ce,.slice P n.b.length cp,.slice U n.ws.length cu],.tuple #[.slice A1 L1.length c1,.slice B1 kr.length cb1,.int .i64 0],.slice A1 L1.length c1,.slice B1 kr.length cb1,.int .i64 0,.int .i64 0,.bool false,undef,undef,.tuple #[.slice A8 hd.length c8,.int .i64 0],.pointer (some ⟨g,2,none⟩),.slice H hs.length ch,.pointer (some ⟨g+1,3,none⟩),.slice U n.ws.length cu,.slice A1 L1.length c1,.slice B1 kr.length cb1,.slice A6 ws.length c6,.tuple #[.slice A7 hd.length c7,.int .i64 0],.slice A9 hd.length c9,.int .i64 0,.int .i64 0,.bool false,undef,undef,v 0,v 1,v 2,v 3,v 4,v 5,v 6,v 7,v 8,v 9],defers:=[] }) (fun _=>undef)
     (fun i x wx=>match i with
      |0=>x = .slice B1 kr.length cb1
      |1=>x = .slice A1 L1.length c1
      |2=>x = .slice A11 hd.length c11
      |3=>x = .pointer (some ⟨g,3,none⟩)
      |4=>x = .slice B bs.length cb
      |5=>x = .slice A11 hd.length c11
      |6=>∃Ax cx Mx,x = .slice Ax (List.length Mx) cx∧Mx.map Bc.b=BF∧OneC wx Ax cx Mx∧LoC w.heap.size Ax Mx
      |7=>x = .pointer (some ⟨g,4,none⟩)
      |8=>x = .int .i64 room
      |9=>∃Ax cx Mx,x = .agg #[.slice B1 kr.length cb1,.slice A1 L1.length c1,.slice A11 hd.length c11,.slice Ax (List.length Mx) cx,.int .i64 room]∧Mx.map Bc.b=BF∧OneC wx Ax cx Mx∧LoC w.heap.size Ax Mx
      |_=>True)
     (fun w1 w2=>Below w1.heap.size w1 w2) (fun h1 h2=>below_on h1 h2) (fun _=>Below.refl _ _) (Below.drew (Below.refl _ _)) ?stabQ ?stepQ ?doneQ
    case stabQ=>
     rintro i x w1 w2 h hb
     match i,h with
     |0,h=>exact h
     |1,h=>exact h
     |2,h=>exact h
     |3,h=>exact h
     |4,h=>exact h
     |5,h=>exact h
     |6,h=>obtain⟨Ax,cx,Mx,ex,mx,hx,lx⟩:=h;exact⟨Ax,cx,Mx,ex,mx,hx.later hb,lx⟩
     |7,h=>exact h
     |8,h=>exact h
     |9,h=>obtain⟨Ax,cx,Mx,ex,mx,hx,lx⟩:=h;exact⟨Ax,cx,Mx,ex,mx,hx.later hb,lx⟩
     |i+10,_=>trivial
    case stepQ=>
     intro i hi v w' hb hd
     match i,hi with
     |0,_=>
      refine wpOp_oneH rfl fun KK HKK =>?_
      clear hd
      go_wp2
      exact HKK.out _ _ ⟨_,(by simp[upd];done),Below.refl _ _,rfl⟩
     |1,_=>
      refine wpOp_oneH rfl fun KK HKK =>?_
      clear hd
      go_wp2
      exact HKK.out _ _ ⟨_,(by simp[upd];done),Below.refl _ _,rfl⟩
     |2,_=>
      refine wpOp_oneH rfl fun KK HKK =>?_
      clear hd
      go_wp2
      exact HKK.out _ _ ⟨_,(by simp[upd];done),Below.refl _ _,rfl⟩
     |3,_=>
      refine wpOp_oneH rfl fun KK HKK =>?_
      clear hd
      go_wp2
      exact HKK.out _ _ ⟨_,(by simp[upd];done),Below.refl _ _,rfl⟩
     |4,_=>
      have h3:v 3=_:=hdx hd 3 (by kernel_rfl)
      refine wpOp_oneH rfl fun KK HKK =>?_
      clear hd
      rw[h3]
      have q0:=cell_later hb V_3
      go_wp2
      exact HKK.out _ _ ⟨_,(by simp[upd,h3];done),Below.refl _ _,rfl⟩
     |5,_=>
      refine wpOp_oneH rfl fun KK HKK =>?_
      clear hd
      go_wp2
      exact HKK.out _ _ ⟨_,(by simp[upd];done),Below.refl _ _,rfl⟩
     |6,_=>
      have h4:v 4=_:=hdx hd 4 (by kernel_rfl)
      have h5:v 5=_:=hdx hd 5 (by kernel_rfl)
      refine wpOp_oneH rfl fun KK HKK =>?_
      clear hd
      rw[h4,h5]
      have NS:=Hd (C5.out A11 c11 w' (below_on HB3.out hb) (XD.out.later hb))
      go_wp2_with fail
      refine NS.out.mono ?_
      rintro e w'' ⟨Ax,cx,Mx,rfl,hM,hB,hlo,b⟩
      have hlo:=hlo.lower (below_on HB3.out hb).size
      go_wp2
      exact HKK.out _ _ ⟨_,(by simp[upd,h4,h5];done),b,Ax,cx,Mx,rfl,hM,hB,hlo⟩
     |7,_=>
      refine wpOp_oneH rfl fun KK HKK =>?_
      clear hd
      go_wp2
      exact HKK.out _ _ ⟨_,(by simp[upd];done),Below.refl _ _,rfl⟩
     |8,_=>
      have h7:v 7=_:=hdx hd 7 (by kernel_rfl)
      refine wpOp_oneH rfl fun KK HKK =>?_
      clear hd
      rw[h7]
      have q0:=cell_later hb V_4
      go_wp2
      exact HKK.out _ _ ⟨_,(by simp[upd,h7];done),Below.refl _ _,rfl⟩
     |9,_=>
      have h0:v 0=_:=hdx hd 0 (by kernel_rfl)
      have h1:v 1=_:=hdx hd 1 (by kernel_rfl)
      have h2:v 2=_:=hdx hd 2 (by kernel_rfl)
      obtain⟨SA6,sc6,SM6,h6,m6,o6,l6⟩:=hd 6 (List.elem_iff.1 (by kernel_rfl))
      have h8:v 8=_:=hdx hd 8 (by kernel_rfl)
      refine wpOp_oneH rfl fun KK HKK =>?_
      clear hd
      rw[h0,h1,h2,h6,h8]
      go_wp2
      exact HKK.out _ _ ⟨_,(by simp[upd,h0,h1,h2,h6,h8];done),Below.refl _ _,SA6,sc6,SM6,rfl,m6,o6,l6⟩
     |k+10,hk=>exact absurd hk (by omega)
    case doneQ=>
     intro v w5 hb hf
     have h0:v 0=_:=hf 0 (by decide)
     have h1:v 1=_:=hf 1 (by decide)
     have h2:v 2=_:=hf 2 (by decide)
     have h3:v 3=_:=hf 3 (by decide)
     have h4:v 4=_:=hf 4 (by decide)
     have h5:v 5=_:=hf 5 (by decide)
     obtain⟨SA6,sc6,SM6,h6,m6,o6,l6⟩:=hf 6 (by decide)
     have h7:v 7=_:=hf 7 (by decide)
     have h8:v 8=_:=hf 8 (by decide)
     obtain⟨SA9,sc9,SM9,h9,m9,o9,l9⟩:=hf 9 (by decide)
     clear hf
     rw[h0,h1,h2,h3,h4,h5,h6,h7,h8,h9]
     clear V_3 V_4
     replace HV:=Hd (HV.out.later hb)
     replace HN:=Hd (HN.out.later hb)
     replace HR:=Hd (HR.out.later hb)
     have HB4:=Hd (below_on HB3.out hb)
     clear HB3
     replace XZ:=Hd (XZ.out.later hb)
     replace XK:=Hd (XK.out.later hb)
     replace XD:=Hd (XD.out.later hb)
     clear hb
     have XC:=Hd o9
     have HM6:=Hd m9
     have HLC:=Hd l9
     clear o6 m6 o9 m9 l6 l9 C5
     have R_0:=HR.out.cell (i:=0) rfl
     have R_1:=HR.out.cell (i:=1) rfl
     have R_2:=HR.out.cell (i:=2) rfl
     have R_3:=HR.out.cell (i:=3) rfl
     have R_4:=HR.out.cell (i:=4) rfl
     have R_f0:=HR.out.free 0
     have R_f1:=HR.out.free 1
     have R_f2:=HR.out.free 2
     have R_f3:=HR.out.free 3
     have R_f4:=HR.out.free 4
     have hh:w.heap.size≤g+2:=by omega
     have HP:=Hd (((((HR.out.put 0 (.slice B1 kr.length cb1)).put 1 (.slice A1 L1.length c1)).put 2 (.slice A11 hd.length c11)).put 3 (.slice SA9 SM9.length sc9)).put 4 (.int .i64 room))
     have HQ:=Hd (((((HB4.out.setCell (p:=⟨g+2,0,none⟩) hh (.slice B1 kr.length cb1)).setCell (p:=⟨g+2,1,none⟩) hh (.slice A1 L1.length c1)).setCell (p:=⟨g+2,2,none⟩) hh (.slice A11 hd.length c11)).setCell (p:=⟨g+2,3,none⟩) hh (.slice SA9 SM9.length sc9)).setCell (p:=⟨g+2,4,none⟩) hh (.int .i64 room))
     have FXZ:=Hd (((((XZ.out.far (show Blk _ (g+2) 27 #[.slice none 0 0,.slice none 0 0,.slice none 0 0,.slice none 0 0,.int .i64 0] from HR.out) rfl 0 (.slice B1 kr.length cb1)).far (show Blk _ (g+2) 27 #[.slice B1 kr.length cb1,.slice none 0 0,.slice none 0 0,.slice none 0 0,.int .i64 0] from(HR.out.put 0 (.slice B1 kr.length cb1))) rfl 1 (.slice A1 L1.length c1)).far (show Blk _ (g+2) 27 #[.slice B1 kr.length cb1,.slice A1 L1.length c1,.slice none 0 0,.slice none 0 0,.int .i64 0] from((HR.out.put 0 (.slice B1 kr.length cb1)).put 1 (.slice A1 L1.length c1))) rfl 2 (.slice A11 hd.length c11)).far (show Blk _ (g+2) 27 #[.slice B1 kr.length cb1,.slice A1 L1.length c1,.slice A11 hd.length c11,.slice none 0 0,.int .i64 0] from(((HR.out.put 0 (.slice B1 kr.length cb1)).put 1 (.slice A1 L1.length c1)).put 2 (.slice A11 hd.length c11))) rfl 3 (.slice SA9 SM9.length sc9)).far (show Blk _ (g+2) 27 #[.slice B1 kr.length cb1,.slice A1 L1.length c1,.slice A11 hd.length c11,.slice SA9 SM9.length sc9,.int .i64 0] from((((HR.out.put 0 (.slice B1 kr.length cb1)).put 1 (.slice A1 L1.length c1)).put 2 (.slice A11 hd.length c11)).put 3 (.slice SA9 SM9.length sc9))) rfl 4 (.int .i64 room))
     have FXK:=Hd (((((XK.out.far (show Blk _ (g+2) 27 #[.slice none 0 0,.slice none 0 0,.slice none 0 0,.slice none 0 0,.int .i64 0] from HR.out) rfl 0 (.slice B1 kr.length cb1)).far (show Blk _ (g+2) 27 #[.slice B1 kr.length cb1,.slice none 0 0,.slice none 0 0,.slice none 0 0,.int .i64 0] from(HR.out.put 0 (.slice B1 kr.length cb1))) rfl 1 (.slice A1 L1.length c1)).far (show Blk _ (g+2) 27 #[.slice B1 kr.length cb1,.slice A1 L1.length c1,.slice none 0 0,.slice none 0 0,.int .i64 0] from((HR.out.put 0 (.slice B1 kr.length cb1)).put 1 (.slice A1 L1.length c1))) rfl 2 (.slice A11 hd.length c11)).far (show Blk _ (g+2) 27 #[.slice B1 kr.length cb1,.slice A1 L1.length c1,.slice A11 hd.length c11,.slice none 0 0,.int .i64 0] from(((HR.out.put 0 (.slice B1 kr.length cb1)).put 1 (.slice A1 L1.length c1)).put 2 (.slice A11 hd.length c11))) rfl 3 (.slice SA9 SM9.length sc9)).far (show Blk _ (g+2) 27 #[.slice B1 kr.length cb1,.slice A1 L1.length c1,.slice A11 hd.length c11,.slice SA9 SM9.length sc9,.int .i64 0] from((((HR.out.put 0 (.slice B1 kr.length cb1)).put 1 (.slice A1 L1.length c1)).put 2 (.slice A11 hd.length c11)).put 3 (.slice SA9 SM9.length sc9))) rfl 4 (.int .i64 room))
     have FXD:=Hd (((((XD.out.far (show Blk _ (g+2) 27 #[.slice none 0 0,.slice none 0 0,.slice none 0 0,.slice none 0 0,.int .i64 0] from HR.out) rfl 0 (.slice B1 kr.length cb1)).far (show Blk _ (g+2) 27 #[.slice B1 kr.length cb1,.slice none 0 0,.slice none 0 0,.slice none 0 0,.int .i64 0] from(HR.out.put 0 (.slice B1 kr.length cb1))) rfl 1 (.slice A1 L1.length c1)).far (show Blk _ (g+2) 27 #[.slice B1 kr.length cb1,.slice A1 L1.length c1,.slice none 0 0,.slice none 0 0,.int .i64 0] from((HR.out.put 0 (.slice B1 kr.length cb1)).put 1 (.slice A1 L1.length c1))) rfl 2 (.slice A11 hd.length c11)).far (show Blk _ (g+2) 27 #[.slice B1 kr.length cb1,.slice A1 L1.length c1,.slice A11 hd.length c11,.slice none 0 0,.int .i64 0] from(((HR.out.put 0 (.slice B1 kr.length cb1)).put 1 (.slice A1 L1.length c1)).put 2 (.slice A11 hd.length c11))) rfl 3 (.slice SA9 SM9.length sc9)).far (show Blk _ (g+2) 27 #[.slice B1 kr.length cb1,.slice A1 L1.length c1,.slice A11 hd.length c11,.slice SA9 SM9.length sc9,.int .i64 0] from((((HR.out.put 0 (.slice B1 kr.length cb1)).put 1 (.slice A1 L1.length c1)).put 2 (.slice A11 hd.length c11)).put 3 (.slice SA9 SM9.length sc9))) rfl 4 (.int .i64 room))
     have FXC:=Hd (((((XC.out.far (show Blk _ (g+2) 27 #[.slice none 0 0,.slice none 0 0,.slice none 0 0,.slice none 0 0,.int .i64 0] from HR.out) rfl 0 (.slice B1 kr.length cb1)).far (show Blk _ (g+2) 27 #[.slice B1 kr.length cb1,.slice none 0 0,.slice none 0 0,.slice none 0 0,.int .i64 0] from(HR.out.put 0 (.slice B1 kr.length cb1))) rfl 1 (.slice A1 L1.length c1)).far (show Blk _ (g+2) 27 #[.slice B1 kr.length cb1,.slice A1 L1.length c1,.slice none 0 0,.slice none 0 0,.int .i64 0] from((HR.out.put 0 (.slice B1 kr.length cb1)).put 1 (.slice A1 L1.length c1))) rfl 2 (.slice A11 hd.length c11)).far (show Blk _ (g+2) 27 #[.slice B1 kr.length cb1,.slice A1 L1.length c1,.slice A11 hd.length c11,.slice none 0 0,.int .i64 0] from(((HR.out.put 0 (.slice B1 kr.length cb1)).put 1 (.slice A1 L1.length c1)).put 2 (.slice A11 hd.length c11))) rfl 3 (.slice SA9 SM9.length sc9)).far (show Blk _ (g+2) 27 #[.slice B1 kr.length cb1,.slice A1 L1.length c1,.slice A11 hd.length c11,.slice SA9 SM9.length sc9,.int .i64 0] from((((HR.out.put 0 (.slice B1 kr.length cb1)).put 1 (.slice A1 L1.length c1)).put 2 (.slice A11 hd.length c11)).put 3 (.slice SA9 SM9.length sc9))) rfl 4 (.int .i64 room))
     clear hh
     go_wp2
     exact bodyPost_ret (results_cell_tmp (p:=4) (t1:=5) (ty:=27) rfl _ _ (g+2) 27 #[.slice B1 kr.length cb1,.slice A1 L1.length c1,.slice A11 hd.length c11,.slice SA9 SM9.length sc9,.int .i64 room] _ rfl HP.out Tryz.underlying27 rfl infoVw) rfl ⟨⟨B1,cb1,kr,A1,c1,L1,A11,c11,hd,SA9,sc9,SM9,room⟩,rfl,(by show(⟨kr,L1.map Zc.zn,hd,SM9.map Bc.b,room⟩:Vw)=_;rw[HZ1.out,HM6.out]),⟨FXK.out,FXZ.out,FXD.out,FXC.out⟩,⟨HLK.out,HLZ.out,HLD.out,HLC.out⟩,HQ.out⟩
 ·rw[if_neg h0]
  obtain⟨⟨zr,kr,te⟩,htk⟩:∃t,Tr.tkR (q.z.map Zc.zn) q.k n=t:=⟨_,rfl⟩
  rw[htk]at c2 h0 ⊢
  dsimp only at c2 h0 ⊢
  have d0:(te == 0)=false:=beq_eq_false_iff_ne.2 h0
  have d1:(te != 0)=true:=by rw[bne_iff_ne];exact h0
  clear h0 htk h hn hf
  obtain⟨K,ck,kn,Z,cz,zs,H,ch,hs,B,cb,bs,room⟩:=q
  unfold vwCells noteCells at *
  dsimp only at *
  have C1:=Hd c1
  have C2:=Hd c2
  clear c1 c2
  have hb0:=below_new (below_new (below_new (Below.refl w.heap.size w) (.cells #[.slice K kn.length ck,.slice Z zs.length cz,.slice H hs.length ch,.slice B bs.length cb,.int .i64 room] 27)) (.cells #[.slice S n.s.length cs,.slice E n.e.length ce,.slice P n.b.length cp,.slice U n.ws.length cu] 40)) (.cells #[.slice none 0 0,.slice none 0 0,.slice none 0 0,.slice none 0 0,.int .i64 0] 27)
  have hV:=((Blk.new w 27 #[.slice K kn.length ck,.slice Z zs.length cz,.slice H hs.length ch,.slice B bs.length cb,.int .i64 room]).alloc (.cells #[.slice S n.s.length cs,.slice E n.e.length ce,.slice P n.b.length cp,.slice U n.ws.length cu] 40)).alloc (.cells #[.slice none 0 0,.slice none 0 0,.slice none 0 0,.slice none 0 0,.int .i64 0] 27)
  have hN:=(Blk.new (w.alloc (.cells #[.slice K kn.length ck,.slice Z zs.length cz,.slice H hs.length ch,.slice B bs.length cb,.int .i64 room] 27)) 40 #[.slice S n.s.length cs,.slice E n.e.length ce,.slice P n.b.length cp,.slice U n.ws.length cu]).alloc (.cells #[.slice none 0 0,.slice none 0 0,.slice none 0 0,.slice none 0 0,.int .i64 0] 27)
  simp only[World.size_alloc]at hN
  have hR:=Blk.new ((w.alloc (.cells #[.slice K kn.length ck,.slice Z zs.length cz,.slice H hs.length ch,.slice B bs.length cb,.int .i64 room] 27)).alloc (.cells #[.slice S n.s.length cs,.slice E n.e.length ce,.slice P n.b.length cp,.slice U n.ws.length cu] 40)) 27 #[.slice none 0 0,.slice none 0 0,.slice none 0 0,.slice none 0 0,.int .i64 0]
  simp only[World.size_alloc]at hR
  obtain⟨W,hW⟩:∃W,((w.alloc (.cells #[.slice K kn.length ck,.slice Z zs.length cz,.slice H hs.length ch,.slice B bs.length cb,.int .i64 room] 27)).alloc (.cells #[.slice S n.s.length cs,.slice E n.e.length ce,.slice P n.b.length cp,.slice U n.ws.length cu] 40)).alloc (.cells #[.slice none 0 0,.slice none 0 0,.slice none 0 0,.slice none 0 0,.int .i64 0] 27)=W:=⟨_,rfl⟩
  rw[hW]at hb0 hV hN hR
  have HW:=Hd hW
  obtain⟨g,hgg⟩:∃g,w.heap.size=g:=⟨_,rfl⟩
  rw[hgg]at hV hN hR
  have HV:=Hd (show Blk W (g) 27 #[.slice K kn.length ck,.slice Z zs.length cz,.slice H hs.length ch,.slice B bs.length cb,.int .i64 room] from hV)
  have HN:=Hd (show Blk W (g+1) 40 #[.slice S n.s.length cs,.slice E n.e.length ce,.slice P n.b.length cp,.slice U n.ws.length cu] from hN)
  have HR:=Hd (show Blk W (g+2) 27 #[.slice none 0 0,.slice none 0 0,.slice none 0 0,.slice none 0 0,.int .i64 0] from hR)
  have HB0:=Hd hb0
  clear hW hb0 hV hN hR
  go_enter Tryz.func22,Tryz.ntmps22
  go_upto_region 1 with (fail)
  rw[HW.out]
  clear HW
  have V_0:=HV.out.cell (i:=0) rfl
  have V_1:=HV.out.cell (i:=1) rfl
  have V_2:=HV.out.cell (i:=2) rfl
  have V_3:=HV.out.cell (i:=3) rfl
  have V_4:=HV.out.cell (i:=4) rfl
  go_wp2_with fail
  refine(C1.out _ HB0.out).mono ?_
  rintro e w1 ⟨rfl,b1⟩
  clear V_0 V_1 V_2 V_3 V_4
  replace HV:=Hd (HV.out.later b1)
  replace HN:=Hd (HN.out.later b1)
  replace HR:=Hd (HR.out.later b1)
  have HB1:=Hd (below_on HB0.out b1)
  clear HB0
  clear b1 C1
  have V_0:=HV.out.cell (i:=0) rfl
  have V_1:=HV.out.cell (i:=1) rfl
  have N_0:=HN.out.cell (i:=0) rfl
  have N_1:=HN.out.cell (i:=1) rfl
  have N_2:=HN.out.cell (i:=2) rfl
  have N_3:=HN.out.cell (i:=3) rfl
  have HLE:=Hd HB1.out.size
  go_wp2_with fail
  refine(C2.out _ HB1.out).mono ?_
  rintro e w2 ⟨A1,c1,L1,B1,cb1,rfl,hO1,hz1,hB1,hlz,hlk,b2⟩
  clear V_0 V_1 N_0 N_1 N_2 N_3
  replace HV:=Hd (HV.out.later b2)
  replace HN:=Hd (HN.out.later b2)
  replace HR:=Hd (HR.out.later b2)
  have HB2:=Hd (below_on HB1.out b2)
  clear HB1
  clear b2 C2
  dsimp only at hO1 hz1 hB1 hlz hlk ⊢
  clear hO1 hz1 hB1 hlz hlk HLE
  have R_0:=HR.out.cell (i:=0) rfl
  have R_1:=HR.out.cell (i:=1) rfl
  have R_2:=HR.out.cell (i:=2) rfl
  have R_3:=HR.out.cell (i:=3) rfl
  have R_4:=HR.out.cell (i:=4) rfl
  have R_f0:=HR.out.free 0
  have R_f1:=HR.out.free 1
  have R_f2:=HR.out.free 2
  have R_f3:=HR.out.free 3
  have R_f4:=HR.out.free 4
  have hh:w.heap.size≤g+2:=by omega
  have HP:=Hd (((((HR.out.put 0 (.slice none 0 0)).put 1 (.slice none 0 0)).put 2 (.slice none 0 0)).put 3 (.slice none 0 0)).put 4 (.int .i64 0))
  have HQ:=Hd (((((HB2.out.setCell (p:=⟨g+2,0,none⟩) hh (.slice none 0 0)).setCell (p:=⟨g+2,1,none⟩) hh (.slice none 0 0)).setCell (p:=⟨g+2,2,none⟩) hh (.slice none 0 0)).setCell (p:=⟨g+2,3,none⟩) hh (.slice none 0 0)).setCell (p:=⟨g+2,4,none⟩) hh (.int .i64 0))
  clear hh
  go_wp2
  exact bodyPost_ret (results_cell_tmp (p:=4) (t1:=5) (ty:=27) rfl _ _ (g+2) 27 #[.slice none 0 0,.slice none 0 0,.slice none 0 0,.slice none 0 0,.int .i64 0] _ rfl HP.out Tryz.underlying27 rfl infoVw) rfl ⟨Vl.none,rfl,rfl,VwAt.none _,VwLo.none,HQ.out⟩
theorem vdtake_any(q:Vl)(S E P U:Option Addr)(cs ce cp cu:Nat)(n:Note)(w:World)(h:VwAt w q)(hn:NoteAt w S E P U cs ce cp cu n) :
 Calls Tryz.prog 22 #[.agg (vwCells q),.agg (noteCells S E P U cs ce cp cu n)] w (GivesVwE (Vw.takeR q.vw n).1 (Vw.takeR q.vw n).2 w):=(vdtakeN_any q S E P U cs ce cp cu n w h hn).mono fun _ _ h=>h.gives
end Go.Proofs.YtjlfehpockfkdaaGreat
namespace Go.Proofs.YtjlfehpockfkdaaGreat
open Go.RowKit
set_option maxRecDepth 100000 in
set_option maxHeartbeats 3200000 in
theorem cdforget_any(A:Option Addr)(c:Nat)(L:List Bc)(o:Int)(w:World)(h:OneC w A c L)(hf:Fits L) :
  Calls Tryz.prog 141 #[.slice A L.length c,.int .i64 o] w fun e w'=>∃v M,e = .returned v∧M.map Bc.b=Ca.forget (L.map Bc.b) o∧OwnRC w' w.heap.size 49 5 v M∧Below w.heap.size w w':=by
 obtain⟨i0,hI,hZ0,hZ1,hZ2⟩:=info_parts infoBdy
 have hn:=hf.n
 have HL:=Hd h
 have HZ:=Hd hf.each
 have HY:=Hd (fun k hk hx=>Ca.forget_yes (L:=L) (k:=k) (o:=o) hk hx)
 have HN:=Hd (fun k hk hx=>Ca.forget_no (L:=L) (k:=k) (o:=o) hk hx)
 clear h hf
 go_enter Tryz.func141,Tryz.ntmps141
 go_wp2_with fail
 go_loopw [5,10] (fun s5 s10 wr=>∃(k:Nat) (M:List Bc),k≤L.length∧s10 = .int .i64 (k:Int)∧M.map Bc.b=Ca.forget ((L.take k).map Bc.b) o∧OwnRC wr w.heap.size 49 5 s5 M∧Below w.heap.size w wr) (fun _ s10 _=>L.length-(intOf s10).toNat)
 case atStart=>exact⟨0,[],Nat.zero_le _,rfl,rfl,OwnRC.nil _ _ _ _,Below.refl _ _⟩
 case round=>
  obtain⟨k,M,hk,rfl,hM,hR,hbw⟩:=hrel
  by_cases hlt:k<L.length
  ·have hml:M.length≤k:=by
    have h1:=congrArg List.length hM
    have h2:=Ca.forget_len ((L.take k).map Bc.b) o
    rw[List.length_map]at h1
    rw[List.length_map,List.length_take]at h2
    omega
   have hne:L≠[]:=fun e=>by subst e;simp at hlt
   obtain⟨b,off,hA,hcs⟩:=(HL.out.later hbw).at hne
   obtain⟨e0,e1,e2,e3⟩:=hcs k hlt
   have hxb:=(HL.out.later hbw).each _ (Ca.getD_mem hlt)
   have hxz:=HZ.out _ (Ca.getD_mem hlt)
   have hty:=HY.out k hlt
   have htn:=HN.out k hlt
   subst hA
   have hi0:(0:Int)≤(k:Int):=by omega
   have hi1:(k:Int)<(L.length:Int):=by omega
   obtain⟨x,hx⟩:∃x,L.getD k Bc.zero=x:=⟨_,rfl⟩
   rw[hx]at e0 e1 e2 e3 hxb hxz hty htn
   obtain⟨X,d,⟨x0,x1,x2,v⟩⟩:=x
   dsimp only at e0 e1 e2 e3 hxb hxz hty htn
   obtain⟨VA,vc,hvv,-,-,-,-⟩:=own_form hR.row
   subst hvv
   have bx:=below_new (Below.refl wr.heap.size wr) (.cells #[.int .i64 x0,.int .i64 x1,.int .i64 x2,.slice X v.length d] 49)
   have hX:=Blk.new wr 49 #[.int .i64 x0,.int .i64 x1,.int .i64 x2,.slice X v.length d]
   obtain⟨W1,hW1⟩:∃W1,wr.alloc (.cells #[.int .i64 x0,.int .i64 x1,.int .i64 x2,.slice X v.length d] 49)=W1:=⟨_,rfl⟩
   rw[hW1]at bx hX
   have HW1:=Hd hW1
   have HX:=Hd hX
   have q0:=hX.cell (i:=0) rfl
   have HM:=Hd hM
   have HR:=Hd (hR.later bx)
   have BW:=Hd (below_on hbw bx)
   have HIB:=Hd hxb.byte
   have hxb:=hxb.later bx
   clear hW1 hX bx
   by_cases hd:x0=o
   ·have hd1:(x0 != o)=false:=by rw[bne_eq_false_iff_eq];exact hd
    have HTN:=Hd (htn hd)
    clear hcs hx hxb hxz hty htn hM hR hbw hd
    go_upto_region 5 with (fail)
    rw[HW1.out]
    clear HW1 e0 e1 e2 e3
    go_wp2_with fail
    go_roundw
    case rel=>exact⟨k+1,M,by omega,by go_num,by rw[HTN.out];exact HM.out,HR.out,BW.out⟩
    case measure=>simp[intOf];omega
   have hd1:(x0 != o)=true:=by rw[bne_iff_ne];exact hd
   have HTS:=Hd (hty hd)
   have NB:=Hd (show Calls Tryz.prog 142 #[.agg #[.int .i64 x0,.int .i64 x1,.int .i64 x2,.slice X v.length d]] W1 (GivesBd ⟨x0,x1,x2,v⟩ W1) from cdown_any X d ⟨x0,x1,x2,v⟩ W1 hxz hxb)
   have q1:=HX.out.cell (i:=1) rfl
   have q2:=HX.out.cell (i:=2) rfl
   have q3:=HX.out.cell (i:=3) rfl
   clear hcs hx hxb hxz hty htn hM hR hbw hd
   go_upto_region 5 with (fail)
   rw[HW1.out]
   clear HW1 e0 e1 e2 e3
   go_wp2_with fail
   refine NB.out.mono ?_
   rintro e w2 ⟨Y,dy,rfl,hoy,b2⟩
   unfold bdCells
   dsimp only at hoy ⊢
   have bz:=below_new (Below.refl w2.heap.size w2) (.cells #[.int .i64 x0,.int .i64 x1,.int .i64 x2,.slice Y v.length dy] 49)
   have hR2:=HR.out.later (below_on b2 bz)
   have hoy2:=own_later (own_base hoy BW.out.size) bz
   have hbw2:=below_on (below_on BW.out b2) bz
   have hszw:=hbw2.size
   have hy1:Lies (w2.alloc (.cells #[.int .i64 x0,.int .i64 x1,.int .i64 x2,.slice Y v.length dy] 49)) (some ⟨w2.heap.size,0,none⟩) (Ca.cell ⟨Y,dy,⟨x0,x1,x2,v⟩⟩):=fun _=>⟨w2.heap.size,0,rfl,fun j u hu=>by
    rw[Nat.zero_add]
    exact(Blk.new w2 49 #[.int .i64 x0,.int .i64 x1,.int .i64 x2,.slice Y v.length dy]).cell (by simpa[Ca.cell] using hu)⟩
   have HR2:=Hd hR2
   have HO2:=Hd hoy2
   have hrow:=hR2.row
   clear b2 hR2 hoy2 hoy NB
   go_wp2_with (at_builtin;refine Go.Proofs.YtjlfehpockfkdaaGreat.wpList_append_lies _ rfl _ _ 25 rfl w.heap.size 49 i0 (.agg #[.int .i64 0,.int .i64 0,.int .i64 0,.slice none 0 0]) 4 48 Tryz.underlying25 hI hZ0 hZ1 hZ2 rfl (by decide) _ M.length (Ca.cells M) rfl hrow (some ⟨w2.heap.size,0,none⟩) 1 1 (fun h=>by cases h) (Ca.cell ⟨Y,dy,⟨x0,x1,x2,v⟩⟩) rfl rfl hy1 (by intro u hu;simp[Ca.cell]at hu;rcases hu with rfl|rfl|rfl|rfl<;>rfl) ?h63 ?hbytes hszw ?_)
   case h63=>unfold maxLen;omega
   case hbytes=>omega
   intro v' wz hownz hgz _
   have bwz:Below w.heap.size w wz:=hbw2.grown hgz (by omega) (fun r e=>own_ge hrow r e)
   have hRz:=HR2.out.snoc (by decide) hgz ⟨Y,dy,⟨x0,x1,x2,v⟩⟩ HO2.out HIB.out hownz
   obtain⟨gv,capv,rfl⟩:=ownsRow_succ hownz
   have HQ:=Hd (And.intro hRz bwz)
   clear hownz hgz hrow hy1 bwz hRz hbw2 bz
   go_wp2_with fail
   go_roundw
   case rel=>exact⟨k+1,M++[⟨Y,dy,⟨x0,x1,x2,v⟩⟩],by omega,by go_num,by rw[List.map_append,HM.out,HTS.out];rfl,HQ.out.1,HQ.out.2⟩
   case measure=>simp[intOf];omega
  ·obtain rfl:k=L.length:=by omega
   rw[List.take_length]at hM
   have HR:=Hd hR
   obtain⟨VA,vc,hvv,-,-,-,-⟩:=own_form hR.row
   subst hvv
   have HM:=Hd hM
   have BW:=Hd hbw
   clear hM hR hbw
   go_wp2
   go_ret
   exact⟨_,M,rfl,HM.out,HR.out,BW.out⟩
set_option maxRecDepth 100000 in
set_option maxHeartbeats 3200000 in
theorem cdget_any(A:Option Addr)(c:Nat)(L:List Bc)(o sc sn:Int)(w:World)(h:OneC w A c L)(hf:Fits L) :
  Calls Tryz.prog 86 #[.slice A L.length c,.int .i64 o,.agg #[.int .i64 sc,.int .i64 sn]] w (GivesVE (Ca.getR (L.map Bc.b) o sc sn).1 (Ca.getR (L.map Bc.b) o sc sn).2 w):=by
 have hn:=hf.n
 have HL:=Hd h
 have HZ:=Hd hf.each
 have HY:=Hd (fun k hk hb hx=>Ca.get_yes (L:=L) (k:=k) (o:=o) (c:=sc) (n:=sn) hk hb hx)
 have HN:=Hd (fun hb=>Ca.get_no (L:=L) (o:=o) (c:=sc) (n:=sn) hb)
 obtain⟨R,hR⟩:∃R,Ca.getR (L.map Bc.b) o sc sn=R:=⟨_,rfl⟩
 rw[hR]at HY HN ⊢
 have b0:=below_new (Below.refl w.heap.size w) (.cells #[.int .i64 sc,.int .i64 sn] 46)
 have B0:=Blk.new w 46 #[.int .i64 sc,.int .i64 sn]
 obtain⟨W,hW⟩:∃W,w.alloc (.cells #[.int .i64 sc,.int .i64 sn] 46)=W:=⟨_,rfl⟩
 rw[hW]at b0 B0
 have HW:=Hd hW
 have HB:=Hd b0
 have HS:=Hd B0
 clear h hf hR hW b0 B0
 go_enter Tryz.func86,Tryz.ntmps86
 go_wp2_with fail
 rw[HW.out]
 go_loopw [12] (fun s12 wr=>∃k:Nat,k≤L.length∧s12 = .int .i64 (k:Int)∧(∀j,j<k→¬Ca.isAt (L.getD j Bc.zero).b o sc sn)∧Below W.heap.size W wr) (fun s12 _=>L.length-(intOf s12).toNat)
 case atStart=>exact⟨0,Nat.zero_le _,rfl,fun j hj=>by omega,Below.refl _ _⟩
 case round=>
  obtain⟨k,hk,rfl,hno,hbw⟩:=hrel
  by_cases hlt:k<L.length
  ·have hne:L≠[]:=fun e=>by subst e;simp at hlt
   have hbb:=below_on HB.out hbw
   obtain⟨b,off,hA,hcs⟩:=(HL.out.later hbb).at hne
   obtain⟨e0,e1,e2,e3⟩:=hcs k hlt
   have hxb:=(HL.out.later hbb).each _ (Ca.getD_mem hlt)
   have hxz:=HZ.out _ (Ca.getD_mem hlt)
   have hy:=HY.out k hlt hno
   have HL':=HL
   subst hA
   have hi0:(0:Int)≤(k:Int):=by omega
   have hi1:(k:Int)<(L.length:Int):=by omega
   have hS:=HS.out.later hbw
   have s0:=hS.cell (i:=0) rfl
   have s1:=hS.cell (i:=1) rfl
   obtain⟨x,hx⟩:∃x,L.getD k Bc.zero=x:=⟨_,rfl⟩
   rw[hx]at e0 e1 e2 e3 hxb hxz hy
   obtain⟨X,d,⟨x0,x1,x2,v⟩⟩:=x
   dsimp only at e0 e1 e2 e3 hxb hxz hy
   have bx:=below_new (Below.refl wr.heap.size wr) (.cells #[.int .i64 x0,.int .i64 x1,.int .i64 x2,.slice X v.length d] 49)
   have hXB:=Blk.new wr 49 #[.int .i64 x0,.int .i64 x1,.int .i64 x2,.slice X v.length d]
   obtain⟨W1,hW1⟩:∃W1,wr.alloc (.cells #[.int .i64 x0,.int .i64 x1,.int .i64 x2,.slice X v.length d] 49)=W1:=⟨_,rfl⟩
   rw[hW1]at bx hXB
   have HW1:=Hd hW1
   have p0:=hXB.cell (i:=0) rfl
   have p1:=hXB.cell (i:=1) rfl
   have p2:=hXB.cell (i:=2) rfl
   have p3:=hXB.cell (i:=3) rfl
   have t0:=cell_later bx s0
   have t1:=cell_later bx s1
   have hbw:=below_on hbw bx
   have hbb:=below_on hbb bx
   have hxb:=hxb.later bx
   clear hW1 hXB bx s0 s1
   have HX:=Hd hx
   have HNO:=Hd hno
   have BW:=Hd hbw
   have BB:=Hd hbb
   have XB:=Hd hxb
   have hnext:¬Ca.isAt ⟨x0,x1,x2,v⟩ o sc sn→∀j,j<k+1→¬Ca.isAt (L.getD j Bc.zero).b o sc sn:=fun h1 j hj=>by
    by_cases e:j=k
    ·subst e;rw[hx];exact h1
    ·exact hno j (by omega)
   have HNX:=Hd hnext
   have HYY:=Hd hy
   clear hcs hx hno hbw hbb hxb hy hnext hS
   by_cases q0:x0=o
   ·by_cases q1:x1=sc
    ·by_cases q2:x2=sn
     ·have d0:(x0 == o)=true:=beq_iff_eq.2 q0
      have d1:(x1 == sc)=true:=beq_iff_eq.2 q1
      have d2:(x2 == sn)=true:=beq_iff_eq.2 q2
      have HR:=Hd (HYY.out ⟨q0,q1,q2⟩)
      clear q0 q1 q2
      have NC:=Hd (scloneB_any X d v W1 hxz XB.out)
      go_upto_region 4 with (fail)
      rw[HW1.out]
      clear HW1 e0 e1 e2 e3
      go_wp2_with fail
      refine NC.out.mono ?_
      rintro e w3 ⟨u,rfl,ho,b3⟩
      have HO:=Hd (own_base ho BB.out.size)
      have BB3:=Hd (below_on BB.out b3)
      clear ho b3
      go_wp2
      go_ret2
      rw[HR.out]
      exact⟨_,rfl,HO.out,BB3.out⟩
     ·have d0:(x0 == o)=true:=beq_iff_eq.2 q0
      have d1:(x1 == sc)=true:=beq_iff_eq.2 q1
      have d2:(x2 == sn)=false:=beq_eq_false_iff_ne.2 q2
      have HX2:=Hd (HNX.out (fun h=>q2 h.2.2))
      clear q0 q1 q2
      go_upto_region 4 with (fail)
      rw[HW1.out]
      clear HW1 e0 e1 e2 e3
      go_wp2_with fail
      go_roundw
      case rel=>exact⟨k+1,by omega,by go_num,HX2.out,BW.out⟩
      case measure=>simp[intOf];omega
    ·have d0:(x0 == o)=true:=beq_iff_eq.2 q0
     have d1:(x1 == sc)=false:=beq_eq_false_iff_ne.2 q1
     have HX2:=Hd (HNX.out (fun h=>q1 h.2.1))
     clear q0 q1
     go_upto_region 4 with (fail)
     rw[HW1.out]
     clear HW1 e0 e1 e2 e3
     go_wp2_with fail
     go_roundw
     case rel=>exact⟨k+1,by omega,by go_num,HX2.out,BW.out⟩
     case measure=>simp[intOf];omega
   ·have d0:(x0 == o)=false:=beq_eq_false_iff_ne.2 q0
    have HX2:=Hd (HNX.out (fun h=>q0 h.1))
    clear q0
    go_upto_region 4 with (fail)
    rw[HW1.out]
    clear HW1 e0 e1 e2 e3
    go_wp2_with fail
    go_roundw
    case rel=>exact⟨k+1,by omega,by go_num,HX2.out,BW.out⟩
    case measure=>simp[intOf];omega
  ·obtain rfl:k=L.length:=by omega
   have hR:=HN.out hno
   subst hR
   have BB:=Hd (below_on HB.out hbw)
   clear hno hbw
   go_wp2
   go_ret2
   exact⟨_,rfl,⟨rfl,.inl ⟨rfl,rfl⟩⟩,BB.out⟩
end Go.Proofs.YtjlfehpockfkdaaGreat
namespace Go.Proofs.YtjlfehpockfkdaaGreat
open Go.RowKit Fb
set_option maxRecDepth 100000 in
set_option maxHeartbeats 6400000 in
theorem cdput_any(A X:Option Addr)(cc d:Nat)(L:List Bc)(room:Int)(x:Bd)(w:World)(h:OneC w A cc L)(hx:OneB w X d x.v) :
  Calls Tryz.prog 74 #[.slice A L.length cc,.int .i64 room,.agg (bdCells X d x)] w (GivesCE (Ca.putR (L.map Bc.b) room x).1 (Ca.putR (L.map Bc.b) room x).2 w):=by
 obtain⟨i0,hI,hZ0,hZ1,hZ2⟩:=info_parts infoBdy
 obtain⟨x0,x1,x2,vl⟩:=x
 unfold bdCells
 dsimp only at hx ⊢
 have hR:Ca.putR (L.map Bc.b) room ⟨x0,x1,x2,vl⟩=if Ca.fmd (L.map Bc.b) room=true then (if Wi.bright ⟨x0,x1,x2,vl⟩=true then (Ca.fit room (Ca.forget (L.map Bc.b) x0++[⟨x0,x1,x2,vl⟩]),0) else ([],1)) else ([],1):=rfl
 rw[hR]
 have b0:=below_new (Below.refl w.heap.size w) (.cells #[.int .i64 x0,.int .i64 x1,.int .i64 x2,.slice X vl.length d] 49)
 have B0:=Blk.new w 49 #[.int .i64 x0,.int .i64 x1,.int .i64 x2,.slice X vl.length d]
 obtain⟨W0,hW⟩:∃W0,w.alloc (.cells #[.int .i64 x0,.int .i64 x1,.int .i64 x2,.slice X vl.length d] 49)=W0:=⟨_,rfl⟩
 rw[hW]at b0 B0
 have HW:=Hd hW
 have HL:=Hd h
 have N1:=Hd (cdformed_any A cc L room W0 (h.later b0))
 have N2:=Hd (fun w'=>show Calls Tryz.prog 140 #[.agg #[.int .i64 x0,.int .i64 x1,.int .i64 x2,.slice X vl.length d]] w' (Says (.bool (Wi.bright ⟨x0,x1,x2,vl⟩)) w') from cdformedBody_any X d ⟨x0,x1,x2,vl⟩ w')
 have HV:=Hd hx
 have HB0:=Hd b0
 have HBB:=Hd B0
 clear hR h hW B0 b0 hx
 cases hf:Ca.fmd (L.map Bc.b) room with
 |false=>
  rw[hf]at N1
  rw[if_neg Bool.false_ne_true]
  clear hf
  go_enter Tryz.func74,Tryz.ntmps74
  go_wp2_with fail
  rw[HW.out]
  refine N1.out.mono ?_
  rintro e w1 ⟨rfl,b1⟩
  have BB:=Hd (below_on HB0.out b1)
  clear N1 N2 b1
  go_wp2
  go_ret2
  exact⟨none,0,[],rfl,rfl,OwnC.nil _ _,BB.out⟩
 |true=>
 rw[if_pos rfl]
 rw[hf]at N1
 have hfp:=Ca.fmd_parts hf
 cases hr:Wi.bright ⟨x0,x1,x2,vl⟩ with
 |false=>
  rw[hr]at N2
  rw[if_neg Bool.false_ne_true]
  clear hf hr hfp
  go_enter Tryz.func74,Tryz.ntmps74
  go_wp2_with fail
  rw[HW.out]
  refine N1.out.mono ?_
  rintro e w1 ⟨rfl,b1⟩
  have B1:=HBB.out.later b1
  have q0:=B1.cell (i:=0) rfl
  have q1:=B1.cell (i:=1) rfl
  have q2:=B1.cell (i:=2) rfl
  have q3:=B1.cell (i:=3) rfl
  have bb:=below_on HB0.out b1
  clear N1 b1 B1
  go_wp2_with fail
  refine(N2.out _).mono ?_
  rintro e w2 ⟨rfl,b2⟩
  have BB:=Hd (below_on bb b2)
  clear N2 bb b2 q0 q1 q2 q3
  go_wp2
  go_ret2
  exact⟨none,0,[],rfl,rfl,OwnC.nil _ _,BB.out⟩
 |true=>
  rw[if_pos rfl]
  rw[hr]at N2
  obtain⟨r0,r1,hl256,hused,hfits⟩:=hfp
  have hx256:=(Ca.right_obj hr).2.2
  dsimp only at hx256
  have hfl:=Ca.forget_len (L.map Bc.b) x0
  have hfu:=Ca.forget_used (L.map Bc.b) x0
  obtain⟨F,hF⟩:∃F,Ca.forget (L.map Bc.b) x0=F:=⟨_,rfl⟩
  rw[List.length_map]at hfl
  have HFF:=Hd hF
  have HFITS:=Hd hfits
  rw[hF]at hfl hfu ⊢
  obtain⟨uL,huL⟩:∃u,Ca.used (L.map Bc.b)=u:=⟨_,rfl⟩
  rw[huL]at hused hfu
  clear hf hr hF huL hfits
  go_enter Tryz.func74,Tryz.ntmps74
  go_wp2_with fail
  rw[HW.out]
  refine N1.out.mono ?_
  rintro e w1 ⟨rfl,b1⟩
  have B1:=HBB.out.later b1
  have q0:=B1.cell (i:=0) rfl
  have q1:=B1.cell (i:=1) rfl
  have q2:=B1.cell (i:=2) rfl
  have q3:=B1.cell (i:=3) rfl
  have bb:=below_on HB0.out b1
  clear N1 b1
  go_wp2_with fail
  refine(N2.out _).mono ?_
  rintro e W ⟨rfl,b2⟩
  have B2:=B1.later b2
  have bbW:=below_on bb b2
  have hzW:=bbW.size
  have HX:=Hd (show W.cell? ⟨w.heap.size,0,none⟩=some (.int .i64 x0)∧W.cell? ⟨w.heap.size,1,none⟩=some (.int .i64 x1)∧W.cell? ⟨w.heap.size,2,none⟩=some (.int .i64 x2)∧W.cell? ⟨w.heap.size,3,none⟩=some (.slice X vl.length d) from⟨B2.cell rfl,B2.cell rfl,B2.cell rfl,B2.cell rfl⟩)
  have BBW:=Hd bbW
  have NF:=Hd (fun w' (hb:Below W.heap.size W w')=>show Calls Tryz.prog 141 #[.slice A L.length cc,.int .i64 x0] w' (fun e w''=>∃v M,e = .returned v∧List.map Bc.b M=F∧OwnRC w'' w'.heap.size 49 5 v M∧Below w'.heap.size w' w'') from by rw[←HFF.out];exact cdforget_any A cc L x0 w' (HL.out.later (below_on bbW hb)) HFITS.out)
  have NB:=Hd (fun w' (hb:Below W.heap.size W w')=>show Calls Tryz.prog 142 #[.agg #[.int .i64 x0,.int .i64 x1,.int .i64 x2,.slice X vl.length d]] w' (GivesBd ⟨x0,x1,x2,vl⟩ w') from cdown_any X d ⟨x0,x1,x2,vl⟩ w' (show vl.length≤140737488355328 by omega) (HV.out.later (below_on bbW hb)))
  clear N2 bb b2 q0 q1 q2 q3 B1 B2 bbW
  go_upto_region 3 with (fail)
  refine wp_region_facts 7 (by kernel_rfl) (by kernel_rfl)
   (fun v=>{ tmps:=#[.slice A L.length cc,.int .i64 room,.agg #[.int .i64 x0,.int .i64 x1,.int .i64 x2,.slice X vl.length d],undef,undef,.pointer (some ⟨w.heap.size,0,none⟩),.slice none 0 0,.int .i64 0,undef,.slice A L.length cc,.int .i64 room,.bool true,.bool false,.bool false,.agg #[.int .i64 x0,.int .i64 x1,.int .i64 x2,.slice X vl.length d],.bool true,.bool false,.bool false,v 0,v 1,v 2,v 3,v 4,v 5,v 6,undef,undef,undef,undef,undef,undef,undef,undef],defers:=[] }) (fun _=>undef)
   (fun i x wx=>match i with
    |0=>x = .slice A L.length cc
    |1=>x = .pointer (some ⟨w.heap.size,0,none⟩)
    |2=>x = .int .i64 x0
    |3=>∃VA e M,x = .slice VA (List.length M) e∧List.map Bc.b M=F∧OwnRC wx W.heap.size 49 5 (.slice VA (List.length M) e) M
    |4=>x = .agg #[.int .i64 x0,.int .i64 x1,.int .i64 x2,.slice X vl.length d]
    |5=>∃Y e,x = .agg #[.int .i64 x0,.int .i64 x1,.int .i64 x2,.slice Y vl.length e]∧wx.ownsRow W.heap.size 5 1 (.slice Y vl.length e) vl.length (bCells vl)
    |6=>∃g Y e,x = .slice (some ⟨g,0,none⟩) 1 1∧Blk wx g 49 #[.int .i64 x0,.int .i64 x1,.int .i64 x2,.slice Y vl.length e]∧wx.ownsRow W.heap.size 5 1 (.slice Y vl.length e) vl.length (bCells vl)
    |_=>True)
   (fun w1 w2=>Below w1.heap.size w1 w2) (fun h1 h2=>below_on h1 h2) (fun _=>Below.refl _ _) (Below.drew (Below.refl _ _)) ?stab ?step ?done
  case stab=>
   rintro i x w1 w2 h hb
   match i,h with
   |0,h=>exact h
   |1,h=>exact h
   |2,h=>exact h
   |3,h=>obtain⟨VA,e,M,h1,h2,h3⟩:=h;exact⟨VA,e,M,h1,h2,h3.later hb⟩
   |4,h=>exact h
   |5,h=>obtain⟨Y,e,h1,h2⟩:=h;exact⟨Y,e,h1,own_later h2 hb⟩
   |6,h=>obtain⟨g,Y,e,h1,h2,h3⟩:=h;exact⟨g,Y,e,h1,h2.later hb,own_later h3 hb⟩
   |i+7,_=>trivial
  case step=>
   intro i hi v w' hb hd
   match i,hi with
   |0,_=>
    refine wpOp_oneH rfl fun KK HKK =>?_
    clear hd
    go_wp2
    exact HKK.out _ _ ⟨_,(by simp[upd];done),Below.refl _ _,rfl⟩
   |1,_=>
    refine wpOp_oneH rfl fun KK HKK =>?_
    clear hd
    go_wp2
    exact HKK.out _ _ ⟨_,(by simp[upd];done),Below.refl _ _,rfl⟩
   |2,_=>
    have h1:v 1=_:=hdx hd 1 (by kernel_rfl)
    refine wpOp_oneH rfl fun KK HKK =>?_
    clear hd
    rw[h1]
    have q0:=cell_later hb HX.out.1
    go_wp2
    exact HKK.out _ _ ⟨_,(by simp[upd,h1];done),Below.refl _ _,rfl⟩
   |3,_=>
    have h0:v 0=_:=hdx hd 0 (by kernel_rfl)
    have h2:v 2=_:=hdx hd 2 (by kernel_rfl)
    refine wpOp_oneH rfl fun KK HKK =>?_
    clear hd
    rw[h0,h2]
    have hsz:=hb.size
    go_wp2_with fail
    refine(NF.out _ hb).mono ?_
    rintro e w'' ⟨u,M,rfl,hm,ho,b⟩
    obtain⟨VA,ey,hu,-⟩:=ho.form
    subst hu
    have HO:=Hd (ho.lower hsz)
    have HM:=Hd hm
    clear ho hm
    go_wp2
    exact HKK.out _ _ ⟨_,(by simp[upd,h0,h2];done),b,VA,ey,M,rfl,HM.out,HO.out⟩
   |4,_=>
    refine wpOp_oneH rfl fun KK HKK =>?_
    clear hd
    have q0:=cell_later hb HX.out.1
    have q1:=cell_later hb HX.out.2.1
    have q2:=cell_later hb HX.out.2.2.1
    have q3:=cell_later hb HX.out.2.2.2
    go_wp2
    exact HKK.out _ _ ⟨_,(by simp[upd];done),Below.refl _ _,rfl⟩
   |5,_=>
    have h4:v 4=_:=hdx hd 4 (by kernel_rfl)
    refine wpOp_oneH rfl fun KK HKK =>?_
    clear hd
    rw[h4]
    have hsz:=hb.size
    go_wp2_with fail
    refine(NB.out _ hb).mono ?_
    rintro e w'' ⟨Y,ey,rfl,ho,b⟩
    have HO:=Hd (own_base ho hsz)
    clear ho
    unfold bdCells
    go_wp2
    exact HKK.out _ _ ⟨_,(by simp[upd,h4];done),b,Y,ey,rfl,HO.out⟩
   |6,_=>
    obtain⟨Y5,e5,h5,o5⟩:=hd 5 (List.elem_iff.1 (by kernel_rfl))
    refine wpOp_oneH rfl fun KK HKK =>?_
    clear hd
    rw[h5]
    have bn:=below_new (Below.refl w'.heap.size w') (.cells #[.int .i64 x0,.int .i64 x1,.int .i64 x2,.slice Y5 vl.length e5] 49)
    have HO:=Hd (own_later o5 bn)
    have HBN:=Hd (Blk.new w' 49 #[.int .i64 x0,.int .i64 x1,.int .i64 x2,.slice Y5 vl.length e5])
    clear o5
    go_wp2
    exact HKK.out _ _ ⟨_,(by simp[upd,h5];done),bn,_,Y5,e5,rfl,HBN.out,HO.out⟩
   |k+7,hk=>exact absurd hk (by omega)
  case done=>
   intro v w5 hb hf
   obtain⟨Y3,e3,M3,h3,m3,o3⟩:=hf 3 (by decide)
   obtain⟨g6,Y6,e6,h6,b6,o6⟩:=hf 6 (by decide)
   clear hf
   rw[h3,h6]
   simp only[List.drop_succ_cons,List.drop_zero]
   have hsz:=hb.size
   have hml:M3.length=F.length:=by have:=congrArg List.length m3;simpa using this
   have hrow:=o3.row
   have hyL:Lies w5 (some ⟨g6,0,none⟩) (Ca.cell ⟨Y6,e6,⟨x0,x1,x2,vl⟩⟩):=fun _=>⟨g6,0,rfl,fun j u hu=>by
    rw[Nat.zero_add]
    exact b6.cell (by simpa[Ca.cell] using hu)⟩
   have HM3:=Hd m3
   have HO3:=Hd o3
   have HO6:=Hd o6
   have HBW:=Hd hb
   have hm1:M3.length≤256:=by omega
   clear hb m3 o3 o6 b6 NF NB HX hml
   go_wp2_with (at_builtin;refine Go.Proofs.YtjlfehpockfkdaaGreat.wpList_append_lies _ rfl _ _ 25 rfl W.heap.size 49 i0 (.agg #[.int .i64 0,.int .i64 0,.int .i64 0,.slice none 0 0]) 4 48 Tryz.underlying25 hI hZ0 hZ1 hZ2 rfl (by decide) _ M3.length (Ca.cells M3) rfl hrow (some ⟨g6,0,none⟩) 1 1 (fun h=>by cases h) (Ca.cell ⟨Y6,e6,⟨x0,x1,x2,vl⟩⟩) rfl rfl hyL (by intro u hu;simp[Ca.cell]at hu;rcases hu with rfl|rfl|rfl|rfl<;>rfl) ?h63 ?hbytes hsz ?_)
   case h63=>unfold maxLen;omega
   case hbytes=>omega
   intro v' wz hownz hgz _
   have bwz:Below W.heap.size W wz:=HBW.out.grown hgz hsz (fun r e=>own_ge hrow r e)
   have hRz:=HO3.out.snoc (by decide) hgz ⟨Y6,e6,⟨x0,x1,x2,vl⟩⟩ HO6.out HV.out.byte hownz
   obtain⟨VZ,cz,hvz,hOz⟩:=hRz.form
   subst hvz
   obtain⟨Z,hZ⟩:∃Z,M3++[(⟨Y6,e6,⟨x0,x1,x2,vl⟩⟩:Bc)]=Z:=⟨_,rfl⟩
   have hZm:Z.map Bc.b=F++[⟨x0,x1,x2,vl⟩]:=by rw[←hZ,List.map_append,HM3.out];rfl
   have hZu:Ca.used (Z.map Bc.b)≤16777472:=by
    rw[hZm,Ca.used_append]
    simp only[Ca.used]
    omega
   rw[hZ]at hOz
   have hZl:M3.length+1=Z.length:=by rw[←hZ,List.length_append];rfl
   rw[hZ]
   have HO:=Hd (hOz.lower hzW)
   have HBZ:=Hd (below_on BBW.out bwz)
   have HZM:=Hd hZm
   clear hownz hgz hrow hyL bwz hRz hOz HM3 HO3 HO6 HBW hZ hZm hZl hsz
   go_wp2_with fail
   go_loopw [8] (fun s8 wr=>∃(AZ:Option Addr) (c8:Nat) (M:List Bc),s8 = .slice AZ M.length c8∧OwnC wr w.heap.size AZ c8 M∧Ca.fit room (M.map Bc.b)=Ca.fit room (Z.map Bc.b)∧Ca.used (M.map Bc.b)≤16777472∧Below w.heap.size w wr) (fun s8 _=>match s8 with | .slice _ n _=>n|_=>0)
   case atStart=>exact⟨VZ,cz,Z,rfl,HO.out,rfl,hZu,HBZ.out⟩
   case round=>
    obtain⟨AZ,c8,M,rfl,hO,hfit,hMu,hbw⟩:=hrel
    have NU:=Hd (cdused_any AZ c8 M wr hO.one (by omega))
    obtain⟨u,hu⟩:∃u,Ca.used (M.map Bc.b)=u:=⟨_,rfl⟩
    rw[hu]at NU hMu
    have HU:=Hd hu
    have HO:=Hd hO
    have HFIT:=Hd hfit
    have BW:=Hd hbw
    clear hO hfit hbw hu
    by_cases hroom:room<(u:Int)
    ·have hd:decide (room<(u:Int))=true:=decide_eq_true hroom
     have hne:M≠[]:=fun e=>by
      have:=HU.out
      rw[e]at this
      have h0:u=0:=this.symm
      omega
     cases M with
     |nil=>exact absurd rfl hne
     |cons z r=>
      obtain⟨b,off,hA,-⟩:=HO.out.one.at hne
      subst hA
      have hfg:=Ca.fit_gone room z.b (r.map Bc.b) (by have:=HU.out;rw[List.map_cons]at this;rw[this];exact hroom)
      have hru:Ca.used (r.map Bc.b)≤16777472:=by have:=HU.out;rw[List.map_cons]at this;simp only[Ca.used]at this;omega
      have HFG:=Hd (show Ca.fit room (r.map Bc.b)=Ca.fit room (Z.map Bc.b) from by rw[←HFIT.out,List.map_cons,hfg])
      have hle:=HO.out.one.le
      have hcap:=HO.out.one.cap
      unfold maxLen at hcap
      rw[List.length_cons]at hle ⊢
      rw[List.length_cons]at NU
      clear hfg hne HFIT hroom
      by_cases hc1:c8=1
      ·subst hc1
       obtain⟨hr0,hO2⟩:=HO.out.tail1
       subst hr0
       have HO2:=Hd hO2
       clear hO2 HO
       go_wp2_with fail
       refine NU.out.mono ?_
       rintro e w9 ⟨rfl,b9⟩
       have HO3:=Hd (HO2.out.later b9)
       have BB:=Hd (below_on BW.out b9)
       clear b9 NU
       go_wp2_with fail
       go_roundw
       case rel=>exact⟨some ⟨b,off,none⟩,0,[],by first|rfl|trivial|simp,HO3.out,HFG.out,hru,BB.out⟩
       case measure=>simp
      ·have HO2:=Hd (HO.out.tail)
       clear HO
       go_wp2_with fail
       refine NU.out.mono ?_
       rintro e w9 ⟨rfl,b9⟩
       have HO3:=Hd (HO2.out.later b9)
       have BB:=Hd (below_on BW.out b9)
       clear b9 NU
       go_wp2_with fail
       go_roundw
       case rel=>exact⟨some ⟨b,off+4,none⟩,c8-1,r,by first|rfl|trivial|simp,HO3.out,HFG.out,hru,BB.out⟩
       case measure=>simp
    ·have hd:decide (room<(u:Int))=false:=decide_eq_false hroom
     have hst:=Ca.fit_stay room (M.map Bc.b) (by rw[HU.out];exact hroom)
     have HST:=Hd (show M.map Bc.b=Ca.fit room (F++[⟨x0,x1,x2,vl⟩]) from by rw[←HZM.out,←HFIT.out,hst])
     clear hst hroom
     go_wp2_with fail
     refine NU.out.mono ?_
     rintro e w9 ⟨rfl,b9⟩
     have HO3:=Hd (HO.out.later b9)
     have BB:=Hd (below_on BW.out b9)
     clear b9 NU
     go_wp2
     go_ret2
     exact⟨AZ,c8,M,rfl,HST.out,HO3.out,BB.out⟩
theorem Vd.put_no{l:List Bd}{room:Int}{x:Bd}(h:Wi.bright x=false):Ca.putR l room x=([],1):=by
 unfold Ca.putR
 cases Ca.fmd l room<;>simp[h]
theorem Vd.z_len{zs:List Zc}(h:Tr.fmd (zs.map Zc.zn)=true):zs.length≤256∧∀z∈zs,z.l.length≤64:=by
 refine⟨by have:=Tr.fmd_len h;rwa [List.length_map]at this,fun z hz =>?_⟩
 obtain⟨k,hk,rfl⟩:=List.mem_iff_getElem.1 hz
 have h1:=((Tr.fmd_iff _).1 h k (by rw[List.length_map];exact hk)).2.1
 rw[zn_getD (List.getElem?_eq_getElem hk)]at h1
 exact Vw.k_len h1
set_option maxRecDepth 100000 in
set_option maxHeartbeats 6400000 in
theorem vdbodyN_any(q:Vl)(X:Option Addr)(xd:Nat)(x:Bd)(w:World)(h:VwAt w q)(hx:OneB w X xd x.v):Calls Tryz.prog 25 #[.agg (vwCells q),.agg (bdCells X xd x)] w (GivesVwN (Vw.bodyR q.vw x).1 (Vw.bodyR q.vw x).2 w):=by
 have c1:=fun wx (hb:Below w.heap.size w wx)=>vdformed_any q wx (h.later hb)
 have c2:=fun wx (hb:Below w.heap.size w wx)=>cdput_any q.B X q.cb xd q.b q.r x wx (h.later hb).b (hx.later hb)
 have hR:Vw.bodyR q.vw x=if Vw.fmd q.vw=true∧Wi.bright x=true then (if Vw.wants q.vw x=true then (⟨q.k,q.z.map Zc.zn,q.h,(Ca.putR (q.b.map Bc.b) q.r x).1,q.r⟩,0) else (Vw.zero,13)) else (Vw.zero,1):=rfl
 rw[hR]
 clear hR
 cases hf:Vw.fmd q.vw with
 |false=>
  rw[if_neg (fun h=>Bool.false_ne_true h.1)]
  rw[hf]at c1
  clear c2 h hx hf
  obtain⟨K,ck,kn,Z,cz,zs,H,ch,hs,B,cb,bs,room⟩:=q
  obtain⟨x0,x1,x2,xv⟩:=x
  unfold vwCells bdCells at *
  dsimp only at *
  have C1:=Hd c1
  clear c1
  have hb0:=below_new (below_new (below_new (Below.refl w.heap.size w) (.cells #[.slice K kn.length ck,.slice Z zs.length cz,.slice H hs.length ch,.slice B bs.length cb,.int .i64 room] 27)) (.cells #[.int .i64 x0,.int .i64 x1,.int .i64 x2,.slice X xv.length xd] 49)) (.cells #[.slice none 0 0,.slice none 0 0,.slice none 0 0,.slice none 0 0,.int .i64 0] 27)
  have hV:=((Blk.new w 27 #[.slice K kn.length ck,.slice Z zs.length cz,.slice H hs.length ch,.slice B bs.length cb,.int .i64 room]).alloc (.cells #[.int .i64 x0,.int .i64 x1,.int .i64 x2,.slice X xv.length xd] 49)).alloc (.cells #[.slice none 0 0,.slice none 0 0,.slice none 0 0,.slice none 0 0,.int .i64 0] 27)
  have hY:=(Blk.new (w.alloc (.cells #[.slice K kn.length ck,.slice Z zs.length cz,.slice H hs.length ch,.slice B bs.length cb,.int .i64 room] 27)) 49 #[.int .i64 x0,.int .i64 x1,.int .i64 x2,.slice X xv.length xd]).alloc (.cells #[.slice none 0 0,.slice none 0 0,.slice none 0 0,.slice none 0 0,.int .i64 0] 27)
  simp only[World.size_alloc]at hY
  have hR:=Blk.new ((w.alloc (.cells #[.slice K kn.length ck,.slice Z zs.length cz,.slice H hs.length ch,.slice B bs.length cb,.int .i64 room] 27)).alloc (.cells #[.int .i64 x0,.int .i64 x1,.int .i64 x2,.slice X xv.length xd] 49)) 27 #[.slice none 0 0,.slice none 0 0,.slice none 0 0,.slice none 0 0,.int .i64 0]
  simp only[World.size_alloc]at hR
  obtain⟨W,hW⟩:∃W,((w.alloc (.cells #[.slice K kn.length ck,.slice Z zs.length cz,.slice H hs.length ch,.slice B bs.length cb,.int .i64 room] 27)).alloc (.cells #[.int .i64 x0,.int .i64 x1,.int .i64 x2,.slice X xv.length xd] 49)).alloc (.cells #[.slice none 0 0,.slice none 0 0,.slice none 0 0,.slice none 0 0,.int .i64 0] 27)=W:=⟨_,rfl⟩
  rw[hW]at hb0 hV hY hR
  have HW:=Hd hW
  obtain⟨g,hgg⟩:∃g,w.heap.size=g:=⟨_,rfl⟩
  rw[hgg]at hV hY hR
  have HV:=Hd (show Blk W (g) 27 #[.slice K kn.length ck,.slice Z zs.length cz,.slice H hs.length ch,.slice B bs.length cb,.int .i64 room] from hV)
  have HY:=Hd (show Blk W (g+1) 49 #[.int .i64 x0,.int .i64 x1,.int .i64 x2,.slice X xv.length xd] from hY)
  have HR:=Hd (show Blk W (g+2) 27 #[.slice none 0 0,.slice none 0 0,.slice none 0 0,.slice none 0 0,.int .i64 0] from hR)
  have HB0:=Hd hb0
  clear hW hb0 hV hY hR
  go_enter Tryz.func25,Tryz.ntmps25
  go_upto_region 1 with (fail)
  rw[HW.out]
  clear HW
  have V_0:=HV.out.cell (i:=0) rfl
  have V_1:=HV.out.cell (i:=1) rfl
  have V_2:=HV.out.cell (i:=2) rfl
  have V_3:=HV.out.cell (i:=3) rfl
  have V_4:=HV.out.cell (i:=4) rfl
  go_wp2_with fail
  refine(C1.out _ HB0.out).mono ?_
  rintro e w1 ⟨rfl,b1⟩
  clear V_0 V_1 V_2 V_3 V_4
  replace HV:=Hd (HV.out.later b1)
  replace HY:=Hd (HY.out.later b1)
  replace HR:=Hd (HR.out.later b1)
  have HB1:=Hd (below_on HB0.out b1)
  clear HB0
  clear b1 C1
  have R_0:=HR.out.cell (i:=0) rfl
  have R_1:=HR.out.cell (i:=1) rfl
  have R_2:=HR.out.cell (i:=2) rfl
  have R_3:=HR.out.cell (i:=3) rfl
  have R_4:=HR.out.cell (i:=4) rfl
  have R_f0:=HR.out.free 0
  have R_f1:=HR.out.free 1
  have R_f2:=HR.out.free 2
  have R_f3:=HR.out.free 3
  have R_f4:=HR.out.free 4
  have hh:w.heap.size≤g+2:=by omega
  have HP:=Hd (((((HR.out.put 0 (.slice none 0 0)).put 1 (.slice none 0 0)).put 2 (.slice none 0 0)).put 3 (.slice none 0 0)).put 4 (.int .i64 0))
  have HQ:=Hd (((((HB1.out.setCell (p:=⟨g+2,0,none⟩) hh (.slice none 0 0)).setCell (p:=⟨g+2,1,none⟩) hh (.slice none 0 0)).setCell (p:=⟨g+2,2,none⟩) hh (.slice none 0 0)).setCell (p:=⟨g+2,3,none⟩) hh (.slice none 0 0)).setCell (p:=⟨g+2,4,none⟩) hh (.int .i64 0))
  clear hh
  go_wp2
  exact bodyPost_ret (results_cell_tmp (p:=4) (t1:=5) (ty:=27) rfl _ _ (g+2) 27 #[.slice none 0 0,.slice none 0 0,.slice none 0 0,.slice none 0 0,.int .i64 0] _ rfl HP.out Tryz.underlying27 rfl infoVw) rfl ⟨Vl.none,rfl,rfl,VwAt.none _,VwLo.none,HQ.out⟩
 |true=>
 rw[hf]at c1
 cases hbr:Wi.bright x with
 |false=>
  rw[if_neg (fun h=>Bool.false_ne_true h.2)]
  rw[Vd.put_no hbr]at c2
  clear h hx hf hbr
  obtain⟨K,ck,kn,Z,cz,zs,H,ch,hs,B,cb,bs,room⟩:=q
  obtain⟨x0,x1,x2,xv⟩:=x
  unfold vwCells bdCells at *
  dsimp only at *
  have C1:=Hd c1
  have C2:=Hd c2
  clear c1 c2
  have hb0:=below_new (below_new (below_new (Below.refl w.heap.size w) (.cells #[.slice K kn.length ck,.slice Z zs.length cz,.slice H hs.length ch,.slice B bs.length cb,.int .i64 room] 27)) (.cells #[.int .i64 x0,.int .i64 x1,.int .i64 x2,.slice X xv.length xd] 49)) (.cells #[.slice none 0 0,.slice none 0 0,.slice none 0 0,.slice none 0 0,.int .i64 0] 27)
  have hV:=((Blk.new w 27 #[.slice K kn.length ck,.slice Z zs.length cz,.slice H hs.length ch,.slice B bs.length cb,.int .i64 room]).alloc (.cells #[.int .i64 x0,.int .i64 x1,.int .i64 x2,.slice X xv.length xd] 49)).alloc (.cells #[.slice none 0 0,.slice none 0 0,.slice none 0 0,.slice none 0 0,.int .i64 0] 27)
  have hY:=(Blk.new (w.alloc (.cells #[.slice K kn.length ck,.slice Z zs.length cz,.slice H hs.length ch,.slice B bs.length cb,.int .i64 room] 27)) 49 #[.int .i64 x0,.int .i64 x1,.int .i64 x2,.slice X xv.length xd]).alloc (.cells #[.slice none 0 0,.slice none 0 0,.slice none 0 0,.slice none 0 0,.int .i64 0] 27)
  simp only[World.size_alloc]at hY
  have hR:=Blk.new ((w.alloc (.cells #[.slice K kn.length ck,.slice Z zs.length cz,.slice H hs.length ch,.slice B bs.length cb,.int .i64 room] 27)).alloc (.cells #[.int .i64 x0,.int .i64 x1,.int .i64 x2,.slice X xv.length xd] 49)) 27 #[.slice none 0 0,.slice none 0 0,.slice none 0 0,.slice none 0 0,.int .i64 0]
  simp only[World.size_alloc]at hR
  obtain⟨W,hW⟩:∃W,((w.alloc (.cells #[.slice K kn.length ck,.slice Z zs.length cz,.slice H hs.length ch,.slice B bs.length cb,.int .i64 room] 27)).alloc (.cells #[.int .i64 x0,.int .i64 x1,.int .i64 x2,.slice X xv.length xd] 49)).alloc (.cells #[.slice none 0 0,.slice none 0 0,.slice none 0 0,.slice none 0 0,.int .i64 0] 27)=W:=⟨_,rfl⟩
  rw[hW]at hb0 hV hY hR
  have HW:=Hd hW
  obtain⟨g,hgg⟩:∃g,w.heap.size=g:=⟨_,rfl⟩
  rw[hgg]at hV hY hR
  have HV:=Hd (show Blk W (g) 27 #[.slice K kn.length ck,.slice Z zs.length cz,.slice H hs.length ch,.slice B bs.length cb,.int .i64 room] from hV)
  have HY:=Hd (show Blk W (g+1) 49 #[.int .i64 x0,.int .i64 x1,.int .i64 x2,.slice X xv.length xd] from hY)
  have HR:=Hd (show Blk W (g+2) 27 #[.slice none 0 0,.slice none 0 0,.slice none 0 0,.slice none 0 0,.int .i64 0] from hR)
  have HB0:=Hd hb0
  clear hW hb0 hV hY hR
  go_enter Tryz.func25,Tryz.ntmps25
  go_upto_region 1 with (fail)
  rw[HW.out]
  clear HW
  have V_0:=HV.out.cell (i:=0) rfl
  have V_1:=HV.out.cell (i:=1) rfl
  have V_2:=HV.out.cell (i:=2) rfl
  have V_3:=HV.out.cell (i:=3) rfl
  have V_4:=HV.out.cell (i:=4) rfl
  go_wp2_with fail
  refine(C1.out _ HB0.out).mono ?_
  rintro e w1 ⟨rfl,b1⟩
  clear V_0 V_1 V_2 V_3 V_4
  replace HV:=Hd (HV.out.later b1)
  replace HY:=Hd (HY.out.later b1)
  replace HR:=Hd (HR.out.later b1)
  have HB1:=Hd (below_on HB0.out b1)
  clear HB0
  clear b1 C1
  have V_3:=HV.out.cell (i:=3) rfl
  have V_4:=HV.out.cell (i:=4) rfl
  have Y_0:=HY.out.cell (i:=0) rfl
  have Y_1:=HY.out.cell (i:=1) rfl
  have Y_2:=HY.out.cell (i:=2) rfl
  have Y_3:=HY.out.cell (i:=3) rfl
  have HLE:=Hd HB1.out.size
  go_wp2_with fail
  refine(C2.out _ HB1.out).mono ?_
  rintro e w2 ⟨A1,c1,L1,rfl,hm1,hO1,b2⟩
  clear V_3 V_4 Y_0 Y_1 Y_2 Y_3
  replace HV:=Hd (HV.out.later b2)
  replace HY:=Hd (HY.out.later b2)
  replace HR:=Hd (HR.out.later b2)
  have HB2:=Hd (below_on HB1.out b2)
  clear HB1
  clear b2 C2
  clear hm1 hO1 HLE
  have R_0:=HR.out.cell (i:=0) rfl
  have R_1:=HR.out.cell (i:=1) rfl
  have R_2:=HR.out.cell (i:=2) rfl
  have R_3:=HR.out.cell (i:=3) rfl
  have R_4:=HR.out.cell (i:=4) rfl
  have R_f0:=HR.out.free 0
  have R_f1:=HR.out.free 1
  have R_f2:=HR.out.free 2
  have R_f3:=HR.out.free 3
  have R_f4:=HR.out.free 4
  have hh:w.heap.size≤g+2:=by omega
  have HP:=Hd (((((HR.out.put 0 (.slice none 0 0)).put 1 (.slice none 0 0)).put 2 (.slice none 0 0)).put 3 (.slice none 0 0)).put 4 (.int .i64 0))
  have HQ:=Hd (((((HB2.out.setCell (p:=⟨g+2,0,none⟩) hh (.slice none 0 0)).setCell (p:=⟨g+2,1,none⟩) hh (.slice none 0 0)).setCell (p:=⟨g+2,2,none⟩) hh (.slice none 0 0)).setCell (p:=⟨g+2,3,none⟩) hh (.slice none 0 0)).setCell (p:=⟨g+2,4,none⟩) hh (.int .i64 0))
  clear hh
  go_wp2
  exact bodyPost_ret (results_cell_tmp (p:=4) (t1:=5) (ty:=27) rfl _ _ (g+2) 27 #[.slice none 0 0,.slice none 0 0,.slice none 0 0,.slice none 0 0,.int .i64 0] _ rfl HP.out Tryz.underlying27 rfl infoVw) rfl ⟨Vl.none,rfl,rfl,VwAt.none _,VwLo.none,HQ.out⟩
 |true=>
  rw[if_pos ⟨rfl,rfl⟩]
  obtain⟨hkf,hzf,hhf,hbf⟩:=Vw.fmd_all hf
  obtain⟨zl1,zl2⟩:=Vd.z_len (zs:=q.z) hzf
  have c5:=fun wx (hb:Below w.heap.size w wx)=>cloneS_any q.K q.ck q.k wx (by have:=Vw.k_len (show Ve.fmd q.k=true from hkf);omega) (h.later hb).k
  have c6:=fun wx (hb:Below w.heap.size w wx)=>vdownZonesN_any q.Z q.cz q.z wx (h.later hb).z (by omega) (fun z hz=>by have:=zl2 z hz;omega)
  have c7:=fun wx (hb:Below w.heap.size w wx)=>cloneW_any q.H q.ch q.h wx (by have:=Sf.fmd_len (show Sf.fmd q.h=true from hhf);omega) (h.later hb).h
  have c3:=fun wx (hb:Below w.heap.size w wx)=>vdvalues_any q.H q.ch q.h wx (h.later hb).h hhf
  have hob:=((Vd.bright_iff x).1 hbr).1
  have hwt:=Vd.has_wants (v:=q.vw) hhf hbr
  have c4:=fun g wx (hT:Blk wx g 119 (Vd.sArr (Vd.val q.h)))=>vdhas_any g (Vd.val q.h) X xd x wx hT hob.1 hob.2
  have hwt:decide (Vd.val q.h x.o.toNat=(x.c,x.n))=Vw.wants q.vw x:=hwt
  obtain⟨wt,hwq⟩:∃wt,Vw.wants q.vw x=wt:=⟨_,rfl⟩
  rw[hwq]at hwt ⊢
  rw[hwt]at c4
  obtain⟨hp1,-,-⟩:=Ca.put_fmd (S:=q.b.map Bc.b) (room:=q.r) (x:=x) hbf hbr
  rw[hp1]at c2 ⊢
  dsimp only at c2 ⊢
  obtain⟨PB,hPB⟩:∃PB,Ca.fit q.r (Ca.forget (q.b.map Bc.b) x.o++[x])=PB:=⟨_,rfl⟩
  rw[hPB]at c2 ⊢
  clear hPB hp1 hwq hwt hob zl1 zl2 hkf hzf hhf hbf hbr hf h hx
  obtain⟨K,ck,kn,Z,cz,zs,H,ch,hs,B,cb,bs,room⟩:=q
  obtain⟨x0,x1,x2,xv⟩:=x
  unfold vwCells bdCells at *
  dsimp only at *
  have C1:=Hd c1
  have C2:=Hd c2
  have C3:=Hd c3
  have C4:=Hd c4
  have C5:=Hd c5
  have C6:=Hd c6
  have C7:=Hd c7
  clear c1 c2 c3 c4 c5 c6 c7
  cases wt with
  |false=>
  rw[if_neg Bool.false_ne_true]
  have hb0:=below_new (below_new (below_new (Below.refl w.heap.size w) (.cells #[.slice K kn.length ck,.slice Z zs.length cz,.slice H hs.length ch,.slice B bs.length cb,.int .i64 room] 27)) (.cells #[.int .i64 x0,.int .i64 x1,.int .i64 x2,.slice X xv.length xd] 49)) (.cells #[.slice none 0 0,.slice none 0 0,.slice none 0 0,.slice none 0 0,.int .i64 0] 27)
  have hV:=((Blk.new w 27 #[.slice K kn.length ck,.slice Z zs.length cz,.slice H hs.length ch,.slice B bs.length cb,.int .i64 room]).alloc (.cells #[.int .i64 x0,.int .i64 x1,.int .i64 x2,.slice X xv.length xd] 49)).alloc (.cells #[.slice none 0 0,.slice none 0 0,.slice none 0 0,.slice none 0 0,.int .i64 0] 27)
  have hY:=(Blk.new (w.alloc (.cells #[.slice K kn.length ck,.slice Z zs.length cz,.slice H hs.length ch,.slice B bs.length cb,.int .i64 room] 27)) 49 #[.int .i64 x0,.int .i64 x1,.int .i64 x2,.slice X xv.length xd]).alloc (.cells #[.slice none 0 0,.slice none 0 0,.slice none 0 0,.slice none 0 0,.int .i64 0] 27)
  simp only[World.size_alloc]at hY
  have hR:=Blk.new ((w.alloc (.cells #[.slice K kn.length ck,.slice Z zs.length cz,.slice H hs.length ch,.slice B bs.length cb,.int .i64 room] 27)).alloc (.cells #[.int .i64 x0,.int .i64 x1,.int .i64 x2,.slice X xv.length xd] 49)) 27 #[.slice none 0 0,.slice none 0 0,.slice none 0 0,.slice none 0 0,.int .i64 0]
  simp only[World.size_alloc]at hR
  obtain⟨W,hW⟩:∃W,((w.alloc (.cells #[.slice K kn.length ck,.slice Z zs.length cz,.slice H hs.length ch,.slice B bs.length cb,.int .i64 room] 27)).alloc (.cells #[.int .i64 x0,.int .i64 x1,.int .i64 x2,.slice X xv.length xd] 49)).alloc (.cells #[.slice none 0 0,.slice none 0 0,.slice none 0 0,.slice none 0 0,.int .i64 0] 27)=W:=⟨_,rfl⟩
  rw[hW]at hb0 hV hY hR
  have HW:=Hd hW
  obtain⟨g,hgg⟩:∃g,w.heap.size=g:=⟨_,rfl⟩
  rw[hgg]at hV hY hR
  have HV:=Hd (show Blk W (g) 27 #[.slice K kn.length ck,.slice Z zs.length cz,.slice H hs.length ch,.slice B bs.length cb,.int .i64 room] from hV)
  have HY:=Hd (show Blk W (g+1) 49 #[.int .i64 x0,.int .i64 x1,.int .i64 x2,.slice X xv.length xd] from hY)
  have HR:=Hd (show Blk W (g+2) 27 #[.slice none 0 0,.slice none 0 0,.slice none 0 0,.slice none 0 0,.int .i64 0] from hR)
  have HB0:=Hd hb0
  clear hW hb0 hV hY hR
  go_enter Tryz.func25,Tryz.ntmps25
  go_upto_region 1 with (fail)
  rw[HW.out]
  clear HW
  have V_0:=HV.out.cell (i:=0) rfl
  have V_1:=HV.out.cell (i:=1) rfl
  have V_2:=HV.out.cell (i:=2) rfl
  have V_3:=HV.out.cell (i:=3) rfl
  have V_4:=HV.out.cell (i:=4) rfl
  go_wp2_with fail
  refine(C1.out _ HB0.out).mono ?_
  rintro e w1 ⟨rfl,b1⟩
  clear V_0 V_1 V_2 V_3 V_4
  replace HV:=Hd (HV.out.later b1)
  replace HY:=Hd (HY.out.later b1)
  replace HR:=Hd (HR.out.later b1)
  have HB1:=Hd (below_on HB0.out b1)
  clear HB0
  clear b1 C1
  have V_3:=HV.out.cell (i:=3) rfl
  have V_4:=HV.out.cell (i:=4) rfl
  have Y_0:=HY.out.cell (i:=0) rfl
  have Y_1:=HY.out.cell (i:=1) rfl
  have Y_2:=HY.out.cell (i:=2) rfl
  have Y_3:=HY.out.cell (i:=3) rfl
  have HLE:=Hd HB1.out.size
  go_wp2_with fail
  refine(C2.out _ HB1.out).mono ?_
  rintro e w2 ⟨A1,c1,L1,rfl,hm1,hO1,b2⟩
  clear V_3 V_4 Y_0 Y_1 Y_2 Y_3
  replace HV:=Hd (HV.out.later b2)
  replace HY:=Hd (HY.out.later b2)
  replace HR:=Hd (HR.out.later b2)
  have HB2:=Hd (below_on HB1.out b2)
  clear HB1
  clear b2 C2
  have HM1:=Hd hm1
  have XB:=Hd hO1.one
  have HLB:=Hd ((LoC.of_own hO1).lower HLE.out)
  clear hm1 hO1 HLE
  have V_2:=HV.out.cell (i:=2) rfl
  go_wp2_with fail
  refine(C3.out _ HB2.out).mono ?_
  rintro e w3 ⟨rfl,b3⟩
  clear V_2
  replace HV:=Hd (HV.out.later b3)
  replace HY:=Hd (HY.out.later b3)
  replace HR:=Hd (HR.out.later b3)
  have HB3:=Hd (below_on HB2.out b3)
  clear HB2
  replace XB:=Hd (XB.out.later b3)
  clear b3 C3
  obtain⟨gt,hggt⟩:∃gt,w3.heap.size=gt:=⟨_,rfl⟩
  have lt_V_gt:g<gt:=by have:=HV.out.lt;rw[hggt]at this;exact this
  have lt_Y_gt:g+1<gt:=by have:=HY.out.lt;rw[hggt]at this;exact this
  have lt_R_gt:g+2<gt:=by have:=HR.out.lt;rw[hggt]at this;exact this
  have le_gt:w.heap.size≤gt:=by have:=HB3.out.size;rw[hggt]at this;exact this
  have b4:=below_new (Below.refl w3.heap.size w3) (.cells Tryz.zeroCells119 119)
  have hT:=Blk.new w3 119 Tryz.zeroCells119
  obtain⟨wa4,hwa4⟩:∃x,w3.alloc (.cells Tryz.zeroCells119 119)=x:=⟨_,rfl⟩
  rw[hwa4]at b4 hT
  rw[vals_zero,hggt]at hT
  have ZT:=Hd hT
  go_upto_region 7 with (first|(refine wpList_store_row rfl 119 _ _ rfl gt _ rfl rfl 119 _ ZT.out (by rw[Vd.sArr_size];exact infoVals) (by rw[Vd.sArr_size,Vd.sArr_size]) (one_sArr _) ?_))
  obtain⟨w4,hw4⟩:∃x,wa4.setRow gt (Vd.sArr (Vd.val hs))=x:=⟨_,rfl⟩
  rw[hw4]
  have bb4:Below w3.heap.size w3 w4:=by rw[←hw4];exact below_setRow b4 (by omega) _
  have hT2:Blk w4 gt 119 (Vd.sArr (Vd.val hs)):=by rw[←hw4];exact hT.row (Vd.sArr (Vd.val hs))
  replace HV:=Hd (HV.out.later bb4)
  replace HY:=Hd (HY.out.later bb4)
  replace HR:=Hd (HR.out.later bb4)
  have HB4:=Hd (below_on HB3.out bb4)
  clear HB3
  replace XB:=Hd (XB.out.later bb4)
  have HT:=Hd hT2
  clear b4 hT hT2 bb4 hw4 hwa4 ZT
  have Y_0:=HY.out.cell (i:=0) rfl
  have Y_1:=HY.out.cell (i:=1) rfl
  have Y_2:=HY.out.cell (i:=2) rfl
  have Y_3:=HY.out.cell (i:=3) rfl
  go_wp2_with fail
  refine(C4.out gt _ HT.out).mono ?_
  rintro e w5 ⟨rfl,b5⟩
  clear Y_0 Y_1 Y_2 Y_3
  replace HV:=Hd (HV.out.later b5)
  replace HY:=Hd (HY.out.later b5)
  replace HR:=Hd (HR.out.later b5)
  replace HT:=Hd (HT.out.later b5)
  have HB5:=Hd (below_on HB4.out b5)
  clear HB4
  replace XB:=Hd (XB.out.later b5)
  clear b5 C4
  have R_0:=HR.out.cell (i:=0) rfl
  have R_1:=HR.out.cell (i:=1) rfl
  have R_2:=HR.out.cell (i:=2) rfl
  have R_3:=HR.out.cell (i:=3) rfl
  have R_4:=HR.out.cell (i:=4) rfl
  have R_f0:=HR.out.free 0
  have R_f1:=HR.out.free 1
  have R_f2:=HR.out.free 2
  have R_f3:=HR.out.free 3
  have R_f4:=HR.out.free 4
  have hh:w.heap.size≤g+2:=by omega
  have HP:=Hd (((((HR.out.put 0 (.slice none 0 0)).put 1 (.slice none 0 0)).put 2 (.slice none 0 0)).put 3 (.slice none 0 0)).put 4 (.int .i64 0))
  have HQ:=Hd (((((HB5.out.setCell (p:=⟨g+2,0,none⟩) hh (.slice none 0 0)).setCell (p:=⟨g+2,1,none⟩) hh (.slice none 0 0)).setCell (p:=⟨g+2,2,none⟩) hh (.slice none 0 0)).setCell (p:=⟨g+2,3,none⟩) hh (.slice none 0 0)).setCell (p:=⟨g+2,4,none⟩) hh (.int .i64 0))
  clear hh
  go_wp2
  exact bodyPost_ret (results_cell_tmp (p:=4) (t1:=5) (ty:=27) rfl _ _ (g+2) 27 #[.slice none 0 0,.slice none 0 0,.slice none 0 0,.slice none 0 0,.int .i64 0] _ rfl HP.out Tryz.underlying27 rfl infoVw) rfl ⟨Vl.none,rfl,rfl,VwAt.none _,VwLo.none,HQ.out⟩
  |true=>
  rw[if_pos rfl]
  have hb0:=below_new (below_new (below_new (Below.refl w.heap.size w) (.cells #[.slice K kn.length ck,.slice Z zs.length cz,.slice H hs.length ch,.slice B bs.length cb,.int .i64 room] 27)) (.cells #[.int .i64 x0,.int .i64 x1,.int .i64 x2,.slice X xv.length xd] 49)) (.cells #[.slice none 0 0,.slice none 0 0,.slice none 0 0,.slice none 0 0,.int .i64 0] 27)
  have hV:=((Blk.new w 27 #[.slice K kn.length ck,.slice Z zs.length cz,.slice H hs.length ch,.slice B bs.length cb,.int .i64 room]).alloc (.cells #[.int .i64 x0,.int .i64 x1,.int .i64 x2,.slice X xv.length xd] 49)).alloc (.cells #[.slice none 0 0,.slice none 0 0,.slice none 0 0,.slice none 0 0,.int .i64 0] 27)
  have hY:=(Blk.new (w.alloc (.cells #[.slice K kn.length ck,.slice Z zs.length cz,.slice H hs.length ch,.slice B bs.length cb,.int .i64 room] 27)) 49 #[.int .i64 x0,.int .i64 x1,.int .i64 x2,.slice X xv.length xd]).alloc (.cells #[.slice none 0 0,.slice none 0 0,.slice none 0 0,.slice none 0 0,.int .i64 0] 27)
  simp only[World.size_alloc]at hY
  have hR:=Blk.new ((w.alloc (.cells #[.slice K kn.length ck,.slice Z zs.length cz,.slice H hs.length ch,.slice B bs.length cb,.int .i64 room] 27)).alloc (.cells #[.int .i64 x0,.int .i64 x1,.int .i64 x2,.slice X xv.length xd] 49)) 27 #[.slice none 0 0,.slice none 0 0,.slice none 0 0,.slice none 0 0,.int .i64 0]
  simp only[World.size_alloc]at hR
  obtain⟨W,hW⟩:∃W,((w.alloc (.cells #[.slice K kn.length ck,.slice Z zs.length cz,.slice H hs.length ch,.slice B bs.length cb,.int .i64 room] 27)).alloc (.cells #[.int .i64 x0,.int .i64 x1,.int .i64 x2,.slice X xv.length xd] 49)).alloc (.cells #[.slice none 0 0,.slice none 0 0,.slice none 0 0,.slice none 0 0,.int .i64 0] 27)=W:=⟨_,rfl⟩
  rw[hW]at hb0 hV hY hR
  have HW:=Hd hW
  obtain⟨g,hgg⟩:∃g,w.heap.size=g:=⟨_,rfl⟩
  rw[hgg]at hV hY hR
  have HV:=Hd (show Blk W (g) 27 #[.slice K kn.length ck,.slice Z zs.length cz,.slice H hs.length ch,.slice B bs.length cb,.int .i64 room] from hV)
  have HY:=Hd (show Blk W (g+1) 49 #[.int .i64 x0,.int .i64 x1,.int .i64 x2,.slice X xv.length xd] from hY)
  have HR:=Hd (show Blk W (g+2) 27 #[.slice none 0 0,.slice none 0 0,.slice none 0 0,.slice none 0 0,.int .i64 0] from hR)
  have HB0:=Hd hb0
  clear hW hb0 hV hY hR
  go_enter Tryz.func25,Tryz.ntmps25
  go_upto_region 1 with (fail)
  rw[HW.out]
  clear HW
  have V_0:=HV.out.cell (i:=0) rfl
  have V_1:=HV.out.cell (i:=1) rfl
  have V_2:=HV.out.cell (i:=2) rfl
  have V_3:=HV.out.cell (i:=3) rfl
  have V_4:=HV.out.cell (i:=4) rfl
  go_wp2_with fail
  refine(C1.out _ HB0.out).mono ?_
  rintro e w1 ⟨rfl,b1⟩
  clear V_0 V_1 V_2 V_3 V_4
  replace HV:=Hd (HV.out.later b1)
  replace HY:=Hd (HY.out.later b1)
  replace HR:=Hd (HR.out.later b1)
  have HB1:=Hd (below_on HB0.out b1)
  clear HB0
  clear b1 C1
  have V_3:=HV.out.cell (i:=3) rfl
  have V_4:=HV.out.cell (i:=4) rfl
  have Y_0:=HY.out.cell (i:=0) rfl
  have Y_1:=HY.out.cell (i:=1) rfl
  have Y_2:=HY.out.cell (i:=2) rfl
  have Y_3:=HY.out.cell (i:=3) rfl
  have HLE:=Hd HB1.out.size
  go_wp2_with fail
  refine(C2.out _ HB1.out).mono ?_
  rintro e w2 ⟨A1,c1,L1,rfl,hm1,hO1,b2⟩
  clear V_3 V_4 Y_0 Y_1 Y_2 Y_3
  replace HV:=Hd (HV.out.later b2)
  replace HY:=Hd (HY.out.later b2)
  replace HR:=Hd (HR.out.later b2)
  have HB2:=Hd (below_on HB1.out b2)
  clear HB1
  clear b2 C2
  have HM1:=Hd hm1
  have XB:=Hd hO1.one
  have HLB:=Hd ((LoC.of_own hO1).lower HLE.out)
  clear hm1 hO1 HLE
  have V_2:=HV.out.cell (i:=2) rfl
  go_wp2_with fail
  refine(C3.out _ HB2.out).mono ?_
  rintro e w3 ⟨rfl,b3⟩
  clear V_2
  replace HV:=Hd (HV.out.later b3)
  replace HY:=Hd (HY.out.later b3)
  replace HR:=Hd (HR.out.later b3)
  have HB3:=Hd (below_on HB2.out b3)
  clear HB2
  replace XB:=Hd (XB.out.later b3)
  clear b3 C3
  obtain⟨gt,hggt⟩:∃gt,w3.heap.size=gt:=⟨_,rfl⟩
  have lt_V_gt:g<gt:=by have:=HV.out.lt;rw[hggt]at this;exact this
  have lt_Y_gt:g+1<gt:=by have:=HY.out.lt;rw[hggt]at this;exact this
  have lt_R_gt:g+2<gt:=by have:=HR.out.lt;rw[hggt]at this;exact this
  have le_gt:w.heap.size≤gt:=by have:=HB3.out.size;rw[hggt]at this;exact this
  have b4:=below_new (Below.refl w3.heap.size w3) (.cells Tryz.zeroCells119 119)
  have hT:=Blk.new w3 119 Tryz.zeroCells119
  obtain⟨wa4,hwa4⟩:∃x,w3.alloc (.cells Tryz.zeroCells119 119)=x:=⟨_,rfl⟩
  rw[hwa4]at b4 hT
  rw[vals_zero,hggt]at hT
  have ZT:=Hd hT
  go_upto_region 7 with (first|(refine wpList_store_row rfl 119 _ _ rfl gt _ rfl rfl 119 _ ZT.out (by rw[Vd.sArr_size];exact infoVals) (by rw[Vd.sArr_size,Vd.sArr_size]) (one_sArr _) ?_))
  obtain⟨w4,hw4⟩:∃x,wa4.setRow gt (Vd.sArr (Vd.val hs))=x:=⟨_,rfl⟩
  rw[hw4]
  have bb4:Below w3.heap.size w3 w4:=by rw[←hw4];exact below_setRow b4 (by omega) _
  have hT2:Blk w4 gt 119 (Vd.sArr (Vd.val hs)):=by rw[←hw4];exact hT.row (Vd.sArr (Vd.val hs))
  replace HV:=Hd (HV.out.later bb4)
  replace HY:=Hd (HY.out.later bb4)
  replace HR:=Hd (HR.out.later bb4)
  have HB4:=Hd (below_on HB3.out bb4)
  clear HB3
  replace XB:=Hd (XB.out.later bb4)
  have HT:=Hd hT2
  clear b4 hT hT2 bb4 hw4 hwa4 ZT
  have Y_0:=HY.out.cell (i:=0) rfl
  have Y_1:=HY.out.cell (i:=1) rfl
  have Y_2:=HY.out.cell (i:=2) rfl
  have Y_3:=HY.out.cell (i:=3) rfl
  go_wp2_with fail
  refine(C4.out gt _ HT.out).mono ?_
  rintro e w5 ⟨rfl,b5⟩
  clear Y_0 Y_1 Y_2 Y_3
  replace HV:=Hd (HV.out.later b5)
  replace HY:=Hd (HY.out.later b5)
  replace HR:=Hd (HR.out.later b5)
  replace HT:=Hd (HT.out.later b5)
  have HB5:=Hd (below_on HB4.out b5)
  clear HB4
  replace XB:=Hd (XB.out.later b5)
  clear b5 C4
  go_upto_region 9 with (fail)
  have V_0:=HV.out.cell (i:=0) rfl
  have V_1:=HV.out.cell (i:=1) rfl
  have V_2:=HV.out.cell (i:=2) rfl
  have V_4:=HV.out.cell (i:=4) rfl
  refine wp_region_facts 13 (by kernel_rfl) (by kernel_rfl)
   (fun v=>{ tmps:=#[.agg #[.slice K kn.length ck,.slice Z zs.length cz,.slice H hs.length ch,.slice B bs.length cb,.int .i64 room],.agg #[.int .i64 x0,.int .i64 x1,.int .i64 x2,.slice X xv.length xd],.pointer (some ⟨g,0,none⟩),.pointer (some ⟨g+1,0,none⟩),.pointer (some ⟨g+1+1,0,none⟩),.int .i64 0,.slice A1 L1.length c1,.int .i64 0,.pointer (some ⟨gt,0,none⟩),.agg #[.slice K kn.length ck,.slice Z zs.length cz,.slice H hs.length ch,.slice B bs.length cb,.int .i64 room],.bool true,.bool false,undef,.tuple #[.slice A1 L1.length c1,.int .i64 0],.pointer (some ⟨g,3,none⟩),.slice B bs.length cb,.pointer (some ⟨g,4,none⟩),.int .i64 room,.agg #[.int .i64 x0,.int .i64 x1,.int .i64 x2,.slice X xv.length xd],.tuple #[.slice A1 L1.length c1,.int .i64 0],.slice A1 L1.length c1,.int .i64 0,.int .i64 0,.bool false,undef,undef,.pointer (some ⟨g,2,none⟩),.slice H hs.length ch,.agg (Vd.sArr (Vd.val hs)),.agg #[.int .i64 x0,.int .i64 x1,.int .i64 x2,.slice X xv.length xd],.bool true,.bool false,undef,v 0,v 1,v 2,v 3,v 4,v 5,v 6,v 7,v 8,v 9,v 10,v 11,v 12],defers:=[] }) (fun _=>undef)
   (fun i x wx=>match i with
    |0=>x = .pointer (some ⟨g,0,none⟩)
    |1=>x = .slice K kn.length ck
    |2=>∃A9 c9,x = .slice A9 kn.length c9∧OneL wx A9 c9 kn∧Lo w.heap.size A9
    |3=>x = .pointer (some ⟨g,1,none⟩)
    |4=>x = .slice Z zs.length cz
    |5=>∃Ax cx Mx,x = .slice Ax (List.length Mx) cx∧Mx.map Zc.zn=zs.map Zc.zn∧OneZ wx Ax cx Mx∧LoZ w.heap.size Ax Mx
    |6=>x = .pointer (some ⟨g,2,none⟩)
    |7=>x = .slice H hs.length ch
    |8=>∃A9 c9,x = .slice A9 hs.length c9∧OneW wx A9 c9 hs∧Lo w.heap.size A9
    |9=>x = .slice A1 L1.length c1
    |10=>x = .pointer (some ⟨g,4,none⟩)
    |11=>x = .int .i64 room
    |12=>∃Aa ca Ab cb' Mb Ac cc,x = .agg #[.slice Aa kn.length ca,.slice Ab (List.length Mb) cb',.slice Ac hs.length cc,.slice A1 L1.length c1,.int .i64 room]∧OneL wx Aa ca kn∧Mb.map Zc.zn=zs.map Zc.zn∧OneZ wx Ab cb' Mb∧OneW wx Ac cc hs∧Lo w.heap.size Aa∧LoZ w.heap.size Ab Mb∧Lo w.heap.size Ac
    |_=>True)
   (fun w1 w2=>Below w1.heap.size w1 w2) (fun h1 h2=>below_on h1 h2) (fun _=>Below.refl _ _) (Below.drew (Below.refl _ _)) ?stabQ ?stepQ ?doneQ
  case stabQ=>
   rintro i x w1 w2 h hb
   match i,h with
   |0,h=>exact h
   |1,h=>exact h
   |2,h=>obtain⟨A9,c9,e9,h9,l9⟩:=h;exact⟨A9,c9,e9,h9.later hb,l9⟩
   |3,h=>exact h
   |4,h=>exact h
   |5,h=>obtain⟨Ax,cx,Mx,ex,mx,hx,lx⟩:=h;exact⟨Ax,cx,Mx,ex,mx,hx.later hb,lx⟩
   |6,h=>exact h
   |7,h=>exact h
   |8,h=>obtain⟨A9,c9,e9,h9,l9⟩:=h;exact⟨A9,c9,e9,h9.later hb,l9⟩
   |9,h=>exact h
   |10,h=>exact h
   |11,h=>exact h
   |12,h=>obtain⟨Aa,ca,Ab,cb',Mb,Ac,cc,ex,k1,k2,k3,k4,k5⟩:=h;exact⟨Aa,ca,Ab,cb',Mb,Ac,cc,ex,k1.later hb,k2,k3.later hb,k4.later hb,k5⟩
   |i+13,_=>trivial
  case stepQ=>
   intro i hi v w' hb hd
   match i,hi with
   |0,_=>
    refine wpOp_oneH rfl fun KK HKK =>?_
    clear hd
    go_wp2
    exact HKK.out _ _ ⟨_,(by simp[upd];done),Below.refl _ _,rfl⟩
   |1,_=>
    have h0:v 0=_:=hdx hd 0 (by kernel_rfl)
    refine wpOp_oneH rfl fun KK HKK =>?_
    clear hd
    rw[h0]
    have q0:=cell_later hb V_0
    go_wp2
    exact HKK.out _ _ ⟨_,(by simp[upd,h0];done),Below.refl _ _,rfl⟩
   |2,_=>
    have h1:v 1=_:=hdx hd 1 (by kernel_rfl)
    refine wpOp_oneH rfl fun KK HKK =>?_
    clear hd
    rw[h1]
    go_wp2_with fail
    refine(C5.out _ (below_on HB5.out hb)).mono ?_
    rintro e w'' ⟨u,rfl,ho,b⟩
    obtain⟨A9,c9,rfl,hB⟩:=OneL.of_own ho
    have hlo:=(Lo.of_own ho).lower (below_on HB5.out hb).size
    clear ho
    go_wp2
    exact HKK.out _ _ ⟨_,(by simp[upd,h1];done),b,A9,c9,rfl,hB,hlo⟩
   |3,_=>
    refine wpOp_oneH rfl fun KK HKK =>?_
    clear hd
    go_wp2
    exact HKK.out _ _ ⟨_,(by simp[upd];done),Below.refl _ _,rfl⟩
   |4,_=>
    have h3:v 3=_:=hdx hd 3 (by kernel_rfl)
    refine wpOp_oneH rfl fun KK HKK =>?_
    clear hd
    rw[h3]
    have q0:=cell_later hb V_1
    go_wp2
    exact HKK.out _ _ ⟨_,(by simp[upd,h3];done),Below.refl _ _,rfl⟩
   |5,_=>
    have h4:v 4=_:=hdx hd 4 (by kernel_rfl)
    refine wpOp_oneH rfl fun KK HKK =>?_
    clear hd
    rw[h4]
    go_wp2_with fail
    refine(C6.out _ (below_on HB5.out hb)).mono ?_
    rintro e w'' ⟨Ax,cx,Mx,rfl,hM,hB,hlo,b⟩
    have hlo:=hlo.lower (below_on HB5.out hb).size
    go_wp2
    exact HKK.out _ _ ⟨_,(by simp[upd,h4];done),b,Ax,cx,Mx,rfl,hM,hB,hlo⟩
   |6,_=>
    refine wpOp_oneH rfl fun KK HKK =>?_
    clear hd
    go_wp2
    exact HKK.out _ _ ⟨_,(by simp[upd];done),Below.refl _ _,rfl⟩
   |7,_=>
    have h6:v 6=_:=hdx hd 6 (by kernel_rfl)
    refine wpOp_oneH rfl fun KK HKK =>?_
    clear hd
    rw[h6]
    have q0:=cell_later hb V_2
    go_wp2
    exact HKK.out _ _ ⟨_,(by simp[upd,h6];done),Below.refl _ _,rfl⟩
   |8,_=>
    have h7:v 7=_:=hdx hd 7 (by kernel_rfl)
    refine wpOp_oneH rfl fun KK HKK =>?_
    clear hd
    rw[h7]
    go_wp2_with fail
    refine(C7.out _ (below_on HB5.out hb)).mono ?_
    rintro e w'' ⟨u,rfl,ho,b⟩
    obtain⟨A9,c9,rfl,hB⟩:=OneW.of_own ho
    have hlo:=(Lo.of_own ho).lower (below_on HB5.out hb).size
    clear ho
    go_wp2
    exact HKK.out _ _ ⟨_,(by simp[upd,h7];done),b,A9,c9,rfl,hB,hlo⟩
   |9,_=>
    refine wpOp_oneH rfl fun KK HKK =>?_
    clear hd
    go_wp2
    exact HKK.out _ _ ⟨_,(by simp[upd];done),Below.refl _ _,rfl⟩
   |10,_=>
    refine wpOp_oneH rfl fun KK HKK =>?_
    clear hd
    go_wp2
    exact HKK.out _ _ ⟨_,(by simp[upd];done),Below.refl _ _,rfl⟩
   |11,_=>
    have h10:v 10=_:=hdx hd 10 (by kernel_rfl)
    refine wpOp_oneH rfl fun KK HKK =>?_
    clear hd
    rw[h10]
    have q0:=cell_later hb V_4
    go_wp2
    exact HKK.out _ _ ⟨_,(by simp[upd,h10];done),Below.refl _ _,rfl⟩
   |12,_=>
    obtain⟨A2,c2,h2,o2,l2⟩:=hd 2 (List.elem_iff.1 (by kernel_rfl))
    obtain⟨A5,c5,M5,h5,m5,o5,l5⟩:=hd 5 (List.elem_iff.1 (by kernel_rfl))
    obtain⟨A8,c8,h8,o8,l8⟩:=hd 8 (List.elem_iff.1 (by kernel_rfl))
    have h9:v 9=_:=hdx hd 9 (by kernel_rfl)
    have h11:v 11=_:=hdx hd 11 (by kernel_rfl)
    refine wpOp_oneH rfl fun KK HKK =>?_
    clear hd
    rw[h2,h5,h8,h9,h11]
    go_wp2
    exact HKK.out _ _ ⟨_,(by simp[upd,h2,h5,h8,h9,h11];done),Below.refl _ _,A2,c2,A5,c5,M5,A8,c8,rfl,o2,m5,o5,o8,l2,l5,l8⟩
   |k+13,hk=>exact absurd hk (by omega)
  case doneQ=>
   intro v w5 hb hf
   have h0:v 0=_:=hf 0 (by decide)
   have h1:v 1=_:=hf 1 (by decide)
   obtain⟨A2,c2,h2,o2,l2⟩:=hf 2 (by decide)
   have h3:v 3=_:=hf 3 (by decide)
   have h4:v 4=_:=hf 4 (by decide)
   obtain⟨A5,c5,M5,h5,m5,o5,l5⟩:=hf 5 (by decide)
   have h6:v 6=_:=hf 6 (by decide)
   have h7:v 7=_:=hf 7 (by decide)
   obtain⟨A8,c8,h8,o8,l8⟩:=hf 8 (by decide)
   have h9:v 9=_:=hf 9 (by decide)
   have h10:v 10=_:=hf 10 (by decide)
   have h11:v 11=_:=hf 11 (by decide)
   obtain⟨KA,kc,ZA,zc,ZM,HA,hc,h12,ok,mz,oz,oh,lk,lz,lh⟩:=hf 12 (by decide)
   clear hf
   rw[h0,h1,h2,h3,h4,h5,h6,h7,h8,h9,h10,h11,h12]
   clear V_0 V_1 V_2 V_4
   replace HV:=Hd (HV.out.later hb)
   replace HY:=Hd (HY.out.later hb)
   replace HR:=Hd (HR.out.later hb)
   replace HT:=Hd (HT.out.later hb)
   have HB6:=Hd (below_on HB5.out hb)
   clear HB5
   replace XB:=Hd (XB.out.later hb)
   clear hb
   have XK:=Hd ok
   have XZ:=Hd oz
   have XH:=Hd oh
   have MZ:=Hd mz
   have LK:=Hd lk
   have LZ:=Hd lz
   have LH:=Hd lh
   clear ok oz oh mz lk lz lh o2 m5 o5 o8 l2 l5 l8 C5 C6 C7
   have R_0:=HR.out.cell (i:=0) rfl
   have R_1:=HR.out.cell (i:=1) rfl
   have R_2:=HR.out.cell (i:=2) rfl
   have R_3:=HR.out.cell (i:=3) rfl
   have R_4:=HR.out.cell (i:=4) rfl
   have R_f0:=HR.out.free 0
   have R_f1:=HR.out.free 1
   have R_f2:=HR.out.free 2
   have R_f3:=HR.out.free 3
   have R_f4:=HR.out.free 4
   have hh:w.heap.size≤g+2:=by omega
   have HP:=Hd (((((HR.out.put 0 (.slice KA kn.length kc)).put 1 (.slice ZA ZM.length zc)).put 2 (.slice HA hs.length hc)).put 3 (.slice A1 L1.length c1)).put 4 (.int .i64 room))
   have HQ:=Hd (((((HB6.out.setCell (p:=⟨g+2,0,none⟩) hh (.slice KA kn.length kc)).setCell (p:=⟨g+2,1,none⟩) hh (.slice ZA ZM.length zc)).setCell (p:=⟨g+2,2,none⟩) hh (.slice HA hs.length hc)).setCell (p:=⟨g+2,3,none⟩) hh (.slice A1 L1.length c1)).setCell (p:=⟨g+2,4,none⟩) hh (.int .i64 room))
   have FXB:=Hd (((((XB.out.far (show Blk _ (g+2) 27 #[.slice none 0 0,.slice none 0 0,.slice none 0 0,.slice none 0 0,.int .i64 0] from HR.out) rfl 0 (.slice KA kn.length kc)).far (show Blk _ (g+2) 27 #[.slice KA kn.length kc,.slice none 0 0,.slice none 0 0,.slice none 0 0,.int .i64 0] from(HR.out.put 0 (.slice KA kn.length kc))) rfl 1 (.slice ZA ZM.length zc)).far (show Blk _ (g+2) 27 #[.slice KA kn.length kc,.slice ZA ZM.length zc,.slice none 0 0,.slice none 0 0,.int .i64 0] from((HR.out.put 0 (.slice KA kn.length kc)).put 1 (.slice ZA ZM.length zc))) rfl 2 (.slice HA hs.length hc)).far (show Blk _ (g+2) 27 #[.slice KA kn.length kc,.slice ZA ZM.length zc,.slice HA hs.length hc,.slice none 0 0,.int .i64 0] from(((HR.out.put 0 (.slice KA kn.length kc)).put 1 (.slice ZA ZM.length zc)).put 2 (.slice HA hs.length hc))) rfl 3 (.slice A1 L1.length c1)).far (show Blk _ (g+2) 27 #[.slice KA kn.length kc,.slice ZA ZM.length zc,.slice HA hs.length hc,.slice A1 L1.length c1,.int .i64 0] from((((HR.out.put 0 (.slice KA kn.length kc)).put 1 (.slice ZA ZM.length zc)).put 2 (.slice HA hs.length hc)).put 3 (.slice A1 L1.length c1))) rfl 4 (.int .i64 room))
   have FXK:=Hd (((((XK.out.far (show Blk _ (g+2) 27 #[.slice none 0 0,.slice none 0 0,.slice none 0 0,.slice none 0 0,.int .i64 0] from HR.out) rfl 0 (.slice KA kn.length kc)).far (show Blk _ (g+2) 27 #[.slice KA kn.length kc,.slice none 0 0,.slice none 0 0,.slice none 0 0,.int .i64 0] from(HR.out.put 0 (.slice KA kn.length kc))) rfl 1 (.slice ZA ZM.length zc)).far (show Blk _ (g+2) 27 #[.slice KA kn.length kc,.slice ZA ZM.length zc,.slice none 0 0,.slice none 0 0,.int .i64 0] from((HR.out.put 0 (.slice KA kn.length kc)).put 1 (.slice ZA ZM.length zc))) rfl 2 (.slice HA hs.length hc)).far (show Blk _ (g+2) 27 #[.slice KA kn.length kc,.slice ZA ZM.length zc,.slice HA hs.length hc,.slice none 0 0,.int .i64 0] from(((HR.out.put 0 (.slice KA kn.length kc)).put 1 (.slice ZA ZM.length zc)).put 2 (.slice HA hs.length hc))) rfl 3 (.slice A1 L1.length c1)).far (show Blk _ (g+2) 27 #[.slice KA kn.length kc,.slice ZA ZM.length zc,.slice HA hs.length hc,.slice A1 L1.length c1,.int .i64 0] from((((HR.out.put 0 (.slice KA kn.length kc)).put 1 (.slice ZA ZM.length zc)).put 2 (.slice HA hs.length hc)).put 3 (.slice A1 L1.length c1))) rfl 4 (.int .i64 room))
   have FXZ:=Hd (((((XZ.out.far (show Blk _ (g+2) 27 #[.slice none 0 0,.slice none 0 0,.slice none 0 0,.slice none 0 0,.int .i64 0] from HR.out) rfl 0 (.slice KA kn.length kc)).far (show Blk _ (g+2) 27 #[.slice KA kn.length kc,.slice none 0 0,.slice none 0 0,.slice none 0 0,.int .i64 0] from(HR.out.put 0 (.slice KA kn.length kc))) rfl 1 (.slice ZA ZM.length zc)).far (show Blk _ (g+2) 27 #[.slice KA kn.length kc,.slice ZA ZM.length zc,.slice none 0 0,.slice none 0 0,.int .i64 0] from((HR.out.put 0 (.slice KA kn.length kc)).put 1 (.slice ZA ZM.length zc))) rfl 2 (.slice HA hs.length hc)).far (show Blk _ (g+2) 27 #[.slice KA kn.length kc,.slice ZA ZM.length zc,.slice HA hs.length hc,.slice none 0 0,.int .i64 0] from(((HR.out.put 0 (.slice KA kn.length kc)).put 1 (.slice ZA ZM.length zc)).put 2 (.slice HA hs.length hc))) rfl 3 (.slice A1 L1.length c1)).far (show Blk _ (g+2) 27 #[.slice KA kn.length kc,.slice ZA ZM.length zc,.slice HA hs.length hc,.slice A1 L1.length c1,.int .i64 0] from((((HR.out.put 0 (.slice KA kn.length kc)).put 1 (.slice ZA ZM.length zc)).put 2 (.slice HA hs.length hc)).put 3 (.slice A1 L1.length c1))) rfl 4 (.int .i64 room))
   have FXH:=Hd (((((XH.out.far (show Blk _ (g+2) 27 #[.slice none 0 0,.slice none 0 0,.slice none 0 0,.slice none 0 0,.int .i64 0] from HR.out) rfl 0 (.slice KA kn.length kc)).far (show Blk _ (g+2) 27 #[.slice KA kn.length kc,.slice none 0 0,.slice none 0 0,.slice none 0 0,.int .i64 0] from(HR.out.put 0 (.slice KA kn.length kc))) rfl 1 (.slice ZA ZM.length zc)).far (show Blk _ (g+2) 27 #[.slice KA kn.length kc,.slice ZA ZM.length zc,.slice none 0 0,.slice none 0 0,.int .i64 0] from((HR.out.put 0 (.slice KA kn.length kc)).put 1 (.slice ZA ZM.length zc))) rfl 2 (.slice HA hs.length hc)).far (show Blk _ (g+2) 27 #[.slice KA kn.length kc,.slice ZA ZM.length zc,.slice HA hs.length hc,.slice none 0 0,.int .i64 0] from(((HR.out.put 0 (.slice KA kn.length kc)).put 1 (.slice ZA ZM.length zc)).put 2 (.slice HA hs.length hc))) rfl 3 (.slice A1 L1.length c1)).far (show Blk _ (g+2) 27 #[.slice KA kn.length kc,.slice ZA ZM.length zc,.slice HA hs.length hc,.slice A1 L1.length c1,.int .i64 0] from((((HR.out.put 0 (.slice KA kn.length kc)).put 1 (.slice ZA ZM.length zc)).put 2 (.slice HA hs.length hc)).put 3 (.slice A1 L1.length c1))) rfl 4 (.int .i64 room))
   clear hh
   go_wp2
   exact bodyPost_ret (results_cell_tmp (p:=4) (t1:=5) (ty:=27) rfl _ _ (g+2) 27 #[.slice KA kn.length kc,.slice ZA ZM.length zc,.slice HA hs.length hc,.slice A1 L1.length c1,.int .i64 room] _ rfl HP.out Tryz.underlying27 rfl infoVw) rfl ⟨⟨KA,kc,kn,ZA,zc,ZM,HA,hc,hs,A1,c1,L1,room⟩,rfl,(by show(⟨kn,ZM.map Zc.zn,hs,L1.map Bc.b,room⟩:Vw)=_;rw[MZ.out,HM1.out]),⟨FXK.out,FXZ.out,FXH.out,FXB.out⟩,⟨LK.out,LZ.out,LH.out,HLB.out⟩,HQ.out⟩
theorem vdbody_any(q:Vl)(X:Option Addr)(e:Nat)(x:Bd)(w:World)(h:VwAt w q)(hx:OneB w X e x.v):Calls Tryz.prog 25 #[.agg (vwCells q),.agg (bdCells X e x)] w (GivesVwE (Vw.bodyR q.vw x).1 (Vw.bodyR q.vw x).2 w):=
 (vdbodyN_any q X e x w h hx).mono fun _ _ h=>h.gives
end Go.Proofs.YtjlfehpockfkdaaGreat
