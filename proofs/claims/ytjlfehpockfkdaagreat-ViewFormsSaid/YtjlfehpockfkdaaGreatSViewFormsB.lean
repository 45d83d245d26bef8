/-
  What the row of this claim stands on: CaRefB, VwRefA, VwRefB, VwRefD, TrMath2, VwRefF, VwRefH, VwSpec, VwRefC, VwLawA, TpPlain, SpDevTwo, DevMeet.
-/
import Derived.Test.YtjlfehpockfkdaaGreatB01
import Derived.WalkSmall
import Derived.Lib.SlBytesConst
import Derived.Test.YtjlfehpockfkdaaGreatSViewFormsA
import Derived.Test.YtjlfehpockfkdaaGreatB02
import Derived.Test.YtjlfehpockfkdaaGreatB04
import Derived.Test.YtjlfehpockfkdaaGreatB03
namespace Go.Proofs.YtjlfehpockfkdaaGreat
open Go.RowKit Fb
namespace Ca
def seen(L:List Bc)(k j:Nat):Bool:=(L.take k).any fun z=>decide (z.b.o=(j:Int))
theorem seen_succ{L:List Bc}{k:Nat}(h:k<L.length)(j:Nat):seen L (k+1) j=(seen L k j||decide ((L.getD k Bc.zero).b.o=(j:Int))):=by
 unfold seen
 rw[List.take_succ_eq_append_getElem h,List.any_append,getD_lt h]
 simp
theorem ok_seen{L:List Bc}{k:Nat}(h:k<L.length)(o:Nat)(ho:(L.getD k Bc.zero).b.o=(o:Int)):ok (L.map Bc.b) k↔(Wi.bright (L.getD k Bc.zero).b=true∧seen L k o=false):=by
 unfold ok seen
 rw[map_getD,List.any_eq_false]
 constructor
 ·rintro ⟨h1,h2⟩
  refine⟨h1,fun z hz e =>?_⟩
  obtain⟨i,hi,rfl⟩:=List.mem_iff_getElem.1 hz
  rw[List.length_take]at hi
  have h3:=h2 i (by omega)
  rw[map_getD,getD_lt (show i<L.length by omega)]at h3
  rw[List.getElem_take]at e
  exact h3 ((of_decide_eq_true e).trans ho.symm)
 ·rintro ⟨h1,h2⟩
  refine⟨h1,fun i hi e =>?_⟩
  have h4:i<(L.take k).length:=by rw[List.length_take];omega
  refine h2 _ (List.getElem_mem h4) ?_
  rw[List.getElem_take]
  rw[map_getD,getD_lt (show i<L.length by omega)]at e
  exact decide_eq_true (e.trans ho)
end Ca
set_option maxRecDepth 100000 in
set_option maxHeartbeats 3200000 in
theorem cget_any(A:Option Addr)(c:Nat)(L:List Bc)(o sc sn:Int)(w:World)(h:OneC w A c L)(hf:Fits L) :
  Calls Tryz.prog 89 #[.slice A L.length c,.int .i64 o,.agg #[.int .i64 sc,.int .i64 sn]] w (GivesVE (Ca.getR (L.map Bc.b) o sc sn).1 (Ca.getR (L.map Bc.b) o sc sn).2 w):=by
 have hn:=hf.n
 have HL:=Hd h
 have HZ:=Hd hf.each
 have HY:=Hd (fun k hk hb hx=>Ca.get_yes (L:=L) (k:=k) (o:=o) (c:=sc) (n:=sn) hk hb hx)
 have HN:=Hd (fun hb=>Ca.get_no (L:=L) (o:=o) (c:=sc) (n:=sn) hb)
 obtain⟨R,hR⟩:∃R,Ca.getR (L.map Bc.b) o sc sn=R:=⟨_,rfl⟩
 rw[hR]at HY HN ⊢
 have b0:=below_new (Below.refl w.heap.size w) (.cells #[.int .i64 sc,.int .i64 sn] 46)
 have B0:=Blk.new w 46 #[.int .i64 sc,.int .i64 sn]
 obtain⟨W,hW⟩:∃W,w.alloc (.cells #[.int .i64 sc,.int .i64 sn] 46)=W:=⟨_,rfl⟩
 rw[hW]at b0 B0
 have HW:=Hd hW
 have HB:=Hd b0
 have HS:=Hd B0
 clear h hf hR hW b0 B0
 go_enter Tryz.func89,Tryz.ntmps89
 go_wp2_with fail
 rw[HW.out]
 go_loopw [8] (fun s8 wr=>∃k:Nat,k≤L.length∧s8 = .int .i64 (k:Int)∧(∀j,j<k→¬Ca.isAt (L.getD j Bc.zero).b o sc sn)∧Below W.heap.size W wr) (fun s8 _=>L.length-(intOf s8).toNat)
 case atStart=>exact⟨0,Nat.zero_le _,rfl,fun j hj=>by omega,Below.refl _ _⟩
 case round=>
  obtain⟨k,hk,rfl,hno,hbw⟩:=hrel
  by_cases hlt:k<L.length
  ·have hne:L≠[]:=fun e=>by subst e;simp at hlt
   have hbb:=below_on HB.out hbw
   obtain⟨b,off,hA,hcs⟩:=(HL.out.later hbb).at hne
   obtain⟨e0,e1,e2,e3⟩:=hcs k hlt
   have hxb:=(HL.out.later hbb).each _ (Ca.getD_mem hlt)
   have hxz:=HZ.out _ (Ca.getD_mem hlt)
   have hy:=HY.out k hlt hno
   have HL':=HL
   subst hA
   have hi0:(0:Int)≤(k:Int):=by omega
   have hi1:(k:Int)<(L.length:Int):=by omega
   have hS:=HS.out.later hbw
   have s0:=hS.cell (i:=0) rfl
   have s1:=hS.cell (i:=1) rfl
   obtain⟨x,hx⟩:∃x,L.getD k Bc.zero=x:=⟨_,rfl⟩
   rw[hx]at e0 e1 e2 e3 hxb hxz hy
   obtain⟨X,d,⟨x0,x1,x2,v⟩⟩:=x
   dsimp only at e0 e1 e2 e3 hxb hxz hy
   have HX:=Hd hx
   have HNO:=Hd hno
   have BW:=Hd hbw
   have BB:=Hd hbb
   have XB:=Hd hxb
   have hnext:¬Ca.isAt ⟨x0,x1,x2,v⟩ o sc sn→∀j,j<k+1→¬Ca.isAt (L.getD j Bc.zero).b o sc sn:=fun h1 j hj=>by
    by_cases e:j=k
    ·subst e;rw[hx];exact h1
    ·exact hno j (by omega)
   have HNX:=Hd hnext
   have HYY:=Hd hy
   clear hcs hx hno hbw hbb hxb hy hnext hS
   by_cases q0:x0=o
   ·by_cases q1:x1=sc
    ·by_cases q2:x2=sn
     ·have d0:(x0 == o)=true:=beq_iff_eq.2 q0
      have d1:(x1 == sc)=true:=beq_iff_eq.2 q1
      have d2:(x2 == sn)=true:=beq_iff_eq.2 q2
      have HR:=Hd (HYY.out ⟨q0,q1,q2⟩)
      clear q0 q1 q2
      go_wp2_with fail
      go_quiet (fail)
      have NC:=Hd (fun n=>bcopy_any X d v (wr.drewN n) hxz (XB.out.later (below_drewN (Below.refl _ _) n)))
      have BB2:=Hd (fun n=>below_drewN BB.out n)
      clear BB
      go_wp2_with fail
      refine(NC.out _).mono ?_
      rintro e w3 ⟨u,rfl,ho,b3⟩
      have HO:=Hd (own_base ho (BB2.out _).size)
      have BB3:=Hd (below_on (BB2.out _) b3)
      clear ho b3
      go_wp2
      go_ret2
      rw[HR.out]
      exact⟨_,rfl,HO.out,BB3.out⟩
     ·have d0:(x0 == o)=true:=beq_iff_eq.2 q0
      have d1:(x1 == sc)=true:=beq_iff_eq.2 q1
      have d2:(x2 == sn)=false:=beq_eq_false_iff_ne.2 q2
      have HX2:=Hd (HNX.out (fun h=>q2 h.2.2))
      clear q0 q1 q2
      go_wp2_with fail
      go_quiet (fail)
      go_wp2_with fail
      go_roundw
      case rel=>exact⟨k+1,by omega,by go_num,HX2.out,below_drewN BW.out _⟩
      case measure=>simp[intOf];omega
    ·have d0:(x0 == o)=true:=beq_iff_eq.2 q0
     have d1:(x1 == sc)=false:=beq_eq_false_iff_ne.2 q1
     have HX2:=Hd (HNX.out (fun h=>q1 h.2.1))
     clear q0 q1
     go_wp2_with fail
     go_quiet (fail)
     go_wp2_with fail
     go_roundw
     case rel=>exact⟨k+1,by omega,by go_num,HX2.out,below_drewN BW.out _⟩
     case measure=>simp[intOf];omega
   ·have d0:(x0 == o)=false:=beq_eq_false_iff_ne.2 q0
    have HX2:=Hd (HNX.out (fun h=>q0 h.1))
    clear q0
    go_wp2_with fail
    go_quiet (fail)
    go_wp2_with fail
    go_roundw
    case rel=>exact⟨k+1,by omega,by go_num,HX2.out,below_drewN BW.out _⟩
    case measure=>simp[intOf];omega
  ·obtain rfl:k=L.length:=by omega
   have hR:=HN.out hno
   subst hR
   have BB:=Hd (below_on HB.out hbw)
   clear hno hbw
   go_wp2
   go_ret2
   exact⟨_,rfl,⟨rfl,.inl ⟨rfl,rfl⟩⟩,BB.out⟩
set_option maxRecDepth 100000 in
set_option maxHeartbeats 3200000 in
theorem cformed_any(A:Option Addr)(c:Nat)(L:List Bc)(room:Int)(w:World)(h:OneC w A c L) :
  Calls Tryz.prog 56 #[.slice A L.length c,.int .i64 room] w (Says (.bool (Ca.fmd (L.map Bc.b) room)) w):=by
 have hF:Ca.fmd (L.map Bc.b) room=(decide (0≤room∧room≤16777216∧L.length≤256)&&(Ca.oks (L.map Bc.b)&&decide ((Ca.used (L.map Bc.b):Int)≤room))):=by unfold Ca.fmd;rw[List.length_map]
 have HL:=Hd h
 have hlen:=h.len
 by_cases c0:room<0
 ·have d0:decide (room<0)=true:=decide_eq_true c0
  rw[decide_eq_false (show ¬(0≤room∧room≤16777216∧L.length≤256) by omega),Bool.false_and]at hF
  rw[hF]
  clear hF h
  go_enter Tryz.func56,Tryz.ntmps56
  go_wp2
  go_ret
  exact⟨rfl,Below.refl _ _⟩
 by_cases c1:16777216<room
 ·have d0:decide (room<0)=false:=decide_eq_false c0
  have d1:decide (16777216<room)=true:=decide_eq_true c1
  rw[decide_eq_false (show ¬(0≤room∧room≤16777216∧L.length≤256) by omega),Bool.false_and]at hF
  rw[hF]
  clear hF h
  go_enter Tryz.func56,Tryz.ntmps56
  go_wp2
  go_ret
  exact⟨rfl,Below.refl _ _⟩
 by_cases c2:256<L.length
 ·have d0:decide (room<0)=false:=decide_eq_false c0
  have d1:decide (16777216<room)=false:=decide_eq_false c1
  have d2:decide ((256:Int)<(L.length:Int))=true:=decide_eq_true (by omega)
  rw[decide_eq_false (show ¬(0≤room∧room≤16777216∧L.length≤256) by omega),Bool.false_and]at hF
  rw[hF]
  clear hF h
  go_enter Tryz.func56,Tryz.ntmps56
  go_wp2
  go_ret
  exact⟨rfl,Below.refl _ _⟩
 have d0:decide (room<0)=false:=decide_eq_false c0
 have d1:decide (16777216<room)=false:=decide_eq_false c1
 have d2:decide ((256:Int)<(L.length:Int))=false:=decide_eq_false (by omega)
 rw[decide_eq_true (show 0≤room∧room≤16777216∧L.length≤256 by omega),Bool.true_and]at hF
 rw[hF]
 have hOK:=Hd (fun k hk o ho=>Ca.ok_seen (L:=L) (k:=k) hk o ho)
 have hNO:=Hd (fun k hk hx=>Ca.oks_no (l:=L.map Bc.b) k hk hx)
 have hYES:=Hd (Ca.oks_iff (L.map Bc.b)).2
 have hSU:=Hd (fun k hk j=>Ca.seen_succ (L:=L) (k:=k) hk j)
 have hUO:=Hd (fun hx=>Ca.used_oks (L:=L) hx)
 obtain⟨OK,hok⟩:∃q,Ca.oks (L.map Bc.b)=q:=⟨_,rfl⟩
 obtain⟨ok,hokk⟩:∃f,(fun k=>Ca.ok (L.map Bc.b) k)=f:=⟨_,rfl⟩
 rw[hok]at hNO hYES ⊢
 have B5:=Blk.new w 138 (Sp.arr fun _=>false)
 rw[←marks_zero]at B5
 have b5:=below_new (Below.refl w.heap.size w) (.cells Tryz.zeroCells138 138)
 obtain⟨W,hW⟩:∃W,w.alloc (.cells Tryz.zeroCells138 138)=W:=⟨_,rfl⟩
 rw[hW,marks_zero]at B5
 rw[hW]at b5
 have HW:=Hd hW
 have HB5:=Hd B5
 have Hb5:=Hd b5
 clear hF h hok hokk ok B5 b5 hW c0 c1
 go_enter Tryz.func56,Tryz.ntmps56
 go_wp2_with fail
 rw[HW.out]
 go_loopw [6] (fun s6 wr=>∃k:Nat,k≤L.length∧s6 = .int .i64 (k:Int)∧(∀j,j<k→Ca.ok (L.map Bc.b) j)∧Blk wr w.heap.size 138 (Sp.arr (Ca.seen L k))∧Below w.heap.size w wr) (fun s6 _=>L.length-(intOf s6).toNat)
 case atStart=>exact⟨0,Nat.zero_le _,rfl,fun j hj=>by omega,HB5.out,Hb5.out⟩
 case round=>
  obtain⟨k,hk,rfl,hall,hB,hbw⟩:=hrel
  by_cases hlt:k<L.length
  ·have hne:L≠[]:=fun e=>by subst e;simp at hlt
   obtain⟨b,off,hA,hcs⟩:=(HL.out.later hbw).at hne
   obtain⟨e0,e1,e2,e3⟩:=hcs k hlt
   have HL':=HL
   subst hA
   have hi0:(0:Int)≤(k:Int):=by omega
   have hi1:(k:Int)<(L.length:Int):=by omega
   have hok:=hOK.out k hlt
   have hno:=hNO.out k (by rw[List.length_map];exact hlt)
   have hsu:=hSU.out k hlt
   have hbx:Ca.ok (L.map Bc.b) k→Wi.bright (L.getD k Bc.zero).b=true:=fun h=>by have:=h.1;rwa [Ca.map_getD]at this
   obtain⟨x,hx⟩:∃x,L.getD k Bc.zero=x:=⟨_,rfl⟩
   rw[hx]at e0 e1 e2 e3 hok hsu hbx
   obtain⟨X,d,⟨x0,x1,x2,v⟩⟩:=x
   dsimp only at e0 e1 e2 e3 hok hsu hbx
   obtain⟨q,hq⟩:∃q,Wi.bright ⟨x0,x1,x2,v⟩=q:=⟨_,rfl⟩
   have NR:=Hd (show Calls Tryz.prog 80 #[.agg #[.int .i64 x0,.int .i64 x1,.int .i64 x2,.slice X v.length d]] wr (Says (.bool q) wr) from by rw[←hq];exact bright_any X d ⟨x0,x1,x2,v⟩ wr)
   cases q with
   |false=>
    have hR:OK=false:=hno (fun h=>by have:=hbx h;rw[hq]at this;cases this)
    subst hR
    have BW:=Hd hbw
    clear hcs hx hbw hok hno hsu hbx hq hall hB
    go_wp2_with fail
    refine NR.out.mono ?_
    rintro e w3 ⟨rfl,b3⟩
    have BB:=Hd (below_on BW.out b3)
    clear b3 NR BW
    go_wp2
    go_ret
    exact⟨rfl,BB.out⟩
   |true=>
    obtain⟨o1,o2,o3⟩:=Ca.right_obj hq
    dsimp only at o1 o2 o3
    obtain⟨o,rfl⟩:∃o:Nat,x0=(o:Int):=⟨x0.toNat,by omega⟩
    have ho:o<256:=by omega
    have ho0:(0:Int)≤(o:Int):=by omega
    have ho1:(o:Int)<256:=by omega
    have hoks:=hok o rfl
    rw[hq]at hoks
    have hm:=hB.marks_cell o ho
    have hst:=hB.marks_put o ho true
    have hst2:=hst.marks_same (f':=Ca.seen L (k+1)) (fun i _=>by
     rw[hsu i]
     by_cases e:i=o
     ·subst e;simp
     ·rw[if_neg e,decide_eq_false (by omega),Bool.or_false])
    have hmf:=hB.free o
    have HST:=Hd hst2
    have BW:=Hd hbw
    have HALL:=Hd hall
    have HB:=Hd hB
    have HOKS:=Hd hoks
    have HSU:=Hd hsu
    have Hno:=Hd hno
    clear hcs hx hbw hok hno hsu hbx hq hall hB hst hst2 hoks
    cases hs:Ca.seen L k o with
    |true=>
     have hR:OK=false:=Hno.out (fun h=>by have:=(HOKS.out.1 h).2;rw[hs]at this;cases this)
     subst hR
     rw[hs]at hm
     clear hs HST
     go_wp2_with fail
     refine NR.out.mono ?_
     rintro e w3 ⟨rfl,b3⟩
     have hm3:=cell_later b3 hm
     have e03:=cell_later b3 e0
     have BB:=Hd (below_on BW.out b3)
     clear b3 NR BW hm e0 e1 e2 e3
     go_wp2
     go_ret
     exact⟨rfl,BB.out⟩
    |false=>
     have hok:=HOKS.out.2 ⟨rfl,hs⟩
     have HOK:=Hd hok
     rw[hs]at hm
     clear hs hok HST
     go_wp2_with fail
     refine NR.out.mono ?_
     rintro e w3 ⟨rfl,b3⟩
     have hm3:=cell_later b3 hm
     have e03:=cell_later b3 e0
     have hB3:=HB.out.later b3
     have hmf3:=hB3.free o
     have hst2:=(hB3.marks_put o ho true).marks_same (f':=Ca.seen L (k+1)) (fun i _=>by
      rw[HSU.out i]
      by_cases e:i=o
      ·subst e;simp
      ·rw[if_neg e,decide_eq_false (by omega),Bool.or_false])
     have HST:=Hd hst2
     have BB:=Hd ((below_on BW.out b3).setCell (p:=⟨w.heap.size,o,none⟩) (Nat.le_refl _) (.bool true))
     clear b3 NR BW hm e0 e1 e2 e3 hst2 hB3 hmf
     go_wp2_with fail
     go_roundw
     case rel=>
      refine⟨k+1,by omega,by go_num,fun j hj =>?_,HST.out,BB.out⟩
      by_cases e:j=k
      ·subst e;exact HOK.out
      ·exact HALL.out j (by omega)
     case measure=>simp[intOf];omega
  ·obtain rfl:k=L.length:=by omega
   have hR:OK=true:=hYES.out (fun j hj=>hall j (by rw[List.length_map]at hj;exact hj))
   have hu:=hUO.out hall
   subst hR
   have NU:=Hd (cused_any A c L wr (HL.out.later hbw) (by omega))
   obtain⟨U,hU⟩:∃U,Ca.used (L.map Bc.b)=U:=⟨_,rfl⟩
   rw[hU]at NU ⊢
   have BW:=Hd hbw
   have HU:=Hd hU
   clear hall hB hbw hu hU hYES
   go_wp2_with fail
   refine NU.out.mono ?_
   rintro e w3 ⟨rfl,b3⟩
   have BB:=Hd (below_on BW.out b3)
   clear b3 NU BW
   go_wp2
   go_ret
   exact⟨by rw[HU.out];simp,BB.out⟩
set_option maxRecDepth 100000 in
set_option maxHeartbeats 6400000 in
theorem vreached_any(q:Vl)(y:Wr)(w:World)(h:VwAt w q):Calls Tryz.prog 58 #[.agg (vwCells q),.agg (Nt.wrArr y)] w (Says (.bool (Vw.has q.vw y)) w):=by
 obtain⟨t,ht⟩:∃t,Vw.has q.vw y=t:=⟨_,rfl⟩
 rw[ht]
 obtain⟨R,hR⟩:∃R,Tr.rchR (q.z.map Zc.zn) q.k y.2.2.1=R:=⟨_,rfl⟩
 have HT:=Hd (show hasOf R y.1 y.2.1=t from by rw[←hR];exact ht)
 have b0:=below_new (below_new (Below.refl w.heap.size w) (.cells (vwCells q) 27)) (.cells (Nt.wrArr y) 52)
 have V0:=(Blk.new w 27 (vwCells q)).alloc (.cells (Nt.wrArr y) 52)
 have Y0:=Blk.new (w.alloc (.cells (vwCells q) 27)) 52 (Nt.wrArr y)
 rw[World.size_alloc]at Y0
 obtain⟨W,hW⟩:∃W,(w.alloc (.cells (vwCells q) 27)).alloc (.cells (Nt.wrArr y) 52)=W:=⟨_,rfl⟩
 rw[hW]at b0 V0 Y0
 have HW:=Hd hW
 obtain⟨g,hg⟩:∃g,w.heap.size=g:=⟨_,rfl⟩
 rw[hg]at V0 Y0
 have NR:=Hd (fun w' (hb:Below W.heap.size W w')=>show Calls Tryz.prog 36 #[.slice q.Z q.z.length q.cz,.slice q.K q.k.length q.ck,.int .i64 y.2.2.1] w' (Gives R w') from by
  have h1:=(h.later b0).later hb
  rw[←hR]
  exact zreach_any q.Z q.K q.cz q.ck q.z q.k y.2.2.1 w' h1.z h1.k)
 have B0:=Hd b0
 have v0:W.cell? ⟨g,0,none⟩=some (.slice q.K q.k.length q.ck):=V0.cell (i:=0) rfl
 have v1:W.cell? ⟨g,1,none⟩=some (.slice q.Z q.z.length q.cz):=V0.cell (i:=1) rfl
 have y0:W.cell? ⟨g+1,0,none⟩=some (.int .i64 y.1):=Y0.cell (i:=0) rfl
 have y1:W.cell? ⟨g+1,1,none⟩=some (.int .i64 y.2.1):=Y0.cell (i:=1) rfl
 have y2:W.cell? ⟨g+1,2,none⟩=some (.int .i64 y.2.2.1):=Y0.cell (i:=2) rfl
 clear ht hR h b0 V0 Y0 hW
 go_enter Tryz.func58,Tryz.ntmps58
 go_upto_region 1 with (fail)
 rw[HW.out]
 clear HW
 refine wp_region_facts 10 (by kernel_rfl) (by kernel_rfl)
  (fun v=>{ tmps:=#[.agg (vwCells q),.agg (Nt.wrArr y),.pointer (some ⟨g,0,none⟩),.pointer (some ⟨g+1,0,none⟩),.bool false,v 0,v 1,v 2,v 3,v 4,v 5,v 6,v 7,v 8,v 9],defers:=[] }) (fun _=>undef)
  (fun i x wx=>match i with
   |0=>x = .pointer (some ⟨g,1,none⟩)
   |1=>x = .slice q.Z q.z.length q.cz
   |2=>x = .pointer (some ⟨g,0,none⟩)
   |3=>x = .slice q.K q.k.length q.ck
   |4=>x = .pointer (some ⟨g+1,2,none⟩)
   |5=>x = .int .i64 y.2.2.1
   |6=>∃A9 c9,x = .slice A9 R.length c9∧OneL wx A9 c9 R
   |7=>x = .pointer (some ⟨g+1,0,none⟩)
   |8=>x = .agg #[.int .i64 y.1,.int .i64 y.2.1]
   |9=>x = .bool t
   |_=>True)
  (fun w1 w2=>Below w1.heap.size w1 w2) (fun h1 h2=>below_on h1 h2) (fun _=>Below.refl _ _) (Below.drew (Below.refl _ _)) ?stabR ?stepR ?doneR
 case stabR=>
  rintro i x w1 w2 h hb
  match i,h with
  |0,h=>exact h
  |1,h=>exact h
  |2,h=>exact h
  |3,h=>exact h
  |4,h=>exact h
  |5,h=>exact h
  |6,h=>obtain⟨A9,c9,e9,h9⟩:=h;exact⟨A9,c9,e9,h9.later hb⟩
  |7,h=>exact h
  |8,h=>exact h
  |9,h=>exact h
  |i+10,_=>trivial
 case stepR=>
  intro i hi v w' hb hd
  match i,hi with
  |0,_=>
   refine wpOp_oneH rfl fun KK HKK =>?_
   clear hd
   go_wp2
   exact HKK.out _ _ ⟨_,(by simp[upd];done),Below.refl _ _,rfl⟩
  |1,_=>
   have h0:v 0=_:=hdx hd 0 (by kernel_rfl)
   refine wpOp_oneH rfl fun KK HKK =>?_
   clear hd
   rw[h0]
   have q0:=cell_later hb v1
   go_wp2
   exact HKK.out _ _ ⟨_,(by simp[upd,h0];done),Below.refl _ _,rfl⟩
  |2,_=>
   refine wpOp_oneH rfl fun KK HKK =>?_
   clear hd
   go_wp2
   exact HKK.out _ _ ⟨_,(by simp[upd];done),Below.refl _ _,rfl⟩
  |3,_=>
   have h2:v 2=_:=hdx hd 2 (by kernel_rfl)
   refine wpOp_oneH rfl fun KK HKK =>?_
   clear hd
   rw[h2]
   have q0:=cell_later hb v0
   go_wp2
   exact HKK.out _ _ ⟨_,(by simp[upd,h2];done),Below.refl _ _,rfl⟩
  |4,_=>
   refine wpOp_oneH rfl fun KK HKK =>?_
   clear hd
   go_wp2
   exact HKK.out _ _ ⟨_,(by simp[upd];done),Below.refl _ _,rfl⟩
  |5,_=>
   have h4:v 4=_:=hdx hd 4 (by kernel_rfl)
   refine wpOp_oneH rfl fun KK HKK =>?_
   clear hd
   rw[h4]
   have q0:=cell_later hb y2
   go_wp2
   exact HKK.out _ _ ⟨_,(by simp[upd,h4];done),Below.refl _ _,rfl⟩
  |6,_=>
   have h1:v 1=_:=hdx hd 1 (by kernel_rfl)
   have h3:v 3=_:=hdx hd 3 (by kernel_rfl)
   have h5:v 5=_:=hdx hd 5 (by kernel_rfl)
   refine wpOp_oneH rfl fun KK HKK =>?_
   clear hd
   rw[h1,h3,h5]
   go_wp2_with fail
   refine(NR.out _ hb).mono ?_
   rintro e w'' ⟨v6,rfl,ho6,b⟩
   obtain⟨A6,c6,rfl,hB6⟩:=OneL.of_own ho6
   go_wp2
   exact HKK.out _ _ ⟨_,(by simp[upd,h1,h3,h5];done),b,A6,c6,rfl,hB6⟩
  |7,_=>
   refine wpOp_oneH rfl fun KK HKK =>?_
   clear hd
   go_wp2
   exact HKK.out _ _ ⟨_,(by simp[upd];done),Below.refl _ _,rfl⟩
  |8,_=>
   have h7:v 7=_:=hdx hd 7 (by kernel_rfl)
   refine wpOp_oneH rfl fun KK HKK =>?_
   clear hd
   rw[h7]
   have q0:=cell_later hb y0
   have q1:=cell_later hb y1
   go_wp2
   exact HKK.out _ _ ⟨_,(by simp[upd,h7];done),Below.refl _ _,rfl⟩
  |9,_=>
   obtain⟨B6,d6,h6,hB6⟩:=hd 6 (List.elem_iff.1 (by kernel_rfl))
   have h8:v 8=_:=hdx hd 8 (by kernel_rfl)
   refine wpOp_oneH rfl fun KK HKK =>?_
   clear hd
   rw[h6,h8]
   have NH:=Hd (rhas_any B6 d6 R y.1 y.2.1 w' hB6.len hB6.stamps)
   go_wp2_with fail
   refine NH.out.mono ?_
   rintro e w'' ⟨rfl,b⟩
   rw[HT.out]
   go_wp2
   exact HKK.out _ _ ⟨_,(by simp[upd,h6,h8];done),b,rfl⟩
  |k+10,hk=>exact absurd hk (by omega)
 case doneR=>
  intro v w5 hb hf
  have h0:v 0=_:=hf 0 (by decide)
  have h1:v 1=_:=hf 1 (by decide)
  have h2:v 2=_:=hf 2 (by decide)
  have h3:v 3=_:=hf 3 (by decide)
  have h4:v 4=_:=hf 4 (by decide)
  have h5:v 5=_:=hf 5 (by decide)
  obtain⟨B6,d6,h6,hB6⟩:=hf 6 (by decide)
  have h7:v 7=_:=hf 7 (by decide)
  have h8:v 8=_:=hf 8 (by decide)
  have h9:v 9=_:=hf 9 (by decide)
  clear hf
  rw[h0,h1,h2,h3,h4,h5,h6,h7,h8,h9]
  have BB:=Hd (below_on B0.out hb)
  clear hb B0 hB6
  go_wp2
  go_ret
  exact⟨rfl,BB.out⟩
set_option maxRecDepth 100000 in
set_option maxHeartbeats 6400000 in
theorem vwanted_any(q:Vl)(X:Option Addr)(d:Nat)(x:Bd)(w:World)(h:VwAt w q):Calls Tryz.prog 59 #[.agg (vwCells q),.agg (bdCells X d x)] w (Says (.bool (Vw.wants q.vw x)) w):=by
 obtain⟨x0,x1,x2,vl⟩:=x
 obtain⟨t,ht⟩:∃t,Vw.wants q.vw ⟨x0,x1,x2,vl⟩=t:=⟨_,rfl⟩
 rw[ht]
 obtain⟨⟨⟨a0,a1,a2,a3⟩,ok⟩,hp⟩:∃p,Nt.at_ q.h x0=p:=⟨_,rfl⟩
 have hT:(ok&&(decide (a0=x1∧a1=x2) && !a3))=t:=(fun p (hp:Nt.at_ q.h x0=p)=>show(p.2&&(decide (p.1.1=x1∧p.1.2.1=x2) && !p.1.2.2.2))=t from by subst hp;exact ht) _ hp
 have b0:=below_new (below_new (Below.refl w.heap.size w) (.cells (vwCells q) 27)) (.cells (bdCells X d ⟨x0,x1,x2,vl⟩) 49)
 have V0:=(Blk.new w 27 (vwCells q)).alloc (.cells (bdCells X d ⟨x0,x1,x2,vl⟩) 49)
 have Y0:=Blk.new (w.alloc (.cells (vwCells q) 27)) 49 (bdCells X d ⟨x0,x1,x2,vl⟩)
 rw[World.size_alloc]at Y0
 obtain⟨W,hW⟩:∃W,(w.alloc (.cells (vwCells q) 27)).alloc (.cells (bdCells X d ⟨x0,x1,x2,vl⟩) 49)=W:=⟨_,rfl⟩
 rw[hW]at b0 V0 Y0
 have HW:=Hd hW
 obtain⟨g,hg⟩:∃g,w.heap.size=g:=⟨_,rfl⟩
 rw[hg]at V0 Y0
 have NA:=Hd (show Calls Tryz.prog 88 #[.slice q.H q.h.length q.ch,.int .i64 x0] W (Says (.tuple #[.agg #[.int .i64 a0,.int .i64 a1,.int .i64 a2,.bool a3],.bool ok]) W) from by
  have n:=nat_any q.H q.ch q.h x0 W (h.later b0).h
  rw[hp]at n
  exact n)
 have B0:=Hd b0
 have v2:W.cell? ⟨g,2,none⟩=some (.slice q.H q.h.length q.ch):=V0.cell (i:=2) rfl
 have y0:W.cell? ⟨g+1,0,none⟩=some (.int .i64 x0):=Y0.cell (i:=0) rfl
 have y1:W.cell? ⟨g+1,1,none⟩=some (.int .i64 x1):=Y0.cell (i:=1) rfl
 have y2:W.cell? ⟨g+1,2,none⟩=some (.int .i64 x2):=Y0.cell (i:=2) rfl
 have HT:=Hd hT
 clear ht hp h b0 V0 Y0 hW hT
 go_enter Tryz.func59,Tryz.ntmps59
 go_upto_region 1 with (fail)
 rw[HW.out]
 clear HW
 go_wp2_with fail
 refine NA.out.mono ?_
 rintro e w2 ⟨rfl,b2⟩
 have bz:=below_new (Below.refl w2.heap.size w2) (.cells #[.int .i64 a0,.int .i64 a1,.int .i64 a2,.bool a3] 52)
 have BB:=Hd (below_on B0.out (below_on b2 bz))
 have A0:=Blk.new w2 52 #[.int .i64 a0,.int .i64 a1,.int .i64 a2,.bool a3]
 have z1:=cell_later (below_on b2 bz) y1
 have z2:=cell_later (below_on b2 bz) y2
 have c0:=A0.cell (i:=0) rfl
 have c1:=A0.cell (i:=1) rfl
 have c3:=A0.cell (i:=3) rfl
 clear b2 bz A0 NA B0 v2 y0 y1 y2
 cases ok with
 |false=>
  obtain rfl:t=false:=HT.out.symm
  clear HT
  go_wp2
  go_ret
  exact⟨rfl,BB.out⟩
 |true=>
  by_cases e0:a0=x1
  ·by_cases e1:a1=x2
   ·have d0:(a0 == x1)=true:=beq_iff_eq.2 e0
    have d1:(a1 == x2)=true:=beq_iff_eq.2 e1
    obtain rfl:t = !a3:=by rw[←HT.out,decide_eq_true ⟨e0,e1⟩];rfl
    clear HT e0 e1
    go_wp2
    go_ret
    exact⟨rfl,BB.out⟩
   ·have d0:(a0 == x1)=true:=beq_iff_eq.2 e0
    have d1:(a1 == x2)=false:=beq_eq_false_iff_ne.2 e1
    obtain rfl:t=false:=by rw[←HT.out,decide_eq_false (fun h=>e1 h.2)];rfl
    clear HT e0 e1
    go_wp2
    go_ret
    exact⟨rfl,BB.out⟩
  ·have d0:(a0 == x1)=false:=beq_eq_false_iff_ne.2 e0
   obtain rfl:t=false:=by rw[←HT.out,decide_eq_false (fun h=>e0 h.1)];rfl
   clear HT e0
   go_wp2
   go_ret
   exact⟨rfl,BB.out⟩
set_option maxRecDepth 100000 in
set_option maxHeartbeats 12800000 in
theorem vformed_any(q:Vl)(w:World)(h:VwAt w q):Calls Tryz.prog 16 #[.agg (vwCells q)] w (Says (.bool (Vw.fmd q.vw)) w):=by
 have hF:Vw.fmd q.vw=((Ve.fmd q.k&&(Tr.fmd (q.z.map Zc.zn)&&(Sf.fmd q.h&&Ca.fmd (q.b.map Bc.b) q.r)))&&(q.z.all (fun z=>decide (Ve.stand (Ve.cnt z.l) (Ve.cnt q.k)=1))&&(q.h.all (Vw.has q.vw)&&q.b.all (fun z=>Vw.wants q.vw z.b)))):=by
  unfold Vw.fmd
  rw[show q.vw.z=q.z.map Zc.zn from rfl,show q.vw.b=q.b.map Bc.b from rfl,List.all_map,List.all_map]
  rfl
 have hZ:=fun wx (hb:Below w.heap.size w wx)=>(h.later hb).z
 have hVW:=fun wx (hb:Below w.heap.size w wx)=>h.later hb
 have c1:=fun wx (hb:Below w.heap.size w wx)=>rformed_any q.K q.ck q.k wx (h.later hb).k.len (h.later hb).k.stamps
 have c2:=fun wx (hb:Below w.heap.size w wx)=>zformed_any q.Z q.cz q.z wx (h.later hb).z
 have c3:=fun wx (hb:Below w.heap.size w wx)=>fformed_any q.H q.ch q.h wx (h.later hb).h
 have c4:=fun wx (hb:Below w.heap.size w wx)=>cformed_any q.B q.cb q.b q.r wx (h.later hb).b
 have c5:=fun wx (hb:Below w.heap.size w wx) y=>vreached_any q y wx (h.later hb)
 have c6:=fun wx (hb:Below w.heap.size w wx) X d x=>vwanted_any q X d x wx (h.later hb)
 have HP1:=Hd (fun (j:Nat) x (hx:q.z[j]?=some x) =>@Vw.all_at _ q.z (fun z=>decide (Ve.stand (Ve.cnt z.l) (Ve.cnt q.k)=1)) j x hx)
 have HY1:=Hd (Vw.all_to q.z (fun z=>decide (Ve.stand (Ve.cnt z.l) (Ve.cnt q.k)=1)))
 have HP2:=Hd (fun (j:Nat) x (hx:q.h[j]?=some x) =>@Vw.all_at _ q.h (Vw.has q.vw) j x hx)
 have HY2:=Hd (Vw.all_to q.h (Vw.has q.vw))
 have HP3:=Hd (fun (j:Nat) x (hx:q.b[j]?=some x) =>@Vw.all_at _ q.b (fun z=>Vw.wants q.vw z.b) j x hx)
 have HY3:=Hd (Vw.all_to q.b (fun z=>Vw.wants q.vw z.b))
 obtain⟨hv,hhv⟩:∃f,Vw.has q.vw=f:=⟨_,rfl⟩
 obtain⟨wa,hwa⟩:∃f,Vw.wants q.vw=f:=⟨_,rfl⟩
 rw[hhv]at hF c5 HP2 HY2
 rw[hwa]at hF c6 HP3 HY3
 obtain⟨t,ht⟩:∃t,Vw.fmd q.vw=t:=⟨_,rfl⟩
 rw[ht]at hF ⊢
 have HQ:=Hd hVW
 clear ht hhv hwa hZ hVW
 have hll:=(And.intro h.z.len (And.intro h.h.len h.b.len))
 clear h
 obtain⟨K,ck,kn,Z,cz,zs,H,ch,hs,B,cb,bs,room⟩:=q
 unfold vwCells at c5 c6 ⊢
 dsimp only at hF c1 c2 c3 c4 c5 c6 HP1 HY1 HP2 HY2 HP3 HY3 hll ⊢
 obtain⟨f1,hf1⟩:∃f,Ve.fmd kn=f:=⟨_,rfl⟩
 obtain⟨f2,hf2⟩:∃f,Tr.fmd (zs.map Zc.zn)=f:=⟨_,rfl⟩
 obtain⟨f3,hf3⟩:∃f,Sf.fmd hs=f:=⟨_,rfl⟩
 obtain⟨f4,hf4⟩:∃f,Ca.fmd (bs.map Bc.b) room=f:=⟨_,rfl⟩
 obtain⟨r1,hr1⟩:∃f,zs.all (fun z=>decide (Ve.stand (Ve.cnt z.l) (Ve.cnt kn)=1))=f:=⟨_,rfl⟩
 obtain⟨r2,hr2⟩:∃f,hs.all hv=f:=⟨_,rfl⟩
 obtain⟨r3,hr3⟩:∃f,bs.all (fun z=>wa z.b)=f:=⟨_,rfl⟩
 rw[hf1,hf2,hf3,hf4,hr1,hr2,hr3]at hF
 rw[hf1]at c1
 rw[hf2]at c2
 rw[hf3]at c3
 rw[hf4]at c4
 rw[hr1]at HP1 HY1
 rw[hr2]at HP2 HY2
 rw[hr3]at HP3 HY3
 have C1:=Hd c1
 have C2:=Hd c2
 have C3:=Hd c3
 have C4:=Hd c4
 have C5:=Hd c5
 have C6:=Hd c6
 have HT:=Hd hF
 have b0:=below_new (Below.refl w.heap.size w) (.cells #[.slice K kn.length ck,.slice Z zs.length cz,.slice H hs.length ch,.slice B bs.length cb,.int .i64 room] 27)
 have V0:=Blk.new w 27 #[.slice K kn.length ck,.slice Z zs.length cz,.slice H hs.length ch,.slice B bs.length cb,.int .i64 room]
 obtain⟨W,hW⟩:∃W,w.alloc (.cells #[.slice K kn.length ck,.slice Z zs.length cz,.slice H hs.length ch,.slice B bs.length cb,.int .i64 room] 27)=W:=⟨_,rfl⟩
 rw[hW]at b0 V0
 have HW:=Hd hW
 obtain⟨g,hg⟩:∃g,w.heap.size=g:=⟨_,rfl⟩
 rw[hg]at V0
 have HV:=Hd V0
 have B0:=Hd b0
 have hl1:=hll.1
 have hl2:=hll.2.1
 have hl3:=hll.2.2
 clear hll c1 c2 c3 c4 c5 c6 hF hf1 hf2 hf3 hf4 hr1 hr2 hr3 b0 V0 hW
 go_enter Tryz.func16,Tryz.ntmps16
 go_upto_region 1 with (fail)
 rw[HW.out]
 clear HW
 have v0:=HV.out.cell (i:=0) rfl
 go_wp2_with fail
 refine(C1.out W B0.out).mono ?_
 rintro e w1 ⟨rfl,b1⟩
 have B1:=Hd (below_on B0.out b1)
 have V1:=Hd (HV.out.later b1)
 have v1:=V1.out.cell (i:=1) rfl
 clear b1 v0 B0 HV C1
 cases f1 with
 |false=>
  obtain rfl:t=false:=HT.out
  go_wp2
  go_ret
  exact⟨rfl,B1.out⟩
 |true=>
 go_wp2_with fail
 refine(C2.out w1 B1.out).mono ?_
 rintro e w2 ⟨rfl,b2⟩
 have B2:=Hd (below_on B1.out b2)
 have V2:=Hd (V1.out.later b2)
 have v2:=V2.out.cell (i:=2) rfl
 clear b2 v1 B1 V1 C2
 cases f2 with
 |false=>
  obtain rfl:t=false:=HT.out
  go_wp2
  go_ret
  exact⟨rfl,B2.out⟩
 |true=>
 go_wp2_with fail
 refine(C3.out w2 B2.out).mono ?_
 rintro e w3 ⟨rfl,b3⟩
 have B3:=Hd (below_on B2.out b3)
 have V3:=Hd (V2.out.later b3)
 have v3:=V3.out.cell (i:=3) rfl
 have v4:=V3.out.cell (i:=4) rfl
 clear b3 v2 B2 V2 C3
 cases f3 with
 |false=>
  obtain rfl:t=false:=HT.out
  go_wp2
  go_ret
  exact⟨rfl,B3.out⟩
 |true=>
 go_wp2_with fail
 refine(C4.out w3 B3.out).mono ?_
 rintro e w4 ⟨rfl,b4⟩
 have B4:=Hd (below_on B3.out b4)
 have V4:=Hd (V3.out.later b4)
 clear b4 v3 v4 B3 V3 C4
 cases f4 with
 |false=>
  obtain rfl:t=false:=HT.out
  go_wp2
  go_ret
  exact⟨rfl,B4.out⟩
 |true=>
 have HT1:=Hd (show(r1&&(r2&&r3))=t from HT.out.symm)
 clear HT
 go_wp2_with fail
 go_loopw [3] (fun s3 wr=>∃k:Nat,k≤zs.length∧s3 = .int .i64 (k:Int)∧(∀(j:Nat) xe,j<k→zs[j]?=some xe→(decide (Ve.stand (Ve.cnt xe.l) (Ve.cnt kn)=1))=true)∧Below w4.heap.size w4 wr) (fun s3 _=>zs.length-(intOf s3).toNat)
 case atStart=>exact⟨0,Nat.zero_le _,rfl,(fun j xe hj=>by omega),Below.refl _ _⟩
 case round=>
  obtain⟨k,hk,rfl,hall,hbw⟩:=hrel
  have hv0:=V4.out.later hbw
  have v0:=hv0.cell (i:=0) rfl
  have v1:=hv0.cell (i:=1) rfl
  have hbb:=below_on B4.out hbw
  by_cases hlt:k<zs.length
  ·have hi0:(0:Int)≤(k:Int):=by omega
   have hi1:(k:Int)<(zs.length:Int):=by omega
   obtain⟨b,off,hA,hcs⟩:=(HQ.out wr hbb).z.at (fun e=>by rw[show zs=[] from e]at hlt;exact absurd hlt (Nat.not_lt_zero _))
   obtain⟨xe,hx⟩:∃xe,zs[k]?=some xe:=⟨_,List.getElem?_eq_getElem hlt⟩
   have HE:=Hd (hcs k xe hx)
   obtain⟨sd,hsd⟩:∃sd,Ve.stand (Ve.cnt xe.l) (Ve.cnt kn)=sd:=⟨_,rfl⟩
   have NC:=Hd (fun w' (hb:Below wr.heap.size wr w')=>show Calls Tryz.prog 57 #[.slice xe.X xe.l.length xe.c,.slice K kn.length ck] w' (Says (.int .i64 sd) w') from by
    have q1:OneL w' xe.X xe.c xe.l:=((HQ.out wr hbb).z.one hx).later hb
    have q2:OneL w' K ck kn:=(HQ.out w' (below_on hbb hb)).k
    rw[←hsd]
    exact rcompare2_any xe.X K xe.c ck xe.l kn w' q1.len q2.len q1.stamps q2.stamps)
   have hpp:=HP1.out k xe hx
   rw[hsd]at hpp
   have hqq:∀(j:Nat) y,j<k+1→zs[j]?=some y→sd=1→decide (Ve.stand (Ve.cnt y.l) (Ve.cnt kn)=1)=true:=fun j y hj hy h1=>by
    rcases Nat.lt_or_ge j k with h2|h2
    ·exact hall j y h2 hy
    ·obtain rfl:j=k:=by omega
     rw[hx]at hy
     injection hy with hy
     subst hy
     rw[hsd,h1]
     rfl
   have HPP:=Hd hpp
   have HQQ:=Hd hqq
   have BW:=Hd hbw
   have BB:=Hd hbb
   subst hA
   clear hv0 hbb hbw hall hcs hsd hpp hqq hx
   by_cases hs1:sd=1
   ·have HQ1:=Hd (fun j y h1 h2=>HQQ.out j y h1 h2 hs1)
    subst hs1
    clear HQQ HPP
    go_upto_region 6 with (fail)
    refine wp_region_facts 9 (by kernel_rfl) (by kernel_rfl)
     (fun v=>{ tmps:=#[.agg #[.slice K kn.length ck,.slice (some ⟨b,off,none⟩) zs.length cz,.slice H hs.length ch,.slice B bs.length cb,.int .i64 room],.pointer (some ⟨g,0,none⟩),u2,.int .i64 (k:Int),undef,undef,.pointer (some ⟨g,0,none⟩),.slice K kn.length ck,.bool true,.bool false,.bool false,.pointer (some ⟨g,1,none⟩),.slice (some ⟨b,off,none⟩) zs.length cz,.bool true,.bool false,.bool false,.bool false,.pointer (some ⟨g,2,none⟩),.slice H hs.length ch,.bool true,.bool false,.bool false,.bool false,.pointer (some ⟨g,3,none⟩),.slice B bs.length cb,.pointer (some ⟨g,4,none⟩),.int .i64 room,.bool true,.bool false,.bool false,.int .i64 (k:Int),.pointer (some ⟨g,1,none⟩),.slice (some ⟨b,off,none⟩) zs.length cz,.int .i64 (zs.length:Int),.bool true,u35,u36,v 0,v 1,v 2,v 3,v 4,v 5,v 6,v 7,v 8,u46,undef,undef,undef,undef,undef,undef,undef,undef,undef,undef,undef,undef,undef,undef,undef,undef,undef,undef,undef,undef,undef,undef,undef,undef,undef,undef,undef,undef,undef,undef],defers:=[] }) (fun i=>match i with|0=>u37|1=>u38|2=>u39|3=>u40|4=>u41|5=>u42|6=>u43|7=>u44|8=>u45|_=>undef)
     (fun i x wx=>match i with
      |0=>x = .pointer (some ⟨g,1,none⟩)
      |1=>x = .slice (some ⟨b,off,none⟩) zs.length cz
      |2=>x = .int .i64 (k:Int)
      |3=>x = .pointer (some ⟨b,off+k*3,none⟩)
      |4=>x = .pointer (some ⟨b,off+k*3+2,none⟩)
      |5=>x = .slice xe.X xe.l.length xe.c
      |6=>x = .pointer (some ⟨g,0,none⟩)
      |7=>x = .slice K kn.length ck
      |8=>x = .int .i64 1
      |_=>True)
     (fun w1 w2=>Below w1.heap.size w1 w2) (fun h1 h2=>below_on h1 h2) (fun _=>Below.refl _ _) (Below.drew (Below.refl _ _)) ?stabA ?stepA ?doneA
    case stabA=>
     rintro i x w1 w2 h hb
     match i,h with
     |0,h=>exact h
     |1,h=>exact h
     |2,h=>exact h
     |3,h=>exact h
     |4,h=>exact h
     |5,h=>exact h
     |6,h=>exact h
     |7,h=>exact h
     |8,h=>exact h
     |i+9,_=>trivial
    case stepA=>
     intro i hi v w' hb hd
     match i,hi with
     |0,_=>
      refine wpOp_oneH rfl fun KK HKK =>?_
      clear hd
      go_wp2
      exact HKK.out _ _ ⟨_,(by simp[upd];done),Below.refl _ _,rfl⟩
     |1,_=>
      have h0:v 0=_:=hdx hd 0 (by kernel_rfl)
      refine wpOp_oneH rfl fun KK HKK =>?_
      clear hd
      rw[h0]
      have q0:=cell_later hb v1
      go_wp2
      exact HKK.out _ _ ⟨_,(by simp[upd,h0];done),Below.refl _ _,rfl⟩
     |2,_=>
      refine wpOp_oneH rfl fun KK HKK =>?_
      clear hd
      go_wp2
      exact HKK.out _ _ ⟨_,(by simp[upd];done),Below.refl _ _,rfl⟩
     |3,_=>
      have h1:v 1=_:=hdx hd 1 (by kernel_rfl)
      have h2:v 2=_:=hdx hd 2 (by kernel_rfl)
      refine wpOp_oneH rfl fun KK HKK =>?_
      clear hd
      rw[h1,h2]
      go_wp2
      exact HKK.out _ _ ⟨_,(by simp[upd,h1,h2];done),Below.refl _ _,rfl⟩
     |4,_=>
      have h3:v 3=_:=hdx hd 3 (by kernel_rfl)
      refine wpOp_oneH rfl fun KK HKK =>?_
      clear hd
      rw[h3]
      go_wp2
      exact HKK.out _ _ ⟨_,(by simp[upd,h3];done),Below.refl _ _,rfl⟩
     |5,_=>
      have h4:v 4=_:=hdx hd 4 (by kernel_rfl)
      refine wpOp_oneH rfl fun KK HKK =>?_
      clear hd
      rw[h4]
      have q0:=cell_later hb HE.out.2.2
      go_wp2
      exact HKK.out _ _ ⟨_,(by simp[upd,h4];done),Below.refl _ _,rfl⟩
     |6,_=>
      refine wpOp_oneH rfl fun KK HKK =>?_
      clear hd
      go_wp2
      exact HKK.out _ _ ⟨_,(by simp[upd];done),Below.refl _ _,rfl⟩
     |7,_=>
      have h6:v 6=_:=hdx hd 6 (by kernel_rfl)
      refine wpOp_oneH rfl fun KK HKK =>?_
      clear hd
      rw[h6]
      have q0:=cell_later hb v0
      go_wp2
      exact HKK.out _ _ ⟨_,(by simp[upd,h6];done),Below.refl _ _,rfl⟩
     |8,_=>
      have h5:v 5=_:=hdx hd 5 (by kernel_rfl)
      have h7:v 7=_:=hdx hd 7 (by kernel_rfl)
      refine wpOp_oneH rfl fun KK HKK =>?_
      clear hd
      rw[h5,h7]
      go_wp2_with fail
      refine(NC.out _ hb).mono ?_
      rintro e w'' ⟨rfl,b⟩
      go_wp2
      exact HKK.out _ _ ⟨_,(by simp[upd,h5,h7];done),b,rfl⟩
     |k+9,hk=>exact absurd hk (by omega)
    case doneA=>
     intro v w5 hb hf
     have h8:v 8=_:=hf 8 (by decide)
     clear hf
     rw[h8]
     have BW2:=Hd (below_on BW.out hb)
     clear hb NC HE
     go_wp2_with fail
     go_roundw
     case rel=>exact⟨k+1,by omega,by go_num,HQ1.out,BW2.out⟩
     case measure=>simp[intOf];omega
   ·have hd1:(sd == 1)=false:=beq_eq_false_iff_ne.2 hs1
    have hd2:decide (sd=1)=false:=decide_eq_false hs1
    obtain rfl:r1=false:=HPP.out hd2
    obtain rfl:t=false:=HT1.out.symm
    clear HQQ HPP
    go_upto_region 6 with (fail)
    refine wp_region_facts 9 (by kernel_rfl) (by kernel_rfl)
     (fun v=>{ tmps:=#[.agg #[.slice K kn.length ck,.slice (some ⟨b,off,none⟩) zs.length cz,.slice H hs.length ch,.slice B bs.length cb,.int .i64 room],.pointer (some ⟨g,0,none⟩),u2,.int .i64 (k:Int),undef,undef,.pointer (some ⟨g,0,none⟩),.slice K kn.length ck,.bool true,.bool false,.bool false,.pointer (some ⟨g,1,none⟩),.slice (some ⟨b,off,none⟩) zs.length cz,.bool true,.bool false,.bool false,.bool false,.pointer (some ⟨g,2,none⟩),.slice H hs.length ch,.bool true,.bool false,.bool false,.bool false,.pointer (some ⟨g,3,none⟩),.slice B bs.length cb,.pointer (some ⟨g,4,none⟩),.int .i64 room,.bool true,.bool false,.bool false,.int .i64 (k:Int),.pointer (some ⟨g,1,none⟩),.slice (some ⟨b,off,none⟩) zs.length cz,.int .i64 (zs.length:Int),.bool true,u35,u36,v 0,v 1,v 2,v 3,v 4,v 5,v 6,v 7,v 8,u46,undef,undef,undef,undef,undef,undef,undef,undef,undef,undef,undef,undef,undef,undef,undef,undef,undef,undef,undef,undef,undef,undef,undef,undef,undef,undef,undef,undef,undef,undef],defers:=[] }) (fun i=>match i with|0=>u37|1=>u38|2=>u39|3=>u40|4=>u41|5=>u42|6=>u43|7=>u44|8=>u45|_=>undef)
     (fun i x wx=>match i with
      |0=>x = .pointer (some ⟨g,1,none⟩)
      |1=>x = .slice (some ⟨b,off,none⟩) zs.length cz
      |2=>x = .int .i64 (k:Int)
      |3=>x = .pointer (some ⟨b,off+k*3,none⟩)
      |4=>x = .pointer (some ⟨b,off+k*3+2,none⟩)
      |5=>x = .slice xe.X xe.l.length xe.c
      |6=>x = .pointer (some ⟨g,0,none⟩)
      |7=>x = .slice K kn.length ck
      |8=>x = .int .i64 sd
      |_=>True)
     (fun w1 w2=>Below w1.heap.size w1 w2) (fun h1 h2=>below_on h1 h2) (fun _=>Below.refl _ _) (Below.drew (Below.refl _ _)) ?stabB ?stepB ?doneB
    case stabB=>
     rintro i x w1 w2 h hb
     match i,h with
     |0,h=>exact h
     |1,h=>exact h
     |2,h=>exact h
     |3,h=>exact h
     |4,h=>exact h
     |5,h=>exact h
     |6,h=>exact h
     |7,h=>exact h
     |8,h=>exact h
     |i+9,_=>trivial
    case stepB=>
     intro i hi v w' hb hd
     match i,hi with
     |0,_=>
      refine wpOp_oneH rfl fun KK HKK =>?_
      clear hd
      go_wp2
      exact HKK.out _ _ ⟨_,(by simp[upd];done),Below.refl _ _,rfl⟩
     |1,_=>
      have h0:v 0=_:=hdx hd 0 (by kernel_rfl)
      refine wpOp_oneH rfl fun KK HKK =>?_
      clear hd
      rw[h0]
      have q0:=cell_later hb v1
      go_wp2
      exact HKK.out _ _ ⟨_,(by simp[upd,h0];done),Below.refl _ _,rfl⟩
     |2,_=>
      refine wpOp_oneH rfl fun KK HKK =>?_
      clear hd
      go_wp2
      exact HKK.out _ _ ⟨_,(by simp[upd];done),Below.refl _ _,rfl⟩
     |3,_=>
      have h1:v 1=_:=hdx hd 1 (by kernel_rfl)
      have h2:v 2=_:=hdx hd 2 (by kernel_rfl)
      refine wpOp_oneH rfl fun KK HKK =>?_
      clear hd
      rw[h1,h2]
      go_wp2
      exact HKK.out _ _ ⟨_,(by simp[upd,h1,h2];done),Below.refl _ _,rfl⟩
     |4,_=>
      have h3:v 3=_:=hdx hd 3 (by kernel_rfl)
      refine wpOp_oneH rfl fun KK HKK =>?_
      clear hd
      rw[h3]
      go_wp2
      exact HKK.out _ _ ⟨_,(by simp[upd,h3];done),Below.refl _ _,rfl⟩
     |5,_=>
      have h4:v 4=_:=hdx hd 4 (by kernel_rfl)
      refine wpOp_oneH rfl fun KK HKK =>?_
      clear hd
      rw[h4]
      have q0:=cell_later hb HE.out.2.2
      go_wp2
      exact HKK.out _ _ ⟨_,(by simp[upd,h4];done),Below.refl _ _,rfl⟩
     |6,_=>
      refine wpOp_oneH rfl fun KK HKK =>?_
      clear hd
      go_wp2
      exact HKK.out _ _ ⟨_,(by simp[upd];done),Below.refl _ _,rfl⟩
     |7,_=>
      have h6:v 6=_:=hdx hd 6 (by kernel_rfl)
      refine wpOp_oneH rfl fun KK HKK =>?_
      clear hd
      rw[h6]
      have q0:=cell_later hb v0
      go_wp2
      exact HKK.out _ _ ⟨_,(by simp[upd,h6];done),Below.refl _ _,rfl⟩
     |8,_=>
      have h5:v 5=_:=hdx hd 5 (by kernel_rfl)
      have h7:v 7=_:=hdx hd 7 (by kernel_rfl)
      refine wpOp_oneH rfl fun KK HKK =>?_
      clear hd
      rw[h5,h7]
      go_wp2_with fail
      refine(NC.out _ hb).mono ?_
      rintro e w'' ⟨rfl,b⟩
      go_wp2
      exact HKK.out _ _ ⟨_,(by simp[upd,h5,h7];done),b,rfl⟩
     |k+9,hk=>exact absurd hk (by omega)
    case doneB=>
     intro v w5 hb hf
     have h8:v 8=_:=hf 8 (by decide)
     clear hf
     rw[h8]
     have BB2:=Hd (below_on BB.out hb)
     clear hb NC HE
     go_wp2
     go_ret
     exact⟨rfl,BB2.out⟩
  obtain rfl:k=zs.length:=by omega
  have hd0:decide ((zs.length:Int)<(zs.length:Int))=false:=decide_eq_false (by omega)
  obtain rfl:r1=true:=HY1.out (fun j xe hx=>hall j xe (by have:=(List.getElem?_eq_some_iff.1 hx).1;omega) hx)
  have B5:=Hd hbb
  have V5:=Hd hv0
  have HT2:=Hd (show(r2&&r3)=t from HT1.out)
  clear HT1
  have HT1:=HT2
  clear HT2 hall hbw hbb hv0 B4 V4 HY1 HP1
  rename World=>w5
  go_wp2_with fail
  clear v0 v1 hd0 hlt hk
  go_loopw [4] (fun s4 wr=>∃k:Nat,k≤hs.length∧s4 = .int .i64 (k:Int)∧(∀(j:Nat) xe,j<k→hs[j]?=some xe→(hv xe)=true)∧Below w5.heap.size w5 wr) (fun s4 _=>hs.length-(intOf s4).toNat)
  case atStart=>exact⟨0,Nat.zero_le _,rfl,(fun j xe hj=>by omega),Below.refl _ _⟩
  case round=>
   obtain⟨k,hk,rfl,hall,hbw⟩:=hrel
   have hv0:=V5.out.later hbw
   have v0:=hv0.cell (i:=0) rfl
   have v1:=hv0.cell (i:=1) rfl
   have v2:=hv0.cell (i:=2) rfl
   have v3:=hv0.cell (i:=3) rfl
   have v4:=hv0.cell (i:=4) rfl
   have hbb:=below_on B5.out hbw
   by_cases hlt:k<hs.length
   ·have hi0:(0:Int)≤(k:Int):=by omega
    have hi1:(k:Int)<(hs.length:Int):=by omega
    obtain⟨b,off,hA,hcs⟩:=(HQ.out wr hbb).h.at (fun e=>by rw[show hs=[] from e]at hlt;exact absurd hlt (Nat.not_lt_zero _))
    obtain⟨xe,hxx⟩:∃xe,hs.getD k Nt.zeroW=xe:=⟨_,rfl⟩
    have hx:hs[k]?=some xe:=by
     rw[←hxx,List.getD_eq_getElem?_getD,List.getElem?_eq_getElem hlt]
     rfl
    have hcx:=hcs k hlt
    dsimp only at hcx
    rw[hxx]at hcx
    have HE:=Hd hcx
    obtain⟨sd,hsd⟩:∃sd,hv xe=sd:=⟨_,rfl⟩
    have NC:=Hd (fun w' (hb:Below wr.heap.size wr w')=>show Calls Tryz.prog 58 #[.agg #[.slice K kn.length ck,.slice Z zs.length cz,.slice H hs.length ch,.slice B bs.length cb,.int .i64 room],.agg #[.int .i64 xe.1,.int .i64 xe.2.1,.int .i64 xe.2.2.1,.bool xe.2.2.2]] w' (Says (.bool sd) w') from by
     rw[←hsd]
     exact C5.out w' (below_on hbb hb) xe)
    have hpp:=HP2.out k xe hx
    rw[show(hv xe)=sd from hsd]at hpp
    have hqq:∀(j:Nat) y,j<k+1→hs[j]?=some y→sd=true→(hv y)=true:=fun j y hj hy h1=>by
     rcases Nat.lt_or_ge j k with h2|h2
     ·exact hall j y h2 hy
     ·obtain rfl:j=k:=by omega
      rw[hx]at hy
      injection hy with hy
      subst hy
      exact hsd.trans h1
    have HPP:=Hd hpp
    have HQQ:=Hd hqq
    have BW:=Hd hbw
    have BB:=Hd hbb
    subst hA
    clear hv0 hbb hbw hall hcs hcx hxx hsd hpp hqq hx
    cases sd with
    |true=>
     have HQ1:=Hd (fun j y h1 h2=>HQQ.out j y h1 h2 rfl)
     clear HQQ HPP
     go_upto_region 11 with (fail)
     refine wp_region_facts 7 (by kernel_rfl) (by kernel_rfl)
      (fun v=>{ tmps:=#[.agg #[.slice K kn.length ck,.slice Z zs.length cz,.slice (some ⟨b,off,none⟩) hs.length ch,.slice B bs.length cb,.int .i64 room],.pointer (some ⟨g,0,none⟩),u2,.int .i64 (zs.length:Int),.int .i64 (k:Int),undef,.pointer (some ⟨g,0,none⟩),.slice K kn.length ck,.bool true,.bool false,.bool false,.pointer (some ⟨g,1,none⟩),.slice Z zs.length cz,.bool true,.bool false,.bool false,.bool false,.pointer (some ⟨g,2,none⟩),.slice (some ⟨b,off,none⟩) hs.length ch,.bool true,.bool false,.bool false,.bool false,.pointer (some ⟨g,3,none⟩),.slice B bs.length cb,.pointer (some ⟨g,4,none⟩),.int .i64 room,.bool true,.bool false,.bool false,.int .i64 (zs.length:Int),.pointer (some ⟨g,1,none⟩),.slice Z zs.length cz,.int .i64 (zs.length:Int),.bool false,u35,u36,u37,u38,u39,u40,u41,u42,u43,u44,u45,u46,.int .i64 (k:Int),.pointer (some ⟨g,2,none⟩),.slice (some ⟨b,off,none⟩) hs.length ch,.int .i64 (hs.length:Int),.bool true,u52,u53,v 0,v 1,v 2,v 3,v 4,v 5,v 6,u61,undef,undef,undef,undef,undef,undef,undef,undef,undef,undef,undef,undef,undef,undef,undef],defers:=[] }) (fun i=>match i with|0=>u54|1=>u55|2=>u56|3=>u57|4=>u58|5=>u59|6=>u60|_=>undef)
      (fun i x wx=>match i with
       |0=>x = .agg #[.slice K kn.length ck,.slice Z zs.length cz,.slice (some ⟨b,off,none⟩) hs.length ch,.slice B bs.length cb,.int .i64 room]
       |1=>x = .pointer (some ⟨g,2,none⟩)
       |2=>x = .slice (some ⟨b,off,none⟩) hs.length ch
       |3=>x = .int .i64 (k:Int)
       |4=>x = .pointer (some ⟨b,off+k*4,none⟩)
       |5=>x = .agg #[.int .i64 xe.1,.int .i64 xe.2.1,.int .i64 xe.2.2.1,.bool xe.2.2.2]
       |6=>x = .bool true
       |_=>True)
      (fun w1 w2=>Below w1.heap.size w1 w2) (fun h1 h2=>below_on h1 h2) (fun _=>Below.refl _ _) (Below.drew (Below.refl _ _)) ?stabC ?stepC ?doneC
     case stabC=>
      rintro i x w1 w2 h hb
      match i,h with
      |0,h=>exact h
      |1,h=>exact h
      |2,h=>exact h
      |3,h=>exact h
      |4,h=>exact h
      |5,h=>exact h
      |6,h=>exact h
      |i+7,_=>trivial
     case stepC=>
      intro i hi v w' hb hd
      match i,hi with
      |0,_=>
       refine wpOp_oneH rfl fun KK HKK =>?_
       clear hd
       have q0:=cell_later hb v0
       have q1:=cell_later hb v1
       have q2:=cell_later hb v2
       have q3:=cell_later hb v3
       have q4:=cell_later hb v4
       go_wp2
       exact HKK.out _ _ ⟨_,(by simp[upd];done),Below.refl _ _,rfl⟩
      |1,_=>
       refine wpOp_oneH rfl fun KK HKK =>?_
       clear hd
       go_wp2
       exact HKK.out _ _ ⟨_,(by simp[upd];done),Below.refl _ _,rfl⟩
      |2,_=>
       have h1:v 1=_:=hdx hd 1 (by kernel_rfl)
       refine wpOp_oneH rfl fun KK HKK =>?_
       clear hd
       rw[h1]
       have q0:=cell_later hb v2
       go_wp2
       exact HKK.out _ _ ⟨_,(by simp[upd,h1];done),Below.refl _ _,rfl⟩
      |3,_=>
       refine wpOp_oneH rfl fun KK HKK =>?_
       clear hd
       go_wp2
       exact HKK.out _ _ ⟨_,(by simp[upd];done),Below.refl _ _,rfl⟩
      |4,_=>
       have h2:v 2=_:=hdx hd 2 (by kernel_rfl)
       have h3:v 3=_:=hdx hd 3 (by kernel_rfl)
       refine wpOp_oneH rfl fun KK HKK =>?_
       clear hd
       rw[h2,h3]
       go_wp2
       exact HKK.out _ _ ⟨_,(by simp[upd,h2,h3];done),Below.refl _ _,rfl⟩
      |5,_=>
       have h4:v 4=_:=hdx hd 4 (by kernel_rfl)
       refine wpOp_oneH rfl fun KK HKK =>?_
       clear hd
       rw[h4]
       have q0:=cell_later hb HE.out.1
       have q1:=cell_later hb HE.out.2.1
       have q2:=cell_later hb HE.out.2.2.1
       have q3:=cell_later hb HE.out.2.2.2
       go_wp2
       exact HKK.out _ _ ⟨_,(by simp[upd,h4];done),Below.refl _ _,rfl⟩
      |6,_=>
       have h0:v 0=_:=hdx hd 0 (by kernel_rfl)
       have h5:v 5=_:=hdx hd 5 (by kernel_rfl)
       refine wpOp_oneH rfl fun KK HKK =>?_
       clear hd
       rw[h0,h5]
       go_wp2_with fail
       refine(NC.out _ hb).mono ?_
       rintro e w'' ⟨rfl,b⟩
       go_wp2
       exact HKK.out _ _ ⟨_,(by simp[upd,h0,h5];done),b,rfl⟩
      |k+7,hk=>exact absurd hk (by omega)
     case doneC=>
      intro v w5 hb hf
      have h6:v 6=_:=hf 6 (by decide)
      clear hf
      rw[h6]
      have BW2:=Hd (below_on BW.out hb)
      clear hb NC HE
      go_wp2_with fail
      go_roundw
      case rel=>exact⟨k+1,by omega,by go_num,HQ1.out,BW2.out⟩
      case measure=>simp[intOf];omega
    |false=>
     obtain rfl:r2=false:=HPP.out rfl
     obtain rfl:t=false:=HT1.out.symm
     clear HQQ HPP
     go_upto_region 11 with (fail)
     refine wp_region_facts 7 (by kernel_rfl) (by kernel_rfl)
      (fun v=>{ tmps:=#[.agg #[.slice K kn.length ck,.slice Z zs.length cz,.slice (some ⟨b,off,none⟩) hs.length ch,.slice B bs.length cb,.int .i64 room],.pointer (some ⟨g,0,none⟩),u2,.int .i64 (zs.length:Int),.int .i64 (k:Int),undef,.pointer (some ⟨g,0,none⟩),.slice K kn.length ck,.bool true,.bool false,.bool false,.pointer (some ⟨g,1,none⟩),.slice Z zs.length cz,.bool true,.bool false,.bool false,.bool false,.pointer (some ⟨g,2,none⟩),.slice (some ⟨b,off,none⟩) hs.length ch,.bool true,.bool false,.bool false,.bool false,.pointer (some ⟨g,3,none⟩),.slice B bs.length cb,.pointer (some ⟨g,4,none⟩),.int .i64 room,.bool true,.bool false,.bool false,.int .i64 (zs.length:Int),.pointer (some ⟨g,1,none⟩),.slice Z zs.length cz,.int .i64 (zs.length:Int),.bool false,u35,u36,u37,u38,u39,u40,u41,u42,u43,u44,u45,u46,.int .i64 (k:Int),.pointer (some ⟨g,2,none⟩),.slice (some ⟨b,off,none⟩) hs.length ch,.int .i64 (hs.length:Int),.bool true,u52,u53,v 0,v 1,v 2,v 3,v 4,v 5,v 6,u61,undef,undef,undef,undef,undef,undef,undef,undef,undef,undef,undef,undef,undef,undef,undef],defers:=[] }) (fun i=>match i with|0=>u54|1=>u55|2=>u56|3=>u57|4=>u58|5=>u59|6=>u60|_=>undef)
      (fun i x wx=>match i with
       |0=>x = .agg #[.slice K kn.length ck,.slice Z zs.length cz,.slice (some ⟨b,off,none⟩) hs.length ch,.slice B bs.length cb,.int .i64 room]
       |1=>x = .pointer (some ⟨g,2,none⟩)
       |2=>x = .slice (some ⟨b,off,none⟩) hs.length ch
       |3=>x = .int .i64 (k:Int)
       |4=>x = .pointer (some ⟨b,off+k*4,none⟩)
       |5=>x = .agg #[.int .i64 xe.1,.int .i64 xe.2.1,.int .i64 xe.2.2.1,.bool xe.2.2.2]
       |6=>x = .bool false
       |_=>True)
      (fun w1 w2=>Below w1.heap.size w1 w2) (fun h1 h2=>below_on h1 h2) (fun _=>Below.refl _ _) (Below.drew (Below.refl _ _)) ?stabD ?stepD ?doneD
     case stabD=>
      rintro i x w1 w2 h hb
      match i,h with
      |0,h=>exact h
      |1,h=>exact h
      |2,h=>exact h
      |3,h=>exact h
      |4,h=>exact h
      |5,h=>exact h
      |6,h=>exact h
      |i+7,_=>trivial
     case stepD=>
      intro i hi v w' hb hd
      match i,hi with
      |0,_=>
       refine wpOp_oneH rfl fun KK HKK =>?_
       clear hd
       have q0:=cell_later hb v0
       have q1:=cell_later hb v1
       have q2:=cell_later hb v2
       have q3:=cell_later hb v3
       have q4:=cell_later hb v4
       go_wp2
       exact HKK.out _ _ ⟨_,(by simp[upd];done),Below.refl _ _,rfl⟩
      |1,_=>
       refine wpOp_oneH rfl fun KK HKK =>?_
       clear hd
       go_wp2
       exact HKK.out _ _ ⟨_,(by simp[upd];done),Below.refl _ _,rfl⟩
      |2,_=>
       have h1:v 1=_:=hdx hd 1 (by kernel_rfl)
       refine wpOp_oneH rfl fun KK HKK =>?_
       clear hd
       rw[h1]
       have q0:=cell_later hb v2
       go_wp2
       exact HKK.out _ _ ⟨_,(by simp[upd,h1];done),Below.refl _ _,rfl⟩
      |3,_=>
       refine wpOp_oneH rfl fun KK HKK =>?_
       clear hd
       go_wp2
       exact HKK.out _ _ ⟨_,(by simp[upd];done),Below.refl _ _,rfl⟩
      |4,_=>
       have h2:v 2=_:=hdx hd 2 (by kernel_rfl)
       have h3:v 3=_:=hdx hd 3 (by kernel_rfl)
       refine wpOp_oneH rfl fun KK HKK =>?_
       clear hd
       rw[h2,h3]
       go_wp2
       exact HKK.out _ _ ⟨_,(by simp[upd,h2,h3];done),Below.refl _ _,rfl⟩
      |5,_=>
       have h4:v 4=_:=hdx hd 4 (by kernel_rfl)
       refine wpOp_oneH rfl fun KK HKK =>?_
       clear hd
       rw[h4]
       have q0:=cell_later hb HE.out.1
       have q1:=cell_later hb HE.out.2.1
       have q2:=cell_later hb HE.out.2.2.1
       have q3:=cell_later hb HE.out.2.2.2
       go_wp2
       exact HKK.out _ _ ⟨_,(by simp[upd,h4];done),Below.refl _ _,rfl⟩
      |6,_=>
       have h0:v 0=_:=hdx hd 0 (by kernel_rfl)
       have h5:v 5=_:=hdx hd 5 (by kernel_rfl)
       refine wpOp_oneH rfl fun KK HKK =>?_
       clear hd
       rw[h0,h5]
       go_wp2_with fail
       refine(NC.out _ hb).mono ?_
       rintro e w'' ⟨rfl,b⟩
       go_wp2
       exact HKK.out _ _ ⟨_,(by simp[upd,h0,h5];done),b,rfl⟩
      |k+7,hk=>exact absurd hk (by omega)
     case doneD=>
      intro v w5 hb hf
      have h6:v 6=_:=hf 6 (by decide)
      clear hf
      rw[h6]
      have BB2:=Hd (below_on BB.out hb)
      clear hb NC HE
      go_wp2
      go_ret
      exact⟨rfl,BB2.out⟩
   obtain rfl:k=hs.length:=by omega
   have hd0:decide ((hs.length:Int)<(hs.length:Int))=false:=decide_eq_false (by omega)
   obtain rfl:r2=true:=HY2.out (fun j xe hx=>hall j xe (by have:=(List.getElem?_eq_some_iff.1 hx).1;omega) hx)
   have B6:=Hd hbb
   have V6:=Hd hv0
   have HT2:=Hd (show(r3)=t from HT1.out)
   clear HT1
   have HT1:=HT2
   clear HT2 hall hbw hbb hv0 B5 V5 HY2 HP2
   rename World=>w6
   go_wp2_with fail
   clear v0 v1 v2 v3 v4 hd0 hlt hk
   go_loopw [5] (fun s5 wr=>∃k:Nat,k≤bs.length∧s5 = .int .i64 (k:Int)∧(∀(j:Nat) xe,j<k→bs[j]?=some xe→(wa xe.b)=true)∧Below w6.heap.size w6 wr) (fun s5 _=>bs.length-(intOf s5).toNat)
   case atStart=>exact⟨0,Nat.zero_le _,rfl,(fun j xe hj=>by omega),Below.refl _ _⟩
   case round=>
    obtain⟨k,hk,rfl,hall,hbw⟩:=hrel
    have hv0:=V6.out.later hbw
    have v0:=hv0.cell (i:=0) rfl
    have v1:=hv0.cell (i:=1) rfl
    have v2:=hv0.cell (i:=2) rfl
    have v3:=hv0.cell (i:=3) rfl
    have v4:=hv0.cell (i:=4) rfl
    have hbb:=below_on B6.out hbw
    by_cases hlt:k<bs.length
    ·have hi0:(0:Int)≤(k:Int):=by omega
     have hi1:(k:Int)<(bs.length:Int):=by omega
     obtain⟨b,off,hA,hcs⟩:=(HQ.out wr hbb).b.at (fun e=>by rw[show bs=[] from e]at hlt;exact absurd hlt (Nat.not_lt_zero _))
     obtain⟨xe,hxx⟩:∃xe,bs.getD k Bc.zero=xe:=⟨_,rfl⟩
     have hx:bs[k]?=some xe:=by
      rw[←hxx,List.getD_eq_getElem?_getD,List.getElem?_eq_getElem hlt]
      rfl
     have hcx:=hcs k hlt
     dsimp only at hcx
     rw[hxx]at hcx
     have HE:=Hd hcx
     obtain⟨sd,hsd⟩:∃sd,wa xe.b=sd:=⟨_,rfl⟩
     have NC:=Hd (fun w' (hb:Below wr.heap.size wr w')=>show Calls Tryz.prog 59 #[.agg #[.slice K kn.length ck,.slice Z zs.length cz,.slice H hs.length ch,.slice B bs.length cb,.int .i64 room],.agg #[.int .i64 xe.b.o,.int .i64 xe.b.c,.int .i64 xe.b.n,.slice xe.X xe.b.v.length xe.d]] w' (Says (.bool sd) w') from by
      rw[←hsd]
      exact C6.out w' (below_on hbb hb) xe.X xe.d xe.b)
     have hpp:=HP3.out k xe hx
     rw[show(wa xe.b)=sd from hsd]at hpp
     have hqq:∀(j:Nat) y,j<k+1→bs[j]?=some y→sd=true→(wa y.b)=true:=fun j y hj hy h1=>by
      rcases Nat.lt_or_ge j k with h2|h2
      ·exact hall j y h2 hy
      ·obtain rfl:j=k:=by omega
       rw[hx]at hy
       injection hy with hy
       subst hy
       exact hsd.trans h1
     have HPP:=Hd hpp
     have HQQ:=Hd hqq
     have BW:=Hd hbw
     have BB:=Hd hbb
     subst hA
     clear hv0 hbb hbw hall hcs hcx hxx hsd hpp hqq hx
     cases sd with
     |true=>
      have HQ1:=Hd (fun j y h1 h2=>HQQ.out j y h1 h2 rfl)
      clear HQQ HPP
      go_upto_region 16 with (fail)
      refine wp_region_facts 7 (by kernel_rfl) (by kernel_rfl)
       (fun v=>{ tmps:=#[.agg #[.slice K kn.length ck,.slice Z zs.length cz,.slice H hs.length ch,.slice (some ⟨b,off,none⟩) bs.length cb,.int .i64 room],.pointer (some ⟨g,0,none⟩),u2,.int .i64 (zs.length:Int),.int .i64 (hs.length:Int),.int .i64 (k:Int),.pointer (some ⟨g,0,none⟩),.slice K kn.length ck,.bool true,.bool false,.bool false,.pointer (some ⟨g,1,none⟩),.slice Z zs.length cz,.bool true,.bool false,.bool false,.bool false,.pointer (some ⟨g,2,none⟩),.slice H hs.length ch,.bool true,.bool false,.bool false,.bool false,.pointer (some ⟨g,3,none⟩),.slice (some ⟨b,off,none⟩) bs.length cb,.pointer (some ⟨g,4,none⟩),.int .i64 room,.bool true,.bool false,.bool false,.int .i64 (zs.length:Int),.pointer (some ⟨g,1,none⟩),.slice Z zs.length cz,.int .i64 (zs.length:Int),.bool false,u35,u36,u37,u38,u39,u40,u41,u42,u43,u44,u45,u46,.int .i64 (hs.length:Int),.pointer (some ⟨g,2,none⟩),.slice H hs.length ch,.int .i64 (hs.length:Int),.bool false,u52,u53,u54,u55,u56,u57,u58,u59,u60,u61,.int .i64 (k:Int),.pointer (some ⟨g,3,none⟩),.slice (some ⟨b,off,none⟩) bs.length cb,.int .i64 (bs.length:Int),.bool true,u67,u68,v 0,v 1,v 2,v 3,v 4,v 5,v 6,u76],defers:=[] }) (fun i=>match i with|0=>u69|1=>u70|2=>u71|3=>u72|4=>u73|5=>u74|6=>u75|_=>undef)
       (fun i x wx=>match i with
        |0=>x = .agg #[.slice K kn.length ck,.slice Z zs.length cz,.slice H hs.length ch,.slice (some ⟨b,off,none⟩) bs.length cb,.int .i64 room]
        |1=>x = .pointer (some ⟨g,3,none⟩)
        |2=>x = .slice (some ⟨b,off,none⟩) bs.length cb
        |3=>x = .int .i64 (k:Int)
        |4=>x = .pointer (some ⟨b,off+k*4,none⟩)
        |5=>x = .agg #[.int .i64 xe.b.o,.int .i64 xe.b.c,.int .i64 xe.b.n,.slice xe.X xe.b.v.length xe.d]
        |6=>x = .bool true
        |_=>True)
       (fun w1 w2=>Below w1.heap.size w1 w2) (fun h1 h2=>below_on h1 h2) (fun _=>Below.refl _ _) (Below.drew (Below.refl _ _)) ?stabE ?stepE ?doneE
      case stabE=>
       rintro i x w1 w2 h hb
       match i,h with
       |0,h=>exact h
       |1,h=>exact h
       |2,h=>exact h
       |3,h=>exact h
       |4,h=>exact h
       |5,h=>exact h
       |6,h=>exact h
       |i+7,_=>trivial
      case stepE=>
       intro i hi v w' hb hd
       match i,hi with
       |0,_=>
        refine wpOp_oneH rfl fun KK HKK =>?_
        clear hd
        have q0:=cell_later hb v0
        have q1:=cell_later hb v1
        have q2:=cell_later hb v2
        have q3:=cell_later hb v3
        have q4:=cell_later hb v4
        go_wp2
        exact HKK.out _ _ ⟨_,(by simp[upd];done),Below.refl _ _,rfl⟩
       |1,_=>
        refine wpOp_oneH rfl fun KK HKK =>?_
        clear hd
        go_wp2
        exact HKK.out _ _ ⟨_,(by simp[upd];done),Below.refl _ _,rfl⟩
       |2,_=>
        have h1:v 1=_:=hdx hd 1 (by kernel_rfl)
        refine wpOp_oneH rfl fun KK HKK =>?_
        clear hd
        rw[h1]
        have q0:=cell_later hb v3
        go_wp2
        exact HKK.out _ _ ⟨_,(by simp[upd,h1];done),Below.refl _ _,rfl⟩
       |3,_=>
        refine wpOp_oneH rfl fun KK HKK =>?_
        clear hd
        go_wp2
        exact HKK.out _ _ ⟨_,(by simp[upd];done),Below.refl _ _,rfl⟩
       |4,_=>
        have h2:v 2=_:=hdx hd 2 (by kernel_rfl)
        have h3:v 3=_:=hdx hd 3 (by kernel_rfl)
        refine wpOp_oneH rfl fun KK HKK =>?_
        clear hd
        rw[h2,h3]
        go_wp2
        exact HKK.out _ _ ⟨_,(by simp[upd,h2,h3];done),Below.refl _ _,rfl⟩
       |5,_=>
        have h4:v 4=_:=hdx hd 4 (by kernel_rfl)
        refine wpOp_oneH rfl fun KK HKK =>?_
        clear hd
        rw[h4]
        have q0:=cell_later hb HE.out.1
        have q1:=cell_later hb HE.out.2.1
        have q2:=cell_later hb HE.out.2.2.1
        have q3:=cell_later hb HE.out.2.2.2
        go_wp2
        exact HKK.out _ _ ⟨_,(by simp[upd,h4];done),Below.refl _ _,rfl⟩
       |6,_=>
        have h0:v 0=_:=hdx hd 0 (by kernel_rfl)
        have h5:v 5=_:=hdx hd 5 (by kernel_rfl)
        refine wpOp_oneH rfl fun KK HKK =>?_
        clear hd
        rw[h0,h5]
        go_wp2_with fail
        refine(NC.out _ hb).mono ?_
        rintro e w'' ⟨rfl,b⟩
        go_wp2
        exact HKK.out _ _ ⟨_,(by simp[upd,h0,h5];done),b,rfl⟩
       |k+7,hk=>exact absurd hk (by omega)
      case doneE=>
       intro v w5 hb hf
       have h6:v 6=_:=hf 6 (by decide)
       clear hf
       rw[h6]
       have BW2:=Hd (below_on BW.out hb)
       clear hb NC HE
       go_wp2_with fail
       go_roundw
       case rel=>exact⟨k+1,by omega,by go_num,HQ1.out,BW2.out⟩
       case measure=>simp[intOf];omega
     |false=>
      obtain rfl:r3=false:=HPP.out rfl
      obtain rfl:t=false:=HT1.out.symm
      clear HQQ HPP
      go_upto_region 16 with (fail)
      refine wp_region_facts 7 (by kernel_rfl) (by kernel_rfl)
       (fun v=>{ tmps:=#[.agg #[.slice K kn.length ck,.slice Z zs.length cz,.slice H hs.length ch,.slice (some ⟨b,off,none⟩) bs.length cb,.int .i64 room],.pointer (some ⟨g,0,none⟩),u2,.int .i64 (zs.length:Int),.int .i64 (hs.length:Int),.int .i64 (k:Int),.pointer (some ⟨g,0,none⟩),.slice K kn.length ck,.bool true,.bool false,.bool false,.pointer (some ⟨g,1,none⟩),.slice Z zs.length cz,.bool true,.bool false,.bool false,.bool false,.pointer (some ⟨g,2,none⟩),.slice H hs.length ch,.bool true,.bool false,.bool false,.bool false,.pointer (some ⟨g,3,none⟩),.slice (some ⟨b,off,none⟩) bs.length cb,.pointer (some ⟨g,4,none⟩),.int .i64 room,.bool true,.bool false,.bool false,.int .i64 (zs.length:Int),.pointer (some ⟨g,1,none⟩),.slice Z zs.length cz,.int .i64 (zs.length:Int),.bool false,u35,u36,u37,u38,u39,u40,u41,u42,u43,u44,u45,u46,.int .i64 (hs.length:Int),.pointer (some ⟨g,2,none⟩),.slice H hs.length ch,.int .i64 (hs.length:Int),.bool false,u52,u53,u54,u55,u56,u57,u58,u59,u60,u61,.int .i64 (k:Int),.pointer (some ⟨g,3,none⟩),.slice (some ⟨b,off,none⟩) bs.length cb,.int .i64 (bs.length:Int),.bool true,u67,u68,v 0,v 1,v 2,v 3,v 4,v 5,v 6,u76],defers:=[] }) (fun i=>match i with|0=>u69|1=>u70|2=>u71|3=>u72|4=>u73|5=>u74|6=>u75|_=>undef)
       (fun i x wx=>match i with
        |0=>x = .agg #[.slice K kn.length ck,.slice Z zs.length cz,.slice H hs.length ch,.slice (some ⟨b,off,none⟩) bs.length cb,.int .i64 room]
        |1=>x = .pointer (some ⟨g,3,none⟩)
        |2=>x = .slice (some ⟨b,off,none⟩) bs.length cb
        |3=>x = .int .i64 (k:Int)
        |4=>x = .pointer (some ⟨b,off+k*4,none⟩)
        |5=>x = .agg #[.int .i64 xe.b.o,.int .i64 xe.b.c,.int .i64 xe.b.n,.slice xe.X xe.b.v.length xe.d]
        |6=>x = .bool false
        |_=>True)
       (fun w1 w2=>Below w1.heap.size w1 w2) (fun h1 h2=>below_on h1 h2) (fun _=>Below.refl _ _) (Below.drew (Below.refl _ _)) ?stabF ?stepF ?doneF
      case stabF=>
       rintro i x w1 w2 h hb
       match i,h with
       |0,h=>exact h
       |1,h=>exact h
       |2,h=>exact h
       |3,h=>exact h
       |4,h=>exact h
       |5,h=>exact h
       |6,h=>exact h
       |i+7,_=>trivial
      case stepF=>
       intro i hi v w' hb hd
       match i,hi with
       |0,_=>
        refine wpOp_oneH rfl fun KK HKK =>?_
        clear hd
        have q0:=cell_later hb v0
        have q1:=cell_later hb v1
        have q2:=cell_later hb v2
        have q3:=cell_later hb v3
        have q4:=cell_later hb v4
        go_wp2
        exact HKK.out _ _ ⟨_,(by simp[upd];done),Below.refl _ _,rfl⟩
       |1,_=>
        refine wpOp_oneH rfl fun KK HKK =>?_
        clear hd
        go_wp2
        exact HKK.out _ _ ⟨_,(by simp[upd];done),Below.refl _ _,rfl⟩
       |2,_=>
        have h1:v 1=_:=hdx hd 1 (by kernel_rfl)
        refine wpOp_oneH rfl fun KK HKK =>?_
        clear hd
        rw[h1]
        have q0:=cell_later hb v3
        go_wp2
        exact HKK.out _ _ ⟨_,(by simp[upd,h1];done),Below.refl _ _,rfl⟩
       |3,_=>
        refine wpOp_oneH rfl fun KK HKK =>?_
        clear hd
        go_wp2
        exact HKK.out _ _ ⟨_,(by simp[upd];done),Below.refl _ _,rfl⟩
       |4,_=>
        have h2:v 2=_:=hdx hd 2 (by kernel_rfl)
        have h3:v 3=_:=hdx hd 3 (by kernel_rfl)
        refine wpOp_oneH rfl fun KK HKK =>?_
        clear hd
        rw[h2,h3]
        go_wp2
        exact HKK.out _ _ ⟨_,(by simp[upd,h2,h3];done),Below.refl _ _,rfl⟩
       |5,_=>
        have h4:v 4=_:=hdx hd 4 (by kernel_rfl)
        refine wpOp_oneH rfl fun KK HKK =>?_
        clear hd
        rw[h4]
        have q0:=cell_later hb HE.out.1
        have q1:=cell_later hb HE.out.2.1
        have q2:=cell_later hb HE.out.2.2.1
        have q3:=cell_later hb HE.out.2.2.2
        go_wp2
        exact HKK.out _ _ ⟨_,(by simp[upd,h4];done),Below.refl _ _,rfl⟩
       |6,_=>
        have h0:v 0=_:=hdx hd 0 (by kernel_rfl)
        have h5:v 5=_:=hdx hd 5 (by kernel_rfl)
        refine wpOp_oneH rfl fun KK HKK =>?_
        clear hd
        rw[h0,h5]
        go_wp2_with fail
        refine(NC.out _ hb).mono ?_
        rintro e w'' ⟨rfl,b⟩
        go_wp2
        exact HKK.out _ _ ⟨_,(by simp[upd,h0,h5];done),b,rfl⟩
       |k+7,hk=>exact absurd hk (by omega)
      case doneF=>
       intro v w5 hb hf
       have h6:v 6=_:=hf 6 (by decide)
       clear hf
       rw[h6]
       have BB2:=Hd (below_on BB.out hb)
       clear hb NC HE
       go_wp2
       go_ret
       exact⟨rfl,BB2.out⟩
    obtain rfl:k=bs.length:=by omega
    have hd0:decide ((bs.length:Int)<(bs.length:Int))=false:=decide_eq_false (by omega)
    obtain rfl:r3=true:=HY3.out (fun j xe hx=>hall j xe (by have:=(List.getElem?_eq_some_iff.1 hx).1;omega) hx)
    obtain rfl:t=true:=HT1.out.symm
    have BB:=Hd hbb
    clear hall hbw hbb hv0
    go_wp2
    go_ret
    exact⟨rfl,BB.out⟩
set_option maxRecDepth 100000 in
set_option maxHeartbeats 6400000 in
theorem vnew_any(room:Int)(w:World):Calls Tryz.prog 14 #[.int .i64 room] w (GivesVwE (Vw.newR room).1 (Vw.newR room).2 w):=by
 by_cases c0:room<0
 ·have d0:decide (room<0)=true:=decide_eq_true c0
  rw[show Vw.newR room=(Vw.zero,1) from by unfold Vw.newR;rw[if_neg (by omega)]]
  clear c0
  have hb0:=below_new (Below.refl w.heap.size w) (.cells #[.slice none 0 0,.slice none 0 0,.slice none 0 0,.slice none 0 0,.int .i64 0] 27)
  have hR:=Blk.new w 27 #[.slice none 0 0,.slice none 0 0,.slice none 0 0,.slice none 0 0,.int .i64 0]
  obtain⟨W,hW⟩:∃W,w.alloc (.cells #[.slice none 0 0,.slice none 0 0,.slice none 0 0,.slice none 0 0,.int .i64 0] 27)=W:=⟨_,rfl⟩
  rw[hW]at hb0 hR
  have HW:=Hd hW
  obtain⟨g,hgg⟩:∃g,w.heap.size=g:=⟨_,rfl⟩
  rw[hgg]at hR
  have HR:=Hd (show Blk W (g) 27 #[.slice none 0 0,.slice none 0 0,.slice none 0 0,.slice none 0 0,.int .i64 0] from hR)
  have HB0:=Hd hb0
  clear hW hb0 hR
  go_enter Tryz.func14,Tryz.ntmps14
  go_upto_region 1 with (fail)
  rw[HW.out]
  clear HW
  have R_0:=HR.out.cell (i:=0) rfl
  have R_1:=HR.out.cell (i:=1) rfl
  have R_2:=HR.out.cell (i:=2) rfl
  have R_3:=HR.out.cell (i:=3) rfl
  have R_4:=HR.out.cell (i:=4) rfl
  have R_f0:=HR.out.free 0
  have R_f1:=HR.out.free 1
  have R_f2:=HR.out.free 2
  have R_f3:=HR.out.free 3
  have R_f4:=HR.out.free 4
  have hh:w.heap.size≤g:=by omega
  have HP:=Hd (((((HR.out.put 0 (.slice none 0 0)).put 1 (.slice none 0 0)).put 2 (.slice none 0 0)).put 3 (.slice none 0 0)).put 4 (.int .i64 0))
  have HQ:=Hd (((((HB0.out.setCell (p:=⟨g,0,none⟩) hh (.slice none 0 0)).setCell (p:=⟨g,1,none⟩) hh (.slice none 0 0)).setCell (p:=⟨g,2,none⟩) hh (.slice none 0 0)).setCell (p:=⟨g,3,none⟩) hh (.slice none 0 0)).setCell (p:=⟨g,4,none⟩) hh (.int .i64 0))
  clear hh
  go_wp2
  exact bodyPost_ret (results_cell_tmp (p:=2) (t1:=3) (ty:=27) rfl _ _ (g) 27 #[.slice none 0 0,.slice none 0 0,.slice none 0 0,.slice none 0 0,.int .i64 0] _ rfl HP.out Tryz.underlying27 rfl infoVw) rfl ⟨Vl.none,rfl,rfl,VwAt.none _,HQ.out⟩
 by_cases c1:16777216<room
 ·have d0:decide (room<0)=false:=decide_eq_false c0
  have d1:decide (16777216<room)=true:=decide_eq_true c1
  rw[show Vw.newR room=(Vw.zero,1) from by unfold Vw.newR;rw[if_neg (by omega)]]
  clear c0 c1
  have hb0:=below_new (Below.refl w.heap.size w) (.cells #[.slice none 0 0,.slice none 0 0,.slice none 0 0,.slice none 0 0,.int .i64 0] 27)
  have hR:=Blk.new w 27 #[.slice none 0 0,.slice none 0 0,.slice none 0 0,.slice none 0 0,.int .i64 0]
  obtain⟨W,hW⟩:∃W,w.alloc (.cells #[.slice none 0 0,.slice none 0 0,.slice none 0 0,.slice none 0 0,.int .i64 0] 27)=W:=⟨_,rfl⟩
  rw[hW]at hb0 hR
  have HW:=Hd hW
  obtain⟨g,hgg⟩:∃g,w.heap.size=g:=⟨_,rfl⟩
  rw[hgg]at hR
  have HR:=Hd (show Blk W (g) 27 #[.slice none 0 0,.slice none 0 0,.slice none 0 0,.slice none 0 0,.int .i64 0] from hR)
  have HB0:=Hd hb0
  clear hW hb0 hR
  go_enter Tryz.func14,Tryz.ntmps14
  go_upto_region 1 with (fail)
  rw[HW.out]
  clear HW
  have R_0:=HR.out.cell (i:=0) rfl
  have R_1:=HR.out.cell (i:=1) rfl
  have R_2:=HR.out.cell (i:=2) rfl
  have R_3:=HR.out.cell (i:=3) rfl
  have R_4:=HR.out.cell (i:=4) rfl
  have R_f0:=HR.out.free 0
  have R_f1:=HR.out.free 1
  have R_f2:=HR.out.free 2
  have R_f3:=HR.out.free 3
  have R_f4:=HR.out.free 4
  have hh:w.heap.size≤g:=by omega
  have HP:=Hd (((((HR.out.put 0 (.slice none 0 0)).put 1 (.slice none 0 0)).put 2 (.slice none 0 0)).put 3 (.slice none 0 0)).put 4 (.int .i64 0))
  have HQ:=Hd (((((HB0.out.setCell (p:=⟨g,0,none⟩) hh (.slice none 0 0)).setCell (p:=⟨g,1,none⟩) hh (.slice none 0 0)).setCell (p:=⟨g,2,none⟩) hh (.slice none 0 0)).setCell (p:=⟨g,3,none⟩) hh (.slice none 0 0)).setCell (p:=⟨g,4,none⟩) hh (.int .i64 0))
  clear hh
  go_wp2
  exact bodyPost_ret (results_cell_tmp (p:=2) (t1:=3) (ty:=27) rfl _ _ (g) 27 #[.slice none 0 0,.slice none 0 0,.slice none 0 0,.slice none 0 0,.int .i64 0] _ rfl HP.out Tryz.underlying27 rfl infoVw) rfl ⟨Vl.none,rfl,rfl,VwAt.none _,HQ.out⟩
 ·have d0:decide (room<0)=false:=decide_eq_false c0
  have d1:decide (16777216<room)=false:=decide_eq_false c1
  rw[show Vw.newR room=(⟨[],[],[],[],room⟩,0) from by unfold Vw.newR;rw[if_pos (by omega)]]
  clear c0 c1
  have hb0:=below_new (Below.refl w.heap.size w) (.cells #[.slice none 0 0,.slice none 0 0,.slice none 0 0,.slice none 0 0,.int .i64 0] 27)
  have hR:=Blk.new w 27 #[.slice none 0 0,.slice none 0 0,.slice none 0 0,.slice none 0 0,.int .i64 0]
  obtain⟨W,hW⟩:∃W,w.alloc (.cells #[.slice none 0 0,.slice none 0 0,.slice none 0 0,.slice none 0 0,.int .i64 0] 27)=W:=⟨_,rfl⟩
  rw[hW]at hb0 hR
  have HW:=Hd hW
  obtain⟨g,hgg⟩:∃g,w.heap.size=g:=⟨_,rfl⟩
  rw[hgg]at hR
  have HR:=Hd (show Blk W (g) 27 #[.slice none 0 0,.slice none 0 0,.slice none 0 0,.slice none 0 0,.int .i64 0] from hR)
  have HB0:=Hd hb0
  clear hW hb0 hR
  go_enter Tryz.func14,Tryz.ntmps14
  go_upto_region 1 with (fail)
  rw[HW.out]
  clear HW
  have R_0:=HR.out.cell (i:=0) rfl
  have R_1:=HR.out.cell (i:=1) rfl
  have R_2:=HR.out.cell (i:=2) rfl
  have R_3:=HR.out.cell (i:=3) rfl
  have R_4:=HR.out.cell (i:=4) rfl
  have R_f0:=HR.out.free 0
  have R_f1:=HR.out.free 1
  have R_f2:=HR.out.free 2
  have R_f3:=HR.out.free 3
  have R_f4:=HR.out.free 4
  have hh:w.heap.size≤g:=by omega
  have HP:=Hd (((((HR.out.put 0 (.slice none 0 0)).put 1 (.slice none 0 0)).put 2 (.slice none 0 0)).put 3 (.slice none 0 0)).put 4 (.int .i64 room))
  have HQ:=Hd (((((HB0.out.setCell (p:=⟨g,0,none⟩) hh (.slice none 0 0)).setCell (p:=⟨g,1,none⟩) hh (.slice none 0 0)).setCell (p:=⟨g,2,none⟩) hh (.slice none 0 0)).setCell (p:=⟨g,3,none⟩) hh (.slice none 0 0)).setCell (p:=⟨g,4,none⟩) hh (.int .i64 room))
  clear hh
  go_wp2
  exact bodyPost_ret (results_cell_tmp (p:=2) (t1:=3) (ty:=27) rfl _ _ (g) 27 #[.slice none 0 0,.slice none 0 0,.slice none 0 0,.slice none 0 0,.int .i64 room] _ rfl HP.out Tryz.underlying27 rfl infoVw) rfl ⟨⟨none,0,[],none,0,[],none,0,[],none,0,[],room⟩,rfl,rfl,⟨OneL.nil,OneZ.nil _,OneW.nil,OneC.nil _⟩,HQ.out⟩
end Go.Proofs.YtjlfehpockfkdaaGreat
namespace Go.Proofs.YtjlfehpockfkdaaGreat
open Go.RowKit
namespace Tr
section
variable {zs:List Zn} {kn:List (Int × Int)} {n:Note}
theorem mt_le{ls:List (List (Int × Int))}(i:Nat):∀k j,j≤k→Ve.mtTo ls k i≤Ve.cnt (ls.getD j []) i
 |0,j,h=>by
  have:j=0:=by omega
  subst this
  exact Int.le_refl _
 |k+1,j,h=>by
  unfold Ve.mtTo
  by_cases e:j=k+1
  ·subst e
   split<;>omega
  ·have:=mt_le (ls:=ls) i k j (by omega)
   split<;>omega
theorem rchs_mem(zs:List Zn)(kn:List (Int × Int)){f:Nat→Bool}{o:Nat}(ho:f o=true):∀k,o<k→rch zs kn (o:Int)∈rchs zs kn f k
 |0,h=>by omega
 |k+1,h=>by
  by_cases e:o=k
  ·subst e
   show _∈(if f o=true then rchs zs kn f o++[rch zs kn (o:Int)] else rchs zs kn f o)
   rw[if_pos ho]
   exact List.mem_append.2 (.inr (List.mem_singleton.2 rfl))
  ·have:=rchs_mem zs kn ho k (by omega)
   show _∈(if f k=true then rchs zs kn f k++[rch zs kn (k:Int)] else rchs zs kn f k)
   split
   ·exact List.mem_append.2 (.inl this)
   ·exact this
end
end Tr
end Go.Proofs.YtjlfehpockfkdaaGreat
namespace Go.Proofs.YtjlfehpockfkdaaGreat
open Go.RowKit Fb
structure VwFit (q:Vl):Prop where
 k:q.k.length*16≤140737488355328
 z:q.z.length*40≤140737488355328
 e:∀z∈q.z,z.l.length*16≤140737488355328
 h:q.h.length*32≤140737488355328
 b:Fits q.b
set_option maxRecDepth 100000 in
set_option maxHeartbeats 6400000 in
theorem vcopy_any(q:Vl)(w:World)(h:VwAt w q)(hft:VwFit q):Calls Tryz.prog 12 #[.agg (vwCells q)] w (GivesV q.vw w):=by
 obtain⟨i0,hI,hz0,hz1,hz2⟩:=info_parts infoWr
 obtain⟨K,ck,kn,Z,cz,zs,H,ch,hs,B,cb,bs,room⟩:=q
 have HFT:=Hd hft
 unfold vwCells
 unfold Vl.vw
 dsimp only
 have hV:=fun wx (hb:Below w.heap.size w wx)=>h.later hb
 have hk:=fun wx (hb:Below w.heap.size w wx)=>rcopy_any K ck kn wx hft.k (hV wx hb).k.2.2.1 (hV wx hb).k.2.2.2
 have hz:=fun wx (hb:Below w.heap.size w wx)=>zcopy_any Z cz zs wx (hV wx hb).z hft.z hft.e
 have hc:=fun wx (hb:Below w.heap.size w wx)=>ccopy_any B cb bs wx (hV wx hb).b hft.b
 have HVW:=Hd hV
 have NK:=Hd hk
 have NZ:=Hd hz
 have NB:=Hd hc
 clear hV hk hz hc h hft
 have hb0:=below_new (below_new (Below.refl w.heap.size w) (.cells #[.slice K kn.length ck,.slice Z zs.length cz,.slice H hs.length ch,.slice B bs.length cb,.int .i64 room] 27)) (.cells #[.slice none 0 0,.slice none 0 0,.slice none 0 0,.slice none 0 0,.int .i64 0] 27)
 have hV:=(Blk.new w 27 #[.slice K kn.length ck,.slice Z zs.length cz,.slice H hs.length ch,.slice B bs.length cb,.int .i64 room]).alloc (.cells #[.slice none 0 0,.slice none 0 0,.slice none 0 0,.slice none 0 0,.int .i64 0] 27)
 have hR:=Blk.new (w.alloc (.cells #[.slice K kn.length ck,.slice Z zs.length cz,.slice H hs.length ch,.slice B bs.length cb,.int .i64 room] 27)) 27 #[.slice none 0 0,.slice none 0 0,.slice none 0 0,.slice none 0 0,.int .i64 0]
 simp only[World.size_alloc]at hR
 obtain⟨W,hW⟩:∃W,(w.alloc (.cells #[.slice K kn.length ck,.slice Z zs.length cz,.slice H hs.length ch,.slice B bs.length cb,.int .i64 room] 27)).alloc (.cells #[.slice none 0 0,.slice none 0 0,.slice none 0 0,.slice none 0 0,.int .i64 0] 27)=W:=⟨_,rfl⟩
 rw[hW]at hb0 hV hR
 have HW:=Hd hW
 obtain⟨g,hgg⟩:∃g,w.heap.size=g:=⟨_,rfl⟩
 rw[hgg]at hV hR
 have HV:=Hd (show Blk W (g) 27 #[.slice K kn.length ck,.slice Z zs.length cz,.slice H hs.length ch,.slice B bs.length cb,.int .i64 room] from hV)
 have HR:=Hd (show Blk W (g+1) 27 #[.slice none 0 0,.slice none 0 0,.slice none 0 0,.slice none 0 0,.int .i64 0] from hR)
 have HB0:=Hd hb0
 clear hW hb0 hV hR
 go_enter Tryz.func12,Tryz.ntmps12
 go_upto_region 1 with (fail)
 rw[HW.out]
 clear HW
 have V_0:=HV.out.cell (i:=0) rfl
 have V_1:=HV.out.cell (i:=1) rfl
 have V_2:=HV.out.cell (i:=2) rfl
 have V_3:=HV.out.cell (i:=3) rfl
 have V_4:=HV.out.cell (i:=4) rfl
 refine wp_region_facts 15 (by kernel_rfl) (by kernel_rfl)
  (fun v=>{ tmps:=#[.agg #[.slice K kn.length ck,.slice Z zs.length cz,.slice H hs.length ch,.slice B bs.length cb,.int .i64 room],.pointer (some ⟨g,0,none⟩),.pointer (some ⟨g+1,0,none⟩),v 0,v 1,v 2,v 3,v 4,v 5,v 6,v 7,v 8,v 9,v 10,v 11,v 12,v 13,v 14,undef],defers:=[] }) (fun _=>undef)
  (fun i x wx=>match i with
   |0=>x = .pointer (some ⟨g,0,none⟩)
   |1=>x = .slice K kn.length ck
   |2=>∃A9 c9,x = .slice A9 kn.length c9∧OneL wx A9 c9 kn
   |3=>x = .pointer (some ⟨g,1,none⟩)
   |4=>x = .slice Z zs.length cz
   |5=>∃A9 c9 L9,x = .slice A9 (List.length L9) c9∧OneZ wx A9 c9 L9∧L9.map Zc.zn=zs.map Zc.zn
   |6=>∃g9,x = .slice (some ⟨g9,0,none⟩) 0 0∧Blk wx g9 52 #[]∧W.heap.size≤g9
   |7=>x = .pointer (some ⟨g,2,none⟩)
   |8=>x = .slice H hs.length ch
   |9=>∃A9 c9,x = .slice A9 hs.length c9∧OneW wx A9 c9 hs
   |10=>x = .pointer (some ⟨g,3,none⟩)
   |11=>x = .slice B bs.length cb
   |12=>∃A9 c9 L9,x = .slice A9 (List.length L9) c9∧OneC wx A9 c9 L9∧L9.map Bc.b=bs.map Bc.b
   |13=>x = .pointer (some ⟨g,4,none⟩)
   |14=>x = .int .i64 room
   |_=>True)
  (fun w1 w2=>Below w1.heap.size w1 w2) (fun h1 h2=>below_on h1 h2) (fun _=>Below.refl _ _) (Below.drew (Below.refl _ _)) ?stabC ?stepC ?doneC
 case stabC=>
  rintro i x w1 w2 h hb
  match i,h with
  |0,h=>exact h
  |1,h=>exact h
  |2,h=>obtain⟨A9,c9,e9,h9⟩:=h;exact⟨A9,c9,e9,h9.later hb⟩
  |3,h=>exact h
  |4,h=>exact h
  |5,h=>obtain⟨A9,c9,L9,e9,h9,m9⟩:=h;exact⟨A9,c9,L9,e9,h9.later hb,m9⟩
  |6,h=>obtain⟨g9,e9,h9,m9⟩:=h;exact⟨g9,e9,h9.later hb,m9⟩
  |7,h=>exact h
  |8,h=>exact h
  |9,h=>obtain⟨A9,c9,e9,h9⟩:=h;exact⟨A9,c9,e9,h9.later hb⟩
  |10,h=>exact h
  |11,h=>exact h
  |12,h=>obtain⟨A9,c9,L9,e9,h9,m9⟩:=h;exact⟨A9,c9,L9,e9,h9.later hb,m9⟩
  |13,h=>exact h
  |14,h=>exact h
  |i+15,_=>trivial
 case stepC=>
  intro i hi v w' hb hd
  match i,hi with
  |0,_=>
   refine wpOp_oneH rfl fun KK HKK =>?_
   clear hd
   go_wp2
   exact HKK.out _ _ ⟨_,(by simp[upd];done),Below.refl _ _,rfl⟩
  |1,_=>
   have h0:v 0=_:=hdx hd 0 (by kernel_rfl)
   refine wpOp_oneH rfl fun KK HKK =>?_
   clear hd
   rw[h0]
   have q0:=cell_later hb V_0
   go_wp2
   exact HKK.out _ _ ⟨_,(by simp[upd,h0];done),Below.refl _ _,rfl⟩
  |2,_=>
   have h1:v 1=_:=hdx hd 1 (by kernel_rfl)
   refine wpOp_oneH rfl fun KK HKK =>?_
   clear hd
   rw[h1]
   go_wp2_with fail
   refine(NK.out _ (below_on HB0.out hb)).mono ?_
   rintro e w'' ⟨u,rfl,ho,b⟩
   obtain⟨A9,c9,rfl,hB⟩:=OneL.of_own ho
   go_wp2
   exact HKK.out _ _ ⟨_,(by simp[upd,h1];done),b,A9,c9,rfl,hB⟩
  |3,_=>
   refine wpOp_oneH rfl fun KK HKK =>?_
   clear hd
   go_wp2
   exact HKK.out _ _ ⟨_,(by simp[upd];done),Below.refl _ _,rfl⟩
  |4,_=>
   have h3:v 3=_:=hdx hd 3 (by kernel_rfl)
   refine wpOp_oneH rfl fun KK HKK =>?_
   clear hd
   rw[h3]
   have q0:=cell_later hb V_1
   go_wp2
   exact HKK.out _ _ ⟨_,(by simp[upd,h3];done),Below.refl _ _,rfl⟩
  |5,_=>
   have h4:v 4=_:=hdx hd 4 (by kernel_rfl)
   refine wpOp_oneH rfl fun KK HKK =>?_
   clear hd
   rw[h4]
   go_wp2_with fail
   refine(NZ.out _ (below_on HB0.out hb)).mono ?_
   rintro e w'' ⟨A9,c9,L9,rfl,hO,hM,b⟩
   go_wp2
   exact HKK.out _ _ ⟨_,(by simp[upd,h4];done),b,A9,c9,L9,rfl,hO,hM⟩
  |6,_=>
   refine wpOp_oneH rfl fun KK HKK =>?_
   clear hd
   have bn:=below_new (Below.refl w'.heap.size w') (.cells #[] 52)
   have BN:=Blk.new w' 52 #[]
   have hz:=hb.size
   go_wp2
   exact HKK.out _ _ ⟨_,(by simp[upd];done),bn,_,rfl,BN,hz⟩
  |7,_=>
   refine wpOp_oneH rfl fun KK HKK =>?_
   clear hd
   go_wp2
   exact HKK.out _ _ ⟨_,(by simp[upd];done),Below.refl _ _,rfl⟩
  |8,_=>
   have h7:v 7=_:=hdx hd 7 (by kernel_rfl)
   refine wpOp_oneH rfl fun KK HKK =>?_
   clear hd
   rw[h7]
   have q0:=cell_later hb V_2
   go_wp2
   exact HKK.out _ _ ⟨_,(by simp[upd,h7];done),Below.refl _ _,rfl⟩
  |9,_=>
   obtain⟨g6,h6,o6,m6⟩:=hd 6 (List.elem_iff.1 (by kernel_rfl))
   have h8:v 8=_:=hdx hd 8 (by kernel_rfl)
   refine wpOp_oneH rfl fun KK HKK =>?_
   clear hd
   rw[h6,h8]
   have HH:=Hd (HVW.out w' (below_on HB0.out hb)).h
   refine Go.Proofs.YtjlfehpockfkdaaGreat.wpList_append_fresh _ rfl _ _ 24 rfl W.heap.size g6 52 i0 (.agg #[.int .i64 0,.int .i64 0,.int .i64 0,.bool false]) 4 32 Tryz.underlying24 hI hz0 hz1 hz2 rfl (by decide) rfl o6 m6 H hs.length ch HH.out.2.2.1 (Nt.wrCells hs) rfl (Nt.wrCells_length hs) HH.out.2.2.2 (Nt.wrCells_one hs) ?c3 ?c4 ?_
   case c3=>exact Nat.le_trans HH.out.1 HH.out.2.1
   case c4=>exact HFT.out.h
   intro v' w'' hown b
   obtain⟨A9,c9,rfl,ho⟩:=OneW.of_own hown
   clear hown
   go_wp2
   exact HKK.out _ _ ⟨_,(by simp[upd,h6,h8];done),b,A9,c9,rfl,ho⟩
  |10,_=>
   refine wpOp_oneH rfl fun KK HKK =>?_
   clear hd
   go_wp2
   exact HKK.out _ _ ⟨_,(by simp[upd];done),Below.refl _ _,rfl⟩
  |11,_=>
   have h10:v 10=_:=hdx hd 10 (by kernel_rfl)
   refine wpOp_oneH rfl fun KK HKK =>?_
   clear hd
   rw[h10]
   have q0:=cell_later hb V_3
   go_wp2
   exact HKK.out _ _ ⟨_,(by simp[upd,h10];done),Below.refl _ _,rfl⟩
  |12,_=>
   have h11:v 11=_:=hdx hd 11 (by kernel_rfl)
   refine wpOp_oneH rfl fun KK HKK =>?_
   clear hd
   rw[h11]
   go_wp2_with fail
   refine(NB.out _ (below_on HB0.out hb)).mono ?_
   rintro e w'' ⟨A9,c9,L9,rfl,hM,hO,b⟩
   go_wp2
   exact HKK.out _ _ ⟨_,(by simp[upd,h11];done),b,A9,c9,L9,rfl,hO.one,hM⟩
  |13,_=>
   refine wpOp_oneH rfl fun KK HKK =>?_
   clear hd
   go_wp2
   exact HKK.out _ _ ⟨_,(by simp[upd];done),Below.refl _ _,rfl⟩
  |14,_=>
   have h13:v 13=_:=hdx hd 13 (by kernel_rfl)
   refine wpOp_oneH rfl fun KK HKK =>?_
   clear hd
   rw[h13]
   have q0:=cell_later hb V_4
   go_wp2
   exact HKK.out _ _ ⟨_,(by simp[upd,h13];done),Below.refl _ _,rfl⟩
  |k+15,hk=>exact absurd hk (by omega)
 case doneC=>
  intro v w5 hb hf
  obtain⟨A2,c2,h2,o2⟩:=hf 2 (by decide)
  obtain⟨A5,c5,L5,h5,o5,m5⟩:=hf 5 (by decide)
  obtain⟨A9,c9,h9,o9⟩:=hf 9 (by decide)
  obtain⟨A12,c12,L12,h12,o12,m12⟩:=hf 12 (by decide)
  have h14:v 14=_:=hf 14 (by decide)
  clear hf
  rw[h2,h5,h9,h12,h14]
  clear V_0 V_1 V_2 V_3 V_4
  replace HV:=Hd (HV.out.later hb)
  replace HR:=Hd (HR.out.later hb)
  have HB1:=Hd (below_on HB0.out hb)
  clear HB0
  clear hb
  have X2:=Hd o2
  have X5:=Hd o5
  have X9:=Hd o9
  have X12:=Hd o12
  have M5:=Hd m5
  have M12:=Hd m12
  clear o2 o5 o9 o12 m5 m12 NK NZ NB
  have R_0:=HR.out.cell (i:=0) rfl
  have R_1:=HR.out.cell (i:=1) rfl
  have R_2:=HR.out.cell (i:=2) rfl
  have R_3:=HR.out.cell (i:=3) rfl
  have R_4:=HR.out.cell (i:=4) rfl
  have R_f0:=HR.out.free 0
  have R_f1:=HR.out.free 1
  have R_f2:=HR.out.free 2
  have R_f3:=HR.out.free 3
  have R_f4:=HR.out.free 4
  have hh:w.heap.size≤g+1:=by omega
  have HP:=Hd (((((HR.out.put 0 (.slice A2 kn.length c2)).put 1 (.slice A5 L5.length c5)).put 2 (.slice A9 hs.length c9)).put 3 (.slice A12 L12.length c12)).put 4 (.int .i64 room))
  have HQ:=Hd (((((HB1.out.setCell (p:=⟨g+1,0,none⟩) hh (.slice A2 kn.length c2)).setCell (p:=⟨g+1,1,none⟩) hh (.slice A5 L5.length c5)).setCell (p:=⟨g+1,2,none⟩) hh (.slice A9 hs.length c9)).setCell (p:=⟨g+1,3,none⟩) hh (.slice A12 L12.length c12)).setCell (p:=⟨g+1,4,none⟩) hh (.int .i64 room))
  have FX2:=Hd (((((X2.out.far (show Blk _ (g+1) 27 #[.slice none 0 0,.slice none 0 0,.slice none 0 0,.slice none 0 0,.int .i64 0] from HR.out) rfl 0 (.slice A2 kn.length c2)).far (show Blk _ (g+1) 27 #[.slice A2 kn.length c2,.slice none 0 0,.slice none 0 0,.slice none 0 0,.int .i64 0] from(HR.out.put 0 (.slice A2 kn.length c2))) rfl 1 (.slice A5 L5.length c5)).far (show Blk _ (g+1) 27 #[.slice A2 kn.length c2,.slice A5 L5.length c5,.slice none 0 0,.slice none 0 0,.int .i64 0] from((HR.out.put 0 (.slice A2 kn.length c2)).put 1 (.slice A5 L5.length c5))) rfl 2 (.slice A9 hs.length c9)).far (show Blk _ (g+1) 27 #[.slice A2 kn.length c2,.slice A5 L5.length c5,.slice A9 hs.length c9,.slice none 0 0,.int .i64 0] from(((HR.out.put 0 (.slice A2 kn.length c2)).put 1 (.slice A5 L5.length c5)).put 2 (.slice A9 hs.length c9))) rfl 3 (.slice A12 L12.length c12)).far (show Blk _ (g+1) 27 #[.slice A2 kn.length c2,.slice A5 L5.length c5,.slice A9 hs.length c9,.slice A12 L12.length c12,.int .i64 0] from((((HR.out.put 0 (.slice A2 kn.length c2)).put 1 (.slice A5 L5.length c5)).put 2 (.slice A9 hs.length c9)).put 3 (.slice A12 L12.length c12))) rfl 4 (.int .i64 room))
  have FX5:=Hd (((((X5.out.far (show Blk _ (g+1) 27 #[.slice none 0 0,.slice none 0 0,.slice none 0 0,.slice none 0 0,.int .i64 0] from HR.out) rfl 0 (.slice A2 kn.length c2)).far (show Blk _ (g+1) 27 #[.slice A2 kn.length c2,.slice none 0 0,.slice none 0 0,.slice none 0 0,.int .i64 0] from(HR.out.put 0 (.slice A2 kn.length c2))) rfl 1 (.slice A5 L5.length c5)).far (show Blk _ (g+1) 27 #[.slice A2 kn.length c2,.slice A5 L5.length c5,.slice none 0 0,.slice none 0 0,.int .i64 0] from((HR.out.put 0 (.slice A2 kn.length c2)).put 1 (.slice A5 L5.length c5))) rfl 2 (.slice A9 hs.length c9)).far (show Blk _ (g+1) 27 #[.slice A2 kn.length c2,.slice A5 L5.length c5,.slice A9 hs.length c9,.slice none 0 0,.int .i64 0] from(((HR.out.put 0 (.slice A2 kn.length c2)).put 1 (.slice A5 L5.length c5)).put 2 (.slice A9 hs.length c9))) rfl 3 (.slice A12 L12.length c12)).far (show Blk _ (g+1) 27 #[.slice A2 kn.length c2,.slice A5 L5.length c5,.slice A9 hs.length c9,.slice A12 L12.length c12,.int .i64 0] from((((HR.out.put 0 (.slice A2 kn.length c2)).put 1 (.slice A5 L5.length c5)).put 2 (.slice A9 hs.length c9)).put 3 (.slice A12 L12.length c12))) rfl 4 (.int .i64 room))
  have FX9:=Hd (((((X9.out.far (show Blk _ (g+1) 27 #[.slice none 0 0,.slice none 0 0,.slice none 0 0,.slice none 0 0,.int .i64 0] from HR.out) rfl 0 (.slice A2 kn.length c2)).far (show Blk _ (g+1) 27 #[.slice A2 kn.length c2,.slice none 0 0,.slice none 0 0,.slice none 0 0,.int .i64 0] from(HR.out.put 0 (.slice A2 kn.length c2))) rfl 1 (.slice A5 L5.length c5)).far (show Blk _ (g+1) 27 #[.slice A2 kn.length c2,.slice A5 L5.length c5,.slice none 0 0,.slice none 0 0,.int .i64 0] from((HR.out.put 0 (.slice A2 kn.length c2)).put 1 (.slice A5 L5.length c5))) rfl 2 (.slice A9 hs.length c9)).far (show Blk _ (g+1) 27 #[.slice A2 kn.length c2,.slice A5 L5.length c5,.slice A9 hs.length c9,.slice none 0 0,.int .i64 0] from(((HR.out.put 0 (.slice A2 kn.length c2)).put 1 (.slice A5 L5.length c5)).put 2 (.slice A9 hs.length c9))) rfl 3 (.slice A12 L12.length c12)).far (show Blk _ (g+1) 27 #[.slice A2 kn.length c2,.slice A5 L5.length c5,.slice A9 hs.length c9,.slice A12 L12.length c12,.int .i64 0] from((((HR.out.put 0 (.slice A2 kn.length c2)).put 1 (.slice A5 L5.length c5)).put 2 (.slice A9 hs.length c9)).put 3 (.slice A12 L12.length c12))) rfl 4 (.int .i64 room))
  have FX12:=Hd (((((X12.out.far (show Blk _ (g+1) 27 #[.slice none 0 0,.slice none 0 0,.slice none 0 0,.slice none 0 0,.int .i64 0] from HR.out) rfl 0 (.slice A2 kn.length c2)).far (show Blk _ (g+1) 27 #[.slice A2 kn.length c2,.slice none 0 0,.slice none 0 0,.slice none 0 0,.int .i64 0] from(HR.out.put 0 (.slice A2 kn.length c2))) rfl 1 (.slice A5 L5.length c5)).far (show Blk _ (g+1) 27 #[.slice A2 kn.length c2,.slice A5 L5.length c5,.slice none 0 0,.slice none 0 0,.int .i64 0] from((HR.out.put 0 (.slice A2 kn.length c2)).put 1 (.slice A5 L5.length c5))) rfl 2 (.slice A9 hs.length c9)).far (show Blk _ (g+1) 27 #[.slice A2 kn.length c2,.slice A5 L5.length c5,.slice A9 hs.length c9,.slice none 0 0,.int .i64 0] from(((HR.out.put 0 (.slice A2 kn.length c2)).put 1 (.slice A5 L5.length c5)).put 2 (.slice A9 hs.length c9))) rfl 3 (.slice A12 L12.length c12)).far (show Blk _ (g+1) 27 #[.slice A2 kn.length c2,.slice A5 L5.length c5,.slice A9 hs.length c9,.slice A12 L12.length c12,.int .i64 0] from((((HR.out.put 0 (.slice A2 kn.length c2)).put 1 (.slice A5 L5.length c5)).put 2 (.slice A9 hs.length c9)).put 3 (.slice A12 L12.length c12))) rfl 4 (.int .i64 room))
  clear hh
  go_wp2
  exact bodyPost_ret (v :=.agg #[.slice A2 kn.length c2,.slice A5 L5.length c5,.slice A9 hs.length c9,.slice A12 L12.length c12,.int .i64 room]) (results_cell_row rfl _ _ (g+1) 27 #[.slice A2 kn.length c2,.slice A5 L5.length c5,.slice A9 hs.length c9,.slice A12 L12.length c12,.int .i64 room] (0,0) _ rfl HP.out Tryz.underlying27 rfl infoVw) rfl ⟨⟨A2,c2,kn,A5,c5,L5,A9,c9,hs,A12,c12,L12,room⟩,rfl,(by show(⟨kn,L5.map Zc.zn,hs,L12.map Bc.b,room⟩:Vw)=⟨kn,zs.map Zc.zn,hs,bs.map Bc.b,room⟩;rw[M5.out,M12.out]),⟨FX2.out,FX5.out,FX9.out,FX12.out⟩,HQ.out⟩
theorem Vw.eq_is(x y:Vw):decide (x=y)=(decide (x.k=y.k)&&(decide (x.z=y.z)&&(decide (x.h=y.h)&&(decide (x.b=y.b)&&decide (x.r=y.r))))):=by
 cases x
 cases y
 simp[Bool.decide_and]
set_option maxRecDepth 100000 in
set_option maxHeartbeats 6400000 in
theorem vsame_any(q p:Vl)(w:World)(h:VwAt w q)(h2:VwAt w p):Calls Tryz.prog 17 #[.agg (vwCells q),.agg (vwCells p)] w (Says (.bool (decide (q.vw=p.vw))) w):=by
 obtain⟨t,ht⟩:∃t,decide (q.vw=p.vw)=t:=⟨_,rfl⟩
 rw[ht]
 rw[Vw.eq_is]at ht
 have c1:=fun wx (hb:Below w.heap.size w wx)=>rsame_any q.K p.K q.ck p.ck q.k p.k wx (h.later hb).k.len (h.later hb).k.stamps (h2.later hb).k.stamps
 have c2:=fun wx (hb:Below w.heap.size w wx)=>zsame_any q.Z p.Z q.cz p.cz q.z p.z wx (h.later hb).z (h2.later hb).z
 have c3:=fun wx (hb:Below w.heap.size w wx)=>nwrites_any q.H p.H q.ch p.ch q.h p.h wx (h.later hb).h (h2.later hb).h
 have c4:=fun wx (hb:Below w.heap.size w wx)=>csame_any q.B p.B q.cb p.cb q.b p.b wx (h.later hb).b (h2.later hb).b
 clear h h2
 obtain⟨b1,h1⟩:∃f,decide (q.k=p.k)=f:=⟨_,rfl⟩
 obtain⟨b2,h2⟩:∃f,decide (q.z.map Zc.zn=p.z.map Zc.zn)=f:=⟨_,rfl⟩
 obtain⟨b3,h3⟩:∃f,decide (q.h=p.h)=f:=⟨_,rfl⟩
 obtain⟨b4,h4⟩:∃f,decide (q.b.map Bc.b=p.b.map Bc.b)=f:=⟨_,rfl⟩
 obtain⟨b5,h5⟩:∃f,decide (q.r=p.r)=f:=⟨_,rfl⟩
 rw[h1]at c1
 rw[h2]at c2
 rw[h3]at c3
 rw[h4]at c4
 have HA:=Hd (show(b1&&(b2&&(b3&&(b4&&b5))))=t from by rw[←h1,←h2,←h3,←h4,←h5];exact ht)
 obtain⟨K,ck,kn,Z,cz,zs,H,ch,hs,B,cb,bs,room⟩:=q
 obtain⟨K',ck',kp,Z',cz',zp,H',ch',hp,B',cb',bp,room'⟩:=p
 unfold vwCells
 dsimp only at c1 c2 c3 c4 h5 ⊢
 have C1:=Hd c1
 have C2:=Hd c2
 have C3:=Hd c3
 have C4:=Hd c4
 have H5:=Hd h5
 clear c1 c2 c3 c4 ht h1 h2 h3 h4 h5
 have hb0:=below_new (below_new (Below.refl w.heap.size w) (.cells #[.slice K kn.length ck,.slice Z zs.length cz,.slice H hs.length ch,.slice B bs.length cb,.int .i64 room] 27)) (.cells #[.slice K' kp.length ck',.slice Z' zp.length cz',.slice H' hp.length ch',.slice B' bp.length cb',.int .i64 room'] 27)
 have hV:=(Blk.new w 27 #[.slice K kn.length ck,.slice Z zs.length cz,.slice H hs.length ch,.slice B bs.length cb,.int .i64 room]).alloc (.cells #[.slice K' kp.length ck',.slice Z' zp.length cz',.slice H' hp.length ch',.slice B' bp.length cb',.int .i64 room'] 27)
 have hP:=Blk.new (w.alloc (.cells #[.slice K kn.length ck,.slice Z zs.length cz,.slice H hs.length ch,.slice B bs.length cb,.int .i64 room] 27)) 27 #[.slice K' kp.length ck',.slice Z' zp.length cz',.slice H' hp.length ch',.slice B' bp.length cb',.int .i64 room']
 simp only[World.size_alloc]at hP
 obtain⟨W,hW⟩:∃W,(w.alloc (.cells #[.slice K kn.length ck,.slice Z zs.length cz,.slice H hs.length ch,.slice B bs.length cb,.int .i64 room] 27)).alloc (.cells #[.slice K' kp.length ck',.slice Z' zp.length cz',.slice H' hp.length ch',.slice B' bp.length cb',.int .i64 room'] 27)=W:=⟨_,rfl⟩
 rw[hW]at hb0 hV hP
 have HW:=Hd hW
 obtain⟨g,hgg⟩:∃g,w.heap.size=g:=⟨_,rfl⟩
 rw[hgg]at hV hP
 have HV:=Hd (show Blk W (g) 27 #[.slice K kn.length ck,.slice Z zs.length cz,.slice H hs.length ch,.slice B bs.length cb,.int .i64 room] from hV)
 have HP:=Hd (show Blk W (g+1) 27 #[.slice K' kp.length ck',.slice Z' zp.length cz',.slice H' hp.length ch',.slice B' bp.length cb',.int .i64 room'] from hP)
 have HB0:=Hd hb0
 clear hW hb0 hV hP
 go_enter Tryz.func17,Tryz.ntmps17
 go_upto_region 1 with (fail)
 rw[HW.out]
 clear HW
 have V_0:=HV.out.cell (i:=0) rfl
 have P_0:=HP.out.cell (i:=0) rfl
 go_wp2_with fail
 refine(C1.out _ HB0.out).mono ?_
 rintro e w1 ⟨rfl,b1⟩
 clear V_0 P_0
 replace HV:=Hd (HV.out.later b1)
 replace HP:=Hd (HP.out.later b1)
 have HB1:=Hd (below_on HB0.out b1)
 clear HB0
 clear b1 C1
 cases b1 with
 |false=>
  obtain rfl:=HA.out
  have HQ:=Hd HB1.out
  clear HA
  go_wp2
  go_ret
  exact⟨rfl,HQ.out⟩
 |true=>
 have V_1:=HV.out.cell (i:=1) rfl
 have P_1:=HP.out.cell (i:=1) rfl
 go_wp2_with fail
 refine(C2.out _ HB1.out).mono ?_
 rintro e w2 ⟨rfl,b2⟩
 clear V_1 P_1
 replace HV:=Hd (HV.out.later b2)
 replace HP:=Hd (HP.out.later b2)
 have HB2:=Hd (below_on HB1.out b2)
 clear HB1
 clear b2 C2
 cases b2 with
 |false=>
  obtain rfl:=HA.out
  have HQ:=Hd HB2.out
  clear HA
  go_wp2
  go_ret
  exact⟨rfl,HQ.out⟩
 |true=>
 have V_2:=HV.out.cell (i:=2) rfl
 have P_2:=HP.out.cell (i:=2) rfl
 go_wp2_with fail
 refine(C3.out _ HB2.out).mono ?_
 rintro e w3 ⟨rfl,b3⟩
 clear V_2 P_2
 replace HV:=Hd (HV.out.later b3)
 replace HP:=Hd (HP.out.later b3)
 have HB3:=Hd (below_on HB2.out b3)
 clear HB2
 clear b3 C3
 cases b3 with
 |false=>
  obtain rfl:=HA.out
  have HQ:=Hd HB3.out
  clear HA
  go_wp2
  go_ret
  exact⟨rfl,HQ.out⟩
 |true=>
 have V_3:=HV.out.cell (i:=3) rfl
 have P_3:=HP.out.cell (i:=3) rfl
 go_wp2_with fail
 refine(C4.out _ HB3.out).mono ?_
 rintro e w4 ⟨rfl,b4⟩
 clear V_3 P_3
 replace HV:=Hd (HV.out.later b4)
 replace HP:=Hd (HP.out.later b4)
 have HB4:=Hd (below_on HB3.out b4)
 clear HB3
 clear b4 C4
 cases b4 with
 |false=>
  obtain rfl:=HA.out
  have HQ:=Hd HB4.out
  clear HA
  go_wp2
  go_ret
  exact⟨rfl,HQ.out⟩
 |true=>
 have V_4:=HV.out.cell (i:=4) rfl
 have P_4:=HP.out.cell (i:=4) rfl
 cases b5 with
 |false=>
  have d9:(room == room')=false:=beq_eq_false_iff_ne.2 (of_decide_eq_false H5.out)
  clear H5
  obtain rfl:=HA.out
  have HQ:=Hd HB4.out
  clear HA
  go_wp2
  go_ret
  exact⟨rfl,HQ.out⟩
 |true=>
  have d9:(room == room')=true:=beq_iff_eq.2 (of_decide_eq_true H5.out)
  clear H5
  obtain rfl:=HA.out
  have HQ:=Hd HB4.out
  clear HA
  go_wp2
  go_ret
  exact⟨rfl,HQ.out⟩
structure ViewSince:Prop extends ViewSpec where
 since:∀(q:Vl) (I:Option Addr) (ci:Nat) (it:List (Int × Int)) (w:World),VwAt w q→OneL w I ci it→Calls Tryz.prog 19 #[.agg (vwCells q),.slice I it.length ci] w (Ans (Vw.sncR q.vw it) w)
set_option maxRecDepth 100000 in
set_option maxHeartbeats 6400000 in
theorem vsince_any(q:Vl)(I:Option Addr)(ci:Nat)(it:List (Int × Int))(w:World)(h:VwAt w q)(hi:OneL w I ci it) :
  Calls Tryz.prog 20 #[.agg (vwCells q),.slice I it.length ci] w (Gives (Vw.sncR q.vw it) w):=by
 have hS:Vw.sncR q.vw it=if Vw.fmd q.vw=true then Tr.sncR (q.z.map Zc.zn) q.k it else []:=rfl
 have b0:=below_new (Below.refl w.heap.size w) (.cells (vwCells q) 27)
 have V0:=Blk.new w 27 (vwCells q)
 obtain⟨W,hW⟩:∃W,w.alloc (.cells (vwCells q) 27)=W:=⟨_,rfl⟩
 rw[hW]at b0 V0
 have HW:=Hd hW
 have n1:=vformed_any q W (h.later b0)
 obtain⟨t,ht⟩:∃t,Vw.fmd q.vw=t:=⟨_,rfl⟩
 rw[ht]at n1 hS
 have N1:=Hd (show Calls Tryz.prog 16 #[.agg #[.slice q.K q.k.length q.ck,.slice q.Z q.z.length q.cz,.slice q.H q.h.length q.ch,.slice q.B q.b.length q.cb,.int .i64 q.r]] W (Says (.bool t) W) from n1)
 have N2:=Hd (fun wx (hb:Below W.heap.size W wx)=>zsince_any q.Z q.K I q.cz q.ck ci q.z q.k it wx ((h.later b0).later hb).z ((h.later b0).later hb).k ((hi.later b0).later hb))
 obtain⟨g,hg⟩:∃g,w.heap.size=g:=⟨_,rfl⟩
 rw[hg]at V0
 have HV:=Hd V0
 have B0:=Hd b0
 have v0:W.cell? ⟨g,0,none⟩=some (.slice q.K q.k.length q.ck):=V0.cell (i:=0) rfl
 have v1:W.cell? ⟨g,1,none⟩=some (.slice q.Z q.z.length q.cz):=V0.cell (i:=1) rfl
 have v2:W.cell? ⟨g,2,none⟩=some (.slice q.H q.h.length q.ch):=V0.cell (i:=2) rfl
 have v3:W.cell? ⟨g,3,none⟩=some (.slice q.B q.b.length q.cb):=V0.cell (i:=3) rfl
 have v4:W.cell? ⟨g,4,none⟩=some (.int .i64 q.r):=V0.cell (i:=4) rfl
 obtain⟨R,hR⟩:∃R,Vw.sncR q.vw it=R:=⟨_,rfl⟩
 rw[hR]at hS ⊢
 have HR:=Hd hS
 clear n1 hS hR ht h hi b0 V0 hW
 go_enter Tryz.func20,Tryz.ntmps20
 go_upto_region 1 with (fail)
 rw[HW.out]
 clear HW
 go_wp2_with fail
 refine N1.out.mono ?_
 rintro e w1 ⟨rfl,b1⟩
 have x0:=cell_later b1 v0
 have x1:=cell_later b1 v1
 have BB:=Hd (below_on B0.out b1)
 cases t with
 |false=>
  obtain rfl:R=[]:=HR.out.trans (if_neg Bool.false_ne_true)
  have FIN:=Hd (Gives.none BB.out)
  clear b1 N1 v0 v1 v2 v3 v4
  go_wp2
  go_ret
  exact FIN.out
 |true=>
  obtain rfl:=HR.out.trans (if_pos rfl)
  have N3:=Hd (N2.out w1 b1)
  clear b1 N1 N2 v0 v1 v2 v3 v4
  go_wp2_with fail
  refine N3.out.mono ?_
  rintro e w2 ⟨v,rfl,ho,b2⟩
  have HO:=Hd (own_base ho BB.out.size)
  have B2:=Hd (below_on BB.out b2)
  clear ho b2 N3
  go_wp2
  go_ret
  exact⟨_,rfl,HO.out,B2.out⟩
set_option maxRecDepth 100000 in
set_option maxHeartbeats 6400000 in
theorem lawVForms_any(S:ViewSince)(q:Vl)(rm:Int)(I:Option Addr)(ci:Nat)(it:List (Int × Int))(w:World)(h:VwAt w q)(hft:VwFit q)(hi:OneL w I ci it) :
  Calls Tryz.prog 3 #[.agg (vwCells q),.int .i64 rm,.slice I it.length ci] w (Says (.bool true) w):=by
 have SS:=Hd S
 have AL:=Hd (fun wx=>valive_any S.toViewSpec wx)
 have cp:=fun wx (hb:Below w.heap.size w wx)=>vcopy_any q wx (h.later hb) hft
 have nw:=fun wx=>S.new rm wx
 have rw_:=fun wx=>vnew_any rm wx
 have hvw:=fun wx (hb:Below w.heap.size w wx)=>h.later hb
 have hI:=fun wx (hb:Below w.heap.size w wx)=>hi.later hb
 obtain⟨⟨nv,ne⟩,hnn⟩:∃p,Vw.newR rm=p:=⟨_,rfl⟩
 rw[hnn]at nw rw_
 obtain⟨fm,hfm⟩:∃f,Vw.fmd q.vw=f:=⟨_,rfl⟩
 obtain⟨sn,hsn⟩:∃f,Vw.sncR q.vw it=f:=⟨_,rfl⟩
 clear S h hft hi hnn
 obtain⟨K,ck,kn,Z,cz,zs,H,ch,hs,B,cb,bs,room⟩:=q
 unfold vwCells at cp ⊢
 dsimp only at cp nw rw_ ⊢
 have HFM:=Hd hfm
 have HSN:=Hd hsn
 have CP:=Hd cp
 have NW:=Hd nw
 have RW:=Hd rw_
 have HVW:=Hd hvw
 have HI:=Hd hI
 clear cp nw rw_ hvw hI hfm hsn
 have hb0:=below_new (Below.refl w.heap.size w) (.cells #[.slice K kn.length ck,.slice Z zs.length cz,.slice H hs.length ch,.slice B bs.length cb,.int .i64 room] 27)
 have hV:=Blk.new w 27 #[.slice K kn.length ck,.slice Z zs.length cz,.slice H hs.length ch,.slice B bs.length cb,.int .i64 room]
 obtain⟨W,hW⟩:∃W,w.alloc (.cells #[.slice K kn.length ck,.slice Z zs.length cz,.slice H hs.length ch,.slice B bs.length cb,.int .i64 room] 27)=W:=⟨_,rfl⟩
 rw[hW]at hb0 hV
 have HW:=Hd hW
 obtain⟨g,hgg⟩:∃g,w.heap.size=g:=⟨_,rfl⟩
 rw[hgg]at hV
 have HV:=Hd (show Blk W (g) 27 #[.slice K kn.length ck,.slice Z zs.length cz,.slice H hs.length ch,.slice B bs.length cb,.int .i64 room] from hV)
 have HB0:=Hd hb0
 clear hW hb0 hV
 go_enter Tryz.func3,Tryz.ntmps3
 go_upto_region 1 with (fail)
 rw[HW.out]
 clear HW
 go_wp2_with fail
 refine(AL.out _).mono ?_
 rintro e w1 ⟨rfl,b1⟩
 replace HV:=Hd (HV.out.later b1)
 have HB1:=Hd (below_on HB0.out b1)
 clear HB0
 clear b1 AL
 have V_0:=HV.out.cell (i:=0) rfl
 have V_1:=HV.out.cell (i:=1) rfl
 have V_2:=HV.out.cell (i:=2) rfl
 have V_3:=HV.out.cell (i:=3) rfl
 have V_4:=HV.out.cell (i:=4) rfl
 go_wp2_with fail
 refine(CP.out _ HB1.out).mono ?_
 rintro e w2 ⟨q2,rfl,hq2,hV2,b2⟩
 clear V_0 V_1 V_2 V_3 V_4
 replace HV:=Hd (HV.out.later b2)
 have HB2:=Hd (below_on HB1.out b2)
 clear HB1
 clear b2 CP
 obtain⟨K2,ck2,k2,Z2,cz2,z2,H2,ch2,h2,B2,cb2,b2,r2⟩:=q2
 have HQ2:=Hd hq2
 have XV2:=Hd hV2
 clear hq2 hV2
 unfold vwCells
 dsimp only
 obtain⟨g2,hgg2⟩:∃g2,w2.heap.size=g2:=⟨_,rfl⟩
 have lt_V_g2:g<g2:=by have:=HV.out.lt;rw[hgg2]at this;exact this
 have le_g2:w.heap.size≤g2:=by have:=HB2.out.size;rw[hgg2]at this;exact this
 go_upto_region 4 with (fail)
 have b3:=below_new (Below.refl w2.heap.size w2) (.cells #[.slice K2 k2.length ck2,.slice Z2 z2.length cz2,.slice H2 h2.length ch2,.slice B2 b2.length cb2,.int .i64 r2] 27)
 have hO:=Blk.new w2 27 #[.slice K2 k2.length ck2,.slice Z2 z2.length cz2,.slice H2 h2.length ch2,.slice B2 b2.length cb2,.int .i64 r2]
 obtain⟨w3,hw3⟩:∃x,w2.alloc (.cells #[.slice K2 k2.length ck2,.slice Z2 z2.length cz2,.slice H2 h2.length ch2,.slice B2 b2.length cb2,.int .i64 r2] 27)=x:=⟨_,rfl⟩
 rw[hw3]at b3 hO
 rw[hw3]
 replace HV:=Hd (HV.out.later b3)
 have HB3:=Hd (below_on HB2.out b3)
 clear HB2
 replace XV2:=Hd (XV2.out.later b3)
 rw[hgg2]at hO
 have HO:=Hd hO
 clear b3 hw3 hO
 go_wp2_with fail
 refine(NW.out _).mono ?_
 rintro e w4 ⟨q3,rfl,hq3,hV3,b4⟩
 replace HV:=Hd (HV.out.later b4)
 replace HO:=Hd (HO.out.later b4)
 have HB4:=Hd (below_on HB3.out b4)
 clear HB3
 replace XV2:=Hd (XV2.out.later b4)
 clear b4 NW
 obtain⟨K3,ck3,k3,Z3,cz3,z3,H3,ch3,h3,B3,cb3,b3,r3⟩:=q3
 have HQ3:=Hd hq3
 have XV3:=Hd hV3
 clear hq3 hV3
 unfold vwCells
 dsimp only
 obtain⟨g3,hgg3⟩:∃g3,w4.heap.size=g3:=⟨_,rfl⟩
 have lt_V_g3:g<g3:=by have:=HV.out.lt;rw[hgg3]at this;exact this
 have lt_O_g3:g2<g3:=by have:=HO.out.lt;rw[hgg3]at this;exact this
 have le_g3:w.heap.size≤g3:=by have:=HB4.out.size;rw[hgg3]at this;exact this
 go_upto_region 5 with (fail)
 have b5:=below_new (Below.refl w4.heap.size w4) (.cells #[.slice K3 k3.length ck3,.slice Z3 z3.length cz3,.slice H3 h3.length ch3,.slice B3 b3.length cb3,.int .i64 r3] 27)
 have hP:=Blk.new w4 27 #[.slice K3 k3.length ck3,.slice Z3 z3.length cz3,.slice H3 h3.length ch3,.slice B3 b3.length cb3,.int .i64 r3]
 obtain⟨w5,hw5⟩:∃x,w4.alloc (.cells #[.slice K3 k3.length ck3,.slice Z3 z3.length cz3,.slice H3 h3.length ch3,.slice B3 b3.length cb3,.int .i64 r3] 27)=x:=⟨_,rfl⟩
 rw[hw5]at b5 hP
 rw[hw5]
 replace HV:=Hd (HV.out.later b5)
 replace HO:=Hd (HO.out.later b5)
 have HB5:=Hd (below_on HB4.out b5)
 clear HB4
 replace XV2:=Hd (XV2.out.later b5)
 replace XV3:=Hd (XV3.out.later b5)
 rw[hgg3]at hP
 have HP:=Hd hP
 clear b5 hw5 hP
 go_wp2_with fail
 refine(RW.out _).mono ?_
 rintro e w6 ⟨q4,rfl,hq4,hV4,b6⟩
 replace HV:=Hd (HV.out.later b6)
 replace HO:=Hd (HO.out.later b6)
 replace HP:=Hd (HP.out.later b6)
 have HB6:=Hd (below_on HB5.out b6)
 clear HB5
 replace XV2:=Hd (XV2.out.later b6)
 replace XV3:=Hd (XV3.out.later b6)
 clear b6 RW
 obtain⟨K4,ck4,k4,Z4,cz4,z4,H4,ch4,h4,B4,cb4,b4,r4⟩:=q4
 have HQ4:=Hd hq4
 have XV4:=Hd hV4
 clear hq4 hV4
 unfold vwCells
 dsimp only
 obtain⟨g4,hgg4⟩:∃g4,w6.heap.size=g4:=⟨_,rfl⟩
 have lt_V_g4:g<g4:=by have:=HV.out.lt;rw[hgg4]at this;exact this
 have lt_O_g4:g2<g4:=by have:=HO.out.lt;rw[hgg4]at this;exact this
 have lt_P_g4:g3<g4:=by have:=HP.out.lt;rw[hgg4]at this;exact this
 have le_g4:w.heap.size≤g4:=by have:=HB6.out.size;rw[hgg4]at this;exact this
 go_upto_region 6 with (fail)
 have b7:=below_new (Below.refl w6.heap.size w6) (.cells #[.slice K4 k4.length ck4,.slice Z4 z4.length cz4,.slice H4 h4.length ch4,.slice B4 b4.length cb4,.int .i64 r4] 27)
 have hQ:=Blk.new w6 27 #[.slice K4 k4.length ck4,.slice Z4 z4.length cz4,.slice H4 h4.length ch4,.slice B4 b4.length cb4,.int .i64 r4]
 obtain⟨w7,hw7⟩:∃x,w6.alloc (.cells #[.slice K4 k4.length ck4,.slice Z4 z4.length cz4,.slice H4 h4.length ch4,.slice B4 b4.length cb4,.int .i64 r4] 27)=x:=⟨_,rfl⟩
 rw[hw7]at b7 hQ
 rw[hw7]
 replace HV:=Hd (HV.out.later b7)
 replace HO:=Hd (HO.out.later b7)
 replace HP:=Hd (HP.out.later b7)
 have HB7:=Hd (below_on HB6.out b7)
 clear HB6
 replace XV2:=Hd (XV2.out.later b7)
 replace XV3:=Hd (XV3.out.later b7)
 replace XV4:=Hd (XV4.out.later b7)
 rw[hgg4]at hQ
 have HQ:=Hd hQ
 clear b7 hw7 hQ
 have XV1:=Hd (HVW.out _ HB7.out)
 go_upto_region 6 with (fail)
 have O_0:=HO.out.cell (i:=0) rfl
 have O_1:=HO.out.cell (i:=1) rfl
 have O_2:=HO.out.cell (i:=2) rfl
 have O_3:=HO.out.cell (i:=3) rfl
 have O_4:=HO.out.cell (i:=4) rfl
 have V_0:=HV.out.cell (i:=0) rfl
 have V_1:=HV.out.cell (i:=1) rfl
 have V_2:=HV.out.cell (i:=2) rfl
 have V_3:=HV.out.cell (i:=3) rfl
 have V_4:=HV.out.cell (i:=4) rfl
 have P_0:=HP.out.cell (i:=0) rfl
 have P_1:=HP.out.cell (i:=1) rfl
 have P_2:=HP.out.cell (i:=2) rfl
 have P_3:=HP.out.cell (i:=3) rfl
 have P_4:=HP.out.cell (i:=4) rfl
 have Q_0:=HQ.out.cell (i:=0) rfl
 have Q_1:=HQ.out.cell (i:=1) rfl
 have Q_2:=HQ.out.cell (i:=2) rfl
 have Q_3:=HQ.out.cell (i:=3) rfl
 have Q_4:=HQ.out.cell (i:=4) rfl
 refine wp_region_facts 29 (by kernel_rfl) (by kernel_rfl)
  (fun v=>{ tmps:=#[.agg #[.slice K kn.length ck,.slice Z zs.length cz,.slice H hs.length ch,.slice B bs.length cb,.int .i64 room],.int .i64 rm,.slice I it.length ci,.pointer (some ⟨g,0,none⟩),undef,undef,.bool false,.pointer (some ⟨g2,0,none⟩),.pointer (some ⟨g3,0,none⟩),.int .i64 ne,.pointer (some ⟨g4,0,none⟩),.int .i64 ne,.bool true,.bool false,.agg #[.slice K kn.length ck,.slice Z zs.length cz,.slice H hs.length ch,.slice B bs.length cb,.int .i64 room],.agg #[.slice K2 k2.length ck2,.slice Z2 z2.length cz2,.slice H2 h2.length ch2,.slice B2 b2.length cb2,.int .i64 r2],.tuple #[.agg #[.slice K3 k3.length ck3,.slice Z3 z3.length cz3,.slice H3 h3.length ch3,.slice B3 b3.length cb3,.int .i64 r3],.int .i64 ne],.int .i64 rm,.tuple #[.agg #[.slice K3 k3.length ck3,.slice Z3 z3.length cz3,.slice H3 h3.length ch3,.slice B3 b3.length cb3,.int .i64 r3],.int .i64 ne],.agg #[.slice K3 k3.length ck3,.slice Z3 z3.length cz3,.slice H3 h3.length ch3,.slice B3 b3.length cb3,.int .i64 r3],.int .i64 ne,.tuple #[.agg #[.slice K4 k4.length ck4,.slice Z4 z4.length cz4,.slice H4 h4.length ch4,.slice B4 b4.length cb4,.int .i64 r4],.int .i64 ne],.int .i64 rm,.tuple #[.agg #[.slice K4 k4.length ck4,.slice Z4 z4.length cz4,.slice H4 h4.length ch4,.slice B4 b4.length cb4,.int .i64 r4],.int .i64 ne],.agg #[.slice K4 k4.length ck4,.slice Z4 z4.length cz4,.slice H4 h4.length ch4,.slice B4 b4.length cb4,.int .i64 r4],.int .i64 ne,v 0,v 1,v 2,v 3,v 4,v 5,v 6,v 7,v 8,v 9,v 10,v 11,v 12,v 13,v 14,v 15,v 16,v 17,v 18,v 19,v 20,v 21,v 22,v 23,v 24,v 25,v 26,v 27,v 28],defers:=[] }) (fun _=>undef)
  (fun i x wx=>match i with
   |0=>x = .agg #[.slice K2 k2.length ck2,.slice Z2 z2.length cz2,.slice H2 h2.length ch2,.slice B2 b2.length cb2,.int .i64 r2]
   |1=>x = .bool fm
   |2=>x = .agg #[.slice K kn.length ck,.slice Z zs.length cz,.slice H hs.length ch,.slice B bs.length cb,.int .i64 room]
   |3=>x = .bool fm
   |4=>x = .bool true
   |5=>x = .bool true
   |6=>x = .agg #[.slice K3 k3.length ck3,.slice Z3 z3.length cz3,.slice H3 h3.length ch3,.slice B3 b3.length cb3,.int .i64 r3]
   |7=>x = .agg #[.slice K4 k4.length ck4,.slice Z4 z4.length cz4,.slice H4 h4.length ch4,.slice B4 b4.length cb4,.int .i64 r4]
   |8=>x = .bool true
   |9=>x = .bool true
   |10=>x = .bool true
   |11=>x = .int .i64 ne
   |12=>x = .int .i64 ne
   |13=>x = .bool true
   |14=>x = .bool true
   |15=>x = .bool true
   |16=>x = .agg #[.slice K2 k2.length ck2,.slice Z2 z2.length cz2,.slice H2 h2.length ch2,.slice B2 b2.length cb2,.int .i64 r2]
   |17=>x = .slice I it.length ci
   |18=>∃A9 c9,x = .slice A9 sn.length c9∧OneL wx A9 c9 sn
   |19=>x = .agg #[.slice K kn.length ck,.slice Z zs.length cz,.slice H hs.length ch,.slice B bs.length cb,.int .i64 room]
   |20=>x = .slice I it.length ci
   |21=>∃A9 c9,x = .slice A9 sn.length c9∧OneL wx A9 c9 sn
   |22=>x = .bool true
   |23=>x = .bool true
   |24=>x = .bool true
   |25=>x = .agg #[.slice K2 k2.length ck2,.slice Z2 z2.length cz2,.slice H2 h2.length ch2,.slice B2 b2.length cb2,.int .i64 r2]
   |26=>x = .agg #[.slice K kn.length ck,.slice Z zs.length cz,.slice H hs.length ch,.slice B bs.length cb,.int .i64 room]
   |27=>x = .bool true
   |28=>x = .bool true
   |_=>True)
  (fun w1 w2=>Below w1.heap.size w1 w2) (fun h1 h2=>below_on h1 h2) (fun _=>Below.refl _ _) (Below.drew (Below.refl _ _)) ?stabF ?stepF ?doneF
 case stabF=>
  rintro i x w1 w2 h hb
  match i,h with
  |0,h=>exact h
  |1,h=>exact h
  |2,h=>exact h
  |3,h=>exact h
  |4,h=>exact h
  |5,h=>exact h
  |6,h=>exact h
  |7,h=>exact h
  |8,h=>exact h
  |9,h=>exact h
  |10,h=>exact h
  |11,h=>exact h
  |12,h=>exact h
  |13,h=>exact h
  |14,h=>exact h
  |15,h=>exact h
  |16,h=>exact h
  |17,h=>exact h
  |18,h=>obtain⟨A9,c9,e9,h9⟩:=h;exact⟨A9,c9,e9,h9.later hb⟩
  |19,h=>exact h
  |20,h=>exact h
  |21,h=>obtain⟨A9,c9,e9,h9⟩:=h;exact⟨A9,c9,e9,h9.later hb⟩
  |22,h=>exact h
  |23,h=>exact h
  |24,h=>exact h
  |25,h=>exact h
  |26,h=>exact h
  |27,h=>exact h
  |28,h=>exact h
  |i+29,_=>trivial
 case stepF=>
  intro i hi v w' hb hd
  match i,hi with
  |0,_=>
   refine wpOp_oneH rfl fun KK HKK =>?_
   clear hd
   have q0:=cell_later hb O_0
   have q1:=cell_later hb O_1
   have q2:=cell_later hb O_2
   have q3:=cell_later hb O_3
   have q4:=cell_later hb O_4
   go_wp2
   exact HKK.out _ _ ⟨_,(by simp[upd];done),Below.refl _ _,rfl⟩
  |1,_=>
   have h0:v 0=_:=hdx hd 0 (by kernel_rfl)
   refine wpOp_oneH rfl fun KK HKK =>?_
   clear hd
   rw[h0]
   have NX:=Hd (show Calls Tryz.prog 15 #[.agg #[.slice K2 k2.length ck2,.slice Z2 z2.length cz2,.slice H2 h2.length ch2,.slice B2 b2.length cb2,.int .i64 r2]] w' (Says (.bool fm) w') from by have n:=SS.out.formed ⟨K2,ck2,k2,Z2,cz2,z2,H2,ch2,h2,B2,cb2,b2,r2⟩ w' (XV2.out.later hb);rw[HQ2.out,HFM.out]at n;exact n)
   go_wp2_with fail
   refine NX.out.mono ?_
   rintro e w'' ⟨rfl,b⟩
   go_wp2
   exact HKK.out _ _ ⟨_,(by simp[upd,h0];done),b,rfl⟩
  |2,_=>
   refine wpOp_oneH rfl fun KK HKK =>?_
   clear hd
   have q0:=cell_later hb V_0
   have q1:=cell_later hb V_1
   have q2:=cell_later hb V_2
   have q3:=cell_later hb V_3
   have q4:=cell_later hb V_4
   go_wp2
   exact HKK.out _ _ ⟨_,(by simp[upd];done),Below.refl _ _,rfl⟩
  |3,_=>
   have h2:v 2=_:=hdx hd 2 (by kernel_rfl)
   refine wpOp_oneH rfl fun KK HKK =>?_
   clear hd
   rw[h2]
   have NX:=Hd (show Calls Tryz.prog 16 #[.agg #[.slice K kn.length ck,.slice Z zs.length cz,.slice H hs.length ch,.slice B bs.length cb,.int .i64 room]] w' (Says (.bool fm) w') from by have n:=vformed_any ⟨K,ck,kn,Z,cz,zs,H,ch,hs,B,cb,bs,room⟩ w' (XV1.out.later hb);rw[HFM.out]at n;exact n)
   go_wp2_with fail
   refine NX.out.mono ?_
   rintro e w'' ⟨rfl,b⟩
   go_wp2
   exact HKK.out _ _ ⟨_,(by simp[upd,h2];done),b,rfl⟩
  |4,_=>
   have h1:v 1=_:=hdx hd 1 (by kernel_rfl)
   have h3:v 3=_:=hdx hd 3 (by kernel_rfl)
   refine wpOp_oneH rfl fun KK HKK =>?_
   clear hd
   rw[h1,h3]
   go_wp2
   exact HKK.out _ _ ⟨_,(by simp[upd,h1,h3];done),Below.refl _ _,rfl⟩
  |5,_=>
   have h4:v 4=_:=hdx hd 4 (by kernel_rfl)
   refine wpOp_oneH rfl fun KK HKK =>?_
   clear hd
   rw[h4]
   go_wp2
   exact HKK.out _ _ ⟨_,(by simp[upd,h4];done),Below.refl _ _,rfl⟩
  |6,_=>
   have h5:v 5=_:=hdx hd 5 (by kernel_rfl)
   refine wpOp_oneH rfl fun KK HKK =>?_
   clear hd
   rw[h5]
   have q0:=cell_later hb P_0
   have q1:=cell_later hb P_1
   have q2:=cell_later hb P_2
   have q3:=cell_later hb P_3
   have q4:=cell_later hb P_4
   go_wp2
   exact HKK.out _ _ ⟨_,(by simp[upd,h5];done),Below.refl _ _,rfl⟩
  |7,_=>
   have h5:v 5=_:=hdx hd 5 (by kernel_rfl)
   refine wpOp_oneH rfl fun KK HKK =>?_
   clear hd
   rw[h5]
   have q0:=cell_later hb Q_0
   have q1:=cell_later hb Q_1
   have q2:=cell_later hb Q_2
   have q3:=cell_later hb Q_3
   have q4:=cell_later hb Q_4
   go_wp2
   exact HKK.out _ _ ⟨_,(by simp[upd,h5];done),Below.refl _ _,rfl⟩
  |8,_=>
   have h5:v 5=_:=hdx hd 5 (by kernel_rfl)
   have h6:v 6=_:=hdx hd 6 (by kernel_rfl)
   have h7:v 7=_:=hdx hd 7 (by kernel_rfl)
   refine wpOp_oneH rfl fun KK HKK =>?_
   clear hd
   rw[h5,h6,h7]
   have NX:=Hd (show Calls Tryz.prog 17 #[.agg #[.slice K3 k3.length ck3,.slice Z3 z3.length cz3,.slice H3 h3.length ch3,.slice B3 b3.length cb3,.int .i64 r3],.agg #[.slice K4 k4.length ck4,.slice Z4 z4.length cz4,.slice H4 h4.length ch4,.slice B4 b4.length cb4,.int .i64 r4]] w' (Says (.bool true) w') from by have n:=vsame_any ⟨K3,ck3,k3,Z3,cz3,z3,H3,ch3,h3,B3,cb3,b3,r3⟩ ⟨K4,ck4,k4,Z4,cz4,z4,H4,ch4,h4,B4,cb4,b4,r4⟩ w' (XV3.out.later hb) (XV4.out.later hb);rw[HQ3.out,HQ4.out,decide_eq_true rfl]at n;exact n)
   go_wp2_with fail
   refine NX.out.mono ?_
   rintro e w'' ⟨rfl,b⟩
   go_wp2
   exact HKK.out _ _ ⟨_,(by simp[upd,h5,h6,h7];done),b,rfl⟩
  |9,_=>
   have h5:v 5=_:=hdx hd 5 (by kernel_rfl)
   have h8:v 8=_:=hdx hd 8 (by kernel_rfl)
   refine wpOp_oneH rfl fun KK HKK =>?_
   clear hd
   rw[h5,h8]
   go_wp2
   exact HKK.out _ _ ⟨_,(by simp[upd,h5,h8];done),Below.refl _ _,rfl⟩
  |10,_=>
   have h9:v 9=_:=hdx hd 9 (by kernel_rfl)
   refine wpOp_oneH rfl fun KK HKK =>?_
   clear hd
   rw[h9]
   go_wp2
   exact HKK.out _ _ ⟨_,(by simp[upd,h9];done),Below.refl _ _,rfl⟩
  |11,_=>
   have h10:v 10=_:=hdx hd 10 (by kernel_rfl)
   refine wpOp_oneH rfl fun KK HKK =>?_
   clear hd
   rw[h10]
   go_wp2
   exact HKK.out _ _ ⟨_,(by simp[upd,h10];done),Below.refl _ _,rfl⟩
  |12,_=>
   have h10:v 10=_:=hdx hd 10 (by kernel_rfl)
   refine wpOp_oneH rfl fun KK HKK =>?_
   clear hd
   rw[h10]
   go_wp2
   exact HKK.out _ _ ⟨_,(by simp[upd,h10];done),Below.refl _ _,rfl⟩
  |13,_=>
   have h10:v 10=_:=hdx hd 10 (by kernel_rfl)
   have h11:v 11=_:=hdx hd 11 (by kernel_rfl)
   have h12:v 12=_:=hdx hd 12 (by kernel_rfl)
   refine wpOp_oneH rfl fun KK HKK =>?_
   clear hd
   rw[h10,h11,h12]
   go_wp2
   exact HKK.out _ _ ⟨_,(by simp[upd,h10,h11,h12];done),Below.refl _ _,rfl⟩
  |14,_=>
   have h10:v 10=_:=hdx hd 10 (by kernel_rfl)
   have h13:v 13=_:=hdx hd 13 (by kernel_rfl)
   refine wpOp_oneH rfl fun KK HKK =>?_
   clear hd
   rw[h10,h13]
   go_wp2
   exact HKK.out _ _ ⟨_,(by simp[upd,h10,h13];done),Below.refl _ _,rfl⟩
  |15,_=>
   have h14:v 14=_:=hdx hd 14 (by kernel_rfl)
   refine wpOp_oneH rfl fun KK HKK =>?_
   clear hd
   rw[h14]
   go_wp2
   exact HKK.out _ _ ⟨_,(by simp[upd,h14];done),Below.refl _ _,rfl⟩
  |16,_=>
   have h15:v 15=_:=hdx hd 15 (by kernel_rfl)
   refine wpOp_oneH rfl fun KK HKK =>?_
   clear hd
   rw[h15]
   have q0:=cell_later hb O_0
   have q1:=cell_later hb O_1
   have q2:=cell_later hb O_2
   have q3:=cell_later hb O_3
   have q4:=cell_later hb O_4
   go_wp2
   exact HKK.out _ _ ⟨_,(by simp[upd,h15];done),Below.refl _ _,rfl⟩
  |17,_=>
   have h15:v 15=_:=hdx hd 15 (by kernel_rfl)
   refine wpOp_oneH rfl fun KK HKK =>?_
   clear hd
   rw[h15]
   go_wp2
   exact HKK.out _ _ ⟨_,(by simp[upd,h15];done),Below.refl _ _,rfl⟩
  |18,_=>
   have h15:v 15=_:=hdx hd 15 (by kernel_rfl)
   have h16:v 16=_:=hdx hd 16 (by kernel_rfl)
   have h17:v 17=_:=hdx hd 17 (by kernel_rfl)
   refine wpOp_oneH rfl fun KK HKK =>?_
   clear hd
   rw[h15,h16,h17]
   go_wp2_with fail
   refine((show Calls Tryz.prog 19 #[.agg #[.slice K2 k2.length ck2,.slice Z2 z2.length cz2,.slice H2 h2.length ch2,.slice B2 b2.length cb2,.int .i64 r2],.slice I it.length ci] w' (Ans sn w') from by have n:=SS.out.since ⟨K2,ck2,k2,Z2,cz2,z2,H2,ch2,h2,B2,cb2,b2,r2⟩ I ci it w' (XV2.out.later hb) (HI.out _ (below_on HB7.out hb));rw[HQ2.out,HSN.out]at n;exact n)).mono ?_
   rintro e w'' ⟨A9,c9,rfl,hB,b⟩
   go_wp2
   exact HKK.out _ _ ⟨_,(by simp[upd,h15,h16,h17];done),b,A9,c9,rfl,hB⟩
  |19,_=>
   have h15:v 15=_:=hdx hd 15 (by kernel_rfl)
   refine wpOp_oneH rfl fun KK HKK =>?_
   clear hd
   rw[h15]
   have q0:=cell_later hb V_0
   have q1:=cell_later hb V_1
   have q2:=cell_later hb V_2
   have q3:=cell_later hb V_3
   have q4:=cell_later hb V_4
   go_wp2
   exact HKK.out _ _ ⟨_,(by simp[upd,h15];done),Below.refl _ _,rfl⟩
  |20,_=>
   have h15:v 15=_:=hdx hd 15 (by kernel_rfl)
   refine wpOp_oneH rfl fun KK HKK =>?_
   clear hd
   rw[h15]
   go_wp2
   exact HKK.out _ _ ⟨_,(by simp[upd,h15];done),Below.refl _ _,rfl⟩
  |21,_=>
   have h15:v 15=_:=hdx hd 15 (by kernel_rfl)
   have h19:v 19=_:=hdx hd 19 (by kernel_rfl)
   have h20:v 20=_:=hdx hd 20 (by kernel_rfl)
   refine wpOp_oneH rfl fun KK HKK =>?_
   clear hd
   rw[h15,h19,h20]
   go_wp2_with fail
   refine((show Calls Tryz.prog 20 #[.agg #[.slice K kn.length ck,.slice Z zs.length cz,.slice H hs.length ch,.slice B bs.length cb,.int .i64 room],.slice I it.length ci] w' (Gives sn w') from by have n:=vsince_any ⟨K,ck,kn,Z,cz,zs,H,ch,hs,B,cb,bs,room⟩ I ci it w' (XV1.out.later hb) (HI.out _ (below_on HB7.out hb));rw[HSN.out]at n;exact n)).mono ?_
   rintro e w'' ⟨u,rfl,ho,b⟩
   obtain⟨A9,c9,rfl,hB⟩:=OneL.of_own ho
   go_wp2
   exact HKK.out _ _ ⟨_,(by simp[upd,h15,h19,h20];done),b,A9,c9,rfl,hB⟩
  |22,_=>
   have h15:v 15=_:=hdx hd 15 (by kernel_rfl)
   obtain⟨A18,c18,h18,o18⟩:=hd 18 (List.elem_iff.1 (by kernel_rfl))
   obtain⟨A21,c21,h21,o21⟩:=hd 21 (List.elem_iff.1 (by kernel_rfl))
   refine wpOp_oneH rfl fun KK HKK =>?_
   clear hd
   rw[h15,h18,h21]
   have NX:=Hd (show Calls Tryz.prog 18 #[.slice A18 sn.length c18,.slice A21 sn.length c21] w' (Says (.bool true) w') from by have n:=rsame_any A18 A21 c18 c21 sn sn w' o18.len o18.stamps o21.stamps;rw[decide_eq_true rfl]at n;exact n)
   go_wp2_with fail
   refine NX.out.mono ?_
   rintro e w'' ⟨rfl,b⟩
   go_wp2
   exact HKK.out _ _ ⟨_,(by simp[upd,h15,h18,h21];done),b,rfl⟩
  |23,_=>
   have h15:v 15=_:=hdx hd 15 (by kernel_rfl)
   have h22:v 22=_:=hdx hd 22 (by kernel_rfl)
   refine wpOp_oneH rfl fun KK HKK =>?_
   clear hd
   rw[h15,h22]
   go_wp2
   exact HKK.out _ _ ⟨_,(by simp[upd,h15,h22];done),Below.refl _ _,rfl⟩
  |24,_=>
   have h23:v 23=_:=hdx hd 23 (by kernel_rfl)
   refine wpOp_oneH rfl fun KK HKK =>?_
   clear hd
   rw[h23]
   go_wp2
   exact HKK.out _ _ ⟨_,(by simp[upd,h23];done),Below.refl _ _,rfl⟩
  |25,_=>
   have h24:v 24=_:=hdx hd 24 (by kernel_rfl)
   refine wpOp_oneH rfl fun KK HKK =>?_
   clear hd
   rw[h24]
   have q0:=cell_later hb O_0
   have q1:=cell_later hb O_1
   have q2:=cell_later hb O_2
   have q3:=cell_later hb O_3
   have q4:=cell_later hb O_4
   go_wp2
   exact HKK.out _ _ ⟨_,(by simp[upd,h24];done),Below.refl _ _,rfl⟩
  |26,_=>
   have h24:v 24=_:=hdx hd 24 (by kernel_rfl)
   refine wpOp_oneH rfl fun KK HKK =>?_
   clear hd
   rw[h24]
   have q0:=cell_later hb V_0
   have q1:=cell_later hb V_1
   have q2:=cell_later hb V_2
   have q3:=cell_later hb V_3
   have q4:=cell_later hb V_4
   go_wp2
   exact HKK.out _ _ ⟨_,(by simp[upd,h24];done),Below.refl _ _,rfl⟩
  |27,_=>
   have h24:v 24=_:=hdx hd 24 (by kernel_rfl)
   have h25:v 25=_:=hdx hd 25 (by kernel_rfl)
   have h26:v 26=_:=hdx hd 26 (by kernel_rfl)
   refine wpOp_oneH rfl fun KK HKK =>?_
   clear hd
   rw[h24,h25,h26]
   have NX:=Hd (show Calls Tryz.prog 17 #[.agg #[.slice K2 k2.length ck2,.slice Z2 z2.length cz2,.slice H2 h2.length ch2,.slice B2 b2.length cb2,.int .i64 r2],.agg #[.slice K kn.length ck,.slice Z zs.length cz,.slice H hs.length ch,.slice B bs.length cb,.int .i64 room]] w' (Says (.bool true) w') from by have n:=vsame_any ⟨K2,ck2,k2,Z2,cz2,z2,H2,ch2,h2,B2,cb2,b2,r2⟩ ⟨K,ck,kn,Z,cz,zs,H,ch,hs,B,cb,bs,room⟩ w' (XV2.out.later hb) (XV1.out.later hb);rw[HQ2.out,decide_eq_true rfl]at n;exact n)
   go_wp2_with fail
   refine NX.out.mono ?_
   rintro e w'' ⟨rfl,b⟩
   go_wp2
   exact HKK.out _ _ ⟨_,(by simp[upd,h24,h25,h26];done),b,rfl⟩
  |28,_=>
   have h24:v 24=_:=hdx hd 24 (by kernel_rfl)
   have h27:v 27=_:=hdx hd 27 (by kernel_rfl)
   refine wpOp_oneH rfl fun KK HKK =>?_
   clear hd
   rw[h24,h27]
   go_wp2
   exact HKK.out _ _ ⟨_,(by simp[upd,h24,h27];done),Below.refl _ _,rfl⟩
  |k+29,hk=>exact absurd hk (by omega)
 case doneF=>
  intro v w5 hb hf
  have h28:v 28=_:=hf 28 (by decide)
  clear hf
  rw[h28]
  clear O_0 O_1 O_2 O_3 O_4 V_0 V_1 V_2 V_3 V_4 P_0 P_1 P_2 P_3 P_4 Q_0 Q_1 Q_2 Q_3 Q_4
  replace HV:=Hd (HV.out.later hb)
  replace HO:=Hd (HO.out.later hb)
  replace HP:=Hd (HP.out.later hb)
  replace HQ:=Hd (HQ.out.later hb)
  have HB8:=Hd (below_on HB7.out hb)
  clear HB7
  replace XV2:=Hd (XV2.out.later hb)
  replace XV3:=Hd (XV3.out.later hb)
  replace XV4:=Hd (XV4.out.later hb)
  replace XV1:=Hd (XV1.out.later hb)
  clear hb
  have HZ:=Hd HB8.out
  go_wp2
  go_ret
  exact⟨rfl,HZ.out⟩
end Go.Proofs.YtjlfehpockfkdaaGreat
namespace Go.Proofs.YtjlfehpockfkdaaGreat
open Go.RowKit
namespace Tr
theorem tiles_at{g:Nat→List (Int × Int)}:∀(P:List Zn) (k m:Nat),Tiles g k P m→∀o,k≤o→o<m→∃z∈P,holds z (o:Int)=true∧g o=z.2.2
 | [],k,m,h,o,h1,h2=>by
  have:k=m:=h
  omega
 |z::r,k,m,⟨e,q1,q2,q3,q4,q5,q6⟩,o,h1,h2=>by
  by_cases hc:o<e
  ·exact⟨z,List.mem_cons_self,by unfold holds;rw[decide_eq_true_iff];omega,q5 o h1 hc⟩
  ·obtain⟨y,y1,y2,y3⟩:=tiles_at r e m q6 o (by omega) h2
   exact⟨y,List.mem_cons_of_mem _ y1,y2,y3⟩
end Tr
namespace Ve
theorem mtTo_some{ls:List (List (Int × Int))}(i:Nat):∀k,k<ls.length→∃l∈ls,mtTo ls k i=cnt l i
 |0,h=>⟨ls.getD 0 [],by rw[List.getD_eq_getElem?_getD,List.getElem?_eq_getElem h];exact List.getElem_mem h,rfl⟩
 |k+1,h=>by
  show ∃l∈ls,(if cnt (ls.getD (k+1) []) i<mtTo ls k i then cnt (ls.getD (k+1) []) i else mtTo ls k i)=cnt l i
  split
  ·exact⟨ls.getD (k+1) [],by rw[List.getD_eq_getElem?_getD,List.getElem?_eq_getElem h];exact List.getElem_mem h,rfl⟩
  ·exact mtTo_some i k (by omega)
theorem meet_same{ls rs:List (List (Int × Int))}(h1:∀l∈ls,l∈rs)(h2:∀l∈rs,l∈ls):meetL ls=meetL rs:=by
 unfold meetL
 by_cases e:ls=[]
 ·subst e
  have:rs=[]:=List.eq_nil_iff_forall_not_mem.2 (fun l hl=>by have:=h2 l hl;cases this)
  rw[if_pos rfl,if_pos this]
 ·have e2:rs≠[]:=fun e2=>e (List.eq_nil_iff_forall_not_mem.2 (fun l hl=>by have:=h1 l hl;rw[e2]at this;cases this))
  rw[if_neg e,if_neg e2]
  refine ofL_ext (fun i _ =>?_)
  have p1:=List.length_pos_iff.2 e
  have p2:=List.length_pos_iff.2 e2
  obtain⟨l,m1,m2⟩:=mtTo_some (ls:=ls) i (ls.length-1) (by omega)
  obtain⟨r,n1,n2⟩:=mtTo_some (ls:=rs) i (rs.length-1) (by omega)
  have le:∀{xs:List (List (Int × Int))} {x:List (Int × Int)},x∈xs→mt xs i≤cnt x i:=fun {xs x} hx=>by
   obtain⟨j,hj⟩:=List.getElem?_of_mem hx
   have hlt:=(List.getElem?_eq_some_iff.1 hj).1
   have hg:xs.getD j []=x:=by rw[List.getD_eq_getElem?_getD,hj];rfl
   have:=Tr.mt_le (ls:=xs) i (xs.length-1) j (by omega)
   rw[hg]at this
   exact this
  have a1:=le (h2 r n1)
  have a2:=le (h1 l m1)
  have m2:mt ls i=cnt l i:=m2
  have n2:mt rs i=cnt r i:=n2
  omega
end Ve
namespace Tr
theorem rchs_is(zs:List Zn)(kn:List (Int × Int)){f:Nat→Bool}{r:List (Int × Int)}:∀k,r∈rchs zs kn f k→∃o,o<k∧f o=true∧r=rch zs kn (o:Int)
 |0,h=>by cases h
 |k+1,h=>by
  have h:r∈(if f k=true then rchs zs kn f k++[rch zs kn (k:Int)] else rchs zs kn f k):=h
  have go:r∈rchs zs kn f k→∃o,o<k+1∧f o=true∧r=rch zs kn (o:Int):=fun h=>by
   obtain⟨o,a,b,c⟩:=rchs_is zs kn k h
   exact⟨o,by omega,b,c⟩
  split at h
  ·rename_i hf
   rcases List.mem_append.1 h with h|h
   ·exact go h
   ·exact⟨k,by omega,hf,List.mem_singleton.1 h⟩
  ·exact go h
def hits(f:Nat→Bool)(z:Zn):Bool:=Sp.touch (Sp.inL [(z.1,z.2.1)]) f
theorem hits_iff(f:Nat→Bool)(z:Zn):hits f z=true↔∃o:Nat,o<256∧holds z (o:Int)=true∧f o=true:=by
 unfold hits Sp.touch holds
 rw[decide_eq_true_iff]
 constructor
 ·rintro ⟨o,h1,h2⟩
  refine⟨o.val,o.isLt,?_,h2⟩
  rw[Sp.inL_iff]at h1
  obtain⟨s,hs,hh⟩:=h1
  rw[List.mem_singleton]at hs
  subst hs
  exact decide_eq_true hh
 ·rintro ⟨o,h0,h1,h2⟩
  refine⟨⟨o,h0⟩,?_,h2⟩
  rw[Sp.inL_iff]
  exact⟨_,List.mem_singleton.2 rfl,of_decide_eq_true h1⟩
def hit(zs:List Zn)(kn:List (Int × Int))(f:Nat→Bool):List (List (Int × Int)):=((all zs kn).filter (hits f)).map fun z=>z.2.2
theorem hit_same{zs:List Zn}(hz:fmd zs=true)(kn:List (Int × Int))(f:Nat→Bool):(∀l∈hit zs kn f,l∈rchs zs kn f 256)∧(∀l∈rchs zs kn f 256,l∈hit zs kn f):=by
 have ht:=all_tiles hz kn
 constructor
 ·intro l hl
  obtain⟨z,hz2,rfl⟩:=List.mem_map.1 hl
  obtain⟨h1,h2⟩:=List.mem_filter.1 hz2
  obtain⟨o,o1,o2,o3⟩:=(hits_iff f z).1 h2
  have h3:=(tiles_of _ _ _ ht z h1).2.2.2 o o2
  rw[←h3.2.2]
  exact rchs_mem zs kn o3 256 o1
 ·intro l hl
  obtain⟨o,o1,o2,rfl⟩:=rchs_is zs kn 256 hl
  obtain⟨z,z1,z2,z3⟩:=tiles_at _ _ _ ht o (Nat.zero_le _) o1
  have z3:rch zs kn (o:Int)=z.2.2:=z3
  rw[z3]
  exact List.mem_map.2 ⟨z,List.mem_filter.2 ⟨z1,(hits_iff f z).2 ⟨o,o1,z2,o2⟩⟩,rfl⟩
theorem snc_hit{zs:List Zn}(hz:fmd zs=true){kn:List (Int × Int)}(hk:Ve.fmd kn=true)(it:List (Int × Int)){f:Nat→Bool}(hf:∀o,o<256→f o=Sp.inL it o):sncR zs kn it=if (hit zs kn f).length=0 then kn else Ve.meetL (hit zs kn f):=by
 have h1:=hit_same hz kn f
 have e0:rchs zs kn (Sp.inL it) 256=rchs zs kn f 256:=by
  have:∀k,k≤256→rchs zs kn (Sp.inL it) k=rchs zs kn f k:=fun k=>by
   induction k with
   |zero=>intro _;rfl
   |succ k ih=>
    intro h
    show(if Sp.inL it k=true then _ else _)=(if f k=true then _ else _)
    rw[ih (by omega),hf k (by omega)]
  exact this 256 (Nat.le_refl _)
 unfold sncR
 rw[if_pos ⟨hz,hk⟩,e0,Ve.meet_same h1.1 h1.2]
 have e1:(rchs zs kn f 256).length=0↔(hit zs kn f).length=0:=by
  rw[List.length_eq_zero_iff,List.length_eq_zero_iff]
  constructor
  ·intro e
   exact List.eq_nil_iff_forall_not_mem.2 (fun l hl=>by have:=h1.1 l hl;rw[e]at this;cases this)
  ·intro e
   exact List.eq_nil_iff_forall_not_mem.2 (fun l hl=>by have:=h1.2 l hl;rw[e]at this;cases this)
 by_cases h0:(rchs zs kn f 256).length=0
 ·rw[if_pos h0,if_pos (e1.1 h0)]
 ·rw[if_neg h0,if_neg (fun h=>h0 (e1.2 h))]
end Tr
end Go.Proofs.YtjlfehpockfkdaaGreat
namespace Go.Proofs.YtjlfehpockfkdaaGreat
open Go.RowKit Go.Shelf Fb
attribute [local go_sem] Oper.semAt_some
set_option maxHeartbeats 800000 in
theorem sptouch_any(A B:Option Addr)(c d:Nat)(l r:List (Int × Int))(w:World)(h1:OneL w A c l)(h2:OneL w B d r) :
  Calls Tryz.prog 93 #[.slice A l.length c,.slice B r.length d] w (Says (.bool (Sp.touch (Sp.inL l) (Sp.inL r))) w):=by
 have n1:=spmeet_any A B c d l r w h1 h2
 have ht:Sp.touch (Sp.inL l) (Sp.inL r)=decide (0<(Sp.meetS l r).length):=Sp.touch_ref _ _
 have hlen:(Sp.meetS l r).length≤128:=Sp.ofL_len _
 rw[ht]
 obtain⟨M,hM⟩:∃M,Sp.meetS l r=M:=⟨_,rfl⟩
 rw[hM]at n1 hlen ⊢
 have N1:=Hd n1
 clear n1 h1 h2 ht hM
 go_enter Tryz.func93,Tryz.ntmps93
 go_wp2_with fail
 refine N1.out.mono ?_
 rintro e w1 ⟨v,rfl,ho,b1⟩
 obtain⟨D,dc,rfl,_⟩:=own_far ho
 clear ho N1
 go_wp2
 go_ret
 exact⟨by simp,b1⟩
end Go.Proofs.YtjlfehpockfkdaaGreat
namespace Go.Proofs.YtjlfehpockfkdaaGreat
open Go.RowKit
set_option maxRecDepth 100000 in
set_option maxHeartbeats 1600000 in
theorem meet_any(A:Option Addr)(c1:Nat)(ls:List (List (Int × Int)))(w:World)(hcap:ls.length≤c1)(hcm:c1≤maxLen)(h1:Rows w A ls) :
  Calls Tryz.prog 122 #[.slice A ls.length c1] w (Gives (Ve.meetL ls) w):=by
 have hls:=h1.len
 have hl:ls.length≤9223372036854775807:=by unfold maxLen at hcm;omega
 have H1:=Hd h1
 clear h1
 by_cases hne:ls=[]
 ·subst hne
  have hd:(((0:Nat):Int) == 0)=true:=rfl
  go_enter Tryz.func122,Tryz.ntmps122
  go_wp2
  go_ret
  exact⟨_,rfl,⟨rfl,.inl ⟨rfl,rfl⟩⟩,Below.refl _ _⟩
 have hpos:0<ls.length:=List.length_pos_iff.2 hne
 have hd:((ls.length:Int) == 0)=false:=beq_eq_false_iff_ne.2 (by omega)
 obtain⟨b,off,hA,hcA⟩:=H1.out hne
 obtain⟨A',c',e0,hL⟩:=hcA 0 hpos
 rw[Nat.add_zero]at e0
 have hlen:=hls 0 hpos
 have hS:=hL.stamps
 have H1':=H1
 subst hA
 have hm0:Ve.cnt (ls.getD 0 [])=Ve.mtTo ls 0:=rfl
 have n1:=fun w h=>countsOf_any A' c' (ls.getD 0 []) w hlen h
 rw[hm0]at n1
 obtain⟨m,hm⟩:∃m,(ls.getD 0 []).length=m:=⟨_,rfl⟩
 rw[hm]at e0 n1
 have N1:=Hd n1
 have HS:=Hd hS
 clear n1 hS hm hL hm0 hcA hne
 have hi1:(0:Int)<(ls.length:Int):=by omega
 by_cases hc1:c1=1
 ·have hl1:ls.length=1:=by omega
  have hres:Ve.meetL ls=Ve.ofL (Ve.mtTo ls 0):=by unfold Ve.meetL Ve.mt;rw[if_neg (fun e=>by subst e;simp at hpos),hl1]
  have HRES:=Hd hres
  clear hres
  subst hc1
  rw[hl1]at hd hi1 ⊢
  clear hl1 hl hcm hcap hpos
  go_enter Tryz.func122,Tryz.ntmps122
  go_wp2_with fail
  refine(N1.out _ HS.out).mono ?_
  rintro e w1 ⟨rfl,hb1⟩
  have hz1:=hb1.size
  go_wp2_with (refine wpList_store_row rfl 186 _ _ rfl w1.heap.size (Ve.arr (Ve.mtTo ls 0)) rfl rfl 186 (Ve.arr fun _=>0) ?s0 (by rw[Ve.arr_size];exact infoC) (by rw[Ve.arr_size,Ve.arr_size]) (one_arr _) ?_)
  case s0=>
   rw[←Ve.arr_zero]
   exact Blk.new w1 _ _
  rw[←Ve.arr_zero]
  have B0:=(Blk.new w1 186 (Ve.arr fun _=>0)).row (Ve.arr (Ve.mtTo ls 0))
  have b0:=below_setRow (below_new (below_on (Below.refl _ _) hb1) (.cells (Ve.arr fun _=>0) 186)) (g:=w1.heap.size) hz1 (Ve.arr (Ve.mtTo ls 0))
  go_loopw [18] (fun s18 wr=>s18 = .int .i64 0∧Blk wr w1.heap.size 186 (Ve.arr (Ve.mtTo ls 0))∧Below w.heap.size w wr) (fun _ _=>0)
  case atStart=>exact⟨rfl,B0,b0⟩
  case round=>
   obtain⟨rfl,hB,hbw⟩:=hrel
   have HB:=Hd hB
   clear hB B0 b0
   go_wp2_with (refine wpList_load_row rfl 186 _ rfl w1.heap.size rfl 186 _ (0,0) _ HB.out Tryz.underlying186 rfl (by rw[Ve.arr_size];exact infoC) ?_)
   refine(vector_any _ _).mono ?_
   rintro e w3 ⟨v,rfl,ho,hb3⟩
   have HO:=Hd ho
   have hz:=hbw.size
   clear ho
   go_wp2
   go_ret
   exact⟨_,rfl,by rw[HRES.out];exact own_base HO.out hz,below_on hbw hb3⟩
 have hc2:¬(c1-1=0):=by omega
 have hc3:1≤c1:=by omega
 obtain⟨q,hq⟩:∃q,ls.length-1=q:=⟨_,rfl⟩
 go_enter Tryz.func122,Tryz.ntmps122
 go_wp2_with fail
 refine(N1.out _ HS.out).mono ?_
 rintro e w1 ⟨rfl,hb1⟩
 have hz1:=hb1.size
 go_wp2_with (refine wpList_store_row rfl 186 _ _ rfl w1.heap.size (Ve.arr (Ve.mtTo ls 0)) rfl rfl 186 (Ve.arr fun _=>0) ?s0 (by rw[Ve.arr_size];exact infoC) (by rw[Ve.arr_size,Ve.arr_size]) (one_arr _) ?_)
 case s0=>
  rw[←Ve.arr_zero]
  exact Blk.new w1 _ _
 rw[←Ve.arr_zero]
 have B0:=(Blk.new w1 186 (Ve.arr fun _=>0)).row (Ve.arr (Ve.mtTo ls 0))
 have b0:=below_setRow (below_new (below_on (Below.refl _ _) hb1) (.cells (Ve.arr fun _=>0) 186)) (g:=w1.heap.size) hz1 (Ve.arr (Ve.mtTo ls 0))
 clear N1 HS e0
 go_loopw [18] (fun s18 wr=>∃k:Nat,k+1≤ls.length∧s18 = .int .i64 (k:Int)∧Blk wr w1.heap.size 186 (Ve.arr (Ve.mtTo ls k))∧Below w.heap.size w wr) (fun s18 _=>ls.length-(intOf s18).toNat)
 case atStart=>exact⟨0,hpos,rfl,B0,b0⟩
 case round=>
  obtain⟨k,hk,rfl,hB,hbw⟩:=hrel
  clear B0 b0 hb1
  by_cases hlt:k+1<ls.length
  ·have hne:ls≠[]:=fun e=>by subst e;simp at hlt
   obtain⟨b',off',hA,hcA⟩:=(H1.out.later hbw) hne
   obtain⟨A2,c2,e0,hL⟩:=hcA (k+1) hlt
   have hlen:=hls (k+1) hlt
   have hS:=hL.stamps
   injection hA with hA
   injection hA with hA1 hA2
   subst hA1 hA2
   rw[show off+(k+1)=off+1+k from by omega]at e0
   have hi0:(0:Int)≤(k:Int):=by omega
   have hi1:(k:Int)<((q:Nat):Int):=by omega
   have hjs:∀n,Ve.mtTo ls (k+1) n=Ve.mnTo (Ve.mtTo ls k) (Ve.cnt (ls.getD (k+1) [])) 64 n∨64≤n:=fun n=>by
    by_cases hn:n<64
    ·left
     unfold Ve.mnTo
     rw[if_pos hn]
     rfl
    ·right;omega
   have n1:=fun w h=>countsOf_any A2 c2 (ls.getD (k+1) []) w hlen h
   obtain⟨f,hf⟩:∃f,Ve.mtTo ls k=f:=⟨_,rfl⟩
   obtain⟨g,hg⟩:∃g,Ve.cnt (ls.getD (k+1) [])=g:=⟨_,rfl⟩
   obtain⟨m,hm⟩:∃m,(ls.getD (k+1) []).length=m:=⟨_,rfl⟩
   rw[hg]at n1
   rw[hf,hg]at hjs
   rw[hf]at hB
   rw[hm]at e0 n1
   have HJS:=Hd hjs
   have N1:=Hd n1
   have HS:=Hd hS
   have HB:=Hd hB
   clear hjs n1 hS hB hcA hf hg hm hL
   go_wp2_with fail
   refine(N1.out _ HS.out).mono ?_
   rintro e w2 ⟨rfl,hb2⟩
   have hbx:=below_on hbw hb2
   have B1:=HB.out.later hb2
   have hz:=hbx.size
   have hlt1:=B1.lt
   clear N1 HS HB hb2
   go_wp2_with (refine wpList_store_row rfl 186 _ _ rfl w2.heap.size (Ve.arr g) rfl rfl 186 (Ve.arr fun _=>0) ?s1 (by rw[Ve.arr_size];exact infoC) (by rw[Ve.arr_size,Ve.arr_size]) (one_arr _) ?_)
   case s1=>
    rw[←Ve.arr_zero]
    exact Blk.new w2 _ _
   rw[←Ve.arr_zero]
   have B5:=(Blk.new w2 186 (Ve.arr fun _=>0)).row (Ve.arr g)
   have B4:=(B1.alloc (.cells (Ve.arr fun _=>0) 186)).rowFar (g':=w2.heap.size) (by omega) (Ve.arr g)
   have b6:=below_setRow (below_new hbx (.cells (Ve.arr fun _=>0) 186)) (g:=w2.heap.size) hz (Ve.arr g)
   go_loopw [24] (fun s24 wq=>∃n:Nat,n≤64∧s24 = .int .i64 (n:Int)∧Blk wq w1.heap.size 186 (Ve.arr (Ve.mnTo f g n))∧Blk wq w2.heap.size 186 (Ve.arr g)∧Below w.heap.size w wq) (fun s24 _=>64-(intOf s24).toNat)
   case atStart=>exact⟨0,by omega,rfl,B4.same (fun i _=>by unfold Ve.mnTo;rw[if_neg (by omega)]),B5,b6⟩
   case round=>
    obtain⟨n,hn,rfl,hC,hD,hbq⟩:=hrel
    clear B5 B4 b6 B1
    by_cases hlt2:n<64
    ·have x0:=hC.arr_cell n hlt2
     have x1:=hC.free n
     have y0:=hD.arr_cell n hlt2
     rw[show Ve.mnTo f g n n=f n from by unfold Ve.mnTo;rw[if_neg (by omega)]]at x0
     have hj0:(0:Int)≤(n:Int):=by omega
     have hj1:(n:Int)<64:=by omega
     by_cases hgt:g n<f n
     ·have B7:=(hC.arr_put n hlt2 (g n)).same (f':=Ve.mnTo f g (n+1)) (fun i _=>Ve.mn_step f g n _ (if_pos hgt).symm i)
      have B8:=hD.far (p:=⟨w1.heap.size,n,none⟩) (by show w2.heap.size≠w1.heap.size;omega) (.int .i64 (g n))
      have HB7:=Hd B7
      have HB8:=Hd B8
      have hbz:=hbq.setCell (p:=⟨w1.heap.size,n,none⟩) hz1 (.int .i64 (g n))
      have hmn:min (f n) (g n)=g n:=by omega
      clear hC hD B7 B8
      go_wp2_with fail
      go_region
      all_goals try rw[hmn]
      go_wp2_with fail
      go_roundw
      case rel=>exact⟨n+1,by omega,by go_num,HB7.out.drew,HB8.out.drew,hbz.drew⟩
      case measure=>simp[intOf];omega
     ·have hle:f n≤g n:=by omega
      have B7:=(hC.arr_put n hlt2 (f n)).same (f':=Ve.mnTo f g (n+1)) (fun i _=>Ve.mn_step f g n _ (if_neg hgt).symm i)
      have B8:=hD.far (p:=⟨w1.heap.size,n,none⟩) (by show w2.heap.size≠w1.heap.size;omega) (.int .i64 (f n))
      have HB7:=Hd B7
      have HB8:=Hd B8
      have hbz:=hbq.setCell (p:=⟨w1.heap.size,n,none⟩) hz1 (.int .i64 (f n))
      have hmn:min (f n) (g n)=f n:=by omega
      clear hC hD B7 B8
      go_wp2_with fail
      go_region
      all_goals try rw[hmn]
      go_wp2_with fail
      go_roundw
      case rel=>exact⟨n+1,by omega,by go_num,HB7.out.drew,HB8.out.drew,hbz.drew⟩
      case measure=>simp[intOf];omega
    ·have hn64:n=64:=by omega
     subst hn64
     have B9:=hC.same (f':=Ve.mtTo ls (k+1)) (fun i hi=>by
      rcases HJS.out i with h|h
      ·exact h.symm
      ·omega)
     have HB9:=Hd B9
     clear hC hD B9
     go_wp2_with fail
     go_roundw
     case rel=>exact⟨k+1,by omega,by go_num,HB9.out,hbq⟩
     case measure=>simp[intOf];omega
  ·have hkl:ls.length=k+1:=by omega
   have hqk:q=k:=by omega
   subst hqk
   have hres:Ve.meetL ls=Ve.ofL (Ve.mtTo ls q):=by unfold Ve.meetL Ve.mt;rw[if_neg (fun e=>by subst e;simp at hpos),hkl];rfl
   have HRES:=Hd hres
   have HB:=Hd hB
   clear hB hres
   go_wp2_with (refine wpList_load_row rfl 186 _ rfl w1.heap.size rfl 186 _ (0,0) _ HB.out Tryz.underlying186 rfl (by rw[Ve.arr_size];exact infoC) ?_)
   refine(vector_any _ _).mono ?_
   rintro e w3 ⟨v,rfl,ho,hb3⟩
   have HO:=Hd ho
   have hz:=hbw.size
   clear ho
   go_wp2
   go_ret
   exact⟨_,rfl,by rw[HRES.out];exact own_base HO.out hz,below_on hbw hb3⟩
end Go.Proofs.YtjlfehpockfkdaaGreat
