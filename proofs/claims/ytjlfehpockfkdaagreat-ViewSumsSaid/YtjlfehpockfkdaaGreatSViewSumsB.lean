/-
  What the row of this claim stands on: VwRefB, VwLen, VwRefI, Mild, WrMsg, Nls, VwRefL, VwSpec.
-/
import Derived.Test.YtjlfehpockfkdaaGreatB01
import Derived.Lib.QuietBelow
import Derived.Lib.SlBytesConst
import Derived.Test.YtjlfehpockfkdaaGreatSViewSumsA
import Derived.Test.YtjlfehpockfkdaaGreatB02
namespace Go.Proofs.YtjlfehpockfkdaaGreat
open Go.RowKit Fb
set_option maxRecDepth 100000 in
set_option maxHeartbeats 12800000 in
theorem vformed_any(q:Vl)(w:World)(h:VwAt w q):Calls Tryz.prog 16 #[.agg (vwCells q)] w (Says (.bool (Vw.fmd q.vw)) w):=by
 have hF:Vw.fmd q.vw=((Ve.fmd q.k&&(Tr.fmd (q.z.map Zc.zn)&&(Sf.fmd q.h&&Ca.fmd (q.b.map Bc.b) q.r)))&&(q.z.all (fun z=>decide (Ve.stand (Ve.cnt z.l) (Ve.cnt q.k)=1))&&(q.h.all (Vw.has q.vw)&&q.b.all (fun z=>Vw.wants q.vw z.b)))):=by
  unfold Vw.fmd
  rw[show q.vw.z=q.z.map Zc.zn from rfl,show q.vw.b=q.b.map Bc.b from rfl,List.all_map,List.all_map]
  rfl
 have hZ:=fun wx (hb:Below w.heap.size w wx)=>(h.later hb).z
 have hVW:=fun wx (hb:Below w.heap.size w wx)=>h.later hb
 have c1:=fun wx (hb:Below w.heap.size w wx)=>rformed_any q.K q.ck q.k wx (h.later hb).k.len (h.later hb).k.stamps
 have c2:=fun wx (hb:Below w.heap.size w wx)=>zformed_any q.Z q.cz q.z wx (h.later hb).z
 have c3:=fun wx (hb:Below w.heap.size w wx)=>fformed_any q.H q.ch q.h wx (h.later hb).h
 have c4:=fun wx (hb:Below w.heap.size w wx)=>cformed_any q.B q.cb q.b q.r wx (h.later hb).b
 have c5:=fun wx (hb:Below w.heap.size w wx) y=>vreached_any q y wx (h.later hb)
 have c6:=fun wx (hb:Below w.heap.size w wx) X d x=>vwanted_any q X d x wx (h.later hb)
 have HP1:=Hd (fun (j:Nat) x (hx:q.z[j]?=some x) =>@Vw.all_at _ q.z (fun z=>decide (Ve.stand (Ve.cnt z.l) (Ve.cnt q.k)=1)) j x hx)
 have HY1:=Hd (Vw.all_to q.z (fun z=>decide (Ve.stand (Ve.cnt z.l) (Ve.cnt q.k)=1)))
 have HP2:=Hd (fun (j:Nat) x (hx:q.h[j]?=some x) =>@Vw.all_at _ q.h (Vw.has q.vw) j x hx)
 have HY2:=Hd (Vw.all_to q.h (Vw.has q.vw))
 have HP3:=Hd (fun (j:Nat) x (hx:q.b[j]?=some x) =>@Vw.all_at _ q.b (fun z=>Vw.wants q.vw z.b) j x hx)
 have HY3:=Hd (Vw.all_to q.b (fun z=>Vw.wants q.vw z.b))
 obtain⟨hv,hhv⟩:∃f,Vw.has q.vw=f:=⟨_,rfl⟩
 obtain⟨wa,hwa⟩:∃f,Vw.wants q.vw=f:=⟨_,rfl⟩
 rw[hhv]at hF c5 HP2 HY2
 rw[hwa]at hF c6 HP3 HY3
 obtain⟨t,ht⟩:∃t,Vw.fmd q.vw=t:=⟨_,rfl⟩
 rw[ht]at hF ⊢
 have HQ:=Hd hVW
 clear ht hhv hwa hZ hVW
 have hll:=(And.intro h.z.len (And.intro h.h.len h.b.len))
 clear h
 obtain⟨K,ck,kn,Z,cz,zs,H,ch,hs,B,cb,bs,room⟩:=q
 unfold vwCells at c5 c6 ⊢
 dsimp only at hF c1 c2 c3 c4 c5 c6 HP1 HY1 HP2 HY2 HP3 HY3 hll ⊢
 obtain⟨f1,hf1⟩:∃f,Ve.fmd kn=f:=⟨_,rfl⟩
 obtain⟨f2,hf2⟩:∃f,Tr.fmd (zs.map Zc.zn)=f:=⟨_,rfl⟩
 obtain⟨f3,hf3⟩:∃f,Sf.fmd hs=f:=⟨_,rfl⟩
 obtain⟨f4,hf4⟩:∃f,Ca.fmd (bs.map Bc.b) room=f:=⟨_,rfl⟩
 obtain⟨r1,hr1⟩:∃f,zs.all (fun z=>decide (Ve.stand (Ve.cnt z.l) (Ve.cnt kn)=1))=f:=⟨_,rfl⟩
 obtain⟨r2,hr2⟩:∃f,hs.all hv=f:=⟨_,rfl⟩
 obtain⟨r3,hr3⟩:∃f,bs.all (fun z=>wa z.b)=f:=⟨_,rfl⟩
 rw[hf1,hf2,hf3,hf4,hr1,hr2,hr3]at hF
 rw[hf1]at c1
 rw[hf2]at c2
 rw[hf3]at c3
 rw[hf4]at c4
 rw[hr1]at HP1 HY1
 rw[hr2]at HP2 HY2
 rw[hr3]at HP3 HY3
 have C1:=Hd c1
 have C2:=Hd c2
 have C3:=Hd c3
 have C4:=Hd c4
 have C5:=Hd c5
 have C6:=Hd c6
 have HT:=Hd hF
 have b0:=below_new (Below.refl w.heap.size w) (.cells #[.slice K kn.length ck,.slice Z zs.length cz,.slice H hs.length ch,.slice B bs.length cb,.int .i64 room] 27)
 have V0:=Blk.new w 27 #[.slice K kn.length ck,.slice Z zs.length cz,.slice H hs.length ch,.slice B bs.length cb,.int .i64 room]
 obtain⟨W,hW⟩:∃W,w.alloc (.cells #[.slice K kn.length ck,.slice Z zs.length cz,.slice H hs.length ch,.slice B bs.length cb,.int .i64 room] 27)=W:=⟨_,rfl⟩
 rw[hW]at b0 V0
 have HW:=Hd hW
 obtain⟨g,hg⟩:∃g,w.heap.size=g:=⟨_,rfl⟩
 rw[hg]at V0
 have HV:=Hd V0
 have B0:=Hd b0
 have hl1:=hll.1
 have hl2:=hll.2.1
 have hl3:=hll.2.2
 clear hll c1 c2 c3 c4 c5 c6 hF hf1 hf2 hf3 hf4 hr1 hr2 hr3 b0 V0 hW
 go_enter Tryz.func16,Tryz.ntmps16
 go_upto_region 1 with (fail)
 rw[HW.out]
 clear HW
 have v0:=HV.out.cell (i:=0) rfl
 go_wp2_with fail
 refine(C1.out W B0.out).mono ?_
 rintro e w1 ⟨rfl,b1⟩
 have B1:=Hd (below_on B0.out b1)
 have V1:=Hd (HV.out.later b1)
 have v1:=V1.out.cell (i:=1) rfl
 clear b1 v0 B0 HV C1
 cases f1 with
 |false=>
  obtain rfl:t=false:=HT.out
  go_wp2
  go_ret
  exact⟨rfl,B1.out⟩
 |true=>
 go_wp2_with fail
 refine(C2.out w1 B1.out).mono ?_
 rintro e w2 ⟨rfl,b2⟩
 have B2:=Hd (below_on B1.out b2)
 have V2:=Hd (V1.out.later b2)
 have v2:=V2.out.cell (i:=2) rfl
 clear b2 v1 B1 V1 C2
 cases f2 with
 |false=>
  obtain rfl:t=false:=HT.out
  go_wp2
  go_ret
  exact⟨rfl,B2.out⟩
 |true=>
 go_wp2_with fail
 refine(C3.out w2 B2.out).mono ?_
 rintro e w3 ⟨rfl,b3⟩
 have B3:=Hd (below_on B2.out b3)
 have V3:=Hd (V2.out.later b3)
 have v3:=V3.out.cell (i:=3) rfl
 have v4:=V3.out.cell (i:=4) rfl
 clear b3 v2 B2 V2 C3
 cases f3 with
 |false=>
  obtain rfl:t=false:=HT.out
  go_wp2
  go_ret
  exact⟨rfl,B3.out⟩
 |true=>
 go_wp2_with fail
 refine(C4.out w3 B3.out).mono ?_
 rintro e w4 ⟨rfl,b4⟩
 have B4:=Hd (below_on B3.out b4)
 have V4:=Hd (V3.out.later b4)
 clear b4 v3 v4 B3 V3 C4
 cases f4 with
 |false=>
  obtain rfl:t=false:=HT.out
  go_wp2
  go_ret
  exact⟨rfl,B4.out⟩
 |true=>
 have HT1:=Hd (show(r1&&(r2&&r3))=t from HT.out.symm)
 clear HT
 go_wp2_with fail
 go_loopw [3] (fun s3 wr=>∃k:Nat,k≤zs.length∧s3 = .int .i64 (k:Int)∧(∀(j:Nat) xe,j<k→zs[j]?=some xe→(decide (Ve.stand (Ve.cnt xe.l) (Ve.cnt kn)=1))=true)∧Below w4.heap.size w4 wr) (fun s3 _=>zs.length-(intOf s3).toNat)
 case atStart=>exact⟨0,Nat.zero_le _,rfl,(fun j xe hj=>by omega),Below.refl _ _⟩
 case round=>
  obtain⟨k,hk,rfl,hall,hbw⟩:=hrel
  have hv0:=V4.out.later hbw
  have v0:=hv0.cell (i:=0) rfl
  have v1:=hv0.cell (i:=1) rfl
  have hbb:=below_on B4.out hbw
  by_cases hlt:k<zs.length
  ·have hi0:(0:Int)≤(k:Int):=by omega
   have hi1:(k:Int)<(zs.length:Int):=by omega
   obtain⟨b,off,hA,hcs⟩:=(HQ.out wr hbb).z.at (fun e=>by rw[show zs=[] from e]at hlt;exact absurd hlt (Nat.not_lt_zero _))
   obtain⟨xe,hx⟩:∃xe,zs[k]?=some xe:=⟨_,List.getElem?_eq_getElem hlt⟩
   have HE:=Hd (hcs k xe hx)
   obtain⟨sd,hsd⟩:∃sd,Ve.stand (Ve.cnt xe.l) (Ve.cnt kn)=sd:=⟨_,rfl⟩
   have NC:=Hd (fun w' (hb:Below wr.heap.size wr w')=>show Calls Tryz.prog 57 #[.slice xe.X xe.l.length xe.c,.slice K kn.length ck] w' (Says (.int .i64 sd) w') from by
    have q1:OneL w' xe.X xe.c xe.l:=((HQ.out wr hbb).z.one hx).later hb
    have q2:OneL w' K ck kn:=(HQ.out w' (below_on hbb hb)).k
    rw[←hsd]
    exact rcompare2_any xe.X K xe.c ck xe.l kn w' q1.len q2.len q1.stamps q2.stamps)
   have hpp:=HP1.out k xe hx
   rw[hsd]at hpp
   have hqq:∀(j:Nat) y,j<k+1→zs[j]?=some y→sd=1→decide (Ve.stand (Ve.cnt y.l) (Ve.cnt kn)=1)=true:=fun j y hj hy h1=>by
    rcases Nat.lt_or_ge j k with h2|h2
    ·exact hall j y h2 hy
    ·obtain rfl:j=k:=by omega
     rw[hx]at hy
     injection hy with hy
     subst hy
     rw[hsd,h1]
     rfl
   have HPP:=Hd hpp
   have HQQ:=Hd hqq
   have BW:=Hd hbw
   have BB:=Hd hbb
   subst hA
   clear hv0 hbb hbw hall hcs hsd hpp hqq hx
   by_cases hs1:sd=1
   ·have HQ1:=Hd (fun j y h1 h2=>HQQ.out j y h1 h2 hs1)
    subst hs1
    clear HQQ HPP
    go_upto_region 6 with (fail)
    refine wp_region_facts 9 (by kernel_rfl) (by kernel_rfl)
     (fun v=>{ tmps:=#[.agg #[.slice K kn.length ck,.slice (some ⟨b,off,none⟩) zs.length cz,.slice H hs.length ch,.slice B bs.length cb,.int .i64 room],.pointer (some ⟨g,0,none⟩),u2,.int .i64 (k:Int),undef,undef,.pointer (some ⟨g,0,none⟩),.slice K kn.length ck,.bool true,.bool false,.bool false,.pointer (some ⟨g,1,none⟩),.slice (some ⟨b,off,none⟩) zs.length cz,.bool true,.bool false,.bool false,.bool false,.pointer (some ⟨g,2,none⟩),.slice H hs.length ch,.bool true,.bool false,.bool false,.bool false,.pointer (some ⟨g,3,none⟩),.slice B bs.length cb,.pointer (some ⟨g,4,none⟩),.int .i64 room,.bool true,.bool false,.bool false,.int .i64 (k:Int),.pointer (some ⟨g,1,none⟩),.slice (some ⟨b,off,none⟩) zs.length cz,.int .i64 (zs.length:Int),.bool true,u35,u36,v 0,v 1,v 2,v 3,v 4,v 5,v 6,v 7,v 8,u46,undef,undef,undef,undef,undef,undef,undef,undef,undef,undef,undef,undef,undef,undef,undef,undef,undef,undef,undef,undef,undef,undef,undef,undef,undef,undef,undef,undef,undef,undef],defers:=[] }) (fun i=>match i with|0=>u37|1=>u38|2=>u39|3=>u40|4=>u41|5=>u42|6=>u43|7=>u44|8=>u45|_=>undef)
     (fun i x wx=>match i with
      |0=>x = .pointer (some ⟨g,1,none⟩)
      |1=>x = .slice (some ⟨b,off,none⟩) zs.length cz
      |2=>x = .int .i64 (k:Int)
      |3=>x = .pointer (some ⟨b,off+k*3,none⟩)
      |4=>x = .pointer (some ⟨b,off+k*3+2,none⟩)
      |5=>x = .slice xe.X xe.l.length xe.c
      |6=>x = .pointer (some ⟨g,0,none⟩)
      |7=>x = .slice K kn.length ck
      |8=>x = .int .i64 1
      |_=>True)
     (fun w1 w2=>Below w1.heap.size w1 w2) (fun h1 h2=>below_on h1 h2) (fun _=>Below.refl _ _) (Below.drew (Below.refl _ _)) ?stabA ?stepA ?doneA
    case stabA=>
     rintro i x w1 w2 h hb
     match i,h with
     |0,h=>exact h
     |1,h=>exact h
     |2,h=>exact h
     |3,h=>exact h
     |4,h=>exact h
     |5,h=>exact h
     |6,h=>exact h
     |7,h=>exact h
     |8,h=>exact h
     |i+9,_=>trivial
    case stepA=>
     intro i hi v w' hb hd
     match i,hi with
     |0,_=>
      refine wpOp_oneH rfl fun KK HKK =>?_
      clear hd
      go_wp2
      exact HKK.out _ _ ⟨_,(by simp[upd];done),Below.refl _ _,rfl⟩
     |1,_=>
      have h0:v 0=_:=hdx hd 0 (by kernel_rfl)
      refine wpOp_oneH rfl fun KK HKK =>?_
      clear hd
      rw[h0]
      have q0:=cell_later hb v1
      go_wp2
      exact HKK.out _ _ ⟨_,(by simp[upd,h0];done),Below.refl _ _,rfl⟩
     |2,_=>
      refine wpOp_oneH rfl fun KK HKK =>?_
      clear hd
      go_wp2
      exact HKK.out _ _ ⟨_,(by simp[upd];done),Below.refl _ _,rfl⟩
     |3,_=>
      have h1:v 1=_:=hdx hd 1 (by kernel_rfl)
      have h2:v 2=_:=hdx hd 2 (by kernel_rfl)
      refine wpOp_oneH rfl fun KK HKK =>?_
      clear hd
      rw[h1,h2]
      go_wp2
      exact HKK.out _ _ ⟨_,(by simp[upd,h1,h2];done),Below.refl _ _,rfl⟩
     |4,_=>
      have h3:v 3=_:=hdx hd 3 (by kernel_rfl)
      refine wpOp_oneH rfl fun KK HKK =>?_
      clear hd
      rw[h3]
      go_wp2
      exact HKK.out _ _ ⟨_,(by simp[upd,h3];done),Below.refl _ _,rfl⟩
     |5,_=>
      have h4:v 4=_:=hdx hd 4 (by kernel_rfl)
      refine wpOp_oneH rfl fun KK HKK =>?_
      clear hd
      rw[h4]
      have q0:=cell_later hb HE.out.2.2
      go_wp2
      exact HKK.out _ _ ⟨_,(by simp[upd,h4];done),Below.refl _ _,rfl⟩
     |6,_=>
      refine wpOp_oneH rfl fun KK HKK =>?_
      clear hd
      go_wp2
      exact HKK.out _ _ ⟨_,(by simp[upd];done),Below.refl _ _,rfl⟩
     |7,_=>
      have h6:v 6=_:=hdx hd 6 (by kernel_rfl)
      refine wpOp_oneH rfl fun KK HKK =>?_
      clear hd
      rw[h6]
      have q0:=cell_later hb v0
      go_wp2
      exact HKK.out _ _ ⟨_,(by simp[upd,h6];done),Below.refl _ _,rfl⟩
     |8,_=>
      have h5:v 5=_:=hdx hd 5 (by kernel_rfl)
      have h7:v 7=_:=hdx hd 7 (by kernel_rfl)
      refine wpOp_oneH rfl fun KK HKK =>?_
      clear hd
      rw[h5,h7]
      go_wp2_with fail
      refine(NC.out _ hb).mono ?_
      rintro e w'' ⟨rfl,b⟩
      go_wp2
      exact HKK.out _ _ ⟨_,(by simp[upd,h5,h7];done),b,rfl⟩
     |k+9,hk=>exact absurd hk (by omega)
    case doneA=>
     intro v w5 hb hf
     have h8:v 8=_:=hf 8 (by decide)
     clear hf
     rw[h8]
     have BW2:=Hd (below_on BW.out hb)
     clear hb NC HE
     go_wp2_with fail
     go_roundw
     case rel=>exact⟨k+1,by omega,by go_num,HQ1.out,BW2.out⟩
     case measure=>simp[intOf];omega
   ·have hd1:(sd == 1)=false:=beq_eq_false_iff_ne.2 hs1
    have hd2:decide (sd=1)=false:=decide_eq_false hs1
    obtain rfl:r1=false:=HPP.out hd2
    obtain rfl:t=false:=HT1.out.symm
    clear HQQ HPP
    go_upto_region 6 with (fail)
    refine wp_region_facts 9 (by kernel_rfl) (by kernel_rfl)
     (fun v=>{ tmps:=#[.agg #[.slice K kn.length ck,.slice (some ⟨b,off,none⟩) zs.length cz,.slice H hs.length ch,.slice B bs.length cb,.int .i64 room],.pointer (some ⟨g,0,none⟩),u2,.int .i64 (k:Int),undef,undef,.pointer (some ⟨g,0,none⟩),.slice K kn.length ck,.bool true,.bool false,.bool false,.pointer (some ⟨g,1,none⟩),.slice (some ⟨b,off,none⟩) zs.length cz,.bool true,.bool false,.bool false,.bool false,.pointer (some ⟨g,2,none⟩),.slice H hs.length ch,.bool true,.bool false,.bool false,.bool false,.pointer (some ⟨g,3,none⟩),.slice B bs.length cb,.pointer (some ⟨g,4,none⟩),.int .i64 room,.bool true,.bool false,.bool false,.int .i64 (k:Int),.pointer (some ⟨g,1,none⟩),.slice (some ⟨b,off,none⟩) zs.length cz,.int .i64 (zs.length:Int),.bool true,u35,u36,v 0,v 1,v 2,v 3,v 4,v 5,v 6,v 7,v 8,u46,undef,undef,undef,undef,undef,undef,undef,undef,undef,undef,undef,undef,undef,undef,undef,undef,undef,undef,undef,undef,undef,undef,undef,undef,undef,undef,undef,undef,undef,undef],defers:=[] }) (fun i=>match i with|0=>u37|1=>u38|2=>u39|3=>u40|4=>u41|5=>u42|6=>u43|7=>u44|8=>u45|_=>undef)
     (fun i x wx=>match i with
      |0=>x = .pointer (some ⟨g,1,none⟩)
      |1=>x = .slice (some ⟨b,off,none⟩) zs.length cz
      |2=>x = .int .i64 (k:Int)
      |3=>x = .pointer (some ⟨b,off+k*3,none⟩)
      |4=>x = .pointer (some ⟨b,off+k*3+2,none⟩)
      |5=>x = .slice xe.X xe.l.length xe.c
      |6=>x = .pointer (some ⟨g,0,none⟩)
      |7=>x = .slice K kn.length ck
      |8=>x = .int .i64 sd
      |_=>True)
     (fun w1 w2=>Below w1.heap.size w1 w2) (fun h1 h2=>below_on h1 h2) (fun _=>Below.refl _ _) (Below.drew (Below.refl _ _)) ?stabB ?stepB ?doneB
    case stabB=>
     rintro i x w1 w2 h hb
     match i,h with
     |0,h=>exact h
     |1,h=>exact h
     |2,h=>exact h
     |3,h=>exact h
     |4,h=>exact h
     |5,h=>exact h
     |6,h=>exact h
     |7,h=>exact h
     |8,h=>exact h
     |i+9,_=>trivial
    case stepB=>
     intro i hi v w' hb hd
     match i,hi with
     |0,_=>
      refine wpOp_oneH rfl fun KK HKK =>?_
      clear hd
      go_wp2
      exact HKK.out _ _ ⟨_,(by simp[upd];done),Below.refl _ _,rfl⟩
     |1,_=>
      have h0:v 0=_:=hdx hd 0 (by kernel_rfl)
      refine wpOp_oneH rfl fun KK HKK =>?_
      clear hd
      rw[h0]
      have q0:=cell_later hb v1
      go_wp2
      exact HKK.out _ _ ⟨_,(by simp[upd,h0];done),Below.refl _ _,rfl⟩
     |2,_=>
      refine wpOp_oneH rfl fun KK HKK =>?_
      clear hd
      go_wp2
      exact HKK.out _ _ ⟨_,(by simp[upd];done),Below.refl _ _,rfl⟩
     |3,_=>
      have h1:v 1=_:=hdx hd 1 (by kernel_rfl)
      have h2:v 2=_:=hdx hd 2 (by kernel_rfl)
      refine wpOp_oneH rfl fun KK HKK =>?_
      clear hd
      rw[h1,h2]
      go_wp2
      exact HKK.out _ _ ⟨_,(by simp[upd,h1,h2];done),Below.refl _ _,rfl⟩
     |4,_=>
      have h3:v 3=_:=hdx hd 3 (by kernel_rfl)
      refine wpOp_oneH rfl fun KK HKK =>?_
      clear hd
      rw[h3]
      go_wp2
      exact HKK.out _ _ ⟨_,(by simp[upd,h3];done),Below.refl _ _,rfl⟩
     |5,_=>
      have h4:v 4=_:=hdx hd 4 (by kernel_rfl)
      refine wpOp_oneH rfl fun KK HKK =>?_
      clear hd
      rw[h4]
      have q0:=cell_later hb HE.out.2.2
      go_wp2
      exact HKK.out _ _ ⟨_,(by simp[upd,h4];done),Below.refl _ _,rfl⟩
     |6,_=>
      refine wpOp_oneH rfl fun KK HKK =>?_
      clear hd
      go_wp2
      exact HKK.out _ _ ⟨_,(by simp[upd];done),Below.refl _ _,rfl⟩
     |7,_=>
      have h6:v 6=_:=hdx hd 6 (by kernel_rfl)
      refine wpOp_oneH rfl fun KK HKK =>?_
      clear hd
      rw[h6]
      have q0:=cell_later hb v0
      go_wp2
      exact HKK.out _ _ ⟨_,(by simp[upd,h6];done),Below.refl _ _,rfl⟩
     |8,_=>
      have h5:v 5=_:=hdx hd 5 (by kernel_rfl)
      have h7:v 7=_:=hdx hd 7 (by kernel_rfl)
      refine wpOp_oneH rfl fun KK HKK =>?_
      clear hd
      rw[h5,h7]
      go_wp2_with fail
      refine(NC.out _ hb).mono ?_
      rintro e w'' ⟨rfl,b⟩
      go_wp2
      exact HKK.out _ _ ⟨_,(by simp[upd,h5,h7];done),b,rfl⟩
     |k+9,hk=>exact absurd hk (by omega)
    case doneB=>
     intro v w5 hb hf
     have h8:v 8=_:=hf 8 (by decide)
     clear hf
     rw[h8]
     have BB2:=Hd (below_on BB.out hb)
     clear hb NC HE
     go_wp2
     go_ret
     exact⟨rfl,BB2.out⟩
  obtain rfl:k=zs.length:=by omega
  have hd0:decide ((zs.length:Int)<(zs.length:Int))=false:=decide_eq_false (by omega)
  obtain rfl:r1=true:=HY1.out (fun j xe hx=>hall j xe (by have:=(List.getElem?_eq_some_iff.1 hx).1;omega) hx)
  have B5:=Hd hbb
  have V5:=Hd hv0
  have HT2:=Hd (show(r2&&r3)=t from HT1.out)
  clear HT1
  have HT1:=HT2
  clear HT2 hall hbw hbb hv0 B4 V4 HY1 HP1
  rename World=>w5
  go_wp2_with fail
  clear v0 v1 hd0 hlt hk
  go_loopw [4] (fun s4 wr=>∃k:Nat,k≤hs.length∧s4 = .int .i64 (k:Int)∧(∀(j:Nat) xe,j<k→hs[j]?=some xe→(hv xe)=true)∧Below w5.heap.size w5 wr) (fun s4 _=>hs.length-(intOf s4).toNat)
  case atStart=>exact⟨0,Nat.zero_le _,rfl,(fun j xe hj=>by omega),Below.refl _ _⟩
  case round=>
   obtain⟨k,hk,rfl,hall,hbw⟩:=hrel
   have hv0:=V5.out.later hbw
   have v0:=hv0.cell (i:=0) rfl
   have v1:=hv0.cell (i:=1) rfl
   have v2:=hv0.cell (i:=2) rfl
   have v3:=hv0.cell (i:=3) rfl
   have v4:=hv0.cell (i:=4) rfl
   have hbb:=below_on B5.out hbw
   by_cases hlt:k<hs.length
   ·have hi0:(0:Int)≤(k:Int):=by omega
    have hi1:(k:Int)<(hs.length:Int):=by omega
    obtain⟨b,off,hA,hcs⟩:=(HQ.out wr hbb).h.at (fun e=>by rw[show hs=[] from e]at hlt;exact absurd hlt (Nat.not_lt_zero _))
    obtain⟨xe,hxx⟩:∃xe,hs.getD k Nt.zeroW=xe:=⟨_,rfl⟩
    have hx:hs[k]?=some xe:=by
     rw[←hxx,List.getD_eq_getElem?_getD,List.getElem?_eq_getElem hlt]
     rfl
    have hcx:=hcs k hlt
    dsimp only at hcx
    rw[hxx]at hcx
    have HE:=Hd hcx
    obtain⟨sd,hsd⟩:∃sd,hv xe=sd:=⟨_,rfl⟩
    have NC:=Hd (fun w' (hb:Below wr.heap.size wr w')=>show Calls Tryz.prog 58 #[.agg #[.slice K kn.length ck,.slice Z zs.length cz,.slice H hs.length ch,.slice B bs.length cb,.int .i64 room],.agg #[.int .i64 xe.1,.int .i64 xe.2.1,.int .i64 xe.2.2.1,.bool xe.2.2.2]] w' (Says (.bool sd) w') from by
     rw[←hsd]
     exact C5.out w' (below_on hbb hb) xe)
    have hpp:=HP2.out k xe hx
    rw[show(hv xe)=sd from hsd]at hpp
    have hqq:∀(j:Nat) y,j<k+1→hs[j]?=some y→sd=true→(hv y)=true:=fun j y hj hy h1=>by
     rcases Nat.lt_or_ge j k with h2|h2
     ·exact hall j y h2 hy
     ·obtain rfl:j=k:=by omega
      rw[hx]at hy
      injection hy with hy
      subst hy
      exact hsd.trans h1
    have HPP:=Hd hpp
    have HQQ:=Hd hqq
    have BW:=Hd hbw
    have BB:=Hd hbb
    subst hA
    clear hv0 hbb hbw hall hcs hcx hxx hsd hpp hqq hx
    cases sd with
    |true=>
     have HQ1:=Hd (fun j y h1 h2=>HQQ.out j y h1 h2 rfl)
     clear HQQ HPP
     go_upto_region 11 with (fail)
     refine wp_region_facts 7 (by kernel_rfl) (by kernel_rfl)
      (fun v=>{ tmps:=#[.agg #[.slice K kn.length ck,.slice Z zs.length cz,.slice (some ⟨b,off,none⟩) hs.length ch,.slice B bs.length cb,.int .i64 room],.pointer (some ⟨g,0,none⟩),u2,.int .i64 (zs.length:Int),.int .i64 (k:Int),undef,.pointer (some ⟨g,0,none⟩),.slice K kn.length ck,.bool true,.bool false,.bool false,.pointer (some ⟨g,1,none⟩),.slice Z zs.length cz,.bool true,.bool false,.bool false,.bool false,.pointer (some ⟨g,2,none⟩),.slice (some ⟨b,off,none⟩) hs.length ch,.bool true,.bool false,.bool false,.bool false,.pointer (some ⟨g,3,none⟩),.slice B bs.length cb,.pointer (some ⟨g,4,none⟩),.int .i64 room,.bool true,.bool false,.bool false,.int .i64 (zs.length:Int),.pointer (some ⟨g,1,none⟩),.slice Z zs.length cz,.int .i64 (zs.length:Int),.bool false,u35,u36,u37,u38,u39,u40,u41,u42,u43,u44,u45,u46,.int .i64 (k:Int),.pointer (some ⟨g,2,none⟩),.slice (some ⟨b,off,none⟩) hs.length ch,.int .i64 (hs.length:Int),.bool true,u52,u53,v 0,v 1,v 2,v 3,v 4,v 5,v 6,u61,undef,undef,undef,undef,undef,undef,undef,undef,undef,undef,undef,undef,undef,undef,undef],defers:=[] }) (fun i=>match i with|0=>u54|1=>u55|2=>u56|3=>u57|4=>u58|5=>u59|6=>u60|_=>undef)
      (fun i x wx=>match i with
       |0=>x = .agg #[.slice K kn.length ck,.slice Z zs.length cz,.slice (some ⟨b,off,none⟩) hs.length ch,.slice B bs.length cb,.int .i64 room]
       |1=>x = .pointer (some ⟨g,2,none⟩)
       |2=>x = .slice (some ⟨b,off,none⟩) hs.length ch
       |3=>x = .int .i64 (k:Int)
       |4=>x = .pointer (some ⟨b,off+k*4,none⟩)
       |5=>x = .agg #[.int .i64 xe.1,.int .i64 xe.2.1,.int .i64 xe.2.2.1,.bool xe.2.2.2]
       |6=>x = .bool true
       |_=>True)
      (fun w1 w2=>Below w1.heap.size w1 w2) (fun h1 h2=>below_on h1 h2) (fun _=>Below.refl _ _) (Below.drew (Below.refl _ _)) ?stabC ?stepC ?doneC
     case stabC=>
      rintro i x w1 w2 h hb
      match i,h with
      |0,h=>exact h
      |1,h=>exact h
      |2,h=>exact h
      |3,h=>exact h
      |4,h=>exact h
      |5,h=>exact h
      |6,h=>exact h
      |i+7,_=>trivial
     case stepC=>
      intro i hi v w' hb hd
      match i,hi with
      |0,_=>
       refine wpOp_oneH rfl fun KK HKK =>?_
       clear hd
       have q0:=cell_later hb v0
       have q1:=cell_later hb v1
       have q2:=cell_later hb v2
       have q3:=cell_later hb v3
       have q4:=cell_later hb v4
       go_wp2
       exact HKK.out _ _ ⟨_,(by simp[upd];done),Below.refl _ _,rfl⟩
      |1,_=>
       refine wpOp_oneH rfl fun KK HKK =>?_
       clear hd
       go_wp2
       exact HKK.out _ _ ⟨_,(by simp[upd];done),Below.refl _ _,rfl⟩
      |2,_=>
       have h1:v 1=_:=hdx hd 1 (by kernel_rfl)
       refine wpOp_oneH rfl fun KK HKK =>?_
       clear hd
       rw[h1]
       have q0:=cell_later hb v2
       go_wp2
       exact HKK.out _ _ ⟨_,(by simp[upd,h1];done),Below.refl _ _,rfl⟩
      |3,_=>
       refine wpOp_oneH rfl fun KK HKK =>?_
       clear hd
       go_wp2
       exact HKK.out _ _ ⟨_,(by simp[upd];done),Below.refl _ _,rfl⟩
      |4,_=>
       have h2:v 2=_:=hdx hd 2 (by kernel_rfl)
       have h3:v 3=_:=hdx hd 3 (by kernel_rfl)
       refine wpOp_oneH rfl fun KK HKK =>?_
       clear hd
       rw[h2,h3]
       go_wp2
       exact HKK.out _ _ ⟨_,(by simp[upd,h2,h3];done),Below.refl _ _,rfl⟩
      |5,_=>
       have h4:v 4=_:=hdx hd 4 (by kernel_rfl)
       refine wpOp_oneH rfl fun KK HKK =>?_
       clear hd
       rw[h4]
       have q0:=cell_later hb HE.out.1
       have q1:=cell_later hb HE.out.2.1
       have q2:=cell_later hb HE.out.2.2.1
       have q3:=cell_later hb HE.out.2.2.2
       go_wp2
       exact HKK.out _ _ ⟨_,(by simp[upd,h4];done),Below.refl _ _,rfl⟩
      |6,_=>
       have h0:v 0=_:=hdx hd 0 (by kernel_rfl)
       have h5:v 5=_:=hdx hd 5 (by kernel_rfl)
       refine wpOp_oneH rfl fun KK HKK =>?_
       clear hd
       rw[h0,h5]
       go_wp2_with fail
       refine(NC.out _ hb).mono ?_
       rintro e w'' ⟨rfl,b⟩
       go_wp2
       exact HKK.out _ _ ⟨_,(by simp[upd,h0,h5];done),b,rfl⟩
      |k+7,hk=>exact absurd hk (by omega)
     case doneC=>
      intro v w5 hb hf
      have h6:v 6=_:=hf 6 (by decide)
      clear hf
      rw[h6]
      have BW2:=Hd (below_on BW.out hb)
      clear hb NC HE
      go_wp2_with fail
      go_roundw
      case rel=>exact⟨k+1,by omega,by go_num,HQ1.out,BW2.out⟩
      case measure=>simp[intOf];omega
    |false=>
     obtain rfl:r2=false:=HPP.out rfl
     obtain rfl:t=false:=HT1.out.symm
     clear HQQ HPP
     go_upto_region 11 with (fail)
     refine wp_region_facts 7 (by kernel_rfl) (by kernel_rfl)
      (fun v=>{ tmps:=#[.agg #[.slice K kn.length ck,.slice Z zs.length cz,.slice (some ⟨b,off,none⟩) hs.length ch,.slice B bs.length cb,.int .i64 room],.pointer (some ⟨g,0,none⟩),u2,.int .i64 (zs.length:Int),.int .i64 (k:Int),undef,.pointer (some ⟨g,0,none⟩),.slice K kn.length ck,.bool true,.bool false,.bool false,.pointer (some ⟨g,1,none⟩),.slice Z zs.length cz,.bool true,.bool false,.bool false,.bool false,.pointer (some ⟨g,2,none⟩),.slice (some ⟨b,off,none⟩) hs.length ch,.bool true,.bool false,.bool false,.bool false,.pointer (some ⟨g,3,none⟩),.slice B bs.length cb,.pointer (some ⟨g,4,none⟩),.int .i64 room,.bool true,.bool false,.bool false,.int .i64 (zs.length:Int),.pointer (some ⟨g,1,none⟩),.slice Z zs.length cz,.int .i64 (zs.length:Int),.bool false,u35,u36,u37,u38,u39,u40,u41,u42,u43,u44,u45,u46,.int .i64 (k:Int),.pointer (some ⟨g,2,none⟩),.slice (some ⟨b,off,none⟩) hs.length ch,.int .i64 (hs.length:Int),.bool true,u52,u53,v 0,v 1,v 2,v 3,v 4,v 5,v 6,u61,undef,undef,undef,undef,undef,undef,undef,undef,undef,undef,undef,undef,undef,undef,undef],defers:=[] }) (fun i=>match i with|0=>u54|1=>u55|2=>u56|3=>u57|4=>u58|5=>u59|6=>u60|_=>undef)
      (fun i x wx=>match i with
       |0=>x = .agg #[.slice K kn.length ck,.slice Z zs.length cz,.slice (some ⟨b,off,none⟩) hs.length ch,.slice B bs.length cb,.int .i64 room]
       |1=>x = .pointer (some ⟨g,2,none⟩)
       |2=>x = .slice (some ⟨b,off,none⟩) hs.length ch
       |3=>x = .int .i64 (k:Int)
       |4=>x = .pointer (some ⟨b,off+k*4,none⟩)
       |5=>x = .agg #[.int .i64 xe.1,.int .i64 xe.2.1,.int .i64 xe.2.2.1,.bool xe.2.2.2]
       |6=>x = .bool false
       |_=>True)
      (fun w1 w2=>Below w1.heap.size w1 w2) (fun h1 h2=>below_on h1 h2) (fun _=>Below.refl _ _) (Below.drew (Below.refl _ _)) ?stabD ?stepD ?doneD
     case stabD=>
      rintro i x w1 w2 h hb
      match i,h with
      |0,h=>exact h
      |1,h=>exact h
      |2,h=>exact h
      |3,h=>exact h
      |4,h=>exact h
      |5,h=>exact h
      |6,h=>exact h
      |i+7,_=>trivial
     case stepD=>
      intro i hi v w' hb hd
      match i,hi with
      |0,_=>
       refine wpOp_oneH rfl fun KK HKK =>?_
       clear hd
       have q0:=cell_later hb v0
       have q1:=cell_later hb v1
       have q2:=cell_later hb v2
       have q3:=cell_later hb v3
       have q4:=cell_later hb v4
       go_wp2
       exact HKK.out _ _ ⟨_,(by simp[upd];done),Below.refl _ _,rfl⟩
      |1,_=>
       refine wpOp_oneH rfl fun KK HKK =>?_
       clear hd
       go_wp2
       exact HKK.out _ _ ⟨_,(by simp[upd];done),Below.refl _ _,rfl⟩
      |2,_=>
       have h1:v 1=_:=hdx hd 1 (by kernel_rfl)
       refine wpOp_oneH rfl fun KK HKK =>?_
       clear hd
       rw[h1]
       have q0:=cell_later hb v2
       go_wp2
       exact HKK.out _ _ ⟨_,(by simp[upd,h1];done),Below.refl _ _,rfl⟩
      |3,_=>
       refine wpOp_oneH rfl fun KK HKK =>?_
       clear hd
       go_wp2
       exact HKK.out _ _ ⟨_,(by simp[upd];done),Below.refl _ _,rfl⟩
      |4,_=>
       have h2:v 2=_:=hdx hd 2 (by kernel_rfl)
       have h3:v 3=_:=hdx hd 3 (by kernel_rfl)
       refine wpOp_oneH rfl fun KK HKK =>?_
       clear hd
       rw[h2,h3]
       go_wp2
       exact HKK.out _ _ ⟨_,(by simp[upd,h2,h3];done),Below.refl _ _,rfl⟩
      |5,_=>
       have h4:v 4=_:=hdx hd 4 (by kernel_rfl)
       refine wpOp_oneH rfl fun KK HKK =>?_
       clear hd
       rw[h4]
       have q0:=cell_later hb HE.out.1
       have q1:=cell_later hb HE.out.2.1
       have q2:=cell_later hb HE.out.2.2.1
       have q3:=cell_later hb HE.out.2.2.2
       go_wp2
       exact HKK.out _ _ ⟨_,(by simp[upd,h4];done),Below.refl _ _,rfl⟩
      |6,_=>
       have h0:v 0=_:=hdx hd 0 (by kernel_rfl)
       have h5:v 5=_:=hdx hd 5 (by kernel_rfl)
       refine wpOp_oneH rfl fun KK HKK =>?_
       clear hd
       rw[h0,h5]
       go_wp2_with fail
       refine(NC.out _ hb).mono ?_
       rintro e w'' ⟨rfl,b⟩
       go_wp2
       exact HKK.out _ _ ⟨_,(by simp[upd,h0,h5];done),b,rfl⟩
      |k+7,hk=>exact absurd hk (by omega)
     case doneD=>
      intro v w5 hb hf
      have h6:v 6=_:=hf 6 (by decide)
      clear hf
      rw[h6]
      have BB2:=Hd (below_on BB.out hb)
      clear hb NC HE
      go_wp2
      go_ret
      exact⟨rfl,BB2.out⟩
   obtain rfl:k=hs.length:=by omega
   have hd0:decide ((hs.length:Int)<(hs.length:Int))=false:=decide_eq_false (by omega)
   obtain rfl:r2=true:=HY2.out (fun j xe hx=>hall j xe (by have:=(List.getElem?_eq_some_iff.1 hx).1;omega) hx)
   have B6:=Hd hbb
   have V6:=Hd hv0
   have HT2:=Hd (show(r3)=t from HT1.out)
   clear HT1
   have HT1:=HT2
   clear HT2 hall hbw hbb hv0 B5 V5 HY2 HP2
   rename World=>w6
   go_wp2_with fail
   clear v0 v1 v2 v3 v4 hd0 hlt hk
   go_loopw [5] (fun s5 wr=>∃k:Nat,k≤bs.length∧s5 = .int .i64 (k:Int)∧(∀(j:Nat) xe,j<k→bs[j]?=some xe→(wa xe.b)=true)∧Below w6.heap.size w6 wr) (fun s5 _=>bs.length-(intOf s5).toNat)
   case atStart=>exact⟨0,Nat.zero_le _,rfl,(fun j xe hj=>by omega),Below.refl _ _⟩
   case round=>
    obtain⟨k,hk,rfl,hall,hbw⟩:=hrel
    have hv0:=V6.out.later hbw
    have v0:=hv0.cell (i:=0) rfl
    have v1:=hv0.cell (i:=1) rfl
    have v2:=hv0.cell (i:=2) rfl
    have v3:=hv0.cell (i:=3) rfl
    have v4:=hv0.cell (i:=4) rfl
    have hbb:=below_on B6.out hbw
    by_cases hlt:k<bs.length
    ·have hi0:(0:Int)≤(k:Int):=by omega
     have hi1:(k:Int)<(bs.length:Int):=by omega
     obtain⟨b,off,hA,hcs⟩:=(HQ.out wr hbb).b.at (fun e=>by rw[show bs=[] from e]at hlt;exact absurd hlt (Nat.not_lt_zero _))
     obtain⟨xe,hxx⟩:∃xe,bs.getD k Bc.zero=xe:=⟨_,rfl⟩
     have hx:bs[k]?=some xe:=by
      rw[←hxx,List.getD_eq_getElem?_getD,List.getElem?_eq_getElem hlt]
      rfl
     have hcx:=hcs k hlt
     dsimp only at hcx
     rw[hxx]at hcx
     have HE:=Hd hcx
     obtain⟨sd,hsd⟩:∃sd,wa xe.b=sd:=⟨_,rfl⟩
     have NC:=Hd (fun w' (hb:Below wr.heap.size wr w')=>show Calls Tryz.prog 59 #[.agg #[.slice K kn.length ck,.slice Z zs.length cz,.slice H hs.length ch,.slice B bs.length cb,.int .i64 room],.agg #[.int .i64 xe.b.o,.int .i64 xe.b.c,.int .i64 xe.b.n,.slice xe.X xe.b.v.length xe.d]] w' (Says (.bool sd) w') from by
      rw[←hsd]
      exact C6.out w' (below_on hbb hb) xe.X xe.d xe.b)
     have hpp:=HP3.out k xe hx
     rw[show(wa xe.b)=sd from hsd]at hpp
     have hqq:∀(j:Nat) y,j<k+1→bs[j]?=some y→sd=true→(wa y.b)=true:=fun j y hj hy h1=>by
      rcases Nat.lt_or_ge j k with h2|h2
      ·exact hall j y h2 hy
      ·obtain rfl:j=k:=by omega
       rw[hx]at hy
       injection hy with hy
       subst hy
       exact hsd.trans h1
     have HPP:=Hd hpp
     have HQQ:=Hd hqq
     have BW:=Hd hbw
     have BB:=Hd hbb
     subst hA
     clear hv0 hbb hbw hall hcs hcx hxx hsd hpp hqq hx
     cases sd with
     |true=>
      have HQ1:=Hd (fun j y h1 h2=>HQQ.out j y h1 h2 rfl)
      clear HQQ HPP
      go_upto_region 16 with (fail)
      refine wp_region_facts 7 (by kernel_rfl) (by kernel_rfl)
       (fun v=>{ tmps:=#[.agg #[.slice K kn.length ck,.slice Z zs.length cz,.slice H hs.length ch,.slice (some ⟨b,off,none⟩) bs.length cb,.int .i64 room],.pointer (some ⟨g,0,none⟩),u2,.int .i64 (zs.length:Int),.int .i64 (hs.length:Int),.int .i64 (k:Int),.pointer (some ⟨g,0,none⟩),.slice K kn.length ck,.bool true,.bool false,.bool false,.pointer (some ⟨g,1,none⟩),.slice Z zs.length cz,.bool true,.bool false,.bool false,.bool false,.pointer (some ⟨g,2,none⟩),.slice H hs.length ch,.bool true,.bool false,.bool false,.bool false,.pointer (some ⟨g,3,none⟩),.slice (some ⟨b,off,none⟩) bs.length cb,.pointer (some ⟨g,4,none⟩),.int .i64 room,.bool true,.bool false,.bool false,.int .i64 (zs.length:Int),.pointer (some ⟨g,1,none⟩),.slice Z zs.length cz,.int .i64 (zs.length:Int),.bool false,u35,u36,u37,u38,u39,u40,u41,u42,u43,u44,u45,u46,.int .i64 (hs.length:Int),.pointer (some ⟨g,2,none⟩),.slice H hs.length ch,.int .i64 (hs.length:Int),.bool false,u52,u53,u54,u55,u56,u57,u58,u59,u60,u61,.int .i64 (k:Int),.pointer (some ⟨g,3,none⟩),.slice (some ⟨b,off,none⟩) bs.length cb,.int .i64 (bs.length:Int),.bool true,u67,u68,v 0,v 1,v 2,v 3,v 4,v 5,v 6,u76],defers:=[] }) (fun i=>match i with|0=>u69|1=>u70|2=>u71|3=>u72|4=>u73|5=>u74|6=>u75|_=>undef)
       (fun i x wx=>match i with
        |0=>x = .agg #[.slice K kn.length ck,.slice Z zs.length cz,.slice H hs.length ch,.slice (some ⟨b,off,none⟩) bs.length cb,.int .i64 room]
        |1=>x = .pointer (some ⟨g,3,none⟩)
        |2=>x = .slice (some ⟨b,off,none⟩) bs.length cb
        |3=>x = .int .i64 (k:Int)
        |4=>x = .pointer (some ⟨b,off+k*4,none⟩)
        |5=>x = .agg #[.int .i64 xe.b.o,.int .i64 xe.b.c,.int .i64 xe.b.n,.slice xe.X xe.b.v.length xe.d]
        |6=>x = .bool true
        |_=>True)
       (fun w1 w2=>Below w1.heap.size w1 w2) (fun h1 h2=>below_on h1 h2) (fun _=>Below.refl _ _) (Below.drew (Below.refl _ _)) ?stabE ?stepE ?doneE
      case stabE=>
       rintro i x w1 w2 h hb
       match i,h with
       |0,h=>exact h
       |1,h=>exact h
       |2,h=>exact h
       |3,h=>exact h
       |4,h=>exact h
       |5,h=>exact h
       |6,h=>exact h
       |i+7,_=>trivial
      case stepE=>
       intro i hi v w' hb hd
       match i,hi with
       |0,_=>
        refine wpOp_oneH rfl fun KK HKK =>?_
        clear hd
        have q0:=cell_later hb v0
        have q1:=cell_later hb v1
        have q2:=cell_later hb v2
        have q3:=cell_later hb v3
        have q4:=cell_later hb v4
        go_wp2
        exact HKK.out _ _ ⟨_,(by simp[upd];done),Below.refl _ _,rfl⟩
       |1,_=>
        refine wpOp_oneH rfl fun KK HKK =>?_
        clear hd
        go_wp2
        exact HKK.out _ _ ⟨_,(by simp[upd];done),Below.refl _ _,rfl⟩
       |2,_=>
        have h1:v 1=_:=hdx hd 1 (by kernel_rfl)
        refine wpOp_oneH rfl fun KK HKK =>?_
        clear hd
        rw[h1]
        have q0:=cell_later hb v3
        go_wp2
        exact HKK.out _ _ ⟨_,(by simp[upd,h1];done),Below.refl _ _,rfl⟩
       |3,_=>
        refine wpOp_oneH rfl fun KK HKK =>?_
        clear hd
        go_wp2
        exact HKK.out _ _ ⟨_,(by simp[upd];done),Below.refl _ _,rfl⟩
       |4,_=>
        have h2:v 2=_:=hdx hd 2 (by kernel_rfl)
        have h3:v 3=_:=hdx hd 3 (by kernel_rfl)
        refine wpOp_oneH rfl fun KK HKK =>?_
        clear hd
        rw[h2,h3]
        go_wp2
        exact HKK.out _ _ ⟨_,(by simp[upd,h2,h3];done),Below.refl _ _,rfl⟩
       |5,_=>
        have h4:v 4=_:=hdx hd 4 (by kernel_rfl)
        refine wpOp_oneH rfl fun KK HKK =>?_
        clear hd
        rw[h4]
        have q0:=cell_later hb HE.out.1
        have q1:=cell_later hb HE.out.2.1
        have q2:=cell_later hb HE.out.2.2.1
        have q3:=cell_later hb HE.out.2.2.2
        go_wp2
        exact HKK.out _ _ ⟨_,(by simp[upd,h4];done),Below.refl _ _,rfl⟩
       |6,_=>
        have h0:v 0=_:=hdx hd 0 (by kernel_rfl)
        have h5:v 5=_:=hdx hd 5 (by kernel_rfl)
        refine wpOp_oneH rfl fun KK HKK =>?_
        clear hd
        rw[h0,h5]
        go_wp2_with fail
        refine(NC.out _ hb).mono ?_
        rintro e w'' ⟨rfl,b⟩
        go_wp2
        exact HKK.out _ _ ⟨_,(by simp[upd,h0,h5];done),b,rfl⟩
       |k+7,hk=>exact absurd hk (by omega)
      case doneE=>
       intro v w5 hb hf
       have h6:v 6=_:=hf 6 (by decide)
       clear hf
       rw[h6]
       have BW2:=Hd (below_on BW.out hb)
       clear hb NC HE
       go_wp2_with fail
       go_roundw
       case rel=>exact⟨k+1,by omega,by go_num,HQ1.out,BW2.out⟩
       case measure=>simp[intOf];omega
     |false=>
      obtain rfl:r3=false:=HPP.out rfl
      obtain rfl:t=false:=HT1.out.symm
      clear HQQ HPP
      go_upto_region 16 with (fail)
      refine wp_region_facts 7 (by kernel_rfl) (by kernel_rfl)
       (fun v=>{ tmps:=#[.agg #[.slice K kn.length ck,.slice Z zs.length cz,.slice H hs.length ch,.slice (some ⟨b,off,none⟩) bs.length cb,.int .i64 room],.pointer (some ⟨g,0,none⟩),u2,.int .i64 (zs.length:Int),.int .i64 (hs.length:Int),.int .i64 (k:Int),.pointer (some ⟨g,0,none⟩),.slice K kn.length ck,.bool true,.bool false,.bool false,.pointer (some ⟨g,1,none⟩),.slice Z zs.length cz,.bool true,.bool false,.bool false,.bool false,.pointer (some ⟨g,2,none⟩),.slice H hs.length ch,.bool true,.bool false,.bool false,.bool false,.pointer (some ⟨g,3,none⟩),.slice (some ⟨b,off,none⟩) bs.length cb,.pointer (some ⟨g,4,none⟩),.int .i64 room,.bool true,.bool false,.bool false,.int .i64 (zs.length:Int),.pointer (some ⟨g,1,none⟩),.slice Z zs.length cz,.int .i64 (zs.length:Int),.bool false,u35,u36,u37,u38,u39,u40,u41,u42,u43,u44,u45,u46,.int .i64 (hs.length:Int),.pointer (some ⟨g,2,none⟩),.slice H hs.length ch,.int .i64 (hs.length:Int),.bool false,u52,u53,u54,u55,u56,u57,u58,u59,u60,u61,.int .i64 (k:Int),.pointer (some ⟨g,3,none⟩),.slice (some ⟨b,off,none⟩) bs.length cb,.int .i64 (bs.length:Int),.bool true,u67,u68,v 0,v 1,v 2,v 3,v 4,v 5,v 6,u76],defers:=[] }) (fun i=>match i with|0=>u69|1=>u70|2=>u71|3=>u72|4=>u73|5=>u74|6=>u75|_=>undef)
       (fun i x wx=>match i with
        |0=>x = .agg #[.slice K kn.length ck,.slice Z zs.length cz,.slice H hs.length ch,.slice (some ⟨b,off,none⟩) bs.length cb,.int .i64 room]
        |1=>x = .pointer (some ⟨g,3,none⟩)
        |2=>x = .slice (some ⟨b,off,none⟩) bs.length cb
        |3=>x = .int .i64 (k:Int)
        |4=>x = .pointer (some ⟨b,off+k*4,none⟩)
        |5=>x = .agg #[.int .i64 xe.b.o,.int .i64 xe.b.c,.int .i64 xe.b.n,.slice xe.X xe.b.v.length xe.d]
        |6=>x = .bool false
        |_=>True)
       (fun w1 w2=>Below w1.heap.size w1 w2) (fun h1 h2=>below_on h1 h2) (fun _=>Below.refl _ _) (Below.drew (Below.refl _ _)) ?stabF ?stepF ?doneF
      case stabF=>
       rintro i x w1 w2 h hb
       match i,h with
       |0,h=>exact h
       |1,h=>exact h
       |2,h=>exact h
       |3,h=>exact h
       |4,h=>exact h
       |5,h=>exact h
       |6,h=>exact h
       |i+7,_=>trivial
      case stepF=>
       intro i hi v w' hb hd
       match i,hi with
       |0,_=>
        refine wpOp_oneH rfl fun KK HKK =>?_
        clear hd
        have q0:=cell_later hb v0
        have q1:=cell_later hb v1
        have q2:=cell_later hb v2
        have q3:=cell_later hb v3
        have q4:=cell_later hb v4
        go_wp2
        exact HKK.out _ _ ⟨_,(by simp[upd];done),Below.refl _ _,rfl⟩
       |1,_=>
        refine wpOp_oneH rfl fun KK HKK =>?_
        clear hd
        go_wp2
        exact HKK.out _ _ ⟨_,(by simp[upd];done),Below.refl _ _,rfl⟩
       |2,_=>
        have h1:v 1=_:=hdx hd 1 (by kernel_rfl)
        refine wpOp_oneH rfl fun KK HKK =>?_
        clear hd
        rw[h1]
        have q0:=cell_later hb v3
        go_wp2
        exact HKK.out _ _ ⟨_,(by simp[upd,h1];done),Below.refl _ _,rfl⟩
       |3,_=>
        refine wpOp_oneH rfl fun KK HKK =>?_
        clear hd
        go_wp2
        exact HKK.out _ _ ⟨_,(by simp[upd];done),Below.refl _ _,rfl⟩
       |4,_=>
        have h2:v 2=_:=hdx hd 2 (by kernel_rfl)
        have h3:v 3=_:=hdx hd 3 (by kernel_rfl)
        refine wpOp_oneH rfl fun KK HKK =>?_
        clear hd
        rw[h2,h3]
        go_wp2
        exact HKK.out _ _ ⟨_,(by simp[upd,h2,h3];done),Below.refl _ _,rfl⟩
       |5,_=>
        have h4:v 4=_:=hdx hd 4 (by kernel_rfl)
        refine wpOp_oneH rfl fun KK HKK =>?_
        clear hd
        rw[h4]
        have q0:=cell_later hb HE.out.1
        have q1:=cell_later hb HE.out.2.1
        have q2:=cell_later hb HE.out.2.2.1
        have q3:=cell_later hb HE.out.2.2.2
        go_wp2
        exact HKK.out _ _ ⟨_,(by simp[upd,h4];done),Below.refl _ _,rfl⟩
       |6,_=>
        have h0:v 0=_:=hdx hd 0 (by kernel_rfl)
        have h5:v 5=_:=hdx hd 5 (by kernel_rfl)
        refine wpOp_oneH rfl fun KK HKK =>?_
        clear hd
        rw[h0,h5]
        go_wp2_with fail
        refine(NC.out _ hb).mono ?_
        rintro e w'' ⟨rfl,b⟩
        go_wp2
        exact HKK.out _ _ ⟨_,(by simp[upd,h0,h5];done),b,rfl⟩
       |k+7,hk=>exact absurd hk (by omega)
      case doneF=>
       intro v w5 hb hf
       have h6:v 6=_:=hf 6 (by decide)
       clear hf
       rw[h6]
       have BB2:=Hd (below_on BB.out hb)
       clear hb NC HE
       go_wp2
       go_ret
       exact⟨rfl,BB2.out⟩
    obtain rfl:k=bs.length:=by omega
    have hd0:decide ((bs.length:Int)<(bs.length:Int))=false:=decide_eq_false (by omega)
    obtain rfl:r3=true:=HY3.out (fun j xe hx=>hall j xe (by have:=(List.getElem?_eq_some_iff.1 hx).1;omega) hx)
    obtain rfl:t=true:=HT1.out.symm
    have BB:=Hd hbb
    clear hall hbw hbb hv0
    go_wp2
    go_ret
    exact⟨rfl,BB.out⟩
end Go.Proofs.YtjlfehpockfkdaaGreat
namespace Go.Proofs.YtjlfehpockfkdaaGreat
open Go.RowKit
namespace Vw
theorem z_each{zs:List Zn}(h:Tr.fmd zs=true){z:Zn}(hz:z∈zs):(0≤z.1∧z.1≤z.2.1∧z.2.1≤255)∧Ve.fmd z.2.2=true:=by
 obtain⟨j,hj,rfl⟩:=List.mem_iff_getElem.1 hz
 have h1:=(Tr.fmd_iff zs).1 h j hj
 unfold Tr.okAt at h1
 rw[List.getD_eq_getElem?_getD,List.getElem?_eq_getElem hj]at h1
 exact⟨h1.1,h1.2.1⟩
end Vw
end Go.Proofs.YtjlfehpockfkdaaGreat
namespace Go.Proofs.YtjlfehpockfkdaaGreat
open Go.RowKit Fb
set_option maxRecDepth 100000 in
set_option maxHeartbeats 6400000 in
theorem srest_any(A:Option Addr)(c:Nat)(l:List (Int × Int))(w:World)(h:OneL w A c l):Calls Tryz.prog 152 #[.slice A l.length c] w (GivesS (Sp.lessS [(0,255)] l) w):=by
 have hb0:=below_new (Below.refl w.heap.size w) (.cells #[.int .i64 0,.int .i64 255] 97)
 have hB:=Blk.new w 97 #[.int .i64 0,.int .i64 255]
 have h1:OneL (w.alloc (.cells #[.int .i64 0,.int .i64 255] 97)) (some ⟨w.heap.size,0,none⟩) 1 [(0,255)]:=⟨Nat.le_refl _,by unfold maxLen;simp,fun e=>(by cases e),fun _=>⟨w.heap.size,0,rfl,fun j u hu=>by
  rw[Nat.zero_add]
  exact hB.cell (by simpa[stCells] using hu)⟩⟩
 have N:=Hd (sless_any (some ⟨w.heap.size,0,none⟩) A 1 c [(0,255)] l _ h1 (h.later hb0))
 have HB:=Hd hb0
 have hz:=hb0.size
 clear h1 hB hb0 h
 go_enter Tryz.func152,Tryz.ntmps152
 go_wp2_with fail
 refine N.out.mono ?_
 rintro e w1 ⟨v,rfl,ho,b1⟩
 have HO:=Hd (own_base ho hz)
 have BB:=Hd (below_on HB.out b1)
 clear ho b1 N HB
 go_wp2
 go_ret
 exact⟨_,rfl,HO.out,BB.out⟩
theorem rest_is(f:Nat→Bool):Sp.lessS [(0,255)] (Sp.ofL f)=Sp.ofL (fun o =>!f o):=by
 unfold Sp.lessS
 refine Sp.ofL_ext (fun o ho =>?_)
 have h1:Sp.inL [(0,255)] o=true:=by simp[Sp.inL];omega
 rw[h1,Sp.inL_ofL f o ho,Bool.true_and]
theorem with_is{l:List Wr}(h:Sf.fmd l=true)(f:Nat→Bool):(Sf.withR l (Sp.ofL f)).1=l.filter fun x=>f x.2.2.1.toNat:=by
 unfold Sf.withR
 rw[if_pos h]
 refine List.filter_congr (fun x hx =>?_)
 have h1:=(Sf.right_iff x).1 (((Sf.fmd_list l).1 h).1 x hx)
 rw[Sp.inL_ofL f _ (by omega)]
set_option maxRecDepth 100000 in
set_option maxHeartbeats 6400000 in
theorem vpart_any(q:Vl)(E:Option Addr)(ce:Nat)(reach:List (Int × Int))(f:Nat→Bool)(w:World)(h:VwAt w q)(hf:Vw.fmd q.vw=true)(he:OneL w E ce reach)(hr:reach.length≤64) :
  Calls Tryz.prog 98 #[.agg (vwCells q),.slice E reach.length ce,.agg (Sp.arr f)] w (AnsN (Vw.part q.vw reach f) w):=by
 have hw:(Sf.withR q.h (Sp.ofL f)).1=q.h.filter fun x=>f x.2.2.1.toNat:=with_is (Vw.fmd_all hf).2.2.1 f
 have c1:=fun wx=>ofS_any f wx
 have c2:=fun wx (hb:Below w.heap.size w wx)=>rcopy_any E ce reach wx (by omega) (he.later hb).2.2.1 (he.later hb).2.2.2
 have c3:=fun A c wx (h:OneL wx A c (Sp.ofL f))=>srest_any A c (Sp.ofL f) wx h
 rw[rest_is]at c3
 have c4:=fun A c wx (hb:Below w.heap.size w wx) (hs:OneL wx A c (Sp.ofL f))=>fwithin_any q.H A q.ch c q.h (Sp.ofL f) wx (h.later hb).h hs
 rw[hw]at c4
 obtain⟨er,hee⟩:∃er,(Sf.withR q.h (Sp.ofL f)).2=er:=⟨_,rfl⟩
 rw[hee]at c4
 have hP:Vw.part q.vw reach f=⟨[],reach,Sp.ofL (fun o =>!f o),q.h.filter fun x=>f x.2.2.1.toNat⟩:=rfl
 rw[hP]
 obtain⟨ws,hws⟩:∃ws,(q.h.filter fun x=>f x.2.2.1.toNat)=ws:=⟨_,rfl⟩
 rw[hws]at c4 ⊢
 clear hP hw hf h he hee hws
 obtain⟨K,ck,kn,Z,cz,zs,H,ch,hs,B,cb,bs,room⟩:=q
 unfold vwCells
 dsimp only at c4 ⊢
 have C1:=Hd c1
 have C2:=Hd c2
 have C3:=Hd c3
 have C4:=Hd c4
 clear c1 c2 c3 c4
 have hb0:=below_new (below_new (below_new (Below.refl w.heap.size w) (.cells #[.slice K kn.length ck,.slice Z zs.length cz,.slice H hs.length ch,.slice B bs.length cb,.int .i64 room] 27)) (.cells (Sp.arr f) 138)) (.cells #[.slice none 0 0,.slice none 0 0,.slice none 0 0,.slice none 0 0] 40)
 have hV:=((Blk.new w 27 #[.slice K kn.length ck,.slice Z zs.length cz,.slice H hs.length ch,.slice B bs.length cb,.int .i64 room]).alloc (.cells (Sp.arr f) 138)).alloc (.cells #[.slice none 0 0,.slice none 0 0,.slice none 0 0,.slice none 0 0] 40)
 have hF:=(Blk.new (w.alloc (.cells #[.slice K kn.length ck,.slice Z zs.length cz,.slice H hs.length ch,.slice B bs.length cb,.int .i64 room] 27)) 138 (Sp.arr f)).alloc (.cells #[.slice none 0 0,.slice none 0 0,.slice none 0 0,.slice none 0 0] 40)
 simp only[World.size_alloc]at hF
 have hR:=Blk.new ((w.alloc (.cells #[.slice K kn.length ck,.slice Z zs.length cz,.slice H hs.length ch,.slice B bs.length cb,.int .i64 room] 27)).alloc (.cells (Sp.arr f) 138)) 40 #[.slice none 0 0,.slice none 0 0,.slice none 0 0,.slice none 0 0]
 simp only[World.size_alloc]at hR
 obtain⟨W,hW⟩:∃W,((w.alloc (.cells #[.slice K kn.length ck,.slice Z zs.length cz,.slice H hs.length ch,.slice B bs.length cb,.int .i64 room] 27)).alloc (.cells (Sp.arr f) 138)).alloc (.cells #[.slice none 0 0,.slice none 0 0,.slice none 0 0,.slice none 0 0] 40)=W:=⟨_,rfl⟩
 rw[hW]at hb0 hV hF hR
 have HW:=Hd hW
 obtain⟨g,hgg⟩:∃g,w.heap.size=g:=⟨_,rfl⟩
 rw[hgg]at hV hF hR
 have HV:=Hd (show Blk W (g) 27 #[.slice K kn.length ck,.slice Z zs.length cz,.slice H hs.length ch,.slice B bs.length cb,.int .i64 room] from hV)
 have HF:=Hd (show Blk W (g+1) 138 (Sp.arr f) from hF)
 have HR:=Hd (show Blk W (g+2) 40 #[.slice none 0 0,.slice none 0 0,.slice none 0 0,.slice none 0 0] from hR)
 have HB0:=Hd hb0
 clear hW hb0 hV hF hR
 go_enter Tryz.func98,Tryz.ntmps98
 go_upto_region 1 with (fail)
 rw[HW.out]
 clear HW
 go_wp2_with (refine wpList_load_row rfl 138 _ rfl (g+1) rfl 138 _ (0,0) _ HF.out Tryz.underlying138 rfl (by rw[Sp.arr_size];exact info256) ?_)
 refine(C1.out _).mono ?_
 rintro e w1 ⟨v1,rfl,ho,b1⟩
 replace HV:=Hd (HV.out.later b1)
 replace HF:=Hd (HF.out.later b1)
 replace HR:=Hd (HR.out.later b1)
 have HB1:=Hd (below_on HB0.out b1)
 clear HB0
 clear b1 C1
 obtain⟨SA,sc,rfl,hS⟩:=OneL.of_own ho
 have XS:=Hd hS
 clear hS ho
 go_wp2_with fail
 refine(C2.out _ HB1.out).mono ?_
 rintro e w2 ⟨v2,rfl,ho,b2⟩
 replace HV:=Hd (HV.out.later b2)
 replace HF:=Hd (HF.out.later b2)
 replace HR:=Hd (HR.out.later b2)
 have HB2:=Hd (below_on HB1.out b2)
 clear HB1
 replace XS:=Hd (XS.out.later b2)
 clear b2 C2
 obtain⟨A2,c2,rfl,hE⟩:=OneL.of_own ho
 have XE:=Hd hE
 clear hE ho
 go_wp2_with fail
 refine(C3.out SA sc _ XS.out).mono ?_
 rintro e w3 ⟨v3,rfl,ho,b3⟩
 replace HV:=Hd (HV.out.later b3)
 replace HF:=Hd (HF.out.later b3)
 replace HR:=Hd (HR.out.later b3)
 have HB3:=Hd (below_on HB2.out b3)
 clear HB2
 replace XS:=Hd (XS.out.later b3)
 replace XE:=Hd (XE.out.later b3)
 clear b3 C3
 obtain⟨A3,c3,rfl,hB⟩:=OneL.of_own ho
 have XB:=Hd hB
 clear hB ho
 obtain⟨gn,hggn⟩:∃gn,w3.heap.size=gn:=⟨_,rfl⟩
 have lt_V_gn:g<gn:=by have:=HV.out.lt;rw[hggn]at this;exact this
 have lt_F_gn:g+1<gn:=by have:=HF.out.lt;rw[hggn]at this;exact this
 have lt_R_gn:g+2<gn:=by have:=HR.out.lt;rw[hggn]at this;exact this
 go_upto_region 3 with (fail)
 have b4:=below_new (Below.refl w3.heap.size w3) (.cells #[.slice none 0 0,.slice A2 reach.length c2,.slice A3 (Sp.ofL (fun o =>!f o)).length c3,.slice none 0 0] 40)
 have hN:=Blk.new w3 40 #[.slice none 0 0,.slice A2 reach.length c2,.slice A3 (Sp.ofL (fun o =>!f o)).length c3,.slice none 0 0]
 obtain⟨w4,hw4⟩:∃x,w3.alloc (.cells #[.slice none 0 0,.slice A2 reach.length c2,.slice A3 (Sp.ofL (fun o =>!f o)).length c3,.slice none 0 0] 40)=x:=⟨_,rfl⟩
 rw[hw4]at b4 hN
 rw[hw4]
 replace HV:=Hd (HV.out.later b4)
 replace HF:=Hd (HF.out.later b4)
 replace HR:=Hd (HR.out.later b4)
 have HB4:=Hd (below_on HB3.out b4)
 clear HB3
 replace XS:=Hd (XS.out.later b4)
 replace XE:=Hd (XE.out.later b4)
 replace XB:=Hd (XB.out.later b4)
 rw[hggn]at hN
 have HN:=Hd hN
 clear b4 hw4 hN
 have V_2:=HV.out.cell (i:=2) rfl
 go_wp2_with fail
 refine(C4.out SA sc _ HB4.out XS.out).mono ?_
 rintro e w5 ⟨A4,c4,rfl,hW,b5⟩
 clear V_2
 replace HV:=Hd (HV.out.later b5)
 replace HF:=Hd (HF.out.later b5)
 replace HR:=Hd (HR.out.later b5)
 replace HN:=Hd (HN.out.later b5)
 have HB5:=Hd (below_on HB4.out b5)
 clear HB4
 replace XS:=Hd (XS.out.later b5)
 replace XE:=Hd (XE.out.later b5)
 replace XB:=Hd (XB.out.later b5)
 clear b5 C4
 have XW:=Hd hW
 clear hW
 have N_3:=HN.out.cell (i:=3) rfl
 have N_f3:=HN.out.free 3
 go_upto_region 4 with (fail)
 clear N_3 N_f3
 obtain⟨w6,hw6⟩:∃x,w5.setCell ⟨gn,3,none⟩ (.slice A4 ws.length c4)=x:=⟨_,rfl⟩
 have t_XS:=XS.out.far HN.out rfl 3 (.slice A4 ws.length c4)
 have t_XE:=XE.out.far HN.out rfl 3 (.slice A4 ws.length c4)
 have t_XB:=XB.out.far HN.out rfl 3 (.slice A4 ws.length c4)
 have t_XW:=XW.out.far HN.out rfl 3 (.slice A4 ws.length c4)
 have t_HV:=HV.out.far (p:=⟨gn,3,none⟩) (by show g≠gn;omega) (.slice A4 ws.length c4)
 have t_HF:=HF.out.far (p:=⟨gn,3,none⟩) (by show g+1≠gn;omega) (.slice A4 ws.length c4)
 have t_HR:=HR.out.far (p:=⟨gn,3,none⟩) (by show g+2≠gn;omega) (.slice A4 ws.length c4)
 have t_HN:Blk (w5.setCell ⟨gn,3,none⟩ (.slice A4 ws.length c4)) (gn) 40 #[.slice none 0 0,.slice A2 reach.length c2,.slice A3 (Sp.ofL (fun o =>!f o)).length c3,.slice A4 ws.length c4]:=HN.out.put 3 (.slice A4 ws.length c4)
 have t_HB6:=HB5.out.setCell (p:=⟨gn,3,none⟩) (by show w.heap.size≤gn;omega) (.slice A4 ws.length c4)
 rw[hw6]at t_XS t_XE t_XB t_XW t_HV t_HF t_HR t_HN t_HB6
 rw[hw6]
 replace XS:=Hd t_XS
 replace XE:=Hd t_XE
 replace XB:=Hd t_XB
 replace XW:=Hd t_XW
 replace HV:=Hd t_HV
 replace HF:=Hd t_HF
 replace HR:=Hd t_HR
 replace HN:=Hd t_HN
 have HB6:=Hd t_HB6
 clear t_XS t_XE t_XB t_XW t_HV t_HF t_HR t_HN t_HB6 hw6 HB5
 have N_0:=HN.out.cell (i:=0) rfl
 have N_1:=HN.out.cell (i:=1) rfl
 have N_2:=HN.out.cell (i:=2) rfl
 have N_3:=HN.out.cell (i:=3) rfl
 have R_0:=HR.out.cell (i:=0) rfl
 have R_1:=HR.out.cell (i:=1) rfl
 have R_2:=HR.out.cell (i:=2) rfl
 have R_3:=HR.out.cell (i:=3) rfl
 have R_f0:=HR.out.free 0
 have R_f1:=HR.out.free 1
 have R_f2:=HR.out.free 2
 have R_f3:=HR.out.free 3
 have hh:w.heap.size≤g+2:=by omega
 have HP:=Hd ((((HR.out.put 0 (.slice none 0 0)).put 1 (.slice A2 reach.length c2)).put 2 (.slice A3 (Sp.ofL (fun o =>!f o)).length c3)).put 3 (.slice A4 ws.length c4))
 have HQ:=Hd ((((HB6.out.setCell (p:=⟨g+2,0,none⟩) hh (.slice none 0 0)).setCell (p:=⟨g+2,1,none⟩) hh (.slice A2 reach.length c2)).setCell (p:=⟨g+2,2,none⟩) hh (.slice A3 (Sp.ofL (fun o =>!f o)).length c3)).setCell (p:=⟨g+2,3,none⟩) hh (.slice A4 ws.length c4))
 have FXS:=Hd ((((XS.out.far (show Blk _ (g+2) 40 #[.slice none 0 0,.slice none 0 0,.slice none 0 0,.slice none 0 0] from HR.out) rfl 0 (.slice none 0 0)).far (show Blk _ (g+2) 40 #[.slice none 0 0,.slice none 0 0,.slice none 0 0,.slice none 0 0] from(HR.out.put 0 (.slice none 0 0))) rfl 1 (.slice A2 reach.length c2)).far (show Blk _ (g+2) 40 #[.slice none 0 0,.slice A2 reach.length c2,.slice none 0 0,.slice none 0 0] from((HR.out.put 0 (.slice none 0 0)).put 1 (.slice A2 reach.length c2))) rfl 2 (.slice A3 (Sp.ofL (fun o =>!f o)).length c3)).far (show Blk _ (g+2) 40 #[.slice none 0 0,.slice A2 reach.length c2,.slice A3 (Sp.ofL (fun o =>!f o)).length c3,.slice none 0 0] from(((HR.out.put 0 (.slice none 0 0)).put 1 (.slice A2 reach.length c2)).put 2 (.slice A3 (Sp.ofL (fun o =>!f o)).length c3))) rfl 3 (.slice A4 ws.length c4))
 have FXE:=Hd ((((XE.out.far (show Blk _ (g+2) 40 #[.slice none 0 0,.slice none 0 0,.slice none 0 0,.slice none 0 0] from HR.out) rfl 0 (.slice none 0 0)).far (show Blk _ (g+2) 40 #[.slice none 0 0,.slice none 0 0,.slice none 0 0,.slice none 0 0] from(HR.out.put 0 (.slice none 0 0))) rfl 1 (.slice A2 reach.length c2)).far (show Blk _ (g+2) 40 #[.slice none 0 0,.slice A2 reach.length c2,.slice none 0 0,.slice none 0 0] from((HR.out.put 0 (.slice none 0 0)).put 1 (.slice A2 reach.length c2))) rfl 2 (.slice A3 (Sp.ofL (fun o =>!f o)).length c3)).far (show Blk _ (g+2) 40 #[.slice none 0 0,.slice A2 reach.length c2,.slice A3 (Sp.ofL (fun o =>!f o)).length c3,.slice none 0 0] from(((HR.out.put 0 (.slice none 0 0)).put 1 (.slice A2 reach.length c2)).put 2 (.slice A3 (Sp.ofL (fun o =>!f o)).length c3))) rfl 3 (.slice A4 ws.length c4))
 have FXB:=Hd ((((XB.out.far (show Blk _ (g+2) 40 #[.slice none 0 0,.slice none 0 0,.slice none 0 0,.slice none 0 0] from HR.out) rfl 0 (.slice none 0 0)).far (show Blk _ (g+2) 40 #[.slice none 0 0,.slice none 0 0,.slice none 0 0,.slice none 0 0] from(HR.out.put 0 (.slice none 0 0))) rfl 1 (.slice A2 reach.length c2)).far (show Blk _ (g+2) 40 #[.slice none 0 0,.slice A2 reach.length c2,.slice none 0 0,.slice none 0 0] from((HR.out.put 0 (.slice none 0 0)).put 1 (.slice A2 reach.length c2))) rfl 2 (.slice A3 (Sp.ofL (fun o =>!f o)).length c3)).far (show Blk _ (g+2) 40 #[.slice none 0 0,.slice A2 reach.length c2,.slice A3 (Sp.ofL (fun o =>!f o)).length c3,.slice none 0 0] from(((HR.out.put 0 (.slice none 0 0)).put 1 (.slice A2 reach.length c2)).put 2 (.slice A3 (Sp.ofL (fun o =>!f o)).length c3))) rfl 3 (.slice A4 ws.length c4))
 have FXW:=Hd ((((XW.out.far (show Blk _ (g+2) 40 #[.slice none 0 0,.slice none 0 0,.slice none 0 0,.slice none 0 0] from HR.out) rfl 0 (.slice none 0 0)).far (show Blk _ (g+2) 40 #[.slice none 0 0,.slice none 0 0,.slice none 0 0,.slice none 0 0] from(HR.out.put 0 (.slice none 0 0))) rfl 1 (.slice A2 reach.length c2)).far (show Blk _ (g+2) 40 #[.slice none 0 0,.slice A2 reach.length c2,.slice none 0 0,.slice none 0 0] from((HR.out.put 0 (.slice none 0 0)).put 1 (.slice A2 reach.length c2))) rfl 2 (.slice A3 (Sp.ofL (fun o =>!f o)).length c3)).far (show Blk _ (g+2) 40 #[.slice none 0 0,.slice A2 reach.length c2,.slice A3 (Sp.ofL (fun o =>!f o)).length c3,.slice none 0 0] from(((HR.out.put 0 (.slice none 0 0)).put 1 (.slice A2 reach.length c2)).put 2 (.slice A3 (Sp.ofL (fun o =>!f o)).length c3))) rfl 3 (.slice A4 ws.length c4))
 clear hh
 go_wp2
 exact bodyPost_ret (v :=.agg #[.slice none 0 0,.slice A2 reach.length c2,.slice A3 (Sp.ofL (fun o =>!f o)).length c3,.slice A4 ws.length c4]) (results_cell_row rfl _ _ (g+2) 40 #[.slice none 0 0,.slice A2 reach.length c2,.slice A3 (Sp.ofL (fun o =>!f o)).length c3,.slice A4 ws.length c4] (0,0) _ rfl HP.out Tryz.underlying40 rfl infoNt4) rfl ⟨none,A2,A3,A4,0,c2,c3,c4,rfl,⟨OneL.nil,FXE.out,FXB.out,FXW.out⟩,HQ.out⟩
end Go.Proofs.YtjlfehpockfkdaaGreat
namespace Go.Proofs.YtjlfehpockfkdaaGreat
open Go.RowKit
section
variable {w w':World}
theorem Mild.refl(w:World):Mild w w:=⟨Nat.le_refl _,fun _ _ =>.inl rfl⟩
theorem Mild.row{g:Nat}{t:TypeId}{cs:Array Value}(hB:Blk w g t cs)(hd:dull cs=true)(cs':Array Value):Mild w (w.setRow g cs'):=
 ⟨by simp,fun k hk=>by
  by_cases e:k=g
  ·subst e;exact .inr ⟨cs,t,(0,0),hB,hd⟩
  ·exact .inl (setRow_other _ _ _ _ e)⟩
end
def flatC(cs:Array Value):Bool:=cs.toList.all fun u =>!intAt u && !byteAt u
theorem flat_dullL:∀{l:List Value},(l.all fun u =>!intAt u && !byteAt u)=true→dullL l=true
 | [],_=>rfl
 |x::r,h=>by
  simp only[List.all_cons,Bool.and_eq_true,Bool.not_eq_true']at h
  simp only[dullL,h.1.1,h.1.2,Bool.false_and,Bool.not_false,Bool.true_and]
  exact flat_dullL (by simpa using h.2)
theorem flat_dull{cs:Array Value}(h:flatC cs=true):dull cs=true:=flat_dullL h
theorem flat_of{cs:Array Value}(h:∀u∈cs.toList,intAt u=false∧byteAt u=false):flatC cs=true:=by
 unfold flatC
 rw[List.all_eq_true]
 intro u hu
 rw[(h u hu).1,(h u hu).2]
 rfl
theorem flat_mem{cs:Array Value}(h:flatC cs=true):∀u∈cs.toList,intAt u=false∧byteAt u=false:=by
 intro u hu
 have:=List.all_eq_true.1 h u hu
 simpa using this
def FlatV(w:World)(v:Value):Prop:=∀g n c,v = .slice (some ⟨g,0,none⟩) n c→∃cs t fr,w.heap[g]?=some (.cells cs t fr)∧flatC cs=true
theorem FlatV.nil(w:World):FlatV w (.slice none 0 0):=fun g n c h=>by cases h
theorem FlatV.later{w w':World}{v:Value}(h:FlatV w v)(hb:Below w.heap.size w w'):FlatV w' v:=fun g n c e=>by
 obtain⟨cs,t,fr,h1,h2⟩:=h g n c e
 exact⟨cs,t,fr,(hb.block g (Array.getElem?_eq_some_iff.1 h1).1).trans h1,h2⟩
theorem mem_zeroCells{z:Array Value}{n:Nat}{u:Value}(h:u∈(Builtin.zeroCells z n).toList):u∈z.toList:=by
 unfold Builtin.zeroCells at h
 simp at h
 obtain⟨j,hj,rfl⟩:=h
 have h0:0<z.size:=by
  rcases Nat.eq_zero_or_pos z.size with e|e
  ·rw[e]at hj;omega
  ·exact e
 have hs:j % z.size<z.size:=Nat.mod_lt _ h0
 rw[getElem!_pos z _ hs]
 exact Array.mem_toList_iff.2 (Array.getElem_mem hs)
theorem run_append_flat{P:Program}(w:World)(base:Nat)(t ty e:TypeId)(i:TypeInfo)(z:Value)(size bytes:Nat)(ht:P.underlying t=some (.slice e))(hi:P.info? e=some i)(hz:i.zero=some z)
  (hsize:i.size=size)(hby:i.bytes=bytes)(hzs:z.cells.size=size)(hsz:0<size)(hzf:flatC z.cells=true)
  (v:Value)(n:Nat)(xs:List Value)(hown:w.ownsRow base e size v n xs)(hf:FlatV w v)
  (A:Option Addr)(m c:Nat)(hA:A=none→m=0∧c=0)(news:List Value)(hl:news.length=m*size)(hr:Lies w A news)(h1:∀u∈news,u.oneCell'=true)(hnf:∀u∈news,intAt u=false∧byteAt u=false)(hxf:∀u∈xs,intAt u=false∧byteAt u=false)
  (h63:n+m≤maxLen)(hbytes:(n+m)*bytes≤140737488355328)(hbase:base≤w.heap.size) :
  ∃v' w',(Builtin.append_ #[t,t] ty #[v,.slice A m c]).run P w = .ok v' w'∧w'.ownsRow base e size v' (n+m) (xs++news)∧w.grownBy w' v.ownBlock∧FlatV w' v'∧Mild w w':=by
 obtain⟨v',w',hrun,h2,h3,-⟩:=run_append_lies (P:=P) w base t ty e i z size bytes ht hi hz hsize hby hzs hsz v n xs hown A m c hA news hl hr h1 h63 hbytes hbase
 refine⟨v',w',hrun,h2,h3,?_⟩
 cases A with
 |none=>
  obtain⟨rfl,rfl⟩:=hA rfl
  have hr2:=run_append_owned_none (P:=P) (w:=w) base t ty e i size ht hi v n xs hown
  rw[hr2]at hrun
  injection hrun with e1 e2
  subst e1 e2
  exact⟨hf,Mild.refl _⟩
 |some ad=>
  have hcells:∀j u,news[j]?=some u→w.cell? (ad.add j)=some u:=by
   intro j u hu
   obtain⟨b,off,hab,hc⟩:=hr (fun h=>by subst h;simp at hu)
   injection hab with hab
   subst hab
   rw[Go.WideShapes.add_plain]
   exact hc j u hu
  subst hsize
  subst hby
  have hfit63:n+m≤9223372036854775807:=by simp only[maxLen]at h63;omega
  rcases hown.2 with ⟨rfl,rfl⟩|⟨g,cap,cur,rfl,hbg,hg,hnc,hcm,hcs,htake⟩
  ·have hx:xs=[]:=List.eq_nil_of_length_eq_zero (by simpa using hown.1)
   subst hx
   by_cases hm:m=0
   ·subst hm
    have hn:news=[]:=List.eq_nil_of_length_eq_zero (by simpa using hl)
    subst hn
    have hr2:(Builtin.append_ #[t,t] ty #[.slice none 0 0,.slice (some ad) 0 c]).run P w = .ok (.slice none 0 0) w:=by
     simp[Builtin.append_,run_underlying ht,sizeOf,typeInfo,hi,Builtin.lenOf,Builtin.firstCells,loadCells,loadCellsFrom]
    rw[hr2]at hrun
    injection hrun with e1 e2
    subst e1 e2
    exact⟨hf,Mild.refl _⟩
   ·have hr2:=run_append_nil (P:=P) w t ty e i z ht hi hz ad m c news hl hcells (by omega) (by omega) (by have hb:=hbytes;simp only[Nat.zero_add]at hb;omega)
    rw[hr2]at hrun
    injection hrun with e1 e2
    subst e1 e2
    refine⟨fun g n' c' e =>?_,Mild.below ((Below.drew (Below.refl _ _)).alloc (Nat.le_refl _) _)⟩
    injection e with e1
    injection e1 with e1
    injection e1 with e1 e2
    subst e1
    refine⟨_,_,_,heap_alloc_new w.drew _,flat_of (fun u hu =>?_)⟩
    simp only[Array.toList_append,List.mem_append]at hu
    rcases hu with hu|hu
    ·exact hnf u hu
    ·exact flat_mem hzf u (mem_zeroCells hu)
  ·by_cases hroom:n+m≤cap
   ·have hfit:n*i.size+news.length≤cur.size:=by rw[hl,hcs,←Nat.add_mul];exact Nat.mul_le_mul_right _ hroom
    have hr2:=run_append_room (P:=P) w t ty e i ht hi g n cap cur hg ad m c news hl hcells h1 hroom hfit
    rw[hr2]at hrun
    injection hrun with e1 e2
    subst e1 e2
    obtain⟨cs0,t0,fr0,hg0,hfl⟩:=hf g n cap rfl
    rw[hg]at hg0
    injection hg0 with hg0
    injection hg0 with q1 q2 q3
    subst q1
    refine⟨fun g' n' c' e =>?_,Mild.row (t:=e) (cs:=cur) hg (flat_dull hfl) _⟩
    injection e with e1
    injection e1 with e1
    injection e1 with e1 e2
    subst e1
    refine⟨_,_,_,setRow_heap w g cur _ e _ hg,flat_of (fun u hu =>?_)⟩
    simp only[List.mem_append]at hu
    rcases hu with (hu|hu)|hu
    ·exact flat_mem hfl u (List.mem_of_mem_take hu)
    ·exact hnf u hu
    ·exact flat_mem hfl u (List.mem_of_mem_drop hu)
   ·have holds:∀j u,xs[j]?=some u→w.cell? ((⟨g,0,none⟩:Addr).add j)=some u:=hown.cells (g:=g) rfl
    have hr2:=run_append_grow (P:=P) w t ty e i z ht hi hz ⟨g,0,none⟩ n cap xs hown.1 holds ad m c news hl hcells (by omega) (by omega) (growslice_fits (by omega) hbytes)
    rw[hr2]at hrun
    injection hrun with e1 e2
    subst e1 e2
    refine⟨fun g' n' c' e =>?_,Mild.below ((Below.drew (Below.refl _ _)).alloc (Nat.le_refl _) _)⟩
    injection e with e1
    injection e1 with e1
    injection e1 with e1 e2
    subst e1
    refine⟨_,_,_,heap_alloc_new w.drew _,flat_of (fun u hu =>?_)⟩
    simp only[Array.toList_append,List.mem_append]at hu
    rcases hu with (hu|hu)|hu
    ·exact hxf u hu
    ·exact hnf u hu
    ·exact flat_mem hzf u (mem_zeroCells hu)
theorem wpList_append_flat{P:Program}(w:World){ops:Array Oper}{rest:List Oper}{o:Oper}{a:Act}{Q:Exit→Act→World→Prop}(hgd:o.guard=none)(s x:Operand)(t:TypeId)
  (ho:o.op = .call { callee :=.builtin .append,args:=#[s,x],argTypes:=#[t,t] })
  (base:Nat)(e:TypeId)(i:TypeInfo)(z:Value)(size bytes:Nat)(ht:P.underlying t=some (.slice e))(hi:P.info? e=some i)(hz:i.zero=some z)
  (hsize:i.size=size)(hby:i.bytes=bytes)(hzs:z.cells.size=size)(hsz:0<size)(hzf:flatC z.cells=true)
  (v:Value)(n:Nat)(xs:List Value)(hs:a.eval s=v)(hown:w.ownsRow base e size v n xs)(hf:FlatV w v)
  (A:Option Addr)(m c:Nat)(hA:A=none→m=0∧c=0)(news:List Value)(hx:a.eval x = .slice A m c)(hl:news.length=m*size)(hr:Lies w A news)(h1:∀u∈news,u.oneCell'=true)(hnf:∀u∈news,intAt u=false∧byteAt u=false)(hxf:∀u∈xs,intAt u=false∧byteAt u=false)
  (h63:n+m≤maxLen)(hbytes:(n+m)*bytes≤140737488355328)(hbase:base≤w.heap.size)
  (h:∀v' w',w'.ownsRow base e size v' (n+m) (xs++news)→w.grownBy w' v.ownBlock→FlatV w' v'→Mild w w'→wpList P ops Q rest (a.put o.dst v') w') :
  wpList P ops Q (o::rest) a w:=by
 refine wpList_plain hgd fun K hK =>?_
 obtain⟨v',w',hrun,h2,h3,h4,h5⟩:=run_append_flat (P:=P) w base t o.type e i z size bytes ht hi hz hsize hby hzs hsz hzf v n xs hown hf A m c hA news hl hr h1 hnf hxf h63 hbytes hbase
 unfold Oper.wp execOp
 simp only[ho,resolve,invoke,builtin,Sem.run_bind,Sem.run_pure,Result.andThen_ok,List.map_toArray,List.map_cons,List.map_nil,hs,hx,hrun]
 exact hK _ _ (h v' w' h2 h3 h4 h5)
def zeroN:Note:=⟨[],[],[],[]⟩
structure OneN (w:World) (A:Option Addr) (c:Nat) (l:List Note):Prop where
 le:l.length≤c
 cap:c≤maxLen
 noA:A=none→l.length=0∧c=0
 lies:l≠[]→∃b off,A=some ⟨b,off,none⟩∧∀k,k<l.length→∃S E B V cs ce cb cv,
  w.cell? ⟨b,off+k*4,none⟩=some (.slice S (l.getD k zeroN).s.length cs)∧w.cell? ⟨b,off+k*4+1,none⟩=some (.slice E (l.getD k zeroN).e.length ce) ∧
  w.cell? ⟨b,off+k*4+2,none⟩=some (.slice B (l.getD k zeroN).b.length cb)∧w.cell? ⟨b,off+k*4+3,none⟩=some (.slice V (l.getD k zeroN).ws.length cv)∧NoteAt w S E B V cs ce cb cv (l.getD k zeroN)
section
variable {w w':World} {A:Option Addr} {c:Nat} {l:List Note}
theorem OneN.later(h:OneN w A c l)(hb:Below w.heap.size w w'):OneN w' A c l:=by
 refine⟨h.le,h.cap,h.noA,fun hne =>?_⟩
 obtain⟨b,off,hA,hc⟩:=h.lies hne
 refine⟨b,off,hA,fun k hk =>?_⟩
 obtain⟨S,E,B,V,cs,ce,cb,cv,h0,h1,h2,h3,h4⟩:=hc k hk
 exact⟨S,E,B,V,cs,ce,cb,cv,cell_later hb h0,cell_later hb h1,cell_later hb h2,cell_later hb h3,h4.later hb⟩
theorem OneN.nil(w:World):OneN w none 0 []:=⟨Nat.le_refl _,Nat.zero_le _,fun _=>⟨rfl,rfl⟩,fun h=>absurd rfl h⟩
theorem OneN.len(h:OneN w A c l):l.length≤9223372036854775807:=by
 have h1:=h.le
 have h2:=h.cap
 unfold maxLen at h2
 omega
end
theorem notes_ext{l r:List Note}(h:l.length=r.length)(hk:∀k,k<l.length→l.getD k zeroN=r.getD k zeroN):l=r:=by
 apply List.ext_getElem h
 intro i h1 h2
 have:=hk i h1
 rw[List.getD_eq_getElem?_getD,List.getD_eq_getElem?_getD,List.getElem?_eq_getElem h1,List.getElem?_eq_getElem h2]at this
 simpa using this
namespace Wi
noncomputable def nsame(l r:List Note):Bool :=@decide (l=r) (Classical.propDecidable _)
theorem nsame_yes{l r:List Note}(h:l=r):nsame l r=true :=@decide_eq_true _ (Classical.propDecidable _) h
theorem nsame_no{l r:List Note}(h:¬l=r):nsame l r=false :=@decide_eq_false _ (Classical.propDecidable _) h
end Wi
set_option maxHeartbeats 3200000 in
theorem nall_any(A B:Option Addr)(c1 c2:Nat)(l r:List Note)(w:World)(h1:OneN w A c1 l)(h2:OneN w B c2 r) :
  Calls Tryz.prog 33 #[.slice A l.length c1,.slice B r.length c2] w (Says (.bool (Wi.nsame l r)) w):=by
 have hl:=h1.len
 have H1:=Hd h1
 have H2:=Hd h2
 clear h1 h2
 by_cases hlen:l.length=r.length
 ·have hd0:((l.length:Int) != (r.length:Int))=false:=by rw[bne_eq_false_iff_eq];omega
  have HLEN:=Hd hlen
  have hr1:r.length≤l.length:=by omega
  have hr2:l.length≤r.length:=by omega
  clear hlen
  go_enter Tryz.func33,Tryz.ntmps33
  go_wp2_with fail
  go_loopw [5] (fun s5 wr=>∃k:Nat,k≤l.length∧s5 = .int .i64 (k:Int)∧(∀j,j<k→l.getD j zeroN=r.getD j zeroN)∧Below w.heap.size w wr) (fun s5 _=>l.length-(intOf s5).toNat)
  case atStart=>exact⟨0,Nat.zero_le _,rfl,fun j hj=>by omega,Below.refl _ _⟩
  case round=>
   obtain⟨k,hk,rfl,heq,hbw⟩:=hrel
   have HEQ:=Hd heq
   clear heq
   by_cases hlt:k<l.length
   ·have hne:l≠[]:=fun e=>by subst e;simp at hlt
    have hne2:r≠[]:=fun e=>by have:=HLEN.out;subst e;simp at this;exact hne this
    obtain⟨b,off,hA,hcA⟩:=(H1.out.later hbw).lies hne
    obtain⟨b',off',hB,hcB⟩:=(H2.out.later hbw).lies hne2
    obtain⟨S,E,B1,V,cs,ce,cb,cv,e0,e1,e2,e3,hN⟩:=hcA k hlt
    obtain⟨S',E',B1',V',cs',ce',cb',cv',f0,f1,f2,f3,hN'⟩:=hcB k (by omega)
    subst hA hB
    obtain⟨x,hx⟩:∃x,l.getD k zeroN=x:=⟨_,rfl⟩
    obtain⟨y,hy⟩:∃y,r.getD k zeroN=y:=⟨_,rfl⟩
    rw[hx]at e0 e1 e2 e3 hN
    rw[hy]at f0 f1 f2 f3 hN'
    have hi0:(0:Int)≤(k:Int):=by omega
    have hi1:(k:Int)<(l.length:Int):=by omega
    have hi2:(k:Int)<(r.length:Int):=by omega
    have k0:=fun d os=>cell_regrown (d:=d) (os:=os) e0
    have k1:=fun d os=>cell_regrown (d:=d) (os:=os) e1
    have k2:=fun d os=>cell_regrown (d:=d) (os:=os) e2
    have k3:=fun d os=>cell_regrown (d:=d) (os:=os) e3
    have j0:=fun d os=>cell_regrown (d:=d) (os:=os) f0
    have j1:=fun d os=>cell_regrown (d:=d) (os:=os) f1
    have j2:=fun d os=>cell_regrown (d:=d) (os:=os) f2
    have j3:=fun d os=>cell_regrown (d:=d) (os:=os) f3
    have CN:=Hd (fun d os=>Calls.regrown_of (nsame_any S E B1 V S' E' B1' V' cs ce cb cv cs' ce' cb' cv' x y (Sort.grow (redrawn wr d) os) (hN.later (below_regrown wr d os)) (hN'.later (below_regrown wr d os))))
    have HX:=Hd hx
    have HY:=Hd hy
    obtain⟨sm,hsm⟩:∃sm,sameN x y=sm:=⟨_,rfl⟩
    rw[hsm]at CN
    have HSM:=Hd hsm
    clear hx hy hcA hcB e0 e1 e2 e3 f0 f1 f2 f3 hN hN' hsm hne hne2
    go_wp2_with fail
    refine wp_region_quiet_below (by kernel_rfl) (by kernel_rfl) ?_
    repeat (first|go_big_quiet_step (exact CN.out _ _)|quiet_step (exact CN.out _ _))
    refine wpQuiet_nil ?_
    intro _ hw'
    obtain⟨⟨dq,osq⟩,hw''⟩:=hw'
    subst hw''
    have bq:=below_regrown wr dq osq
    cases sm with
    |true=>
     have hxy:x=y:=(sameN_iff x y).1 HSM.out
     have HXY:=Hd hxy
     clear hxy
     go_wp2_with fail
     go_roundw
     case rel=>
      refine⟨k+1,by omega,by first|rfl|go_num|(congr 1;omega),?_,below_on hbw bq⟩
      intro j hj
      by_cases e:j=k
      ·subst e;rw[HX.out,HY.out,HXY.out]
      ·exact HEQ.out j (by omega)
     case measure=>simp[intOf];omega
    |false=>
     have hno:Wi.nsame l r=false:=Wi.nsame_no (fun e=>by
      have h2:x=y:=by rw[←HX.out,←HY.out,e]
      have h3:=HSM.out
      rw[(sameN_iff x y).2 h2]at h3
      cases h3)
     have HNO:=Hd hno
     clear hno
     go_wp2
     go_ret
     exact⟨by rw[HNO.out];rfl,below_on hbw bq⟩
   ·have hyes:Wi.nsame l r=true:=Wi.nsame_yes (notes_ext HLEN.out (fun j hj=>HEQ.out j (by omega)))
    have HY:=Hd hyes
    clear hyes
    go_wp2
    go_ret
    exact⟨by rw[HY.out];rfl,hbw⟩
 ·have hd0:((l.length:Int) != (r.length:Int))=true:=by rw[bne_iff_ne];omega
  have HNO:=Hd (Wi.nsame_no (l:=l) (r:=r) (fun e=>hlen (by rw[e])))
  go_enter Tryz.func33,Tryz.ntmps33
  go_wp2
  go_ret
  exact⟨by rw[HNO.out];rfl,Below.refl _ _⟩
structure Nl where
 S:Option Addr
 E:Option Addr
 B:Option Addr
 V:Option Addr
 cs:Nat
 ce:Nat
 cb:Nat
 cv:Nat
 n:Note
namespace Nl
def cell(z:Nl):List Value:=[.slice z.S z.n.s.length z.cs,.slice z.E z.n.e.length z.ce,.slice z.B z.n.b.length z.cb,.slice z.V z.n.ws.length z.cv]
def cells(L:List Nl):List Value:=L.flatMap cell
def zero:Nl:=⟨none,none,none,none,0,0,0,0,zeroN⟩
theorem cells_cons(z:Nl)(r:List Nl):cells (z::r)=cell z++cells r:=rfl
theorem cells_length(L:List Nl):(cells L).length=L.length*4:=by
 induction L with
 |nil=>rfl
 |cons z r ih=>rw[cells_cons,List.length_append,ih];simp[cell];omega
theorem cells_append(L R:List Nl):cells (L++R)=cells L++cells R:=by unfold cells;rw[List.flatMap_append]
theorem cells_one(L:List Nl):∀u∈cells L,u.oneCell'=true:=by
 intro u hu
 obtain⟨x,_,hx⟩:=List.mem_flatMap.1 hu
 simp[cell]at hx
 rcases hx with rfl|rfl|rfl|rfl<;>rfl
theorem cells_flat(L:List Nl):∀u∈cells L,intAt u=false∧byteAt u=false:=by
 intro u hu
 obtain⟨x,_,hx⟩:=List.mem_flatMap.1 hu
 simp[cell]at hx
 rcases hx with rfl|rfl|rfl|rfl<;>exact⟨rfl,rfl⟩
theorem cells_nil{L:List Nl}:cells L=[]↔L=[]:=by cases L<;>simp[cells,cell]
theorem cells_get(L:List Nl):∀(k:Nat) (x:Nl),L[k]?=some x→(cells L)[k*4]?=some (.slice x.S x.n.s.length x.cs)∧(cells L)[k*4+1]?=some (.slice x.E x.n.e.length x.ce)∧(cells L)[k*4+2]?=some (.slice x.B x.n.b.length x.cb)∧(cells L)[k*4+3]?=some (.slice x.V x.n.ws.length x.cv):=by
 induction L with
 |nil=>intro k x h;simp at h
 |cons f r ih=>
  intro k x h
  cases k with
  |zero=>
   simp at h
   subst h
   exact⟨rfl,rfl,rfl,rfl⟩
  |succ k=>
   have:=ih k x (by simpa using h)
   rw[show(k+1)*4=k*4+4 from by omega]
   simpa[cells,cell] using this
end Nl
def Nl.At(w:World)(z:Nl):Prop:=NoteAt w z.S z.E z.B z.V z.cs z.ce z.cb z.cv z.n
structure OwnNs (w:World) (base:Nat) (t:TypeId) (v:Value) (L:List Nl):Prop where
 row:w.ownsRow base t 4 v L.length (Nl.cells L)
 flat:FlatV w v
 each:∀z∈L,z.At w
section
variable {w w':World} {base:Nat} {t:TypeId} {v:Value} {L:List Nl}
theorem OwnNs.nil(w:World)(base:Nat)(t:TypeId):OwnNs w base t (.slice none 0 0) []:=⟨⟨rfl,.inl ⟨rfl,rfl⟩⟩,FlatV.nil w,fun _ h=>by cases h⟩
theorem OwnNs.later(h:OwnNs w base t v L)(hb:Below w.heap.size w w'):OwnNs w' base t v L:=⟨own_later h.row hb,h.flat.later hb,fun z hz=>NoteAt.later (h.each z hz) hb⟩
theorem OwnNs.mild(h:OwnNs w base t v L)(hs:∀k,v.ownBlock=some k→w'.heap[k]?=w.heap[k]?)(hm:Mild w w'):OwnNs w' base t v L:=
 ⟨own_stays h.row hs,fun g n c e=>by
  obtain⟨cs,t',fr,h1,h2⟩:=h.flat g n c e
  exact⟨cs,t',fr,(hs g (by rw[e];simp[Value.ownBlock])).trans h1,h2⟩,fun z hz=>(h.each z hz).mild hm⟩
theorem OwnNs.one(h:OwnNs w base t v L):∃A c,v = .slice A L.length c∧OneN w A c (L.map Nl.n):=by
 obtain⟨A,c,rfl,h1,h2,h3,h4⟩:=own_form h.row
 refine⟨A,c,rfl,⟨by rw[List.length_map];exact h1,h2,fun e=>by rw[List.length_map];exact h3 e,fun hne =>?_⟩⟩
 obtain⟨b,off,hA,hc⟩:=h4 (fun e=>hne (by rw[Nl.cells_nil.1 e];rfl))
 refine⟨b,off,hA,fun k hk =>?_⟩
 rw[List.length_map]at hk
 obtain⟨x,hx⟩:∃x,L[k]?=some x:=⟨_,List.getElem?_eq_getElem hk⟩
 obtain⟨e0,e1,e2,e3⟩:=Nl.cells_get L k x hx
 have hg:(L.map Nl.n).getD k zeroN=x.n:=by rw[List.getD_eq_getElem?_getD,List.getElem?_map,hx];rfl
 rw[hg]
 exact⟨x.S,x.E,x.B,x.V,x.cs,x.ce,x.cb,x.cv,hc _ _ e0,by rw[Nat.add_assoc];exact hc _ _ e1,by rw[Nat.add_assoc];exact hc _ _ e2,by rw[Nat.add_assoc];exact hc _ _ e3,h.each x (List.mem_of_getElem? hx)⟩
theorem own_other{size n g:Nat}{e:TypeId}{xs:List Value}{u:Value}{cs:Array Value}(h:w.ownsRow base e size u n xs)(hB:Blk w g t cs)(hne:t≠e):∀k,u.ownBlock=some k→k≠g:=fun k hk ek=>by
 subst ek
 rcases h.2 with ⟨rfl,_⟩|⟨g2,cap,cur,rfl,_,hg,_⟩
 ·simp[Value.ownBlock]at hk
 ·simp[Value.ownBlock]at hk
  subst hk
  have:=hg.symm.trans hB
  injection this with this
  injection this with _ h2
  exact hne h2.symm
end
theorem two_new{w':World}{y:Value}{T:TypeId}{cs:Array Value}{n:Nat}(hy:∃g9,y = .pointer (some ⟨g9,0,none⟩)∧Blk w' g9 T cs∧n≤g9):∀g g':Nat,Value.pointer (some ⟨w'.heap.size,0,none⟩) = .pointer (some ⟨g,0,none⟩)→y = .pointer (some ⟨g',0,none⟩)→g≠g':=by
 obtain⟨g9,rfl,hB,_⟩:=hy
 intro g g' e1 e2
 injection e1 with e1
 injection e1 with e1
 injection e1 with e1
 injection e2 with e2
 injection e2 with e2
 injection e2 with e2
 have:=hB.lt
 omega
theorem dull_arr(f:Nat→Bool):dull (Sp.arr f)=true:=flat_dull (flat_of (fun u hu=>by
 unfold Sp.arr at hu
 rw[List.toList_toArray]at hu
 obtain⟨i,_,rfl⟩:=List.mem_map.1 hu
 exact⟨rfl,rfl⟩))
end Go.Proofs.YtjlfehpockfkdaaGreat
namespace Go.Proofs.YtjlfehpockfkdaaGreat
open Go.RowKit Fb
theorem Vw.rch_len{zs:List Zn}{kn:List (Int × Int)}(hk:Ve.fmd kn=true)(hz:Tr.fmd zs=true)(o:Int):(Tr.rch zs kn o).length≤64:=by
 unfold Tr.rch
 rcases Tr.at_ways zs o with ⟨-,h,-⟩|⟨k,h1,-,h,-,-⟩
 ·rw[h];exact Vw.k_len hk
 ·rw[h]
  refine Vw.k_len (Vw.z_each hz (z:=zs.getD k (0,0,[])) ?_).2
  rw[List.getD_eq_getElem?_getD,List.getElem?_eq_getElem h1]
  exact List.getElem_mem h1
def GivesNE(l:List Note)(k:Int)(w:World)(e:Ending)(w':World):Prop:=∃(A:Option Addr) (c:Nat),e = .returned (.tuple #[.slice A l.length c,.int .i64 k])∧OneN w' A c l∧(∀b off,A=some ⟨b,off,none⟩→w.heap.size≤b)∧Below w.heap.size w w'
theorem step_mark{o p:Nat}{f:Nat→Bool}{val:Bool}(hop:o≤p)(hv:f p=val)(j:Nat):(if j=p then val else (decide (o≤j∧j<p)&&f j))=(decide (o≤j∧j<p+1)&&f j):=by
 by_cases e:j=p
 ·subst e
  rw[if_pos rfl,decide_eq_true ⟨hop,Nat.lt_succ_self j⟩,Bool.true_and,hv]
 ·rw[if_neg e]
  congr 1
  exact decide_eq_decide.2 (by omega)
theorem step_done{o p:Nat}{f d:Nat→Bool}{val:Bool}(hop:o≤p)(hv:(d p||f p)=val)(j:Nat):(if j=p then val else (d j||(decide (o≤j∧j<p)&&f j)))=(d j||(decide (o≤j∧j<p+1)&&f j)):=by
 by_cases e:j=p
 ·subst e
  rw[if_pos rfl,decide_eq_true ⟨hop,Nat.lt_succ_self j⟩,Bool.true_and,hv]
 ·rw[if_neg e]
  congr 2
  exact decide_eq_decide.2 (by omega)
theorem infoNt44:(Tryz.prog.info? 40).map (fun i=>(i.zero,i.size,i.bytes))=some (some (.agg #[.slice none 0 0,.slice none 0 0,.slice none 0 0,.slice none 0 0]),4,96):=by kernel_rfl
namespace Vw
def shp(v:Vw)(it:List (Int × Int))(k:Nat):Nat→Bool:=fun j=>decide (j<k)&&(Sp.inL it j && !isB v j)
def dn(v:Vw)(it:List (Int × Int))(k:Nat):Nat→Bool:=fun j=>(List.range k).any fun o=>first v it o&&(decide (o≤j)&&like v it o j)
theorem shp_succ(v:Vw)(it:List (Int × Int))(o j:Nat):shp v it (o+1) j=if j=o then (Sp.inL it o && !isB v o) else shp v it o j:=by
 unfold shp
 by_cases e:j=o
 ·subst e;rw[if_pos rfl,decide_eq_true (by omega),Bool.true_and]
 ·rw[if_neg e]
  congr 1
  exact decide_eq_decide.2 (by omega)
theorem dn_succ(v:Vw)(it:List (Int × Int))(o j:Nat):dn v it (o+1) j=(dn v it o j||(first v it o&&(decide (o≤j)&&like v it o j))):=by
 unfold dn
 rw[List.range_succ,List.any_append]
 simp
theorem like_iff(v:Vw)(it:List (Int × Int))(o p:Nat):like v it o p=true↔Sp.inL it p=true∧isB v p=true∧Tr.rch v.z v.k (p:Int)=Tr.rch v.z v.k (o:Int):=by
 unfold like
 simp
theorem first_iff(v:Vw)(it:List (Int × Int))(o:Nat):first v it o=true↔Sp.inL it o=true∧isB v o=true∧∀p,p<o→like v it o p=false:=by
 unfold first
 simp
theorem least(v:Vw)(it:List (Int × Int)):∀(n o p:Nat),p<n→p<o→like v it o p=true→∃q,q≤p∧first v it q=true∧like v it o q=true
 |0,_,_,h,_,_=>by omega
 |n+1,o,p,hn,hp,hl=>by
  by_cases hf:first v it p=true
  ·exact⟨p,Nat.le_refl _,hf,hl⟩
  ·obtain⟨h1,h2,h3⟩:=(like_iff v it o p).1 hl
   have h4:∃r,r<p∧like v it p r=true:=by
    apply Classical.byContradiction
    intro hc
    refine hf ((first_iff v it p).2 ⟨h1,h2,fun r hr =>?_⟩)
    cases hx:like v it p r with
    |false=>rfl
    |true=>exact absurd ⟨r,hr,hx⟩ hc
   obtain⟨r,hr,hx⟩:=h4
   obtain⟨k1,k2,k3⟩:=(like_iff v it p r).1 hx
   have hx2:like v it o r=true:=(like_iff v it o r).2 ⟨k1,k2,k3.trans h3⟩
   obtain⟨q,q1,q2,q3⟩:=least v it n o r (by omega) (by omega) hx2
   exact⟨q,by omega,q2,q3⟩
theorem shp_all(v:Vw)(it:List (Int × Int))(j:Nat)(h:j<256):shp v it 256 j=(Sp.inL it j && !isB v j):=by unfold shp;rw[decide_eq_true h,Bool.true_and]
theorem first_dn(v:Vw)(it:List (Int × Int))(o:Nat)(h1:Sp.inL it o=true)(h2:isB v o=true):first v it o = !dn v it o o:=by
 cases hd:dn v it o o with
 |true=>
  unfold dn at hd
  rw[List.any_eq_true]at hd
  obtain⟨p,hp,hh⟩:=hd
  rw[List.mem_range]at hp
  simp only[Bool.and_eq_true,decide_eq_true_eq]at hh
  obtain⟨q1,-,q2⟩:=hh
  obtain⟨f1,f2,-⟩:=(first_iff v it p).1 q1
  obtain⟨-,-,l3⟩:=(like_iff v it p o).1 q2
  have hl:like v it o p=true:=(like_iff v it o p).2 ⟨f1,f2,l3.symm⟩
  cases hf:first v it o with
  |false=>rfl
  |true=>have:=((first_iff v it o).1 hf).2.2 p hp;rw[hl]at this;cases this
 |false=>
  refine(first_iff v it o).2 ⟨h1,h2,fun p hp =>?_⟩
  cases hl:like v it o p with
  |false=>rfl
  |true=>
   obtain⟨q,q1,q2,q3⟩:=least v it (p+1) o p (by omega) hp hl
   exfalso
   obtain⟨-,-,l3⟩:=(like_iff v it o q).1 q3
   have hc:dn v it o o=true:=by
    unfold dn
    rw[List.any_eq_true]
    refine⟨q,List.mem_range.2 (by omega),?_⟩
    simp only[Bool.and_eq_true,decide_eq_true_eq]
    exact⟨q2,by omega,(like_iff v it q o).2 ⟨h1,h2,l3.symm⟩⟩
   rw[hd]at hc
   cases hc
end Vw
set_option maxRecDepth 100000 in
set_option maxHeartbeats 6400000 in
theorem vsum_any(q:Vl)(I:Option Addr)(ci:Nat)(it:List (Int × Int))(w:World)(h:VwAt w q)(hi:OneL w I ci it) :
  Calls Tryz.prog 31 #[.agg (vwCells q),.slice I it.length ci] w (GivesNE (Vw.sumR q.vw it).1 (Vw.sumR q.vw it).2 w):=by
 obtain⟨i0,hI0,hz0,hz1,hz2⟩:=info_parts infoNt44
 have hR:Vw.sumR q.vw it=if Vw.fmd q.vw=true then (Vw.part q.vw q.k (fun o=>Sp.inL it o && !Vw.isB q.vw o)::((List.range 256).filter (Vw.first q.vw it)).map (fun (o:Nat)=>Vw.part q.vw (Tr.rch (q.z.map Zc.zn) q.k (o:Int)) (Vw.like q.vw it o)),0) else ([],1):=rfl
 obtain⟨⟨rb,re⟩,hRR⟩:∃p,Vw.sumR q.vw it=p:=⟨_,rfl⟩
 rw[hRR]
 rw[hRR]at hR
 have c1:=fun wx (hb:Below w.heap.size w wx)=>vformed_any q wx (h.later hb)
 have c2:=fun wx (hb:Below w.heap.size w wx)=>set_any I ci it wx (hi.later hb).len (hi.later hb).stamps
 have c3:=fun (hf:Vw.fmd q.vw=true) wx (hb:Below w.heap.size w wx)=>zblurred_any q.Z q.cz q.z wx (h.later hb).z
 have c4:=fun (hf:Vw.fmd q.vw=true) A c wx (ho:OneL wx A c (Tr.blr (q.z.map Zc.zn)))=>show Calls Tryz.prog 97 #[.slice A (Tr.blr (q.z.map Zc.zn)).length c] wx (Says (.agg (Sp.arr (Vw.isB q.vw))) wx) from by
  have h1:=set_any A c (Tr.blr (q.z.map Zc.zn)) wx ho.len ho.stamps
  rw[Sp.arr_ext (f:=Sp.inL (Tr.blr (q.z.map Zc.zn))) (g:=Vw.isB q.vw) (fun i hi=>Tr.blr_in (Vw.fmd_z hf) hi)]at h1
  exact h1
 have c5:=fun (hf:Vw.fmd q.vw=true) (o:Nat) (ho:o<256) wx (hb:Below w.heap.size w wx)=>show Calls Tryz.prog 36 #[.slice q.Z q.z.length q.cz,.slice q.K q.k.length q.ck,.int .i64 (o:Int)] wx (Gives (Tr.rch (q.z.map Zc.zn) q.k (o:Int)) wx) from by
  have h1:=zreach_any q.Z q.K q.cz q.ck q.z q.k (o:Int) wx (h.later hb).z (h.later hb).k
  have h2:=Vw.fmd_all hf
  rw[show Tr.rchR (q.z.map Zc.zn) q.k (o:Int)=Tr.rch (q.z.map Zc.zn) q.k (o:Int) from if_pos ⟨h2.2.1,h2.1,by omega,by omega⟩]at h1
  exact h1
 have c6:=fun (hf:Vw.fmd q.vw=true) E ce (reach:List (Int × Int)) f wx (hb:Below w.heap.size w wx) (he:OneL wx E ce reach) (hr:reach.length≤64)=>vpart_any q E ce reach f wx (h.later hb) hf he hr
 have hr64:=fun (hf:Vw.fmd q.vw=true) (o:Nat)=>Vw.rch_len (Vw.fmd_all hf).1 (Vw.fmd_all hf).2.1 (o:Int)
 have hk64:=fun (hf:Vw.fmd q.vw=true)=>Vw.k_len (Vw.fmd_all hf).1
 have hKK:=fun wx (hb:Below w.heap.size w wx)=>(h.later hb).k
 have sh0:Vw.shp q.vw it 0=fun _=>false:=funext fun j=>by unfold Vw.shp;rw[decide_eq_false (by omega),Bool.false_and]
 have she:=fun j (hj:j<256)=>Vw.shp_all q.vw it j hj
 have dn0:Vw.dn q.vw it 0=fun _=>false:=rfl
 have shs:=fun o j=>Vw.shp_succ q.vw it o j
 have dns:=fun o j=>Vw.dn_succ q.vw it o j
 have fdn:=fun (o:Nat) (_:o<256) h1 h2=>Vw.first_dn q.vw it o h1 h2
 have fo:=fun o=>show Vw.first q.vw it o=(Sp.inL it o&&(Vw.isB q.vw o&&(List.range o).all fun p =>!Vw.like q.vw it o p)) from rfl
 have ln:=fun o (hf:Vw.first q.vw it o=true)=>((Vw.first_iff q.vw it o).1 hf).2.2
 have lk:=fun (o p:Nat)=>show Vw.like q.vw it o p=(Sp.inL it p&&(Vw.isB q.vw p&&decide (Tr.rch (q.z.map Zc.zn) q.k (p:Int)=Tr.rch (q.z.map Zc.zn) q.k (o:Int)))) from rfl
 clear hRR h hi
 obtain⟨fm,hfm⟩:∃f,Vw.fmd q.vw=f:=⟨_,rfl⟩
 rw[hfm]at c1 c3 c4 c5 c6 hr64 hk64 hR
 obtain⟨prt,hprt⟩:∃f,(fun o:Nat=>Vw.part q.vw (Tr.rch (q.z.map Zc.zn) q.k (o:Int)) (Vw.like q.vw it o))=f:=⟨_,rfl⟩
 have hP:=fun o:Nat=>congrFun hprt o
 rw[hprt]at hR
 obtain⟨like,hlike⟩:∃f,Vw.like q.vw it=f:=⟨_,rfl⟩
 obtain⟨fst,hfst⟩:∃f,Vw.first q.vw it=f:=⟨_,rfl⟩
 obtain⟨shp,hshp⟩:∃f,Vw.shp q.vw it=f:=⟨_,rfl⟩
 obtain⟨dn,hdn⟩:∃f,Vw.dn q.vw it=f:=⟨_,rfl⟩
 obtain⟨fb,hfb⟩:∃f,Vw.isB q.vw=f:=⟨_,rfl⟩
 obtain⟨fi,hfi⟩:∃f,Sp.inL it=f:=⟨_,rfl⟩
 obtain⟨RC,hRC⟩:∃f,(fun o:Nat=>Tr.rch (q.z.map Zc.zn) q.k (o:Int))=f:=⟨_,rfl⟩
 obtain⟨bl,hbl⟩:∃l,Tr.blr (q.z.map Zc.zn)=l:=⟨_,rfl⟩
 rw[hlike]at dns fo ln lk
 rw[hfst]at dns fdn fo ln hR
 rw[hshp]at sh0 shs she
 rw[hdn]at dn0 dns fdn
 rw[hfb]at c4 shs she fdn fo lk hR
 rw[hfi]at c2 shs she fdn fo lk hR
 rw[hbl]at c3 c4
 replace c5:=fun hf (o:Nat) ho wx hb=>show Calls Tryz.prog 36 #[.slice q.Z q.z.length q.cz,.slice q.K q.k.length q.ck,.int .i64 (o:Int)] wx (Gives (RC o) wx) from by rw[←hRC];exact c5 hf o ho wx hb
 replace lk:=fun (o p:Nat)=>show like o p=(fi p&&(fb p&&decide (RC p=RC o))) from by rw[←hRC];exact lk o p
 replace hr64:=fun hf (o:Nat)=>show(RC o).length≤64 from by rw[←hRC];exact hr64 hf o
 replace hP:=fun o:Nat=>show Vw.part q.vw (RC o) (like o)=prt o from by rw[←hRC,←hlike];exact hP o
 obtain⟨K,ck,kn,Z,cz,zs,H,ch,hs,B,cb,bs,room⟩:=q
 unfold vwCells at c1 c6 ⊢
 dsimp only at c1 c2 c3 c5 c6 hk64 hKK hR ⊢
 have HA:=Hd hR.symm
 have C1:=Hd c1
 have C2:=Hd c2
 have C3:=Hd c3
 have C4:=Hd c4
 have C5:=Hd c5
 have C6:=Hd c6
 have HKK:=Hd hKK
 have HR64:=Hd hr64
 have HK64:=Hd hk64
 have HSH0:=Hd sh0
 have HSHE:=Hd she
 have HDN0:=Hd dn0
 have HSH:=Hd shs
 have HDN:=Hd dns
 have HFD:=Hd fdn
 have HFO:=Hd fo
 have HLN:=Hd ln
 have HLKE:=Hd lk
 have HPR:=Hd hP
 have HRN:=Hd (fun o:Nat=>show((List.range (o+1)).filter fst).map prt=((List.range o).filter fst).map prt++(if fst o=true then [prt o] else []) from by
  rw[List.range_succ,List.filter_append,List.map_append,List.filter_cons,List.filter_nil]
  cases fst o<;>rfl)
 clear c1 c2 c3 c4 c5 c6 hKK hr64 hk64 sh0 she dn0 shs dns fdn fo ln lk hP hR hfm hprt hlike hfst hshp hdn hfb hfi hRC hbl
 have hb0:=below_new (Below.refl w.heap.size w) (.cells #[.slice K kn.length ck,.slice Z zs.length cz,.slice H hs.length ch,.slice B bs.length cb,.int .i64 room] 27)
 have hV:=Blk.new w 27 #[.slice K kn.length ck,.slice Z zs.length cz,.slice H hs.length ch,.slice B bs.length cb,.int .i64 room]
 obtain⟨W,hW⟩:∃W,w.alloc (.cells #[.slice K kn.length ck,.slice Z zs.length cz,.slice H hs.length ch,.slice B bs.length cb,.int .i64 room] 27)=W:=⟨_,rfl⟩
 rw[hW]at hb0 hV
 have HW:=Hd hW
 obtain⟨g,hgg⟩:∃g,w.heap.size=g:=⟨_,rfl⟩
 rw[hgg]at hV
 have HV:=Hd (show Blk W (g) 27 #[.slice K kn.length ck,.slice Z zs.length cz,.slice H hs.length ch,.slice B bs.length cb,.int .i64 room] from hV)
 have HB0:=Hd hb0
 clear hW hb0 hV
 go_enter Tryz.func31,Tryz.ntmps31
 go_upto_region 1 with (fail)
 rw[HW.out]
 clear HW
 have V_0:=HV.out.cell (i:=0) rfl
 have V_1:=HV.out.cell (i:=1) rfl
 have V_2:=HV.out.cell (i:=2) rfl
 have V_3:=HV.out.cell (i:=3) rfl
 have V_4:=HV.out.cell (i:=4) rfl
 go_wp2_with fail
 refine(C1.out W HB0.out).mono ?_
 rintro e w1 ⟨rfl,b1⟩
 clear V_0 V_1 V_2 V_3 V_4
 replace HV:=Hd (HV.out.later b1)
 have HB1:=Hd (below_on HB0.out b1)
 clear HB0
 clear b1 C1
 cases fm with
 |false=>
  have hr:=HA.out
  simp[]at hr
  obtain⟨rfl,rfl⟩:=hr
  have HQ:=Hd HB1.out
  go_wp2
  go_ret2
  exact⟨none,0,rfl,OneN.nil _,(fun _ _ h=>by cases h),HQ.out⟩
 |true=>
 replace C3:=Hd (C3.out (by first|rfl|trivial))
 replace C4:=Hd (C4.out (by first|rfl|trivial))
 replace C5:=Hd (C5.out (by first|rfl|trivial))
 replace C6:=Hd (C6.out (by first|rfl|trivial))
 have hgW1:g<w1.heap.size:=HV.out.lt
 have hwW1:w.heap.size≤w1.heap.size:=HB1.out.size
 have V_1:=HV.out.cell (i:=1) rfl
 go_upto_region 3 with (fail)
 refine wp_region_facts2 8 (by kernel_rfl) (by kernel_rfl)
  (fun v=>{ tmps:=#[.agg #[.slice K kn.length ck,.slice Z zs.length cz,.slice H hs.length ch,.slice B bs.length cb,.int .i64 room],.slice I it.length ci,.pointer (some ⟨g,0,none⟩),undef,.slice none 0 0,.int .i64 0,v 6,v 7,undef,undef,undef,undef,undef,undef,undef,.agg #[.slice K kn.length ck,.slice Z zs.length cz,.slice H hs.length ch,.slice B bs.length cb,.int .i64 room],.bool true,.bool false,v 0,v 1,v 2,v 3,v 4,v 5,undef,undef,undef,undef,undef,undef,undef,undef,undef,undef,undef,undef,undef,undef,undef,undef,undef,undef,undef,undef,undef,undef,undef,undef,undef,undef,undef,undef,undef,undef,undef,undef,undef,undef,undef,undef,undef,undef,undef,undef,undef,undef,undef,undef,undef,undef,undef,undef,undef,undef,undef,undef,undef,undef,undef,undef,undef,undef,undef,undef,undef,undef,undef,undef,undef,undef,undef,undef,undef,undef,undef,undef,undef,undef,undef,undef,undef,undef,undef,undef,undef,undef,undef,undef,undef],defers:=[] }) (fun _=>undef)
  (fun i x wx=>match i with
   |0=>x = .slice I it.length ci
   |1=>x = .agg (Sp.arr fi)
   |2=>x = .pointer (some ⟨g,1,none⟩)
   |3=>x = .slice Z zs.length cz
   |4=>∃A9 c9,x = .slice A9 bl.length c9∧OneL wx A9 c9 bl
   |5=>x = .agg (Sp.arr fb)
   |6=>∃g9,x = .pointer (some ⟨g9,0,none⟩)∧Blk wx g9 138 (Sp.arr fun _=>false)∧w1.heap.size≤g9
   |7=>∃g9,x = .pointer (some ⟨g9,0,none⟩)∧Blk wx g9 138 (Sp.arr fun _=>false)∧w1.heap.size≤g9
   |_=>True)
  (fun i j x y=>(i=6∧j=7∨i=7∧j=6)→∀g g':Nat,x = .pointer (some ⟨g,0,none⟩)→y = .pointer (some ⟨g',0,none⟩)→g≠g')
  (fun w1 w2=>Below w1.heap.size w1 w2) (fun h1 h2=>below_on h1 h2) (fun _=>Below.refl _ _) (Below.drew (Below.refl _ _)) ?stabA ?stepA ?doneA
 case stabA=>
  rintro i x w1 w2 h hb
  match i,h with
  |0,h=>exact h
  |1,h=>exact h
  |2,h=>exact h
  |3,h=>exact h
  |4,h=>obtain⟨A9,c9,e9,h9⟩:=h;exact⟨A9,c9,e9,h9.later hb⟩
  |5,h=>exact h
  |6,h=>obtain⟨g9,e9,h9,m9⟩:=h;exact⟨g9,e9,h9.later hb,m9⟩
  |7,h=>obtain⟨g9,e9,h9,m9⟩:=h;exact⟨g9,e9,h9.later hb,m9⟩
  |i+8,_=>trivial
 case stepA=>
  intro i hi v w' hb hd
  match i,hi with
  |0,_=>
   refine wpOp_oneH rfl fun KK HKK =>?_
   clear hd
   go_wp2
   exact HKK.out _ _ ⟨_,(by simp[upd];done),Below.refl _ _,rfl,fun j y hj hy=>⟨fun h=>by omega,fun h=>by omega⟩⟩
  |1,_=>
   have h0:v 0=_:=hdx hd 0 (by kernel_rfl)
   refine wpOp_oneH rfl fun KK HKK =>?_
   clear hd
   rw[h0]
   go_wp2_with fail
   refine(C2.out _ (below_on HB1.out hb)).mono ?_
   rintro e w'' ⟨rfl,b⟩
   go_wp2
   exact HKK.out _ _ ⟨_,(by simp[upd,h0];done),b,rfl,fun j y hj hy=>⟨fun h=>by omega,fun h=>by omega⟩⟩
  |2,_=>
   refine wpOp_oneH rfl fun KK HKK =>?_
   clear hd
   go_wp2
   exact HKK.out _ _ ⟨_,(by simp[upd];done),Below.refl _ _,rfl,fun j y hj hy=>⟨fun h=>by omega,fun h=>by omega⟩⟩
  |3,_=>
   have h2:v 2=_:=hdx hd 2 (by kernel_rfl)
   refine wpOp_oneH rfl fun KK HKK =>?_
   clear hd
   rw[h2]
   have q0:=cell_later hb V_1
   go_wp2
   exact HKK.out _ _ ⟨_,(by simp[upd,h2];done),Below.refl _ _,rfl,fun j y hj hy=>⟨fun h=>by omega,fun h=>by omega⟩⟩
  |4,_=>
   have h3:v 3=_:=hdx hd 3 (by kernel_rfl)
   refine wpOp_oneH rfl fun KK HKK =>?_
   clear hd
   rw[h3]
   go_wp2_with fail
   refine(C3.out _ (below_on HB1.out hb)).mono ?_
   rintro e w'' ⟨u,rfl,ho,b⟩
   obtain⟨A9,c9,rfl,hB⟩:=OneL.of_own ho
   go_wp2
   exact HKK.out _ _ ⟨_,(by simp[upd,h3];done),b,⟨A9,c9,rfl,hB⟩,fun j y hj hy=>⟨fun h=>by omega,fun h=>by omega⟩⟩
  |5,_=>
   obtain⟨A4,c4,h4,o4⟩:=hd 4 (List.elem_iff.1 (by kernel_rfl))
   refine wpOp_oneH rfl fun KK HKK =>?_
   clear hd
   rw[h4]
   have NB:=Hd (C4.out A4 c4 w' o4)
   clear o4
   go_wp2_with fail
   refine NB.out.mono ?_
   rintro e w'' ⟨rfl,b⟩
   go_wp2
   exact HKK.out _ _ ⟨_,(by simp[upd,h4];done),b,rfl,fun j y hj hy=>⟨fun h=>by omega,fun h=>by omega⟩⟩
  |6,_=>
   refine wpOp_oneH rfl fun KK HKK =>?_
   clear hd
   have bn:=below_new (Below.refl w'.heap.size w') (.cells Tryz.zeroCells138 138)
   have BN:=(show ∀z,z=(Sp.arr fun _=>false)→Blk (w'.alloc (.cells z 138)) w'.heap.size 138 (Sp.arr fun _=>false) from fun z e=>by subst e;exact Blk.new w' 138 _) _ marks_zero
   have hz:=hb.size
   go_wp2
   exact HKK.out _ _ ⟨_,(by simp[upd];done),bn,⟨_,rfl,BN,hz⟩,fun j y hj hy=>⟨fun h=>two_new (by rw[show j=7 by omega]at hy;exact hy),fun h g g' e1 e2=>(two_new (by rw[show j=7 by omega]at hy;exact hy) g' g e2 e1).symm⟩⟩
  |7,_=>
   refine wpOp_oneH rfl fun KK HKK =>?_
   clear hd
   have bn:=below_new (Below.refl w'.heap.size w') (.cells Tryz.zeroCells138 138)
   have BN:=(show ∀z,z=(Sp.arr fun _=>false)→Blk (w'.alloc (.cells z 138)) w'.heap.size 138 (Sp.arr fun _=>false) from fun z e=>by subst e;exact Blk.new w' 138 _) _ marks_zero
   have hz:=hb.size
   go_wp2
   exact HKK.out _ _ ⟨_,(by simp[upd];done),bn,⟨_,rfl,BN,hz⟩,fun j y hj hy=>⟨fun h=>two_new (by rw[show j=6 by omega]at hy;exact hy),fun h g g' e1 e2=>(two_new (by rw[show j=6 by omega]at hy;exact hy) g' g e2 e1).symm⟩⟩
  |k+8,hk=>exact absurd hk (by omega)
 case doneA=>
  intro v w5 hb hf hr
  have h0:v 0=_:=hf 0 (by decide)
  have h1:v 1=_:=hf 1 (by decide)
  have h2:v 2=_:=hf 2 (by decide)
  have h3:v 3=_:=hf 3 (by decide)
  obtain⟨A4,c4,h4,o4⟩:=hf 4 (by decide)
  have h5:v 5=_:=hf 5 (by decide)
  obtain⟨g6,h6,o6,m6⟩:=hf 6 (by decide)
  obtain⟨g7,h7,o7,m7⟩:=hf 7 (by decide)
  clear hf
  rw[h0,h1,h2,h3,h4,h5,h6,h7]
  clear V_1
  replace HV:=Hd (HV.out.later hb)
  have HB2:=Hd (below_on HB1.out hb)
  clear HB1
  clear hb
  have hne:=hr 6 7 (by omega) (by omega) (by omega) (.inl ⟨rfl,rfl⟩) g6 g7 h6 h7
  have hl6:=o6.lt
  have hl7:=o7.lt
  have hlV:=HV.out.lt
  clear hr
  simp only[List.drop_succ_cons,List.drop_zero]
  have D7:=Hd (o7.rowFar (g':=g6) hne.symm (Sp.arr fi))
  have D6:=Hd o6
  go_upto_region 4 with (first|(refine wpList_store_row rfl 138 _ _ rfl g6 _ rfl rfl 138 _ D6.out (by rw[Sp.arr_size];exact info256) (by rw[Sp.arr_size,Sp.arr_size]) (one_marks _) ?_)|(refine wpList_store_row rfl 138 _ _ rfl g7 _ rfl rfl 138 _ D7.out (by rw[Sp.arr_size];exact info256) (by rw[Sp.arr_size,Sp.arr_size]) (one_marks _) ?_))
  obtain⟨w3,hw3⟩:∃x,(w5.setRow g6 (Sp.arr fi)).setRow g7 (Sp.arr fb)=x:=⟨_,rfl⟩
  rw[hw3]
  have hI:Blk w3 g6 138 (Sp.arr fi):=hw3 ▸ (D6.out.row (Sp.arr fi)).rowFar (g':=g7) hne (Sp.arr fb)
  have hL:Blk w3 g7 138 (Sp.arr fb):=hw3 ▸ D7.out.row (Sp.arr fb)
  have hV6:Blk w3 g 27 #[.slice K kn.length ck,.slice Z zs.length cz,.slice H hs.length ch,.slice B bs.length cb,.int .i64 room]:=hw3 ▸ (HV.out.rowFar (g':=g6) (by omega) (Sp.arr fi)).rowFar (g':=g7) (by omega) (Sp.arr fb)
  have hb6:Below w.heap.size w w3:=hw3 ▸ below_setRow (below_setRow HB2.out (by omega) (Sp.arr fi)) (by omega) (Sp.arr fb)
  replace HV:=Hd hV6
  have HI:=Hd hI
  have HL:=Hd hL
  have HB3:=Hd hb6
  clear hw3 hI hL hV6 hb6 D6 D7 o6 o7 HB2 o4
  obtain⟨g8,hgg8⟩:∃g8,w3.heap.size=g8:=⟨_,rfl⟩
  have lt_V_g8:g<g8:=by have:=HV.out.lt;rw[hgg8]at this;exact this
  have lt_I_g8:g6<g8:=by have:=HI.out.lt;rw[hgg8]at this;exact this
  have lt_L_g8:g7<g8:=by have:=HL.out.lt;rw[hgg8]at this;exact this
  have le_g8:w.heap.size≤g8:=by have:=HB3.out.size;rw[hgg8]at this;exact this
  go_upto_region 5 with (fail)
  have bz:=below_new (below_new (Below.refl w3.heap.size w3) (.cells Tryz.zeroCells138 138)) (.cells Tryz.zeroCells138 138)
  have hS:=(show ∀z,z=(Sp.arr fun _=>false)→Blk ((w3.alloc (.cells z 138)).alloc (.cells z 138)) w3.heap.size 138 (Sp.arr fun _=>false) from fun z e=>by subst e;exact(Blk.new w3 138 _).alloc _) _ marks_zero
  have hD:=(show ∀z,z=(Sp.arr fun _=>false)→Blk ((w3.alloc (.cells z 138)).alloc (.cells z 138)) (w3.heap.size+1) 138 (Sp.arr fun _=>false) from fun z e=>by subst e;have h:=Blk.new (w3.alloc (.cells (Sp.arr fun _=>false) 138)) 138 (Sp.arr fun _=>false);rw[World.size_alloc]at h;exact h) _ marks_zero
  obtain⟨w4,hw4⟩:∃x,(w3.alloc (.cells Tryz.zeroCells138 138)).alloc (.cells Tryz.zeroCells138 138)=x:=⟨_,rfl⟩
  rw[hw4]at bz hS hD
  rw[hgg8]at hS hD
  rw[hw4]
  replace HV:=Hd (HV.out.later bz)
  replace HI:=Hd (HI.out.later bz)
  replace HL:=Hd (HL.out.later bz)
  have HB4:=Hd (below_on HB3.out bz)
  clear HB3
  have HS:=Hd hS
  have HD:=Hd hD
  clear bz hS hD hw4
  have hlt8:g8+1<w4.heap.size:=HD.out.lt
  go_wp2_with fail
  have HW8:=Hd HB4.out.size
  go_loopw [10,11] (fun s10 s11 wr=>∃(o:Nat) (L:List Nl),o≤256∧s11 = .int .i64 (o:Int)∧L.map Nl.n=((List.range o).filter fst).map prt∧OwnNs wr w4.heap.size 40 s10 L∧Blk wr g8 138 (Sp.arr (shp o))∧Blk wr (g8+1) 138 (Sp.arr (dn o))∧Blk wr g6 138 (Sp.arr fi)∧Blk wr g7 138 (Sp.arr fb)∧Blk wr g 27 #[.slice K kn.length ck,.slice Z zs.length cz,.slice H hs.length ch,.slice B bs.length cb,.int .i64 room]∧w4.heap.size≤wr.heap.size∧Below w.heap.size w wr) (fun _ s11 _=>256-(intOf s11).toNat)
  case atStart=>exact⟨0,[],Nat.zero_le _,rfl,rfl,OwnNs.nil _ _ _,HS.out.marks_same (fun j _=>by rw[HSH0.out]),HD.out.marks_same (fun j _=>by rw[HDN0.out]),HI.out,HL.out,HV.out,Nat.le_refl _,HB4.out⟩
  case round=>
   clear HV HI HL HS HD HB4
   obtain⟨o,L,ho,rfl,hLm,hN,hS,hD,hI,hL,hV,hsz,hbw⟩:=hrel
   have HS:=Hd hS
   have HD:=Hd hD
   have HI:=Hd hI
   have HL:=Hd hL
   have HV:=Hd hV
   have HBW:=Hd hbw
   have XN:=Hd hN
   have HLM:=Hd hLm
   clear hS hD hI hL hV hbw hN hLm
   have XS:=Hd hsz
   by_cases hlt:o<256
   ·
    have hi0:(0:Int)≤(o:Int):=by omega
    have hi1:(o:Int)<256:=by omega
    have HDS:=Hd (HDN.out o)
    have HSS:=Hd (HSH.out o)
    have HRG:=Hd (HRN.out o)
    obtain⟨VN,vc,hvv,-⟩:=own_form XN.out.row
    subst hvv
    have ms:=HS.out.marks_cell o hlt
    have m6:=HI.out.marks_cell o hlt
    have m7:=HL.out.marks_cell o hlt
    have mf:=HS.out.free o
    obtain⟨io,hio⟩:∃b,fi o=b:=⟨_,rfl⟩
    obtain⟨bo,hbo⟩:∃b,fb o=b:=⟨_,rfl⟩
    rw[hio]at m6
    rw[hbo]at m7
    have HIO:=Hd hio
    have HBO:=Hd hbo
    clear hio hbo
    cases io with
    |false=>
     go_upto_region 10 with (fail)
     clear m6 m7 mf ms
     obtain⟨w5,hw5⟩:∃x,wr.setCell ⟨g8,o,none⟩ (.bool false)=x:=⟨_,rfl⟩
     have t_XN:=XN.out.mild (fun k hk=>Below.heap_setCell wr ⟨g8,o,none⟩ (.bool false) k (own_other XN.out.row HS.out (by decide) k hk)) (Mild.put HS.out (dull_arr _) o (.bool false))
     have t_XS:w4.heap.size≤(wr.setCell ⟨g8,o,none⟩ (.bool false)).heap.size:=by simpa using XS.out
     have t_HV:=HV.out.far (p:=⟨g8,o,none⟩) (by show g≠g8;omega) (.bool false)
     have t_HI:=HI.out.far (p:=⟨g8,o,none⟩) (by show g6≠g8;omega) (.bool false)
     have t_HL:=HL.out.far (p:=⟨g8,o,none⟩) (by show g7≠g8;omega) (.bool false)
     have t_HD:=HD.out.far (p:=⟨g8,o,none⟩) (by show g8+1≠g8;omega) (.bool false)
     have t_HS:Blk (wr.setCell ⟨g8,o,none⟩ (.bool false)) (g8) 138 (Sp.arr (shp (o+1))):=(HS.out.marks_put o hlt false).marks_same (fun j _=>by rw[HSS.out j];by_cases ej:j=o<;>simp[ej,HIO.out,HBO.out])
     have t_HB5:=HBW.out.setCell (p:=⟨g8,o,none⟩) (by show w.heap.size≤g8;omega) (.bool false)
     rw[hw5]at t_XN t_XS t_HV t_HI t_HL t_HD t_HS t_HB5
     rw[hw5]
     replace XN:=Hd t_XN
     replace XS:=Hd t_XS
     replace HV:=Hd t_HV
     replace HI:=Hd t_HI
     replace HL:=Hd t_HL
     replace HD:=Hd t_HD
     replace HS:=Hd t_HS
     have HB5:=Hd t_HB5
     clear t_XN t_XS t_HV t_HI t_HL t_HD t_HS t_HB5 hw5 HBW
     have m1:=HI.out.marks_cell o hlt
     rw[HIO.out]at m1
     have HFN:=Hd (show fst o=false from by rw[HFO.out o,HIO.out];rfl)
     have HL2:=Hd (show L.map Nl.n=((List.range (o+1)).filter fst).map prt from by rw[HRG.out,HFN.out,if_neg Bool.false_ne_true,List.append_nil];exact HLM.out)
     have HD2:=Hd (HD.out.marks_same (f':=dn (o+1)) (fun j _=>by rw[HDS.out j,HFN.out];simp))
     have HS5:=XS
     go_wp2_with fail
     go_roundw
     case rel=>exact⟨o+1,L,by omega,by go_num,HL2.out,XN.out,HS.out,HD2.out,HI.out,HL.out,HV.out,HS5.out,HB5.out⟩
     case measure=>simp[intOf];omega
    |true=>
    cases bo with
    |false=>
     go_upto_region 10 with (fail)
     clear m6 m7 mf ms
     obtain⟨w5,hw5⟩:∃x,wr.setCell ⟨g8,o,none⟩ (.bool true)=x:=⟨_,rfl⟩
     have t_XN:=XN.out.mild (fun k hk=>Below.heap_setCell wr ⟨g8,o,none⟩ (.bool true) k (own_other XN.out.row HS.out (by decide) k hk)) (Mild.put HS.out (dull_arr _) o (.bool true))
     have t_XS:w4.heap.size≤(wr.setCell ⟨g8,o,none⟩ (.bool true)).heap.size:=by simpa using XS.out
     have t_HV:=HV.out.far (p:=⟨g8,o,none⟩) (by show g≠g8;omega) (.bool true)
     have t_HI:=HI.out.far (p:=⟨g8,o,none⟩) (by show g6≠g8;omega) (.bool true)
     have t_HL:=HL.out.far (p:=⟨g8,o,none⟩) (by show g7≠g8;omega) (.bool true)
     have t_HD:=HD.out.far (p:=⟨g8,o,none⟩) (by show g8+1≠g8;omega) (.bool true)
     have t_HS:Blk (wr.setCell ⟨g8,o,none⟩ (.bool true)) (g8) 138 (Sp.arr (shp (o+1))):=(HS.out.marks_put o hlt true).marks_same (fun j _=>by rw[HSS.out j];by_cases ej:j=o<;>simp[ej,HIO.out,HBO.out])
     have t_HB5:=HBW.out.setCell (p:=⟨g8,o,none⟩) (by show w.heap.size≤g8;omega) (.bool true)
     rw[hw5]at t_XN t_XS t_HV t_HI t_HL t_HD t_HS t_HB5
     rw[hw5]
     replace XN:=Hd t_XN
     replace XS:=Hd t_XS
     replace HV:=Hd t_HV
     replace HI:=Hd t_HI
     replace HL:=Hd t_HL
     replace HD:=Hd t_HD
     replace HS:=Hd t_HS
     have HB5:=Hd t_HB5
     clear t_XN t_XS t_HV t_HI t_HL t_HD t_HS t_HB5 hw5 HBW
     have m1:=HI.out.marks_cell o hlt
     rw[HIO.out]at m1
     have m2:=HS.out.marks_cell o hlt
     rw[show shp (o+1) o=true from by rw[HSS.out o,HIO.out,HBO.out];simp]at m2
     have HFN:=Hd (show fst o=false from by rw[HFO.out o,HBO.out];simp)
     have HL2:=Hd (show L.map Nl.n=((List.range (o+1)).filter fst).map prt from by rw[HRG.out,HFN.out,if_neg Bool.false_ne_true,List.append_nil];exact HLM.out)
     have HD2:=Hd (HD.out.marks_same (f':=dn (o+1)) (fun j _=>by rw[HDS.out j,HFN.out];simp))
     have HS5:=XS
     go_wp2_with fail
     go_roundw
     case rel=>exact⟨o+1,L,by omega,by go_num,HL2.out,XN.out,HS.out,HD2.out,HI.out,HL.out,HV.out,HS5.out,HB5.out⟩
     case measure=>simp[intOf];omega
    |true=>
     go_upto_region 10 with (fail)
     clear m6 m7 mf ms
     obtain⟨w5,hw5⟩:∃x,wr.setCell ⟨g8,o,none⟩ (.bool false)=x:=⟨_,rfl⟩
     have t_XN:=XN.out.mild (fun k hk=>Below.heap_setCell wr ⟨g8,o,none⟩ (.bool false) k (own_other XN.out.row HS.out (by decide) k hk)) (Mild.put HS.out (dull_arr _) o (.bool false))
     have t_XS:w4.heap.size≤(wr.setCell ⟨g8,o,none⟩ (.bool false)).heap.size:=by simpa using XS.out
     have t_HV:=HV.out.far (p:=⟨g8,o,none⟩) (by show g≠g8;omega) (.bool false)
     have t_HI:=HI.out.far (p:=⟨g8,o,none⟩) (by show g6≠g8;omega) (.bool false)
     have t_HL:=HL.out.far (p:=⟨g8,o,none⟩) (by show g7≠g8;omega) (.bool false)
     have t_HD:=HD.out.far (p:=⟨g8,o,none⟩) (by show g8+1≠g8;omega) (.bool false)
     have t_HS:Blk (wr.setCell ⟨g8,o,none⟩ (.bool false)) (g8) 138 (Sp.arr (shp (o+1))):=(HS.out.marks_put o hlt false).marks_same (fun j _=>by rw[HSS.out j];by_cases ej:j=o<;>simp[ej,HIO.out,HBO.out])
     have t_HB5:=HBW.out.setCell (p:=⟨g8,o,none⟩) (by show w.heap.size≤g8;omega) (.bool false)
     rw[hw5]at t_XN t_XS t_HV t_HI t_HL t_HD t_HS t_HB5
     rw[hw5]
     replace XN:=Hd t_XN
     replace XS:=Hd t_XS
     replace HV:=Hd t_HV
     replace HI:=Hd t_HI
     replace HL:=Hd t_HL
     replace HD:=Hd t_HD
     replace HS:=Hd t_HS
     have HB5:=Hd t_HB5
     clear t_XN t_XS t_HV t_HI t_HL t_HD t_HS t_HB5 hw5 HBW
     have m1:=HI.out.marks_cell o hlt
     rw[HIO.out]at m1
     have m2:=HS.out.marks_cell o hlt
     rw[show shp (o+1) o=false from by rw[HSS.out o,HIO.out,HBO.out];simp]at m2
     have m3:=HD.out.marks_cell o hlt
     have hFD:=HFD.out o hlt HIO.out HBO.out
     obtain⟨dd,hdd⟩:∃b,dn o o=b:=⟨_,rfl⟩
     rw[hdd]at m3 hFD
     have HFQ:=Hd hFD
     clear hdd hFD
     cases dd with
     |true=>
      have HFN:=Hd (show fst o=false from by rw[HFQ.out];rfl)
      have HL2:=Hd (show L.map Nl.n=((List.range (o+1)).filter fst).map prt from by rw[HRG.out,HFN.out,if_neg Bool.false_ne_true,List.append_nil];exact HLM.out)
      have HD2:=Hd (HD.out.marks_same (f':=dn (o+1)) (fun j _=>by rw[HDS.out j,HFN.out];simp))
      have HS5:=XS
      go_wp2_with fail
      go_roundw
      case rel=>exact⟨o+1,L,by omega,by go_num,HL2.out,XN.out,HS.out,HD2.out,HI.out,HL.out,HV.out,HS5.out,HB5.out⟩
      case measure=>simp[intOf];omega
     |false=>
     have HFY:=Hd (show fst o=true from by rw[HFQ.out];rfl)
     have HLK:=Hd (HLN.out o HFY.out)
     clear HFQ
     have V_0:=HV.out.cell (i:=0) rfl
     have V_1:=HV.out.cell (i:=1) rfl
     go_wp2_with fail
     refine(C5.out o hlt _ HB5.out).mono ?_
     rintro e w6 ⟨u,rfl,ho,b6⟩
     clear V_0 V_1
     replace HV:=Hd (HV.out.later b6)
     replace HI:=Hd (HI.out.later b6)
     replace HL:=Hd (HL.out.later b6)
     replace HS:=Hd (HS.out.later b6)
     replace HD:=Hd (HD.out.later b6)
     have HB6:=Hd (below_on HB5.out b6)
     clear HB5
     replace XN:=Hd (XN.out.later b6)
     replace XS:=Hd (Nat.le_trans XS.out (b6).size)
     clear b6
     obtain⟨RA,rc,rfl,hR⟩:=OneL.of_own ho
     have XR:=Hd hR
     clear ho hR m1 m2 m3
     obtain⟨g13,hgg13⟩:∃g13,w6.heap.size=g13:=⟨_,rfl⟩
     have lt_V_g13:g<g13:=by have:=HV.out.lt;rw[hgg13]at this;exact this
     have lt_I_g13:g6<g13:=by have:=HI.out.lt;rw[hgg13]at this;exact this
     have lt_L_g13:g7<g13:=by have:=HL.out.lt;rw[hgg13]at this;exact this
     have lt_S_g13:g8<g13:=by have:=HS.out.lt;rw[hgg13]at this;exact this
     have lt_D_g13:g8+1<g13:=by have:=HD.out.lt;rw[hgg13]at this;exact this
     have le_g13:w.heap.size≤g13:=by have:=HB6.out.size;rw[hgg13]at this;exact this
     go_upto_region 13 with (fail)
     have bz:=below_new (Below.refl w6.heap.size w6) (.cells Tryz.zeroCells138 138)
     have hA:=(show ∀z,z=(Sp.arr fun _=>false)→Blk (w6.alloc (.cells z 138)) w6.heap.size 138 (Sp.arr fun _=>false) from fun z e=>by subst e;exact Blk.new w6 138 _) _ marks_zero
     obtain⟨w7,hw7⟩:∃x,w6.alloc (.cells Tryz.zeroCells138 138)=x:=⟨_,rfl⟩
     rw[hw7]at bz hA
     rw[hgg13]at hA
     rw[hw7]
     replace HV:=Hd (HV.out.later bz)
     replace HI:=Hd (HI.out.later bz)
     replace HL:=Hd (HL.out.later bz)
     replace HS:=Hd (HS.out.later bz)
     replace HD:=Hd (HD.out.later bz)
     have HB7:=Hd (below_on HB6.out bz)
     clear HB6
     replace XN:=Hd (XN.out.later bz)
     replace XS:=Hd (Nat.le_trans XS.out (bz).size)
     replace XR:=Hd (XR.out.later bz)
     have HA1:=Hd hA
     clear bz hA hw7
     go_wp2_with fail
     go_loopw [14] (fun s14 wq=>∃p:Nat,o≤p∧p≤256∧s14 = .int .i64 (p:Int)∧Blk wq g13 138 (Sp.arr fun j=>decide (o≤j∧j<p)&&like o j)∧Blk wq (g8+1) 138 (Sp.arr fun j=>dn o j||(decide (o≤j∧j<p)&&like o j))∧(Blk wq g6 138 (Sp.arr fi)∧Blk wq g7 138 (Sp.arr fb)∧Blk wq g8 138 (Sp.arr (shp (o+1)))∧Blk wq g 27 #[.slice K kn.length ck,.slice Z zs.length cz,.slice H hs.length ch,.slice B bs.length cb,.int .i64 room])∧OwnNs wq w4.heap.size 40 (.slice VN L.length vc) L∧OneL wq RA rc (RC o)∧w4.heap.size≤wq.heap.size∧Below w.heap.size w wq) (fun s14 _=>256-(intOf s14).toNat)
     case atStart=>exact⟨o,Nat.le_refl _,by omega,rfl,HA1.out.marks_same (fun j _=>by rw[decide_eq_false (by omega),Bool.false_and]),HD.out.marks_same (fun j _=>by rw[decide_eq_false (by omega),Bool.false_and,Bool.or_false]),⟨HI.out,HL.out,HS.out,HV.out⟩,XN.out,XR.out,XS.out,HB7.out⟩
     case round=>
      clear HA1 HD HI HL HS HV XN XR XS HB7
      obtain⟨p,hop,hp,rfl,hA,hD,⟨hI,hL,hS,hV⟩,hN,hR,hsq,hbq⟩:=hrel
      have HA1:=Hd hA
      have HD:=Hd hD
      have HI:=Hd hI
      have HL:=Hd hL
      have HS:=Hd hS
      have HV:=Hd hV
      have XN:=Hd hN
      have XR:=Hd hR
      have XS:=Hd hsq
      have HBQ:=Hd hbq
      clear hA hD hI hL hS hV hN hR hsq hbq
      by_cases hpl:p<256
      ·
       have hj0:(0:Int)≤(p:Int):=by omega
       have hj1:(p:Int)<256:=by omega
       have HLP:=Hd (HLKE.out o p)
       have q6:=HI.out.marks_cell p hpl
       have q7:=HL.out.marks_cell p hpl
       have qa:=HA1.out.marks_cell p hpl
       have qf:=HA1.out.free p
       obtain⟨ip,hip⟩:∃b,fi p=b:=⟨_,rfl⟩
       obtain⟨bp,hbp⟩:∃b,fb p=b:=⟨_,rfl⟩
       rw[hip]at q6
       rw[hbp]at q7
       rw[hip,hbp]at HLP
       clear hip hbp
       cases ip with
       |false=>
        have HLV:=Hd (show like o p=false from HLP.out)
        go_upto_region 17 with (fail)
        clear q6 q7 qa qf
        obtain⟨w8,hw8⟩:∃x,wr.setCell ⟨g13,p,none⟩ (.bool false)=x:=⟨_,rfl⟩
        have t_XN:=XN.out.mild (fun k hk=>Below.heap_setCell wr ⟨g13,p,none⟩ (.bool false) k (own_other XN.out.row HA1.out (by decide) k hk)) (Mild.put HA1.out (dull_arr _) p (.bool false))
        have t_XR:=XR.out.mild (Mild.put HA1.out (dull_arr _) p (.bool false))
        have t_XS:w4.heap.size≤(wr.setCell ⟨g13,p,none⟩ (.bool false)).heap.size:=by simpa using XS.out
        have t_HV:=HV.out.far (p:=⟨g13,p,none⟩) (by show g≠g13;omega) (.bool false)
        have t_HI:=HI.out.far (p:=⟨g13,p,none⟩) (by show g6≠g13;omega) (.bool false)
        have t_HL:=HL.out.far (p:=⟨g13,p,none⟩) (by show g7≠g13;omega) (.bool false)
        have t_HS:=HS.out.far (p:=⟨g13,p,none⟩) (by show g8≠g13;omega) (.bool false)
        have t_HD:=HD.out.far (p:=⟨g13,p,none⟩) (by show g8+1≠g13;omega) (.bool false)
        have t_HA1:Blk (wr.setCell ⟨g13,p,none⟩ (.bool false)) (g13) 138 (Sp.arr (fun j=>decide (o≤j∧j<p+1)&&like o j)):=(HA1.out.marks_put p hpl false).marks_same (fun j _=>step_mark hop (by rw[HLV.out]) j)
        have t_HB8:=HBQ.out.setCell (p:=⟨g13,p,none⟩) (by show w.heap.size≤g13;omega) (.bool false)
        rw[hw8]at t_XN t_XR t_XS t_HV t_HI t_HL t_HS t_HD t_HA1 t_HB8
        rw[hw8]
        replace XN:=Hd t_XN
        replace XR:=Hd t_XR
        replace XS:=Hd t_XS
        replace HV:=Hd t_HV
        replace HI:=Hd t_HI
        replace HL:=Hd t_HL
        replace HS:=Hd t_HS
        replace HD:=Hd t_HD
        replace HA1:=Hd t_HA1
        have HB8:=Hd t_HB8
        clear t_XN t_XR t_XS t_HV t_HI t_HL t_HS t_HD t_HA1 t_HB8 hw8 HBQ
        have qs:=HA1.out.marks_cell p hpl
        rw[show(decide (o≤p∧p<p+1)&&like o p)=false from by rw[decide_eq_true ⟨hop,Nat.lt_succ_self p⟩,HLV.out];rfl]at qs
        have qd:=HD.out.marks_cell p hpl
        have qe:=HD.out.free p
        rw[decide_eq_false (show ¬(o≤p∧p<p) by omega),Bool.false_and,Bool.or_false]at qd
        obtain⟨dp,hdp⟩:∃b,dn o p=b:=⟨_,rfl⟩
        rw[hdp]at qd
        have HDP:=Hd hdp
        clear hdp
        cases dp with
        |true=>
         go_upto_region 15 with (fail)
         clear qs qd qe
         obtain⟨w9,hw9⟩:∃x,w8.setCell ⟨g8+1,p,none⟩ (.bool true)=x:=⟨_,rfl⟩
         have t_XN:=XN.out.mild (fun k hk=>Below.heap_setCell w8 ⟨g8+1,p,none⟩ (.bool true) k (own_other XN.out.row HD.out (by decide) k hk)) (Mild.put HD.out (dull_arr _) p (.bool true))
         have t_XR:=XR.out.mild (Mild.put HD.out (dull_arr _) p (.bool true))
         have t_XS:w4.heap.size≤(w8.setCell ⟨g8+1,p,none⟩ (.bool true)).heap.size:=by simpa using XS.out
         have t_HV:=HV.out.far (p:=⟨g8+1,p,none⟩) (by show g≠g8+1;omega) (.bool true)
         have t_HI:=HI.out.far (p:=⟨g8+1,p,none⟩) (by show g6≠g8+1;omega) (.bool true)
         have t_HL:=HL.out.far (p:=⟨g8+1,p,none⟩) (by show g7≠g8+1;omega) (.bool true)
         have t_HS:=HS.out.far (p:=⟨g8+1,p,none⟩) (by show g8≠g8+1;omega) (.bool true)
         have t_HA1:=HA1.out.far (p:=⟨g8+1,p,none⟩) (by show g13≠g8+1;omega) (.bool true)
         have t_HD:Blk (w8.setCell ⟨g8+1,p,none⟩ (.bool true)) (g8+1) 138 (Sp.arr (fun j=>dn o j||(decide (o≤j∧j<p+1)&&like o j))):=(HD.out.marks_put p hpl true).marks_same (fun j _=>step_done hop (by rw[HDP.out,HLV.out];rfl) j)
         have t_HB9:=HB8.out.setCell (p:=⟨g8+1,p,none⟩) (by show w.heap.size≤g8+1;omega) (.bool true)
         rw[hw9]at t_XN t_XR t_XS t_HV t_HI t_HL t_HS t_HA1 t_HD t_HB9
         rw[hw9]
         replace XN:=Hd t_XN
         replace XR:=Hd t_XR
         replace XS:=Hd t_XS
         replace HV:=Hd t_HV
         replace HI:=Hd t_HI
         replace HL:=Hd t_HL
         replace HS:=Hd t_HS
         replace HA1:=Hd t_HA1
         replace HD:=Hd t_HD
         have HB9:=Hd t_HB9
         clear t_XN t_XR t_XS t_HV t_HI t_HL t_HS t_HA1 t_HD t_HB9 hw9 HB8
         go_wp2_with fail
         go_roundw
         case rel=>exact⟨p+1,by omega,by omega,by go_num,HA1.out,HD.out,⟨HI.out,HL.out,HS.out,HV.out⟩,XN.out,XR.out,XS.out,HB9.out⟩
         case measure=>simp[intOf];omega
        |false=>
         go_upto_region 15 with (fail)
         clear qs qd qe
         obtain⟨w9,hw9⟩:∃x,w8.setCell ⟨g8+1,p,none⟩ (.bool false)=x:=⟨_,rfl⟩
         have t_XN:=XN.out.mild (fun k hk=>Below.heap_setCell w8 ⟨g8+1,p,none⟩ (.bool false) k (own_other XN.out.row HD.out (by decide) k hk)) (Mild.put HD.out (dull_arr _) p (.bool false))
         have t_XR:=XR.out.mild (Mild.put HD.out (dull_arr _) p (.bool false))
         have t_XS:w4.heap.size≤(w8.setCell ⟨g8+1,p,none⟩ (.bool false)).heap.size:=by simpa using XS.out
         have t_HV:=HV.out.far (p:=⟨g8+1,p,none⟩) (by show g≠g8+1;omega) (.bool false)
         have t_HI:=HI.out.far (p:=⟨g8+1,p,none⟩) (by show g6≠g8+1;omega) (.bool false)
         have t_HL:=HL.out.far (p:=⟨g8+1,p,none⟩) (by show g7≠g8+1;omega) (.bool false)
         have t_HS:=HS.out.far (p:=⟨g8+1,p,none⟩) (by show g8≠g8+1;omega) (.bool false)
         have t_HA1:=HA1.out.far (p:=⟨g8+1,p,none⟩) (by show g13≠g8+1;omega) (.bool false)
         have t_HD:Blk (w8.setCell ⟨g8+1,p,none⟩ (.bool false)) (g8+1) 138 (Sp.arr (fun j=>dn o j||(decide (o≤j∧j<p+1)&&like o j))):=(HD.out.marks_put p hpl false).marks_same (fun j _=>step_done hop (by rw[HDP.out,HLV.out];rfl) j)
         have t_HB9:=HB8.out.setCell (p:=⟨g8+1,p,none⟩) (by show w.heap.size≤g8+1;omega) (.bool false)
         rw[hw9]at t_XN t_XR t_XS t_HV t_HI t_HL t_HS t_HA1 t_HD t_HB9
         rw[hw9]
         replace XN:=Hd t_XN
         replace XR:=Hd t_XR
         replace XS:=Hd t_XS
         replace HV:=Hd t_HV
         replace HI:=Hd t_HI
         replace HL:=Hd t_HL
         replace HS:=Hd t_HS
         replace HA1:=Hd t_HA1
         replace HD:=Hd t_HD
         have HB9:=Hd t_HB9
         clear t_XN t_XR t_XS t_HV t_HI t_HL t_HS t_HA1 t_HD t_HB9 hw9 HB8
         go_wp2_with fail
         go_roundw
         case rel=>exact⟨p+1,by omega,by omega,by go_num,HA1.out,HD.out,⟨HI.out,HL.out,HS.out,HV.out⟩,XN.out,XR.out,XS.out,HB9.out⟩
         case measure=>simp[intOf];omega
       |true=>
       cases bp with
       |false=>
        have HLV:=Hd (show like o p=false from HLP.out)
        go_upto_region 17 with (fail)
        clear q6 q7 qa qf
        obtain⟨w8,hw8⟩:∃x,wr.setCell ⟨g13,p,none⟩ (.bool false)=x:=⟨_,rfl⟩
        have t_XN:=XN.out.mild (fun k hk=>Below.heap_setCell wr ⟨g13,p,none⟩ (.bool false) k (own_other XN.out.row HA1.out (by decide) k hk)) (Mild.put HA1.out (dull_arr _) p (.bool false))
        have t_XR:=XR.out.mild (Mild.put HA1.out (dull_arr _) p (.bool false))
        have t_XS:w4.heap.size≤(wr.setCell ⟨g13,p,none⟩ (.bool false)).heap.size:=by simpa using XS.out
        have t_HV:=HV.out.far (p:=⟨g13,p,none⟩) (by show g≠g13;omega) (.bool false)
        have t_HI:=HI.out.far (p:=⟨g13,p,none⟩) (by show g6≠g13;omega) (.bool false)
        have t_HL:=HL.out.far (p:=⟨g13,p,none⟩) (by show g7≠g13;omega) (.bool false)
        have t_HS:=HS.out.far (p:=⟨g13,p,none⟩) (by show g8≠g13;omega) (.bool false)
        have t_HD:=HD.out.far (p:=⟨g13,p,none⟩) (by show g8+1≠g13;omega) (.bool false)
        have t_HA1:Blk (wr.setCell ⟨g13,p,none⟩ (.bool false)) (g13) 138 (Sp.arr (fun j=>decide (o≤j∧j<p+1)&&like o j)):=(HA1.out.marks_put p hpl false).marks_same (fun j _=>step_mark hop (by rw[HLV.out]) j)
        have t_HB8:=HBQ.out.setCell (p:=⟨g13,p,none⟩) (by show w.heap.size≤g13;omega) (.bool false)
        rw[hw8]at t_XN t_XR t_XS t_HV t_HI t_HL t_HS t_HD t_HA1 t_HB8
        rw[hw8]
        replace XN:=Hd t_XN
        replace XR:=Hd t_XR
        replace XS:=Hd t_XS
        replace HV:=Hd t_HV
        replace HI:=Hd t_HI
        replace HL:=Hd t_HL
        replace HS:=Hd t_HS
        replace HD:=Hd t_HD
        replace HA1:=Hd t_HA1
        have HB8:=Hd t_HB8
        clear t_XN t_XR t_XS t_HV t_HI t_HL t_HS t_HD t_HA1 t_HB8 hw8 HBQ
        have qs:=HA1.out.marks_cell p hpl
        rw[show(decide (o≤p∧p<p+1)&&like o p)=false from by rw[decide_eq_true ⟨hop,Nat.lt_succ_self p⟩,HLV.out];rfl]at qs
        have qd:=HD.out.marks_cell p hpl
        have qe:=HD.out.free p
        rw[decide_eq_false (show ¬(o≤p∧p<p) by omega),Bool.false_and,Bool.or_false]at qd
        obtain⟨dp,hdp⟩:∃b,dn o p=b:=⟨_,rfl⟩
        rw[hdp]at qd
        have HDP:=Hd hdp
        clear hdp
        cases dp with
        |true=>
         go_upto_region 15 with (fail)
         clear qs qd qe
         obtain⟨w9,hw9⟩:∃x,w8.setCell ⟨g8+1,p,none⟩ (.bool true)=x:=⟨_,rfl⟩
         have t_XN:=XN.out.mild (fun k hk=>Below.heap_setCell w8 ⟨g8+1,p,none⟩ (.bool true) k (own_other XN.out.row HD.out (by decide) k hk)) (Mild.put HD.out (dull_arr _) p (.bool true))
         have t_XR:=XR.out.mild (Mild.put HD.out (dull_arr _) p (.bool true))
         have t_XS:w4.heap.size≤(w8.setCell ⟨g8+1,p,none⟩ (.bool true)).heap.size:=by simpa using XS.out
         have t_HV:=HV.out.far (p:=⟨g8+1,p,none⟩) (by show g≠g8+1;omega) (.bool true)
         have t_HI:=HI.out.far (p:=⟨g8+1,p,none⟩) (by show g6≠g8+1;omega) (.bool true)
         have t_HL:=HL.out.far (p:=⟨g8+1,p,none⟩) (by show g7≠g8+1;omega) (.bool true)
         have t_HS:=HS.out.far (p:=⟨g8+1,p,none⟩) (by show g8≠g8+1;omega) (.bool true)
         have t_HA1:=HA1.out.far (p:=⟨g8+1,p,none⟩) (by show g13≠g8+1;omega) (.bool true)
         have t_HD:Blk (w8.setCell ⟨g8+1,p,none⟩ (.bool true)) (g8+1) 138 (Sp.arr (fun j=>dn o j||(decide (o≤j∧j<p+1)&&like o j))):=(HD.out.marks_put p hpl true).marks_same (fun j _=>step_done hop (by rw[HDP.out,HLV.out];rfl) j)
         have t_HB9:=HB8.out.setCell (p:=⟨g8+1,p,none⟩) (by show w.heap.size≤g8+1;omega) (.bool true)
         rw[hw9]at t_XN t_XR t_XS t_HV t_HI t_HL t_HS t_HA1 t_HD t_HB9
         rw[hw9]
         replace XN:=Hd t_XN
         replace XR:=Hd t_XR
         replace XS:=Hd t_XS
         replace HV:=Hd t_HV
         replace HI:=Hd t_HI
         replace HL:=Hd t_HL
         replace HS:=Hd t_HS
         replace HA1:=Hd t_HA1
         replace HD:=Hd t_HD
         have HB9:=Hd t_HB9
         clear t_XN t_XR t_XS t_HV t_HI t_HL t_HS t_HA1 t_HD t_HB9 hw9 HB8
         go_wp2_with fail
         go_roundw
         case rel=>exact⟨p+1,by omega,by omega,by go_num,HA1.out,HD.out,⟨HI.out,HL.out,HS.out,HV.out⟩,XN.out,XR.out,XS.out,HB9.out⟩
         case measure=>simp[intOf];omega
        |false=>
         go_upto_region 15 with (fail)
         clear qs qd qe
         obtain⟨w9,hw9⟩:∃x,w8.setCell ⟨g8+1,p,none⟩ (.bool false)=x:=⟨_,rfl⟩
         have t_XN:=XN.out.mild (fun k hk=>Below.heap_setCell w8 ⟨g8+1,p,none⟩ (.bool false) k (own_other XN.out.row HD.out (by decide) k hk)) (Mild.put HD.out (dull_arr _) p (.bool false))
         have t_XR:=XR.out.mild (Mild.put HD.out (dull_arr _) p (.bool false))
         have t_XS:w4.heap.size≤(w8.setCell ⟨g8+1,p,none⟩ (.bool false)).heap.size:=by simpa using XS.out
         have t_HV:=HV.out.far (p:=⟨g8+1,p,none⟩) (by show g≠g8+1;omega) (.bool false)
         have t_HI:=HI.out.far (p:=⟨g8+1,p,none⟩) (by show g6≠g8+1;omega) (.bool false)
         have t_HL:=HL.out.far (p:=⟨g8+1,p,none⟩) (by show g7≠g8+1;omega) (.bool false)
         have t_HS:=HS.out.far (p:=⟨g8+1,p,none⟩) (by show g8≠g8+1;omega) (.bool false)
         have t_HA1:=HA1.out.far (p:=⟨g8+1,p,none⟩) (by show g13≠g8+1;omega) (.bool false)
         have t_HD:Blk (w8.setCell ⟨g8+1,p,none⟩ (.bool false)) (g8+1) 138 (Sp.arr (fun j=>dn o j||(decide (o≤j∧j<p+1)&&like o j))):=(HD.out.marks_put p hpl false).marks_same (fun j _=>step_done hop (by rw[HDP.out,HLV.out];rfl) j)
         have t_HB9:=HB8.out.setCell (p:=⟨g8+1,p,none⟩) (by show w.heap.size≤g8+1;omega) (.bool false)
         rw[hw9]at t_XN t_XR t_XS t_HV t_HI t_HL t_HS t_HA1 t_HD t_HB9
         rw[hw9]
         replace XN:=Hd t_XN
         replace XR:=Hd t_XR
         replace XS:=Hd t_XS
         replace HV:=Hd t_HV
         replace HI:=Hd t_HI
         replace HL:=Hd t_HL
         replace HS:=Hd t_HS
         replace HA1:=Hd t_HA1
         replace HD:=Hd t_HD
         have HB9:=Hd t_HB9
         clear t_XN t_XR t_XS t_HV t_HI t_HL t_HS t_HA1 t_HD t_HB9 hw9 HB8
         go_wp2_with fail
         go_roundw
         case rel=>exact⟨p+1,by omega,by omega,by go_num,HA1.out,HD.out,⟨HI.out,HL.out,HS.out,HV.out⟩,XN.out,XR.out,XS.out,HB9.out⟩
         case measure=>simp[intOf];omega
       |true=>
        have V_0:=HV.out.cell (i:=0) rfl
        have V_1:=HV.out.cell (i:=1) rfl
        go_wp2_with fail
        refine(C5.out p hpl _ HBQ.out).mono ?_
        rintro e w8 ⟨u,rfl,ho2,b8⟩
        clear V_0 V_1
        replace HV:=Hd (HV.out.later b8)
        replace HI:=Hd (HI.out.later b8)
        replace HL:=Hd (HL.out.later b8)
        replace HS:=Hd (HS.out.later b8)
        replace HD:=Hd (HD.out.later b8)
        replace HA1:=Hd (HA1.out.later b8)
        have HB8:=Hd (below_on HBQ.out b8)
        clear HBQ
        replace XN:=Hd (XN.out.later b8)
        replace XR:=Hd (XR.out.later b8)
        replace XS:=Hd (Nat.le_trans XS.out (b8).size)
        clear b8
        obtain⟨RB,rd,rfl,hR2⟩:=OneL.of_own ho2
        have XQ:=Hd hR2
        clear ho2 hR2
        have NS:=Hd (rsame_any RB RA rd rc (RC p) (RC o) _ XQ.out.len XQ.out.stamps XR.out.stamps)
        obtain⟨sm,hsm⟩:∃b,decide (RC p=RC o)=b:=⟨_,rfl⟩
        rw[hsm]at NS
        have HLV:=Hd (show like o p=sm from by rw[HLP.out,hsm];rfl)
        clear hsm XQ
        go_wp2_with fail
        refine(NS.out).mono ?_
        rintro e w9 ⟨rfl,b9⟩
        replace HV:=Hd (HV.out.later b9)
        replace HI:=Hd (HI.out.later b9)
        replace HL:=Hd (HL.out.later b9)
        replace HS:=Hd (HS.out.later b9)
        replace HD:=Hd (HD.out.later b9)
        replace HA1:=Hd (HA1.out.later b9)
        have HB9:=Hd (below_on HB8.out b9)
        clear HB8
        replace XN:=Hd (XN.out.later b9)
        replace XR:=Hd (XR.out.later b9)
        replace XS:=Hd (Nat.le_trans XS.out (b9).size)
        clear b9 NS
        clear q6 q7 qa qf
        have qa:=HA1.out.marks_cell p hpl
        have qf:=HA1.out.free p
        have q6:=qa
        have q7:=qf
        cases sm with
        |true=>
         go_upto_region 17 with (fail)
         clear q6 q7 qa qf
         obtain⟨w10,hw10⟩:∃x,w9.setCell ⟨g13,p,none⟩ (.bool true)=x:=⟨_,rfl⟩
         have t_XN:=XN.out.mild (fun k hk=>Below.heap_setCell w9 ⟨g13,p,none⟩ (.bool true) k (own_other XN.out.row HA1.out (by decide) k hk)) (Mild.put HA1.out (dull_arr _) p (.bool true))
         have t_XR:=XR.out.mild (Mild.put HA1.out (dull_arr _) p (.bool true))
         have t_XS:w4.heap.size≤(w9.setCell ⟨g13,p,none⟩ (.bool true)).heap.size:=by simpa using XS.out
         have t_HV:=HV.out.far (p:=⟨g13,p,none⟩) (by show g≠g13;omega) (.bool true)
         have t_HI:=HI.out.far (p:=⟨g13,p,none⟩) (by show g6≠g13;omega) (.bool true)
         have t_HL:=HL.out.far (p:=⟨g13,p,none⟩) (by show g7≠g13;omega) (.bool true)
         have t_HS:=HS.out.far (p:=⟨g13,p,none⟩) (by show g8≠g13;omega) (.bool true)
         have t_HD:=HD.out.far (p:=⟨g13,p,none⟩) (by show g8+1≠g13;omega) (.bool true)
         have t_HA1:Blk (w9.setCell ⟨g13,p,none⟩ (.bool true)) (g13) 138 (Sp.arr (fun j=>decide (o≤j∧j<p+1)&&like o j)):=(HA1.out.marks_put p hpl true).marks_same (fun j _=>step_mark hop (by rw[HLV.out]) j)
         have t_HB10:=HB9.out.setCell (p:=⟨g13,p,none⟩) (by show w.heap.size≤g13;omega) (.bool true)
         rw[hw10]at t_XN t_XR t_XS t_HV t_HI t_HL t_HS t_HD t_HA1 t_HB10
         rw[hw10]
         replace XN:=Hd t_XN
         replace XR:=Hd t_XR
         replace XS:=Hd t_XS
         replace HV:=Hd t_HV
         replace HI:=Hd t_HI
         replace HL:=Hd t_HL
         replace HS:=Hd t_HS
         replace HD:=Hd t_HD
         replace HA1:=Hd t_HA1
         have HB10:=Hd t_HB10
         clear t_XN t_XR t_XS t_HV t_HI t_HL t_HS t_HD t_HA1 t_HB10 hw10 HB9
         have qs:=HA1.out.marks_cell p hpl
         rw[show(decide (o≤p∧p<p+1)&&like o p)=true from by rw[decide_eq_true ⟨hop,Nat.lt_succ_self p⟩,HLV.out];rfl]at qs
         have qd:=HD.out.marks_cell p hpl
         have qe:=HD.out.free p
         rw[decide_eq_false (show ¬(o≤p∧p<p) by omega),Bool.false_and,Bool.or_false]at qd
         obtain⟨dp,hdp⟩:∃b,dn o p=b:=⟨_,rfl⟩
         rw[hdp]at qd
         have HDP:=Hd hdp
         clear hdp
         cases dp with
         |true=>
          go_upto_region 15 with (fail)
          clear qs qd qe
          obtain⟨w11,hw11⟩:∃x,w10.setCell ⟨g8+1,p,none⟩ (.bool true)=x:=⟨_,rfl⟩
          have t_XN:=XN.out.mild (fun k hk=>Below.heap_setCell w10 ⟨g8+1,p,none⟩ (.bool true) k (own_other XN.out.row HD.out (by decide) k hk)) (Mild.put HD.out (dull_arr _) p (.bool true))
          have t_XR:=XR.out.mild (Mild.put HD.out (dull_arr _) p (.bool true))
          have t_XS:w4.heap.size≤(w10.setCell ⟨g8+1,p,none⟩ (.bool true)).heap.size:=by simpa using XS.out
          have t_HV:=HV.out.far (p:=⟨g8+1,p,none⟩) (by show g≠g8+1;omega) (.bool true)
          have t_HI:=HI.out.far (p:=⟨g8+1,p,none⟩) (by show g6≠g8+1;omega) (.bool true)
          have t_HL:=HL.out.far (p:=⟨g8+1,p,none⟩) (by show g7≠g8+1;omega) (.bool true)
          have t_HS:=HS.out.far (p:=⟨g8+1,p,none⟩) (by show g8≠g8+1;omega) (.bool true)
          have t_HA1:=HA1.out.far (p:=⟨g8+1,p,none⟩) (by show g13≠g8+1;omega) (.bool true)
          have t_HD:Blk (w10.setCell ⟨g8+1,p,none⟩ (.bool true)) (g8+1) 138 (Sp.arr (fun j=>dn o j||(decide (o≤j∧j<p+1)&&like o j))):=(HD.out.marks_put p hpl true).marks_same (fun j _=>step_done hop (by rw[HDP.out,HLV.out];rfl) j)
          have t_HB11:=HB10.out.setCell (p:=⟨g8+1,p,none⟩) (by show w.heap.size≤g8+1;omega) (.bool true)
          rw[hw11]at t_XN t_XR t_XS t_HV t_HI t_HL t_HS t_HA1 t_HD t_HB11
          rw[hw11]
          replace XN:=Hd t_XN
          replace XR:=Hd t_XR
          replace XS:=Hd t_XS
          replace HV:=Hd t_HV
          replace HI:=Hd t_HI
          replace HL:=Hd t_HL
          replace HS:=Hd t_HS
          replace HA1:=Hd t_HA1
          replace HD:=Hd t_HD
          have HB11:=Hd t_HB11
          clear t_XN t_XR t_XS t_HV t_HI t_HL t_HS t_HA1 t_HD t_HB11 hw11 HB10
          go_wp2_with fail
          go_roundw
          case rel=>exact⟨p+1,by omega,by omega,by go_num,HA1.out,HD.out,⟨HI.out,HL.out,HS.out,HV.out⟩,XN.out,XR.out,XS.out,HB11.out⟩
          case measure=>simp[intOf];omega
         |false=>
          go_upto_region 15 with (fail)
          clear qs qd qe
          obtain⟨w11,hw11⟩:∃x,w10.setCell ⟨g8+1,p,none⟩ (.bool true)=x:=⟨_,rfl⟩
          have t_XN:=XN.out.mild (fun k hk=>Below.heap_setCell w10 ⟨g8+1,p,none⟩ (.bool true) k (own_other XN.out.row HD.out (by decide) k hk)) (Mild.put HD.out (dull_arr _) p (.bool true))
          have t_XR:=XR.out.mild (Mild.put HD.out (dull_arr _) p (.bool true))
          have t_XS:w4.heap.size≤(w10.setCell ⟨g8+1,p,none⟩ (.bool true)).heap.size:=by simpa using XS.out
          have t_HV:=HV.out.far (p:=⟨g8+1,p,none⟩) (by show g≠g8+1;omega) (.bool true)
          have t_HI:=HI.out.far (p:=⟨g8+1,p,none⟩) (by show g6≠g8+1;omega) (.bool true)
          have t_HL:=HL.out.far (p:=⟨g8+1,p,none⟩) (by show g7≠g8+1;omega) (.bool true)
          have t_HS:=HS.out.far (p:=⟨g8+1,p,none⟩) (by show g8≠g8+1;omega) (.bool true)
          have t_HA1:=HA1.out.far (p:=⟨g8+1,p,none⟩) (by show g13≠g8+1;omega) (.bool true)
          have t_HD:Blk (w10.setCell ⟨g8+1,p,none⟩ (.bool true)) (g8+1) 138 (Sp.arr (fun j=>dn o j||(decide (o≤j∧j<p+1)&&like o j))):=(HD.out.marks_put p hpl true).marks_same (fun j _=>step_done hop (by rw[HDP.out,HLV.out];rfl) j)
          have t_HB11:=HB10.out.setCell (p:=⟨g8+1,p,none⟩) (by show w.heap.size≤g8+1;omega) (.bool true)
          rw[hw11]at t_XN t_XR t_XS t_HV t_HI t_HL t_HS t_HA1 t_HD t_HB11
          rw[hw11]
          replace XN:=Hd t_XN
          replace XR:=Hd t_XR
          replace XS:=Hd t_XS
          replace HV:=Hd t_HV
          replace HI:=Hd t_HI
          replace HL:=Hd t_HL
          replace HS:=Hd t_HS
          replace HA1:=Hd t_HA1
          replace HD:=Hd t_HD
          have HB11:=Hd t_HB11
          clear t_XN t_XR t_XS t_HV t_HI t_HL t_HS t_HA1 t_HD t_HB11 hw11 HB10
          go_wp2_with fail
          go_roundw
          case rel=>exact⟨p+1,by omega,by omega,by go_num,HA1.out,HD.out,⟨HI.out,HL.out,HS.out,HV.out⟩,XN.out,XR.out,XS.out,HB11.out⟩
          case measure=>simp[intOf];omega
        |false=>
         go_upto_region 17 with (fail)
         clear q6 q7 qa qf
         obtain⟨w10,hw10⟩:∃x,w9.setCell ⟨g13,p,none⟩ (.bool false)=x:=⟨_,rfl⟩
         have t_XN:=XN.out.mild (fun k hk=>Below.heap_setCell w9 ⟨g13,p,none⟩ (.bool false) k (own_other XN.out.row HA1.out (by decide) k hk)) (Mild.put HA1.out (dull_arr _) p (.bool false))
         have t_XR:=XR.out.mild (Mild.put HA1.out (dull_arr _) p (.bool false))
         have t_XS:w4.heap.size≤(w9.setCell ⟨g13,p,none⟩ (.bool false)).heap.size:=by simpa using XS.out
         have t_HV:=HV.out.far (p:=⟨g13,p,none⟩) (by show g≠g13;omega) (.bool false)
         have t_HI:=HI.out.far (p:=⟨g13,p,none⟩) (by show g6≠g13;omega) (.bool false)
         have t_HL:=HL.out.far (p:=⟨g13,p,none⟩) (by show g7≠g13;omega) (.bool false)
         have t_HS:=HS.out.far (p:=⟨g13,p,none⟩) (by show g8≠g13;omega) (.bool false)
         have t_HD:=HD.out.far (p:=⟨g13,p,none⟩) (by show g8+1≠g13;omega) (.bool false)
         have t_HA1:Blk (w9.setCell ⟨g13,p,none⟩ (.bool false)) (g13) 138 (Sp.arr (fun j=>decide (o≤j∧j<p+1)&&like o j)):=(HA1.out.marks_put p hpl false).marks_same (fun j _=>step_mark hop (by rw[HLV.out]) j)
         have t_HB10:=HB9.out.setCell (p:=⟨g13,p,none⟩) (by show w.heap.size≤g13;omega) (.bool false)
         rw[hw10]at t_XN t_XR t_XS t_HV t_HI t_HL t_HS t_HD t_HA1 t_HB10
         rw[hw10]
         replace XN:=Hd t_XN
         replace XR:=Hd t_XR
         replace XS:=Hd t_XS
         replace HV:=Hd t_HV
         replace HI:=Hd t_HI
         replace HL:=Hd t_HL
         replace HS:=Hd t_HS
         replace HD:=Hd t_HD
         replace HA1:=Hd t_HA1
         have HB10:=Hd t_HB10
         clear t_XN t_XR t_XS t_HV t_HI t_HL t_HS t_HD t_HA1 t_HB10 hw10 HB9
         have qs:=HA1.out.marks_cell p hpl
         rw[show(decide (o≤p∧p<p+1)&&like o p)=false from by rw[decide_eq_true ⟨hop,Nat.lt_succ_self p⟩,HLV.out];rfl]at qs
         have qd:=HD.out.marks_cell p hpl
         have qe:=HD.out.free p
         rw[decide_eq_false (show ¬(o≤p∧p<p) by omega),Bool.false_and,Bool.or_false]at qd
         obtain⟨dp,hdp⟩:∃b,dn o p=b:=⟨_,rfl⟩
         rw[hdp]at qd
         have HDP:=Hd hdp
         clear hdp
         cases dp with
         |true=>
          go_upto_region 15 with (fail)
          clear qs qd qe
          obtain⟨w11,hw11⟩:∃x,w10.setCell ⟨g8+1,p,none⟩ (.bool true)=x:=⟨_,rfl⟩
          have t_XN:=XN.out.mild (fun k hk=>Below.heap_setCell w10 ⟨g8+1,p,none⟩ (.bool true) k (own_other XN.out.row HD.out (by decide) k hk)) (Mild.put HD.out (dull_arr _) p (.bool true))
          have t_XR:=XR.out.mild (Mild.put HD.out (dull_arr _) p (.bool true))
          have t_XS:w4.heap.size≤(w10.setCell ⟨g8+1,p,none⟩ (.bool true)).heap.size:=by simpa using XS.out
          have t_HV:=HV.out.far (p:=⟨g8+1,p,none⟩) (by show g≠g8+1;omega) (.bool true)
          have t_HI:=HI.out.far (p:=⟨g8+1,p,none⟩) (by show g6≠g8+1;omega) (.bool true)
          have t_HL:=HL.out.far (p:=⟨g8+1,p,none⟩) (by show g7≠g8+1;omega) (.bool true)
          have t_HS:=HS.out.far (p:=⟨g8+1,p,none⟩) (by show g8≠g8+1;omega) (.bool true)
          have t_HA1:=HA1.out.far (p:=⟨g8+1,p,none⟩) (by show g13≠g8+1;omega) (.bool true)
          have t_HD:Blk (w10.setCell ⟨g8+1,p,none⟩ (.bool true)) (g8+1) 138 (Sp.arr (fun j=>dn o j||(decide (o≤j∧j<p+1)&&like o j))):=(HD.out.marks_put p hpl true).marks_same (fun j _=>step_done hop (by rw[HDP.out,HLV.out];rfl) j)
          have t_HB11:=HB10.out.setCell (p:=⟨g8+1,p,none⟩) (by show w.heap.size≤g8+1;omega) (.bool true)
          rw[hw11]at t_XN t_XR t_XS t_HV t_HI t_HL t_HS t_HA1 t_HD t_HB11
          rw[hw11]
          replace XN:=Hd t_XN
          replace XR:=Hd t_XR
          replace XS:=Hd t_XS
          replace HV:=Hd t_HV
          replace HI:=Hd t_HI
          replace HL:=Hd t_HL
          replace HS:=Hd t_HS
          replace HA1:=Hd t_HA1
          replace HD:=Hd t_HD
          have HB11:=Hd t_HB11
          clear t_XN t_XR t_XS t_HV t_HI t_HL t_HS t_HA1 t_HD t_HB11 hw11 HB10
          go_wp2_with fail
          go_roundw
          case rel=>exact⟨p+1,by omega,by omega,by go_num,HA1.out,HD.out,⟨HI.out,HL.out,HS.out,HV.out⟩,XN.out,XR.out,XS.out,HB11.out⟩
          case measure=>simp[intOf];omega
         |false=>
          go_upto_region 15 with (fail)
          clear qs qd qe
          obtain⟨w11,hw11⟩:∃x,w10.setCell ⟨g8+1,p,none⟩ (.bool false)=x:=⟨_,rfl⟩
          have t_XN:=XN.out.mild (fun k hk=>Below.heap_setCell w10 ⟨g8+1,p,none⟩ (.bool false) k (own_other XN.out.row HD.out (by decide) k hk)) (Mild.put HD.out (dull_arr _) p (.bool false))
          have t_XR:=XR.out.mild (Mild.put HD.out (dull_arr _) p (.bool false))
          have t_XS:w4.heap.size≤(w10.setCell ⟨g8+1,p,none⟩ (.bool false)).heap.size:=by simpa using XS.out
          have t_HV:=HV.out.far (p:=⟨g8+1,p,none⟩) (by show g≠g8+1;omega) (.bool false)
          have t_HI:=HI.out.far (p:=⟨g8+1,p,none⟩) (by show g6≠g8+1;omega) (.bool false)
          have t_HL:=HL.out.far (p:=⟨g8+1,p,none⟩) (by show g7≠g8+1;omega) (.bool false)
          have t_HS:=HS.out.far (p:=⟨g8+1,p,none⟩) (by show g8≠g8+1;omega) (.bool false)
          have t_HA1:=HA1.out.far (p:=⟨g8+1,p,none⟩) (by show g13≠g8+1;omega) (.bool false)
          have t_HD:Blk (w10.setCell ⟨g8+1,p,none⟩ (.bool false)) (g8+1) 138 (Sp.arr (fun j=>dn o j||(decide (o≤j∧j<p+1)&&like o j))):=(HD.out.marks_put p hpl false).marks_same (fun j _=>step_done hop (by rw[HDP.out,HLV.out];rfl) j)
          have t_HB11:=HB10.out.setCell (p:=⟨g8+1,p,none⟩) (by show w.heap.size≤g8+1;omega) (.bool false)
          rw[hw11]at t_XN t_XR t_XS t_HV t_HI t_HL t_HS t_HA1 t_HD t_HB11
          rw[hw11]
          replace XN:=Hd t_XN
          replace XR:=Hd t_XR
          replace XS:=Hd t_XS
          replace HV:=Hd t_HV
          replace HI:=Hd t_HI
          replace HL:=Hd t_HL
          replace HS:=Hd t_HS
          replace HA1:=Hd t_HA1
          replace HD:=Hd t_HD
          have HB11:=Hd t_HB11
          clear t_XN t_XR t_XS t_HV t_HI t_HL t_HS t_HA1 t_HD t_HB11 hw11 HB10
          go_wp2_with fail
          go_roundw
          case rel=>exact⟨p+1,by omega,by omega,by go_num,HA1.out,HD.out,⟨HI.out,HL.out,HS.out,HV.out⟩,XN.out,XR.out,XS.out,HB11.out⟩
          case measure=>simp[intOf];omega
      obtain rfl:p=256:=by omega
      have hd0:decide ((256:Int)<256)=false:=by decide
      have HA2:=Hd (HA1.out.marks_same (f':=like o) (fun j hj=>by
       by_cases hjo:j<o
       ·rw[decide_eq_false (by omega),Bool.false_and,HLK.out j hjo]
       ·rw[decide_eq_true ⟨by omega,hj⟩,Bool.true_and]))
      have HD3:=Hd (HD.out.marks_same (f':=dn (o+1)) (fun j hj=>by
       rw[HDS.out j,HFY.out,Bool.true_and]
       by_cases hjo:o≤j
       ·rw[decide_eq_true ⟨hjo,hj⟩,decide_eq_true hjo]
       ·rw[decide_eq_false (fun h=>hjo h.1),decide_eq_false hjo]))
      clear HA1 HD
      have HA1:=HA2
      have HD:=HD3
      clear HA2 HD3
      have V_0:=HV.out.cell (i:=0) rfl
      have V_1:=HV.out.cell (i:=1) rfl
      have V_2:=HV.out.cell (i:=2) rfl
      have V_3:=HV.out.cell (i:=3) rfl
      have V_4:=HV.out.cell (i:=4) rfl
      go_wp2_with (refine wpList_load_row rfl 138 _ rfl (g13) rfl 138 _ (0,0) _ HA1.out Tryz.underlying138 rfl (by rw[Sp.arr_size];exact info256) ?_)
      refine(C6.out RA rc (RC o) (like o) _ HBQ.out XR.out (HR64.out (by first|rfl|trivial) o)).mono ?_
      rintro e w8 ⟨NS',NE',NB',NV',ns',ne',nb',nv',rfl,hNA,b8⟩
      clear V_0 V_1 V_2 V_3 V_4
      replace HV:=Hd (HV.out.later b8)
      replace HI:=Hd (HI.out.later b8)
      replace HL:=Hd (HL.out.later b8)
      replace HS:=Hd (HS.out.later b8)
      replace HD:=Hd (HD.out.later b8)
      replace HA1:=Hd (HA1.out.later b8)
      have HB8:=Hd (below_on HBQ.out b8)
      clear HBQ
      replace XN:=Hd (XN.out.later b8)
      replace XR:=Hd (XR.out.later b8)
      replace XS:=Hd (Nat.le_trans XS.out (b8).size)
      clear b8
      unfold noteCells
      dsimp only
      have XP:=Hd hNA
      clear hNA XR
      have HPO:=Hd (HPR.out o)
      obtain⟨pn,hpn⟩:∃n,prt o=n:=⟨_,rfl⟩
      rw[hpn]at HPO
      rw[HPO.out]at XP ⊢
      have hll:L.length≤o:=by have h1:=congrArg List.length HLM.out;rw[List.length_map,List.length_map]at h1;have h2:=List.length_filter_le fst (List.range o);rw[List.length_range]at h2;omega
      have bn:=below_new (Below.refl w8.heap.size w8) (.cells #[.slice NS' pn.s.length ns',.slice NE' pn.e.length ne',.slice NB' pn.b.length nb',.slice NV' pn.ws.length nv'] 40)
      have HNL:=Hd (show Lies (w8.alloc (.cells #[.slice NS' pn.s.length ns',.slice NE' pn.e.length ne',.slice NB' pn.b.length nb',.slice NV' pn.ws.length nv'] 40)) (some ⟨w8.heap.size,0,none⟩) (Nl.cell ⟨NS',NE',NB',NV',ns',ne',nb',nv',pn⟩) from fun _=>⟨w8.heap.size,0,rfl,fun j u hu=>by rw[Nat.zero_add];exact(Blk.new w8 40 #[.slice NS' pn.s.length ns',.slice NE' pn.e.length ne',.slice NB' pn.b.length nb',.slice NV' pn.ws.length nv']).cell (by simpa[Nl.cell] using hu)⟩)
      have XN2:=Hd (XN.out.later bn)
      have XP2:=Hd (NoteAt.later XP.out bn)
      have BN:=Hd bn
      have hszw:w4.heap.size≤(w8.alloc (.cells #[.slice NS' pn.s.length ns',.slice NE' pn.e.length ne',.slice NB' pn.b.length nb',.slice NV' pn.ws.length nv'] 40)).heap.size:=Nat.le_trans XS.out bn.size
      clear bn
      go_wp2_with (at_builtin;refine Go.Proofs.YtjlfehpockfkdaaGreat.wpList_append_flat _ rfl _ _ 57 rfl w4.heap.size 40 i0 (.agg #[.slice none 0 0,.slice none 0 0,.slice none 0 0,.slice none 0 0]) 4 96 Tryz.underlying57 hI0 hz0 hz1 hz2 rfl (by decide) rfl _ L.length (Nl.cells L) rfl XN2.out.row XN2.out.flat (some ⟨w8.heap.size,0,none⟩) 1 1 (fun h=>by cases h) (Nl.cell ⟨NS',NE',NB',NV',ns',ne',nb',nv',pn⟩) rfl rfl HNL.out (by intro u hu;simp[Nl.cell]at hu;rcases hu with rfl|rfl|rfl|rfl<;>rfl) (by intro u hu;simp[Nl.cell]at hu;rcases hu with rfl|rfl|rfl|rfl<;>exact⟨rfl,rfl⟩) (Nl.cells_flat L) ?h63 ?hbytes hszw ?_)
      case h63=>unfold maxLen;omega
      case hbytes=>omega
      intro v' wz hownz hgz hfz hmz
      obtain⟨gv,capv,rfl⟩:=ownsRow_succ hownz
      have hblk:∀k,k<(w8.alloc (.cells #[.slice NS' pn.s.length ns',.slice NE' pn.e.length ne',.slice NB' pn.b.length nb',.slice NV' pn.ws.length nv'] 40)).heap.size→(∀r,(Value.slice VN L.length vc).ownBlock=some r→r≠k)→wz.heap[k]?=(w8.alloc (.cells #[.slice NS' pn.s.length ns',.slice NE' pn.e.length ne',.slice NB' pn.b.length nb',.slice NV' pn.ws.length nv'] 40)).heap[k]?:=fun k hk hr=>hgz.block k hk (fun h=>hr k h.symm rfl)
      have tD:Blk wz (g8+1) 138 (Sp.arr (dn (o+1))):=(hblk _ (HD.out.later BN.out).lt (fun r hr=>own_other XN2.out.row (HD.out.later BN.out) (by decide) r hr)).trans (HD.out.later BN.out)
      have tI:Blk wz (g6) 138 (Sp.arr fi):=(hblk _ (HI.out.later BN.out).lt (fun r hr=>own_other XN2.out.row (HI.out.later BN.out) (by decide) r hr)).trans (HI.out.later BN.out)
      have tL:Blk wz (g7) 138 (Sp.arr fb):=(hblk _ (HL.out.later BN.out).lt (fun r hr=>own_other XN2.out.row (HL.out.later BN.out) (by decide) r hr)).trans (HL.out.later BN.out)
      have tS:Blk wz (g8) 138 (Sp.arr (shp (o+1))):=(hblk _ (HS.out.later BN.out).lt (fun r hr=>own_other XN2.out.row (HS.out.later BN.out) (by decide) r hr)).trans (HS.out.later BN.out)
      have tV:Blk wz (g) 27 #[.slice K kn.length ck,.slice Z zs.length cz,.slice H hs.length ch,.slice B bs.length cb,.int .i64 room]:=(hblk _ (HV.out.later BN.out).lt (fun r hr=>own_other XN2.out.row (HV.out.later BN.out) (by decide) r hr)).trans (HV.out.later BN.out)
      have HNS:=Hd (show OwnNs wz w4.heap.size 40 (.slice (some ⟨gv,0,none⟩) (L++[(⟨NS',NE',NB',NV',ns',ne',nb',nv',pn⟩:Nl)]).length capv) (L++[⟨NS',NE',NB',NV',ns',ne',nb',nv',pn⟩]) from⟨by rw[List.length_append,Nl.cells_append,show Nl.cells [(⟨NS',NE',NB',NV',ns',ne',nb',nv',pn⟩:Nl)]=Nl.cell ⟨NS',NE',NB',NV',ns',ne',nb',nv',pn⟩ from List.append_nil _];exact hownz,by rw[List.length_append];exact hfz,fun z hz=>by
       rcases List.mem_append.1 hz with hz|hz
       ·exact NoteAt.mild (XN2.out.each z hz) hmz
       ·rw[List.mem_singleton]at hz;subst hz;exact NoteAt.mild XP2.out hmz⟩)
      have HLM2:=Hd (show(L++[(⟨NS',NE',NB',NV',ns',ne',nb',nv',pn⟩:Nl)]).map Nl.n=((List.range (o+1)).filter fst).map prt from by rw[HRG.out,HFY.out,if_pos rfl,List.map_append,HLM.out,hpn];rfl)
      have HBZ:=Hd ((below_on HB8.out BN.out).grown hgz (by have:=(below_on HB8.out BN.out).size;omega) (fun r e=>Nat.le_trans HW8.out (own_ge XN2.out.row r e)))
      have HSZ:=Hd (Nat.le_trans hszw hgz.size)
      replace HD:=Hd tD
      replace HI:=Hd tI
      replace HL:=Hd tL
      replace HS:=Hd tS
      replace HV:=Hd tV
      clear hownz hgz hfz hmz hblk hszw tD tI tL tS tV
      go_wp2_with fail
      go_roundw
      case rel=>exact⟨o+1,_,by omega,by go_num,HLM2.out,(by have h:=HNS.out;rw[List.length_append]at h;exact h),HS.out,HD.out,HI.out,HL.out,HV.out,HSZ.out,HBZ.out⟩
      case measure=>simp[intOf];omega
   obtain rfl:o=256:=by omega
   have hd0:decide ((256:Int)<256)=false:=by decide
   have HS2:=Hd (HS.out.marks_same (f':=fun o=>fi o && !fb o) (fun j hj=>by rw[HSHE.out j hj]))
   clear HS
   have HS:=HS2
   clear HS2
   obtain⟨VN,vc,hvv,hq1,hq2,hq3,hq4⟩:=own_form XN.out.row
   subst hvv
   clear hq1 hq2 hq4
   have HQ3:=Hd hq3
   clear hq3
   have V_0:=HV.out.cell (i:=0) rfl
   have V_1:=HV.out.cell (i:=1) rfl
   have V_2:=HV.out.cell (i:=2) rfl
   have V_3:=HV.out.cell (i:=3) rfl
   have V_4:=HV.out.cell (i:=4) rfl
   have XK:=Hd (HKK.out _ HBW.out)
   go_wp2_with (refine wpList_load_row rfl 138 _ rfl (g8) rfl 138 _ (0,0) _ HS.out Tryz.underlying138 rfl (by rw[Sp.arr_size];exact info256) ?_)
   refine(C6.out K ck kn (fun o=>fi o && !fb o) _ HBW.out XK.out (HK64.out (by first|rfl|trivial))).mono ?_
   rintro e w5 ⟨NS',NE',NB',NV',ns',ne',nb',nv',rfl,hNA,b5⟩
   clear V_0 V_1 V_2 V_3 V_4
   replace HV:=Hd (HV.out.later b5)
   replace HI:=Hd (HI.out.later b5)
   replace HL:=Hd (HL.out.later b5)
   replace HS:=Hd (HS.out.later b5)
   replace HD:=Hd (HD.out.later b5)
   have HB5:=Hd (below_on HBW.out b5)
   clear HBW
   replace XN:=Hd (XN.out.later b5)
   replace XS:=Hd (Nat.le_trans XS.out (b5).size)
   clear b5 XK
   unfold noteCells
   dsimp only
   have XP:=Hd hNA
   clear hNA
   obtain⟨pn,hpn⟩:∃n,Vw.part (Vl.vw ⟨K,ck,kn,Z,cz,zs,H,ch,hs,B,cb,bs,room⟩) kn (fun o=>fi o && !fb o)=n:=⟨_,rfl⟩
   rw[hpn]at XP ⊢
   have HPN:=Hd hpn
   clear hpn
   have hll:L.length≤256:=by have h1:=congrArg List.length HLM.out;rw[List.length_map,List.length_map]at h1;have h2:=List.length_filter_le fst (List.range 256);rw[List.length_range]at h2;omega
   have bn:=below_new (Below.refl w5.heap.size w5) (.cells #[.slice NS' pn.s.length ns',.slice NE' pn.e.length ne',.slice NB' pn.b.length nb',.slice NV' pn.ws.length nv'] 40)
   have XN2:=Hd (XN.out.later bn)
   have XP2:=Hd (NoteAt.later XP.out bn)
   have hrow:=World.ownsRow_lit (base:=w5.heap.size) (e:=40) (size:=4) w5 #[.slice NS' pn.s.length ns',.slice NE' pn.e.length ne',.slice NB' pn.b.length nb',.slice NV' pn.ws.length nv'] 1 (Nat.le_refl _) (by unfold maxLen;omega) rfl
   have hfl:FlatV (w5.alloc (.cells #[.slice NS' pn.s.length ns',.slice NE' pn.e.length ne',.slice NB' pn.b.length nb',.slice NV' pn.ws.length nv'] 40)) (.slice (some ⟨w5.heap.size,0,none⟩) 1 1):=fun g n c e=>by injection e with e1;injection e1 with e1;injection e1 with e1;subst e1;exact⟨_,_,_,Blk.new w5 40 #[.slice NS' pn.s.length ns',.slice NE' pn.e.length ne',.slice NB' pn.b.length nb',.slice NV' pn.ws.length nv'],rfl⟩
   have HLI:=Hd (Lies.of_own XN2.out.row)
   have HRO:=Hd hrow
   have HFL:=Hd hfl
   have BN:=Hd bn
   have hszw:w5.heap.size≤(w5.alloc (.cells #[.slice NS' pn.s.length ns',.slice NE' pn.e.length ne',.slice NB' pn.b.length nb',.slice NV' pn.ws.length nv'] 40)).heap.size:=bn.size
   clear bn hrow hfl
   go_wp2_with (at_builtin;refine Go.Proofs.YtjlfehpockfkdaaGreat.wpList_append_flat _ rfl _ _ 57 rfl w5.heap.size 40 i0 (.agg #[.slice none 0 0,.slice none 0 0,.slice none 0 0,.slice none 0 0]) 4 96 Tryz.underlying57 hI0 hz0 hz1 hz2 rfl (by decide) rfl _ 1 (Nl.cell ⟨NS',NE',NB',NV',ns',ne',nb',nv',pn⟩) rfl HRO.out HFL.out VN L.length vc HQ3.out (Nl.cells L) rfl (Nl.cells_length L) HLI.out (Nl.cells_one L) (Nl.cells_flat L) (by intro u hu;simp[Nl.cell]at hu;rcases hu with rfl|rfl|rfl|rfl<;>exact⟨rfl,rfl⟩) ?h63 ?hbytes hszw ?_)
   case h63=>unfold maxLen;omega
   case hbytes=>omega
   intro v' wz hownz hgz hfz hmz
   have HNS:=Hd (show OwnNs wz w5.heap.size 40 v' ((⟨NS',NE',NB',NV',ns',ne',nb',nv',pn⟩:Nl)::L) from⟨by rw[Nl.cells_cons,List.length_cons,Nat.add_comm];exact hownz,hfz,fun z hz=>by
    rcases List.mem_cons.1 hz with rfl|hz
    ·exact NoteAt.mild XP2.out hmz
    ·exact NoteAt.mild (XN2.out.each z hz) hmz⟩)
   obtain⟨RA,rc,hvv,hON⟩:=HNS.out.one
   subst hvv
   have HON:=Hd hON
   have HBZ:=Hd ((below_on HB5.out BN.out).grown hgz (by have:=(below_on HB5.out BN.out).size;omega) (fun r e=>by have h1:=own_ge HRO.out r e;have h2:=HB5.out.size;omega))
   have hr:=HA.out
   simp at hr
   obtain⟨rfl,rfl⟩:=hr
   clear hownz hgz hfz hmz hON
   go_wp2
   go_ret2
   refine⟨RA,rc,?_,?_,?_,HBZ.out⟩
   ·rw[List.length_cons,List.length_cons,←HLM.out,List.length_map];rfl
   ·have h:=HON.out;rw[List.map_cons,HLM.out]at h;rw[←HPN.out]at h;exact h
   ·intro b off eA;have h1:=own_ge HNS.out.row b (by rw[eA];simp[Value.ownBlock]);have h2:=HB5.out.size;omega
structure ViewSum:Prop extends ViewSpec where
 sum:∀(q:Vl) (I:Option Addr) (ci:Nat) (it:List (Int × Int)) (w:World),VwAt w q→OneL w I ci it→Calls Tryz.prog 30 #[.agg (vwCells q),.slice I it.length ci] w (GivesNE (Vw.sumR q.vw it).1 (Vw.sumR q.vw it).2 w)
end Go.Proofs.YtjlfehpockfkdaaGreat
