/-
  What the row of this claim stands on: VwRefB, VwRefF, VwRefH, VwRefK, VwLawC.
-/
import Derived.Test.YtjlfehpockfkdaaGreatB01
import Derived.Test.YtjlfehpockfkdaaGreatSViewTakesB
import Derived.Test.YtjlfehpockfkdaaGreatB02
import Derived.Test.YtjlfehpockfkdaaGreatB05
set_option maxRecDepth 100000
set_option maxHeartbeats 102400000
namespace Go.Proofs.YtjlfehpockfkdaaGreat
open Go.RowKit Fb
theorem vformed_any(q:Vl)(w:World)(h:VwAt w q):Calls Tryz.prog 16 #[.agg (vwCells q)] w (Says (.bool (Vw.fmd q.vw)) w):=by
 have hF:Vw.fmd q.vw=((Ve.fmd q.k&&(Tr.fmd (q.z.map Zc.zn)&&(Sf.fmd q.h&&Ca.fmd (q.b.map Bc.b) q.r)))&&(q.z.all (fun z=>decide (Ve.stand (Ve.cnt z.l) (Ve.cnt q.k)=1))&&(q.h.all (Vw.has q.vw)&&q.b.all (fun z=>Vw.wants q.vw z.b)))):=by
  unfold Vw.fmd;rw[show q.vw.z=q.z.map Zc.zn from rfl,show q.vw.b=q.b.map Bc.b from rfl,List.all_map,List.all_map];rfl
 have hZ:=fun wx (hb:Below w.heap.size w wx)=>(h.later hb).z
 have hVW:=fun wx (hb:Below w.heap.size w wx)=>h.later hb
 have c1:=fun wx (hb:Below w.heap.size w wx)=>rformed_any q.K q.ck q.k wx (h.later hb).k.len (h.later hb).k.stamps
 have c2:=fun wx (hb:Below w.heap.size w wx)=>zformed_any q.Z q.cz q.z wx (h.later hb).z
 have c3:=fun wx (hb:Below w.heap.size w wx)=>fformed_any q.H q.ch q.h wx (h.later hb).h
 have c4:=fun wx (hb:Below w.heap.size w wx)=>cformed_any q.B q.cb q.b q.r wx (h.later hb).b
 have c5:=fun wx (hb:Below w.heap.size w wx) y=>vreached_any q y wx (h.later hb)
 have c6:=fun wx (hb:Below w.heap.size w wx) X d x=>vwanted_any q X d x wx (h.later hb)
 have HP1:=Hd (fun (j:Nat) x (hx:q.z[j]?=some x) =>@Vw.all_at _ q.z (fun z=>decide (Ve.stand (Ve.cnt z.l) (Ve.cnt q.k)=1)) j x hx)
 have HY1:=Hd (Vw.all_to q.z (fun z=>decide (Ve.stand (Ve.cnt z.l) (Ve.cnt q.k)=1)))
 have HP2:=Hd (fun (j:Nat) x (hx:q.h[j]?=some x) =>@Vw.all_at _ q.h (Vw.has q.vw) j x hx)
 have HY2:=Hd (Vw.all_to q.h (Vw.has q.vw));have HP3:=Hd (fun (j:Nat) x (hx:q.b[j]?=some x) =>@Vw.all_at _ q.b (fun z=>Vw.wants q.vw z.b) j x hx)
 have HY3:=Hd (Vw.all_to q.b (fun z=>Vw.wants q.vw z.b))
 obtain⟨hv,hhv⟩:∃f,Vw.has q.vw=f:=⟨_,rfl⟩;obtain⟨wa,hwa⟩:∃f,Vw.wants q.vw=f:=⟨_,rfl⟩;rw[hhv]at hF c5 HP2 HY2;rw[hwa]at hF c6 HP3 HY3;obtain⟨t,ht⟩:∃t,Vw.fmd q.vw=t:=⟨_,rfl⟩;rw[ht]at hF ⊢;have HQ:=Hd hVW;clear ht hhv hwa hZ hVW;have hll:=(And.intro h.z.len (And.intro h.h.len h.b.len));clear h;obtain⟨K,ck,kn,Z,cz,zs,H,ch,hs,B,cb,bs,room⟩:=q;unfold vwCells at c5 c6 ⊢;dsimp only at hF c1 c2 c3 c4 c5 c6 HP1 HY1 HP2 HY2 HP3 HY3 hll ⊢;obtain⟨f1,hf1⟩:∃f,Ve.fmd kn=f:=⟨_,rfl⟩;obtain⟨f2,hf2⟩:∃f,Tr.fmd (zs.map Zc.zn)=f:=⟨_,rfl⟩;obtain⟨f3,hf3⟩:∃f,Sf.fmd hs=f:=⟨_,rfl⟩;obtain⟨f4,hf4⟩:∃f,Ca.fmd (bs.map Bc.b) room=f:=⟨_,rfl⟩;obtain⟨r1,hr1⟩:∃f,zs.all (fun z=>decide (Ve.stand (Ve.cnt z.l) (Ve.cnt kn)=1))=f:=⟨_,rfl⟩
 obtain⟨r2,hr2⟩:∃f,hs.all hv=f:=⟨_,rfl⟩;obtain⟨r3,hr3⟩:∃f,bs.all (fun z=>wa z.b)=f:=⟨_,rfl⟩
 rw[hf1,hf2,hf3,hf4,hr1,hr2,hr3]at hF;rw[hf1]at c1;rw[hf2]at c2;rw[hf3]at c3;rw[hf4]at c4;rw[hr1]at HP1 HY1;rw[hr2]at HP2 HY2;rw[hr3]at HP3 HY3;have C1:=Hd c1;have C2:=Hd c2;have C3:=Hd c3;have C4:=Hd c4;have C5:=Hd c5;have C6:=Hd c6;have HT:=Hd hF;have b0:=below_new (Below.refl w.heap.size w) (.cells #[.slice K kn.length ck,.slice Z zs.length cz,.slice H hs.length ch,.slice B bs.length cb,.int .i64 room] 27);have V0:=Blk.new w 27 #[.slice K kn.length ck,.slice Z zs.length cz,.slice H hs.length ch,.slice B bs.length cb,.int .i64 room];obtain⟨W,hW⟩:∃W,w.alloc (.cells #[.slice K kn.length ck,.slice Z zs.length cz,.slice H hs.length ch,.slice B bs.length cb,.int .i64 room] 27)=W:=⟨_,rfl⟩;rw[hW]at b0 V0;have HW:=Hd hW;obtain⟨g,hg⟩:∃g,w.heap.size=g:=⟨_,rfl⟩;rw[hg]at V0;have HV:=Hd V0;have B0:=Hd b0;have hl1:=hll.1;have hl2:=hll.2.1;have hl3:=hll.2.2;clear hll c1 c2 c3 c4 c5 c6 hF hf1 hf2 hf3 hf4 hr1 hr2 hr3 b0 V0 hW
 go_enter Tryz.func16,Tryz.ntmps16
 go_upto_region 1 with (fail)
 rw[HW.out];clear HW;have v0:=HV.out.cell (i:=0) rfl;go_wp2_with fail;refine(C1.out W B0.out).mono ?_;rintro e w1 ⟨rfl,b1⟩;have B1:=Hd (below_on B0.out b1);have V1:=Hd (HV.out.later b1);have v1:=V1.out.cell (i:=1) rfl;clear b1 v0 B0 HV C1;cases f1 with
 |false=>
  obtain rfl:t=false:=HT.out;go_wp2;go_ret;exact⟨rfl,B1.out⟩
 |true=>
 go_wp2_with fail;refine(C2.out w1 B1.out).mono ?_;rintro e w2 ⟨rfl,b2⟩;have B2:=Hd (below_on B1.out b2);have V2:=Hd (V1.out.later b2);have v2:=V2.out.cell (i:=2) rfl;clear b2 v1 B1 V1 C2;cases f2 with
 |false=>
  obtain rfl:t=false:=HT.out;go_wp2;go_ret;exact⟨rfl,B2.out⟩
 |true=>
 go_wp2_with fail;refine(C3.out w2 B2.out).mono ?_;rintro e w3 ⟨rfl,b3⟩;have B3:=Hd (below_on B2.out b3);have V3:=Hd (V2.out.later b3);have v3:=V3.out.cell (i:=3) rfl;have v4:=V3.out.cell (i:=4) rfl;clear b3 v2 B2 V2 C3;cases f3 with
 |false=>
  obtain rfl:t=false:=HT.out;go_wp2;go_ret;exact⟨rfl,B3.out⟩
 |true=>
 go_wp2_with fail;refine(C4.out w3 B3.out).mono ?_;rintro e w4 ⟨rfl,b4⟩;have B4:=Hd (below_on B3.out b4);have V4:=Hd (V3.out.later b4);clear b4 v3 v4 B3 V3 C4;cases f4 with
 |false=>
  obtain rfl:t=false:=HT.out;go_wp2;go_ret;exact⟨rfl,B4.out⟩
 |true=>
 have HT1:=Hd (show(r1&&(r2&&r3))=t from HT.out.symm);clear HT;go_wp2_with fail
 go_loopw [3] (fun s3 wr=>∃k:Nat,k≤zs.length∧s3 = .int .i64 (k:Int)∧(∀(j:Nat) xe,j<k→zs[j]?=some xe→(decide (Ve.stand (Ve.cnt xe.l) (Ve.cnt kn)=1))=true)∧Below w4.heap.size w4 wr) (fun s3 _=>zs.length-(intOf s3).toNat)
 case atStart=>exact⟨0,Nat.zero_le _,rfl,(fun j xe hj=>by omega),Below.refl _ _⟩
 case round=>
  obtain⟨k,hk,rfl,hall,hbw⟩:=hrel;have hv0:=V4.out.later hbw;have v0:=hv0.cell (i:=0) rfl;have v1:=hv0.cell (i:=1) rfl;have hbb:=below_on B4.out hbw
  by_cases hlt:k<zs.length
  ·have hi0:(0:Int)≤(k:Int):=by omega
   have hi1:(k:Int)<(zs.length:Int):=by omega
   obtain⟨b,off,hA,hcs⟩:=(HQ.out wr hbb).z.at (fun e=>by rw[show zs=[] from e]at hlt;exact absurd hlt (Nat.not_lt_zero _))
   obtain⟨xe,hx⟩:∃xe,zs[k]?=some xe:=⟨_,List.getElem?_eq_getElem hlt⟩;have HE:=Hd (hcs k xe hx);obtain⟨sd,hsd⟩:∃sd,Ve.stand (Ve.cnt xe.l) (Ve.cnt kn)=sd:=⟨_,rfl⟩
   have NC:=Hd (fun w' (hb:Below wr.heap.size wr w')=>show Calls Tryz.prog 57 #[.slice xe.X xe.l.length xe.c,.slice K kn.length ck] w' (Says (.int .i64 sd) w') from by
    have q1:OneL w' xe.X xe.c xe.l:=((HQ.out wr hbb).z.one hx).later hb;have q2:OneL w' K ck kn:=(HQ.out w' (below_on hbb hb)).k;rw[←hsd];exact rcompare2_any xe.X K xe.c ck xe.l kn w' q1.len q2.len q1.stamps q2.stamps)
   have hpp:=HP1.out k xe hx;rw[hsd]at hpp
   have hqq:∀(j:Nat) y,j<k+1→zs[j]?=some y→sd=1→decide (Ve.stand (Ve.cnt y.l) (Ve.cnt kn)=1)=true:=fun j y hj hy h1=>by
    rcases Nat.lt_or_ge j k with h2|h2
    ·exact hall j y h2 hy
    ·obtain rfl:j=k:=by omega
     rw[hx]at hy;injection hy with hy
     subst hy;rw[hsd,h1];rfl
   have HPP:=Hd hpp;have HQQ:=Hd hqq;have BW:=Hd hbw;have BB:=Hd hbb;subst hA;clear hv0 hbb hbw hall hcs hsd hpp hqq hx
   by_cases hs1:sd=1
   ·have HQ1:=Hd (fun j y h1 h2=>HQQ.out j y h1 h2 hs1)
    subst hs1;clear HQQ HPP
    go_upto_region 6 with (fail)
    refine wp_region_facts 9 (by kernel_rfl) (by kernel_rfl)
     (fun v=>{ tmps:=#[.agg #[.slice K kn.length ck,.slice (some ⟨b,off,none⟩) zs.length cz,.slice H hs.length ch,.slice B bs.length cb,.int .i64 room],.pointer (some ⟨g,0,none⟩),u2,.int .i64 (k:Int),undef,undef,.pointer (some ⟨g,0,none⟩),.slice K kn.length ck,.bool true,.bool false,.bool false,.pointer (some ⟨g,1,none⟩),.slice (some ⟨b,off,none⟩) zs.length cz,.bool true,.bool false,.bool false,.bool false,.pointer (some ⟨g,2,none⟩),.slice H hs.length ch,.bool true,.bool false,.bool false,.bool false,.pointer (some ⟨g,3,none⟩),.slice B bs.length cb,.pointer (some ⟨g,4,none⟩),.int .i64 room,.bool true,.bool false,.bool false,.int .i64 (k:Int),.pointer (some ⟨g,1,none⟩),.slice (some ⟨b,off,none⟩) zs.length cz,.int .i64 (zs.length:Int),.bool true,u35,u36,v 0,v 1,v 2,v 3,v 4,v 5,v 6,v 7,v 8,u46,undef,undef,undef,undef,undef,undef,undef,undef,undef,undef,undef,undef,undef,undef,undef,undef,undef,undef,undef,undef,undef,undef,undef,undef,undef,undef,undef,undef,undef,undef],defers:=[] }) (fun i=>match i with|0=>u37|1=>u38|2=>u39|3=>u40|4=>u41|5=>u42|6=>u43|7=>u44|8=>u45|_=>undef)
     (fun i x wx=>match i with
      |0=>x = .pointer (some ⟨g,1,none⟩)
      |1=>x = .slice (some ⟨b,off,none⟩) zs.length cz
      |2=>x = .int .i64 (k:Int)
      |3=>x = .pointer (some ⟨b,off+k*3,none⟩)
      |4=>x = .pointer (some ⟨b,off+k*3+2,none⟩)
      |5=>x = .slice xe.X xe.l.length xe.c
      |6=>x = .pointer (some ⟨g,0,none⟩)
      |7=>x = .slice K kn.length ck
      |8=>x = .int .i64 1
      |_=>True)
     (fun w1 w2=>Below w1.heap.size w1 w2) (fun h1 h2=>below_on h1 h2) (fun _=>Below.refl _ _) (Below.drew (Below.refl _ _)) ?stabA ?stepA ?doneA
    case stabA=>
     rintro i x w1 w2 h hb
     match i,h with
     |0,h=>exact h
     |1,h=>exact h
     |2,h=>exact h
     |3,h=>exact h
     |4,h=>exact h
     |5,h=>exact h
     |6,h=>exact h
     |7,h=>exact h
     |8,h=>exact h
     |i+9,_=>trivial
    case stepA=>
     intro i hi v w' hb hd
     match i,hi with
     |0,_=>
      refine wpOp_oneH rfl fun KK HKK =>?_
      clear hd;go_wp2;exact HKK.out _ _ ⟨_,(by simp[upd]),Below.refl _ _,rfl⟩
     |1,_=>
      have h0:v 0=_:=hdx hd 0 (by kernel_rfl)
      refine wpOp_oneH rfl fun KK HKK =>?_
      clear hd;rw[h0];have q0:=cell_later hb v1;go_wp2;exact HKK.out _ _ ⟨_,(by simp[upd,h0]),Below.refl _ _,rfl⟩
     |2,_=>
      refine wpOp_oneH rfl fun KK HKK =>?_
      clear hd;go_wp2;exact HKK.out _ _ ⟨_,(by simp[upd]),Below.refl _ _,rfl⟩
     |3,_=>
      have h1:v 1=_:=hdx hd 1 (by kernel_rfl)
      have h2:v 2=_:=hdx hd 2 (by kernel_rfl)
      refine wpOp_oneH rfl fun KK HKK =>?_
      clear hd;rw[h1,h2];go_wp2;exact HKK.out _ _ ⟨_,(by simp[upd,h1,h2]),Below.refl _ _,rfl⟩
     |4,_=>
      have h3:v 3=_:=hdx hd 3 (by kernel_rfl)
      refine wpOp_oneH rfl fun KK HKK =>?_
      clear hd;rw[h3];go_wp2;exact HKK.out _ _ ⟨_,(by simp[upd,h3]),Below.refl _ _,rfl⟩
     |5,_=>
      have h4:v 4=_:=hdx hd 4 (by kernel_rfl)
      refine wpOp_oneH rfl fun KK HKK =>?_
      clear hd;rw[h4];have q0:=cell_later hb HE.out.2.2;go_wp2;exact HKK.out _ _ ⟨_,(by simp[upd,h4]),Below.refl _ _,rfl⟩
     |6,_=>
      refine wpOp_oneH rfl fun KK HKK =>?_
      clear hd;go_wp2;exact HKK.out _ _ ⟨_,(by simp[upd]),Below.refl _ _,rfl⟩
     |7,_=>
      have h6:v 6=_:=hdx hd 6 (by kernel_rfl)
      refine wpOp_oneH rfl fun KK HKK =>?_
      clear hd;rw[h6];have q0:=cell_later hb v0;go_wp2;exact HKK.out _ _ ⟨_,(by simp[upd,h6]),Below.refl _ _,rfl⟩
     |8,_=>
      have h5:v 5=_:=hdx hd 5 (by kernel_rfl)
      have h7:v 7=_:=hdx hd 7 (by kernel_rfl)
      refine wpOp_oneH rfl fun KK HKK =>?_
      clear hd;rw[h5,h7];go_wp2_with fail;refine(NC.out _ hb).mono ?_;rintro e w'' ⟨rfl,b⟩;go_wp2;exact HKK.out _ _ ⟨_,(by simp[upd,h5,h7]),b,rfl⟩
     |k+9,hk=>exact absurd hk (by omega)
    case doneA=>
     intro v w5 hb hf;have h8:v 8=_:=hf 8 (by decide)
     clear hf;rw[h8];have BW2:=Hd (below_on BW.out hb);clear hb NC HE;go_wp2_with fail
     go_roundw
     case rel=>exact⟨k+1,by omega,by go_num,HQ1.out,BW2.out⟩
     case measure=>simp[intOf];omega
   ·have hd1:(sd == 1)=false:=beq_eq_false_iff_ne.2 hs1
    have hd2:decide (sd=1)=false:=decide_eq_false hs1;obtain rfl:r1=false:=HPP.out hd2;obtain rfl:t=false:=HT1.out.symm;clear HQQ HPP
    go_upto_region 6 with (fail)
    refine wp_region_facts 9 (by kernel_rfl) (by kernel_rfl)
     (fun v=>{ tmps:=#[.agg #[.slice K kn.length ck,.slice (some ⟨b,off,none⟩) zs.length cz,.slice H hs.length ch,.slice B bs.length cb,.int .i64 room],.pointer (some ⟨g,0,none⟩),u2,.int .i64 (k:Int),undef,undef,.pointer (some ⟨g,0,none⟩),.slice K kn.length ck,.bool true,.bool false,.bool false,.pointer (some ⟨g,1,none⟩),.slice (some ⟨b,off,none⟩) zs.length cz,.bool true,.bool false,.bool false,.bool false,.pointer (some ⟨g,2,none⟩),.slice H hs.length ch,.bool true,.bool false,.bool false,.bool false,.pointer (some ⟨g,3,none⟩),.slice B bs.length cb,.pointer (some ⟨g,4,none⟩),.int .i64 room,.bool true,.bool false,.bool false,.int .i64 (k:Int),.pointer (some ⟨g,1,none⟩),.slice (some ⟨b,off,none⟩) zs.length cz,.int .i64 (zs.length:Int),.bool true,u35,u36,v 0,v 1,v 2,v 3,v 4,v 5,v 6,v 7,v 8,u46,undef,undef,undef,undef,undef,undef,undef,undef,undef,undef,undef,undef,undef,undef,undef,undef,undef,undef,undef,undef,undef,undef,undef,undef,undef,undef,undef,undef,undef,undef],defers:=[] }) (fun i=>match i with|0=>u37|1=>u38|2=>u39|3=>u40|4=>u41|5=>u42|6=>u43|7=>u44|8=>u45|_=>undef)
     (fun i x wx=>match i with
      |0=>x = .pointer (some ⟨g,1,none⟩)
      |1=>x = .slice (some ⟨b,off,none⟩) zs.length cz
      |2=>x = .int .i64 (k:Int)
      |3=>x = .pointer (some ⟨b,off+k*3,none⟩)
      |4=>x = .pointer (some ⟨b,off+k*3+2,none⟩)
      |5=>x = .slice xe.X xe.l.length xe.c
      |6=>x = .pointer (some ⟨g,0,none⟩)
      |7=>x = .slice K kn.length ck
      |8=>x = .int .i64 sd
      |_=>True)
     (fun w1 w2=>Below w1.heap.size w1 w2) (fun h1 h2=>below_on h1 h2) (fun _=>Below.refl _ _) (Below.drew (Below.refl _ _)) ?stabB ?stepB ?doneB
    case stabB=>
     rintro i x w1 w2 h hb
     match i,h with
     |0,h=>exact h
     |1,h=>exact h
     |2,h=>exact h
     |3,h=>exact h
     |4,h=>exact h
     |5,h=>exact h
     |6,h=>exact h
     |7,h=>exact h
     |8,h=>exact h
     |i+9,_=>trivial
    case stepB=>
     intro i hi v w' hb hd
     match i,hi with
     |0,_=>
      refine wpOp_oneH rfl fun KK HKK =>?_
      clear hd;go_wp2;exact HKK.out _ _ ⟨_,(by simp[upd]),Below.refl _ _,rfl⟩
     |1,_=>
      have h0:v 0=_:=hdx hd 0 (by kernel_rfl)
      refine wpOp_oneH rfl fun KK HKK =>?_
      clear hd;rw[h0];have q0:=cell_later hb v1;go_wp2;exact HKK.out _ _ ⟨_,(by simp[upd,h0]),Below.refl _ _,rfl⟩
     |2,_=>
      refine wpOp_oneH rfl fun KK HKK =>?_
      clear hd;go_wp2;exact HKK.out _ _ ⟨_,(by simp[upd]),Below.refl _ _,rfl⟩
     |3,_=>
      have h1:v 1=_:=hdx hd 1 (by kernel_rfl)
      have h2:v 2=_:=hdx hd 2 (by kernel_rfl)
      refine wpOp_oneH rfl fun KK HKK =>?_
      clear hd;rw[h1,h2];go_wp2;exact HKK.out _ _ ⟨_,(by simp[upd,h1,h2]),Below.refl _ _,rfl⟩
     |4,_=>
      have h3:v 3=_:=hdx hd 3 (by kernel_rfl)
      refine wpOp_oneH rfl fun KK HKK =>?_
      clear hd;rw[h3];go_wp2;exact HKK.out _ _ ⟨_,(by simp[upd,h3]),Below.refl _ _,rfl⟩
     |5,_=>
      have h4:v 4=_:=hdx hd 4 (by kernel_rfl)
      refine wpOp_oneH rfl fun KK HKK =>?_
      clear hd;rw[h4];have q0:=cell_later hb HE.out.2.2;go_wp2;exact HKK.out _ _ ⟨_,(by simp[upd,h4]),Below.refl _ _,rfl⟩
     |6,_=>
      refine wpOp_oneH rfl fun KK HKK =>?_
      clear hd;go_wp2;exact HKK.out _ _ ⟨_,(by simp[upd]),Below.refl _ _,rfl⟩
     |7,_=>
      have h6:v 6=_:=hdx hd 6 (by kernel_rfl)
      refine wpOp_oneH rfl fun KK HKK =>?_
      clear hd;rw[h6];have q0:=cell_later hb v0;go_wp2;exact HKK.out _ _ ⟨_,(by simp[upd,h6]),Below.refl _ _,rfl⟩
     |8,_=>
      have h5:v 5=_:=hdx hd 5 (by kernel_rfl)
      have h7:v 7=_:=hdx hd 7 (by kernel_rfl)
      refine wpOp_oneH rfl fun KK HKK =>?_
      clear hd;rw[h5,h7];go_wp2_with fail;refine(NC.out _ hb).mono ?_;rintro e w'' ⟨rfl,b⟩;go_wp2;exact HKK.out _ _ ⟨_,(by simp[upd,h5,h7]),b,rfl⟩
     |k+9,hk=>exact absurd hk (by omega)
    case doneB=>
     intro v w5 hb hf;have h8:v 8=_:=hf 8 (by decide)
     clear hf;rw[h8];have BB2:=Hd (below_on BB.out hb);clear hb NC HE;go_wp2;go_ret;exact⟨rfl,BB2.out⟩
  obtain rfl:k=zs.length:=by omega
  have hd0:decide ((zs.length:Int)<(zs.length:Int))=false:=decide_eq_false (by omega)
  obtain rfl:r1=true:=HY1.out (fun j xe hx=>hall j xe (by have:=(List.getElem?_eq_some_iff.1 hx).1;omega) hx)
  have B5:=Hd hbb;have V5:=Hd hv0;have HT2:=Hd (show(r2&&r3)=t from HT1.out);clear HT1;have HT1:=HT2;clear HT2 hall hbw hbb hv0 B4 V4 HY1 HP1
  rename World=>w5
  go_wp2_with fail;clear v0 v1 hd0 hlt hk
  go_loopw [4] (fun s4 wr=>∃k:Nat,k≤hs.length∧s4 = .int .i64 (k:Int)∧(∀(j:Nat) xe,j<k→hs[j]?=some xe→(hv xe)=true)∧Below w5.heap.size w5 wr) (fun s4 _=>hs.length-(intOf s4).toNat)
  case atStart=>exact⟨0,Nat.zero_le _,rfl,(fun j xe hj=>by omega),Below.refl _ _⟩
  case round=>
   obtain⟨k,hk,rfl,hall,hbw⟩:=hrel;have hv0:=V5.out.later hbw;have v0:=hv0.cell (i:=0) rfl;have v1:=hv0.cell (i:=1) rfl;have v2:=hv0.cell (i:=2) rfl;have v3:=hv0.cell (i:=3) rfl;have v4:=hv0.cell (i:=4) rfl;have hbb:=below_on B5.out hbw
   by_cases hlt:k<hs.length
   ·have hi0:(0:Int)≤(k:Int):=by omega
    have hi1:(k:Int)<(hs.length:Int):=by omega
    obtain⟨b,off,hA,hcs⟩:=(HQ.out wr hbb).h.at (fun e=>by rw[show hs=[] from e]at hlt;exact absurd hlt (Nat.not_lt_zero _))
    obtain⟨xe,hxx⟩:∃xe,hs.getD k Nt.zeroW=xe:=⟨_,rfl⟩
    have hx:hs[k]?=some xe:=by
     rw[←hxx,List.getD_eq_getElem?_getD,List.getElem?_eq_getElem hlt];rfl
    have hcx:=hcs k hlt;dsimp only at hcx;rw[hxx]at hcx;have HE:=Hd hcx;obtain⟨sd,hsd⟩:∃sd,hv xe=sd:=⟨_,rfl⟩
    have NC:=Hd (fun w' (hb:Below wr.heap.size wr w')=>show Calls Tryz.prog 58 #[.agg #[.slice K kn.length ck,.slice Z zs.length cz,.slice H hs.length ch,.slice B bs.length cb,.int .i64 room],.agg #[.int .i64 xe.1,.int .i64 xe.2.1,.int .i64 xe.2.2.1,.bool xe.2.2.2]] w' (Says (.bool sd) w') from by
     rw[←hsd];exact C5.out w' (below_on hbb hb) xe)
    have hpp:=HP2.out k xe hx;rw[show(hv xe)=sd from hsd]at hpp
    have hqq:∀(j:Nat) y,j<k+1→hs[j]?=some y→sd=true→(hv y)=true:=fun j y hj hy h1=>by
     rcases Nat.lt_or_ge j k with h2|h2
     ·exact hall j y h2 hy
     ·obtain rfl:j=k:=by omega
      rw[hx]at hy;injection hy with hy
      subst hy;exact hsd.trans h1
    have HPP:=Hd hpp;have HQQ:=Hd hqq;have BW:=Hd hbw;have BB:=Hd hbb;subst hA;clear hv0 hbb hbw hall hcs hcx hxx hsd hpp hqq hx;cases sd with
    |true=>
     have HQ1:=Hd (fun j y h1 h2=>HQQ.out j y h1 h2 rfl)
     clear HQQ HPP
     go_upto_region 11 with (fail)
     refine wp_region_facts 7 (by kernel_rfl) (by kernel_rfl)
      (fun v=>{ tmps:=#[.agg #[.slice K kn.length ck,.slice Z zs.length cz,.slice (some ⟨b,off,none⟩) hs.length ch,.slice B bs.length cb,.int .i64 room],.pointer (some ⟨g,0,none⟩),u2,.int .i64 (zs.length:Int),.int .i64 (k:Int),undef,.pointer (some ⟨g,0,none⟩),.slice K kn.length ck,.bool true,.bool false,.bool false,.pointer (some ⟨g,1,none⟩),.slice Z zs.length cz,.bool true,.bool false,.bool false,.bool false,.pointer (some ⟨g,2,none⟩),.slice (some ⟨b,off,none⟩) hs.length ch,.bool true,.bool false,.bool false,.bool false,.pointer (some ⟨g,3,none⟩),.slice B bs.length cb,.pointer (some ⟨g,4,none⟩),.int .i64 room,.bool true,.bool false,.bool false,.int .i64 (zs.length:Int),.pointer (some ⟨g,1,none⟩),.slice Z zs.length cz,.int .i64 (zs.length:Int),.bool false,u35,u36,u37,u38,u39,u40,u41,u42,u43,u44,u45,u46,.int .i64 (k:Int),.pointer (some ⟨g,2,none⟩),.slice (some ⟨b,off,none⟩) hs.length ch,.int .i64 (hs.length:Int),.bool true,u52,u53,v 0,v 1,v 2,v 3,v 4,v 5,v 6,u61,undef,undef,undef,undef,undef,undef,undef,undef,undef,undef,undef,undef,undef,undef,undef],defers:=[] }) (fun i=>match i with|0=>u54|1=>u55|2=>u56|3=>u57|4=>u58|5=>u59|6=>u60|_=>undef)
      (fun i x wx=>match i with
       |0=>x = .agg #[.slice K kn.length ck,.slice Z zs.length cz,.slice (some ⟨b,off,none⟩) hs.length ch,.slice B bs.length cb,.int .i64 room]
       |1=>x = .pointer (some ⟨g,2,none⟩)
       |2=>x = .slice (some ⟨b,off,none⟩) hs.length ch
       |3=>x = .int .i64 (k:Int)
       |4=>x = .pointer (some ⟨b,off+k*4,none⟩)
       |5=>x = .agg #[.int .i64 xe.1,.int .i64 xe.2.1,.int .i64 xe.2.2.1,.bool xe.2.2.2]
       |6=>x = .bool true
       |_=>True)
      (fun w1 w2=>Below w1.heap.size w1 w2) (fun h1 h2=>below_on h1 h2) (fun _=>Below.refl _ _) (Below.drew (Below.refl _ _)) ?stabC ?stepC ?doneC
     case stabC=>
      rintro i x w1 w2 h hb
      match i,h with
      |0,h=>exact h
      |1,h=>exact h
      |2,h=>exact h
      |3,h=>exact h
      |4,h=>exact h
      |5,h=>exact h
      |6,h=>exact h
      |i+7,_=>trivial
     case stepC=>
      intro i hi v w' hb hd
      match i,hi with
      |0,_=>
       refine wpOp_oneH rfl fun KK HKK =>?_
       clear hd;have q0:=cell_later hb v0;have q1:=cell_later hb v1;have q2:=cell_later hb v2;have q3:=cell_later hb v3;have q4:=cell_later hb v4;go_wp2;exact HKK.out _ _ ⟨_,(by simp[upd]),Below.refl _ _,rfl⟩
      |1,_=>
       refine wpOp_oneH rfl fun KK HKK =>?_
       clear hd;go_wp2;exact HKK.out _ _ ⟨_,(by simp[upd]),Below.refl _ _,rfl⟩
      |2,_=>
       have h1:v 1=_:=hdx hd 1 (by kernel_rfl)
       refine wpOp_oneH rfl fun KK HKK =>?_
       clear hd;rw[h1];have q0:=cell_later hb v2;go_wp2;exact HKK.out _ _ ⟨_,(by simp[upd,h1]),Below.refl _ _,rfl⟩
      |3,_=>
       refine wpOp_oneH rfl fun KK HKK =>?_
       clear hd;go_wp2;exact HKK.out _ _ ⟨_,(by simp[upd]),Below.refl _ _,rfl⟩
      |4,_=>
       have h2:v 2=_:=hdx hd 2 (by kernel_rfl)
       have h3:v 3=_:=hdx hd 3 (by kernel_rfl)
       refine wpOp_oneH rfl fun KK HKK =>?_
       clear hd;rw[h2,h3];go_wp2;exact HKK.out _ _ ⟨_,(by simp[upd,h2,h3]),Below.refl _ _,rfl⟩
      |5,_=>
       have h4:v 4=_:=hdx hd 4 (by kernel_rfl)
       refine wpOp_oneH rfl fun KK HKK =>?_
       clear hd;rw[h4];have q0:=cell_later hb HE.out.1;have q1:=cell_later hb HE.out.2.1;have q2:=cell_later hb HE.out.2.2.1;have q3:=cell_later hb HE.out.2.2.2;go_wp2;exact HKK.out _ _ ⟨_,(by simp[upd,h4]),Below.refl _ _,rfl⟩
      |6,_=>
       have h0:v 0=_:=hdx hd 0 (by kernel_rfl)
       have h5:v 5=_:=hdx hd 5 (by kernel_rfl)
       refine wpOp_oneH rfl fun KK HKK =>?_
       clear hd;rw[h0,h5];go_wp2_with fail;refine(NC.out _ hb).mono ?_;rintro e w'' ⟨rfl,b⟩;go_wp2;exact HKK.out _ _ ⟨_,(by simp[upd,h0,h5]),b,rfl⟩
      |k+7,hk=>exact absurd hk (by omega)
     case doneC=>
      intro v w5 hb hf;have h6:v 6=_:=hf 6 (by decide)
      clear hf;rw[h6];have BW2:=Hd (below_on BW.out hb);clear hb NC HE;go_wp2_with fail
      go_roundw
      case rel=>exact⟨k+1,by omega,by go_num,HQ1.out,BW2.out⟩
      case measure=>simp[intOf];omega
    |false=>
     obtain rfl:r2=false:=HPP.out rfl;obtain rfl:t=false:=HT1.out.symm;clear HQQ HPP
     go_upto_region 11 with (fail)
     refine wp_region_facts 7 (by kernel_rfl) (by kernel_rfl)
      (fun v=>{ tmps:=#[.agg #[.slice K kn.length ck,.slice Z zs.length cz,.slice (some ⟨b,off,none⟩) hs.length ch,.slice B bs.length cb,.int .i64 room],.pointer (some ⟨g,0,none⟩),u2,.int .i64 (zs.length:Int),.int .i64 (k:Int),undef,.pointer (some ⟨g,0,none⟩),.slice K kn.length ck,.bool true,.bool false,.bool false,.pointer (some ⟨g,1,none⟩),.slice Z zs.length cz,.bool true,.bool false,.bool false,.bool false,.pointer (some ⟨g,2,none⟩),.slice (some ⟨b,off,none⟩) hs.length ch,.bool true,.bool false,.bool false,.bool false,.pointer (some ⟨g,3,none⟩),.slice B bs.length cb,.pointer (some ⟨g,4,none⟩),.int .i64 room,.bool true,.bool false,.bool false,.int .i64 (zs.length:Int),.pointer (some ⟨g,1,none⟩),.slice Z zs.length cz,.int .i64 (zs.length:Int),.bool false,u35,u36,u37,u38,u39,u40,u41,u42,u43,u44,u45,u46,.int .i64 (k:Int),.pointer (some ⟨g,2,none⟩),.slice (some ⟨b,off,none⟩) hs.length ch,.int .i64 (hs.length:Int),.bool true,u52,u53,v 0,v 1,v 2,v 3,v 4,v 5,v 6,u61,undef,undef,undef,undef,undef,undef,undef,undef,undef,undef,undef,undef,undef,undef,undef],defers:=[] }) (fun i=>match i with|0=>u54|1=>u55|2=>u56|3=>u57|4=>u58|5=>u59|6=>u60|_=>undef)
      (fun i x wx=>match i with
       |0=>x = .agg #[.slice K kn.length ck,.slice Z zs.length cz,.slice (some ⟨b,off,none⟩) hs.length ch,.slice B bs.length cb,.int .i64 room]
       |1=>x = .pointer (some ⟨g,2,none⟩)
       |2=>x = .slice (some ⟨b,off,none⟩) hs.length ch
       |3=>x = .int .i64 (k:Int)
       |4=>x = .pointer (some ⟨b,off+k*4,none⟩)
       |5=>x = .agg #[.int .i64 xe.1,.int .i64 xe.2.1,.int .i64 xe.2.2.1,.bool xe.2.2.2]
       |6=>x = .bool false
       |_=>True)
      (fun w1 w2=>Below w1.heap.size w1 w2) (fun h1 h2=>below_on h1 h2) (fun _=>Below.refl _ _) (Below.drew (Below.refl _ _)) ?stabD ?stepD ?doneD
     case stabD=>
      rintro i x w1 w2 h hb
      match i,h with
      |0,h=>exact h
      |1,h=>exact h
      |2,h=>exact h
      |3,h=>exact h
      |4,h=>exact h
      |5,h=>exact h
      |6,h=>exact h
      |i+7,_=>trivial
     case stepD=>
      intro i hi v w' hb hd
      match i,hi with
      |0,_=>
       refine wpOp_oneH rfl fun KK HKK =>?_
       clear hd;have q0:=cell_later hb v0;have q1:=cell_later hb v1;have q2:=cell_later hb v2;have q3:=cell_later hb v3;have q4:=cell_later hb v4;go_wp2;exact HKK.out _ _ ⟨_,(by simp[upd]),Below.refl _ _,rfl⟩
      |1,_=>
       refine wpOp_oneH rfl fun KK HKK =>?_
       clear hd;go_wp2;exact HKK.out _ _ ⟨_,(by simp[upd]),Below.refl _ _,rfl⟩
      |2,_=>
       have h1:v 1=_:=hdx hd 1 (by kernel_rfl)
       refine wpOp_oneH rfl fun KK HKK =>?_
       clear hd;rw[h1];have q0:=cell_later hb v2;go_wp2;exact HKK.out _ _ ⟨_,(by simp[upd,h1]),Below.refl _ _,rfl⟩
      |3,_=>
       refine wpOp_oneH rfl fun KK HKK =>?_
       clear hd;go_wp2;exact HKK.out _ _ ⟨_,(by simp[upd]),Below.refl _ _,rfl⟩
      |4,_=>
       have h2:v 2=_:=hdx hd 2 (by kernel_rfl)
       have h3:v 3=_:=hdx hd 3 (by kernel_rfl)
       refine wpOp_oneH rfl fun KK HKK =>?_
       clear hd;rw[h2,h3];go_wp2;exact HKK.out _ _ ⟨_,(by simp[upd,h2,h3]),Below.refl _ _,rfl⟩
      |5,_=>
       have h4:v 4=_:=hdx hd 4 (by kernel_rfl)
       refine wpOp_oneH rfl fun KK HKK =>?_
       clear hd;rw[h4];have q0:=cell_later hb HE.out.1;have q1:=cell_later hb HE.out.2.1;have q2:=cell_later hb HE.out.2.2.1;have q3:=cell_later hb HE.out.2.2.2;go_wp2;exact HKK.out _ _ ⟨_,(by simp[upd,h4]),Below.refl _ _,rfl⟩
      |6,_=>
       have h0:v 0=_:=hdx hd 0 (by kernel_rfl)
       have h5:v 5=_:=hdx hd 5 (by kernel_rfl)
       refine wpOp_oneH rfl fun KK HKK =>?_
       clear hd;rw[h0,h5];go_wp2_with fail;refine(NC.out _ hb).mono ?_;rintro e w'' ⟨rfl,b⟩;go_wp2;exact HKK.out _ _ ⟨_,(by simp[upd,h0,h5]),b,rfl⟩
      |k+7,hk=>exact absurd hk (by omega)
     case doneD=>
      intro v w5 hb hf;have h6:v 6=_:=hf 6 (by decide)
      clear hf;rw[h6];have BB2:=Hd (below_on BB.out hb);clear hb NC HE;go_wp2;go_ret;exact⟨rfl,BB2.out⟩
   obtain rfl:k=hs.length:=by omega
   have hd0:decide ((hs.length:Int)<(hs.length:Int))=false:=decide_eq_false (by omega)
   obtain rfl:r2=true:=HY2.out (fun j xe hx=>hall j xe (by have:=(List.getElem?_eq_some_iff.1 hx).1;omega) hx)
   have B6:=Hd hbb;have V6:=Hd hv0;have HT2:=Hd (show(r3)=t from HT1.out);clear HT1;have HT1:=HT2;clear HT2 hall hbw hbb hv0 B5 V5 HY2 HP2
   rename World=>w6
   go_wp2_with fail;clear v0 v1 v2 v3 v4 hd0 hlt hk
   go_loopw [5] (fun s5 wr=>∃k:Nat,k≤bs.length∧s5 = .int .i64 (k:Int)∧(∀(j:Nat) xe,j<k→bs[j]?=some xe→(wa xe.b)=true)∧Below w6.heap.size w6 wr) (fun s5 _=>bs.length-(intOf s5).toNat)
   case atStart=>exact⟨0,Nat.zero_le _,rfl,(fun j xe hj=>by omega),Below.refl _ _⟩
   case round=>
    obtain⟨k,hk,rfl,hall,hbw⟩:=hrel;have hv0:=V6.out.later hbw;have v0:=hv0.cell (i:=0) rfl;have v1:=hv0.cell (i:=1) rfl;have v2:=hv0.cell (i:=2) rfl;have v3:=hv0.cell (i:=3) rfl;have v4:=hv0.cell (i:=4) rfl;have hbb:=below_on B6.out hbw
    by_cases hlt:k<bs.length
    ·have hi0:(0:Int)≤(k:Int):=by omega
     have hi1:(k:Int)<(bs.length:Int):=by omega
     obtain⟨b,off,hA,hcs⟩:=(HQ.out wr hbb).b.at (fun e=>by rw[show bs=[] from e]at hlt;exact absurd hlt (Nat.not_lt_zero _))
     obtain⟨xe,hxx⟩:∃xe,bs.getD k Bc.zero=xe:=⟨_,rfl⟩
     have hx:bs[k]?=some xe:=by
      rw[←hxx,List.getD_eq_getElem?_getD,List.getElem?_eq_getElem hlt];rfl
     have hcx:=hcs k hlt;dsimp only at hcx;rw[hxx]at hcx;have HE:=Hd hcx;obtain⟨sd,hsd⟩:∃sd,wa xe.b=sd:=⟨_,rfl⟩
     have NC:=Hd (fun w' (hb:Below wr.heap.size wr w')=>show Calls Tryz.prog 59 #[.agg #[.slice K kn.length ck,.slice Z zs.length cz,.slice H hs.length ch,.slice B bs.length cb,.int .i64 room],.agg #[.int .i64 xe.b.o,.int .i64 xe.b.c,.int .i64 xe.b.n,.slice xe.X xe.b.v.length xe.d]] w' (Says (.bool sd) w') from by
      rw[←hsd];exact C6.out w' (below_on hbb hb) xe.X xe.d xe.b)
     have hpp:=HP3.out k xe hx;rw[show(wa xe.b)=sd from hsd]at hpp
     have hqq:∀(j:Nat) y,j<k+1→bs[j]?=some y→sd=true→(wa y.b)=true:=fun j y hj hy h1=>by
      rcases Nat.lt_or_ge j k with h2|h2
      ·exact hall j y h2 hy
      ·obtain rfl:j=k:=by omega
       rw[hx]at hy;injection hy with hy
       subst hy;exact hsd.trans h1
     have HPP:=Hd hpp;have HQQ:=Hd hqq;have BW:=Hd hbw;have BB:=Hd hbb;subst hA;clear hv0 hbb hbw hall hcs hcx hxx hsd hpp hqq hx;cases sd with
     |true=>
      have HQ1:=Hd (fun j y h1 h2=>HQQ.out j y h1 h2 rfl)
      clear HQQ HPP
      go_upto_region 16 with (fail)
      refine wp_region_facts 7 (by kernel_rfl) (by kernel_rfl)
       (fun v=>{ tmps:=#[.agg #[.slice K kn.length ck,.slice Z zs.length cz,.slice H hs.length ch,.slice (some ⟨b,off,none⟩) bs.length cb,.int .i64 room],.pointer (some ⟨g,0,none⟩),u2,.int .i64 (zs.length:Int),.int .i64 (hs.length:Int),.int .i64 (k:Int),.pointer (some ⟨g,0,none⟩),.slice K kn.length ck,.bool true,.bool false,.bool false,.pointer (some ⟨g,1,none⟩),.slice Z zs.length cz,.bool true,.bool false,.bool false,.bool false,.pointer (some ⟨g,2,none⟩),.slice H hs.length ch,.bool true,.bool false,.bool false,.bool false,.pointer (some ⟨g,3,none⟩),.slice (some ⟨b,off,none⟩) bs.length cb,.pointer (some ⟨g,4,none⟩),.int .i64 room,.bool true,.bool false,.bool false,.int .i64 (zs.length:Int),.pointer (some ⟨g,1,none⟩),.slice Z zs.length cz,.int .i64 (zs.length:Int),.bool false,u35,u36,u37,u38,u39,u40,u41,u42,u43,u44,u45,u46,.int .i64 (hs.length:Int),.pointer (some ⟨g,2,none⟩),.slice H hs.length ch,.int .i64 (hs.length:Int),.bool false,u52,u53,u54,u55,u56,u57,u58,u59,u60,u61,.int .i64 (k:Int),.pointer (some ⟨g,3,none⟩),.slice (some ⟨b,off,none⟩) bs.length cb,.int .i64 (bs.length:Int),.bool true,u67,u68,v 0,v 1,v 2,v 3,v 4,v 5,v 6,u76],defers:=[] }) (fun i=>match i with|0=>u69|1=>u70|2=>u71|3=>u72|4=>u73|5=>u74|6=>u75|_=>undef)
       (fun i x wx=>match i with
        |0=>x = .agg #[.slice K kn.length ck,.slice Z zs.length cz,.slice H hs.length ch,.slice (some ⟨b,off,none⟩) bs.length cb,.int .i64 room]
        |1=>x = .pointer (some ⟨g,3,none⟩)
        |2=>x = .slice (some ⟨b,off,none⟩) bs.length cb
        |3=>x = .int .i64 (k:Int)
        |4=>x = .pointer (some ⟨b,off+k*4,none⟩)
        |5=>x = .agg #[.int .i64 xe.b.o,.int .i64 xe.b.c,.int .i64 xe.b.n,.slice xe.X xe.b.v.length xe.d]
        |6=>x = .bool true
        |_=>True)
       (fun w1 w2=>Below w1.heap.size w1 w2) (fun h1 h2=>below_on h1 h2) (fun _=>Below.refl _ _) (Below.drew (Below.refl _ _)) ?stabE ?stepE ?doneE
      case stabE=>
       rintro i x w1 w2 h hb
       match i,h with
       |0,h=>exact h
       |1,h=>exact h
       |2,h=>exact h
       |3,h=>exact h
       |4,h=>exact h
       |5,h=>exact h
       |6,h=>exact h
       |i+7,_=>trivial
      case stepE=>
       intro i hi v w' hb hd
       match i,hi with
       |0,_=>
        refine wpOp_oneH rfl fun KK HKK =>?_
        clear hd;have q0:=cell_later hb v0;have q1:=cell_later hb v1;have q2:=cell_later hb v2;have q3:=cell_later hb v3;have q4:=cell_later hb v4;go_wp2;exact HKK.out _ _ ⟨_,(by simp[upd]),Below.refl _ _,rfl⟩
       |1,_=>
        refine wpOp_oneH rfl fun KK HKK =>?_
        clear hd;go_wp2;exact HKK.out _ _ ⟨_,(by simp[upd]),Below.refl _ _,rfl⟩
       |2,_=>
        have h1:v 1=_:=hdx hd 1 (by kernel_rfl)
        refine wpOp_oneH rfl fun KK HKK =>?_
        clear hd;rw[h1];have q0:=cell_later hb v3;go_wp2;exact HKK.out _ _ ⟨_,(by simp[upd,h1]),Below.refl _ _,rfl⟩
       |3,_=>
        refine wpOp_oneH rfl fun KK HKK =>?_
        clear hd;go_wp2;exact HKK.out _ _ ⟨_,(by simp[upd]),Below.refl _ _,rfl⟩
       |4,_=>
        have h2:v 2=_:=hdx hd 2 (by kernel_rfl)
        have h3:v 3=_:=hdx hd 3 (by kernel_rfl)
        refine wpOp_oneH rfl fun KK HKK =>?_
        clear hd;rw[h2,h3];go_wp2;exact HKK.out _ _ ⟨_,(by simp[upd,h2,h3]),Below.refl _ _,rfl⟩
       |5,_=>
        have h4:v 4=_:=hdx hd 4 (by kernel_rfl)
        refine wpOp_oneH rfl fun KK HKK =>?_
        clear hd;rw[h4];have q0:=cell_later hb HE.out.1;have q1:=cell_later hb HE.out.2.1;have q2:=cell_later hb HE.out.2.2.1;have q3:=cell_later hb HE.out.2.2.2;go_wp2;exact HKK.out _ _ ⟨_,(by simp[upd,h4]),Below.refl _ _,rfl⟩
       |6,_=>
        have h0:v 0=_:=hdx hd 0 (by kernel_rfl)
        have h5:v 5=_:=hdx hd 5 (by kernel_rfl)
        refine wpOp_oneH rfl fun KK HKK =>?_
        clear hd;rw[h0,h5];go_wp2_with fail;refine(NC.out _ hb).mono ?_;rintro e w'' ⟨rfl,b⟩;go_wp2;exact HKK.out _ _ ⟨_,(by simp[upd,h0,h5]),b,rfl⟩
       |k+7,hk=>exact absurd hk (by omega)
      case doneE=>
       intro v w5 hb hf;have h6:v 6=_:=hf 6 (by decide)
       clear hf;rw[h6];have BW2:=Hd (below_on BW.out hb);clear hb NC HE;go_wp2_with fail
       go_roundw
       case rel=>exact⟨k+1,by omega,by go_num,HQ1.out,BW2.out⟩
       case measure=>simp[intOf];omega
     |false=>
      obtain rfl:r3=false:=HPP.out rfl;obtain rfl:t=false:=HT1.out.symm;clear HQQ HPP
      go_upto_region 16 with (fail)
      refine wp_region_facts 7 (by kernel_rfl) (by kernel_rfl)
       (fun v=>{ tmps:=#[.agg #[.slice K kn.length ck,.slice Z zs.length cz,.slice H hs.length ch,.slice (some ⟨b,off,none⟩) bs.length cb,.int .i64 room],.pointer (some ⟨g,0,none⟩),u2,.int .i64 (zs.length:Int),.int .i64 (hs.length:Int),.int .i64 (k:Int),.pointer (some ⟨g,0,none⟩),.slice K kn.length ck,.bool true,.bool false,.bool false,.pointer (some ⟨g,1,none⟩),.slice Z zs.length cz,.bool true,.bool false,.bool false,.bool false,.pointer (some ⟨g,2,none⟩),.slice H hs.length ch,.bool true,.bool false,.bool false,.bool false,.pointer (some ⟨g,3,none⟩),.slice (some ⟨b,off,none⟩) bs.length cb,.pointer (some ⟨g,4,none⟩),.int .i64 room,.bool true,.bool false,.bool false,.int .i64 (zs.length:Int),.pointer (some ⟨g,1,none⟩),.slice Z zs.length cz,.int .i64 (zs.length:Int),.bool false,u35,u36,u37,u38,u39,u40,u41,u42,u43,u44,u45,u46,.int .i64 (hs.length:Int),.pointer (some ⟨g,2,none⟩),.slice H hs.length ch,.int .i64 (hs.length:Int),.bool false,u52,u53,u54,u55,u56,u57,u58,u59,u60,u61,.int .i64 (k:Int),.pointer (some ⟨g,3,none⟩),.slice (some ⟨b,off,none⟩) bs.length cb,.int .i64 (bs.length:Int),.bool true,u67,u68,v 0,v 1,v 2,v 3,v 4,v 5,v 6,u76],defers:=[] }) (fun i=>match i with|0=>u69|1=>u70|2=>u71|3=>u72|4=>u73|5=>u74|6=>u75|_=>undef)
       (fun i x wx=>match i with
        |0=>x = .agg #[.slice K kn.length ck,.slice Z zs.length cz,.slice H hs.length ch,.slice (some ⟨b,off,none⟩) bs.length cb,.int .i64 room]
        |1=>x = .pointer (some ⟨g,3,none⟩)
        |2=>x = .slice (some ⟨b,off,none⟩) bs.length cb
        |3=>x = .int .i64 (k:Int)
        |4=>x = .pointer (some ⟨b,off+k*4,none⟩)
        |5=>x = .agg #[.int .i64 xe.b.o,.int .i64 xe.b.c,.int .i64 xe.b.n,.slice xe.X xe.b.v.length xe.d]
        |6=>x = .bool false
        |_=>True)
       (fun w1 w2=>Below w1.heap.size w1 w2) (fun h1 h2=>below_on h1 h2) (fun _=>Below.refl _ _) (Below.drew (Below.refl _ _)) ?stabF ?stepF ?doneF
      case stabF=>
       rintro i x w1 w2 h hb
       match i,h with
       |0,h=>exact h
       |1,h=>exact h
       |2,h=>exact h
       |3,h=>exact h
       |4,h=>exact h
       |5,h=>exact h
       |6,h=>exact h
       |i+7,_=>trivial
      case stepF=>
       intro i hi v w' hb hd
       match i,hi with
       |0,_=>
        refine wpOp_oneH rfl fun KK HKK =>?_
        clear hd;have q0:=cell_later hb v0;have q1:=cell_later hb v1;have q2:=cell_later hb v2;have q3:=cell_later hb v3;have q4:=cell_later hb v4;go_wp2;exact HKK.out _ _ ⟨_,(by simp[upd]),Below.refl _ _,rfl⟩
       |1,_=>
        refine wpOp_oneH rfl fun KK HKK =>?_
        clear hd;go_wp2;exact HKK.out _ _ ⟨_,(by simp[upd]),Below.refl _ _,rfl⟩
       |2,_=>
        have h1:v 1=_:=hdx hd 1 (by kernel_rfl)
        refine wpOp_oneH rfl fun KK HKK =>?_
        clear hd;rw[h1];have q0:=cell_later hb v3;go_wp2;exact HKK.out _ _ ⟨_,(by simp[upd,h1]),Below.refl _ _,rfl⟩
       |3,_=>
        refine wpOp_oneH rfl fun KK HKK =>?_
        clear hd;go_wp2;exact HKK.out _ _ ⟨_,(by simp[upd]),Below.refl _ _,rfl⟩
       |4,_=>
        have h2:v 2=_:=hdx hd 2 (by kernel_rfl)
        have h3:v 3=_:=hdx hd 3 (by kernel_rfl)
        refine wpOp_oneH rfl fun KK HKK =>?_
        clear hd;rw[h2,h3];go_wp2;exact HKK.out _ _ ⟨_,(by simp[upd,h2,h3]),Below.refl _ _,rfl⟩
       |5,_=>
        have h4:v 4=_:=hdx hd 4 (by kernel_rfl)
        refine wpOp_oneH rfl fun KK HKK =>?_
        clear hd;rw[h4];have q0:=cell_later hb HE.out.1;have q1:=cell_later hb HE.out.2.1;have q2:=cell_later hb HE.out.2.2.1;have q3:=cell_later hb HE.out.2.2.2;go_wp2;exact HKK.out _ _ ⟨_,(by simp[upd,h4]),Below.refl _ _,rfl⟩
       |6,_=>
        have h0:v 0=_:=hdx hd 0 (by kernel_rfl)
        have h5:v 5=_:=hdx hd 5 (by kernel_rfl)
        refine wpOp_oneH rfl fun KK HKK =>?_
        clear hd;rw[h0,h5];go_wp2_with fail;refine(NC.out _ hb).mono ?_;rintro e w'' ⟨rfl,b⟩;go_wp2;exact HKK.out _ _ ⟨_,(by simp[upd,h0,h5]),b,rfl⟩
       |k+7,hk=>exact absurd hk (by omega)
      case doneF=>
       intro v w5 hb hf;have h6:v 6=_:=hf 6 (by decide)
       clear hf;rw[h6];have BB2:=Hd (below_on BB.out hb);clear hb NC HE;go_wp2;go_ret;exact⟨rfl,BB2.out⟩
    obtain rfl:k=bs.length:=by omega
    have hd0:decide ((bs.length:Int)<(bs.length:Int))=false:=decide_eq_false (by omega)
    obtain rfl:r3=true:=HY3.out (fun j xe hx=>hall j xe (by have:=(List.getElem?_eq_some_iff.1 hx).1;omega) hx)
    obtain rfl:t=true:=HT1.out.symm;have BB:=Hd hbb;clear hall hbw hbb hv0;go_wp2;go_ret;exact⟨rfl,BB.out⟩
structure VwFit (q:Vl):Prop where
 k:q.k.length*16≤140737488355328
 z:q.z.length*40≤140737488355328
 e:∀z∈q.z,z.l.length*16≤140737488355328
 h:q.h.length*32≤140737488355328
 b:Fits q.b
theorem vcopy_any(q:Vl)(w:World)(h:VwAt w q)(hft:VwFit q):Calls Tryz.prog 12 #[.agg (vwCells q)] w (GivesV q.vw w):=by
 obtain⟨i0,hI,hz0,hz1,hz2⟩:=info_parts infoWr;obtain⟨K,ck,kn,Z,cz,zs,H,ch,hs,B,cb,bs,room⟩:=q;have HFT:=Hd hft;unfold vwCells;unfold Vl.vw;dsimp only;have hV:=fun wx (hb:Below w.heap.size w wx)=>h.later hb
 have hk:=fun wx (hb:Below w.heap.size w wx)=>rcopy_any K ck kn wx hft.k (hV wx hb).k.2.2.1 (hV wx hb).k.2.2.2
 have hz:=fun wx (hb:Below w.heap.size w wx)=>zcopy_any Z cz zs wx (hV wx hb).z hft.z hft.e
 have hc:=fun wx (hb:Below w.heap.size w wx)=>ccopy_any B cb bs wx (hV wx hb).b hft.b
 have HVW:=Hd hV;have NK:=Hd hk;have NZ:=Hd hz;have NB:=Hd hc;clear hV hk hz hc h hft;have hb0:=below_new (below_new (Below.refl w.heap.size w) (.cells #[.slice K kn.length ck,.slice Z zs.length cz,.slice H hs.length ch,.slice B bs.length cb,.int .i64 room] 27)) (.cells #[.slice none 0 0,.slice none 0 0,.slice none 0 0,.slice none 0 0,.int .i64 0] 27);have hV:=(Blk.new w 27 #[.slice K kn.length ck,.slice Z zs.length cz,.slice H hs.length ch,.slice B bs.length cb,.int .i64 room]).alloc (.cells #[.slice none 0 0,.slice none 0 0,.slice none 0 0,.slice none 0 0,.int .i64 0] 27);have hR:=Blk.new (w.alloc (.cells #[.slice K kn.length ck,.slice Z zs.length cz,.slice H hs.length ch,.slice B bs.length cb,.int .i64 room] 27)) 27 #[.slice none 0 0,.slice none 0 0,.slice none 0 0,.slice none 0 0,.int .i64 0];simp only[World.size_alloc]at hR;obtain⟨W,hW⟩:∃W,(w.alloc (.cells #[.slice K kn.length ck,.slice Z zs.length cz,.slice H hs.length ch,.slice B bs.length cb,.int .i64 room] 27)).alloc (.cells #[.slice none 0 0,.slice none 0 0,.slice none 0 0,.slice none 0 0,.int .i64 0] 27)=W:=⟨_,rfl⟩;rw[hW]at hb0 hV hR;have HW:=Hd hW;obtain⟨g,hgg⟩:∃g,w.heap.size=g:=⟨_,rfl⟩;rw[hgg]at hV hR;have HV:=Hd (show Blk W (g) 27 #[.slice K kn.length ck,.slice Z zs.length cz,.slice H hs.length ch,.slice B bs.length cb,.int .i64 room] from hV);have HR:=Hd (show Blk W (g+1) 27 #[.slice none 0 0,.slice none 0 0,.slice none 0 0,.slice none 0 0,.int .i64 0] from hR);have HB0:=Hd hb0;clear hW hb0 hV hR
 go_enter Tryz.func12,Tryz.ntmps12
 go_upto_region 1 with (fail)
 rw[HW.out];clear HW;have V_0:=HV.out.cell (i:=0) rfl;have V_1:=HV.out.cell (i:=1) rfl;have V_2:=HV.out.cell (i:=2) rfl;have V_3:=HV.out.cell (i:=3) rfl;have V_4:=HV.out.cell (i:=4) rfl
 refine wp_region_facts 15 (by kernel_rfl) (by kernel_rfl)
  (fun v=>{ tmps:=#[.agg #[.slice K kn.length ck,.slice Z zs.length cz,.slice H hs.length ch,.slice B bs.length cb,.int .i64 room],.pointer (some ⟨g,0,none⟩),.pointer (some ⟨g+1,0,none⟩),v 0,v 1,v 2,v 3,v 4,v 5,v 6,v 7,v 8,v 9,v 10,v 11,v 12,v 13,v 14,undef],defers:=[] }) (fun _=>undef)
  (fun i x wx=>match i with
   |0=>x = .pointer (some ⟨g,0,none⟩)
   |1=>x = .slice K kn.length ck
   |2=>∃A9 c9,x = .slice A9 kn.length c9∧OneL wx A9 c9 kn
   |3=>x = .pointer (some ⟨g,1,none⟩)
   |4=>x = .slice Z zs.length cz
   |5=>∃A9 c9 L9,x = .slice A9 (List.length L9) c9∧OneZ wx A9 c9 L9∧L9.map Zc.zn=zs.map Zc.zn
   |6=>∃g9,x = .slice (some ⟨g9,0,none⟩) 0 0∧Blk wx g9 52 #[]∧W.heap.size≤g9
   |7=>x = .pointer (some ⟨g,2,none⟩)
   |8=>x = .slice H hs.length ch
   |9=>∃A9 c9,x = .slice A9 hs.length c9∧OneW wx A9 c9 hs
   |10=>x = .pointer (some ⟨g,3,none⟩)
   |11=>x = .slice B bs.length cb
   |12=>∃A9 c9 L9,x = .slice A9 (List.length L9) c9∧OneC wx A9 c9 L9∧L9.map Bc.b=bs.map Bc.b
   |13=>x = .pointer (some ⟨g,4,none⟩)
   |14=>x = .int .i64 room
   |_=>True)
  (fun w1 w2=>Below w1.heap.size w1 w2) (fun h1 h2=>below_on h1 h2) (fun _=>Below.refl _ _) (Below.drew (Below.refl _ _)) ?stabC ?stepC ?doneC
 case stabC=>
  rintro i x w1 w2 h hb
  match i,h with
  |0,h=>exact h
  |1,h=>exact h
  |2,h=>obtain⟨A9,c9,e9,h9⟩:=h;exact⟨A9,c9,e9,h9.later hb⟩
  |3,h=>exact h
  |4,h=>exact h
  |5,h=>obtain⟨A9,c9,L9,e9,h9,m9⟩:=h;exact⟨A9,c9,L9,e9,h9.later hb,m9⟩
  |6,h=>obtain⟨g9,e9,h9,m9⟩:=h;exact⟨g9,e9,h9.later hb,m9⟩
  |7,h=>exact h
  |8,h=>exact h
  |9,h=>obtain⟨A9,c9,e9,h9⟩:=h;exact⟨A9,c9,e9,h9.later hb⟩
  |10,h=>exact h
  |11,h=>exact h
  |12,h=>obtain⟨A9,c9,L9,e9,h9,m9⟩:=h;exact⟨A9,c9,L9,e9,h9.later hb,m9⟩
  |13,h=>exact h
  |14,h=>exact h
  |i+15,_=>trivial
 case stepC=>
  intro i hi v w' hb hd
  match i,hi with
  |0,_=>
   refine wpOp_oneH rfl fun KK HKK =>?_
   clear hd;go_wp2;exact HKK.out _ _ ⟨_,(by simp[upd]),Below.refl _ _,rfl⟩
  |1,_=>
   have h0:v 0=_:=hdx hd 0 (by kernel_rfl)
   refine wpOp_oneH rfl fun KK HKK =>?_
   clear hd;rw[h0];have q0:=cell_later hb V_0;go_wp2;exact HKK.out _ _ ⟨_,(by simp[upd,h0]),Below.refl _ _,rfl⟩
  |2,_=>
   have h1:v 1=_:=hdx hd 1 (by kernel_rfl)
   refine wpOp_oneH rfl fun KK HKK =>?_
   clear hd;rw[h1];go_wp2_with fail;refine(NK.out _ (below_on HB0.out hb)).mono ?_;rintro e w'' ⟨u,rfl,ho,b⟩;obtain⟨A9,c9,rfl,hB⟩:=OneL.of_own ho;go_wp2;exact HKK.out _ _ ⟨_,(by simp[upd,h1]),b,A9,c9,rfl,hB⟩
  |3,_=>
   refine wpOp_oneH rfl fun KK HKK =>?_
   clear hd;go_wp2;exact HKK.out _ _ ⟨_,(by simp[upd]),Below.refl _ _,rfl⟩
  |4,_=>
   have h3:v 3=_:=hdx hd 3 (by kernel_rfl)
   refine wpOp_oneH rfl fun KK HKK =>?_
   clear hd;rw[h3];have q0:=cell_later hb V_1;go_wp2;exact HKK.out _ _ ⟨_,(by simp[upd,h3]),Below.refl _ _,rfl⟩
  |5,_=>
   have h4:v 4=_:=hdx hd 4 (by kernel_rfl)
   refine wpOp_oneH rfl fun KK HKK =>?_
   clear hd;rw[h4];go_wp2_with fail;refine(NZ.out _ (below_on HB0.out hb)).mono ?_;rintro e w'' ⟨A9,c9,L9,rfl,hO,hM,b⟩;go_wp2;exact HKK.out _ _ ⟨_,(by simp[upd,h4]),b,A9,c9,L9,rfl,hO,hM⟩
  |6,_=>
   refine wpOp_oneH rfl fun KK HKK =>?_
   clear hd;have bn:=below_new (Below.refl w'.heap.size w') (.cells #[] 52);have BN:=Blk.new w' 52 #[];have hz:=hb.size;go_wp2;exact HKK.out _ _ ⟨_,(by simp[upd]),bn,_,rfl,BN,hz⟩
  |7,_=>
   refine wpOp_oneH rfl fun KK HKK =>?_
   clear hd;go_wp2;exact HKK.out _ _ ⟨_,(by simp[upd]),Below.refl _ _,rfl⟩
  |8,_=>
   have h7:v 7=_:=hdx hd 7 (by kernel_rfl)
   refine wpOp_oneH rfl fun KK HKK =>?_
   clear hd;rw[h7];have q0:=cell_later hb V_2;go_wp2;exact HKK.out _ _ ⟨_,(by simp[upd,h7]),Below.refl _ _,rfl⟩
  |9,_=>
   obtain⟨g6,h6,o6,m6⟩:=hd 6 (List.elem_iff.1 (by kernel_rfl))
   have h8:v 8=_:=hdx hd 8 (by kernel_rfl)
   refine wpOp_oneH rfl fun KK HKK =>?_
   clear hd;rw[h6,h8];have HH:=Hd (HVW.out w' (below_on HB0.out hb)).h;refine Go.Proofs.YtjlfehpockfkdaaGreat.wpList_append_fresh _ rfl _ _ 24 rfl W.heap.size g6 52 i0 (.agg #[.int .i64 0,.int .i64 0,.int .i64 0,.bool false]) 4 32 Tryz.underlying24 hI hz0 hz1 hz2 rfl (by decide) rfl o6 m6 H hs.length ch HH.out.2.2.1 (Nt.wrCells hs) rfl (Nt.wrCells_length hs) HH.out.2.2.2 (Nt.wrCells_one hs) ?c3 ?c4 ?_
   case c3=>exact Nat.le_trans HH.out.1 HH.out.2.1
   case c4=>exact HFT.out.h
   intro v' w'' hown b;obtain⟨A9,c9,rfl,ho⟩:=OneW.of_own hown;clear hown;go_wp2;exact HKK.out _ _ ⟨_,(by simp[upd,h6,h8]),b,A9,c9,rfl,ho⟩
  |10,_=>
   refine wpOp_oneH rfl fun KK HKK =>?_
   clear hd;go_wp2;exact HKK.out _ _ ⟨_,(by simp[upd]),Below.refl _ _,rfl⟩
  |11,_=>
   have h10:v 10=_:=hdx hd 10 (by kernel_rfl)
   refine wpOp_oneH rfl fun KK HKK =>?_
   clear hd;rw[h10];have q0:=cell_later hb V_3;go_wp2;exact HKK.out _ _ ⟨_,(by simp[upd,h10]),Below.refl _ _,rfl⟩
  |12,_=>
   have h11:v 11=_:=hdx hd 11 (by kernel_rfl)
   refine wpOp_oneH rfl fun KK HKK =>?_
   clear hd;rw[h11];go_wp2_with fail;refine(NB.out _ (below_on HB0.out hb)).mono ?_;rintro e w'' ⟨A9,c9,L9,rfl,hM,hO,b⟩;go_wp2;exact HKK.out _ _ ⟨_,(by simp[upd,h11]),b,A9,c9,L9,rfl,hO.one,hM⟩
  |13,_=>
   refine wpOp_oneH rfl fun KK HKK =>?_
   clear hd;go_wp2;exact HKK.out _ _ ⟨_,(by simp[upd]),Below.refl _ _,rfl⟩
  |14,_=>
   have h13:v 13=_:=hdx hd 13 (by kernel_rfl)
   refine wpOp_oneH rfl fun KK HKK =>?_
   clear hd;rw[h13];have q0:=cell_later hb V_4;go_wp2;exact HKK.out _ _ ⟨_,(by simp[upd,h13]),Below.refl _ _,rfl⟩
  |k+15,hk=>exact absurd hk (by omega)
 case doneC=>
  intro v w5 hb hf;obtain⟨A2,c2,h2,o2⟩:=hf 2 (by decide)
  obtain⟨A5,c5,L5,h5,o5,m5⟩:=hf 5 (by decide)
  obtain⟨A9,c9,h9,o9⟩:=hf 9 (by decide)
  obtain⟨A12,c12,L12,h12,o12,m12⟩:=hf 12 (by decide)
  have h14:v 14=_:=hf 14 (by decide)
  clear hf;rw[h2,h5,h9,h12,h14];clear V_0 V_1 V_2 V_3 V_4;replace HV:=Hd (HV.out.later hb);replace HR:=Hd (HR.out.later hb);have HB1:=Hd (below_on HB0.out hb);clear HB0;clear hb;have X2:=Hd o2;have X5:=Hd o5;have X9:=Hd o9;have X12:=Hd o12;have M5:=Hd m5;have M12:=Hd m12;clear o2 o5 o9 o12 m5 m12 NK NZ NB;have R_0:=HR.out.cell (i:=0) rfl;have R_1:=HR.out.cell (i:=1) rfl;have R_2:=HR.out.cell (i:=2) rfl;have R_3:=HR.out.cell (i:=3) rfl;have R_4:=HR.out.cell (i:=4) rfl;have R_f0:=HR.out.free 0;have R_f1:=HR.out.free 1;have R_f2:=HR.out.free 2;have R_f3:=HR.out.free 3;have R_f4:=HR.out.free 4;have hh:w.heap.size≤g+1:=by omega
  have HP:=Hd (((((HR.out.put 0 (.slice A2 kn.length c2)).put 1 (.slice A5 L5.length c5)).put 2 (.slice A9 hs.length c9)).put 3 (.slice A12 L12.length c12)).put 4 (.int .i64 room));have HQ:=Hd (((((HB1.out.setCell (p:=⟨g+1,0,none⟩) hh (.slice A2 kn.length c2)).setCell (p:=⟨g+1,1,none⟩) hh (.slice A5 L5.length c5)).setCell (p:=⟨g+1,2,none⟩) hh (.slice A9 hs.length c9)).setCell (p:=⟨g+1,3,none⟩) hh (.slice A12 L12.length c12)).setCell (p:=⟨g+1,4,none⟩) hh (.int .i64 room));have FX2:=Hd (((((X2.out.far (show Blk _ (g+1) 27 #[.slice none 0 0,.slice none 0 0,.slice none 0 0,.slice none 0 0,.int .i64 0] from HR.out) rfl 0 (.slice A2 kn.length c2)).far (show Blk _ (g+1) 27 #[.slice A2 kn.length c2,.slice none 0 0,.slice none 0 0,.slice none 0 0,.int .i64 0] from(HR.out.put 0 (.slice A2 kn.length c2))) rfl 1 (.slice A5 L5.length c5)).far (show Blk _ (g+1) 27 #[.slice A2 kn.length c2,.slice A5 L5.length c5,.slice none 0 0,.slice none 0 0,.int .i64 0] from((HR.out.put 0 (.slice A2 kn.length c2)).put 1 (.slice A5 L5.length c5))) rfl 2 (.slice A9 hs.length c9)).far (show Blk _ (g+1) 27 #[.slice A2 kn.length c2,.slice A5 L5.length c5,.slice A9 hs.length c9,.slice none 0 0,.int .i64 0] from(((HR.out.put 0 (.slice A2 kn.length c2)).put 1 (.slice A5 L5.length c5)).put 2 (.slice A9 hs.length c9))) rfl 3 (.slice A12 L12.length c12)).far (show Blk _ (g+1) 27 #[.slice A2 kn.length c2,.slice A5 L5.length c5,.slice A9 hs.length c9,.slice A12 L12.length c12,.int .i64 0] from((((HR.out.put 0 (.slice A2 kn.length c2)).put 1 (.slice A5 L5.length c5)).put 2 (.slice A9 hs.length c9)).put 3 (.slice A12 L12.length c12))) rfl 4 (.int .i64 room));have FX5:=Hd (((((X5.out.far (show Blk _ (g+1) 27 #[.slice none 0 0,.slice none 0 0,.slice none 0 0,.slice none 0 0,.int .i64 0] from HR.out) rfl 0 (.slice A2 kn.length c2)).far (show Blk _ (g+1) 27 #[.slice A2 kn.length c2,.slice none 0 0,.slice none 0 0,.slice none 0 0,.int .i64 0] from(HR.out.put 0 (.slice A2 kn.length c2))) rfl 1 (.slice A5 L5.length c5)).far (show Blk _ (g+1) 27 #[.slice A2 kn.length c2,.slice A5 L5.length c5,.slice none 0 0,.slice none 0 0,.int .i64 0] from((HR.out.put 0 (.slice A2 kn.length c2)).put 1 (.slice A5 L5.length c5))) rfl 2 (.slice A9 hs.length c9)).far (show Blk _ (g+1) 27 #[.slice A2 kn.length c2,.slice A5 L5.length c5,.slice A9 hs.length c9,.slice none 0 0,.int .i64 0] from(((HR.out.put 0 (.slice A2 kn.length c2)).put 1 (.slice A5 L5.length c5)).put 2 (.slice A9 hs.length c9))) rfl 3 (.slice A12 L12.length c12)).far (show Blk _ (g+1) 27 #[.slice A2 kn.length c2,.slice A5 L5.length c5,.slice A9 hs.length c9,.slice A12 L12.length c12,.int .i64 0] from((((HR.out.put 0 (.slice A2 kn.length c2)).put 1 (.slice A5 L5.length c5)).put 2 (.slice A9 hs.length c9)).put 3 (.slice A12 L12.length c12))) rfl 4 (.int .i64 room));have FX9:=Hd (((((X9.out.far (show Blk _ (g+1) 27 #[.slice none 0 0,.slice none 0 0,.slice none 0 0,.slice none 0 0,.int .i64 0] from HR.out) rfl 0 (.slice A2 kn.length c2)).far (show Blk _ (g+1) 27 #[.slice A2 kn.length c2,.slice none 0 0,.slice none 0 0,.slice none 0 0,.int .i64 0] from(HR.out.put 0 (.slice A2 kn.length c2))) rfl 1 (.slice A5 L5.length c5)).far (show Blk _ (g+1) 27 #[.slice A2 kn.length c2,.slice A5 L5.length c5,.slice none 0 0,.slice none 0 0,.int .i64 0] from((HR.out.put 0 (.slice A2 kn.length c2)).put 1 (.slice A5 L5.length c5))) rfl 2 (.slice A9 hs.length c9)).far (show Blk _ (g+1) 27 #[.slice A2 kn.length c2,.slice A5 L5.length c5,.slice A9 hs.length c9,.slice none 0 0,.int .i64 0] from(((HR.out.put 0 (.slice A2 kn.length c2)).put 1 (.slice A5 L5.length c5)).put 2 (.slice A9 hs.length c9))) rfl 3 (.slice A12 L12.length c12)).far (show Blk _ (g+1) 27 #[.slice A2 kn.length c2,.slice A5 L5.length c5,.slice A9 hs.length c9,.slice A12 L12.length c12,.int .i64 0] from((((HR.out.put 0 (.slice A2 kn.length c2)).put 1 (.slice A5 L5.length c5)).put 2 (.slice A9 hs.length c9)).put 3 (.slice A12 L12.length c12))) rfl 4 (.int .i64 room));have FX12:=Hd (((((X12.out.far (show Blk _ (g+1) 27 #[.slice none 0 0,.slice none 0 0,.slice none 0 0,.slice none 0 0,.int .i64 0] from HR.out) rfl 0 (.slice A2 kn.length c2)).far (show Blk _ (g+1) 27 #[.slice A2 kn.length c2,.slice none 0 0,.slice none 0 0,.slice none 0 0,.int .i64 0] from(HR.out.put 0 (.slice A2 kn.length c2))) rfl 1 (.slice A5 L5.length c5)).far (show Blk _ (g+1) 27 #[.slice A2 kn.length c2,.slice A5 L5.length c5,.slice none 0 0,.slice none 0 0,.int .i64 0] from((HR.out.put 0 (.slice A2 kn.length c2)).put 1 (.slice A5 L5.length c5))) rfl 2 (.slice A9 hs.length c9)).far (show Blk _ (g+1) 27 #[.slice A2 kn.length c2,.slice A5 L5.length c5,.slice A9 hs.length c9,.slice none 0 0,.int .i64 0] from(((HR.out.put 0 (.slice A2 kn.length c2)).put 1 (.slice A5 L5.length c5)).put 2 (.slice A9 hs.length c9))) rfl 3 (.slice A12 L12.length c12)).far (show Blk _ (g+1) 27 #[.slice A2 kn.length c2,.slice A5 L5.length c5,.slice A9 hs.length c9,.slice A12 L12.length c12,.int .i64 0] from((((HR.out.put 0 (.slice A2 kn.length c2)).put 1 (.slice A5 L5.length c5)).put 2 (.slice A9 hs.length c9)).put 3 (.slice A12 L12.length c12))) rfl 4 (.int .i64 room));clear hh;go_wp2;exact bodyPost_ret (v :=.agg #[.slice A2 kn.length c2,.slice A5 L5.length c5,.slice A9 hs.length c9,.slice A12 L12.length c12,.int .i64 room]) (results_cell_row rfl _ _ (g+1) 27 #[.slice A2 kn.length c2,.slice A5 L5.length c5,.slice A9 hs.length c9,.slice A12 L12.length c12,.int .i64 room] (0,0) _ rfl HP.out Tryz.underlying27 rfl infoVw) rfl ⟨⟨A2,c2,kn,A5,c5,L5,A9,c9,hs,A12,c12,L12,room⟩,rfl,(by show(⟨kn,L5.map Zc.zn,hs,L12.map Bc.b,room⟩:Vw)=⟨kn,zs.map Zc.zn,hs,bs.map Bc.b,room⟩;rw[M5.out,M12.out]),⟨FX2.out,FX5.out,FX9.out,FX12.out⟩,HQ.out⟩
theorem Vw.eq_is(x y:Vw):decide (x=y)=(decide (x.k=y.k)&&(decide (x.z=y.z)&&(decide (x.h=y.h)&&(decide (x.b=y.b)&&decide (x.r=y.r))))):=by
 cases x;cases y;simp[Bool.decide_and]
theorem vsame_any(q p:Vl)(w:World)(h:VwAt w q)(h2:VwAt w p):Calls Tryz.prog 17 #[.agg (vwCells q),.agg (vwCells p)] w (Says (.bool (decide (q.vw=p.vw))) w):=by
 obtain⟨t,ht⟩:∃t,decide (q.vw=p.vw)=t:=⟨_,rfl⟩;rw[ht];rw[Vw.eq_is]at ht;have c1:=fun wx (hb:Below w.heap.size w wx)=>rsame_any q.K p.K q.ck p.ck q.k p.k wx (h.later hb).k.len (h.later hb).k.stamps (h2.later hb).k.stamps
 have c2:=fun wx (hb:Below w.heap.size w wx)=>zsame_any q.Z p.Z q.cz p.cz q.z p.z wx (h.later hb).z (h2.later hb).z
 have c3:=fun wx (hb:Below w.heap.size w wx)=>nwrites_any q.H p.H q.ch p.ch q.h p.h wx (h.later hb).h (h2.later hb).h
 have c4:=fun wx (hb:Below w.heap.size w wx)=>csame_any q.B p.B q.cb p.cb q.b p.b wx (h.later hb).b (h2.later hb).b
 clear h h2;obtain⟨b1,h1⟩:∃f,decide (q.k=p.k)=f:=⟨_,rfl⟩;obtain⟨b2,h2⟩:∃f,decide (q.z.map Zc.zn=p.z.map Zc.zn)=f:=⟨_,rfl⟩;obtain⟨b3,h3⟩:∃f,decide (q.h=p.h)=f:=⟨_,rfl⟩;obtain⟨b4,h4⟩:∃f,decide (q.b.map Bc.b=p.b.map Bc.b)=f:=⟨_,rfl⟩;obtain⟨b5,h5⟩:∃f,decide (q.r=p.r)=f:=⟨_,rfl⟩;rw[h1]at c1;rw[h2]at c2;rw[h3]at c3;rw[h4]at c4;have HA:=Hd (show(b1&&(b2&&(b3&&(b4&&b5))))=t from by rw[←h1,←h2,←h3,←h4,←h5];exact ht)
 obtain⟨K,ck,kn,Z,cz,zs,H,ch,hs,B,cb,bs,room⟩:=q;obtain⟨K',ck',kp,Z',cz',zp,H',ch',hp,B',cb',bp,room'⟩:=p;unfold vwCells;dsimp only at c1 c2 c3 c4 h5 ⊢;have C1:=Hd c1;have C2:=Hd c2;have C3:=Hd c3;have C4:=Hd c4;have H5:=Hd h5;clear c1 c2 c3 c4 ht h1 h2 h3 h4 h5;have hb0:=below_new (below_new (Below.refl w.heap.size w) (.cells #[.slice K kn.length ck,.slice Z zs.length cz,.slice H hs.length ch,.slice B bs.length cb,.int .i64 room] 27)) (.cells #[.slice K' kp.length ck',.slice Z' zp.length cz',.slice H' hp.length ch',.slice B' bp.length cb',.int .i64 room'] 27);have hV:=(Blk.new w 27 #[.slice K kn.length ck,.slice Z zs.length cz,.slice H hs.length ch,.slice B bs.length cb,.int .i64 room]).alloc (.cells #[.slice K' kp.length ck',.slice Z' zp.length cz',.slice H' hp.length ch',.slice B' bp.length cb',.int .i64 room'] 27);have hP:=Blk.new (w.alloc (.cells #[.slice K kn.length ck,.slice Z zs.length cz,.slice H hs.length ch,.slice B bs.length cb,.int .i64 room] 27)) 27 #[.slice K' kp.length ck',.slice Z' zp.length cz',.slice H' hp.length ch',.slice B' bp.length cb',.int .i64 room'];simp only[World.size_alloc]at hP;obtain⟨W,hW⟩:∃W,(w.alloc (.cells #[.slice K kn.length ck,.slice Z zs.length cz,.slice H hs.length ch,.slice B bs.length cb,.int .i64 room] 27)).alloc (.cells #[.slice K' kp.length ck',.slice Z' zp.length cz',.slice H' hp.length ch',.slice B' bp.length cb',.int .i64 room'] 27)=W:=⟨_,rfl⟩;rw[hW]at hb0 hV hP;have HW:=Hd hW;obtain⟨g,hgg⟩:∃g,w.heap.size=g:=⟨_,rfl⟩;rw[hgg]at hV hP;have HV:=Hd (show Blk W (g) 27 #[.slice K kn.length ck,.slice Z zs.length cz,.slice H hs.length ch,.slice B bs.length cb,.int .i64 room] from hV);have HP:=Hd (show Blk W (g+1) 27 #[.slice K' kp.length ck',.slice Z' zp.length cz',.slice H' hp.length ch',.slice B' bp.length cb',.int .i64 room'] from hP);have HB0:=Hd hb0;clear hW hb0 hV hP
 go_enter Tryz.func17,Tryz.ntmps17
 go_upto_region 1 with (fail)
 rw[HW.out];clear HW;have V_0:=HV.out.cell (i:=0) rfl;have P_0:=HP.out.cell (i:=0) rfl;go_wp2_with fail;refine(C1.out _ HB0.out).mono ?_;rintro e w1 ⟨rfl,b1⟩;clear V_0 P_0;replace HV:=Hd (HV.out.later b1);replace HP:=Hd (HP.out.later b1);have HB1:=Hd (below_on HB0.out b1);clear HB0;clear b1 C1;cases b1 with
 |false=>
  obtain rfl:=HA.out;have HQ:=Hd HB1.out;clear HA;go_wp2;go_ret;exact⟨rfl,HQ.out⟩
 |true=>
 have V_1:=HV.out.cell (i:=1) rfl;have P_1:=HP.out.cell (i:=1) rfl;go_wp2_with fail;refine(C2.out _ HB1.out).mono ?_;rintro e w2 ⟨rfl,b2⟩;clear V_1 P_1;replace HV:=Hd (HV.out.later b2);replace HP:=Hd (HP.out.later b2);have HB2:=Hd (below_on HB1.out b2);clear HB1;clear b2 C2;cases b2 with
 |false=>
  obtain rfl:=HA.out;have HQ:=Hd HB2.out;clear HA;go_wp2;go_ret;exact⟨rfl,HQ.out⟩
 |true=>
 have V_2:=HV.out.cell (i:=2) rfl;have P_2:=HP.out.cell (i:=2) rfl;go_wp2_with fail;refine(C3.out _ HB2.out).mono ?_;rintro e w3 ⟨rfl,b3⟩;clear V_2 P_2;replace HV:=Hd (HV.out.later b3);replace HP:=Hd (HP.out.later b3);have HB3:=Hd (below_on HB2.out b3);clear HB2;clear b3 C3;cases b3 with
 |false=>
  obtain rfl:=HA.out;have HQ:=Hd HB3.out;clear HA;go_wp2;go_ret;exact⟨rfl,HQ.out⟩
 |true=>
 have V_3:=HV.out.cell (i:=3) rfl;have P_3:=HP.out.cell (i:=3) rfl;go_wp2_with fail;refine(C4.out _ HB3.out).mono ?_;rintro e w4 ⟨rfl,b4⟩;clear V_3 P_3;replace HV:=Hd (HV.out.later b4);replace HP:=Hd (HP.out.later b4);have HB4:=Hd (below_on HB3.out b4);clear HB3;clear b4 C4;cases b4 with
 |false=>
  obtain rfl:=HA.out;have HQ:=Hd HB4.out;clear HA;go_wp2;go_ret;exact⟨rfl,HQ.out⟩
 |true=>
 have V_4:=HV.out.cell (i:=4) rfl;have P_4:=HP.out.cell (i:=4) rfl;cases b5 with
 |false=>
  have d9:(room == room')=false:=beq_eq_false_iff_ne.2 (of_decide_eq_false H5.out);clear H5;obtain rfl:=HA.out;have HQ:=Hd HB4.out;clear HA;go_wp2;go_ret;exact⟨rfl,HQ.out⟩
 |true=>
  have d9:(room == room')=true:=beq_iff_eq.2 (of_decide_eq_true H5.out);clear H5;obtain rfl:=HA.out;have HQ:=Hd HB4.out;clear HA;go_wp2;go_ret;exact⟨rfl,HQ.out⟩
theorem OwnRC.stays{w w':World}{base:Nat}{t e:TypeId}{v:Value}{M:List Bc}(h:OwnRC w base t e v M)(hs:∀k,base≤k→w'.heap[k]?=w.heap[k]?):OwnRC w' base t e v M:=
 ⟨own_stays h.row (fun k hk=>hs k (own_ge h.row k hk)),fun z hz=>⟨own_stays (h.each z hz).1 (fun k hk=>hs k (own_ge (h.each z hz).1 k hk)),(h.each z hz).2⟩⟩
theorem vtake_any(q:Vl)(S E P U:Option Addr)(cs ce cp cu:Nat)(n:Note)(w:World)(h:VwAt w q)(hn:NoteAt w S E P U cs ce cp cu n) :
  Calls Tryz.prog 23 #[.agg (vwCells q),.agg (noteCells S E P U cs ce cp cu n)] w (GivesVwE (Vw.takeR q.vw n).1 (Vw.takeR q.vw n).2 w):=by
 obtain⟨i0,hI,hz0,hz1,hz2⟩:=info_parts infoWr;obtain⟨i1,hJ,hy0,hy1,hy2⟩:=info_parts infoBdy;have c1:=fun wx (hb:Below w.heap.size w wx)=>vformed_any q wx (h.later hb)
 have c2:=fun wx (hb:Below w.heap.size w wx)=>ztake_any q.Z q.K S E P U q.cz q.ck cs ce cp cu q.z q.k n wx (h.later hb).z (h.later hb).k (hn.later hb)
 have hok:=fun (h0:(Tr.tkR (q.z.map Zc.zn) q.k n).2.2=0)=>Vw.ws_len (Vw.tk_ok h0)
 have hR:Vw.takeR q.vw n=if Vw.fmd q.vw=true then
  (if (Tr.tkR (q.z.map Zc.zn) q.k n).2.2=0 then
    (⟨(Tr.tkR (q.z.map Zc.zn) q.k n).2.1,(Tr.tkR (q.z.map Zc.zn) q.k n).1,Vw.heldR q.vw (Tr.tkR (q.z.map Zc.zn) q.k n).1 (Tr.tkR (q.z.map Zc.zn) q.k n).2.1 n,
     (q.b.map Bc.b).filter (Vw.wants ⟨(Tr.tkR (q.z.map Zc.zn) q.k n).2.1,(Tr.tkR (q.z.map Zc.zn) q.k n).1,Vw.heldR q.vw (Tr.tkR (q.z.map Zc.zn) q.k n).1 (Tr.tkR (q.z.map Zc.zn) q.k n).2.1 n,[],q.r⟩),q.r⟩,0)
   else (Vw.zero,(Tr.tkR (q.z.map Zc.zn) q.k n).2.2))
  else (Vw.zero,1):=rfl
 obtain⟨⟨rb,re⟩,hRR⟩:∃p,Vw.takeR q.vw n=p:=⟨_,rfl⟩;rw[hRR];rw[hRR]at hR;obtain⟨⟨zr,kr,er⟩,htk⟩:∃p,Tr.tkR (q.z.map Zc.zn) q.k n=p:=⟨_,rfl⟩;rw[htk]at c2 hR hok;dsimp only at hR hok
 have c3:=fun B1 A1 cb1 c1 (L1:List Zc) (y:Wr) wx (hm:L1.map Zc.zn=zr) (hk:OneL wx B1 cb1 kr) (hz:OneZ wx A1 c1 L1)=>
  vreached_any ⟨B1,cb1,kr,A1,c1,L1,none,0,[],none,0,[],q.r⟩ y wx ⟨hk,hz,OneW.nil,OneC.nil _⟩
 obtain⟨hv,hhv⟩:∃f,Vw.has ⟨kr,zr,[],[],q.r⟩=f:=⟨_,rfl⟩
 replace c3:=fun B1 A1 cb1 c1 (L1:List Zc) (y:Wr) wx (hm:L1.map Zc.zn=zr) (hk:OneL wx B1 cb1 kr) (hz:OneZ wx A1 c1 L1)=>
  show Calls Tryz.prog 58 #[.agg #[.slice B1 kr.length cb1,.slice A1 L1.length c1,.slice none 0 0,.slice none 0 0,.int .i64 q.r],.agg (Nt.wrArr y)] wx (Says (.bool (hv y)) wx) from by
    have h:=c3 B1 A1 cb1 c1 L1 y wx hm hk hz;unfold Vl.vw at h;dsimp only at h;rw[hm]at h;rw[←hhv];exact h
 have c4:=fun A c (l:List Wr) wx (hb:Below w.heap.size w wx) (hl:OneW wx A c l)=>fput_any q.H A q.ch c q.h l wx (h.later hb).h hl
 obtain⟨hd,hhd⟩:∃l,(Sf.putR q.h (n.ws.filter hv)).1=l:=⟨_,rfl⟩;rw[show Vw.heldR q.vw zr kr n=hd from by rw[←hhd,←hhv];rfl]at hR
 have c5:=fun (B1 A1 D1 F1:Option Addr) (cb1 c1 d1 f1:Nat) (L1:List Zc) (M1:List Bc) X d x wx (hm:L1.map Zc.zn=zr) (hk:OneL wx B1 cb1 kr) (hz:OneZ wx A1 c1 L1) (hh:OneW wx D1 d1 hd) (hc:OneC wx F1 f1 M1)=>
  vwanted_any ⟨B1,cb1,kr,A1,c1,L1,D1,d1,hd,F1,f1,M1,q.r⟩ X d x wx ⟨hk,hz,hh,hc⟩
 obtain⟨wa,hwa⟩:∃f,Vw.wants ⟨kr,zr,hd,[],q.r⟩=f:=⟨_,rfl⟩
 replace c5:=fun (B1 A1 D1 F1:Option Addr) (cb1 c1 d1 f1:Nat) (L1:List Zc) (M1:List Bc) X d x wx (hm:L1.map Zc.zn=zr) (hk:OneL wx B1 cb1 kr) (hz:OneZ wx A1 c1 L1) (hh:OneW wx D1 d1 hd) (hc:OneC wx F1 f1 M1)=>
  show Calls Tryz.prog 59 #[.agg #[.slice B1 kr.length cb1,.slice A1 L1.length c1,.slice D1 hd.length d1,.slice F1 M1.length f1,.int .i64 q.r],.agg (bdCells X d x)] wx (Says (.bool (wa x)) wx) from by
    rw[←hwa];exact c5 B1 A1 D1 F1 cb1 c1 d1 f1 L1 M1 X d x wx hm hk hz hh hc
 rw[hwa]at hR;have hfit:=fun (hf:Vw.fmd q.vw=true)=>fmd_fits (Vw.fmd_b hf)
 have hBB:=fun wx (hb:Below w.heap.size w wx)=>(h.later hb).b
 have hNN:=fun wx (hb:Below w.heap.size w wx)=>hn.later hb
 obtain⟨fm,hfm⟩:∃f,Vw.fmd q.vw=f:=⟨_,rfl⟩;rw[hfm]at c1 hR hfit;obtain⟨K,ck,kn,Z,cz,zs,H,ch,hs,B,cb,bs,room⟩:=q;obtain⟨ns,ne,nb,nw⟩:=n;unfold vwCells at c1 ⊢;unfold noteCells at c2 ⊢;dsimp only at c1 c2 c3 c4 c5 hR hok hfit hBB hNN hhd ⊢;have HA:=Hd hR.symm;have C1:=Hd c1;have C2:=Hd c2;have C3:=Hd c3;have C4:=Hd c4;have C5:=Hd c5;have HOK:=Hd (fun h0=>(⟨hok h0,trivial,trivial⟩:nw.length≤256∧True∧True))
 have HFT:=Hd hfit;have HBI:=Hd hBB;have HNN:=Hd hNN;have HHD:=Hd hhd;clear c1 c2 c3 c4 c5 hR hok hfit hBB hNN hhd hfm hwa hhv htk hRR h hn;have hb0:=below_new (below_new (below_new (Below.refl w.heap.size w) (.cells #[.slice K kn.length ck,.slice Z zs.length cz,.slice H hs.length ch,.slice B bs.length cb,.int .i64 room] 27)) (.cells #[.slice S ns.length cs,.slice E ne.length ce,.slice P nb.length cp,.slice U nw.length cu] 40)) (.cells #[.slice none 0 0,.slice none 0 0,.slice none 0 0,.slice none 0 0,.int .i64 0] 27);have hV:=((Blk.new w 27 #[.slice K kn.length ck,.slice Z zs.length cz,.slice H hs.length ch,.slice B bs.length cb,.int .i64 room]).alloc (.cells #[.slice S ns.length cs,.slice E ne.length ce,.slice P nb.length cp,.slice U nw.length cu] 40)).alloc (.cells #[.slice none 0 0,.slice none 0 0,.slice none 0 0,.slice none 0 0,.int .i64 0] 27);have hN:=(Blk.new (w.alloc (.cells #[.slice K kn.length ck,.slice Z zs.length cz,.slice H hs.length ch,.slice B bs.length cb,.int .i64 room] 27)) 40 #[.slice S ns.length cs,.slice E ne.length ce,.slice P nb.length cp,.slice U nw.length cu]).alloc (.cells #[.slice none 0 0,.slice none 0 0,.slice none 0 0,.slice none 0 0,.int .i64 0] 27);simp only[World.size_alloc]at hN;have hR:=Blk.new ((w.alloc (.cells #[.slice K kn.length ck,.slice Z zs.length cz,.slice H hs.length ch,.slice B bs.length cb,.int .i64 room] 27)).alloc (.cells #[.slice S ns.length cs,.slice E ne.length ce,.slice P nb.length cp,.slice U nw.length cu] 40)) 27 #[.slice none 0 0,.slice none 0 0,.slice none 0 0,.slice none 0 0,.int .i64 0];simp only[World.size_alloc]at hR;obtain⟨W,hW⟩:∃W,((w.alloc (.cells #[.slice K kn.length ck,.slice Z zs.length cz,.slice H hs.length ch,.slice B bs.length cb,.int .i64 room] 27)).alloc (.cells #[.slice S ns.length cs,.slice E ne.length ce,.slice P nb.length cp,.slice U nw.length cu] 40)).alloc (.cells #[.slice none 0 0,.slice none 0 0,.slice none 0 0,.slice none 0 0,.int .i64 0] 27)=W:=⟨_,rfl⟩;rw[hW]at hb0 hV hN hR;have HW:=Hd hW;obtain⟨g,hgg⟩:∃g,w.heap.size=g:=⟨_,rfl⟩;rw[hgg]at hV hN hR;have HV:=Hd (show Blk W (g) 27 #[.slice K kn.length ck,.slice Z zs.length cz,.slice H hs.length ch,.slice B bs.length cb,.int .i64 room] from hV);have HN:=Hd (show Blk W (g+1) 40 #[.slice S ns.length cs,.slice E ne.length ce,.slice P nb.length cp,.slice U nw.length cu] from hN);have HR:=Hd (show Blk W (g+2) 27 #[.slice none 0 0,.slice none 0 0,.slice none 0 0,.slice none 0 0,.int .i64 0] from hR);have HB0:=Hd hb0;clear hW hb0 hV hN hR
 go_enter Tryz.func23,Tryz.ntmps23
 go_upto_region 1 with (fail)
 rw[HW.out];clear HW;have V_0:=HV.out.cell (i:=0) rfl;have V_1:=HV.out.cell (i:=1) rfl;have V_2:=HV.out.cell (i:=2) rfl;have V_3:=HV.out.cell (i:=3) rfl;have V_4:=HV.out.cell (i:=4) rfl;go_wp2_with fail;refine(C1.out W HB0.out).mono ?_;rintro e w1 ⟨rfl,b1⟩;clear V_0 V_1 V_2 V_3 V_4;replace HV:=Hd (HV.out.later b1);replace HN:=Hd (HN.out.later b1);replace HR:=Hd (HR.out.later b1);have HB1:=Hd (below_on HB0.out b1);clear HB0;clear b1 C1;cases fm with
 |false=>
  have hr:=HA.out;simp[]at hr;obtain⟨rfl,rfl⟩:=hr;have R_0:=HR.out.cell (i:=0) rfl;have R_1:=HR.out.cell (i:=1) rfl;have R_2:=HR.out.cell (i:=2) rfl;have R_3:=HR.out.cell (i:=3) rfl;have R_4:=HR.out.cell (i:=4) rfl;have R_f0:=HR.out.free 0;have R_f1:=HR.out.free 1;have R_f2:=HR.out.free 2;have R_f3:=HR.out.free 3;have R_f4:=HR.out.free 4;have hh:w.heap.size≤g+2:=by omega
  have HP:=Hd (((((HR.out.put 0 (.slice none 0 0)).put 1 (.slice none 0 0)).put 2 (.slice none 0 0)).put 3 (.slice none 0 0)).put 4 (.int .i64 0));have HQ:=Hd (((((HB1.out.setCell (p:=⟨g+2,0,none⟩) hh (.slice none 0 0)).setCell (p:=⟨g+2,1,none⟩) hh (.slice none 0 0)).setCell (p:=⟨g+2,2,none⟩) hh (.slice none 0 0)).setCell (p:=⟨g+2,3,none⟩) hh (.slice none 0 0)).setCell (p:=⟨g+2,4,none⟩) hh (.int .i64 0));clear hh;go_wp2;exact bodyPost_ret (results_cell_tmp (p:=4) (t1:=5) (ty:=27) rfl _ _ (g+2) 27 #[.slice none 0 0,.slice none 0 0,.slice none 0 0,.slice none 0 0,.int .i64 0] _ rfl HP.out Tryz.underlying27 rfl infoVw) rfl ⟨Vl.none,rfl,rfl,VwAt.none _,HQ.out⟩
 |true=>
 have V_0:=HV.out.cell (i:=0) rfl;have V_1:=HV.out.cell (i:=1) rfl;have N_0:=HN.out.cell (i:=0) rfl;have N_1:=HN.out.cell (i:=1) rfl;have N_2:=HN.out.cell (i:=2) rfl;have N_3:=HN.out.cell (i:=3) rfl;go_wp2_with fail;refine(C2.out _ HB1.out).mono ?_;rintro e w2 ⟨A1,c1,L1,B1,cb1,rfl,hZ1,hm1,hK1,b2⟩;clear V_0 V_1 N_0 N_1 N_2 N_3;replace HV:=Hd (HV.out.later b2);replace HN:=Hd (HN.out.later b2);replace HR:=Hd (HR.out.later b2);have HB2:=Hd (below_on HB1.out b2);clear HB1;clear b2 C2;have XZ:=Hd hZ1;have XK:=Hd hK1;have M1:=Hd hm1;clear hZ1 hK1 hm1
 by_cases c0:er=0
 rotate_left
 ·
  have d0:(er != 0)=true:=by rw[bne_iff_ne];exact c0
  have hr:=HA.out;simp[c0]at hr;obtain⟨rfl,rfl⟩:=hr;have R_0:=HR.out.cell (i:=0) rfl;have R_1:=HR.out.cell (i:=1) rfl;have R_2:=HR.out.cell (i:=2) rfl;have R_3:=HR.out.cell (i:=3) rfl;have R_4:=HR.out.cell (i:=4) rfl;have R_f0:=HR.out.free 0;have R_f1:=HR.out.free 1;have R_f2:=HR.out.free 2;have R_f3:=HR.out.free 3;have R_f4:=HR.out.free 4;have hh:w.heap.size≤g+2:=by omega
  have HP:=Hd (((((HR.out.put 0 (.slice none 0 0)).put 1 (.slice none 0 0)).put 2 (.slice none 0 0)).put 3 (.slice none 0 0)).put 4 (.int .i64 0));have HQ:=Hd (((((HB2.out.setCell (p:=⟨g+2,0,none⟩) hh (.slice none 0 0)).setCell (p:=⟨g+2,1,none⟩) hh (.slice none 0 0)).setCell (p:=⟨g+2,2,none⟩) hh (.slice none 0 0)).setCell (p:=⟨g+2,3,none⟩) hh (.slice none 0 0)).setCell (p:=⟨g+2,4,none⟩) hh (.int .i64 0));clear hh;go_wp2;exact bodyPost_ret (results_cell_tmp (p:=4) (t1:=5) (ty:=27) rfl _ _ (g+2) 27 #[.slice none 0 0,.slice none 0 0,.slice none 0 0,.slice none 0 0,.int .i64 0] _ rfl HP.out Tryz.underlying27 rfl infoVw) rfl ⟨Vl.none,rfl,rfl,VwAt.none _,HQ.out⟩
 obtain⟨hnw,hLT,hFI⟩:=HOK.out c0;have HLT:=Hd hLT;have HFI:=Hd hFI;subst c0;clear hLT hFI HOK;obtain⟨go,hggo⟩:∃go,w2.heap.size=go:=⟨_,rfl⟩;have lt_V_go:g<go:=by have:=HV.out.lt;rw[hggo]at this;exact this
 have lt_N_go:g+1<go:=by have:=HN.out.lt;rw[hggo]at this;exact this
 have lt_R_go:g+2<go:=by have:=HR.out.lt;rw[hggo]at this;exact this
 have V_4:=HV.out.cell (i:=4) rfl
 go_upto_region 7 with (fail)
 have b3:=below_new (Below.refl w2.heap.size w2) (.cells #[.slice B1 kr.length cb1,.slice A1 L1.length c1,.slice none 0 0,.slice none 0 0,.int .i64 room] 27);have hO:=Blk.new w2 27 #[.slice B1 kr.length cb1,.slice A1 L1.length c1,.slice none 0 0,.slice none 0 0,.int .i64 room];obtain⟨w3,hw3⟩:∃x,w2.alloc (.cells #[.slice B1 kr.length cb1,.slice A1 L1.length c1,.slice none 0 0,.slice none 0 0,.int .i64 room] 27)=x:=⟨_,rfl⟩;rw[hw3]at b3 hO;rw[hw3];clear V_4;replace HV:=Hd (HV.out.later b3);replace HN:=Hd (HN.out.later b3);replace HR:=Hd (HR.out.later b3);have HB3:=Hd (below_on HB2.out b3);clear HB2;replace XZ:=Hd (XZ.out.later b3);replace XK:=Hd (XK.out.later b3);rw[hggo]at hO;have HO:=Hd hO;clear b3 hw3 hO;go_wp2_with fail
 go_loopw [10,11] (fun s10 s11 wr=>∃k:Nat,k≤nw.length∧s11 = .int .i64 (k:Int)∧wr.ownsRow w3.heap.size 52 4 s10 ((nw.take k).filter hv).length (Nt.wrCells ((nw.take k).filter hv))∧Below w3.heap.size w3 wr) (fun _ s11 _=>nw.length-(intOf s11).toNat)
 case atStart=>exact⟨0,Nat.zero_le _,rfl,World.ownsRow_nil _ _ _ _,Below.refl _ _⟩
 case round=>
  obtain⟨k,hk,rfl,hrow,hbw⟩:=hrel;replace HV:=Hd (HV.out.later hbw);replace HN:=Hd (HN.out.later hbw);replace HR:=Hd (HR.out.later hbw);replace HO:=Hd (HO.out.later hbw);have HB4:=Hd (below_on HB3.out hbw);clear HB3;replace XZ:=Hd (XZ.out.later hbw);replace XK:=Hd (XK.out.later hbw)
  by_cases hlt:k<nw.length
  ·
    have hi0:(0:Int)≤(k:Int):=by omega
    have hi1:(k:Int)<(nw.length:Int):=by omega
    obtain⟨VA,vc,hvv,-,-,-,-⟩:=own_form hrow;subst hvv;obtain⟨b,off,hA,hcs⟩:=(HNN.out wr HB4.out).hv.at (fun h=>by rw[show nw=[] from h]at hlt;exact absurd hlt (Nat.not_lt_zero _))
    obtain⟨xe,hxx⟩:∃xe,nw.getD k Nt.zeroW=xe:=⟨_,rfl⟩;have hcx:=hcs k hlt;dsimp only at hcx;rw[hxx]at hcx;have hgt:nw[k]=xe:=by rw[←hxx,List.getD_eq_getElem?_getD,List.getElem?_eq_getElem hlt];rfl
    have htk:(nw.take (k+1)).filter hv=(nw.take k).filter hv++(if hv xe=true then [xe] else []):=by rw[List.take_succ_eq_append_getElem hlt,List.filter_append,hgt,List.filter_cons,List.filter_nil]
    have hll:((nw.take k).filter hv).length≤k:=by have h1:=List.length_filter_le hv (nw.take k);rw[List.length_take]at h1;omega
    obtain⟨hb,hhb⟩:∃t,hv xe=t:=⟨_,rfl⟩;obtain⟨x0,x1,x2,x3⟩:=xe;dsimp only at hcx;obtain⟨e0,e1,e2,e3⟩:=hcx;have NR:=Hd (fun wx (hbx:Below wr.heap.size wr wx)=>show Calls Tryz.prog 58 #[.agg #[.slice B1 kr.length cb1,.slice A1 L1.length c1,.slice none 0 0,.slice none 0 0,.int .i64 room],.agg #[.int .i64 x0,.int .i64 x1,.int .i64 x2,.bool x3]] wx (Says (.bool hb) wx) from by rw[←hhb];exact C3.out B1 A1 cb1 c1 L1 (x0,x1,x2,x3) wx M1.out (XK.out.later hbx) (XZ.out.later hbx))
    rw[hhb]at htk;have HROW:=Hd hrow;have BW:=Hd hbw;have HTK:=Hd htk;obtain⟨TLk,hTL⟩:∃l,(nw.take k).filter hv=l:=⟨_,rfl⟩;rw[hTL]at HROW HTK hll;rw[hTL];subst hA;clear hrow hbw hcs hxx hgt hhb htk hTL;have E5:=Hd (fun wx (hbx:Below wr.heap.size wr wx)=>And.intro (cell_later hbx e0) (And.intro (cell_later hbx e1) (And.intro (cell_later hbx e2) (cell_later hbx e3))))
    have BR:=Hd (Below.refl wr.heap.size wr);cases hb with
    |true=>
     have N_3:=HN.out.cell (i:=3) rfl
     go_upto_region 11 with (fail)
     have O_0:=HO.out.cell (i:=0) rfl;have O_1:=HO.out.cell (i:=1) rfl;have O_2:=HO.out.cell (i:=2) rfl;have O_3:=HO.out.cell (i:=3) rfl;have O_4:=HO.out.cell (i:=4) rfl
     refine wp_region_facts 6 (by kernel_rfl) (by kernel_rfl)
      (fun v=>{ tmps:=#[.agg #[.slice K kn.length ck,.slice Z zs.length cz,.slice H hs.length ch,.slice B bs.length cb,.int .i64 room],.agg #[.slice S ns.length cs,.slice E ne.length ce,.slice P nb.length cp,.slice (some ⟨b,off,none⟩) nw.length cu],.pointer (some ⟨g,0,none⟩),.pointer (some ⟨g+1,0,none⟩),.pointer (some ⟨g+1+1,0,none⟩),.int .i64 0,.slice A1 L1.length c1,.slice B1 kr.length cb1,.int .i64 0,.pointer (some ⟨go,0,none⟩),.slice VA TLk.length vc,.int .i64 (k:Int),undef,.agg #[.slice K kn.length ck,.slice Z zs.length cz,.slice H hs.length ch,.slice B bs.length cb,.int .i64 room],.bool true,.bool false,undef,.tuple #[.slice A1 L1.length c1,.slice B1 kr.length cb1,.int .i64 0],.pointer (some ⟨g,1,none⟩),.slice Z zs.length cz,.pointer (some ⟨g,0,none⟩),.slice K kn.length ck,.agg #[.slice S ns.length cs,.slice E ne.length ce,.slice P nb.length cp,.slice (some ⟨b,off,none⟩) nw.length cu],.tuple #[.slice A1 L1.length c1,.slice B1 kr.length cb1,.int .i64 0],.slice A1 L1.length c1,.slice B1 kr.length cb1,.int .i64 0,.int .i64 0,.bool false,undef,undef,.slice B1 kr.length cb1,.slice A1 L1.length c1,.pointer (some ⟨g,4,none⟩),.int .i64 room,.agg #[.slice B1 kr.length cb1,.slice A1 L1.length c1,.slice none 0 0,.slice none 0 0,.int .i64 room],.int .i64 (k:Int),.pointer (some ⟨g+1,3,none⟩),.slice (some ⟨b,off,none⟩) nw.length cu,.int .i64 (nw.length:Int),.bool true,u41,u42,v 0,v 1,v 2,v 3,v 4,v 5,u49,u50,u51,u52,u53,u54,u55,u56,u57,undef,undef,undef,undef,undef,undef,undef,undef,undef,undef,undef,undef,undef,undef,undef,undef,undef,undef,undef,undef,undef,undef,undef,undef,undef,undef,undef,undef,undef,undef,undef,undef,undef,undef],defers:=[] }) (fun i=>match i with|0=>u43|1=>u44|2=>u45|3=>u46|4=>u47|5=>u48|_=>undef)
      (fun i x wx=>match i with
       |0=>x = .agg #[.slice B1 kr.length cb1,.slice A1 L1.length c1,.slice none 0 0,.slice none 0 0,.int .i64 room]
       |1=>x = .pointer (some ⟨g+1,3,none⟩)
       |2=>x = .slice (some ⟨b,off,none⟩) nw.length cu
       |3=>x = .int .i64 (k:Int)
       |4=>x = .pointer (some ⟨b,off+k*4,none⟩)
       |5=>x = .agg #[.int .i64 x0,.int .i64 x1,.int .i64 x2,.bool x3]
       |_=>True)
      (fun w1 w2=>Below w1.heap.size w1 w2) (fun h1 h2=>below_on h1 h2) (fun _=>Below.refl _ _) (Below.drew (Below.refl _ _)) ?stabAtrue ?stepAtrue ?doneAtrue
     case stabAtrue=>
      rintro i x w1 w2 h hb
      match i,h with
      |0,h=>exact h
      |1,h=>exact h
      |2,h=>exact h
      |3,h=>exact h
      |4,h=>exact h
      |5,h=>exact h
      |i+6,_=>trivial
     case stepAtrue=>
      intro i hi v w' hb hd
      match i,hi with
      |0,_=>
       refine wpOp_oneH rfl fun KK HKK =>?_
       clear hd;have q0:=cell_later hb O_0;have q1:=cell_later hb O_1;have q2:=cell_later hb O_2;have q3:=cell_later hb O_3;have q4:=cell_later hb O_4;go_wp2;exact HKK.out _ _ ⟨_,(by simp[upd]),Below.refl _ _,rfl⟩
      |1,_=>
       refine wpOp_oneH rfl fun KK HKK =>?_
       clear hd;go_wp2;exact HKK.out _ _ ⟨_,(by simp[upd]),Below.refl _ _,rfl⟩
      |2,_=>
       have h1:v 1=_:=hdx hd 1 (by kernel_rfl)
       refine wpOp_oneH rfl fun KK HKK =>?_
       clear hd;rw[h1];have q0:=cell_later hb N_3;go_wp2;exact HKK.out _ _ ⟨_,(by simp[upd,h1]),Below.refl _ _,rfl⟩
      |3,_=>
       refine wpOp_oneH rfl fun KK HKK =>?_
       clear hd;go_wp2;exact HKK.out _ _ ⟨_,(by simp[upd]),Below.refl _ _,rfl⟩
      |4,_=>
       have h2:v 2=_:=hdx hd 2 (by kernel_rfl)
       have h3:v 3=_:=hdx hd 3 (by kernel_rfl)
       refine wpOp_oneH rfl fun KK HKK =>?_
       clear hd;rw[h2,h3];go_wp2;exact HKK.out _ _ ⟨_,(by simp[upd,h2,h3]),Below.refl _ _,rfl⟩
      |5,_=>
       have h4:v 4=_:=hdx hd 4 (by kernel_rfl)
       refine wpOp_oneH rfl fun KK HKK =>?_
       clear hd;rw[h4];have q0:=cell_later hb e0;have q1:=cell_later hb e1;have q2:=cell_later hb e2;have q3:=cell_later hb e3;go_wp2;exact HKK.out _ _ ⟨_,(by simp[upd,h4]),Below.refl _ _,rfl⟩
      |k+6,hk=>exact absurd hk (by omega)
     case doneAtrue=>
      intro v w5 hb hf;have h0:v 0=_:=hf 0 (by decide)
      have h1:v 1=_:=hf 1 (by decide)
      have h2:v 2=_:=hf 2 (by decide)
      have h3:v 3=_:=hf 3 (by decide)
      have h4:v 4=_:=hf 4 (by decide)
      have h5:v 5=_:=hf 5 (by decide)
      clear hf;rw[h0,h1,h2,h3,h4,h5];clear N_3 O_0 O_1 O_2 O_3 O_4;replace HV:=Hd (HV.out.later hb);replace HN:=Hd (HN.out.later hb);replace HR:=Hd (HR.out.later hb);replace HO:=Hd (HO.out.later hb);have HB5:=Hd (below_on HB4.out hb);clear HB4;replace XZ:=Hd (XZ.out.later hb);replace XK:=Hd (XK.out.later hb);replace HROW:=Hd (own_later HROW.out hb);replace BW:=Hd (below_on BW.out hb);replace BR:=Hd (below_on BR.out hb);clear hb;go_wp2_with fail;refine(NR.out _ BR.out).mono ?_;rintro e w6 ⟨rfl,b6⟩;replace HV:=Hd (HV.out.later b6);replace HN:=Hd (HN.out.later b6);replace HR:=Hd (HR.out.later b6);replace HO:=Hd (HO.out.later b6);have HB6:=Hd (below_on HB5.out b6);clear HB5;replace XZ:=Hd (XZ.out.later b6);replace XK:=Hd (XK.out.later b6);replace HROW:=Hd (own_later HROW.out b6);replace BW:=Hd (below_on BW.out b6);replace BR:=Hd (below_on BR.out b6);clear b6 NR;have HTK2:=Hd (show(nw.take (k+1)).filter hv=TLk++[(x0,x1,x2,x3)] from by rw[HTK.out];simp)
      obtain⟨f0,f1,f2,f3⟩:=E5.out w6 BR.out;clear e0 e1 e2 e3;have hrow:=HROW.out;have bn:=below_new (Below.refl w6.heap.size w6) (.cells #[.int .i64 x0,.int .i64 x1,.int .i64 x2,.bool x3] 52);have hrow2:=own_later hrow bn;have HNL:=Hd (show Lies (w6.alloc (.cells #[.int .i64 x0,.int .i64 x1,.int .i64 x2,.bool x3] 52)) (some ⟨w6.heap.size,0,none⟩) (Nt.wrCells [(x0,x1,x2,x3)]) from fun _=>⟨w6.heap.size,0,rfl,fun j u hu=>by rw[Nat.zero_add];exact(Blk.new w6 52 #[.int .i64 x0,.int .i64 x1,.int .i64 x2,.bool x3]).cell (by simpa[Nt.wrCells,Nt.wrCell] using hu)⟩)
      have BB:=Hd (below_on BW.out bn);have hszw:w3.heap.size≤(w6.alloc (.cells #[.int .i64 x0,.int .i64 x1,.int .i64 x2,.bool x3] 52)).heap.size:=BB.out.size;clear bn hrow;have N_3:=HN.out.cell (i:=3) rfl
      go_wp2_with (at_builtin;refine Go.Proofs.YtjlfehpockfkdaaGreat.wpList_append_lies _ rfl _ _ 24 rfl w3.heap.size 52 i0 (.agg #[.int .i64 0,.int .i64 0,.int .i64 0,.bool false]) 4 32 Tryz.underlying24 hI hz0 hz1 hz2 rfl (by decide) _ TLk.length (Nt.wrCells TLk) rfl hrow2 (some ⟨w6.heap.size,0,none⟩) 1 1 (fun h=>by cases h) (Nt.wrCells [(x0,x1,x2,x3)]) rfl rfl HNL.out (Nt.wrCells_one _) ?h63 ?hbytes hszw ?_)
      case h63=>unfold maxLen;omega
      case hbytes=>omega
      intro v' wz hownz hgz _;clear N_3;obtain⟨gv,capv,rfl⟩:=ownsRow_succ hownz;have HRZ:=Hd (show wz.ownsRow w3.heap.size 52 4 (.slice (some ⟨gv,0,none⟩) (TLk.length+1) capv) ((nw.take (k+1)).filter hv).length (Nt.wrCells ((nw.take (k+1)).filter hv)) from by rw[HTK2.out,List.length_append,Nt.wrCells_append];exact hownz)
      have BWZ:=Hd (BB.out.grown hgz (by have:=BB.out.size;omega) (fun r e=>own_ge hrow2 r e))
      clear hownz hgz hrow2 hszw;go_wp2_with fail
      go_roundw
      case rel=>exact⟨k+1,by omega,by go_num,by exact HRZ.out,BWZ.out⟩
      case measure=>simp[intOf];omega
    |false=>
     have N_3:=HN.out.cell (i:=3) rfl
     go_upto_region 11 with (fail)
     have O_0:=HO.out.cell (i:=0) rfl;have O_1:=HO.out.cell (i:=1) rfl;have O_2:=HO.out.cell (i:=2) rfl;have O_3:=HO.out.cell (i:=3) rfl;have O_4:=HO.out.cell (i:=4) rfl
     refine wp_region_facts 6 (by kernel_rfl) (by kernel_rfl)
      (fun v=>{ tmps:=#[.agg #[.slice K kn.length ck,.slice Z zs.length cz,.slice H hs.length ch,.slice B bs.length cb,.int .i64 room],.agg #[.slice S ns.length cs,.slice E ne.length ce,.slice P nb.length cp,.slice (some ⟨b,off,none⟩) nw.length cu],.pointer (some ⟨g,0,none⟩),.pointer (some ⟨g+1,0,none⟩),.pointer (some ⟨g+1+1,0,none⟩),.int .i64 0,.slice A1 L1.length c1,.slice B1 kr.length cb1,.int .i64 0,.pointer (some ⟨go,0,none⟩),.slice VA TLk.length vc,.int .i64 (k:Int),undef,.agg #[.slice K kn.length ck,.slice Z zs.length cz,.slice H hs.length ch,.slice B bs.length cb,.int .i64 room],.bool true,.bool false,undef,.tuple #[.slice A1 L1.length c1,.slice B1 kr.length cb1,.int .i64 0],.pointer (some ⟨g,1,none⟩),.slice Z zs.length cz,.pointer (some ⟨g,0,none⟩),.slice K kn.length ck,.agg #[.slice S ns.length cs,.slice E ne.length ce,.slice P nb.length cp,.slice (some ⟨b,off,none⟩) nw.length cu],.tuple #[.slice A1 L1.length c1,.slice B1 kr.length cb1,.int .i64 0],.slice A1 L1.length c1,.slice B1 kr.length cb1,.int .i64 0,.int .i64 0,.bool false,undef,undef,.slice B1 kr.length cb1,.slice A1 L1.length c1,.pointer (some ⟨g,4,none⟩),.int .i64 room,.agg #[.slice B1 kr.length cb1,.slice A1 L1.length c1,.slice none 0 0,.slice none 0 0,.int .i64 room],.int .i64 (k:Int),.pointer (some ⟨g+1,3,none⟩),.slice (some ⟨b,off,none⟩) nw.length cu,.int .i64 (nw.length:Int),.bool true,u41,u42,v 0,v 1,v 2,v 3,v 4,v 5,u49,u50,u51,u52,u53,u54,u55,u56,u57,undef,undef,undef,undef,undef,undef,undef,undef,undef,undef,undef,undef,undef,undef,undef,undef,undef,undef,undef,undef,undef,undef,undef,undef,undef,undef,undef,undef,undef,undef,undef,undef,undef,undef],defers:=[] }) (fun i=>match i with|0=>u43|1=>u44|2=>u45|3=>u46|4=>u47|5=>u48|_=>undef)
      (fun i x wx=>match i with
       |0=>x = .agg #[.slice B1 kr.length cb1,.slice A1 L1.length c1,.slice none 0 0,.slice none 0 0,.int .i64 room]
       |1=>x = .pointer (some ⟨g+1,3,none⟩)
       |2=>x = .slice (some ⟨b,off,none⟩) nw.length cu
       |3=>x = .int .i64 (k:Int)
       |4=>x = .pointer (some ⟨b,off+k*4,none⟩)
       |5=>x = .agg #[.int .i64 x0,.int .i64 x1,.int .i64 x2,.bool x3]
       |_=>True)
      (fun w1 w2=>Below w1.heap.size w1 w2) (fun h1 h2=>below_on h1 h2) (fun _=>Below.refl _ _) (Below.drew (Below.refl _ _)) ?stabAfalse ?stepAfalse ?doneAfalse
     case stabAfalse=>
      rintro i x w1 w2 h hb
      match i,h with
      |0,h=>exact h
      |1,h=>exact h
      |2,h=>exact h
      |3,h=>exact h
      |4,h=>exact h
      |5,h=>exact h
      |i+6,_=>trivial
     case stepAfalse=>
      intro i hi v w' hb hd
      match i,hi with
      |0,_=>
       refine wpOp_oneH rfl fun KK HKK =>?_
       clear hd;have q0:=cell_later hb O_0;have q1:=cell_later hb O_1;have q2:=cell_later hb O_2;have q3:=cell_later hb O_3;have q4:=cell_later hb O_4;go_wp2;exact HKK.out _ _ ⟨_,(by simp[upd]),Below.refl _ _,rfl⟩
      |1,_=>
       refine wpOp_oneH rfl fun KK HKK =>?_
       clear hd;go_wp2;exact HKK.out _ _ ⟨_,(by simp[upd]),Below.refl _ _,rfl⟩
      |2,_=>
       have h1:v 1=_:=hdx hd 1 (by kernel_rfl)
       refine wpOp_oneH rfl fun KK HKK =>?_
       clear hd;rw[h1];have q0:=cell_later hb N_3;go_wp2;exact HKK.out _ _ ⟨_,(by simp[upd,h1]),Below.refl _ _,rfl⟩
      |3,_=>
       refine wpOp_oneH rfl fun KK HKK =>?_
       clear hd;go_wp2;exact HKK.out _ _ ⟨_,(by simp[upd]),Below.refl _ _,rfl⟩
      |4,_=>
       have h2:v 2=_:=hdx hd 2 (by kernel_rfl)
       have h3:v 3=_:=hdx hd 3 (by kernel_rfl)
       refine wpOp_oneH rfl fun KK HKK =>?_
       clear hd;rw[h2,h3];go_wp2;exact HKK.out _ _ ⟨_,(by simp[upd,h2,h3]),Below.refl _ _,rfl⟩
      |5,_=>
       have h4:v 4=_:=hdx hd 4 (by kernel_rfl)
       refine wpOp_oneH rfl fun KK HKK =>?_
       clear hd;rw[h4];have q0:=cell_later hb e0;have q1:=cell_later hb e1;have q2:=cell_later hb e2;have q3:=cell_later hb e3;go_wp2;exact HKK.out _ _ ⟨_,(by simp[upd,h4]),Below.refl _ _,rfl⟩
      |k+6,hk=>exact absurd hk (by omega)
     case doneAfalse=>
      intro v w5 hb hf;have h0:v 0=_:=hf 0 (by decide)
      have h1:v 1=_:=hf 1 (by decide)
      have h2:v 2=_:=hf 2 (by decide)
      have h3:v 3=_:=hf 3 (by decide)
      have h4:v 4=_:=hf 4 (by decide)
      have h5:v 5=_:=hf 5 (by decide)
      clear hf;rw[h0,h1,h2,h3,h4,h5];clear N_3 O_0 O_1 O_2 O_3 O_4;replace HV:=Hd (HV.out.later hb);replace HN:=Hd (HN.out.later hb);replace HR:=Hd (HR.out.later hb);replace HO:=Hd (HO.out.later hb);have HB5:=Hd (below_on HB4.out hb);clear HB4;replace XZ:=Hd (XZ.out.later hb);replace XK:=Hd (XK.out.later hb);replace HROW:=Hd (own_later HROW.out hb);replace BW:=Hd (below_on BW.out hb);replace BR:=Hd (below_on BR.out hb);clear hb;go_wp2_with fail;refine(NR.out _ BR.out).mono ?_;rintro e w6 ⟨rfl,b6⟩;replace HV:=Hd (HV.out.later b6);replace HN:=Hd (HN.out.later b6);replace HR:=Hd (HR.out.later b6);replace HO:=Hd (HO.out.later b6);have HB6:=Hd (below_on HB5.out b6);clear HB5;replace XZ:=Hd (XZ.out.later b6);replace XK:=Hd (XK.out.later b6);replace HROW:=Hd (own_later HROW.out b6);replace BW:=Hd (below_on BW.out b6);replace BR:=Hd (below_on BR.out b6);clear b6 NR;have HTK2:=Hd (show(nw.take (k+1)).filter hv=TLk from by rw[HTK.out];simp)
      go_wp2_with fail
      go_roundw
      case rel=>exact⟨k+1,by omega,by go_num,by rw[HTK2.out];exact HROW.out,BW.out⟩
      case measure=>simp[intOf];omega
  obtain rfl:k=nw.length:=by omega
  have hd0:decide ((nw.length:Int)<(nw.length:Int))=false:=decide_eq_false (by omega)
  rw[List.take_length]at hrow;obtain⟨VA,vc,hvv,ho⟩:=OneW.of_own hrow;subst hvv;have XT:=Hd ho;clear hrow hbw ho;have N_3:=HN.out.cell (i:=3) rfl;have V_2:=HV.out.cell (i:=2) rfl;go_wp2_with fail;refine(C4.out VA vc (nw.filter hv) _ HB4.out XT.out).mono ?_;rintro e w5 ⟨DA,dc,rfl,hD,b5⟩;clear N_3 V_2;replace HV:=Hd (HV.out.later b5);replace HN:=Hd (HN.out.later b5);replace HR:=Hd (HR.out.later b5);replace HO:=Hd (HO.out.later b5);have HB5:=Hd (below_on HB4.out b5);clear HB4;replace XZ:=Hd (XZ.out.later b5);replace XK:=Hd (XK.out.later b5);replace XT:=Hd (XT.out.later b5);clear b5 C4 C3;rw[HHD.out]at hD ⊢;have XD:=Hd hD;clear hD XT;have O_2:=HO.out.cell (i:=2) rfl;have O_f2:=HO.out.free 2
  go_upto_region 14 with (fail)
  clear O_2 O_f2;obtain⟨w6,hw6⟩:∃x,w5.setCell ⟨go,2,none⟩ (.slice DA hd.length dc)=x:=⟨_,rfl⟩;have t_XZ:=XZ.out.far HO.out rfl 2 (.slice DA hd.length dc);have t_XK:=XK.out.far HO.out rfl 2 (.slice DA hd.length dc);have t_XD:=XD.out.far HO.out rfl 2 (.slice DA hd.length dc);have t_HV:=HV.out.far (p:=⟨go,2,none⟩) (by show g≠go;omega) (.slice DA hd.length dc)
  have t_HN:=HN.out.far (p:=⟨go,2,none⟩) (by show g+1≠go;omega) (.slice DA hd.length dc)
  have t_HR:=HR.out.far (p:=⟨go,2,none⟩) (by show g+2≠go;omega) (.slice DA hd.length dc)
  have t_HO:Blk (w5.setCell ⟨go,2,none⟩ (.slice DA hd.length dc)) (go) 27 #[.slice B1 kr.length cb1,.slice A1 L1.length c1,.slice DA hd.length dc,.slice none 0 0,.int .i64 room]:=HO.out.put 2 (.slice DA hd.length dc);have t_HB6:=HB5.out.setCell (p:=⟨go,2,none⟩) (by show w.heap.size≤go;omega) (.slice DA hd.length dc)
  rw[hw6]at t_XZ t_XK t_XD t_HV t_HN t_HR t_HO t_HB6;rw[hw6];replace XZ:=Hd t_XZ;replace XK:=Hd t_XK;replace XD:=Hd t_XD;replace HV:=Hd t_HV;replace HN:=Hd t_HN;replace HR:=Hd t_HR;replace HO:=Hd t_HO;have HB6:=Hd t_HB6;clear t_XZ t_XK t_XD t_HV t_HN t_HR t_HO t_HB6 hw6 HB5;have hfit:=HFT.out (by first|rfl|trivial)
  have hfn:=hfit.n;have HFZ:=Hd hfit.each;clear hfit;have lgo:=HO.out.lt;have hgo:g<w6.heap.size∧g≠go∧g+1<w6.heap.size∧g+1≠go∧g+2<w6.heap.size∧g+2≠go:=by omega
  have HGO:=Hd hgo;have HLGO:=Hd lgo;have KV:=HV;have KN:=HN;have KR:=HR;have KO:=HO;clear hgo lgo;go_wp2_with fail
  go_loopw [12] (fun s12 wr=>∃(k:Nat) (M:List Bc) (FA:Option Addr) (fc:Nat),k≤bs.length∧s12 = .int .i64 (k:Int)∧M.map Bc.b=((bs.take k).map Bc.b).filter wa∧OwnRC wr w6.heap.size 49 5 (.slice FA M.length fc) M∧Blk wr go 27 #[.slice B1 kr.length cb1,.slice A1 L1.length c1,.slice DA hd.length dc,.slice FA M.length fc,.int .i64 room]∧KeepO w6.heap.size go w6 wr∧Below w.heap.size w wr) (fun s12 _=>bs.length-(intOf s12).toNat)
  case atStart=>exact⟨0,[],none,0,Nat.zero_le _,rfl,rfl,OwnRC.nil _ _ _ _,HO.out,KeepO.refl _ _,HB6.out⟩
  case round=>
    clear HO HV HN HR HB6;obtain⟨k,M,FA,fc,hk,rfl,hM,hR,hO,hKO,hbw⟩:=hrel;have X5:=Hd (And.intro (XK.out.keepO KO.out rfl hKO) (And.intro (XZ.out.keepO KO.out rfl hKO) (XD.out.keepO KO.out rfl hKO)));clear XK XZ XD;have XK:=Hd X5.out.1;have XZ:=Hd X5.out.2.1;have XD:=Hd X5.out.2.2;clear X5;have HV:=Hd (KV.out.keepO hKO HGO.out.1 HGO.out.2.1);have HN:=Hd (KN.out.keepO hKO HGO.out.2.2.1 HGO.out.2.2.2.1);have HR:=Hd (KR.out.keepO hKO HGO.out.2.2.2.2.1 HGO.out.2.2.2.2.2);have HO:=Hd hO;have HKO:=Hd hKO;have hsz5:=hKO.size;have HBW:=Hd hbw;clear hO hbw hKO KV KN KR KO
    by_cases hlt:k<bs.length
    ·
     have hi0:(0:Int)≤(k:Int):=by omega
     have hi1:(k:Int)<(bs.length:Int):=by omega
     have hml:M.length≤k:=by have h1:=congrArg List.length hM;have h2:=List.length_filter_le wa ((bs.take k).map Bc.b);rw[List.length_map]at h1;rw[List.length_map,List.length_take]at h2;omega
     obtain⟨b,off,hA,hcs⟩:=(HBI.out wr HBW.out).at (fun h=>by rw[show bs=[] from h]at hlt;exact absurd hlt (Nat.not_lt_zero _))
     have hcx:=hcs k hlt;have hmem:=Ca.getD_mem hlt;have hxz:=HFZ.out _ hmem;have hxb:=fun wx (hbx:Below wr.heap.size wr wx)=>((HBI.out wx (below_on HBW.out hbx)).each _ hmem)
     have hts:=Ca.take_snoc hlt;obtain⟨xe,hxx⟩:∃xe,bs.getD k Bc.zero=xe:=⟨_,rfl⟩;rw[hxx]at hcx hxz hxb hts;obtain⟨X,xd,⟨x0,x1,x2,xv⟩⟩:=xe;dsimp only at hcx hxz hxb hts;obtain⟨e0,e1,e2,e3⟩:=hcx;have hMk:((bs.take (k+1)).map Bc.b).filter wa=M.map Bc.b++(if wa ⟨x0,x1,x2,xv⟩=true then [⟨x0,x1,x2,xv⟩] else []):=by rw[hts,List.filter_append,hM,List.filter_cons,List.filter_nil]
     obtain⟨hb,hhb⟩:∃t,wa ⟨x0,x1,x2,xv⟩=t:=⟨_,rfl⟩;obtain⟨FA',fc',hff,hFO⟩:=hR.form;injection hff with q1 q2 q3
     subst q1 q3;have XC:=Hd hFO.one;have NW:=Hd (fun wx (hbx:Below wr.heap.size wr wx)=>show Calls Tryz.prog 59 #[.agg #[.slice B1 kr.length cb1,.slice A1 L1.length c1,.slice DA hd.length dc,.slice FA M.length fc,.int .i64 room],.agg #[.int .i64 x0,.int .i64 x1,.int .i64 x2,.slice X xv.length xd]] wx (Says (.bool hb) wx) from by rw[←hhb];exact C5.out B1 A1 DA FA cb1 c1 dc fc L1 M X xd ⟨x0,x1,x2,xv⟩ wx M1.out (XK.out.later hbx) (XZ.out.later hbx) (XD.out.later hbx) (XC.out.later hbx))
     rw[hhb]at hMk;have HMK:=Hd hMk;have HRC:=Hd hR;have HXB:=Hd hxb;have HXZ:=Hd hxz;have E5:=Hd (fun wx (hbx:Below wr.heap.size wr wx)=>And.intro (cell_later hbx e0) (And.intro (cell_later hbx e1) (And.intro (cell_later hbx e2) (cell_later hbx e3))))
     have BW:=Hd (Below.refl wr.heap.size wr);subst hA;clear hM hR hcs hmem hxz hxb hts hxx hMk hhb hFO q2 XC XK XZ XD;cases hb with
     |true=>
      have V_3:=HV.out.cell (i:=3) rfl;have O_0:=HO.out.cell (i:=0) rfl;have O_1:=HO.out.cell (i:=1) rfl;have O_2:=HO.out.cell (i:=2) rfl;have O_3:=HO.out.cell (i:=3) rfl;have O_4:=HO.out.cell (i:=4) rfl
      go_upto_region 17 with (fail)
      refine wp_region_facts 6 (by kernel_rfl) (by kernel_rfl)
       (fun v=>{ tmps:=#[.agg #[.slice K kn.length ck,.slice Z zs.length cz,.slice H hs.length ch,.slice (some ⟨b,off,none⟩) bs.length cb,.int .i64 room],.agg #[.slice S ns.length cs,.slice E ne.length ce,.slice P nb.length cp,.slice U nw.length cu],.pointer (some ⟨g,0,none⟩),.pointer (some ⟨g+1,0,none⟩),.pointer (some ⟨g+1+1,0,none⟩),.int .i64 0,.slice A1 L1.length c1,.slice B1 kr.length cb1,.int .i64 0,.pointer (some ⟨go,0,none⟩),.slice VA (List.filter hv nw).length vc,.int .i64 (nw.length:Int),.int .i64 (k:Int),.agg #[.slice K kn.length ck,.slice Z zs.length cz,.slice H hs.length ch,.slice (some ⟨b,off,none⟩) bs.length cb,.int .i64 room],.bool true,.bool false,undef,.tuple #[.slice A1 L1.length c1,.slice B1 kr.length cb1,.int .i64 0],.pointer (some ⟨g,1,none⟩),.slice Z zs.length cz,.pointer (some ⟨g,0,none⟩),.slice K kn.length ck,.agg #[.slice S ns.length cs,.slice E ne.length ce,.slice P nb.length cp,.slice U nw.length cu],.tuple #[.slice A1 L1.length c1,.slice B1 kr.length cb1,.int .i64 0],.slice A1 L1.length c1,.slice B1 kr.length cb1,.int .i64 0,.int .i64 0,.bool false,undef,undef,.slice B1 kr.length cb1,.slice A1 L1.length c1,.pointer (some ⟨g,4,none⟩),.int .i64 room,.agg #[.slice B1 kr.length cb1,.slice A1 L1.length c1,.slice none 0 0,.slice none 0 0,.int .i64 room],.int .i64 (nw.length:Int),.pointer (some ⟨g+1,3,none⟩),.slice U nw.length cu,.int .i64 (nw.length:Int),.bool false,u41,u42,u43,u44,u45,u46,u47,u48,u49,u50,u51,u52,u53,u54,u55,u56,u57,.tuple #[.slice DA hd.length dc,.int .i64 (Sf.putR hs (List.filter hv nw)).snd],.pointer (some ⟨g,2,none⟩),.slice H hs.length ch,.slice VA (List.filter hv nw).length vc,.tuple #[.slice DA hd.length dc,.int .i64 (Sf.putR hs (List.filter hv nw)).snd],.slice DA hd.length dc,.int .i64 (Sf.putR hs (List.filter hv nw)).snd,.pointer (some ⟨go,2,none⟩),.int .i64 (k:Int),.pointer (some ⟨g,3,none⟩),.slice (some ⟨b,off,none⟩) bs.length cb,.int .i64 (bs.length:Int),.bool true,u71,u72,v 0,v 1,v 2,v 3,v 4,v 5,u79,u80,u81,u82,u83,u84,u85,u86,u87,u88,u89,u90,undef],defers:=[] }) (fun i=>match i with|0=>u73|1=>u74|2=>u75|3=>u76|4=>u77|5=>u78|_=>undef)
       (fun i x wx=>match i with
        |0=>x = .agg #[.slice B1 kr.length cb1,.slice A1 L1.length c1,.slice DA hd.length dc,.slice FA M.length fc,.int .i64 room]
        |1=>x = .pointer (some ⟨g,3,none⟩)
        |2=>x = .slice (some ⟨b,off,none⟩) bs.length cb
        |3=>x = .int .i64 (k:Int)
        |4=>x = .pointer (some ⟨b,off+k*4,none⟩)
        |5=>x = .agg #[.int .i64 x0,.int .i64 x1,.int .i64 x2,.slice X xv.length xd]
        |_=>True)
       (fun w1 w2=>Below w1.heap.size w1 w2) (fun h1 h2=>below_on h1 h2) (fun _=>Below.refl _ _) (Below.drew (Below.refl _ _)) ?stabDtrue ?stepDtrue ?doneDtrue
      case stabDtrue=>
       rintro i x w1 w2 h hb
       match i,h with
       |0,h=>exact h
       |1,h=>exact h
       |2,h=>exact h
       |3,h=>exact h
       |4,h=>exact h
       |5,h=>exact h
       |i+6,_=>trivial
      case stepDtrue=>
       intro i hi v w' hb hd
       match i,hi with
       |0,_=>
        refine wpOp_oneH rfl fun KK HKK =>?_
        clear hd;have q0:=cell_later hb O_0;have q1:=cell_later hb O_1;have q2:=cell_later hb O_2;have q3:=cell_later hb O_3;have q4:=cell_later hb O_4;go_wp2;exact HKK.out _ _ ⟨_,(by simp[upd]),Below.refl _ _,rfl⟩
       |1,_=>
        refine wpOp_oneH rfl fun KK HKK =>?_
        clear hd;go_wp2;exact HKK.out _ _ ⟨_,(by simp[upd]),Below.refl _ _,rfl⟩
       |2,_=>
        have h1:v 1=_:=hdx hd 1 (by kernel_rfl)
        refine wpOp_oneH rfl fun KK HKK =>?_
        clear hd;rw[h1];have q0:=cell_later hb V_3;go_wp2;exact HKK.out _ _ ⟨_,(by simp[upd,h1]),Below.refl _ _,rfl⟩
       |3,_=>
        refine wpOp_oneH rfl fun KK HKK =>?_
        clear hd;go_wp2;exact HKK.out _ _ ⟨_,(by simp[upd]),Below.refl _ _,rfl⟩
       |4,_=>
        have h2:v 2=_:=hdx hd 2 (by kernel_rfl)
        have h3:v 3=_:=hdx hd 3 (by kernel_rfl)
        refine wpOp_oneH rfl fun KK HKK =>?_
        clear hd;rw[h2,h3];go_wp2;exact HKK.out _ _ ⟨_,(by simp[upd,h2,h3]),Below.refl _ _,rfl⟩
       |5,_=>
        have h4:v 4=_:=hdx hd 4 (by kernel_rfl)
        refine wpOp_oneH rfl fun KK HKK =>?_
        clear hd;rw[h4];have q0:=cell_later hb e0;have q1:=cell_later hb e1;have q2:=cell_later hb e2;have q3:=cell_later hb e3;go_wp2;exact HKK.out _ _ ⟨_,(by simp[upd,h4]),Below.refl _ _,rfl⟩
       |k+6,hk=>exact absurd hk (by omega)
      case doneDtrue=>
       intro v w5 hb hf;have h0:v 0=_:=hf 0 (by decide)
       have h1:v 1=_:=hf 1 (by decide)
       have h2:v 2=_:=hf 2 (by decide)
       have h3:v 3=_:=hf 3 (by decide)
       have h4:v 4=_:=hf 4 (by decide)
       have h5:v 5=_:=hf 5 (by decide)
       clear hf;rw[h0,h1,h2,h3,h4,h5];clear V_3 O_0 O_1 O_2 O_3 O_4;replace HV:=Hd (HV.out.later hb);replace HN:=Hd (HN.out.later hb);replace HR:=Hd (HR.out.later hb);replace HO:=Hd (HO.out.later hb);have HB7:=Hd (below_on HBW.out hb);clear HBW;replace HRC:=Hd (HRC.out.later hb);replace BW:=Hd (below_on BW.out hb);replace HKO:=Hd (HKO.out.later hb);clear hb;go_wp2_with fail;refine(NW.out _ BW.out).mono ?_;rintro e w8 ⟨rfl,b8⟩;replace HV:=Hd (HV.out.later b8);replace HN:=Hd (HN.out.later b8);replace HR:=Hd (HR.out.later b8);replace HO:=Hd (HO.out.later b8);have HB8:=Hd (below_on HB7.out b8);clear HB7;replace HRC:=Hd (HRC.out.later b8);replace BW:=Hd (below_on BW.out b8);replace HKO:=Hd (HKO.out.later b8);clear b8 NW;have HM2:=Hd (show M.map Bc.b++[⟨x0,x1,x2,xv⟩]=((bs.take (k+1)).map Bc.b).filter wa from by rw[HMK.out];simp)
       obtain⟨f0,f1,f2,f3⟩:=E5.out w8 BW.out;have HXB2:=Hd (fun wx (hbx:Below w8.heap.size w8 wx)=>HXB.out wx (below_on BW.out hbx))
       have HS5:=Hd HKO.out.size;clear e0 e1 e2 e3
       go_upto_region 18 with (fail)
       have O_3:=HO.out.cell (i:=3) rfl;have V_3:=HV.out.cell (i:=3) rfl
       refine wp_region_facts 9 (by kernel_rfl) (by kernel_rfl)
        (fun v=>{ tmps:=#[.agg #[.slice K kn.length ck,.slice Z zs.length cz,.slice H hs.length ch,.slice (some ⟨b,off,none⟩) bs.length cb,.int .i64 room],.agg #[.slice S ns.length cs,.slice E ne.length ce,.slice P nb.length cp,.slice U nw.length cu],.pointer (some ⟨g,0,none⟩),.pointer (some ⟨g+1,0,none⟩),.pointer (some ⟨g+1+1,0,none⟩),.int .i64 0,.slice A1 L1.length c1,.slice B1 kr.length cb1,.int .i64 0,.pointer (some ⟨go,0,none⟩),.slice VA (List.filter hv nw).length vc,.int .i64 (nw.length:Int),.int .i64 (k:Int),.agg #[.slice K kn.length ck,.slice Z zs.length cz,.slice H hs.length ch,.slice (some ⟨b,off,none⟩) bs.length cb,.int .i64 room],.bool true,.bool false,undef,.tuple #[.slice A1 L1.length c1,.slice B1 kr.length cb1,.int .i64 0],.pointer (some ⟨g,1,none⟩),.slice Z zs.length cz,.pointer (some ⟨g,0,none⟩),.slice K kn.length ck,.agg #[.slice S ns.length cs,.slice E ne.length ce,.slice P nb.length cp,.slice U nw.length cu],.tuple #[.slice A1 L1.length c1,.slice B1 kr.length cb1,.int .i64 0],.slice A1 L1.length c1,.slice B1 kr.length cb1,.int .i64 0,.int .i64 0,.bool false,undef,undef,.slice B1 kr.length cb1,.slice A1 L1.length c1,.pointer (some ⟨g,4,none⟩),.int .i64 room,.agg #[.slice B1 kr.length cb1,.slice A1 L1.length c1,.slice none 0 0,.slice none 0 0,.int .i64 room],.int .i64 (nw.length:Int),.pointer (some ⟨g+1,3,none⟩),.slice U nw.length cu,.int .i64 (nw.length:Int),.bool false,u41,u42,u43,u44,u45,u46,u47,u48,u49,u50,u51,u52,u53,u54,u55,u56,u57,.tuple #[.slice DA hd.length dc,.int .i64 (Sf.putR hs (List.filter hv nw)).snd],.pointer (some ⟨g,2,none⟩),.slice H hs.length ch,.slice VA (List.filter hv nw).length vc,.tuple #[.slice DA hd.length dc,.int .i64 (Sf.putR hs (List.filter hv nw)).snd],.slice DA hd.length dc,.int .i64 (Sf.putR hs (List.filter hv nw)).snd,.pointer (some ⟨go,2,none⟩),.int .i64 (k:Int),.pointer (some ⟨g,3,none⟩),.slice (some ⟨b,off,none⟩) bs.length cb,.int .i64 (bs.length:Int),.bool true,u71,u72,.agg #[.slice B1 kr.length cb1,.slice A1 L1.length c1,.slice DA hd.length dc,.slice FA M.length fc,.int .i64 room],.pointer (some ⟨g,3,none⟩),.slice (some ⟨b,off,none⟩) bs.length cb,.int .i64 (k:Int),.pointer (some ⟨b,off+k*4,none⟩),.agg #[.int .i64 x0,.int .i64 x1,.int .i64 x2,.slice X xv.length xd],.bool true,v 0,v 1,v 2,v 3,v 4,v 5,v 6,v 7,v 8,u89,u90,undef],defers:=[] }) (fun i=>match i with|0=>u80|1=>u81|2=>u82|3=>u83|4=>u84|5=>u85|6=>u86|7=>u87|8=>u88|_=>undef)
        (fun i x wx=>match i with
         |0=>x = .pointer (some ⟨go,3,none⟩)
         |1=>x = .slice FA M.length fc
         |2=>x = .pointer (some ⟨g,3,none⟩)
         |3=>x = .slice (some ⟨b,off,none⟩) bs.length cb
         |4=>x = .int .i64 (k:Int)
         |5=>x = .pointer (some ⟨b,off+k*4,none⟩)
         |6=>x = .agg #[.int .i64 x0,.int .i64 x1,.int .i64 x2,.slice X xv.length xd]
         |7=>∃Y9 d9,x = .agg #[.int .i64 x0,.int .i64 x1,.int .i64 x2,.slice Y9 xv.length d9]∧wx.ownsRow w6.heap.size 5 1 (.slice Y9 xv.length d9) xv.length (bCells xv)
         |8=>∃g9 Y9 d9,x = .slice (some ⟨g9,0,none⟩) 1 1∧Blk wx g9 49 #[.int .i64 x0,.int .i64 x1,.int .i64 x2,.slice Y9 xv.length d9]∧wx.ownsRow w6.heap.size 5 1 (.slice Y9 xv.length d9) xv.length (bCells xv)
         |_=>True)
        (fun w1 w2=>Below w1.heap.size w1 w2) (fun h1 h2=>below_on h1 h2) (fun _=>Below.refl _ _) (Below.drew (Below.refl _ _)) ?stabG ?stepG ?doneG
       case stabG=>
        rintro i x w1 w2 h hb
        match i,h with
        |0,h=>exact h
        |1,h=>exact h
        |2,h=>exact h
        |3,h=>exact h
        |4,h=>exact h
        |5,h=>exact h
        |6,h=>exact h
        |7,h=>obtain⟨Y9,d9,e9,h9⟩:=h;exact⟨Y9,d9,e9,own_later h9 hb⟩
        |8,h=>obtain⟨g9,Y9,d9,e9,h9,k9⟩:=h;exact⟨g9,Y9,d9,e9,h9.later hb,own_later k9 hb⟩
        |i+9,_=>trivial
       case stepG=>
        intro i hi v w' hb hd
        match i,hi with
        |0,_=>
         refine wpOp_oneH rfl fun KK HKK =>?_
         clear hd;go_wp2;exact HKK.out _ _ ⟨_,(by simp[upd]),Below.refl _ _,rfl⟩
        |1,_=>
         have h0:v 0=_:=hdx hd 0 (by kernel_rfl)
         refine wpOp_oneH rfl fun KK HKK =>?_
         clear hd;rw[h0];have q0:=cell_later hb O_3;go_wp2;exact HKK.out _ _ ⟨_,(by simp[upd,h0]),Below.refl _ _,rfl⟩
        |2,_=>
         refine wpOp_oneH rfl fun KK HKK =>?_
         clear hd;go_wp2;exact HKK.out _ _ ⟨_,(by simp[upd]),Below.refl _ _,rfl⟩
        |3,_=>
         have h2:v 2=_:=hdx hd 2 (by kernel_rfl)
         refine wpOp_oneH rfl fun KK HKK =>?_
         clear hd;rw[h2];have q0:=cell_later hb V_3;go_wp2;exact HKK.out _ _ ⟨_,(by simp[upd,h2]),Below.refl _ _,rfl⟩
        |4,_=>
         refine wpOp_oneH rfl fun KK HKK =>?_
         clear hd;go_wp2;exact HKK.out _ _ ⟨_,(by simp[upd]),Below.refl _ _,rfl⟩
        |5,_=>
         have h3:v 3=_:=hdx hd 3 (by kernel_rfl)
         have h4:v 4=_:=hdx hd 4 (by kernel_rfl)
         refine wpOp_oneH rfl fun KK HKK =>?_
         clear hd;rw[h3,h4];go_wp2;exact HKK.out _ _ ⟨_,(by simp[upd,h3,h4]),Below.refl _ _,rfl⟩
        |6,_=>
         have h5:v 5=_:=hdx hd 5 (by kernel_rfl)
         refine wpOp_oneH rfl fun KK HKK =>?_
         clear hd;rw[h5];have q0:=cell_later hb f0;have q1:=cell_later hb f1;have q2:=cell_later hb f2;have q3:=cell_later hb f3;go_wp2;exact HKK.out _ _ ⟨_,(by simp[upd,h5]),Below.refl _ _,rfl⟩
        |7,_=>
         have h6:v 6=_:=hdx hd 6 (by kernel_rfl)
         refine wpOp_oneH rfl fun KK HKK =>?_
         clear hd;rw[h6];have hsz:=Nat.le_trans HS5.out hb.size;have NB:=Hd (cbody_any X xd ⟨x0,x1,x2,xv⟩ w' HXZ.out (HXB2.out w' hb));unfold bdCells at NB;dsimp only at NB;go_wp2_with fail;refine NB.out.mono ?_;rintro e w'' ⟨Y9,d9,rfl,ho,b⟩;have HOY:=Hd (own_base ho hsz);clear ho;unfold bdCells;dsimp only;go_wp2;exact HKK.out _ _ ⟨_,(by simp[upd,h6]),b,Y9,d9,rfl,HOY.out⟩
        |8,_=>
         obtain⟨Y7,d7,h7,o7⟩:=hd 7 (List.elem_iff.1 (by kernel_rfl))
         refine wpOp_oneH rfl fun KK HKK =>?_
         clear hd;rw[h7];have bn:=below_new (Below.refl w'.heap.size w') (.cells #[.int .i64 x0,.int .i64 x1,.int .i64 x2,.slice Y7 xv.length d7] 49);have HOY:=Hd (own_later o7 bn);have HBN:=Hd (Blk.new w' 49 #[.int .i64 x0,.int .i64 x1,.int .i64 x2,.slice Y7 xv.length d7]);clear o7;go_wp2;exact HKK.out _ _ ⟨_,(by simp[upd,h7]),bn,_,Y7,d7,rfl,HBN.out,HOY.out⟩
        |k+9,hk=>exact absurd hk (by omega)
       case doneG=>
        intro v w5 hb hf;have h1:v 1=_:=hf 1 (by decide)
        obtain⟨g8,Y8,d8,h8,o8,p8⟩:=hf 8 (by decide)
        clear hf;rw[h1,h8];clear O_3 V_3;replace HV:=Hd (HV.out.later hb);replace HN:=Hd (HN.out.later hb);replace HR:=Hd (HR.out.later hb);replace HO:=Hd (HO.out.later hb);have HB9:=Hd (below_on HB8.out hb);clear HB8;replace HRC:=Hd (HRC.out.later hb);replace BW:=Hd (below_on BW.out hb);replace HKO:=Hd (HKO.out.later hb);clear hb;simp only[List.drop_succ_cons,List.drop_zero];have hrow:=HRC.out.row;have hszw:w6.heap.size≤w5.heap.size:=HKO.out.size;have HNL:=Hd (show Lies w5 (some ⟨g8,0,none⟩) (Ca.cell ⟨Y8,d8,⟨x0,x1,x2,xv⟩⟩) from fun _=>⟨g8,0,rfl,fun j u hu=>by rw[Nat.zero_add];exact o8.cell (by simpa[Ca.cell] using hu)⟩)
        have HP8:=Hd p8;have HBY:=Hd (HXB.out _ (Below.refl _ _)).byte;clear o8 p8 f0 f1 f2 f3;have hml2:M.length≤bs.length:=by omega
        go_wp2_with (at_builtin;refine Go.Proofs.YtjlfehpockfkdaaGreat.wpList_append_lies _ rfl _ _ 25 rfl w6.heap.size 49 i1 (.agg #[.int .i64 0,.int .i64 0,.int .i64 0,.slice none 0 0]) 4 48 Tryz.underlying25 hJ hy0 hy1 hy2 rfl (by decide) _ M.length (Ca.cells M) rfl hrow (some ⟨g8,0,none⟩) 1 1 (fun h=>by cases h) (Ca.cell ⟨Y8,d8,⟨x0,x1,x2,xv⟩⟩) rfl rfl HNL.out (by intro u hu;simp[Ca.cell]at hu;rcases hu with rfl|rfl|rfl|rfl<;>rfl) ?h63 ?hbytes hszw ?_)
        case h63=>unfold maxLen;omega
        case hbytes=>omega
        intro v' wz hownz hgz _;have hrz:=HRC.out.snoc (by decide) hgz ⟨Y8,d8,⟨x0,x1,x2,xv⟩⟩ HP8.out HBY.out hownz
        obtain⟨gv,capv,rfl⟩:=ownsRow_succ hownz;have hge:=fun r e=>own_ge hrow r e
        have hne:∀k,(Value.slice FA M.length fc).ownBlock=some k→k≠go:=fun k hk=>by have:=hge k hk;have:=HLGO.out;omega
        have HO2:=Hd (show Blk wz go 27 _ from(hgz.block go HO.out.lt (fun h=>absurd rfl (hne go h.symm))).trans HO.out)
        have HK2:=Hd (HKO.out.grown hgz hge);have HB2:=Hd (HB9.out.grown hgz (by have:=HB9.out.size;omega) (fun r e=>by have:=hge r e;have:=HLGO.out;omega))
        have HRZ:=Hd hrz;clear hownz hgz hrow hrz hge hne;have o0:=HO2.out.cell (i:=3) rfl;have o1:=HO2.out.free 3;go_wp2_with fail;have HO3:=Hd (show Blk (wz.setCell ⟨go,3,none⟩ (.slice (some ⟨gv,0,none⟩) (M.length+1) capv)) go 27 #[.slice B1 kr.length cb1,.slice A1 L1.length c1,.slice DA hd.length dc,.slice (some ⟨gv,0,none⟩) (M++[(⟨Y8,d8,⟨x0,x1,x2,xv⟩⟩:Bc)]).length capv,.int .i64 room] from by rw[List.length_append];exact HO2.out.put 3 _)
        have HK3:=Hd (HK2.out.put 3 (.slice (some ⟨gv,0,none⟩) (M.length+1) capv));have HB3:=Hd (HB2.out.setCell (p:=⟨go,3,none⟩) (by show w.heap.size≤go;omega) (.slice (some ⟨gv,0,none⟩) (M.length+1) capv))
        have HR3:=Hd (show OwnRC (wz.setCell ⟨go,3,none⟩ (.slice (some ⟨gv,0,none⟩) (M.length+1) capv)) w6.heap.size 49 5 (.slice (some ⟨gv,0,none⟩) (M++[(⟨Y8,d8,⟨x0,x1,x2,xv⟩⟩:Bc)]).length capv) (M++[⟨Y8,d8,⟨x0,x1,x2,xv⟩⟩]) from by
         rw[List.length_append];exact HRZ.out.stays (fun k hk=>Below.heap_setCell _ _ _ _ (by have:=HLGO.out;show k≠go;omega)))
        go_roundw
        case rel=>exact⟨k+1,M++[⟨Y8,d8,⟨x0,x1,x2,xv⟩⟩],some ⟨gv,0,none⟩,capv,by omega,by go_num,by rw[List.map_append];exact HM2.out,HR3.out,HO3.out,HK3.out,HB3.out⟩
        case measure=>simp[intOf];omega
     |false=>
      have V_3:=HV.out.cell (i:=3) rfl;have O_0:=HO.out.cell (i:=0) rfl;have O_1:=HO.out.cell (i:=1) rfl;have O_2:=HO.out.cell (i:=2) rfl;have O_3:=HO.out.cell (i:=3) rfl;have O_4:=HO.out.cell (i:=4) rfl
      go_upto_region 17 with (fail)
      refine wp_region_facts 6 (by kernel_rfl) (by kernel_rfl)
       (fun v=>{ tmps:=#[.agg #[.slice K kn.length ck,.slice Z zs.length cz,.slice H hs.length ch,.slice (some ⟨b,off,none⟩) bs.length cb,.int .i64 room],.agg #[.slice S ns.length cs,.slice E ne.length ce,.slice P nb.length cp,.slice U nw.length cu],.pointer (some ⟨g,0,none⟩),.pointer (some ⟨g+1,0,none⟩),.pointer (some ⟨g+1+1,0,none⟩),.int .i64 0,.slice A1 L1.length c1,.slice B1 kr.length cb1,.int .i64 0,.pointer (some ⟨go,0,none⟩),.slice VA (List.filter hv nw).length vc,.int .i64 (nw.length:Int),.int .i64 (k:Int),.agg #[.slice K kn.length ck,.slice Z zs.length cz,.slice H hs.length ch,.slice (some ⟨b,off,none⟩) bs.length cb,.int .i64 room],.bool true,.bool false,undef,.tuple #[.slice A1 L1.length c1,.slice B1 kr.length cb1,.int .i64 0],.pointer (some ⟨g,1,none⟩),.slice Z zs.length cz,.pointer (some ⟨g,0,none⟩),.slice K kn.length ck,.agg #[.slice S ns.length cs,.slice E ne.length ce,.slice P nb.length cp,.slice U nw.length cu],.tuple #[.slice A1 L1.length c1,.slice B1 kr.length cb1,.int .i64 0],.slice A1 L1.length c1,.slice B1 kr.length cb1,.int .i64 0,.int .i64 0,.bool false,undef,undef,.slice B1 kr.length cb1,.slice A1 L1.length c1,.pointer (some ⟨g,4,none⟩),.int .i64 room,.agg #[.slice B1 kr.length cb1,.slice A1 L1.length c1,.slice none 0 0,.slice none 0 0,.int .i64 room],.int .i64 (nw.length:Int),.pointer (some ⟨g+1,3,none⟩),.slice U nw.length cu,.int .i64 (nw.length:Int),.bool false,u41,u42,u43,u44,u45,u46,u47,u48,u49,u50,u51,u52,u53,u54,u55,u56,u57,.tuple #[.slice DA hd.length dc,.int .i64 (Sf.putR hs (List.filter hv nw)).snd],.pointer (some ⟨g,2,none⟩),.slice H hs.length ch,.slice VA (List.filter hv nw).length vc,.tuple #[.slice DA hd.length dc,.int .i64 (Sf.putR hs (List.filter hv nw)).snd],.slice DA hd.length dc,.int .i64 (Sf.putR hs (List.filter hv nw)).snd,.pointer (some ⟨go,2,none⟩),.int .i64 (k:Int),.pointer (some ⟨g,3,none⟩),.slice (some ⟨b,off,none⟩) bs.length cb,.int .i64 (bs.length:Int),.bool true,u71,u72,v 0,v 1,v 2,v 3,v 4,v 5,u79,u80,u81,u82,u83,u84,u85,u86,u87,u88,u89,u90,undef],defers:=[] }) (fun i=>match i with|0=>u73|1=>u74|2=>u75|3=>u76|4=>u77|5=>u78|_=>undef)
       (fun i x wx=>match i with
        |0=>x = .agg #[.slice B1 kr.length cb1,.slice A1 L1.length c1,.slice DA hd.length dc,.slice FA M.length fc,.int .i64 room]
        |1=>x = .pointer (some ⟨g,3,none⟩)
        |2=>x = .slice (some ⟨b,off,none⟩) bs.length cb
        |3=>x = .int .i64 (k:Int)
        |4=>x = .pointer (some ⟨b,off+k*4,none⟩)
        |5=>x = .agg #[.int .i64 x0,.int .i64 x1,.int .i64 x2,.slice X xv.length xd]
        |_=>True)
       (fun w1 w2=>Below w1.heap.size w1 w2) (fun h1 h2=>below_on h1 h2) (fun _=>Below.refl _ _) (Below.drew (Below.refl _ _)) ?stabDfalse ?stepDfalse ?doneDfalse
      case stabDfalse=>
       rintro i x w1 w2 h hb
       match i,h with
       |0,h=>exact h
       |1,h=>exact h
       |2,h=>exact h
       |3,h=>exact h
       |4,h=>exact h
       |5,h=>exact h
       |i+6,_=>trivial
      case stepDfalse=>
       intro i hi v w' hb hd
       match i,hi with
       |0,_=>
        refine wpOp_oneH rfl fun KK HKK =>?_
        clear hd;have q0:=cell_later hb O_0;have q1:=cell_later hb O_1;have q2:=cell_later hb O_2;have q3:=cell_later hb O_3;have q4:=cell_later hb O_4;go_wp2;exact HKK.out _ _ ⟨_,(by simp[upd]),Below.refl _ _,rfl⟩
       |1,_=>
        refine wpOp_oneH rfl fun KK HKK =>?_
        clear hd;go_wp2;exact HKK.out _ _ ⟨_,(by simp[upd]),Below.refl _ _,rfl⟩
       |2,_=>
        have h1:v 1=_:=hdx hd 1 (by kernel_rfl)
        refine wpOp_oneH rfl fun KK HKK =>?_
        clear hd;rw[h1];have q0:=cell_later hb V_3;go_wp2;exact HKK.out _ _ ⟨_,(by simp[upd,h1]),Below.refl _ _,rfl⟩
       |3,_=>
        refine wpOp_oneH rfl fun KK HKK =>?_
        clear hd;go_wp2;exact HKK.out _ _ ⟨_,(by simp[upd]),Below.refl _ _,rfl⟩
       |4,_=>
        have h2:v 2=_:=hdx hd 2 (by kernel_rfl)
        have h3:v 3=_:=hdx hd 3 (by kernel_rfl)
        refine wpOp_oneH rfl fun KK HKK =>?_
        clear hd;rw[h2,h3];go_wp2;exact HKK.out _ _ ⟨_,(by simp[upd,h2,h3]),Below.refl _ _,rfl⟩
       |5,_=>
        have h4:v 4=_:=hdx hd 4 (by kernel_rfl)
        refine wpOp_oneH rfl fun KK HKK =>?_
        clear hd;rw[h4];have q0:=cell_later hb e0;have q1:=cell_later hb e1;have q2:=cell_later hb e2;have q3:=cell_later hb e3;go_wp2;exact HKK.out _ _ ⟨_,(by simp[upd,h4]),Below.refl _ _,rfl⟩
       |k+6,hk=>exact absurd hk (by omega)
      case doneDfalse=>
       intro v w5 hb hf;have h0:v 0=_:=hf 0 (by decide)
       have h1:v 1=_:=hf 1 (by decide)
       have h2:v 2=_:=hf 2 (by decide)
       have h3:v 3=_:=hf 3 (by decide)
       have h4:v 4=_:=hf 4 (by decide)
       have h5:v 5=_:=hf 5 (by decide)
       clear hf;rw[h0,h1,h2,h3,h4,h5];clear V_3 O_0 O_1 O_2 O_3 O_4;replace HV:=Hd (HV.out.later hb);replace HN:=Hd (HN.out.later hb);replace HR:=Hd (HR.out.later hb);replace HO:=Hd (HO.out.later hb);have HB7:=Hd (below_on HBW.out hb);clear HBW;replace HRC:=Hd (HRC.out.later hb);replace BW:=Hd (below_on BW.out hb);replace HKO:=Hd (HKO.out.later hb);clear hb;go_wp2_with fail;refine(NW.out _ BW.out).mono ?_;rintro e w8 ⟨rfl,b8⟩;replace HV:=Hd (HV.out.later b8);replace HN:=Hd (HN.out.later b8);replace HR:=Hd (HR.out.later b8);replace HO:=Hd (HO.out.later b8);have HB8:=Hd (below_on HB7.out b8);clear HB7;replace HRC:=Hd (HRC.out.later b8);replace BW:=Hd (below_on BW.out b8);replace HKO:=Hd (HKO.out.later b8);clear b8 NW;have HM2:=Hd (show M.map Bc.b=((bs.take (k+1)).map Bc.b).filter wa from by rw[HMK.out];simp)
       clear e0 e1 e2 e3;go_wp2_with fail
       go_roundw
       case rel=>exact⟨k+1,M,FA,fc,by omega,by go_num,HM2.out,HRC.out,HO.out,HKO.out,HB8.out⟩
       case measure=>simp[intOf];omega
    obtain rfl:k=bs.length:=by omega
    have hd0:decide ((bs.length:Int)<(bs.length:Int))=false:=decide_eq_false (by omega)
    rw[List.take_length]at hM;obtain⟨FA',fc',hff,hFO⟩:=hR.form;injection hff with q1 q2 q3
    subst q1 q3;have XC:=Hd hFO.one;have HM:=Hd hM;clear hFO hM hR q2;have V_3:=HV.out.cell (i:=3) rfl;have O_0:=HO.out.cell (i:=0) rfl;have O_1:=HO.out.cell (i:=1) rfl;have O_2:=HO.out.cell (i:=2) rfl;have O_3:=HO.out.cell (i:=3) rfl;have O_4:=HO.out.cell (i:=4) rfl;have hr:=HA.out;simp[]at hr;obtain⟨rfl,rfl⟩:=hr;have R_0:=HR.out.cell (i:=0) rfl;have R_1:=HR.out.cell (i:=1) rfl;have R_2:=HR.out.cell (i:=2) rfl;have R_3:=HR.out.cell (i:=3) rfl;have R_4:=HR.out.cell (i:=4) rfl;have R_f0:=HR.out.free 0;have R_f1:=HR.out.free 1;have R_f2:=HR.out.free 2;have R_f3:=HR.out.free 3;have R_f4:=HR.out.free 4;have hh:w.heap.size≤g+2:=by omega
    have HP:=Hd (((((HR.out.put 0 (.slice B1 kr.length cb1)).put 1 (.slice A1 L1.length c1)).put 2 (.slice DA hd.length dc)).put 3 (.slice FA M.length fc)).put 4 (.int .i64 room));have HQ:=Hd (((((HBW.out.setCell (p:=⟨g+2,0,none⟩) hh (.slice B1 kr.length cb1)).setCell (p:=⟨g+2,1,none⟩) hh (.slice A1 L1.length c1)).setCell (p:=⟨g+2,2,none⟩) hh (.slice DA hd.length dc)).setCell (p:=⟨g+2,3,none⟩) hh (.slice FA M.length fc)).setCell (p:=⟨g+2,4,none⟩) hh (.int .i64 room));have FXK:=Hd (((((XK.out.far (show Blk _ (g+2) 27 #[.slice none 0 0,.slice none 0 0,.slice none 0 0,.slice none 0 0,.int .i64 0] from HR.out) rfl 0 (.slice B1 kr.length cb1)).far (show Blk _ (g+2) 27 #[.slice B1 kr.length cb1,.slice none 0 0,.slice none 0 0,.slice none 0 0,.int .i64 0] from(HR.out.put 0 (.slice B1 kr.length cb1))) rfl 1 (.slice A1 L1.length c1)).far (show Blk _ (g+2) 27 #[.slice B1 kr.length cb1,.slice A1 L1.length c1,.slice none 0 0,.slice none 0 0,.int .i64 0] from((HR.out.put 0 (.slice B1 kr.length cb1)).put 1 (.slice A1 L1.length c1))) rfl 2 (.slice DA hd.length dc)).far (show Blk _ (g+2) 27 #[.slice B1 kr.length cb1,.slice A1 L1.length c1,.slice DA hd.length dc,.slice none 0 0,.int .i64 0] from(((HR.out.put 0 (.slice B1 kr.length cb1)).put 1 (.slice A1 L1.length c1)).put 2 (.slice DA hd.length dc))) rfl 3 (.slice FA M.length fc)).far (show Blk _ (g+2) 27 #[.slice B1 kr.length cb1,.slice A1 L1.length c1,.slice DA hd.length dc,.slice FA M.length fc,.int .i64 0] from((((HR.out.put 0 (.slice B1 kr.length cb1)).put 1 (.slice A1 L1.length c1)).put 2 (.slice DA hd.length dc)).put 3 (.slice FA M.length fc))) rfl 4 (.int .i64 room));have FXZ:=Hd (((((XZ.out.far (show Blk _ (g+2) 27 #[.slice none 0 0,.slice none 0 0,.slice none 0 0,.slice none 0 0,.int .i64 0] from HR.out) rfl 0 (.slice B1 kr.length cb1)).far (show Blk _ (g+2) 27 #[.slice B1 kr.length cb1,.slice none 0 0,.slice none 0 0,.slice none 0 0,.int .i64 0] from(HR.out.put 0 (.slice B1 kr.length cb1))) rfl 1 (.slice A1 L1.length c1)).far (show Blk _ (g+2) 27 #[.slice B1 kr.length cb1,.slice A1 L1.length c1,.slice none 0 0,.slice none 0 0,.int .i64 0] from((HR.out.put 0 (.slice B1 kr.length cb1)).put 1 (.slice A1 L1.length c1))) rfl 2 (.slice DA hd.length dc)).far (show Blk _ (g+2) 27 #[.slice B1 kr.length cb1,.slice A1 L1.length c1,.slice DA hd.length dc,.slice none 0 0,.int .i64 0] from(((HR.out.put 0 (.slice B1 kr.length cb1)).put 1 (.slice A1 L1.length c1)).put 2 (.slice DA hd.length dc))) rfl 3 (.slice FA M.length fc)).far (show Blk _ (g+2) 27 #[.slice B1 kr.length cb1,.slice A1 L1.length c1,.slice DA hd.length dc,.slice FA M.length fc,.int .i64 0] from((((HR.out.put 0 (.slice B1 kr.length cb1)).put 1 (.slice A1 L1.length c1)).put 2 (.slice DA hd.length dc)).put 3 (.slice FA M.length fc))) rfl 4 (.int .i64 room));have FXD:=Hd (((((XD.out.far (show Blk _ (g+2) 27 #[.slice none 0 0,.slice none 0 0,.slice none 0 0,.slice none 0 0,.int .i64 0] from HR.out) rfl 0 (.slice B1 kr.length cb1)).far (show Blk _ (g+2) 27 #[.slice B1 kr.length cb1,.slice none 0 0,.slice none 0 0,.slice none 0 0,.int .i64 0] from(HR.out.put 0 (.slice B1 kr.length cb1))) rfl 1 (.slice A1 L1.length c1)).far (show Blk _ (g+2) 27 #[.slice B1 kr.length cb1,.slice A1 L1.length c1,.slice none 0 0,.slice none 0 0,.int .i64 0] from((HR.out.put 0 (.slice B1 kr.length cb1)).put 1 (.slice A1 L1.length c1))) rfl 2 (.slice DA hd.length dc)).far (show Blk _ (g+2) 27 #[.slice B1 kr.length cb1,.slice A1 L1.length c1,.slice DA hd.length dc,.slice none 0 0,.int .i64 0] from(((HR.out.put 0 (.slice B1 kr.length cb1)).put 1 (.slice A1 L1.length c1)).put 2 (.slice DA hd.length dc))) rfl 3 (.slice FA M.length fc)).far (show Blk _ (g+2) 27 #[.slice B1 kr.length cb1,.slice A1 L1.length c1,.slice DA hd.length dc,.slice FA M.length fc,.int .i64 0] from((((HR.out.put 0 (.slice B1 kr.length cb1)).put 1 (.slice A1 L1.length c1)).put 2 (.slice DA hd.length dc)).put 3 (.slice FA M.length fc))) rfl 4 (.int .i64 room));have FXC:=Hd (((((XC.out.far (show Blk _ (g+2) 27 #[.slice none 0 0,.slice none 0 0,.slice none 0 0,.slice none 0 0,.int .i64 0] from HR.out) rfl 0 (.slice B1 kr.length cb1)).far (show Blk _ (g+2) 27 #[.slice B1 kr.length cb1,.slice none 0 0,.slice none 0 0,.slice none 0 0,.int .i64 0] from(HR.out.put 0 (.slice B1 kr.length cb1))) rfl 1 (.slice A1 L1.length c1)).far (show Blk _ (g+2) 27 #[.slice B1 kr.length cb1,.slice A1 L1.length c1,.slice none 0 0,.slice none 0 0,.int .i64 0] from((HR.out.put 0 (.slice B1 kr.length cb1)).put 1 (.slice A1 L1.length c1))) rfl 2 (.slice DA hd.length dc)).far (show Blk _ (g+2) 27 #[.slice B1 kr.length cb1,.slice A1 L1.length c1,.slice DA hd.length dc,.slice none 0 0,.int .i64 0] from(((HR.out.put 0 (.slice B1 kr.length cb1)).put 1 (.slice A1 L1.length c1)).put 2 (.slice DA hd.length dc))) rfl 3 (.slice FA M.length fc)).far (show Blk _ (g+2) 27 #[.slice B1 kr.length cb1,.slice A1 L1.length c1,.slice DA hd.length dc,.slice FA M.length fc,.int .i64 0] from((((HR.out.put 0 (.slice B1 kr.length cb1)).put 1 (.slice A1 L1.length c1)).put 2 (.slice DA hd.length dc)).put 3 (.slice FA M.length fc))) rfl 4 (.int .i64 room));clear hh;go_wp2;exact bodyPost_ret (results_cell_tmp (p:=4) (t1:=5) (ty:=27) rfl _ _ (g+2) 27 #[.slice B1 kr.length cb1,.slice A1 L1.length c1,.slice DA hd.length dc,.slice FA M.length fc,.int .i64 room] _ rfl HP.out Tryz.underlying27 rfl infoVw) rfl ⟨⟨B1,cb1,kr,A1,c1,L1,DA,dc,hd,FA,fc,M,room⟩,rfl,(by show(⟨kr,L1.map Zc.zn,hd,M.map Bc.b,room⟩:Vw)=_;rw[HM.out,show L1.map Zc.zn=zr from M1.out]),⟨FXK.out,FXZ.out,FXD.out,FXC.out⟩,HQ.out⟩
theorem NoteAt.far{w:World}{g:Nat}{t:TypeId}{ds:Array Value}{S E B V:Option Addr}{cs ce cb cv:Nat}{n:Note}(h:NoteAt w S E B V cs ce cb cv n)(hB:Blk w g t ds)(hd:dull ds=true)(i:Nat)(v:Value):NoteAt (w.setCell ⟨g,i,none⟩ v) S E B V cs ce cb cv n:=
 ⟨h.hs.far hB hd i v,h.he.far hB hd i v,h.hb.far hB hd i v,h.hv.far hB hd i v⟩
theorem lawVTakes_any(SV:ViewSpec)(q:Vl)(S E P U:Option Addr)(cs ce cp cu:Nat)(n:Note)(w:World)(h:VwAt w q)(hft:VwFit q)(hn:NoteAt w S E P U cs ce cp cu n)(l0:n.s.length*16≤140737488355328)(l1:n.e.length*16≤140737488355328)(l2:n.b.length*16≤140737488355328)(l3:n.ws.length*32≤140737488355328) :
  Calls Tryz.prog 4 #[.agg (vwCells q),.agg (noteCells S E P U cs ce cp cu n)] w (Says (.bool true) w):=by
 have SS:=Hd SV;have AL:=Hd (fun wx=>valive_any SV wx)
 have cp':=fun wx (hb:Below w.heap.size w wx)=>vcopy_any q wx (h.later hb) hft
 have ncp:=fun wx (hb:Below w.heap.size w wx)=>ncopy_any S E P U cs ce cp cu n wx l0 l1 l2 l3 (hn.later hb)
 have hvw:=fun wx (hb:Below w.heap.size w wx)=>h.later hb
 have hnw:=fun wx (hb:Below w.heap.size w wx)=>hn.later hb
 obtain⟨⟨nv,nk⟩,hnn⟩:∃p,Vw.takeR q.vw n=p:=⟨_,rfl⟩;have hok:=fun (h0:nk=0)=>show Vw.fmd nv=true from(Vw.ok_iff nv).2 (by have:=Vw.take_ok (v:=q.vw) (n:=n) (by rw[hnn];exact h0);rw[hnn]at this;exact this)
 clear SV h hft hn l0 l1 l2 l3;obtain⟨K,ck,kn,Z,cz,zs,H,ch,hs,B,cb,bs,room⟩:=q;obtain⟨ns,ne,nb,nw⟩:=n;unfold vwCells at cp' ⊢;unfold noteCells at ncp ⊢;dsimp only at cp' ncp ⊢;have HNN:=Hd hnn;have HOK:=Hd hok;have CP:=Hd cp';have NCP:=Hd ncp;have HVW:=Hd hvw;have HNW:=Hd hnw;clear cp' ncp hvw hnw hnn hok;have hb0:=below_new (below_new (Below.refl w.heap.size w) (.cells #[.slice K kn.length ck,.slice Z zs.length cz,.slice H hs.length ch,.slice B bs.length cb,.int .i64 room] 27)) (.cells #[.slice S ns.length cs,.slice E ne.length ce,.slice P nb.length cp,.slice U nw.length cu] 40);have hV:=(Blk.new w 27 #[.slice K kn.length ck,.slice Z zs.length cz,.slice H hs.length ch,.slice B bs.length cb,.int .i64 room]).alloc (.cells #[.slice S ns.length cs,.slice E ne.length ce,.slice P nb.length cp,.slice U nw.length cu] 40);have hN:=Blk.new (w.alloc (.cells #[.slice K kn.length ck,.slice Z zs.length cz,.slice H hs.length ch,.slice B bs.length cb,.int .i64 room] 27)) 40 #[.slice S ns.length cs,.slice E ne.length ce,.slice P nb.length cp,.slice U nw.length cu];simp only[World.size_alloc]at hN;obtain⟨W,hW⟩:∃W,(w.alloc (.cells #[.slice K kn.length ck,.slice Z zs.length cz,.slice H hs.length ch,.slice B bs.length cb,.int .i64 room] 27)).alloc (.cells #[.slice S ns.length cs,.slice E ne.length ce,.slice P nb.length cp,.slice U nw.length cu] 40)=W:=⟨_,rfl⟩;rw[hW]at hb0 hV hN;have HW:=Hd hW;obtain⟨g,hgg⟩:∃g,w.heap.size=g:=⟨_,rfl⟩;rw[hgg]at hV hN;have HV:=Hd (show Blk W (g) 27 #[.slice K kn.length ck,.slice Z zs.length cz,.slice H hs.length ch,.slice B bs.length cb,.int .i64 room] from hV);have HN:=Hd (show Blk W (g+1) 40 #[.slice S ns.length cs,.slice E ne.length ce,.slice P nb.length cp,.slice U nw.length cu] from hN);have HB0:=Hd hb0;clear hW hb0 hV hN
 go_enter Tryz.func4,Tryz.ntmps4
 go_upto_region 1 with (fail)
 rw[HW.out];clear HW;go_wp2_with fail;refine(AL.out _).mono ?_;rintro e w1 ⟨rfl,b1⟩;replace HV:=Hd (HV.out.later b1);replace HN:=Hd (HN.out.later b1);have HB1:=Hd (below_on HB0.out b1);clear HB0;clear b1 AL;have V_0:=HV.out.cell (i:=0) rfl;have V_1:=HV.out.cell (i:=1) rfl;have V_2:=HV.out.cell (i:=2) rfl;have V_3:=HV.out.cell (i:=3) rfl;have V_4:=HV.out.cell (i:=4) rfl;have N_0:=HN.out.cell (i:=0) rfl;have N_1:=HN.out.cell (i:=1) rfl;have N_2:=HN.out.cell (i:=2) rfl;have N_3:=HN.out.cell (i:=3) rfl;have HGV:=Hd (show g<w1.heap.size∧g+1<w1.heap.size∧w.heap.size≤w1.heap.size from⟨HV.out.lt,HN.out.lt,HB1.out.size⟩)
 go_upto_region 3 with (fail)
 refine wp_region_facts 6 (by kernel_rfl) (by kernel_rfl)
  (fun v=>{ tmps:=#[.agg #[.slice K kn.length ck,.slice Z zs.length cz,.slice H hs.length ch,.slice B bs.length cb,.int .i64 room],.agg #[.slice S ns.length cs,.slice E ne.length ce,.slice P nb.length cp,.slice U nw.length cu],.pointer (some ⟨g,0,none⟩),.pointer (some ⟨g+1,0,none⟩),.bool false,v 4,v 5,undef,undef,undef,undef,.bool true,.bool false,v 0,v 1,v 2,v 3,undef,undef,undef,undef,undef,undef,undef,undef,undef,undef,undef,undef,undef,undef,undef,undef,undef,undef,undef,undef,undef,undef,undef,undef,undef,undef,undef,undef,undef,undef,undef,undef,undef,undef,undef,undef,undef,undef],defers:=[] }) (fun _=>undef)
  (fun i x wx=>match i with
   |0=>x = .agg #[.slice K kn.length ck,.slice Z zs.length cz,.slice H hs.length ch,.slice B bs.length cb,.int .i64 room]
   |1=>∃q9:Vl,x = .agg (vwCells q9)∧q9.vw=Vl.vw ⟨K,ck,kn,Z,cz,zs,H,ch,hs,B,cb,bs,room⟩∧VwAt wx q9
   |2=>x = .agg #[.slice S ns.length cs,.slice E ne.length ce,.slice P nb.length cp,.slice U nw.length cu]
   |3=>∃S9 E9 P9 U9 cs9 ce9 cp9 cu9,x = .agg (noteCells S9 E9 P9 U9 cs9 ce9 cp9 cu9 ⟨ns,ne,nb,nw⟩)∧NoteAt wx S9 E9 P9 U9 cs9 ce9 cp9 cu9 ⟨ns,ne,nb,nw⟩
   |4=>∃g9,x = .pointer (some ⟨g9,0,none⟩)∧Blk wx g9 27 #[.slice none 0 0,.slice none 0 0,.slice none 0 0,.slice none 0 0,.int .i64 0]∧w1.heap.size≤g9
   |5=>∃g9,x = .pointer (some ⟨g9,0,none⟩)∧Blk wx g9 40 #[.slice none 0 0,.slice none 0 0,.slice none 0 0,.slice none 0 0]∧w1.heap.size≤g9
   |_=>True)
  (fun w1 w2=>Below w1.heap.size w1 w2) (fun h1 h2=>below_on h1 h2) (fun _=>Below.refl _ _) (Below.drew (Below.refl _ _)) ?stabT ?stepT ?doneT
 case stabT=>
  rintro i x w1 w2 h hb
  match i,h with
  |0,h=>exact h
  |1,h=>obtain⟨q9,e9,h9,k9⟩:=h;exact⟨q9,e9,h9,k9.later hb⟩
  |2,h=>exact h
  |3,h=>obtain⟨S9,E9,P9,U9,cs9,ce9,cp9,cu9,e9,h9⟩:=h;exact⟨S9,E9,P9,U9,cs9,ce9,cp9,cu9,e9,h9.later hb⟩
  |4,h=>obtain⟨g9,e9,h9,m9⟩:=h;exact⟨g9,e9,h9.later hb,m9⟩
  |5,h=>obtain⟨g9,e9,h9,m9⟩:=h;exact⟨g9,e9,h9.later hb,m9⟩
  |i+6,_=>trivial
 case stepT=>
  intro i hi v w' hb hd
  match i,hi with
  |0,_=>
   refine wpOp_oneH rfl fun KK HKK =>?_
   clear hd;have q0:=cell_later hb V_0;have q1:=cell_later hb V_1;have q2:=cell_later hb V_2;have q3:=cell_later hb V_3;have q4:=cell_later hb V_4;go_wp2;exact HKK.out _ _ ⟨_,(by simp[upd]),Below.refl _ _,rfl⟩
  |1,_=>
   have h0:v 0=_:=hdx hd 0 (by kernel_rfl)
   refine wpOp_oneH rfl fun KK HKK =>?_
   clear hd;rw[h0];go_wp2_with fail;refine(CP.out _ (below_on HB1.out hb)).mono ?_;rintro e w'' ⟨q9,rfl,hq,hV,b⟩;go_wp2;exact HKK.out _ _ ⟨_,(by simp[upd,h0]),b,q9,rfl,hq,hV⟩
  |2,_=>
   refine wpOp_oneH rfl fun KK HKK =>?_
   clear hd;have q0:=cell_later hb N_0;have q1:=cell_later hb N_1;have q2:=cell_later hb N_2;have q3:=cell_later hb N_3;go_wp2;exact HKK.out _ _ ⟨_,(by simp[upd]),Below.refl _ _,rfl⟩
  |3,_=>
   have h2:v 2=_:=hdx hd 2 (by kernel_rfl)
   refine wpOp_oneH rfl fun KK HKK =>?_
   clear hd;rw[h2];go_wp2_with fail;refine(NCP.out _ (below_on HB1.out hb)).mono ?_;rintro e w'' ⟨S9,E9,P9,U9,cs9,ce9,cp9,cu9,rfl,hN,b⟩;go_wp2;exact HKK.out _ _ ⟨_,(by simp[upd,h2]),b,S9,E9,P9,U9,cs9,ce9,cp9,cu9,rfl,hN⟩
  |4,_=>
   refine wpOp_oneH rfl fun KK HKK =>?_
   clear hd;have bn:=below_new (Below.refl w'.heap.size w') (.cells #[.slice none 0 0,.slice none 0 0,.slice none 0 0,.slice none 0 0,.int .i64 0] 27);have BN:=Blk.new w' 27 #[.slice none 0 0,.slice none 0 0,.slice none 0 0,.slice none 0 0,.int .i64 0];have hz:=hb.size;go_wp2;exact HKK.out _ _ ⟨_,(by simp[upd]),bn,_,rfl,BN,hz⟩
  |5,_=>
   refine wpOp_oneH rfl fun KK HKK =>?_
   clear hd;have bn:=below_new (Below.refl w'.heap.size w') (.cells #[.slice none 0 0,.slice none 0 0,.slice none 0 0,.slice none 0 0] 40);have BN:=Blk.new w' 40 #[.slice none 0 0,.slice none 0 0,.slice none 0 0,.slice none 0 0];have hz:=hb.size;go_wp2;exact HKK.out _ _ ⟨_,(by simp[upd]),bn,_,rfl,BN,hz⟩
  |k+6,hk=>exact absurd hk (by omega)
 case doneT=>
  intro v w5 hb hf;have h0:v 0=_:=hf 0 (by decide)
  obtain⟨q1,h1,m1,o1⟩:=hf 1 (by decide)
  have h2:v 2=_:=hf 2 (by decide)
  obtain⟨S3,E3,P3,U3,cs3,ce3,cp3,cu3,h3,o3⟩:=hf 3 (by decide)
  obtain⟨g4,h4,o4,m4⟩:=hf 4 (by decide)
  obtain⟨g5,h5,o5,m5⟩:=hf 5 (by decide)
  clear hf;rw[h0,h1,h2,h3,h4,h5];clear V_0 V_1 V_2 V_3 V_4 N_0 N_1 N_2 N_3;replace HV:=Hd (HV.out.later hb);replace HN:=Hd (HN.out.later hb);have HB2:=Hd (below_on HB1.out hb);clear HB1;clear hb;obtain⟨K2,ck2,k2,Z2,cz2,z2,H2,ch2,h2',B2,cb2,b2,r2⟩:=q1;unfold vwCells noteCells;dsimp only;simp only[List.drop_succ_cons,List.drop_zero];have hne45:g4≠g5:=fun e=>by subst e;have:=o4.symm.trans o5;injection this with this;injection this with _ h2;exact absurd h2 (by decide)
  have HO:=Hd o4;have HM:=Hd o5;have HQ2:=Hd m1;have XV2:=Hd o1;have XN2:=Hd o3;clear o4 o5 m1 o1 o3;have hgV:g<w1.heap.size∧g+1<w1.heap.size∧w.heap.size≤w1.heap.size:=HGV.out;have O_0:=HO.out.cell (i:=0) rfl;have O_1:=HO.out.cell (i:=1) rfl;have O_2:=HO.out.cell (i:=2) rfl;have O_3:=HO.out.cell (i:=3) rfl;have O_4:=HO.out.cell (i:=4) rfl;have M_0:=HM.out.cell (i:=0) rfl;have M_1:=HM.out.cell (i:=1) rfl;have M_2:=HM.out.cell (i:=2) rfl;have M_3:=HM.out.cell (i:=3) rfl;have O_f0:=HO.out.free 0;have O_f1:=HO.out.free 1;have O_f2:=HO.out.free 2;have O_f3:=HO.out.free 3;have O_f4:=HO.out.free 4;have M_f0:=HM.out.free 0;have M_f1:=HM.out.free 1;have M_f2:=HM.out.free 2;have M_f3:=HM.out.free 3
  go_upto_region 4 with (fail)
  clear O_0 O_1 O_2 O_3 O_4 M_0 M_1 M_2 M_3 O_f0 O_f1 O_f2 O_f3 O_f4 M_f0 M_f1 M_f2 M_f3;obtain⟨w3,hw3⟩:∃x,w5.setCell ⟨g4,0,none⟩ (.slice K2 k2.length ck2)=x:=⟨_,rfl⟩;have t_XV2:=XV2.out.far HO.out rfl 0 (.slice K2 k2.length ck2);have t_XN2:=XN2.out.far HO.out rfl 0 (.slice K2 k2.length ck2);have t_HV:=HV.out.far (p:=⟨g4,0,none⟩) (by show g≠g4;omega) (.slice K2 k2.length ck2)
  have t_HN:=HN.out.far (p:=⟨g4,0,none⟩) (by show g+1≠g4;omega) (.slice K2 k2.length ck2)
  have t_HM:=HM.out.far (p:=⟨g4,0,none⟩) (by show g5≠g4;omega) (.slice K2 k2.length ck2)
  have t_HO:Blk (w5.setCell ⟨g4,0,none⟩ (.slice K2 k2.length ck2)) (g4) 27 #[.slice K2 k2.length ck2,.slice none 0 0,.slice none 0 0,.slice none 0 0,.int .i64 0]:=HO.out.put 0 (.slice K2 k2.length ck2);have t_HB3:=HB2.out.setCell (p:=⟨g4,0,none⟩) (by show w.heap.size≤g4;omega) (.slice K2 k2.length ck2)
  rw[hw3]at t_XV2 t_XN2 t_HV t_HN t_HM t_HO t_HB3;rw[hw3];replace XV2:=Hd t_XV2;replace XN2:=Hd t_XN2;replace HV:=Hd t_HV;replace HN:=Hd t_HN;replace HM:=Hd t_HM;replace HO:=Hd t_HO;have HB3:=Hd t_HB3;clear t_XV2 t_XN2 t_HV t_HN t_HM t_HO t_HB3 hw3 HB2;obtain⟨w4,hw4⟩:∃x,w3.setCell ⟨g4,1,none⟩ (.slice Z2 z2.length cz2)=x:=⟨_,rfl⟩;have t_XV2:=XV2.out.far HO.out rfl 1 (.slice Z2 z2.length cz2);have t_XN2:=XN2.out.far HO.out rfl 1 (.slice Z2 z2.length cz2);have t_HV:=HV.out.far (p:=⟨g4,1,none⟩) (by show g≠g4;omega) (.slice Z2 z2.length cz2)
  have t_HN:=HN.out.far (p:=⟨g4,1,none⟩) (by show g+1≠g4;omega) (.slice Z2 z2.length cz2)
  have t_HM:=HM.out.far (p:=⟨g4,1,none⟩) (by show g5≠g4;omega) (.slice Z2 z2.length cz2)
  have t_HO:Blk (w3.setCell ⟨g4,1,none⟩ (.slice Z2 z2.length cz2)) (g4) 27 #[.slice K2 k2.length ck2,.slice Z2 z2.length cz2,.slice none 0 0,.slice none 0 0,.int .i64 0]:=HO.out.put 1 (.slice Z2 z2.length cz2);have t_HB4:=HB3.out.setCell (p:=⟨g4,1,none⟩) (by show w.heap.size≤g4;omega) (.slice Z2 z2.length cz2)
  rw[hw4]at t_XV2 t_XN2 t_HV t_HN t_HM t_HO t_HB4;rw[hw4];replace XV2:=Hd t_XV2;replace XN2:=Hd t_XN2;replace HV:=Hd t_HV;replace HN:=Hd t_HN;replace HM:=Hd t_HM;replace HO:=Hd t_HO;have HB4:=Hd t_HB4;clear t_XV2 t_XN2 t_HV t_HN t_HM t_HO t_HB4 hw4 HB3;obtain⟨w5,hw5⟩:∃x,w4.setCell ⟨g4,2,none⟩ (.slice H2 h2'.length ch2)=x:=⟨_,rfl⟩;have t_XV2:=XV2.out.far HO.out rfl 2 (.slice H2 h2'.length ch2);have t_XN2:=XN2.out.far HO.out rfl 2 (.slice H2 h2'.length ch2);have t_HV:=HV.out.far (p:=⟨g4,2,none⟩) (by show g≠g4;omega) (.slice H2 h2'.length ch2)
  have t_HN:=HN.out.far (p:=⟨g4,2,none⟩) (by show g+1≠g4;omega) (.slice H2 h2'.length ch2)
  have t_HM:=HM.out.far (p:=⟨g4,2,none⟩) (by show g5≠g4;omega) (.slice H2 h2'.length ch2)
  have t_HO:Blk (w4.setCell ⟨g4,2,none⟩ (.slice H2 h2'.length ch2)) (g4) 27 #[.slice K2 k2.length ck2,.slice Z2 z2.length cz2,.slice H2 h2'.length ch2,.slice none 0 0,.int .i64 0]:=HO.out.put 2 (.slice H2 h2'.length ch2);have t_HB5:=HB4.out.setCell (p:=⟨g4,2,none⟩) (by show w.heap.size≤g4;omega) (.slice H2 h2'.length ch2)
  rw[hw5]at t_XV2 t_XN2 t_HV t_HN t_HM t_HO t_HB5;rw[hw5];replace XV2:=Hd t_XV2;replace XN2:=Hd t_XN2;replace HV:=Hd t_HV;replace HN:=Hd t_HN;replace HM:=Hd t_HM;replace HO:=Hd t_HO;have HB5:=Hd t_HB5;clear t_XV2 t_XN2 t_HV t_HN t_HM t_HO t_HB5 hw5 HB4;obtain⟨w6,hw6⟩:∃x,w5.setCell ⟨g4,3,none⟩ (.slice B2 b2.length cb2)=x:=⟨_,rfl⟩;have t_XV2:=XV2.out.far HO.out rfl 3 (.slice B2 b2.length cb2);have t_XN2:=XN2.out.far HO.out rfl 3 (.slice B2 b2.length cb2);have t_HV:=HV.out.far (p:=⟨g4,3,none⟩) (by show g≠g4;omega) (.slice B2 b2.length cb2)
  have t_HN:=HN.out.far (p:=⟨g4,3,none⟩) (by show g+1≠g4;omega) (.slice B2 b2.length cb2)
  have t_HM:=HM.out.far (p:=⟨g4,3,none⟩) (by show g5≠g4;omega) (.slice B2 b2.length cb2)
  have t_HO:Blk (w5.setCell ⟨g4,3,none⟩ (.slice B2 b2.length cb2)) (g4) 27 #[.slice K2 k2.length ck2,.slice Z2 z2.length cz2,.slice H2 h2'.length ch2,.slice B2 b2.length cb2,.int .i64 0]:=HO.out.put 3 (.slice B2 b2.length cb2);have t_HB6:=HB5.out.setCell (p:=⟨g4,3,none⟩) (by show w.heap.size≤g4;omega) (.slice B2 b2.length cb2)
  rw[hw6]at t_XV2 t_XN2 t_HV t_HN t_HM t_HO t_HB6;rw[hw6];replace XV2:=Hd t_XV2;replace XN2:=Hd t_XN2;replace HV:=Hd t_HV;replace HN:=Hd t_HN;replace HM:=Hd t_HM;replace HO:=Hd t_HO;have HB6:=Hd t_HB6;clear t_XV2 t_XN2 t_HV t_HN t_HM t_HO t_HB6 hw6 HB5;obtain⟨w7,hw7⟩:∃x,w6.setCell ⟨g4,4,none⟩ (.int .i64 r2)=x:=⟨_,rfl⟩;have t_XV2:=XV2.out.far HO.out rfl 4 (.int .i64 r2);have t_XN2:=XN2.out.far HO.out rfl 4 (.int .i64 r2);have t_HV:=HV.out.far (p:=⟨g4,4,none⟩) (by show g≠g4;omega) (.int .i64 r2)
  have t_HN:=HN.out.far (p:=⟨g4,4,none⟩) (by show g+1≠g4;omega) (.int .i64 r2)
  have t_HM:=HM.out.far (p:=⟨g4,4,none⟩) (by show g5≠g4;omega) (.int .i64 r2)
  have t_HO:Blk (w6.setCell ⟨g4,4,none⟩ (.int .i64 r2)) (g4) 27 #[.slice K2 k2.length ck2,.slice Z2 z2.length cz2,.slice H2 h2'.length ch2,.slice B2 b2.length cb2,.int .i64 r2]:=HO.out.put 4 (.int .i64 r2);have t_HB7:=HB6.out.setCell (p:=⟨g4,4,none⟩) (by show w.heap.size≤g4;omega) (.int .i64 r2)
  rw[hw7]at t_XV2 t_XN2 t_HV t_HN t_HM t_HO t_HB7;rw[hw7];replace XV2:=Hd t_XV2;replace XN2:=Hd t_XN2;replace HV:=Hd t_HV;replace HN:=Hd t_HN;replace HM:=Hd t_HM;replace HO:=Hd t_HO;have HB7:=Hd t_HB7;clear t_XV2 t_XN2 t_HV t_HN t_HM t_HO t_HB7 hw7 HB6;obtain⟨w8,hw8⟩:∃x,w7.setCell ⟨g5,0,none⟩ (.slice S3 ns.length cs3)=x:=⟨_,rfl⟩;have t_XV2:=XV2.out.far HM.out rfl 0 (.slice S3 ns.length cs3);have t_XN2:=XN2.out.far HM.out rfl 0 (.slice S3 ns.length cs3);have t_HV:=HV.out.far (p:=⟨g5,0,none⟩) (by show g≠g5;omega) (.slice S3 ns.length cs3)
  have t_HN:=HN.out.far (p:=⟨g5,0,none⟩) (by show g+1≠g5;omega) (.slice S3 ns.length cs3)
  have t_HO:=HO.out.far (p:=⟨g5,0,none⟩) (by show g4≠g5;omega) (.slice S3 ns.length cs3)
  have t_HM:Blk (w7.setCell ⟨g5,0,none⟩ (.slice S3 ns.length cs3)) (g5) 40 #[.slice S3 ns.length cs3,.slice none 0 0,.slice none 0 0,.slice none 0 0]:=HM.out.put 0 (.slice S3 ns.length cs3);have t_HB8:=HB7.out.setCell (p:=⟨g5,0,none⟩) (by show w.heap.size≤g5;omega) (.slice S3 ns.length cs3)
  rw[hw8]at t_XV2 t_XN2 t_HV t_HN t_HO t_HM t_HB8;rw[hw8];replace XV2:=Hd t_XV2;replace XN2:=Hd t_XN2;replace HV:=Hd t_HV;replace HN:=Hd t_HN;replace HO:=Hd t_HO;replace HM:=Hd t_HM;have HB8:=Hd t_HB8;clear t_XV2 t_XN2 t_HV t_HN t_HO t_HM t_HB8 hw8 HB7;obtain⟨w9,hw9⟩:∃x,w8.setCell ⟨g5,1,none⟩ (.slice E3 ne.length ce3)=x:=⟨_,rfl⟩;have t_XV2:=XV2.out.far HM.out rfl 1 (.slice E3 ne.length ce3);have t_XN2:=XN2.out.far HM.out rfl 1 (.slice E3 ne.length ce3);have t_HV:=HV.out.far (p:=⟨g5,1,none⟩) (by show g≠g5;omega) (.slice E3 ne.length ce3)
  have t_HN:=HN.out.far (p:=⟨g5,1,none⟩) (by show g+1≠g5;omega) (.slice E3 ne.length ce3)
  have t_HO:=HO.out.far (p:=⟨g5,1,none⟩) (by show g4≠g5;omega) (.slice E3 ne.length ce3)
  have t_HM:Blk (w8.setCell ⟨g5,1,none⟩ (.slice E3 ne.length ce3)) (g5) 40 #[.slice S3 ns.length cs3,.slice E3 ne.length ce3,.slice none 0 0,.slice none 0 0]:=HM.out.put 1 (.slice E3 ne.length ce3);have t_HB9:=HB8.out.setCell (p:=⟨g5,1,none⟩) (by show w.heap.size≤g5;omega) (.slice E3 ne.length ce3)
  rw[hw9]at t_XV2 t_XN2 t_HV t_HN t_HO t_HM t_HB9;rw[hw9];replace XV2:=Hd t_XV2;replace XN2:=Hd t_XN2;replace HV:=Hd t_HV;replace HN:=Hd t_HN;replace HO:=Hd t_HO;replace HM:=Hd t_HM;have HB9:=Hd t_HB9;clear t_XV2 t_XN2 t_HV t_HN t_HO t_HM t_HB9 hw9 HB8;obtain⟨w10,hw10⟩:∃x,w9.setCell ⟨g5,2,none⟩ (.slice P3 nb.length cp3)=x:=⟨_,rfl⟩;have t_XV2:=XV2.out.far HM.out rfl 2 (.slice P3 nb.length cp3);have t_XN2:=XN2.out.far HM.out rfl 2 (.slice P3 nb.length cp3);have t_HV:=HV.out.far (p:=⟨g5,2,none⟩) (by show g≠g5;omega) (.slice P3 nb.length cp3)
  have t_HN:=HN.out.far (p:=⟨g5,2,none⟩) (by show g+1≠g5;omega) (.slice P3 nb.length cp3)
  have t_HO:=HO.out.far (p:=⟨g5,2,none⟩) (by show g4≠g5;omega) (.slice P3 nb.length cp3)
  have t_HM:Blk (w9.setCell ⟨g5,2,none⟩ (.slice P3 nb.length cp3)) (g5) 40 #[.slice S3 ns.length cs3,.slice E3 ne.length ce3,.slice P3 nb.length cp3,.slice none 0 0]:=HM.out.put 2 (.slice P3 nb.length cp3);have t_HB10:=HB9.out.setCell (p:=⟨g5,2,none⟩) (by show w.heap.size≤g5;omega) (.slice P3 nb.length cp3)
  rw[hw10]at t_XV2 t_XN2 t_HV t_HN t_HO t_HM t_HB10;rw[hw10];replace XV2:=Hd t_XV2;replace XN2:=Hd t_XN2;replace HV:=Hd t_HV;replace HN:=Hd t_HN;replace HO:=Hd t_HO;replace HM:=Hd t_HM;have HB10:=Hd t_HB10;clear t_XV2 t_XN2 t_HV t_HN t_HO t_HM t_HB10 hw10 HB9;obtain⟨w11,hw11⟩:∃x,w10.setCell ⟨g5,3,none⟩ (.slice U3 nw.length cu3)=x:=⟨_,rfl⟩;have t_XV2:=XV2.out.far HM.out rfl 3 (.slice U3 nw.length cu3);have t_XN2:=XN2.out.far HM.out rfl 3 (.slice U3 nw.length cu3);have t_HV:=HV.out.far (p:=⟨g5,3,none⟩) (by show g≠g5;omega) (.slice U3 nw.length cu3)
  have t_HN:=HN.out.far (p:=⟨g5,3,none⟩) (by show g+1≠g5;omega) (.slice U3 nw.length cu3)
  have t_HO:=HO.out.far (p:=⟨g5,3,none⟩) (by show g4≠g5;omega) (.slice U3 nw.length cu3)
  have t_HM:Blk (w10.setCell ⟨g5,3,none⟩ (.slice U3 nw.length cu3)) (g5) 40 #[.slice S3 ns.length cs3,.slice E3 ne.length ce3,.slice P3 nb.length cp3,.slice U3 nw.length cu3]:=HM.out.put 3 (.slice U3 nw.length cu3);have t_HB11:=HB10.out.setCell (p:=⟨g5,3,none⟩) (by show w.heap.size≤g5;omega) (.slice U3 nw.length cu3)
  rw[hw11]at t_XV2 t_XN2 t_HV t_HN t_HO t_HM t_HB11;rw[hw11];replace XV2:=Hd t_XV2;replace XN2:=Hd t_XN2;replace HV:=Hd t_HV;replace HN:=Hd t_HN;replace HO:=Hd t_HO;replace HM:=Hd t_HM;have HB11:=Hd t_HB11;clear t_XV2 t_XN2 t_HV t_HN t_HO t_HM t_HB11 hw11 HB10;have O_0:=HO.out.cell (i:=0) rfl;have O_1:=HO.out.cell (i:=1) rfl;have O_2:=HO.out.cell (i:=2) rfl;have O_3:=HO.out.cell (i:=3) rfl;have O_4:=HO.out.cell (i:=4) rfl;have M_0:=HM.out.cell (i:=0) rfl;have M_1:=HM.out.cell (i:=1) rfl;have M_2:=HM.out.cell (i:=2) rfl;have M_3:=HM.out.cell (i:=3) rfl;go_wp2_with fail;refine((show Calls Tryz.prog 22 #[.agg #[.slice K2 k2.length ck2,.slice Z2 z2.length cz2,.slice H2 h2'.length ch2,.slice B2 b2.length cb2,.int .i64 r2],.agg #[.slice S3 ns.length cs3,.slice E3 ne.length ce3,.slice P3 nb.length cp3,.slice U3 nw.length cu3]] w11 (GivesVwE nv nk w11) from by have n:=SS.out.take ⟨K2,ck2,k2,Z2,cz2,z2,H2,ch2,h2',B2,cb2,b2,r2⟩ S3 E3 P3 U3 cs3 ce3 cp3 cu3 ⟨ns,ne,nb,nw⟩ w11 XV2.out XN2.out;rw[HQ2.out,HNN.out]at n;exact n)).mono ?_
  rintro e w12 ⟨q5,rfl,hq5,hV5,b12⟩;clear O_0 O_1 O_2 O_3 O_4 M_0 M_1 M_2 M_3;replace HV:=Hd (HV.out.later b12);replace HN:=Hd (HN.out.later b12);replace HO:=Hd (HO.out.later b12);replace HM:=Hd (HM.out.later b12);have HB12:=Hd (below_on HB11.out b12);clear HB11;replace XV2:=Hd (XV2.out.later b12);replace XN2:=Hd (XN2.out.later b12);clear b12;obtain⟨K5,ck5,k5,Z5,cz5,z5,H5,ch5,h5,B5,cb5,b5,r5⟩:=q5;have HQ5:=Hd hq5;have XV5:=Hd hV5;clear hq5 hV5;unfold vwCells;dsimp only;obtain⟨ga5,hgga5⟩:∃ga5,w12.heap.size=ga5:=⟨_,rfl⟩;have lt_V_ga5:g<ga5:=by have:=HV.out.lt;rw[hgga5]at this;exact this
  have lt_N_ga5:g+1<ga5:=by have:=HN.out.lt;rw[hgga5]at this;exact this
  have lt_O_ga5:g4<ga5:=by have:=HO.out.lt;rw[hgga5]at this;exact this
  have lt_M_ga5:g5<ga5:=by have:=HM.out.lt;rw[hgga5]at this;exact this
  have le_ga5:w.heap.size≤ga5:=by have:=HB12.out.size;rw[hgga5]at this;exact this
  go_upto_region 5 with (fail)
  have b13:=below_new (Below.refl w12.heap.size w12) (.cells #[.slice K5 k5.length ck5,.slice Z5 z5.length cz5,.slice H5 h5.length ch5,.slice B5 b5.length cb5,.int .i64 r5] 27);have hP:=Blk.new w12 27 #[.slice K5 k5.length ck5,.slice Z5 z5.length cz5,.slice H5 h5.length ch5,.slice B5 b5.length cb5,.int .i64 r5];obtain⟨w13,hw13⟩:∃x,w12.alloc (.cells #[.slice K5 k5.length ck5,.slice Z5 z5.length cz5,.slice H5 h5.length ch5,.slice B5 b5.length cb5,.int .i64 r5] 27)=x:=⟨_,rfl⟩;rw[hw13]at b13 hP;rw[hw13];replace HV:=Hd (HV.out.later b13);replace HN:=Hd (HN.out.later b13);replace HO:=Hd (HO.out.later b13);replace HM:=Hd (HM.out.later b13);have HB13:=Hd (below_on HB12.out b13);clear HB12;replace XV2:=Hd (XV2.out.later b13);replace XN2:=Hd (XN2.out.later b13);replace XV5:=Hd (XV5.out.later b13);rw[hgga5]at hP;have HP:=Hd hP;clear b13 hw13 hP;have V_0:=HV.out.cell (i:=0) rfl;have V_1:=HV.out.cell (i:=1) rfl;have V_2:=HV.out.cell (i:=2) rfl;have V_3:=HV.out.cell (i:=3) rfl;have V_4:=HV.out.cell (i:=4) rfl;have N_0:=HN.out.cell (i:=0) rfl;have N_1:=HN.out.cell (i:=1) rfl;have N_2:=HN.out.cell (i:=2) rfl;have N_3:=HN.out.cell (i:=3) rfl;go_wp2_with fail;refine((show Calls Tryz.prog 23 #[.agg #[.slice K kn.length ck,.slice Z zs.length cz,.slice H hs.length ch,.slice B bs.length cb,.int .i64 room],.agg #[.slice S ns.length cs,.slice E ne.length ce,.slice P nb.length cp,.slice U nw.length cu]] w13 (GivesVwE nv nk w13) from by have n:=vtake_any ⟨K,ck,kn,Z,cz,zs,H,ch,hs,B,cb,bs,room⟩ S E P U cs ce cp cu ⟨ns,ne,nb,nw⟩ w13 (HVW.out _ HB13.out) (HNW.out _ HB13.out);rw[HNN.out]at n;exact n)).mono ?_
  rintro e w14 ⟨q6,rfl,hq6,hV6,b14⟩;clear V_0 V_1 V_2 V_3 V_4 N_0 N_1 N_2 N_3;replace HV:=Hd (HV.out.later b14);replace HN:=Hd (HN.out.later b14);replace HO:=Hd (HO.out.later b14);replace HM:=Hd (HM.out.later b14);replace HP:=Hd (HP.out.later b14);have HB14:=Hd (below_on HB13.out b14);clear HB13;replace XV2:=Hd (XV2.out.later b14);replace XN2:=Hd (XN2.out.later b14);replace XV5:=Hd (XV5.out.later b14);clear b14;obtain⟨K6,ck6,k6,Z6,cz6,z6,H6,ch6,h6,B6,cb6,b6,r6⟩:=q6;have HQ6:=Hd hq6;have XV6:=Hd hV6;clear hq6 hV6;unfold vwCells;dsimp only;obtain⟨ga6,hgga6⟩:∃ga6,w14.heap.size=ga6:=⟨_,rfl⟩;have lt_V_ga6:g<ga6:=by have:=HV.out.lt;rw[hgga6]at this;exact this
  have lt_N_ga6:g+1<ga6:=by have:=HN.out.lt;rw[hgga6]at this;exact this
  have lt_O_ga6:g4<ga6:=by have:=HO.out.lt;rw[hgga6]at this;exact this
  have lt_M_ga6:g5<ga6:=by have:=HM.out.lt;rw[hgga6]at this;exact this
  have lt_P_ga6:ga5<ga6:=by have:=HP.out.lt;rw[hgga6]at this;exact this
  have le_ga6:w.heap.size≤ga6:=by have:=HB14.out.size;rw[hgga6]at this;exact this
  go_upto_region 6 with (fail)
  have b15:=below_new (Below.refl w14.heap.size w14) (.cells #[.slice K6 k6.length ck6,.slice Z6 z6.length cz6,.slice H6 h6.length ch6,.slice B6 b6.length cb6,.int .i64 r6] 27);have hQ:=Blk.new w14 27 #[.slice K6 k6.length ck6,.slice Z6 z6.length cz6,.slice H6 h6.length ch6,.slice B6 b6.length cb6,.int .i64 r6];obtain⟨w15,hw15⟩:∃x,w14.alloc (.cells #[.slice K6 k6.length ck6,.slice Z6 z6.length cz6,.slice H6 h6.length ch6,.slice B6 b6.length cb6,.int .i64 r6] 27)=x:=⟨_,rfl⟩;rw[hw15]at b15 hQ;rw[hw15];replace HV:=Hd (HV.out.later b15);replace HN:=Hd (HN.out.later b15);replace HO:=Hd (HO.out.later b15);replace HM:=Hd (HM.out.later b15);replace HP:=Hd (HP.out.later b15);have HB15:=Hd (below_on HB14.out b15);clear HB14;replace XV2:=Hd (XV2.out.later b15);replace XN2:=Hd (XN2.out.later b15);replace XV5:=Hd (XV5.out.later b15);replace XV6:=Hd (XV6.out.later b15);rw[hgga6]at hQ;have HQ:=Hd hQ;clear b15 hw15 hQ;have XV1:=Hd (HVW.out _ HB15.out);have XN1:=Hd (HNW.out _ HB15.out);have P_0:=HP.out.cell (i:=0) rfl;have P_1:=HP.out.cell (i:=1) rfl;have P_2:=HP.out.cell (i:=2) rfl;have P_3:=HP.out.cell (i:=3) rfl;have P_4:=HP.out.cell (i:=4) rfl;have Q_0:=HQ.out.cell (i:=0) rfl;have Q_1:=HQ.out.cell (i:=1) rfl;have Q_2:=HQ.out.cell (i:=2) rfl;have Q_3:=HQ.out.cell (i:=3) rfl;have Q_4:=HQ.out.cell (i:=4) rfl;go_wp2_with fail;refine((show Calls Tryz.prog 17 #[.agg #[.slice K5 k5.length ck5,.slice Z5 z5.length cz5,.slice H5 h5.length ch5,.slice B5 b5.length cb5,.int .i64 r5],.agg #[.slice K6 k6.length ck6,.slice Z6 z6.length cz6,.slice H6 h6.length ch6,.slice B6 b6.length cb6,.int .i64 r6]] w15 (Says (.bool true) w15) from by have n:=vsame_any ⟨K5,ck5,k5,Z5,cz5,z5,H5,ch5,h5,B5,cb5,b5,r5⟩ ⟨K6,ck6,k6,Z6,cz6,z6,H6,ch6,h6,B6,cb6,b6,r6⟩ w15 XV5.out XV6.out;rw[HQ5.out,HQ6.out,decide_eq_true rfl]at n;exact n)).mono ?_
  rintro e w16 ⟨rfl,b16⟩;clear P_0 P_1 P_2 P_3 P_4 Q_0 Q_1 Q_2 Q_3 Q_4;replace HV:=Hd (HV.out.later b16);replace HN:=Hd (HN.out.later b16);replace HO:=Hd (HO.out.later b16);replace HM:=Hd (HM.out.later b16);replace HP:=Hd (HP.out.later b16);replace HQ:=Hd (HQ.out.later b16);have HB16:=Hd (below_on HB15.out b16);clear HB15;replace XV2:=Hd (XV2.out.later b16);replace XN2:=Hd (XN2.out.later b16);replace XV5:=Hd (XV5.out.later b16);replace XV6:=Hd (XV6.out.later b16);replace XV1:=Hd (XV1.out.later b16);replace XN1:=Hd (XN1.out.later b16);clear b16;have O_0:=HO.out.cell (i:=0) rfl;have O_1:=HO.out.cell (i:=1) rfl;have O_2:=HO.out.cell (i:=2) rfl;have O_3:=HO.out.cell (i:=3) rfl;have O_4:=HO.out.cell (i:=4) rfl;have V_0:=HV.out.cell (i:=0) rfl;have V_1:=HV.out.cell (i:=1) rfl;have V_2:=HV.out.cell (i:=2) rfl;have V_3:=HV.out.cell (i:=3) rfl;have V_4:=HV.out.cell (i:=4) rfl;go_wp2_with fail;refine((show Calls Tryz.prog 17 #[.agg #[.slice K2 k2.length ck2,.slice Z2 z2.length cz2,.slice H2 h2'.length ch2,.slice B2 b2.length cb2,.int .i64 r2],.agg #[.slice K kn.length ck,.slice Z zs.length cz,.slice H hs.length ch,.slice B bs.length cb,.int .i64 room]] w16 (Says (.bool true) w16) from by have n:=vsame_any ⟨K2,ck2,k2,Z2,cz2,z2,H2,ch2,h2',B2,cb2,b2,r2⟩ ⟨K,ck,kn,Z,cz,zs,H,ch,hs,B,cb,bs,room⟩ w16 XV2.out XV1.out;rw[HQ2.out,decide_eq_true rfl]at n;exact n)).mono ?_
  rintro e w17 ⟨rfl,b17⟩;clear O_0 O_1 O_2 O_3 O_4 V_0 V_1 V_2 V_3 V_4;replace HV:=Hd (HV.out.later b17);replace HN:=Hd (HN.out.later b17);replace HO:=Hd (HO.out.later b17);replace HM:=Hd (HM.out.later b17);replace HP:=Hd (HP.out.later b17);replace HQ:=Hd (HQ.out.later b17);have HB17:=Hd (below_on HB16.out b17);clear HB16;replace XV2:=Hd (XV2.out.later b17);replace XN2:=Hd (XN2.out.later b17);replace XV5:=Hd (XV5.out.later b17);replace XV6:=Hd (XV6.out.later b17);replace XV1:=Hd (XV1.out.later b17);replace XN1:=Hd (XN1.out.later b17);clear b17;have M_0:=HM.out.cell (i:=0) rfl;have M_1:=HM.out.cell (i:=1) rfl;have M_2:=HM.out.cell (i:=2) rfl;have M_3:=HM.out.cell (i:=3) rfl;have N_0:=HN.out.cell (i:=0) rfl;have N_1:=HN.out.cell (i:=1) rfl;have N_2:=HN.out.cell (i:=2) rfl;have N_3:=HN.out.cell (i:=3) rfl;go_wp2_with fail;refine((show Calls Tryz.prog 24 #[.agg #[.slice S3 ns.length cs3,.slice E3 ne.length ce3,.slice P3 nb.length cp3,.slice U3 nw.length cu3],.agg #[.slice S ns.length cs,.slice E ne.length ce,.slice P nb.length cp,.slice U nw.length cu]] w17 (Says (.bool true) w17) from by have n:=nsame_any S3 E3 P3 U3 S E P U cs3 ce3 cp3 cu3 cs ce cp cu ⟨ns,ne,nb,nw⟩ ⟨ns,ne,nb,nw⟩ w17 XN2.out XN1.out;rw[(sameN_iff _ _).2 rfl]at n;exact n)).mono ?_
  rintro e w18 ⟨rfl,b18⟩;clear M_0 M_1 M_2 M_3 N_0 N_1 N_2 N_3;replace HV:=Hd (HV.out.later b18);replace HN:=Hd (HN.out.later b18);replace HO:=Hd (HO.out.later b18);replace HM:=Hd (HM.out.later b18);replace HP:=Hd (HP.out.later b18);replace HQ:=Hd (HQ.out.later b18);have HB18:=Hd (below_on HB17.out b18);clear HB17;replace XV2:=Hd (XV2.out.later b18);replace XN2:=Hd (XN2.out.later b18);replace XV5:=Hd (XV5.out.later b18);replace XV6:=Hd (XV6.out.later b18);replace XV1:=Hd (XV1.out.later b18);replace XN1:=Hd (XN1.out.later b18);clear b18
  by_cases c0:nk=0
  ·
   subst c0;have P_0:=HP.out.cell (i:=0) rfl;have P_1:=HP.out.cell (i:=1) rfl;have P_2:=HP.out.cell (i:=2) rfl;have P_3:=HP.out.cell (i:=3) rfl;have P_4:=HP.out.cell (i:=4) rfl;go_wp2_with fail;refine((show Calls Tryz.prog 15 #[.agg #[.slice K5 k5.length ck5,.slice Z5 z5.length cz5,.slice H5 h5.length ch5,.slice B5 b5.length cb5,.int .i64 r5]] w18 (Says (.bool true) w18) from by have n:=SS.out.formed ⟨K5,ck5,k5,Z5,cz5,z5,H5,ch5,h5,B5,cb5,b5,r5⟩ w18 XV5.out;rw[HQ5.out,HOK.out (by first|rfl|trivial)]at n;exact n)).mono ?_
   rintro e w19 ⟨rfl,b19⟩;clear P_0 P_1 P_2 P_3 P_4;replace HV:=Hd (HV.out.later b19);replace HN:=Hd (HN.out.later b19);replace HO:=Hd (HO.out.later b19);replace HM:=Hd (HM.out.later b19);replace HP:=Hd (HP.out.later b19);replace HQ:=Hd (HQ.out.later b19);have HB19:=Hd (below_on HB18.out b19);clear HB18;replace XV2:=Hd (XV2.out.later b19);replace XN2:=Hd (XN2.out.later b19);replace XV5:=Hd (XV5.out.later b19);replace XV6:=Hd (XV6.out.later b19);replace XV1:=Hd (XV1.out.later b19);replace XN1:=Hd (XN1.out.later b19);clear b19;have HZ:=Hd HB19.out;go_wp2;go_ret;exact⟨rfl,HZ.out⟩
  ·
   have d0:(nk != 0)=true:=by rw[bne_iff_ne];exact c0
   have HZ:=Hd HB18.out;go_wp2;go_ret;exact⟨rfl,HZ.out⟩
end Go.Proofs.YtjlfehpockfkdaaGreat
