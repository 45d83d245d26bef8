/-
  What the row of this claim stands on: VwRefB, TrMath, VwLen, VwRefH, VwRefI, Mild, WrMsg, Nls, VwRefL, VwSpec, VdM, SpDevTwo, VdL, VwMath, VwMath2.
-/
import Derived.Test.YtjlfehpockfkdaaGreatB01
import Derived.Lib.QuietBelow
import Derived.Lib.SlBytesConst
import Derived.Test.YtjlfehpockfkdaaGreatSViewTwiceA
import Derived.Test.YtjlfehpockfkdaaGreatB02
import Derived.Test.YtjlfehpockfkdaaGreatB04
import Derived.Test.YtjlfehpockfkdaaGreatB03
import Derived.Test.YtjlfehpockfkdaaGreatB05
namespace Go.Proofs.YtjlfehpockfkdaaGreat
open Go.RowKit Fb
set_option maxRecDepth 100000 in
set_option maxHeartbeats 12800000 in
theorem vformed_any(q:Vl)(w:World)(h:VwAt w q):Calls Tryz.prog 16 #[.agg (vwCells q)] w (Says (.bool (Vw.fmd q.vw)) w):=by
 have hF:Vw.fmd q.vw=((Ve.fmd q.k&&(Tr.fmd (q.z.map Zc.zn)&&(Sf.fmd q.h&&Ca.fmd (q.b.map Bc.b) q.r)))&&(q.z.all (fun z=>decide (Ve.stand (Ve.cnt z.l) (Ve.cnt q.k)=1))&&(q.h.all (Vw.has q.vw)&&q.b.all (fun z=>Vw.wants q.vw z.b)))):=by
  unfold Vw.fmd
  rw[show q.vw.z=q.z.map Zc.zn from rfl,show q.vw.b=q.b.map Bc.b from rfl,List.all_map,List.all_map]
  rfl
 have hZ:=fun wx (hb:Below w.heap.size w wx)=>(h.later hb).z
 have hVW:=fun wx (hb:Below w.heap.size w wx)=>h.later hb
 have c1:=fun wx (hb:Below w.heap.size w wx)=>rformed_any q.K q.ck q.k wx (h.later hb).k.len (h.later hb).k.stamps
 have c2:=fun wx (hb:Below w.heap.size w wx)=>zformed_any q.Z q.cz q.z wx (h.later hb).z
 have c3:=fun wx (hb:Below w.heap.size w wx)=>fformed_any q.H q.ch q.h wx (h.later hb).h
 have c4:=fun wx (hb:Below w.heap.size w wx)=>cformed_any q.B q.cb q.b q.r wx (h.later hb).b
 have c5:=fun wx (hb:Below w.heap.size w wx) y=>vreached_any q y wx (h.later hb)
 have c6:=fun wx (hb:Below w.heap.size w wx) X d x=>vwanted_any q X d x wx (h.later hb)
 have HP1:=Hd (fun (j:Nat) x (hx:q.z[j]?=some x) =>@Vw.all_at _ q.z (fun z=>decide (Ve.stand (Ve.cnt z.l) (Ve.cnt q.k)=1)) j x hx)
 have HY1:=Hd (Vw.all_to q.z (fun z=>decide (Ve.stand (Ve.cnt z.l) (Ve.cnt q.k)=1)))
 have HP2:=Hd (fun (j:Nat) x (hx:q.h[j]?=some x) =>@Vw.all_at _ q.h (Vw.has q.vw) j x hx)
 have HY2:=Hd (Vw.all_to q.h (Vw.has q.vw))
 have HP3:=Hd (fun (j:Nat) x (hx:q.b[j]?=some x) =>@Vw.all_at _ q.b (fun z=>Vw.wants q.vw z.b) j x hx)
 have HY3:=Hd (Vw.all_to q.b (fun z=>Vw.wants q.vw z.b))
 obtain⟨hv,hhv⟩:∃f,Vw.has q.vw=f:=⟨_,rfl⟩
 obtain⟨wa,hwa⟩:∃f,Vw.wants q.vw=f:=⟨_,rfl⟩
 rw[hhv]at hF c5 HP2 HY2
 rw[hwa]at hF c6 HP3 HY3
 obtain⟨t,ht⟩:∃t,Vw.fmd q.vw=t:=⟨_,rfl⟩
 rw[ht]at hF ⊢
 have HQ:=Hd hVW
 clear ht hhv hwa hZ hVW
 have hll:=(And.intro h.z.len (And.intro h.h.len h.b.len))
 clear h
 obtain⟨K,ck,kn,Z,cz,zs,H,ch,hs,B,cb,bs,room⟩:=q
 unfold vwCells at c5 c6 ⊢
 dsimp only at hF c1 c2 c3 c4 c5 c6 HP1 HY1 HP2 HY2 HP3 HY3 hll ⊢
 obtain⟨f1,hf1⟩:∃f,Ve.fmd kn=f:=⟨_,rfl⟩
 obtain⟨f2,hf2⟩:∃f,Tr.fmd (zs.map Zc.zn)=f:=⟨_,rfl⟩
 obtain⟨f3,hf3⟩:∃f,Sf.fmd hs=f:=⟨_,rfl⟩
 obtain⟨f4,hf4⟩:∃f,Ca.fmd (bs.map Bc.b) room=f:=⟨_,rfl⟩
 obtain⟨r1,hr1⟩:∃f,zs.all (fun z=>decide (Ve.stand (Ve.cnt z.l) (Ve.cnt kn)=1))=f:=⟨_,rfl⟩
 obtain⟨r2,hr2⟩:∃f,hs.all hv=f:=⟨_,rfl⟩
 obtain⟨r3,hr3⟩:∃f,bs.all (fun z=>wa z.b)=f:=⟨_,rfl⟩
 rw[hf1,hf2,hf3,hf4,hr1,hr2,hr3]at hF
 rw[hf1]at c1
 rw[hf2]at c2
 rw[hf3]at c3
 rw[hf4]at c4
 rw[hr1]at HP1 HY1
 rw[hr2]at HP2 HY2
 rw[hr3]at HP3 HY3
 have C1:=Hd c1
 have C2:=Hd c2
 have C3:=Hd c3
 have C4:=Hd c4
 have C5:=Hd c5
 have C6:=Hd c6
 have HT:=Hd hF
 have b0:=below_new (Below.refl w.heap.size w) (.cells #[.slice K kn.length ck,.slice Z zs.length cz,.slice H hs.length ch,.slice B bs.length cb,.int .i64 room] 27)
 have V0:=Blk.new w 27 #[.slice K kn.length ck,.slice Z zs.length cz,.slice H hs.length ch,.slice B bs.length cb,.int .i64 room]
 obtain⟨W,hW⟩:∃W,w.alloc (.cells #[.slice K kn.length ck,.slice Z zs.length cz,.slice H hs.length ch,.slice B bs.length cb,.int .i64 room] 27)=W:=⟨_,rfl⟩
 rw[hW]at b0 V0
 have HW:=Hd hW
 obtain⟨g,hg⟩:∃g,w.heap.size=g:=⟨_,rfl⟩
 rw[hg]at V0
 have HV:=Hd V0
 have B0:=Hd b0
 have hl1:=hll.1
 have hl2:=hll.2.1
 have hl3:=hll.2.2
 clear hll c1 c2 c3 c4 c5 c6 hF hf1 hf2 hf3 hf4 hr1 hr2 hr3 b0 V0 hW
 go_enter Tryz.func16,Tryz.ntmps16
 go_upto_region 1 with (fail)
 rw[HW.out]
 clear HW
 have v0:=HV.out.cell (i:=0) rfl
 go_wp2_with fail
 refine(C1.out W B0.out).mono ?_
 rintro e w1 ⟨rfl,b1⟩
 have B1:=Hd (below_on B0.out b1)
 have V1:=Hd (HV.out.later b1)
 have v1:=V1.out.cell (i:=1) rfl
 clear b1 v0 B0 HV C1
 cases f1 with
 |false=>
  obtain rfl:t=false:=HT.out
  go_wp2
  go_ret
  exact⟨rfl,B1.out⟩
 |true=>
 go_wp2_with fail
 refine(C2.out w1 B1.out).mono ?_
 rintro e w2 ⟨rfl,b2⟩
 have B2:=Hd (below_on B1.out b2)
 have V2:=Hd (V1.out.later b2)
 have v2:=V2.out.cell (i:=2) rfl
 clear b2 v1 B1 V1 C2
 cases f2 with
 |false=>
  obtain rfl:t=false:=HT.out
  go_wp2
  go_ret
  exact⟨rfl,B2.out⟩
 |true=>
 go_wp2_with fail
 refine(C3.out w2 B2.out).mono ?_
 rintro e w3 ⟨rfl,b3⟩
 have B3:=Hd (below_on B2.out b3)
 have V3:=Hd (V2.out.later b3)
 have v3:=V3.out.cell (i:=3) rfl
 have v4:=V3.out.cell (i:=4) rfl
 clear b3 v2 B2 V2 C3
 cases f3 with
 |false=>
  obtain rfl:t=false:=HT.out
  go_wp2
  go_ret
  exact⟨rfl,B3.out⟩
 |true=>
 go_wp2_with fail
 refine(C4.out w3 B3.out).mono ?_
 rintro e w4 ⟨rfl,b4⟩
 have B4:=Hd (below_on B3.out b4)
 have V4:=Hd (V3.out.later b4)
 clear b4 v3 v4 B3 V3 C4
 cases f4 with
 |false=>
  obtain rfl:t=false:=HT.out
  go_wp2
  go_ret
  exact⟨rfl,B4.out⟩
 |true=>
 have HT1:=Hd (show(r1&&(r2&&r3))=t from HT.out.symm)
 clear HT
 go_wp2_with fail
 go_loopw [3] (fun s3 wr=>∃k:Nat,k≤zs.length∧s3 = .int .i64 (k:Int)∧(∀(j:Nat) xe,j<k→zs[j]?=some xe→(decide (Ve.stand (Ve.cnt xe.l) (Ve.cnt kn)=1))=true)∧Below w4.heap.size w4 wr) (fun s3 _=>zs.length-(intOf s3).toNat)
 case atStart=>exact⟨0,Nat.zero_le _,rfl,(fun j xe hj=>by omega),Below.refl _ _⟩
 case round=>
  obtain⟨k,hk,rfl,hall,hbw⟩:=hrel
  have hv0:=V4.out.later hbw
  have v0:=hv0.cell (i:=0) rfl
  have v1:=hv0.cell (i:=1) rfl
  have hbb:=below_on B4.out hbw
  by_cases hlt:k<zs.length
  ·have hi0:(0:Int)≤(k:Int):=by omega
   have hi1:(k:Int)<(zs.length:Int):=by omega
   obtain⟨b,off,hA,hcs⟩:=(HQ.out wr hbb).z.at (fun e=>by rw[show zs=[] from e]at hlt;exact absurd hlt (Nat.not_lt_zero _))
   obtain⟨xe,hx⟩:∃xe,zs[k]?=some xe:=⟨_,List.getElem?_eq_getElem hlt⟩
   have HE:=Hd (hcs k xe hx)
   obtain⟨sd,hsd⟩:∃sd,Ve.stand (Ve.cnt xe.l) (Ve.cnt kn)=sd:=⟨_,rfl⟩
   have NC:=Hd (fun w' (hb:Below wr.heap.size wr w')=>show Calls Tryz.prog 57 #[.slice xe.X xe.l.length xe.c,.slice K kn.length ck] w' (Says (.int .i64 sd) w') from by
    have q1:OneL w' xe.X xe.c xe.l:=((HQ.out wr hbb).z.one hx).later hb
    have q2:OneL w' K ck kn:=(HQ.out w' (below_on hbb hb)).k
    rw[←hsd]
    exact rcompare2_any xe.X K xe.c ck xe.l kn w' q1.len q2.len q1.stamps q2.stamps)
   have hpp:=HP1.out k xe hx
   rw[hsd]at hpp
   have hqq:∀(j:Nat) y,j<k+1→zs[j]?=some y→sd=1→decide (Ve.stand (Ve.cnt y.l) (Ve.cnt kn)=1)=true:=fun j y hj hy h1=>by
    rcases Nat.lt_or_ge j k with h2|h2
    ·exact hall j y h2 hy
    ·obtain rfl:j=k:=by omega
     rw[hx]at hy
     injection hy with hy
     subst hy
     rw[hsd,h1]
     rfl
   have HPP:=Hd hpp
   have HQQ:=Hd hqq
   have BW:=Hd hbw
   have BB:=Hd hbb
   subst hA
   clear hv0 hbb hbw hall hcs hsd hpp hqq hx
   by_cases hs1:sd=1
   ·have HQ1:=Hd (fun j y h1 h2=>HQQ.out j y h1 h2 hs1)
    subst hs1
    clear HQQ HPP
    go_upto_region 6 with (fail)
    refine wp_region_facts 9 (by kernel_rfl) (by kernel_rfl)
     (fun v=>{ tmps:=#[.agg #[.slice K kn.length ck,.slice (some ⟨b,off,none⟩) zs.length cz,.slice H hs.length ch,.slice B bs.length cb,.int .i64 room],.pointer (some ⟨g,0,none⟩),u2,.int .i64 (k:Int),undef,undef,.pointer (some ⟨g,0,none⟩),.slice K kn.length ck,.bool true,.bool false,.bool false,.pointer (some ⟨g,1,none⟩),.slice (some ⟨b,off,none⟩) zs.length cz,.bool true,.bool false,.bool false,.bool false,.pointer (some ⟨g,2,none⟩),.slice H hs.length ch,.bool true,.bool false,.bool false,.bool false,.pointer (some ⟨g,3,none⟩),.slice B bs.length cb,.pointer (some ⟨g,4,none⟩),.int .i64 room,.bool true,.bool false,.bool false,.int .i64 (k:Int),.pointer (some ⟨g,1,none⟩),.slice (some ⟨b,off,none⟩) zs.length cz,.int .i64 (zs.length:Int),.bool true,u35,u36,v 0,v 1,v 2,v 3,v 4,v 5,v 6,v 7,v 8,u46,undef,undef,undef,undef,undef,undef,undef,undef,undef,undef,undef,undef,undef,undef,undef,undef,undef,undef,undef,undef,undef,undef,undef,undef,undef,undef,undef,undef,undef,undef],defers:=[] }) (fun i=>match i with|0=>u37|1=>u38|2=>u39|3=>u40|4=>u41|5=>u42|6=>u43|7=>u44|8=>u45|_=>undef)
     (fun i x wx=>match i with
      |0=>x = .pointer (some ⟨g,1,none⟩)
      |1=>x = .slice (some ⟨b,off,none⟩) zs.length cz
      |2=>x = .int .i64 (k:Int)
      |3=>x = .pointer (some ⟨b,off+k*3,none⟩)
      |4=>x = .pointer (some ⟨b,off+k*3+2,none⟩)
      |5=>x = .slice xe.X xe.l.length xe.c
      |6=>x = .pointer (some ⟨g,0,none⟩)
      |7=>x = .slice K kn.length ck
      |8=>x = .int .i64 1
      |_=>True)
     (fun w1 w2=>Below w1.heap.size w1 w2) (fun h1 h2=>below_on h1 h2) (fun _=>Below.refl _ _) (Below.drew (Below.refl _ _)) ?stabA ?stepA ?doneA
    case stabA=>
     rintro i x w1 w2 h hb
     match i,h with
     |0,h=>exact h
     |1,h=>exact h
     |2,h=>exact h
     |3,h=>exact h
     |4,h=>exact h
     |5,h=>exact h
     |6,h=>exact h
     |7,h=>exact h
     |8,h=>exact h
     |i+9,_=>trivial
    case stepA=>
     intro i hi v w' hb hd
     match i,hi with
     |0,_=>
      refine wpOp_oneH rfl fun KK HKK =>?_
      clear hd
      go_wp2
      exact HKK.out _ _ ⟨_,(by simp[upd];done),Below.refl _ _,rfl⟩
     |1,_=>
      have h0:v 0=_:=hdx hd 0 (by kernel_rfl)
      refine wpOp_oneH rfl fun KK HKK =>?_
      clear hd
      rw[h0]
      have q0:=cell_later hb v1
      go_wp2
      exact HKK.out _ _ ⟨_,(by simp[upd,h0];done),Below.refl _ _,rfl⟩
     |2,_=>
      refine wpOp_oneH rfl fun KK HKK =>?_
      clear hd
      go_wp2
      exact HKK.out _ _ ⟨_,(by simp[upd];done),Below.refl _ _,rfl⟩
     |3,_=>
      have h1:v 1=_:=hdx hd 1 (by kernel_rfl)
      have h2:v 2=_:=hdx hd 2 (by kernel_rfl)
      refine wpOp_oneH rfl fun KK HKK =>?_
      clear hd
      rw[h1,h2]
      go_wp2
      exact HKK.out _ _ ⟨_,(by simp[upd,h1,h2];done),Below.refl _ _,rfl⟩
     |4,_=>
      have h3:v 3=_:=hdx hd 3 (by kernel_rfl)
      refine wpOp_oneH rfl fun KK HKK =>?_
      clear hd
      rw[h3]
      go_wp2
      exact HKK.out _ _ ⟨_,(by simp[upd,h3];done),Below.refl _ _,rfl⟩
     |5,_=>
      have h4:v 4=_:=hdx hd 4 (by kernel_rfl)
      refine wpOp_oneH rfl fun KK HKK =>?_
      clear hd
      rw[h4]
      have q0:=cell_later hb HE.out.2.2
      go_wp2
      exact HKK.out _ _ ⟨_,(by simp[upd,h4];done),Below.refl _ _,rfl⟩
     |6,_=>
      refine wpOp_oneH rfl fun KK HKK =>?_
      clear hd
      go_wp2
      exact HKK.out _ _ ⟨_,(by simp[upd];done),Below.refl _ _,rfl⟩
     |7,_=>
      have h6:v 6=_:=hdx hd 6 (by kernel_rfl)
      refine wpOp_oneH rfl fun KK HKK =>?_
      clear hd
      rw[h6]
      have q0:=cell_later hb v0
      go_wp2
      exact HKK.out _ _ ⟨_,(by simp[upd,h6];done),Below.refl _ _,rfl⟩
     |8,_=>
      have h5:v 5=_:=hdx hd 5 (by kernel_rfl)
      have h7:v 7=_:=hdx hd 7 (by kernel_rfl)
      refine wpOp_oneH rfl fun KK HKK =>?_
      clear hd
      rw[h5,h7]
      go_wp2_with fail
      refine(NC.out _ hb).mono ?_
      rintro e w'' ⟨rfl,b⟩
      go_wp2
      exact HKK.out _ _ ⟨_,(by simp[upd,h5,h7];done),b,rfl⟩
     |k+9,hk=>exact absurd hk (by omega)
    case doneA=>
     intro v w5 hb hf
     have h8:v 8=_:=hf 8 (by decide)
     clear hf
     rw[h8]
     have BW2:=Hd (below_on BW.out hb)
     clear hb NC HE
     go_wp2_with fail
     go_roundw
     case rel=>exact⟨k+1,by omega,by go_num,HQ1.out,BW2.out⟩
     case measure=>simp[intOf];omega
   ·have hd1:(sd == 1)=false:=beq_eq_false_iff_ne.2 hs1
    have hd2:decide (sd=1)=false:=decide_eq_false hs1
    obtain rfl:r1=false:=HPP.out hd2
    obtain rfl:t=false:=HT1.out.symm
    clear HQQ HPP
    go_upto_region 6 with (fail)
    refine wp_region_facts 9 (by kernel_rfl) (by kernel_rfl)
     (fun v=>{ tmps:=#[.agg #[.slice K kn.length ck,.slice (some ⟨b,off,none⟩) zs.length cz,.slice H hs.length ch,.slice B bs.length cb,.int .i64 room],.pointer (some ⟨g,0,none⟩),u2,.int .i64 (k:Int),undef,undef,.pointer (some ⟨g,0,none⟩),.slice K kn.length ck,.bool true,.bool false,.bool false,.pointer (some ⟨g,1,none⟩),.slice (some ⟨b,off,none⟩) zs.length cz,.bool true,.bool false,.bool false,.bool false,.pointer (some ⟨g,2,none⟩),.slice H hs.length ch,.bool true,.bool false,.bool false,.bool false,.pointer (some ⟨g,3,none⟩),.slice B bs.length cb,.pointer (some ⟨g,4,none⟩),.int .i64 room,.bool true,.bool false,.bool false,.int .i64 (k:Int),.pointer (some ⟨g,1,none⟩),.slice (some ⟨b,off,none⟩) zs.length cz,.int .i64 (zs.length:Int),.bool true,u35,u36,v 0,v 1,v 2,v 3,v 4,v 5,v 6,v 7,v 8,u46,undef,undef,undef,undef,undef,undef,undef,undef,undef,undef,undef,undef,undef,undef,undef,undef,undef,undef,undef,undef,undef,undef,undef,undef,undef,undef,undef,undef,undef,undef],defers:=[] }) (fun i=>match i with|0=>u37|1=>u38|2=>u39|3=>u40|4=>u41|5=>u42|6=>u43|7=>u44|8=>u45|_=>undef)
     (fun i x wx=>match i with
      |0=>x = .pointer (some ⟨g,1,none⟩)
      |1=>x = .slice (some ⟨b,off,none⟩) zs.length cz
      |2=>x = .int .i64 (k:Int)
      |3=>x = .pointer (some ⟨b,off+k*3,none⟩)
      |4=>x = .pointer (some ⟨b,off+k*3+2,none⟩)
      |5=>x = .slice xe.X xe.l.length xe.c
      |6=>x = .pointer (some ⟨g,0,none⟩)
      |7=>x = .slice K kn.length ck
      |8=>x = .int .i64 sd
      |_=>True)
     (fun w1 w2=>Below w1.heap.size w1 w2) (fun h1 h2=>below_on h1 h2) (fun _=>Below.refl _ _) (Below.drew (Below.refl _ _)) ?stabB ?stepB ?doneB
    case stabB=>
     rintro i x w1 w2 h hb
     match i,h with
     |0,h=>exact h
     |1,h=>exact h
     |2,h=>exact h
     |3,h=>exact h
     |4,h=>exact h
     |5,h=>exact h
     |6,h=>exact h
     |7,h=>exact h
     |8,h=>exact h
     |i+9,_=>trivial
    case stepB=>
     intro i hi v w' hb hd
     match i,hi with
     |0,_=>
      refine wpOp_oneH rfl fun KK HKK =>?_
      clear hd
      go_wp2
      exact HKK.out _ _ ⟨_,(by simp[upd];done),Below.refl _ _,rfl⟩
     |1,_=>
      have h0:v 0=_:=hdx hd 0 (by kernel_rfl)
      refine wpOp_oneH rfl fun KK HKK =>?_
      clear hd
      rw[h0]
      have q0:=cell_later hb v1
      go_wp2
      exact HKK.out _ _ ⟨_,(by simp[upd,h0];done),Below.refl _ _,rfl⟩
     |2,_=>
      refine wpOp_oneH rfl fun KK HKK =>?_
      clear hd
      go_wp2
      exact HKK.out _ _ ⟨_,(by simp[upd];done),Below.refl _ _,rfl⟩
     |3,_=>
      have h1:v 1=_:=hdx hd 1 (by kernel_rfl)
      have h2:v 2=_:=hdx hd 2 (by kernel_rfl)
      refine wpOp_oneH rfl fun KK HKK =>?_
      clear hd
      rw[h1,h2]
      go_wp2
      exact HKK.out _ _ ⟨_,(by simp[upd,h1,h2];done),Below.refl _ _,rfl⟩
     |4,_=>
      have h3:v 3=_:=hdx hd 3 (by kernel_rfl)
      refine wpOp_oneH rfl fun KK HKK =>?_
      clear hd
      rw[h3]
      go_wp2
      exact HKK.out _ _ ⟨_,(by simp[upd,h3];done),Below.refl _ _,rfl⟩
     |5,_=>
      have h4:v 4=_:=hdx hd 4 (by kernel_rfl)
      refine wpOp_oneH rfl fun KK HKK =>?_
      clear hd
      rw[h4]
      have q0:=cell_later hb HE.out.2.2
      go_wp2
      exact HKK.out _ _ ⟨_,(by simp[upd,h4];done),Below.refl _ _,rfl⟩
     |6,_=>
      refine wpOp_oneH rfl fun KK HKK =>?_
      clear hd
      go_wp2
      exact HKK.out _ _ ⟨_,(by simp[upd];done),Below.refl _ _,rfl⟩
     |7,_=>
      have h6:v 6=_:=hdx hd 6 (by kernel_rfl)
      refine wpOp_oneH rfl fun KK HKK =>?_
      clear hd
      rw[h6]
      have q0:=cell_later hb v0
      go_wp2
      exact HKK.out _ _ ⟨_,(by simp[upd,h6];done),Below.refl _ _,rfl⟩
     |8,_=>
      have h5:v 5=_:=hdx hd 5 (by kernel_rfl)
      have h7:v 7=_:=hdx hd 7 (by kernel_rfl)
      refine wpOp_oneH rfl fun KK HKK =>?_
      clear hd
      rw[h5,h7]
      go_wp2_with fail
      refine(NC.out _ hb).mono ?_
      rintro e w'' ⟨rfl,b⟩
      go_wp2
      exact HKK.out _ _ ⟨_,(by simp[upd,h5,h7];done),b,rfl⟩
     |k+9,hk=>exact absurd hk (by omega)
    case doneB=>
     intro v w5 hb hf
     have h8:v 8=_:=hf 8 (by decide)
     clear hf
     rw[h8]
     have BB2:=Hd (below_on BB.out hb)
     clear hb NC HE
     go_wp2
     go_ret
     exact⟨rfl,BB2.out⟩
  obtain rfl:k=zs.length:=by omega
  have hd0:decide ((zs.length:Int)<(zs.length:Int))=false:=decide_eq_false (by omega)
  obtain rfl:r1=true:=HY1.out (fun j xe hx=>hall j xe (by have:=(List.getElem?_eq_some_iff.1 hx).1;omega) hx)
  have B5:=Hd hbb
  have V5:=Hd hv0
  have HT2:=Hd (show(r2&&r3)=t from HT1.out)
  clear HT1
  have HT1:=HT2
  clear HT2 hall hbw hbb hv0 B4 V4 HY1 HP1
  rename World=>w5
  go_wp2_with fail
  clear v0 v1 hd0 hlt hk
  go_loopw [4] (fun s4 wr=>∃k:Nat,k≤hs.length∧s4 = .int .i64 (k:Int)∧(∀(j:Nat) xe,j<k→hs[j]?=some xe→(hv xe)=true)∧Below w5.heap.size w5 wr) (fun s4 _=>hs.length-(intOf s4).toNat)
  case atStart=>exact⟨0,Nat.zero_le _,rfl,(fun j xe hj=>by omega),Below.refl _ _⟩
  case round=>
   obtain⟨k,hk,rfl,hall,hbw⟩:=hrel
   have hv0:=V5.out.later hbw
   have v0:=hv0.cell (i:=0) rfl
   have v1:=hv0.cell (i:=1) rfl
   have v2:=hv0.cell (i:=2) rfl
   have v3:=hv0.cell (i:=3) rfl
   have v4:=hv0.cell (i:=4) rfl
   have hbb:=below_on B5.out hbw
   by_cases hlt:k<hs.length
   ·have hi0:(0:Int)≤(k:Int):=by omega
    have hi1:(k:Int)<(hs.length:Int):=by omega
    obtain⟨b,off,hA,hcs⟩:=(HQ.out wr hbb).h.at (fun e=>by rw[show hs=[] from e]at hlt;exact absurd hlt (Nat.not_lt_zero _))
    obtain⟨xe,hxx⟩:∃xe,hs.getD k Nt.zeroW=xe:=⟨_,rfl⟩
    have hx:hs[k]?=some xe:=by
     rw[←hxx,List.getD_eq_getElem?_getD,List.getElem?_eq_getElem hlt]
     rfl
    have hcx:=hcs k hlt
    dsimp only at hcx
    rw[hxx]at hcx
    have HE:=Hd hcx
    obtain⟨sd,hsd⟩:∃sd,hv xe=sd:=⟨_,rfl⟩
    have NC:=Hd (fun w' (hb:Below wr.heap.size wr w')=>show Calls Tryz.prog 58 #[.agg #[.slice K kn.length ck,.slice Z zs.length cz,.slice H hs.length ch,.slice B bs.length cb,.int .i64 room],.agg #[.int .i64 xe.1,.int .i64 xe.2.1,.int .i64 xe.2.2.1,.bool xe.2.2.2]] w' (Says (.bool sd) w') from by
     rw[←hsd]
     exact C5.out w' (below_on hbb hb) xe)
    have hpp:=HP2.out k xe hx
    rw[show(hv xe)=sd from hsd]at hpp
    have hqq:∀(j:Nat) y,j<k+1→hs[j]?=some y→sd=true→(hv y)=true:=fun j y hj hy h1=>by
     rcases Nat.lt_or_ge j k with h2|h2
     ·exact hall j y h2 hy
     ·obtain rfl:j=k:=by omega
      rw[hx]at hy
      injection hy with hy
      subst hy
      exact hsd.trans h1
    have HPP:=Hd hpp
    have HQQ:=Hd hqq
    have BW:=Hd hbw
    have BB:=Hd hbb
    subst hA
    clear hv0 hbb hbw hall hcs hcx hxx hsd hpp hqq hx
    cases sd with
    |true=>
     have HQ1:=Hd (fun j y h1 h2=>HQQ.out j y h1 h2 rfl)
     clear HQQ HPP
     go_upto_region 11 with (fail)
     refine wp_region_facts 7 (by kernel_rfl) (by kernel_rfl)
      (fun v=>{ tmps:=#[.agg #[.slice K kn.length ck,.slice Z zs.length cz,.slice (some ⟨b,off,none⟩) hs.length ch,.slice B bs.length cb,.int .i64 room],.pointer (some ⟨g,0,none⟩),u2,.int .i64 (zs.length:Int),.int .i64 (k:Int),undef,.pointer (some ⟨g,0,none⟩),.slice K kn.length ck,.bool true,.bool false,.bool false,.pointer (some ⟨g,1,none⟩),.slice Z zs.length cz,.bool true,.bool false,.bool false,.bool false,.pointer (some ⟨g,2,none⟩),.slice (some ⟨b,off,none⟩) hs.length ch,.bool true,.bool false,.bool false,.bool false,.pointer (some ⟨g,3,none⟩),.slice B bs.length cb,.pointer (some ⟨g,4,none⟩),.int .i64 room,.bool true,.bool false,.bool false,.int .i64 (zs.length:Int),.pointer (some ⟨g,1,none⟩),.slice Z zs.length cz,.int .i64 (zs.length:Int),.bool false,u35,u36,u37,u38,u39,u40,u41,u42,u43,u44,u45,u46,.int .i64 (k:Int),.pointer (some ⟨g,2,none⟩),.slice (some ⟨b,off,none⟩) hs.length ch,.int .i64 (hs.length:Int),.bool true,u52,u53,v 0,v 1,v 2,v 3,v 4,v 5,v 6,u61,undef,undef,undef,undef,undef,undef,undef,undef,undef,undef,undef,undef,undef,undef,undef],defers:=[] }) (fun i=>match i with|0=>u54|1=>u55|2=>u56|3=>u57|4=>u58|5=>u59|6=>u60|_=>undef)
      (fun i x wx=>match i with
       |0=>x = .agg #[.slice K kn.length ck,.slice Z zs.length cz,.slice (some ⟨b,off,none⟩) hs.length ch,.slice B bs.length cb,.int .i64 room]
       |1=>x = .pointer (some ⟨g,2,none⟩)
       |2=>x = .slice (some ⟨b,off,none⟩) hs.length ch
       |3=>x = .int .i64 (k:Int)
       |4=>x = .pointer (some ⟨b,off+k*4,none⟩)
       |5=>x = .agg #[.int .i64 xe.1,.int .i64 xe.2.1,.int .i64 xe.2.2.1,.bool xe.2.2.2]
       |6=>x = .bool true
       |_=>True)
      (fun w1 w2=>Below w1.heap.size w1 w2) (fun h1 h2=>below_on h1 h2) (fun _=>Below.refl _ _) (Below.drew (Below.refl _ _)) ?stabC ?stepC ?doneC
     case stabC=>
      rintro i x w1 w2 h hb
      match i,h with
      |0,h=>exact h
      |1,h=>exact h
      |2,h=>exact h
      |3,h=>exact h
      |4,h=>exact h
      |5,h=>exact h
      |6,h=>exact h
      |i+7,_=>trivial
     case stepC=>
      intro i hi v w' hb hd
      match i,hi with
      |0,_=>
       refine wpOp_oneH rfl fun KK HKK =>?_
       clear hd
       have q0:=cell_later hb v0
       have q1:=cell_later hb v1
       have q2:=cell_later hb v2
       have q3:=cell_later hb v3
       have q4:=cell_later hb v4
       go_wp2
       exact HKK.out _ _ ⟨_,(by simp[upd];done),Below.refl _ _,rfl⟩
      |1,_=>
       refine wpOp_oneH rfl fun KK HKK =>?_
       clear hd
       go_wp2
       exact HKK.out _ _ ⟨_,(by simp[upd];done),Below.refl _ _,rfl⟩
      |2,_=>
       have h1:v 1=_:=hdx hd 1 (by kernel_rfl)
       refine wpOp_oneH rfl fun KK HKK =>?_
       clear hd
       rw[h1]
       have q0:=cell_later hb v2
       go_wp2
       exact HKK.out _ _ ⟨_,(by simp[upd,h1];done),Below.refl _ _,rfl⟩
      |3,_=>
       refine wpOp_oneH rfl fun KK HKK =>?_
       clear hd
       go_wp2
       exact HKK.out _ _ ⟨_,(by simp[upd];done),Below.refl _ _,rfl⟩
      |4,_=>
       have h2:v 2=_:=hdx hd 2 (by kernel_rfl)
       have h3:v 3=_:=hdx hd 3 (by kernel_rfl)
       refine wpOp_oneH rfl fun KK HKK =>?_
       clear hd
       rw[h2,h3]
       go_wp2
       exact HKK.out _ _ ⟨_,(by simp[upd,h2,h3];done),Below.refl _ _,rfl⟩
      |5,_=>
       have h4:v 4=_:=hdx hd 4 (by kernel_rfl)
       refine wpOp_oneH rfl fun KK HKK =>?_
       clear hd
       rw[h4]
       have q0:=cell_later hb HE.out.1
       have q1:=cell_later hb HE.out.2.1
       have q2:=cell_later hb HE.out.2.2.1
       have q3:=cell_later hb HE.out.2.2.2
       go_wp2
       exact HKK.out _ _ ⟨_,(by simp[upd,h4];done),Below.refl _ _,rfl⟩
      |6,_=>
       have h0:v 0=_:=hdx hd 0 (by kernel_rfl)
       have h5:v 5=_:=hdx hd 5 (by kernel_rfl)
       refine wpOp_oneH rfl fun KK HKK =>?_
       clear hd
       rw[h0,h5]
       go_wp2_with fail
       refine(NC.out _ hb).mono ?_
       rintro e w'' ⟨rfl,b⟩
       go_wp2
       exact HKK.out _ _ ⟨_,(by simp[upd,h0,h5];done),b,rfl⟩
      |k+7,hk=>exact absurd hk (by omega)
     case doneC=>
      intro v w5 hb hf
      have h6:v 6=_:=hf 6 (by decide)
      clear hf
      rw[h6]
      have BW2:=Hd (below_on BW.out hb)
      clear hb NC HE
      go_wp2_with fail
      go_roundw
      case rel=>exact⟨k+1,by omega,by go_num,HQ1.out,BW2.out⟩
      case measure=>simp[intOf];omega
    |false=>
     obtain rfl:r2=false:=HPP.out rfl
     obtain rfl:t=false:=HT1.out.symm
     clear HQQ HPP
     go_upto_region 11 with (fail)
     refine wp_region_facts 7 (by kernel_rfl) (by kernel_rfl)
      (fun v=>{ tmps:=#[.agg #[.slice K kn.length ck,.slice Z zs.length cz,.slice (some ⟨b,off,none⟩) hs.length ch,.slice B bs.length cb,.int .i64 room],.pointer (some ⟨g,0,none⟩),u2,.int .i64 (zs.length:Int),.int .i64 (k:Int),undef,.pointer (some ⟨g,0,none⟩),.slice K kn.length ck,.bool true,.bool false,.bool false,.pointer (some ⟨g,1,none⟩),.slice Z zs.length cz,.bool true,.bool false,.bool false,.bool false,.pointer (some ⟨g,2,none⟩),.slice (some ⟨b,off,none⟩) hs.length ch,.bool true,.bool false,.bool false,.bool false,.pointer (some ⟨g,3,none⟩),.slice B bs.length cb,.pointer (some ⟨g,4,none⟩),.int .i64 room,.bool true,.bool false,.bool false,.int .i64 (zs.length:Int),.pointer (some ⟨g,1,none⟩),.slice Z zs.length cz,.int .i64 (zs.length:Int),.bool false,u35,u36,u37,u38,u39,u40,u41,u42,u43,u44,u45,u46,.int .i64 (k:Int),.pointer (some ⟨g,2,none⟩),.slice (some ⟨b,off,none⟩) hs.length ch,.int .i64 (hs.length:Int),.bool true,u52,u53,v 0,v 1,v 2,v 3,v 4,v 5,v 6,u61,undef,undef,undef,undef,undef,undef,undef,undef,undef,undef,undef,undef,undef,undef,undef],defers:=[] }) (fun i=>match i with|0=>u54|1=>u55|2=>u56|3=>u57|4=>u58|5=>u59|6=>u60|_=>undef)
      (fun i x wx=>match i with
       |0=>x = .agg #[.slice K kn.length ck,.slice Z zs.length cz,.slice (some ⟨b,off,none⟩) hs.length ch,.slice B bs.length cb,.int .i64 room]
       |1=>x = .pointer (some ⟨g,2,none⟩)
       |2=>x = .slice (some ⟨b,off,none⟩) hs.length ch
       |3=>x = .int .i64 (k:Int)
       |4=>x = .pointer (some ⟨b,off+k*4,none⟩)
       |5=>x = .agg #[.int .i64 xe.1,.int .i64 xe.2.1,.int .i64 xe.2.2.1,.bool xe.2.2.2]
       |6=>x = .bool false
       |_=>True)
      (fun w1 w2=>Below w1.heap.size w1 w2) (fun h1 h2=>below_on h1 h2) (fun _=>Below.refl _ _) (Below.drew (Below.refl _ _)) ?stabD ?stepD ?doneD
     case stabD=>
      rintro i x w1 w2 h hb
      match i,h with
      |0,h=>exact h
      |1,h=>exact h
      |2,h=>exact h
      |3,h=>exact h
      |4,h=>exact h
      |5,h=>exact h
      |6,h=>exact h
      |i+7,_=>trivial
     case stepD=>
      intro i hi v w' hb hd
      match i,hi with
      |0,_=>
       refine wpOp_oneH rfl fun KK HKK =>?_
       clear hd
       have q0:=cell_later hb v0
       have q1:=cell_later hb v1
       have q2:=cell_later hb v2
       have q3:=cell_later hb v3
       have q4:=cell_later hb v4
       go_wp2
       exact HKK.out _ _ ⟨_,(by simp[upd];done),Below.refl _ _,rfl⟩
      |1,_=>
       refine wpOp_oneH rfl fun KK HKK =>?_
       clear hd
       go_wp2
       exact HKK.out _ _ ⟨_,(by simp[upd];done),Below.refl _ _,rfl⟩
      |2,_=>
       have h1:v 1=_:=hdx hd 1 (by kernel_rfl)
       refine wpOp_oneH rfl fun KK HKK =>?_
       clear hd
       rw[h1]
       have q0:=cell_later hb v2
       go_wp2
       exact HKK.out _ _ ⟨_,(by simp[upd,h1];done),Below.refl _ _,rfl⟩
      |3,_=>
       refine wpOp_oneH rfl fun KK HKK =>?_
       clear hd
       go_wp2
       exact HKK.out _ _ ⟨_,(by simp[upd];done),Below.refl _ _,rfl⟩
      |4,_=>
       have h2:v 2=_:=hdx hd 2 (by kernel_rfl)
       have h3:v 3=_:=hdx hd 3 (by kernel_rfl)
       refine wpOp_oneH rfl fun KK HKK =>?_
       clear hd
       rw[h2,h3]
       go_wp2
       exact HKK.out _ _ ⟨_,(by simp[upd,h2,h3];done),Below.refl _ _,rfl⟩
      |5,_=>
       have h4:v 4=_:=hdx hd 4 (by kernel_rfl)
       refine wpOp_oneH rfl fun KK HKK =>?_
       clear hd
       rw[h4]
       have q0:=cell_later hb HE.out.1
       have q1:=cell_later hb HE.out.2.1
       have q2:=cell_later hb HE.out.2.2.1
       have q3:=cell_later hb HE.out.2.2.2
       go_wp2
       exact HKK.out _ _ ⟨_,(by simp[upd,h4];done),Below.refl _ _,rfl⟩
      |6,_=>
       have h0:v 0=_:=hdx hd 0 (by kernel_rfl)
       have h5:v 5=_:=hdx hd 5 (by kernel_rfl)
       refine wpOp_oneH rfl fun KK HKK =>?_
       clear hd
       rw[h0,h5]
       go_wp2_with fail
       refine(NC.out _ hb).mono ?_
       rintro e w'' ⟨rfl,b⟩
       go_wp2
       exact HKK.out _ _ ⟨_,(by simp[upd,h0,h5];done),b,rfl⟩
      |k+7,hk=>exact absurd hk (by omega)
     case doneD=>
      intro v w5 hb hf
      have h6:v 6=_:=hf 6 (by decide)
      clear hf
      rw[h6]
      have BB2:=Hd (below_on BB.out hb)
      clear hb NC HE
      go_wp2
      go_ret
      exact⟨rfl,BB2.out⟩
   obtain rfl:k=hs.length:=by omega
   have hd0:decide ((hs.length:Int)<(hs.length:Int))=false:=decide_eq_false (by omega)
   obtain rfl:r2=true:=HY2.out (fun j xe hx=>hall j xe (by have:=(List.getElem?_eq_some_iff.1 hx).1;omega) hx)
   have B6:=Hd hbb
   have V6:=Hd hv0
   have HT2:=Hd (show(r3)=t from HT1.out)
   clear HT1
   have HT1:=HT2
   clear HT2 hall hbw hbb hv0 B5 V5 HY2 HP2
   rename World=>w6
   go_wp2_with fail
   clear v0 v1 v2 v3 v4 hd0 hlt hk
   go_loopw [5] (fun s5 wr=>∃k:Nat,k≤bs.length∧s5 = .int .i64 (k:Int)∧(∀(j:Nat) xe,j<k→bs[j]?=some xe→(wa xe.b)=true)∧Below w6.heap.size w6 wr) (fun s5 _=>bs.length-(intOf s5).toNat)
   case atStart=>exact⟨0,Nat.zero_le _,rfl,(fun j xe hj=>by omega),Below.refl _ _⟩
   case round=>
    obtain⟨k,hk,rfl,hall,hbw⟩:=hrel
    have hv0:=V6.out.later hbw
    have v0:=hv0.cell (i:=0) rfl
    have v1:=hv0.cell (i:=1) rfl
    have v2:=hv0.cell (i:=2) rfl
    have v3:=hv0.cell (i:=3) rfl
    have v4:=hv0.cell (i:=4) rfl
    have hbb:=below_on B6.out hbw
    by_cases hlt:k<bs.length
    ·have hi0:(0:Int)≤(k:Int):=by omega
     have hi1:(k:Int)<(bs.length:Int):=by omega
     obtain⟨b,off,hA,hcs⟩:=(HQ.out wr hbb).b.at (fun e=>by rw[show bs=[] from e]at hlt;exact absurd hlt (Nat.not_lt_zero _))
     obtain⟨xe,hxx⟩:∃xe,bs.getD k Bc.zero=xe:=⟨_,rfl⟩
     have hx:bs[k]?=some xe:=by
      rw[←hxx,List.getD_eq_getElem?_getD,List.getElem?_eq_getElem hlt]
      rfl
     have hcx:=hcs k hlt
     dsimp only at hcx
     rw[hxx]at hcx
     have HE:=Hd hcx
     obtain⟨sd,hsd⟩:∃sd,wa xe.b=sd:=⟨_,rfl⟩
     have NC:=Hd (fun w' (hb:Below wr.heap.size wr w')=>show Calls Tryz.prog 59 #[.agg #[.slice K kn.length ck,.slice Z zs.length cz,.slice H hs.length ch,.slice B bs.length cb,.int .i64 room],.agg #[.int .i64 xe.b.o,.int .i64 xe.b.c,.int .i64 xe.b.n,.slice xe.X xe.b.v.length xe.d]] w' (Says (.bool sd) w') from by
      rw[←hsd]
      exact C6.out w' (below_on hbb hb) xe.X xe.d xe.b)
     have hpp:=HP3.out k xe hx
     rw[show(wa xe.b)=sd from hsd]at hpp
     have hqq:∀(j:Nat) y,j<k+1→bs[j]?=some y→sd=true→(wa y.b)=true:=fun j y hj hy h1=>by
      rcases Nat.lt_or_ge j k with h2|h2
      ·exact hall j y h2 hy
      ·obtain rfl:j=k:=by omega
       rw[hx]at hy
       injection hy with hy
       subst hy
       exact hsd.trans h1
     have HPP:=Hd hpp
     have HQQ:=Hd hqq
     have BW:=Hd hbw
     have BB:=Hd hbb
     subst hA
     clear hv0 hbb hbw hall hcs hcx hxx hsd hpp hqq hx
     cases sd with
     |true=>
      have HQ1:=Hd (fun j y h1 h2=>HQQ.out j y h1 h2 rfl)
      clear HQQ HPP
      go_upto_region 16 with (fail)
      refine wp_region_facts 7 (by kernel_rfl) (by kernel_rfl)
       (fun v=>{ tmps:=#[.agg #[.slice K kn.length ck,.slice Z zs.length cz,.slice H hs.length ch,.slice (some ⟨b,off,none⟩) bs.length cb,.int .i64 room],.pointer (some ⟨g,0,none⟩),u2,.int .i64 (zs.length:Int),.int .i64 (hs.length:Int),.int .i64 (k:Int),.pointer (some ⟨g,0,none⟩),.slice K kn.length ck,.bool true,.bool false,.bool false,.pointer (some ⟨g,1,none⟩),.slice Z zs.length cz,.bool true,.bool false,.bool false,.bool false,.pointer (some ⟨g,2,none⟩),.slice H hs.length ch,.bool true,.bool false,.bool false,.bool false,.pointer (some ⟨g,3,none⟩),.slice (some ⟨b,off,none⟩) bs.length cb,.pointer (some ⟨g,4,none⟩),.int .i64 room,.bool true,.bool false,.bool false,.int .i64 (zs.length:Int),.pointer (some ⟨g,1,none⟩),.slice Z zs.length cz,.int .i64 (zs.length:Int),.bool false,u35,u36,u37,u38,u39,u40,u41,u42,u43,u44,u45,u46,.int .i64 (hs.length:Int),.pointer (some ⟨g,2,none⟩),.slice H hs.length ch,.int .i64 (hs.length:Int),.bool false,u52,u53,u54,u55,u56,u57,u58,u59,u60,u61,.int .i64 (k:Int),.pointer (some ⟨g,3,none⟩),.slice (some ⟨b,off,none⟩) bs.length cb,.int .i64 (bs.length:Int),.bool true,u67,u68,v 0,v 1,v 2,v 3,v 4,v 5,v 6,u76],defers:=[] }) (fun i=>match i with|0=>u69|1=>u70|2=>u71|3=>u72|4=>u73|5=>u74|6=>u75|_=>undef)
       (fun i x wx=>match i with
        |0=>x = .agg #[.slice K kn.length ck,.slice Z zs.length cz,.slice H hs.length ch,.slice (some ⟨b,off,none⟩) bs.length cb,.int .i64 room]
        |1=>x = .pointer (some ⟨g,3,none⟩)
        |2=>x = .slice (some ⟨b,off,none⟩) bs.length cb
        |3=>x = .int .i64 (k:Int)
        |4=>x = .pointer (some ⟨b,off+k*4,none⟩)
        |5=>x = .agg #[.int .i64 xe.b.o,.int .i64 xe.b.c,.int .i64 xe.b.n,.slice xe.X xe.b.v.length xe.d]
        |6=>x = .bool true
        |_=>True)
       (fun w1 w2=>Below w1.heap.size w1 w2) (fun h1 h2=>below_on h1 h2) (fun _=>Below.refl _ _) (Below.drew (Below.refl _ _)) ?stabE ?stepE ?doneE
      case stabE=>
       rintro i x w1 w2 h hb
       match i,h with
       |0,h=>exact h
       |1,h=>exact h
       |2,h=>exact h
       |3,h=>exact h
       |4,h=>exact h
       |5,h=>exact h
       |6,h=>exact h
       |i+7,_=>trivial
      case stepE=>
       intro i hi v w' hb hd
       match i,hi with
       |0,_=>
        refine wpOp_oneH rfl fun KK HKK =>?_
        clear hd
        have q0:=cell_later hb v0
        have q1:=cell_later hb v1
        have q2:=cell_later hb v2
        have q3:=cell_later hb v3
        have q4:=cell_later hb v4
        go_wp2
        exact HKK.out _ _ ⟨_,(by simp[upd];done),Below.refl _ _,rfl⟩
       |1,_=>
        refine wpOp_oneH rfl fun KK HKK =>?_
        clear hd
        go_wp2
        exact HKK.out _ _ ⟨_,(by simp[upd];done),Below.refl _ _,rfl⟩
       |2,_=>
        have h1:v 1=_:=hdx hd 1 (by kernel_rfl)
        refine wpOp_oneH rfl fun KK HKK =>?_
        clear hd
        rw[h1]
        have q0:=cell_later hb v3
        go_wp2
        exact HKK.out _ _ ⟨_,(by simp[upd,h1];done),Below.refl _ _,rfl⟩
       |3,_=>
        refine wpOp_oneH rfl fun KK HKK =>?_
        clear hd
        go_wp2
        exact HKK.out _ _ ⟨_,(by simp[upd];done),Below.refl _ _,rfl⟩
       |4,_=>
        have h2:v 2=_:=hdx hd 2 (by kernel_rfl)
        have h3:v 3=_:=hdx hd 3 (by kernel_rfl)
        refine wpOp_oneH rfl fun KK HKK =>?_
        clear hd
        rw[h2,h3]
        go_wp2
        exact HKK.out _ _ ⟨_,(by simp[upd,h2,h3];done),Below.refl _ _,rfl⟩
       |5,_=>
        have h4:v 4=_:=hdx hd 4 (by kernel_rfl)
        refine wpOp_oneH rfl fun KK HKK =>?_
        clear hd
        rw[h4]
        have q0:=cell_later hb HE.out.1
        have q1:=cell_later hb HE.out.2.1
        have q2:=cell_later hb HE.out.2.2.1
        have q3:=cell_later hb HE.out.2.2.2
        go_wp2
        exact HKK.out _ _ ⟨_,(by simp[upd,h4];done),Below.refl _ _,rfl⟩
       |6,_=>
        have h0:v 0=_:=hdx hd 0 (by kernel_rfl)
        have h5:v 5=_:=hdx hd 5 (by kernel_rfl)
        refine wpOp_oneH rfl fun KK HKK =>?_
        clear hd
        rw[h0,h5]
        go_wp2_with fail
        refine(NC.out _ hb).mono ?_
        rintro e w'' ⟨rfl,b⟩
        go_wp2
        exact HKK.out _ _ ⟨_,(by simp[upd,h0,h5];done),b,rfl⟩
       |k+7,hk=>exact absurd hk (by omega)
      case doneE=>
       intro v w5 hb hf
       have h6:v 6=_:=hf 6 (by decide)
       clear hf
       rw[h6]
       have BW2:=Hd (below_on BW.out hb)
       clear hb NC HE
       go_wp2_with fail
       go_roundw
       case rel=>exact⟨k+1,by omega,by go_num,HQ1.out,BW2.out⟩
       case measure=>simp[intOf];omega
     |false=>
      obtain rfl:r3=false:=HPP.out rfl
      obtain rfl:t=false:=HT1.out.symm
      clear HQQ HPP
      go_upto_region 16 with (fail)
      refine wp_region_facts 7 (by kernel_rfl) (by kernel_rfl)
       (fun v=>{ tmps:=#[.agg #[.slice K kn.length ck,.slice Z zs.length cz,.slice H hs.length ch,.slice (some ⟨b,off,none⟩) bs.length cb,.int .i64 room],.pointer (some ⟨g,0,none⟩),u2,.int .i64 (zs.length:Int),.int .i64 (hs.length:Int),.int .i64 (k:Int),.pointer (some ⟨g,0,none⟩),.slice K kn.length ck,.bool true,.bool false,.bool false,.pointer (some ⟨g,1,none⟩),.slice Z zs.length cz,.bool true,.bool false,.bool false,.bool false,.pointer (some ⟨g,2,none⟩),.slice H hs.length ch,.bool true,.bool false,.bool false,.bool false,.pointer (some ⟨g,3,none⟩),.slice (some ⟨b,off,none⟩) bs.length cb,.pointer (some ⟨g,4,none⟩),.int .i64 room,.bool true,.bool false,.bool false,.int .i64 (zs.length:Int),.pointer (some ⟨g,1,none⟩),.slice Z zs.length cz,.int .i64 (zs.length:Int),.bool false,u35,u36,u37,u38,u39,u40,u41,u42,u43,u44,u45,u46,.int .i64 (hs.length:Int),.pointer (some ⟨g,2,none⟩),.slice H hs.length ch,.int .i64 (hs.length:Int),.bool false,u52,u53,u54,u55,u56,u57,u58,u59,u60,u61,.int .i64 (k:Int),.pointer (some ⟨g,3,none⟩),.slice (some ⟨b,off,none⟩) bs.length cb,.int .i64 (bs.length:Int),.bool true,u67,u68,v 0,v 1,v 2,v 3,v 4,v 5,v 6,u76],defers:=[] }) (fun i=>match i with|0=>u69|1=>u70|2=>u71|3=>u72|4=>u73|5=>u74|6=>u75|_=>undef)
       (fun i x wx=>match i with
        |0=>x = .agg #[.slice K kn.length ck,.slice Z zs.length cz,.slice H hs.length ch,.slice (some ⟨b,off,none⟩) bs.length cb,.int .i64 room]
        |1=>x = .pointer (some ⟨g,3,none⟩)
        |2=>x = .slice (some ⟨b,off,none⟩) bs.length cb
        |3=>x = .int .i64 (k:Int)
        |4=>x = .pointer (some ⟨b,off+k*4,none⟩)
        |5=>x = .agg #[.int .i64 xe.b.o,.int .i64 xe.b.c,.int .i64 xe.b.n,.slice xe.X xe.b.v.length xe.d]
        |6=>x = .bool false
        |_=>True)
       (fun w1 w2=>Below w1.heap.size w1 w2) (fun h1 h2=>below_on h1 h2) (fun _=>Below.refl _ _) (Below.drew (Below.refl _ _)) ?stabF ?stepF ?doneF
      case stabF=>
       rintro i x w1 w2 h hb
       match i,h with
       |0,h=>exact h
       |1,h=>exact h
       |2,h=>exact h
       |3,h=>exact h
       |4,h=>exact h
       |5,h=>exact h
       |6,h=>exact h
       |i+7,_=>trivial
      case stepF=>
       intro i hi v w' hb hd
       match i,hi with
       |0,_=>
        refine wpOp_oneH rfl fun KK HKK =>?_
        clear hd
        have q0:=cell_later hb v0
        have q1:=cell_later hb v1
        have q2:=cell_later hb v2
        have q3:=cell_later hb v3
        have q4:=cell_later hb v4
        go_wp2
        exact HKK.out _ _ ⟨_,(by simp[upd];done),Below.refl _ _,rfl⟩
       |1,_=>
        refine wpOp_oneH rfl fun KK HKK =>?_
        clear hd
        go_wp2
        exact HKK.out _ _ ⟨_,(by simp[upd];done),Below.refl _ _,rfl⟩
       |2,_=>
        have h1:v 1=_:=hdx hd 1 (by kernel_rfl)
        refine wpOp_oneH rfl fun KK HKK =>?_
        clear hd
        rw[h1]
        have q0:=cell_later hb v3
        go_wp2
        exact HKK.out _ _ ⟨_,(by simp[upd,h1];done),Below.refl _ _,rfl⟩
       |3,_=>
        refine wpOp_oneH rfl fun KK HKK =>?_
        clear hd
        go_wp2
        exact HKK.out _ _ ⟨_,(by simp[upd];done),Below.refl _ _,rfl⟩
       |4,_=>
        have h2:v 2=_:=hdx hd 2 (by kernel_rfl)
        have h3:v 3=_:=hdx hd 3 (by kernel_rfl)
        refine wpOp_oneH rfl fun KK HKK =>?_
        clear hd
        rw[h2,h3]
        go_wp2
        exact HKK.out _ _ ⟨_,(by simp[upd,h2,h3];done),Below.refl _ _,rfl⟩
       |5,_=>
        have h4:v 4=_:=hdx hd 4 (by kernel_rfl)
        refine wpOp_oneH rfl fun KK HKK =>?_
        clear hd
        rw[h4]
        have q0:=cell_later hb HE.out.1
        have q1:=cell_later hb HE.out.2.1
        have q2:=cell_later hb HE.out.2.2.1
        have q3:=cell_later hb HE.out.2.2.2
        go_wp2
        exact HKK.out _ _ ⟨_,(by simp[upd,h4];done),Below.refl _ _,rfl⟩
       |6,_=>
        have h0:v 0=_:=hdx hd 0 (by kernel_rfl)
        have h5:v 5=_:=hdx hd 5 (by kernel_rfl)
        refine wpOp_oneH rfl fun KK HKK =>?_
        clear hd
        rw[h0,h5]
        go_wp2_with fail
        refine(NC.out _ hb).mono ?_
        rintro e w'' ⟨rfl,b⟩
        go_wp2
        exact HKK.out _ _ ⟨_,(by simp[upd,h0,h5];done),b,rfl⟩
       |k+7,hk=>exact absurd hk (by omega)
      case doneF=>
       intro v w5 hb hf
       have h6:v 6=_:=hf 6 (by decide)
       clear hf
       rw[h6]
       have BB2:=Hd (below_on BB.out hb)
       clear hb NC HE
       go_wp2
       go_ret
       exact⟨rfl,BB2.out⟩
    obtain rfl:k=bs.length:=by omega
    have hd0:decide ((bs.length:Int)<(bs.length:Int))=false:=decide_eq_false (by omega)
    obtain rfl:r3=true:=HY3.out (fun j xe hx=>hall j xe (by have:=(List.getElem?_eq_some_iff.1 hx).1;omega) hx)
    obtain rfl:t=true:=HT1.out.symm
    have BB:=Hd hbb
    clear hall hbw hbb hv0
    go_wp2
    go_ret
    exact⟨rfl,BB.out⟩
end Go.Proofs.YtjlfehpockfkdaaGreat
namespace Go.Proofs.YtjlfehpockfkdaaGreat
open Go.RowKit
namespace Ve
def up:Int→List (Int × Int)→Prop
 |_,[]=>True
 |lo,s::r=>St.rgt s.1 s.2=true∧lo≤s.2∧up (s.2+1) r
theorem up_of:∀(l:List (Int × Int)) (lo:Int),fmTo l l.length→(∀s r,l=s::r→lo≤s.2)→up lo l
 | [],_,_,_=>trivial
 |s::r,lo,h,h0=>by
  refine⟨(h 0 (by simp)).1,h0 s r rfl,up_of r (s.2+1) (fun j hj =>?_) (fun t q e =>?_)⟩
  ·have h1:=h (j+1) (by simpa using hj)
   refine⟨by simpa using h1.1,fun hj0 =>?_⟩
   have h2:=h1.2 (by omega)
   obtain⟨i,rfl⟩:∃i,j=i+1:=⟨j-1,by omega⟩
   simpa using h2
  ·subst e
   have h1:=(h 1 (by simp)).2 (by omega)
   simp at h1
   omega
theorem up_less:∀(l:List (Int × Int)) (lo:Int),up lo l→∀n:Nat,(n:Int)<lo→cnt l n=0
 | [],_,_,_,_=>rfl
 |s::r,lo,h,n,hn=>by
  unfold cnt
  rw[if_neg (fun q=>by have:=h.2.1;have:=q.2;omega)]
  exact up_less r (s.2+1) h.2.2 n (by have:=h.2.1;omega)
theorem up_head{s:Int × Int}{r:List (Int × Int)}{lo:Int}(h:up lo (s::r)):∃n:Nat,n<64∧s.2=(n:Int)∧cnt (s::r) n=s.1∧1≤s.1:=by
 have h1:=h.1
 unfold St.rgt at h1
 have h2:=of_decide_eq_true h1
 refine⟨s.2.toNat,by omega,by omega,?_,h2.1⟩
 unfold cnt
 rw[if_pos ⟨h.1,by omega⟩]
theorem uniq:∀(l r:List (Int × Int)) (lo:Int),up lo l→up lo r→(∀n:Nat,n<64→cnt l n=cnt r n)→l=r
 | [],[],_,_,_,_=>rfl
 | [],t::r,lo,_,h2,hc=>by
  obtain⟨n,h3,h4,h5,h6⟩:=up_head h2
  have:=hc n h3
  rw[h5]at this
  have h7:cnt [] n=0:=rfl
  omega
 |s::l,[],lo,h1,_,hc=>by
  obtain⟨n,h3,h4,h5,h6⟩:=up_head h1
  have:=hc n h3
  rw[h5]at this
  have h7:cnt [] n=0:=rfl
  omega
 |s::l,t::r,lo,h1,h2,hc=>by
  obtain⟨n,a3,a4,a5,a6⟩:=up_head h1
  obtain⟨m,b3,b4,b5,b6⟩:=up_head h2
  have hnm:n=m:=by
   rcases Nat.lt_trichotomy n m with q|q|q
   ·have h3:=hc n a3
    rw[a5,up_less (t::r) t.2 ⟨h2.1,Int.le_refl _,h2.2.2⟩ n (by omega)]at h3
    omega
   ·exact q
   ·have h3:=hc m b3
    rw[b5,up_less (s::l) s.2 ⟨h1.1,Int.le_refl _,h1.2.2⟩ m (by omega)]at h3
    omega
  subst hnm
  have h3:=hc n a3
  rw[a5,b5]at h3
  have hst:s=t:=Prod.ext h3 (by omega)
  subst hst
  congr 1
  refine uniq l r (s.2+1) h1.2.2 h2.2.2 (fun i hi =>?_)
  by_cases e:s.2=(i:Int)
  ·rw[up_less l (s.2+1) h1.2.2 i (by omega),up_less r (s.2+1) h2.2.2 i (by omega)]
  ·have h4:=hc i hi
   unfold cnt at h4
   rw[if_neg (fun q=>e q.2),if_neg (fun q=>e q.2)]at h4
   exact h4
theorem up_fmd{l:List (Int × Int)}(h:fmd l=true):up 0 l:=up_of l 0 ((fmd_iff l).1 h) (fun s r e=>by
 subst e
 have h1:St.rgt s.1 s.2=true:=((fmd_iff (s::r)).1 h 0 (Nat.succ_pos _)).1
 unfold St.rgt at h1
 have:=of_decide_eq_true h1
 omega)
theorem self{l:List (Int × Int)}(h:fmd l=true):ofL (cnt l)=l:=by
 have hc:∀n:Nat,n<64→cnt (ofL (cnt l)) n=cnt l n:=fun n hn=>cnt_ofL (cnt l) (cnt_nonneg l) n hn
 have hf:fmd (ofL (cnt l))=true:=fmd_ofL (cnt l)
 generalize ofL (cnt l)=r at hc hf
 exact uniq r l 0 (up_fmd hf) (up_fmd h) hc
end Ve
namespace Tr
section
variable {zs:List Zn} {kn:List (Int × Int)} {n:Note}
theorem strd_twice(v:List (Int × Int))(n:Note)(o:Int):strd (strd v n o) n o=strd v n o:=by
 obtain⟨x,hx⟩:∃x,Ve.ofL (str (Ve.cnt v) (Ve.cnt n.s) (Ve.cnt n.e))=x:=⟨_,rfl⟩
 have hxx:Ve.ofL (str (Ve.cnt x) (Ve.cnt n.s) (Ve.cnt n.e))=x:=by
  rw[←hx]
  refine Ve.ofL_ext (fun i hi =>?_)
  have h1:=cnt_str v (Ve.cnt n.s) (Ve.cnt n.e) i hi
  unfold str at h1 ⊢
  rw[h1]
  (repeat' split)<;>omega
 have hv:strd v n o=if (Nt.at_ n.ws o).2=true∧hasOf x (Nt.at_ n.ws o).1.1 (Nt.at_ n.ws o).1.2.1=false then v else x:=by unfold strd;rw[hx]
 have hx2:strd x n o=x:=by unfold strd;rw[hxx];split<;>rfl
 rw[hv]
 split
 ·next h=>rw[hv,if_pos h]
 ·exact hx2
theorem strd_known{K:List (Int × Int)}(hK:Ve.fmd K=true)(he:Ve.cov (Ve.cnt K) (Ve.cnt n.e)=true)(o:Int):strd K n o=K:=by
 have hx:Ve.ofL (str (Ve.cnt K) (Ve.cnt n.s) (Ve.cnt n.e))=K:=by
  have h:=(Ve.cov_iff _ _).1 he
  refine Eq.trans (Ve.ofL_ext (fun i hi =>?_)) (Ve.self hK)
  have:=h i hi
  unfold str
  (repeat' split)<;>omega
 unfold strd
 rw[hx]
 split<;>rfl
theorem join_known{K:List (Int × Int)}(hK:Ve.fmd K=true){e:List (Int × Int)}(he:Ve.cov (Ve.cnt K) (Ve.cnt e)=true):Ve.joinL [K,e]=K:=by
 refine Eq.trans (Ve.ofL_ext (fun i hi =>?_)) (Ve.self hK)
 have:=(Ve.cov_iff _ _).1 he i hi
 rw[Ve.jn_two]
 split<;>omega
theorem zof_twice(hz:fmd zs=true)(hk:Ve.fmd kn=true){o:Nat}(ho:o<256):zof (mkTo (zof zs kn n) 256) (Ve.joinL [kn,n.e]) n o=zof zs kn n o:=by
 have hK:Ve.fmd (Ve.joinL [kn,n.e])=true:=Ve.fmd_joinL _
 have he:Ve.cov (Ve.cnt (Ve.joinL [kn,n.e])) (Ve.cnt n.e)=true:=Ve.cov_join_right kn n.e
 have hj:=join_known hK he
 have hr:=rch_taken (n:=n) hz hk ho
 have hs0:sho zs kn n o=if Sp.inL n.b o=true then rch zs kn (o:Int) else strd (rch zs kn (o:Int)) n (o:Int):=rfl
 rw[zof_eq (mkTo (zof zs kn n) 256),zof_eq zs,hj]
 by_cases hc:Ve.cov (Ve.cnt (sho zs kn n o)) (Ve.cnt (Ve.joinL [kn,n.e]))=true
 ·rw[if_pos hc]at hr ⊢
  have h1:sho (mkTo (zof zs kn n) 256) (Ve.joinL [kn,n.e]) n o=Ve.joinL [kn,n.e]:=by
   show(if Sp.inL n.b o=true then rch _ _ (o:Int) else strd (rch _ _ (o:Int)) n (o:Int))=_
   rw[hr,strd_known hK he]
   split<;>rfl
  rw[h1,if_pos (cov_self _)]
 ·rw[if_neg hc]at hr ⊢
  have h1:sho (mkTo (zof zs kn n) 256) (Ve.joinL [kn,n.e]) n o=sho zs kn n o:=by
   show(if Sp.inL n.b o=true then rch _ _ (o:Int) else strd (rch _ _ (o:Int)) n (o:Int))=_
   rw[hr,hs0]
   split
   ·rfl
   ·exact strd_twice _ _ _
  rw[h1,if_neg hc]
theorem take_twice(hz:fmd zs=true)(hk:Ve.fmd kn=true)(hn:Nt.fmd n=true)(hf:Ve.cov (Ve.cnt kn) (Ve.cnt n.s)=true):tkR (mkTo (zof zs kn n) 256) (Ve.joinL [kn,n.e]) n=(mkTo (zof zs kn n) 256,Ve.joinL [kn,n.e],0):=by
 have hK:Ve.fmd (Ve.joinL [kn,n.e])=true:=Ve.fmd_joinL _
 rw[take_yes (fmd_mk (zof_fmd hz hk n)) hK hn (cov_trans (Ve.cov_join_left kn n.e) hf),join_known hK (Ve.cov_join_right kn n.e),mkTo_ext 256 (fun o ho=>zof_twice hz hk ho)]
end
end Tr
namespace Vw
theorem z_each{zs:List Zn}(h:Tr.fmd zs=true){z:Zn}(hz:z∈zs):(0≤z.1∧z.1≤z.2.1∧z.2.1≤255)∧Ve.fmd z.2.2=true:=by
 obtain⟨j,hj,rfl⟩:=List.mem_iff_getElem.1 hz
 have h1:=(Tr.fmd_iff zs).1 h j hj
 unfold Tr.okAt at h1
 rw[List.getD_eq_getElem?_getD,List.getElem?_eq_getElem hj]at h1
 exact⟨h1.1,h1.2.1⟩
end Vw
end Go.Proofs.YtjlfehpockfkdaaGreat
namespace Go.Proofs.YtjlfehpockfkdaaGreat
open Go.RowKit Fb
theorem Vw.eq_is(x y:Vw):decide (x=y)=(decide (x.k=y.k)&&(decide (x.z=y.z)&&(decide (x.h=y.h)&&(decide (x.b=y.b)&&decide (x.r=y.r))))):=by
 cases x
 cases y
 simp[Bool.decide_and]
set_option maxRecDepth 100000 in
set_option maxHeartbeats 6400000 in
theorem vsame_any(q p:Vl)(w:World)(h:VwAt w q)(h2:VwAt w p):Calls Tryz.prog 17 #[.agg (vwCells q),.agg (vwCells p)] w (Says (.bool (decide (q.vw=p.vw))) w):=by
 obtain⟨t,ht⟩:∃t,decide (q.vw=p.vw)=t:=⟨_,rfl⟩
 rw[ht]
 rw[Vw.eq_is]at ht
 have c1:=fun wx (hb:Below w.heap.size w wx)=>rsame_any q.K p.K q.ck p.ck q.k p.k wx (h.later hb).k.len (h.later hb).k.stamps (h2.later hb).k.stamps
 have c2:=fun wx (hb:Below w.heap.size w wx)=>zsame_any q.Z p.Z q.cz p.cz q.z p.z wx (h.later hb).z (h2.later hb).z
 have c3:=fun wx (hb:Below w.heap.size w wx)=>nwrites_any q.H p.H q.ch p.ch q.h p.h wx (h.later hb).h (h2.later hb).h
 have c4:=fun wx (hb:Below w.heap.size w wx)=>csame_any q.B p.B q.cb p.cb q.b p.b wx (h.later hb).b (h2.later hb).b
 clear h h2
 obtain⟨b1,h1⟩:∃f,decide (q.k=p.k)=f:=⟨_,rfl⟩
 obtain⟨b2,h2⟩:∃f,decide (q.z.map Zc.zn=p.z.map Zc.zn)=f:=⟨_,rfl⟩
 obtain⟨b3,h3⟩:∃f,decide (q.h=p.h)=f:=⟨_,rfl⟩
 obtain⟨b4,h4⟩:∃f,decide (q.b.map Bc.b=p.b.map Bc.b)=f:=⟨_,rfl⟩
 obtain⟨b5,h5⟩:∃f,decide (q.r=p.r)=f:=⟨_,rfl⟩
 rw[h1]at c1
 rw[h2]at c2
 rw[h3]at c3
 rw[h4]at c4
 have HA:=Hd (show(b1&&(b2&&(b3&&(b4&&b5))))=t from by rw[←h1,←h2,←h3,←h4,←h5];exact ht)
 obtain⟨K,ck,kn,Z,cz,zs,H,ch,hs,B,cb,bs,room⟩:=q
 obtain⟨K',ck',kp,Z',cz',zp,H',ch',hp,B',cb',bp,room'⟩:=p
 unfold vwCells
 dsimp only at c1 c2 c3 c4 h5 ⊢
 have C1:=Hd c1
 have C2:=Hd c2
 have C3:=Hd c3
 have C4:=Hd c4
 have H5:=Hd h5
 clear c1 c2 c3 c4 ht h1 h2 h3 h4 h5
 have hb0:=below_new (below_new (Below.refl w.heap.size w) (.cells #[.slice K kn.length ck,.slice Z zs.length cz,.slice H hs.length ch,.slice B bs.length cb,.int .i64 room] 27)) (.cells #[.slice K' kp.length ck',.slice Z' zp.length cz',.slice H' hp.length ch',.slice B' bp.length cb',.int .i64 room'] 27)
 have hV:=(Blk.new w 27 #[.slice K kn.length ck,.slice Z zs.length cz,.slice H hs.length ch,.slice B bs.length cb,.int .i64 room]).alloc (.cells #[.slice K' kp.length ck',.slice Z' zp.length cz',.slice H' hp.length ch',.slice B' bp.length cb',.int .i64 room'] 27)
 have hP:=Blk.new (w.alloc (.cells #[.slice K kn.length ck,.slice Z zs.length cz,.slice H hs.length ch,.slice B bs.length cb,.int .i64 room] 27)) 27 #[.slice K' kp.length ck',.slice Z' zp.length cz',.slice H' hp.length ch',.slice B' bp.length cb',.int .i64 room']
 simp only[World.size_alloc]at hP
 obtain⟨W,hW⟩:∃W,(w.alloc (.cells #[.slice K kn.length ck,.slice Z zs.length cz,.slice H hs.length ch,.slice B bs.length cb,.int .i64 room] 27)).alloc (.cells #[.slice K' kp.length ck',.slice Z' zp.length cz',.slice H' hp.length ch',.slice B' bp.length cb',.int .i64 room'] 27)=W:=⟨_,rfl⟩
 rw[hW]at hb0 hV hP
 have HW:=Hd hW
 obtain⟨g,hgg⟩:∃g,w.heap.size=g:=⟨_,rfl⟩
 rw[hgg]at hV hP
 have HV:=Hd (show Blk W (g) 27 #[.slice K kn.length ck,.slice Z zs.length cz,.slice H hs.length ch,.slice B bs.length cb,.int .i64 room] from hV)
 have HP:=Hd (show Blk W (g+1) 27 #[.slice K' kp.length ck',.slice Z' zp.length cz',.slice H' hp.length ch',.slice B' bp.length cb',.int .i64 room'] from hP)
 have HB0:=Hd hb0
 clear hW hb0 hV hP
 go_enter Tryz.func17,Tryz.ntmps17
 go_upto_region 1 with (fail)
 rw[HW.out]
 clear HW
 have V_0:=HV.out.cell (i:=0) rfl
 have P_0:=HP.out.cell (i:=0) rfl
 go_wp2_with fail
 refine(C1.out _ HB0.out).mono ?_
 rintro e w1 ⟨rfl,b1⟩
 clear V_0 P_0
 replace HV:=Hd (HV.out.later b1)
 replace HP:=Hd (HP.out.later b1)
 have HB1:=Hd (below_on HB0.out b1)
 clear HB0
 clear b1 C1
 cases b1 with
 |false=>
  obtain rfl:=HA.out
  have HQ:=Hd HB1.out
  clear HA
  go_wp2
  go_ret
  exact⟨rfl,HQ.out⟩
 |true=>
 have V_1:=HV.out.cell (i:=1) rfl
 have P_1:=HP.out.cell (i:=1) rfl
 go_wp2_with fail
 refine(C2.out _ HB1.out).mono ?_
 rintro e w2 ⟨rfl,b2⟩
 clear V_1 P_1
 replace HV:=Hd (HV.out.later b2)
 replace HP:=Hd (HP.out.later b2)
 have HB2:=Hd (below_on HB1.out b2)
 clear HB1
 clear b2 C2
 cases b2 with
 |false=>
  obtain rfl:=HA.out
  have HQ:=Hd HB2.out
  clear HA
  go_wp2
  go_ret
  exact⟨rfl,HQ.out⟩
 |true=>
 have V_2:=HV.out.cell (i:=2) rfl
 have P_2:=HP.out.cell (i:=2) rfl
 go_wp2_with fail
 refine(C3.out _ HB2.out).mono ?_
 rintro e w3 ⟨rfl,b3⟩
 clear V_2 P_2
 replace HV:=Hd (HV.out.later b3)
 replace HP:=Hd (HP.out.later b3)
 have HB3:=Hd (below_on HB2.out b3)
 clear HB2
 clear b3 C3
 cases b3 with
 |false=>
  obtain rfl:=HA.out
  have HQ:=Hd HB3.out
  clear HA
  go_wp2
  go_ret
  exact⟨rfl,HQ.out⟩
 |true=>
 have V_3:=HV.out.cell (i:=3) rfl
 have P_3:=HP.out.cell (i:=3) rfl
 go_wp2_with fail
 refine(C4.out _ HB3.out).mono ?_
 rintro e w4 ⟨rfl,b4⟩
 clear V_3 P_3
 replace HV:=Hd (HV.out.later b4)
 replace HP:=Hd (HP.out.later b4)
 have HB4:=Hd (below_on HB3.out b4)
 clear HB3
 clear b4 C4
 cases b4 with
 |false=>
  obtain rfl:=HA.out
  have HQ:=Hd HB4.out
  clear HA
  go_wp2
  go_ret
  exact⟨rfl,HQ.out⟩
 |true=>
 have V_4:=HV.out.cell (i:=4) rfl
 have P_4:=HP.out.cell (i:=4) rfl
 cases b5 with
 |false=>
  have d9:(room == room')=false:=beq_eq_false_iff_ne.2 (of_decide_eq_false H5.out)
  clear H5
  obtain rfl:=HA.out
  have HQ:=Hd HB4.out
  clear HA
  go_wp2
  go_ret
  exact⟨rfl,HQ.out⟩
 |true=>
  have d9:(room == room')=true:=beq_iff_eq.2 (of_decide_eq_true H5.out)
  clear H5
  obtain rfl:=HA.out
  have HQ:=Hd HB4.out
  clear HA
  go_wp2
  go_ret
  exact⟨rfl,HQ.out⟩
theorem rest_is(f:Nat→Bool):Sp.lessS [(0,255)] (Sp.ofL f)=Sp.ofL (fun o =>!f o):=by
 unfold Sp.lessS
 refine Sp.ofL_ext (fun o ho =>?_)
 have h1:Sp.inL [(0,255)] o=true:=by simp[Sp.inL];omega
 rw[h1,Sp.inL_ofL f o ho,Bool.true_and]
end Go.Proofs.YtjlfehpockfkdaaGreat
namespace Go.Proofs.YtjlfehpockfkdaaGreat
open Go.RowKit
section
variable {w w':World}
theorem Mild.refl(w:World):Mild w w:=⟨Nat.le_refl _,fun _ _ =>.inl rfl⟩
theorem Mild.row{g:Nat}{t:TypeId}{cs:Array Value}(hB:Blk w g t cs)(hd:dull cs=true)(cs':Array Value):Mild w (w.setRow g cs'):=
 ⟨by simp,fun k hk=>by
  by_cases e:k=g
  ·subst e;exact .inr ⟨cs,t,(0,0),hB,hd⟩
  ·exact .inl (setRow_other _ _ _ _ e)⟩
end
def flatC(cs:Array Value):Bool:=cs.toList.all fun u =>!intAt u && !byteAt u
theorem flat_dullL:∀{l:List Value},(l.all fun u =>!intAt u && !byteAt u)=true→dullL l=true
 | [],_=>rfl
 |x::r,h=>by
  simp only[List.all_cons,Bool.and_eq_true,Bool.not_eq_true']at h
  simp only[dullL,h.1.1,h.1.2,Bool.false_and,Bool.not_false,Bool.true_and]
  exact flat_dullL (by simpa using h.2)
theorem flat_dull{cs:Array Value}(h:flatC cs=true):dull cs=true:=flat_dullL h
theorem flat_of{cs:Array Value}(h:∀u∈cs.toList,intAt u=false∧byteAt u=false):flatC cs=true:=by
 unfold flatC
 rw[List.all_eq_true]
 intro u hu
 rw[(h u hu).1,(h u hu).2]
 rfl
theorem flat_mem{cs:Array Value}(h:flatC cs=true):∀u∈cs.toList,intAt u=false∧byteAt u=false:=by
 intro u hu
 have:=List.all_eq_true.1 h u hu
 simpa using this
def FlatV(w:World)(v:Value):Prop:=∀g n c,v = .slice (some ⟨g,0,none⟩) n c→∃cs t fr,w.heap[g]?=some (.cells cs t fr)∧flatC cs=true
theorem FlatV.later{w w':World}{v:Value}(h:FlatV w v)(hb:Below w.heap.size w w'):FlatV w' v:=fun g n c e=>by
 obtain⟨cs,t,fr,h1,h2⟩:=h g n c e
 exact⟨cs,t,fr,(hb.block g (Array.getElem?_eq_some_iff.1 h1).1).trans h1,h2⟩
theorem mem_zeroCells{z:Array Value}{n:Nat}{u:Value}(h:u∈(Builtin.zeroCells z n).toList):u∈z.toList:=by
 unfold Builtin.zeroCells at h
 simp at h
 obtain⟨j,hj,rfl⟩:=h
 have h0:0<z.size:=by
  rcases Nat.eq_zero_or_pos z.size with e|e
  ·rw[e]at hj;omega
  ·exact e
 have hs:j % z.size<z.size:=Nat.mod_lt _ h0
 rw[getElem!_pos z _ hs]
 exact Array.mem_toList_iff.2 (Array.getElem_mem hs)
theorem run_append_flat{P:Program}(w:World)(base:Nat)(t ty e:TypeId)(i:TypeInfo)(z:Value)(size bytes:Nat)(ht:P.underlying t=some (.slice e))(hi:P.info? e=some i)(hz:i.zero=some z)
  (hsize:i.size=size)(hby:i.bytes=bytes)(hzs:z.cells.size=size)(hsz:0<size)(hzf:flatC z.cells=true)
  (v:Value)(n:Nat)(xs:List Value)(hown:w.ownsRow base e size v n xs)(hf:FlatV w v)
  (A:Option Addr)(m c:Nat)(hA:A=none→m=0∧c=0)(news:List Value)(hl:news.length=m*size)(hr:Lies w A news)(h1:∀u∈news,u.oneCell'=true)(hnf:∀u∈news,intAt u=false∧byteAt u=false)(hxf:∀u∈xs,intAt u=false∧byteAt u=false)
  (h63:n+m≤maxLen)(hbytes:(n+m)*bytes≤140737488355328)(hbase:base≤w.heap.size) :
  ∃v' w',(Builtin.append_ #[t,t] ty #[v,.slice A m c]).run P w = .ok v' w'∧w'.ownsRow base e size v' (n+m) (xs++news)∧w.grownBy w' v.ownBlock∧FlatV w' v'∧Mild w w':=by
 obtain⟨v',w',hrun,h2,h3,-⟩:=run_append_lies (P:=P) w base t ty e i z size bytes ht hi hz hsize hby hzs hsz v n xs hown A m c hA news hl hr h1 h63 hbytes hbase
 refine⟨v',w',hrun,h2,h3,?_⟩
 cases A with
 |none=>
  obtain⟨rfl,rfl⟩:=hA rfl
  have hr2:=run_append_owned_none (P:=P) (w:=w) base t ty e i size ht hi v n xs hown
  rw[hr2]at hrun
  injection hrun with e1 e2
  subst e1 e2
  exact⟨hf,Mild.refl _⟩
 |some ad=>
  have hcells:∀j u,news[j]?=some u→w.cell? (ad.add j)=some u:=by
   intro j u hu
   obtain⟨b,off,hab,hc⟩:=hr (fun h=>by subst h;simp at hu)
   injection hab with hab
   subst hab
   rw[Go.WideShapes.add_plain]
   exact hc j u hu
  subst hsize
  subst hby
  have hfit63:n+m≤9223372036854775807:=by simp only[maxLen]at h63;omega
  rcases hown.2 with ⟨rfl,rfl⟩|⟨g,cap,cur,rfl,hbg,hg,hnc,hcm,hcs,htake⟩
  ·have hx:xs=[]:=List.eq_nil_of_length_eq_zero (by simpa using hown.1)
   subst hx
   by_cases hm:m=0
   ·subst hm
    have hn:news=[]:=List.eq_nil_of_length_eq_zero (by simpa using hl)
    subst hn
    have hr2:(Builtin.append_ #[t,t] ty #[.slice none 0 0,.slice (some ad) 0 c]).run P w = .ok (.slice none 0 0) w:=by
     simp[Builtin.append_,run_underlying ht,sizeOf,typeInfo,hi,Builtin.lenOf,Builtin.firstCells,loadCells,loadCellsFrom]
    rw[hr2]at hrun
    injection hrun with e1 e2
    subst e1 e2
    exact⟨hf,Mild.refl _⟩
   ·have hr2:=run_append_nil (P:=P) w t ty e i z ht hi hz ad m c news hl hcells (by omega) (by omega) (by have hb:=hbytes;simp only[Nat.zero_add]at hb;omega)
    rw[hr2]at hrun
    injection hrun with e1 e2
    subst e1 e2
    refine⟨fun g n' c' e =>?_,Mild.below ((Below.drew (Below.refl _ _)).alloc (Nat.le_refl _) _)⟩
    injection e with e1
    injection e1 with e1
    injection e1 with e1 e2
    subst e1
    refine⟨_,_,_,heap_alloc_new w.drew _,flat_of (fun u hu =>?_)⟩
    simp only[Array.toList_append,List.mem_append]at hu
    rcases hu with hu|hu
    ·exact hnf u hu
    ·exact flat_mem hzf u (mem_zeroCells hu)
  ·by_cases hroom:n+m≤cap
   ·have hfit:n*i.size+news.length≤cur.size:=by rw[hl,hcs,←Nat.add_mul];exact Nat.mul_le_mul_right _ hroom
    have hr2:=run_append_room (P:=P) w t ty e i ht hi g n cap cur hg ad m c news hl hcells h1 hroom hfit
    rw[hr2]at hrun
    injection hrun with e1 e2
    subst e1 e2
    obtain⟨cs0,t0,fr0,hg0,hfl⟩:=hf g n cap rfl
    rw[hg]at hg0
    injection hg0 with hg0
    injection hg0 with q1 q2 q3
    subst q1
    refine⟨fun g' n' c' e =>?_,Mild.row (t:=e) (cs:=cur) hg (flat_dull hfl) _⟩
    injection e with e1
    injection e1 with e1
    injection e1 with e1 e2
    subst e1
    refine⟨_,_,_,setRow_heap w g cur _ e _ hg,flat_of (fun u hu =>?_)⟩
    simp only[List.mem_append]at hu
    rcases hu with (hu|hu)|hu
    ·exact flat_mem hfl u (List.mem_of_mem_take hu)
    ·exact hnf u hu
    ·exact flat_mem hfl u (List.mem_of_mem_drop hu)
   ·have holds:∀j u,xs[j]?=some u→w.cell? ((⟨g,0,none⟩:Addr).add j)=some u:=hown.cells (g:=g) rfl
    have hr2:=run_append_grow (P:=P) w t ty e i z ht hi hz ⟨g,0,none⟩ n cap xs hown.1 holds ad m c news hl hcells (by omega) (by omega) (growslice_fits (by omega) hbytes)
    rw[hr2]at hrun
    injection hrun with e1 e2
    subst e1 e2
    refine⟨fun g' n' c' e =>?_,Mild.below ((Below.drew (Below.refl _ _)).alloc (Nat.le_refl _) _)⟩
    injection e with e1
    injection e1 with e1
    injection e1 with e1 e2
    subst e1
    refine⟨_,_,_,heap_alloc_new w.drew _,flat_of (fun u hu =>?_)⟩
    simp only[Array.toList_append,List.mem_append]at hu
    rcases hu with (hu|hu)|hu
    ·exact hxf u hu
    ·exact hnf u hu
    ·exact flat_mem hzf u (mem_zeroCells hu)
theorem wpList_append_flat{P:Program}(w:World){ops:Array Oper}{rest:List Oper}{o:Oper}{a:Act}{Q:Exit→Act→World→Prop}(hgd:o.guard=none)(s x:Operand)(t:TypeId)
  (ho:o.op = .call { callee :=.builtin .append,args:=#[s,x],argTypes:=#[t,t] })
  (base:Nat)(e:TypeId)(i:TypeInfo)(z:Value)(size bytes:Nat)(ht:P.underlying t=some (.slice e))(hi:P.info? e=some i)(hz:i.zero=some z)
  (hsize:i.size=size)(hby:i.bytes=bytes)(hzs:z.cells.size=size)(hsz:0<size)(hzf:flatC z.cells=true)
  (v:Value)(n:Nat)(xs:List Value)(hs:a.eval s=v)(hown:w.ownsRow base e size v n xs)(hf:FlatV w v)
  (A:Option Addr)(m c:Nat)(hA:A=none→m=0∧c=0)(news:List Value)(hx:a.eval x = .slice A m c)(hl:news.length=m*size)(hr:Lies w A news)(h1:∀u∈news,u.oneCell'=true)(hnf:∀u∈news,intAt u=false∧byteAt u=false)(hxf:∀u∈xs,intAt u=false∧byteAt u=false)
  (h63:n+m≤maxLen)(hbytes:(n+m)*bytes≤140737488355328)(hbase:base≤w.heap.size)
  (h:∀v' w',w'.ownsRow base e size v' (n+m) (xs++news)→w.grownBy w' v.ownBlock→FlatV w' v'→Mild w w'→wpList P ops Q rest (a.put o.dst v') w') :
  wpList P ops Q (o::rest) a w:=by
 refine wpList_plain hgd fun K hK =>?_
 obtain⟨v',w',hrun,h2,h3,h4,h5⟩:=run_append_flat (P:=P) w base t o.type e i z size bytes ht hi hz hsize hby hzs hsz hzf v n xs hown hf A m c hA news hl hr h1 hnf hxf h63 hbytes hbase
 unfold Oper.wp execOp
 simp only[ho,resolve,invoke,builtin,Sem.run_bind,Sem.run_pure,Result.andThen_ok,List.map_toArray,List.map_cons,List.map_nil,hs,hx,hrun]
 exact hK _ _ (h v' w' h2 h3 h4 h5)
def zeroN:Note:=⟨[],[],[],[]⟩
structure OneN (w:World) (A:Option Addr) (c:Nat) (l:List Note):Prop where
 le:l.length≤c
 cap:c≤maxLen
 noA:A=none→l.length=0∧c=0
 lies:l≠[]→∃b off,A=some ⟨b,off,none⟩∧∀k,k<l.length→∃S E B V cs ce cb cv,
  w.cell? ⟨b,off+k*4,none⟩=some (.slice S (l.getD k zeroN).s.length cs)∧w.cell? ⟨b,off+k*4+1,none⟩=some (.slice E (l.getD k zeroN).e.length ce) ∧
  w.cell? ⟨b,off+k*4+2,none⟩=some (.slice B (l.getD k zeroN).b.length cb)∧w.cell? ⟨b,off+k*4+3,none⟩=some (.slice V (l.getD k zeroN).ws.length cv)∧NoteAt w S E B V cs ce cb cv (l.getD k zeroN)
section
variable {w w':World} {A:Option Addr} {c:Nat} {l:List Note}
theorem OneN.later(h:OneN w A c l)(hb:Below w.heap.size w w'):OneN w' A c l:=by
 refine⟨h.le,h.cap,h.noA,fun hne =>?_⟩
 obtain⟨b,off,hA,hc⟩:=h.lies hne
 refine⟨b,off,hA,fun k hk =>?_⟩
 obtain⟨S,E,B,V,cs,ce,cb,cv,h0,h1,h2,h3,h4⟩:=hc k hk
 exact⟨S,E,B,V,cs,ce,cb,cv,cell_later hb h0,cell_later hb h1,cell_later hb h2,cell_later hb h3,h4.later hb⟩
theorem OneN.nil(w:World):OneN w none 0 []:=⟨Nat.le_refl _,Nat.zero_le _,fun _=>⟨rfl,rfl⟩,fun h=>absurd rfl h⟩
theorem OneN.len(h:OneN w A c l):l.length≤9223372036854775807:=by
 have h1:=h.le
 have h2:=h.cap
 unfold maxLen at h2
 omega
end
structure Nl where
 S:Option Addr
 E:Option Addr
 B:Option Addr
 V:Option Addr
 cs:Nat
 ce:Nat
 cb:Nat
 cv:Nat
 n:Note
namespace Nl
def cell(z:Nl):List Value:=[.slice z.S z.n.s.length z.cs,.slice z.E z.n.e.length z.ce,.slice z.B z.n.b.length z.cb,.slice z.V z.n.ws.length z.cv]
def cells(L:List Nl):List Value:=L.flatMap cell
def zero:Nl:=⟨none,none,none,none,0,0,0,0,zeroN⟩
theorem cells_append(L R:List Nl):cells (L++R)=cells L++cells R:=by unfold cells;rw[List.flatMap_append]
theorem cells_flat(L:List Nl):∀u∈cells L,intAt u=false∧byteAt u=false:=by
 intro u hu
 obtain⟨x,_,hx⟩:=List.mem_flatMap.1 hu
 simp[cell]at hx
 rcases hx with rfl|rfl|rfl|rfl<;>exact⟨rfl,rfl⟩
theorem cells_nil{L:List Nl}:cells L=[]↔L=[]:=by cases L<;>simp[cells,cell]
theorem cells_get(L:List Nl):∀(k:Nat) (x:Nl),L[k]?=some x→(cells L)[k*4]?=some (.slice x.S x.n.s.length x.cs)∧(cells L)[k*4+1]?=some (.slice x.E x.n.e.length x.ce)∧(cells L)[k*4+2]?=some (.slice x.B x.n.b.length x.cb)∧(cells L)[k*4+3]?=some (.slice x.V x.n.ws.length x.cv):=by
 induction L with
 |nil=>intro k x h;simp at h
 |cons f r ih=>
  intro k x h
  cases k with
  |zero=>
   simp at h
   subst h
   exact⟨rfl,rfl,rfl,rfl⟩
  |succ k=>
   have:=ih k x (by simpa using h)
   rw[show(k+1)*4=k*4+4 from by omega]
   simpa[cells,cell] using this
end Nl
def Nl.At(w:World)(z:Nl):Prop:=NoteAt w z.S z.E z.B z.V z.cs z.ce z.cb z.cv z.n
structure OwnNs (w:World) (base:Nat) (t:TypeId) (v:Value) (L:List Nl):Prop where
 row:w.ownsRow base t 4 v L.length (Nl.cells L)
 flat:FlatV w v
 each:∀z∈L,z.At w
section
variable {w w':World} {base:Nat} {t:TypeId} {v:Value} {L:List Nl}
theorem OwnNs.later(h:OwnNs w base t v L)(hb:Below w.heap.size w w'):OwnNs w' base t v L:=⟨own_later h.row hb,h.flat.later hb,fun z hz=>NoteAt.later (h.each z hz) hb⟩
theorem OwnNs.one(h:OwnNs w base t v L):∃A c,v = .slice A L.length c∧OneN w A c (L.map Nl.n):=by
 obtain⟨A,c,rfl,h1,h2,h3,h4⟩:=own_form h.row
 refine⟨A,c,rfl,⟨by rw[List.length_map];exact h1,h2,fun e=>by rw[List.length_map];exact h3 e,fun hne =>?_⟩⟩
 obtain⟨b,off,hA,hc⟩:=h4 (fun e=>hne (by rw[Nl.cells_nil.1 e];rfl))
 refine⟨b,off,hA,fun k hk =>?_⟩
 rw[List.length_map]at hk
 obtain⟨x,hx⟩:∃x,L[k]?=some x:=⟨_,List.getElem?_eq_getElem hk⟩
 obtain⟨e0,e1,e2,e3⟩:=Nl.cells_get L k x hx
 have hg:(L.map Nl.n).getD k zeroN=x.n:=by rw[List.getD_eq_getElem?_getD,List.getElem?_map,hx];rfl
 rw[hg]
 exact⟨x.S,x.E,x.B,x.V,x.cs,x.ce,x.cb,x.cv,hc _ _ e0,by rw[Nat.add_assoc];exact hc _ _ e1,by rw[Nat.add_assoc];exact hc _ _ e2,by rw[Nat.add_assoc];exact hc _ _ e3,h.each x (List.mem_of_getElem? hx)⟩
theorem own_other{size n g:Nat}{e:TypeId}{xs:List Value}{u:Value}{cs:Array Value}(h:w.ownsRow base e size u n xs)(hB:Blk w g t cs)(hne:t≠e):∀k,u.ownBlock=some k→k≠g:=fun k hk ek=>by
 subst ek
 rcases h.2 with ⟨rfl,_⟩|⟨g2,cap,cur,rfl,_,hg,_⟩
 ·simp[Value.ownBlock]at hk
 ·simp[Value.ownBlock]at hk
  subst hk
  have:=hg.symm.trans hB
  injection this with this
  injection this with _ h2
  exact hne h2.symm
end
end Go.Proofs.YtjlfehpockfkdaaGreat
namespace Go.Proofs.YtjlfehpockfkdaaGreat
open Go.RowKit Fb
def GivesNE(l:List Note)(k:Int)(w:World)(e:Ending)(w':World):Prop:=∃(A:Option Addr) (c:Nat),e = .returned (.tuple #[.slice A l.length c,.int .i64 k])∧OneN w' A c l∧(∀b off,A=some ⟨b,off,none⟩→w.heap.size≤b)∧Below w.heap.size w w'
theorem infoNt44:(Tryz.prog.info? 40).map (fun i=>(i.zero,i.size,i.bytes))=some (some (.agg #[.slice none 0 0,.slice none 0 0,.slice none 0 0,.slice none 0 0]),4,96):=by kernel_rfl
namespace Vw
theorem like_iff(v:Vw)(it:List (Int × Int))(o p:Nat):like v it o p=true↔Sp.inL it p=true∧isB v p=true∧Tr.rch v.z v.k (p:Int)=Tr.rch v.z v.k (o:Int):=by
 unfold like
 simp
theorem first_iff(v:Vw)(it:List (Int × Int))(o:Nat):first v it o=true↔Sp.inL it o=true∧isB v o=true∧∀p,p<o→like v it o p=false:=by
 unfold first
 simp
end Vw
structure ViewSum:Prop extends ViewSpec where
 sum:∀(q:Vl) (I:Option Addr) (ci:Nat) (it:List (Int × Int)) (w:World),VwAt w q→OneL w I ci it→Calls Tryz.prog 30 #[.agg (vwCells q),.slice I it.length ci] w (GivesNE (Vw.sumR q.vw it).1 (Vw.sumR q.vw it).2 w)
end Go.Proofs.YtjlfehpockfkdaaGreat
namespace Go.Proofs.YtjlfehpockfkdaaGreat
open Go.RowKit
namespace Vd
def zAt(zs:List Zn)(i:Nat):Zn:=zs.getD i (0,0,[])
def spAt(zs:List Zn)(i:Nat):Int × Int:=((zAt zs i).1,(zAt zs i).2.1)
def vecAt(zs:List Zn)(i:Nat):List (Int × Int):=(zAt zs i).2.2
def tch(zs:List Zn)(it:List (Int × Int))(i:Nat):Bool:=Sp.touch (Sp.inL it) (Sp.inL [spAt zs i])
def told1(zs:List Zn)(it:List (Int × Int))(k p:Nat):Bool:=(List.range k).any fun i=>tch zs it i&&decide (vecAt zs i=vecAt zs p)
def em(zs:List Zn)(it:List (Int × Int))(i:Nat):Bool:=tch zs it i && !told1 zs it i i
def alikeTo(zs:List Zn)(i p:Nat):List (Int × Int):=((List.range p).filter fun j=>decide (vecAt zs j=vecAt zs i)).map (spAt zs)
def obj(zs:List Zn)(it:List (Int × Int))(i:Nat):Nat→Bool:=fun o=>Sp.inL it o&&Sp.inL (alikeTo zs i zs.length) o
def outTo(v:Vw)(it:List (Int × Int))(k:Nat):List Note:=((List.range k).filter (em v.z it)).map fun i=>Vw.part v (vecAt v.z i) (obj v.z it i)
theorem told_succ(zs:List Zn)(it:List (Int × Int))(k p:Nat):told1 zs it (k+1) p=(told1 zs it k p||(tch zs it k&&decide (vecAt zs k=vecAt zs p))):=by
 unfold told1
 rw[List.range_succ,List.any_append]
 simp
theorem out_succ(v:Vw)(it:List (Int × Int))(k:Nat):outTo v it (k+1)=outTo v it k++(if em v.z it k=true then [Vw.part v (vecAt v.z k) (obj v.z it k)] else []):=by
 unfold outTo
 rw[List.range_succ,List.filter_append,List.map_append,List.filter_cons]
 split<;>rfl
theorem alike_succ(zs:List Zn)(i p:Nat):alikeTo zs i (p+1)=alikeTo zs i p++(if vecAt zs p=vecAt zs i then [spAt zs p] else []):=by
 unfold alikeTo
 rw[List.range_succ,List.filter_append,List.map_append,List.filter_cons]
 by_cases h:vecAt zs p=vecAt zs i<;>simp[h]
theorem alike_len(zs:List Zn)(i p:Nat):(alikeTo zs i p).length≤p:=by
 unfold alikeTo
 rw[List.length_map]
 exact Nat.le_trans (List.length_filter_le _ _) (by rw[List.length_range];exact Nat.le_refl _)
theorem out_len(v:Vw)(it:List (Int × Int))(k:Nat):(outTo v it k).length≤k:=by
 unfold outTo
 rw[List.length_map]
 exact Nat.le_trans (List.length_filter_le _ _) (by rw[List.length_range];exact Nat.le_refl _)
section
variable {zs:List Zn} (hz:Tr.fmd zs=true)
include hz
theorem z_ok{i:Nat}(hi:i<zs.length):0≤(zAt zs i).1∧(zAt zs i).1≤(zAt zs i).2.1∧(zAt zs i).2.1≤255:=((Tr.fmd_iff zs).1 hz i hi).1
theorem z_up(i:Nat):∀d,i+d+1<zs.length→(zAt zs i).2.1<(zAt zs (i+d+1)).1
 |0,h=>by
  have:=(((Tr.fmd_iff zs).1 hz (i+1) h).2.2 (by omega)).1
  exact this
 |d+1,h=>by
  have h1:=z_up i d (by omega)
  have h2:=z_ok hz (i:=i+d+1) (by omega)
  have h3:=(((Tr.fmd_iff zs).1 hz (i+d+1+1) h).2.2 (by omega)).1
  have h3:(zAt zs (i+d+1)).2.1<(zAt zs (i+d+1+1)).1:=h3
  rw[show i+(d+1)+1=i+d+1+1 from by omega]
  omega
theorem z_lt{i j:Nat}(hij:i<j)(hj:j<zs.length):(zAt zs i).2.1<(zAt zs j).1:=by
 have:=z_up hz i (j-i-1) (by omega)
 rwa [show i+(j-i-1)+1=j from by omega]at this
theorem at_of{i p:Nat}(hi:i<zs.length)(h:Tr.holds (zAt zs i) (p:Int)=true):Tr.at_ zs (p:Int)=some (vecAt zs i):=by
 have h0:=of_decide_eq_true h
 rcases Tr.at_ways zs (p:Int) with ⟨-,-,h1⟩|⟨k,h1,-,h2,h3,h4⟩
 ·have:=h1 i hi
  rw[show zs.getD i (0,0,[])=zAt zs i from rfl,h]at this
  cases this
 ·have h3':=of_decide_eq_true (show Tr.holds (zAt zs k) (p:Int)=true from h3)
  rcases Nat.lt_trichotomy k i with hk|hk|hk
  ·have:=z_lt hz hk hi
   omega
  ·subst hk
   exact h2
  ·have:=h4 i hk
   rw[show zs.getD i (0,0,[])=zAt zs i from rfl,h]at this
   cases this
end
theorem of_at{zs:List Zn}{p:Nat}{x:List (Int × Int)}(h:Tr.at_ zs (p:Int)=some x):∃i,i<zs.length∧Tr.holds (zAt zs i) (p:Int)=true∧vecAt zs i=x:=by
 rcases Tr.at_ways zs (p:Int) with ⟨-,h1,-⟩|⟨k,h1,-,h2,h3,-⟩
 ·rw[h]at h1;cases h1
 ·rw[h]at h2
  injection h2 with h2
  exact⟨k,h1,h3,h2.symm⟩
theorem in_alike(zs:List Zn)(i p o:Nat):Sp.inL (alikeTo zs i p) o=true↔∃j,j<p∧vecAt zs j=vecAt zs i∧Tr.holds (zAt zs j) (o:Int)=true:=by
 rw[Sp.inL_iff]
 unfold alikeTo
 constructor
 ·rintro ⟨s,h1,h2⟩
  obtain⟨j,h3,rfl⟩:=List.mem_map.1 h1
  obtain⟨h4,h5⟩:=List.mem_filter.1 h3
  exact⟨j,List.mem_range.1 h4,of_decide_eq_true h5,decide_eq_true h2⟩
 ·rintro ⟨j,h1,h2,h3⟩
  exact⟨_,List.mem_map.2 ⟨j,List.mem_filter.2 ⟨List.mem_range.2 h1,decide_eq_true h2⟩,rfl⟩,of_decide_eq_true h3⟩
theorem obj_like{v:Vw}(hz:Tr.fmd v.z=true){it:List (Int × Int)}{i o:Nat}(hi:i<v.z.length)(ho:Tr.holds (zAt v.z i) (o:Int)=true)(p:Nat):obj v.z it i p=Vw.like v it o p:=by
 have hr:Tr.rch v.z v.k (o:Int)=vecAt v.z i:=by unfold Tr.rch;rw[at_of hz hi ho];rfl
 unfold obj Vw.like
 rw[hr]
 cases Sp.inL it p with
 |false=>rfl
 |true=>
  rw[Bool.true_and,Bool.true_and]
  cases hb:Sp.inL (alikeTo v.z i v.z.length) p with
  |true=>
   obtain⟨j,h1,h2,h3⟩:=(in_alike v.z i v.z.length p).1 hb
   have h4:=at_of hz h1 h3
   unfold Vw.isB Tr.rch
   rw[h4]
   simp[h2]
  |false=>
   cases ha:Tr.at_ v.z (p:Int) with
   |none=>unfold Vw.isB;rw[ha];rfl
   |some x=>
    obtain⟨j,h1,h2,h3⟩:=of_at ha
    unfold Vw.isB Tr.rch
    rw[ha]
    by_cases hx:x=vecAt v.z i
    ·have:=(in_alike v.z i v.z.length p).2 ⟨j,h1,h3.trans hx,h2⟩
     rw[hb]at this
     cases this
    ·simp[hx]
theorem part_ext{v:Vw}(hh:Sf.fmd v.h=true)(reach:List (Int × Int)){f g:Nat→Bool}(h:∀o,o<256→f o=g o):Vw.part v reach f=Vw.part v reach g:=by
 have h1:Sp.ofL (fun o =>!f o)=Sp.ofL (fun o =>!g o):=Sp.ofL_ext (fun o ho=>by rw[h o ho])
 have h2:(v.h.filter fun x=>f x.2.2.1.toNat)=v.h.filter fun x=>g x.2.2.1.toNat:=List.filter_congr fun y hy=>by
  have:=(Sf.right_iff y).1 (((Sf.fmd_list v.h).1 hh).1 y hy)
  exact h _ (by omega)
 unfold Vw.part
 rw[h1,h2]
def fst(zs:List Zn)(it:List (Int × Int))(i:Nat):Nat:=((List.range 256).find? fun p=>Sp.inL it p&&Tr.holds (zAt zs i) (p:Int)).getD 0
theorem fst_spec{zs:List Zn}{it:List (Int × Int)}{i:Nat}(h:tch zs it i=true) :
  fst zs it i<256∧Sp.inL it (fst zs it i)=true∧Tr.holds (zAt zs i) (fst zs it i:Int)=true∧∀q,q<fst zs it i→Sp.inL it q=true→Tr.holds (zAt zs i) (q:Int)=false:=by
 obtain⟨o,ho,h1,h2⟩:=(Sp.touch_iff _ _).1 h
 have h3:Tr.holds (zAt zs i) (o:Int)=true:=by
  rw[Sp.inL_iff]at h2
  obtain⟨s,hs,h4⟩:=h2
  rw[List.mem_singleton]at hs
  subst hs
  exact decide_eq_true h4
 unfold fst
 cases hf:(List.range 256).find? (fun p=>Sp.inL it p&&Tr.holds (zAt zs i) (p:Int)) with
 |none=>
  rw[List.find?_eq_none]at hf
  have:=hf o (List.mem_range.2 ho)
  rw[h1,h3]at this
  exact absurd rfl this
 |some p=>
  obtain⟨a1,k,hk,a2,a3⟩:=List.find?_eq_some_iff_getElem.1 hf
  rw[List.getElem_range]at a2
  subst a2
  rw[Bool.and_eq_true]at a1
  rw[List.length_range]at hk
  refine⟨hk,a1.1,a1.2,fun q hq hi =>?_⟩
  have:=a3 q hq
  rw[List.getElem_range,hi,Bool.true_and]at this
  simpa using this
theorem sorted_ext:∀(l r:List Nat),l.Pairwise (· < ·)→r.Pairwise (· < ·)→(∀x,x∈l↔x∈r)→l=r
 | [],[],_,_,_=>rfl
 | [],b::r,_,_,h=>absurd ((h b).2 List.mem_cons_self) (by simp)
 |a::l,[],_,_,h=>absurd ((h a).1 List.mem_cons_self) (by simp)
 |a::l,b::r,hl,hr,h=>by
  have hl2:=List.pairwise_cons.1 hl
  have hr2:=List.pairwise_cons.1 hr
  have hab:a=b:=by
   rcases List.mem_cons.1 ((h a).1 List.mem_cons_self) with e|e
   ·exact e
   ·rcases List.mem_cons.1 ((h b).2 List.mem_cons_self) with e2|e2
    ·exact e2.symm
    ·have:=hl2.1 b e2
     have:=hr2.1 a e
     omega
  subst hab
  congr 1
  refine sorted_ext l r hl2.2 hr2.2 fun x=>⟨fun hx =>?_,fun hx =>?_⟩
  ·rcases List.mem_cons.1 ((h x).1 (List.mem_cons_of_mem _ hx)) with e|e
   ·have:=hl2.1 x hx
    omega
   ·exact e
  ·rcases List.mem_cons.1 ((h x).2 (List.mem_cons_of_mem _ hx)) with e|e
   ·have:=hr2.1 x hx
    omega
   ·exact e
theorem told_iff(zs:List Zn)(it:List (Int × Int))(k p:Nat):told1 zs it k p=true↔∃i,i<k∧tch zs it i=true∧vecAt zs i=vecAt zs p:=by
 unfold told1
 rw[List.any_eq_true]
 constructor
 ·rintro ⟨i,h1,h2⟩
  rw[Bool.and_eq_true]at h2
  exact⟨i,List.mem_range.1 h1,h2.1,of_decide_eq_true h2.2⟩
 ·rintro ⟨i,h1,h2,h3⟩
  exact⟨i,List.mem_range.2 h1,by rw[h2,decide_eq_true h3];rfl⟩
theorem em_iff(zs:List Zn)(it:List (Int × Int))(i:Nat):em zs it i=true↔tch zs it i=true∧∀j,j<i→tch zs it j=true→vecAt zs j≠vecAt zs i:=by
 unfold em
 rw[Bool.and_eq_true]
 refine and_congr_right fun _ =>?_
 cases ht:told1 zs it i i with
 |true=>
  obtain⟨j,h1,h2,h3⟩:=(told_iff zs it i i).1 ht
  exact⟨(fun h=>by cases h),fun h=>absurd h3 (h j h1 h2)⟩
 |false=>exact⟨(fun _ j h1 h2 h3=>by rw[(told_iff zs it i i).2 ⟨j,h1,h2,h3⟩]at ht;cases ht),fun _=>rfl⟩
theorem tch_of{zs:List Zn}{it:List (Int × Int)}{i o:Nat}(ho:o<256)(h1:Sp.inL it o=true)(h2:Tr.holds (zAt zs i) (o:Int)=true):tch zs it i=true:=
 (Sp.touch_iff _ _).2 ⟨o,ho,h1,(Sp.inL_iff _ _).2 ⟨_,List.mem_singleton.2 rfl,of_decide_eq_true h2⟩⟩
theorem fst_list{v:Vw}(hz:Tr.fmd v.z=true)(it:List (Int × Int)):(List.range 256).filter (Vw.first v it)=((List.range v.z.length).filter (em v.z it)).map (fst v.z it):=by
 refine sorted_ext _ _ (List.pairwise_lt_range.filter _) ?_ fun p =>?_
 ·rw[List.pairwise_map]
  refine(List.pairwise_lt_range.filter _).imp_of_mem fun {i j} hi hj hij =>?_
  obtain⟨i1,i2⟩:=List.mem_filter.1 hi
  obtain⟨j1,j2⟩:=List.mem_filter.1 hj
  obtain⟨-,-,a,-⟩:=fst_spec ((em_iff _ _ _).1 i2).1
  obtain⟨-,-,b,-⟩:=fst_spec ((em_iff _ _ _).1 j2).1
  have a:=of_decide_eq_true a
  have b:=of_decide_eq_true b
  have:=z_lt hz hij (List.mem_range.1 j1)
  omega
 ·rw[List.mem_filter,List.mem_range,Vw.first_iff,List.mem_map]
  constructor
  ·rintro ⟨hp,h1,h2,h3⟩
   obtain⟨x,hx⟩:∃x,Tr.at_ v.z (p:Int)=some x:=Option.isSome_iff_exists.1 h2
   obtain⟨i,hi,hh,hv⟩:=of_at hx
   have ht:=tch_of hp h1 hh
   have hl:=fun q=>obj_like hz (it:=it) hi hh q
   obtain⟨f1,f2,f3,f4⟩:=fst_spec ht
   have hfp:fst v.z it i=p:=by
    rcases Nat.lt_trichotomy (fst v.z it i) p with h|h|h
    ·have:=h3 _ h
     rw[←hl]at this
     have h5:obj v.z it i (fst v.z it i)=true:=by
      unfold obj
      rw[f2,(in_alike v.z i v.z.length _).2 ⟨i,hi,rfl,f3⟩]
      rfl
     rw[h5]at this
     cases this
    ·exact h
    ·have:=f4 p h h1
     rw[hh]at this
     cases this
   refine⟨i,List.mem_filter.2 ⟨List.mem_range.2 hi,(em_iff _ _ _).2 ⟨ht,fun j hj hjt hjv =>?_⟩⟩,hfp⟩
   obtain⟨g1,g2,g3,-⟩:=fst_spec hjt
   have hlt:=z_lt hz hj hi
   have q1:=of_decide_eq_true g3
   have q2:=of_decide_eq_true hh
   have:=h3 (fst v.z it j) (by omega)
   rw[←hl]at this
   have h5:obj v.z it i (fst v.z it j)=true:=by
    unfold obj
    rw[g2,(in_alike v.z i v.z.length _).2 ⟨j,by omega,hjv,g3⟩]
    rfl
   rw[h5]at this
   cases this
  ·rintro ⟨i,hi,rfl⟩
   obtain⟨i1,i2⟩:=List.mem_filter.1 hi
   have i1:=List.mem_range.1 i1
   obtain⟨ht,hn⟩:=(em_iff _ _ _).1 i2
   obtain⟨f1,f2,f3,f4⟩:=fst_spec ht
   refine⟨f1,f2,by unfold Vw.isB;rw[at_of hz i1 f3];rfl,fun q hq =>?_⟩
   rw[←obj_like hz (it:=it) i1 f3 q]
   cases ho:obj v.z it i q with
   |false=>rfl
   |true=>
    exfalso
    unfold obj at ho
    rw[Bool.and_eq_true]at ho
    obtain⟨j,j1,j2,j3⟩:=(in_alike v.z i v.z.length q).1 ho.2
    rcases Nat.lt_trichotomy j i with h|h|h
    ·exact hn j h (tch_of (by omega) ho.1 j3) j2
    ·subst h
     have:=f4 q hq ho.1
     rw[j3]at this
     cases this
    ·have h1:=z_lt hz h j1
     have q1:=of_decide_eq_true f3
     have q2:=of_decide_eq_true j3
     omega
theorem sum_zones{v:Vw}(hf:Vw.fmd v=true)(it:List (Int × Int)):(Vw.sumR v it)=(Vw.part v v.k (fun o=>Sp.inL it o && !Vw.isB v o)::outTo v it v.z.length,0):=by
 obtain⟨-,hz,hh,-⟩:=Vw.fmd_all hf
 unfold Vw.sumR
 rw[if_pos hf,fst_list hz it,List.map_map]
 unfold outTo
 congr 2
 refine List.map_congr_left fun i hi =>?_
 obtain⟨i1,i2⟩:=List.mem_filter.1 hi
 have i1:=List.mem_range.1 i1
 obtain⟨f1,f2,f3,-⟩:=fst_spec ((em_iff _ _ _).1 i2).1
 have hr:Tr.rch v.z v.k (fst v.z it i:Int)=vecAt v.z i:=by unfold Tr.rch;rw[at_of hz i1 f3];rfl
 show Vw.part v (Tr.rch v.z v.k (fst v.z it i:Int)) (Vw.like v it (fst v.z it i))=_
 rw[hr]
 exact part_ext hh _ fun o _=>(obj_like hz i1 f3 o).symm
end Vd
end Go.Proofs.YtjlfehpockfkdaaGreat
namespace Go.Proofs.YtjlfehpockfkdaaGreat
open Go.RowKit Go.Shelf Fb
attribute [local go_sem] Oper.semAt_some
set_option maxRecDepth 100000 in
set_option maxHeartbeats 3200000 in
theorem spless_any(A B:Option Addr)(c d:Nat)(l r:List (Int × Int))(w:World)(h1:OneL w A c l)(h2:OneL w B d r) :
  Calls Tryz.prog 92 #[.slice A l.length c,.slice B r.length d] w (GivesS (Sp.lessS l r) w):=by
 have n0:=fun t=>setOf_one h1 t
 have n1:=fun wx (hx:OneL wx B d r)=>spAll_any B d r wx hx
 have hsq:=fun n₀ B bc dc D wx hx h1 h2=>walkO_stops (Sp.inL r) n₀ B bc dc D wx hx h1 h2
 have hall:=Sp.hasF_all (Sp.inL r)
 unfold Sp.lessS
 obtain⟨J,hJ⟩:∃J,Sp.comesO Sp.objF (Sp.inL r) 256=J:=⟨_,rfl⟩
 obtain⟨L,hL⟩:∃L,Sp.ofL (Sp.inL r)=L:=⟨_,rfl⟩
 obtain⟨f,hf⟩:∃f,Sp.inL l=f:=⟨_,rfl⟩
 obtain⟨g,hg⟩:∃g,Sp.inL r=g:=⟨_,rfl⟩
 rw[hJ]at hsq hall
 rw[hL]at n1 hsq
 rw[hg]at hall ⊢
 rw[hf]at n0 ⊢
 have SQ:=Hd hsq
 have N0:=Hd n0
 have N1:=Hd n1
 have H2:=Hd h2
 have HALL:=Hd hall
 clear n0 n1 h1 h2 hJ hL hf hg hsq hall
 refine(callsIn_wide (n:=3)).1 ?_
 refine callsIn_of_wp_marks Tryz.func92 rfl trivial ?_ rfl
 simp only[Tryz.ntmps92,List.size_toArray,List.length_cons,List.length_nil,Nat.reduceAdd,Nat.reduceSub,Array.replicate_succ,Array.replicate_zero,List.push_toArray,List.append_toArray,List.nil_append,List.cons_append]
 gi_wp2_with fail
 refine⟨trivial,(callsIn_wide.2 (N0.out _)).mono ?_⟩
 rintro e w1 ⟨rfl,b1⟩
 have E5:=Blk.new w1 178 (Sp.arr fun _=>false)
 have F5:=E5.row (Sp.arr f)
 have b3:=below_setRow (below_new b1 (.cells (Sp.arr fun _=>false) 178)) b1.size (Sp.arr f)
 have z3:((w1.alloc (.cells (Sp.arr fun _=>false) 178)).setRow w1.heap.size (Sp.arr f)).heap.size=w1.heap.size+1:=by simp
 rw[←set_zero]at E5
 gi_wp2_with (refine in_store_row rfl 178 _ _ rfl w1.heap.size _ rfl rfl 178 _ E5 (by rw[Sp.arr_size];exact infoSet) (by rw[set_zero,Sp.arr_size,Sp.arr_size]) (one_marks _) ?_)
 rw[set_zero]
 obtain⟨W3,hW3⟩:∃W3,(w1.alloc (.cells (Sp.arr fun _=>false) 178)).setRow w1.heap.size (Sp.arr f)=W3:=⟨_,rfl⟩
 rw[hW3]at F5 b3 z3 ⊢
 have hz1:=b1.size
 clear hW3 E5 N0
 refine⟨trivial,(callsIn_wide.2 (N1.out _ (H2.out.later b3))).mono ?_⟩
 rintro e w4 ⟨bc,D,dc,rfl,hc,hfar,b4⟩
 have bb4:=below_on b3 b4
 have G5:=F5.later b4
 have z4:=b4.size
 clear F5 N1 H2
 gi_wp2_with fail
 refine wpIn_rangeFunc_ownF rfl (by omega) (gf:=172) (lb:=#[.pointer (some ⟨bc,0,none⟩)]) rfl trivial enters_eachO (SQ.out w.heap.size W3.heap.size bc dc D w4 b4.size hc hfar) KeepC.trans (fun W l' o o' _ h1 h2 _=>KeepC.mark W l' o o' h1 h2) (Below.refl _ _) (fun _=>rfl)
  (fun pre W=>Blk W w1.heap.size 178 (Sp.arr fun j=>f j && !Sp.hasF pre j)∧Below w.heap.size w W)
  (fun _ _ _=>False) ?hI (fun _ _ _ _ _ h _ _=>h) ⟨G5.marks_same (fun i _=>by show f i=(f i && !false);cases f i<;>rfl),bb4⟩
  (fun x=>{ tmps:=#[.slice A l.length c,.slice B r.length d,undef,undef,.slice none 0 0,.pointer (some ⟨w1.heap.size,0,none⟩),.int .i64 (x.val:Int),.slice A l.length c,.slice (some ⟨w.heap.size,0,none⟩) 1 1,.agg (Sp.arr f),.slice B r.length d,.func (.func 172) #[] #[.pointer (some ⟨bc,0,none⟩)],.int .i64 (x.val:Int),undef,undef,undef,undef],defers:=[] }) ?assign ?body ?done ?stop
 case hI=>exact OwnFrom.and (Own.from (blk_own _ _ fun pre=>Sp.arr fun j=>f j && !Sp.hasF pre j) _) (ownFrom_below (Nat.le_refl _) bb4.size)
 case assign=>
  intro l' x W K hK
  unfold tellO
  gi_wp2
  exact hK
 case body=>
  rintro l' pre x W ⟨hB5,hBw⟩ _
  have c2:=hB5.marks_cell x.val x.isLt
  have c3:=hB5.free x.val
  have hx0:(0:Int)≤(x.val:Int):=by omega
  have hx1:(x.val:Int)<256:=by have:=x.isLt;omega
  have hst:∀i,i<256→(if i=x.val then false else (f i && !Sp.hasF pre i))=(f i && !Sp.hasF (pre++[x]) i):=fun i _=>by
   rw[Sp.hasF_snoc]
   by_cases hi:i=x.val
   ·rw[if_pos hi,decide_eq_true hi.symm,Bool.or_true,Bool.not_true,Bool.and_false]
   ·rw[if_neg hi,decide_eq_false (fun h=>hi h.symm),Bool.or_false]
  have B5:=(hB5.marks_put x.val x.isLt false).marks_same hst
  have hbs:=hBw.setCell (p:=⟨w1.heap.size,x.val,none⟩) hz1 (.bool false)
  have HB5:=Hd B5
  clear hst hB5 B5
  gi_wp2
  exact⟨KeepsOthers.setCell _ _ _,KeepC.set _ _ _ hz1 (by show w1.heap.size<W3.heap.size;omega),HB5.out,hbs⟩
 case done=>
  rintro DD ys W hD hys ⟨hB5,hBw⟩ hK
  rw[hys]at hB5
  have hN2:=hB5.marks_same (f':=fun j=>f j && !g j) (fun i hi=>by rw[HALL.out i hi])
  have hDl:=(Array.getElem?_eq_some_iff.1 hK).1
  have HN:=Hd hN2
  clear hB5 hN2 G5
  gi_wp2_with (refine in_load_row rfl 178 _ rfl w1.heap.size rfl 178 _ _ HN.out Tryz.underlying178 rfl (by rw[Sp.arr_size];exact infoSet) ?_)
  refine⟨trivial,(callsIn_wide.2 (spans_any _ _)).mono ?_⟩
  rintro e w5 ⟨v,rfl,ho,b5⟩
  have hK5:=(b5.block DD hDl).trans hK
  have hb5:=below_on hBw b5
  have HO:=Hd ho
  clear ho HN
  gi_wp2
  refine⟨by simp,.inl ⟨_,_,rfl,run_takeDeferred hK5,?_⟩⟩
  exact⟨_,results_tmp rfl _ _ _,v,rfl,ownsRow_putObj (own_base HO.out hBw.size) _ hK5 rfl,hb5.trans (belowK_b (w:=w) (Nat.le_refl _) w5 DD _ _ (by have:=bb4.size;omega) hK5 rfl rfl)⟩
 case stop=>
  rintro DD c pre W _ _ h _
  exact h.elim
set_option maxHeartbeats 800000 in
theorem sptouch_any(A B:Option Addr)(c d:Nat)(l r:List (Int × Int))(w:World)(h1:OneL w A c l)(h2:OneL w B d r) :
  Calls Tryz.prog 93 #[.slice A l.length c,.slice B r.length d] w (Says (.bool (Sp.touch (Sp.inL l) (Sp.inL r))) w):=by
 have n1:=spmeet_any A B c d l r w h1 h2
 have ht:Sp.touch (Sp.inL l) (Sp.inL r)=decide (0<(Sp.meetS l r).length):=Sp.touch_ref _ _
 have hlen:(Sp.meetS l r).length≤128:=Sp.ofL_len _
 rw[ht]
 obtain⟨M,hM⟩:∃M,Sp.meetS l r=M:=⟨_,rfl⟩
 rw[hM]at n1 hlen ⊢
 have N1:=Hd n1
 clear n1 h1 h2 ht hM
 go_enter Tryz.func93,Tryz.ntmps93
 go_wp2_with fail
 refine N1.out.mono ?_
 rintro e w1 ⟨v,rfl,ho,b1⟩
 obtain⟨D,dc,rfl,_⟩:=own_far ho
 clear ho N1
 go_wp2
 go_ret
 exact⟨by simp,b1⟩
end Go.Proofs.YtjlfehpockfkdaaGreat
namespace Go.Proofs.YtjlfehpockfkdaaGreat
open Go.RowKit Go.Shelf Fb
attribute [local go_sem] Oper.semAt_some
structure Vd.Stay (p:Nat) (w1 X:World):Prop where
 size:w1.heap.size≤X.heap.size
 same:∀k,k<w1.heap.size→k≠p→X.heap[k]?=w1.heap[k]?
namespace Vd
variable {p:Nat} {w1 X Y:World}
theorem Stay.refl(p:Nat)(w1:World):Stay p w1 w1:=⟨Nat.le_refl _,fun _ _ _=>rfl⟩
theorem Stay.later(h:Stay p w1 X)(hb:Below X.heap.size X Y):Stay p w1 Y:=⟨Nat.le_trans h.size hb.size,fun k hk hp=>(hb.block k (Nat.lt_of_lt_of_le hk h.size)).trans (h.same k hk hp)⟩
theorem Stay.set(h:Stay p w1 X)(i:Nat)(v:Value):Stay p w1 (X.setCell ⟨p,i,none⟩ v):=⟨Nat.le_trans h.size (KeepsOthers.setCell X _ v).size,fun k hk hp=>(Below.heap_setCell X ⟨p,i,none⟩ v k hp).trans (h.same k hk hp)⟩
theorem Stay.grown(h:Stay p w1 X){row:Option Nat}(hg:X.grownBy Y row)(hr:∀r,row=some r→w1.heap.size≤r):Stay p w1 Y:=⟨Nat.le_trans h.size hg.size,fun k hk hp=>(hg.block k (Nat.lt_of_lt_of_le hk h.size) (fun e=>by have:=hr k e.symm;omega)).trans (h.same k hk hp)⟩
theorem Stay.own{β:Type}{B:Nat}(hB:w1.heap.size≤B):OwnFrom B (fun (_:β) X=>Stay p w1 X):=fun _ _ _ _ h hg hr=>h.grown hg (fun r e=>Nat.le_trans hB (hr r e).1)
theorem Stay.blk(h:Stay p w1 X){k:Nat}{t:TypeId}{cs:Array Value}(hB:Blk w1 k t cs)(hk:k≠p):Blk X k t cs:=(h.same k hB.lt hk).trans hB
theorem Stay.cell(h:Stay p w1 X){a:Addr}{v:Value}(hc:w1.cell? a=some v)(ha:a.block≠p):X.cell? a=some v:=by
 obtain⟨o,ho,-⟩:=cells_of_cell hc
 exact(World.cell?_of_block (h.same _ (Array.getElem?_eq_some_iff.1 ho).1 ha)).trans hc
theorem Stay.oneW(h:Stay p w1 X){A:Option Addr}{c:Nat}{l:List Wr}(hl:OneW w1 A c l)(hA:∀b off,l≠[]→A=some ⟨b,off,none⟩→b≠p):OneW X A c l:=
 ⟨hl.1,hl.2.1,hl.2.2.1,fun hne=>by
  obtain⟨b,off,e,hc⟩:=hl.2.2.2 hne
  exact⟨b,off,e,fun j u hu=>h.cell (hc j u hu) (hA b off (fun e=>hne (Nt.wrCells_nil.2 e)) e)⟩⟩
end Vd
theorem OneL.kept{w w':World}{A:Option Addr}{c:Nat}{l:List (Int × Int)}(h:OneL w A c l){D:Nat}{o:Obj}{o':Obj}(hD:w.heap[D]?=some o)(ho:o.isCells=false)(hw:w'=w.putObj D o'):OneL w' A c l:=
 ⟨h.1,h.2.1,h.2.2.1,fun hne=>by
  obtain⟨b,off,e,hc⟩:=h.2.2.2 hne
  exact⟨b,off,e,fun j u hu=>by rw[hw];exact cell_kept (hc j u hu) (grownBy_putObj' w D o') (fun r e=>by cases e;exact⟨o,hD,ho⟩)⟩⟩
set_option maxRecDepth 100000 in
set_option maxHeartbeats 3200000 in
theorem sdall_list(A:Option Addr)(c:Nat)(l:List Wr)(w0 w:World)(h:OneW w0 A c l)(hb:Below w0.heap.size w0 w)(hf:Sf.fmd l=true)(xs:List Sf.RW)(hxs:xs.map Subtype.val=l) :
  Calls Tryz.prog 110 #[.slice A l.length c] w fun e w1=>∃gf lb VA vc,e = .returned (.func (.func gf) #[] lb)∧Below w.heap.size w w1∧(∀args w,(callFunc gf args).run Tryz.prog w = .ok (.enter gf args) w) ∧
   OneW w1 VA vc l∧(∀b off,l≠[]→VA=some ⟨b,off,none⟩→w.heap.size≤b)∧SeqStopsK Fence.wide 2 Tryz.prog gf lb (fun x:Sf.RW=>toldW x.val) (KeepL VA vc l) (· = xs) (· <+: xs) l.length w1:=by
 have N1:=Hd (sdformed_any A c l w (h.later hb))
 have HL:=Hd h
 have HB:=Hd hb
 have fin:∀(A':Option Addr) (c' bl:Nat) (w1:World),OneW w1 A' c' l→w1.cell? ⟨bl,0,none⟩=some (.slice A' l.length c')→SeqStopsK Fence.wide 2 Tryz.prog 171 #[.pointer (some ⟨bl,0,none⟩)] (fun x:Sf.RW=>toldW x.val) (KeepL A' c' l) (· = xs) (· <+: xs) l.length w1:=
  fun A' c' bl w1 h1 h3=>eachW_stops Subtype.val xs l hxs 2 (by omega) bl c' A' w1 h1 h3
 have FIN:=Hd fin
 clear h hb fin hxs
 rw[hf]at N1
 have hl:=Sf.fmd_len hf
 clear hf
 go_enter Tryz.func110,Tryz.ntmps110
 go_wp2_with fail
 refine N1.out.mono ?_
 rintro e w1 ⟨rfl,b1⟩
 have NC:=Hd (cloneW_any A c l w1 (by omega) (HL.out.later (below_on HB.out b1)))
 have B1:=Hd b1
 clear N1 b1
 go_wp2_with fail
 refine NC.out.mono ?_
 rintro e w2 ⟨v,rfl,ho,b2⟩
 have hfar:∀b off c',l≠[]→v = .slice (some ⟨b,off,none⟩) l.length c'→w.heap.size≤b:=fun b off c' hne e=>by
  obtain⟨g,cap,hv⟩:=own_len ho (List.length_pos_iff.2 hne)
  rw[hv]at e
  injection e with e
  injection e with e
  injection e with e
  have:=own_ge ho g (by rw[hv];rfl)
  have:=B1.out.size
  omega
 obtain⟨VA,vc,rfl,hO⟩:=OneW.of_own ho
 have HO:=Hd hO
 have HF:=Hd hfar
 have B2:=Hd (below_on B1.out b2)
 have NE:=Hd (each_any VA vc l w2)
 clear NC ho hO hfar b2 B1
 go_wp2_with fail
 refine NE.out.mono ?_
 rintro e w3 ⟨bl,rfl,hbl,b3⟩
 have BB:=Hd (below_on B2.out b3)
 have HC:=Hd hbl
 have H3:=Hd (HO.out.later b3)
 clear NE b3 hbl HO B2
 go_wp2
 go_ret
 exact⟨_,_,VA,vc,rfl,BB.out,enters_eachW,H3.out,(fun b off hne e=>HF.out b off vc hne (by rw[e])),FIN.out VA vc bl w3 H3.out HC.out⟩
theorem vdalone_any(lo hi:Int)(w:World) :
  Calls Tryz.prog 94 #[.agg #[.int .i64 lo,.int .i64 hi]] w fun e w'=>∃g,e = .returned (.slice (some ⟨g,0,none⟩) 1 1)∧OneL w' (some ⟨g,0,none⟩) 1 [(lo,hi)]∧Below w.heap.size w w':=by
 have hB:=Blk.new (w.alloc (.cells #[.int .i64 lo,.int .i64 hi] 97)) 97 #[.int .i64 lo,.int .i64 hi]
 have h1:OneL ((w.alloc (.cells #[.int .i64 lo,.int .i64 hi] 97)).alloc (.cells #[.int .i64 lo,.int .i64 hi] 97)) (some ⟨w.heap.size+1,0,none⟩) 1 [(lo,hi)]:=⟨Nat.le_refl _,by unfold maxLen;simp,fun e=>(by cases e),fun _=>⟨w.heap.size+1,0,rfl,fun j u hu=>by
  rw[Nat.zero_add]
  rw[World.size_alloc]at hB
  exact hB.cell (by simpa[stCells] using hu)⟩⟩
 have H1:=Hd h1
 clear hB h1
 go_enter Tryz.func94,Tryz.ntmps94
 go_wp2
 go_ret
 exact⟨_,rfl,H1.out,below_new (below_new (Below.refl _ _) _) _⟩
theorem Vd.in_ofL(f:Nat→Bool){o:Nat}(ho:o<256):inOf (Sp.ofL f) (o:Int)=f o:=by
 unfold inOf
 rw[decide_eq_true (by omega),Bool.true_and,Int.toNat_natCast,Sp.inL_ofL f o ho]
def Vd.told(f:Nat→Bool)(l:List Wr):List Wr:=l.filter fun x=>f x.2.2.1.toNat
theorem Vd.told_snoc(f:Nat→Bool)(l:List Wr)(x:Wr):Vd.told f (l++[x])=Vd.told f l++(if f x.2.2.1.toNat=true then [x] else []):=by
 unfold Vd.told
 rw[List.filter_append,List.filter_cons]
 rfl
set_option maxRecDepth 100000 in
set_option maxHeartbeats 6400000 in
theorem vdtelling_any(q:Vl)(E U:Option Addr)(ce cu:Nat)(reach:List (Int × Int))(f:Nat→Bool)(w:World)(h:VwAt w q)(hf:Sf.fmd q.h=true)(he:OneL w E ce reach)(hr:reach.length≤64)(hu:OneL w U cu (Sp.ofL f)) :
  Calls Tryz.prog 91 #[.agg (vwCells q),.slice E reach.length ce,.slice U (Sp.ofL f).length cu] w (AnsN (Vw.part q.vw reach f) w):=by
 obtain⟨i0,hI,hZ0,hZ1,hZ2⟩:=info_parts infoWr
 obtain⟨xs,hxs⟩:=Sf.rights q.h ((Sf.fmd_list q.h).1 hf).1
 have hlen:=Sf.fmd_len hf
 have hP:Vw.part q.vw reach f=⟨[],reach,Sp.ofL (fun o =>!f o),Vd.told f q.h⟩:=rfl
 rw[hP]
 clear hP
 obtain⟨TW,hTW⟩:∃TW,Vd.told f q.h=TW:=⟨_,rfl⟩
 obtain⟨BL,hBL⟩:∃BL,Sp.ofL (fun o =>!f o)=BL:=⟨_,rfl⟩
 rw[hTW,hBL]
 obtain⟨K,ck,kn,Z,cz,zs,H,ch,hs,B,cb,bs,room⟩:=q
 unfold vwCells
 dsimp only at hxs hlen hf hTW ⊢
 have HTW:=Hd hTW
 have HBL:=Hd hBL
 clear hTW hBL
 have b0:=below_new (below_new (below_new (below_new (Below.refl w.heap.size w) (.cells #[.slice K kn.length ck,.slice Z zs.length cz,.slice H hs.length ch,.slice B bs.length cb,.int .i64 room] 27)) (.cells #[.slice U (Sp.ofL f).length cu] 28)) (.cells #[.slice none 0 0,.slice none 0 0,.slice none 0 0,.slice none 0 0] 40)) (.cells #[.slice none 0 0] 24)
 have V0:=(((Blk.new w 27 #[.slice K kn.length ck,.slice Z zs.length cz,.slice H hs.length ch,.slice B bs.length cb,.int .i64 room]).alloc (.cells #[.slice U (Sp.ofL f).length cu] 28)).alloc (.cells #[.slice none 0 0,.slice none 0 0,.slice none 0 0,.slice none 0 0] 40)).alloc (.cells #[.slice none 0 0] 24)
 have U0:=((Blk.new (w.alloc (.cells #[.slice K kn.length ck,.slice Z zs.length cz,.slice H hs.length ch,.slice B bs.length cb,.int .i64 room] 27)) 28 #[.slice U (Sp.ofL f).length cu]).alloc (.cells #[.slice none 0 0,.slice none 0 0,.slice none 0 0,.slice none 0 0] 40)).alloc (.cells #[.slice none 0 0] 24)
 have N0:=(Blk.new ((w.alloc (.cells #[.slice K kn.length ck,.slice Z zs.length cz,.slice H hs.length ch,.slice B bs.length cb,.int .i64 room] 27)).alloc (.cells #[.slice U (Sp.ofL f).length cu] 28)) 40 #[.slice none 0 0,.slice none 0 0,.slice none 0 0,.slice none 0 0]).alloc (.cells #[.slice none 0 0] 24)
 have R0:=Blk.new (((w.alloc (.cells #[.slice K kn.length ck,.slice Z zs.length cz,.slice H hs.length ch,.slice B bs.length cb,.int .i64 room] 27)).alloc (.cells #[.slice U (Sp.ofL f).length cu] 28)).alloc (.cells #[.slice none 0 0,.slice none 0 0,.slice none 0 0,.slice none 0 0] 40)) 24 #[.slice none 0 0]
 simp only[World.size_alloc]at U0 N0 R0
 obtain⟨W,hW⟩:∃W,(((w.alloc (.cells #[.slice K kn.length ck,.slice Z zs.length cz,.slice H hs.length ch,.slice B bs.length cb,.int .i64 room] 27)).alloc (.cells #[.slice U (Sp.ofL f).length cu] 28)).alloc (.cells #[.slice none 0 0,.slice none 0 0,.slice none 0 0,.slice none 0 0] 40)).alloc (.cells #[.slice none 0 0] 24)=W:=⟨_,rfl⟩
 have hWz:w.heap.size+4=W.heap.size:=by rw[←hW];simp
 rw[hW]at b0 V0 U0 N0 R0
 have NA:=Hd (sdall_list H ch hs w W h.h b0 hf xs hxs)
 have NC:=Hd (fun wx (hb:Below w.heap.size w wx)=>cloneS_any E ce reach wx (by omega) (he.later hb))
 have HU:=Hd hu
 have HW:=Hd hW
 have HXS:=Hd hxs
 have v2:W.cell? ⟨w.heap.size,2,none⟩=some (.slice H hs.length ch):=V0.cell (i:=2) rfl
 obtain⟨g,hg⟩:∃g,w.heap.size=g:=⟨_,rfl⟩
 clear hW h hf hxs he hu
 refine(callsIn_wide (n:=3)).1 ?_
 refine callsIn_of_wp_marks Tryz.func91 rfl trivial ?_ rfl
 simp only[Tryz.ntmps91,List.size_toArray,List.length_cons,List.length_nil,Nat.reduceAdd,Nat.reduceSub,Array.replicate_succ,Array.replicate_zero,List.push_toArray,List.append_toArray,List.nil_append,List.cons_append]
 have v2':((((w.alloc (.cells #[.slice K kn.length ck,.slice Z zs.length cz,.slice H hs.length ch,.slice B bs.length cb,.int .i64 room] 27)).alloc (.cells #[.slice U (Sp.ofL f).length cu] 28)).alloc (.cells #[.slice none 0 0,.slice none 0 0,.slice none 0 0,.slice none 0 0] 40)).alloc (.cells #[.slice none 0 0] 24)).cell? ⟨w.heap.size,2,none⟩=some (.slice H hs.length ch):=by rw[HW.out];exact v2
 gi_wp2_with fail
 rw[HW.out]
 refine⟨trivial,(callsIn_wide.2 NA.out).mono ?_⟩
 rintro e w1 ⟨gf,lb,CA,cc,rfl,b1,hent,hCO,hfar,hseq⟩
 have V1:=V0.later b1
 have U1:=U0.later b1
 have N1:=N0.later b1
 have R1:=R0.later b1
 have bb1:=below_on b0 b1
 have hz1:=b1.size
 have hz0:=bb1.size
 rw[hg]at V1 U1 N1 R1 hWz
 have HV1:=Hd V1
 have HU1:=Hd (show Blk w1 (g+1) 28 #[.slice U (Sp.ofL f).length cu] from U1)
 have HN1:=Hd (show Blk w1 (g+2) 40 #[.slice none 0 0,.slice none 0 0,.slice none 0 0,.slice none 0 0] from N1)
 have R1:Blk w1 (g+3) 24 #[.slice none 0 0]:=R1
 have HCO:=Hd hCO
 have hcp:∀b off,hs≠[]→CA=some ⟨b,off,none⟩→b≠g+3:=fun b off hne e=>by have:=hfar b off hne e;omega
 have HCP:=Hd hcp
 have HBB1:=Hd bb1
 clear V0 U0 N0 R0 b0 b1 HW NA V1 U1 N1 v2 v2' hfar hcp hCO
 gi_wp2_with fail
 try simp only[Nat.add_assoc,Nat.reduceAdd]
 refine wpIn_rangeFunc_ownH rfl (by omega) (gf:=gf) (lb:=lb) rfl trivial hent hseq KeepL.trans (fun W l' o o' _ h1 h2 _=>KeepL.put W l' o o' h1 h2) (Below.refl _ _) (fun _=>rfl)
  (fun pre X=>((∃v,Boxed X (g+3) 24 v∧X.ownsRow w1.heap.size 52 4 v (Vd.told f (pre.map Subtype.val)).length (Nt.wrCells (Vd.told f (pre.map Subtype.val)))∧True)∧Vd.Stay (g+3) w1 X)∧Below w.heap.size w X)
  (fun _ _ _=>False)
  ?hI (fun _ _ _ _ _ h _ _=>h) ⟨⟨⟨.slice none 0 0,R1,⟨rfl,.inl ⟨rfl,rfl⟩⟩,trivial⟩,Vd.Stay.refl _ _⟩,bb1⟩
  (fun x a' X=>∃Bx,w1.heap.size≤Bx∧Blk X Bx 52 (Nt.wrArr x.val)∧a'={ tmps:=#[.agg #[.slice K kn.length ck,.slice Z zs.length cz,.slice H hs.length ch,.slice B bs.length cb,.int .i64 room],.slice E reach.length ce,.slice U (Sp.ofL f).length cu,.pointer (some ⟨g,0,none⟩),undef,.pointer (some ⟨g+1,0,none⟩),.pointer (some ⟨g+2,0,none⟩),.pointer (some ⟨g+3,0,none⟩),.int .i64 x.val.2.2.1,.pointer (some ⟨Bx,0,none⟩),undef,.pointer (some ⟨g,2,none⟩),.slice H hs.length ch,.func (.func gf) #[] lb,.int .i64 x.val.2.2.1,Nt.wrV x.val,undef,undef,undef,undef,undef,undef,undef,undef,undef,undef,undef,undef,undef,undef,undef,undef],defers:=[] })
  ?hAx ?assign ?body ?done (fun _ _ _ _ _ _ h _=>h.elim)
 case hI=>exact OwnFrom.and (OwnFrom.and (Own.from (holdsRow_own w1.heap.size (g+3) 24 52 4 (fun (pre:List Sf.RW)=>(Vd.told f (pre.map Subtype.val)).length) (fun pre=>Nt.wrCells (Vd.told f (pre.map Subtype.val))) (fun _ _=>True)) _) (Vd.Stay.own (Nat.le_refl _))) (ownFrom_below (Nat.le_refl _) (by omega))
 case hAx=>exact fun x a' _ X Y row ⟨Bx,h0,h1,h2⟩ hg hr=>⟨Bx,h0,blk_own _ _ (fun (_:Unit)=>Nt.wrArr x.val) () X Y row h1 hg (fun r e=>(hr r e).2),h2⟩
 case assign=>
  rintro l' pre ⟨x,hx⟩ X K ⟨⟨⟨v,i0,i1,-⟩,i2⟩,i3⟩ hK
  obtain⟨x0,x1,x2,x3⟩:=x
  unfold toldW Nt.wrV
  unfold Nt.wrV Nt.wrArr at hK
  dsimp only at hK ⊢
  have bN:=below_new (Below.refl X.heap.size X) (.cells #[.int .i64 x0,.int .i64 x1,.int .i64 x2,.bool x3] 52)
  have HK:=Hd hK
  have F0:=Hd (Blk.later i0 bN)
  have F1:=Hd (own_later i1 bN)
  have F2:=Hd (i2.later bN)
  have F3:=Hd (below_on i3 bN)
  have F4:=Hd (Blk.new X 52 #[.int .i64 x0,.int .i64 x1,.int .i64 x2,.bool x3])
  have F5:=Hd bN
  have F6:=Hd i2.size
  clear hK i0 i1 i2 i3 bN hseq R1
  gi_wp2
  exact HK.out _ _ (keepsF_below F5.out) (fun h=>h.later F5.out) ⟨⟨⟨_,F0.out,F1.out,trivial⟩,F2.out⟩,F3.out⟩ ⟨_,F6.out,F4.out,rfl⟩
 case body=>
  rintro l' pre ⟨x,hx⟩ a' X hl _ ⟨⟨⟨v8,hv,hrow,-⟩,i2⟩,i3⟩ ⟨Bx,hBx,hX,rfl⟩ hlt
  have hsn:Vd.told f ((pre++[(⟨x,hx⟩:Sf.RW)]).map Subtype.val)=Vd.told f (pre.map Subtype.val)++(if f x.2.2.1.toNat=true then [x] else []):=by rw[List.map_append];exact Vd.told_snoc f _ x
  have hfl:(Vd.told f (pre.map Subtype.val)).length≤256:=Nat.le_trans (List.length_filter_le _ _) (by rw[List.length_map];omega)
  have hob:=(Sf.right_iff x).1 hx
  obtain⟨M,hM⟩:∃M,Vd.told f (pre.map Subtype.val)=M:=⟨_,rfl⟩
  rw[hM]at hsn hrow hfl
  obtain⟨VA,vc,hvv,-,-,-,-⟩:=own_form hrow
  subst hvv
  obtain⟨x0,x1,x2,x3⟩:=x
  dsimp only at hX hob hsn ⊢
  unfold Nt.wrV
  unfold Nt.wrArr at hX
  dsimp only at hX ⊢
  obtain⟨o,rfl⟩:∃o:Nat,x2=(o:Int):=⟨x2.toNat,by omega⟩
  rw[Int.toNat_natCast]at hsn
  have ho:o<256:=by omega
  have u0:=(i2.blk HU1.out (by omega)).cell (i:=0) rfl
  have n1:=sphas_any U cu (Sp.ofL f) (o:Int) X (HU.out.later i3)
  rw[Vd.in_ofL f ho]at n1
  have N1:=Hd n1
  have HX:=Hd hX
  have HV:=Hd hv
  have HROW:=Hd hrow
  have I2:=Hd i2
  have I3:=Hd i3
  have hz3:=i3.size
  have hz2:=i2.size
  have hgp:g+3<w1.heap.size:=R1.lt
  cases hq:f o with
  |false=>
   rw[hq,if_neg Bool.false_ne_true,List.append_nil]at hsn
   rw[hq]at N1
   have HSN:=Hd hsn
   clear hX hv hrow i2 i3 hsn hq hseq R1 hl hM hfl hob n1
   gi_wp2_with fail
   refine⟨trivial,(CallsIn.inRound l' (callsIn_wide.2 N1.out)).mono ?_⟩
   rintro e w2 ⟨rfl,b2⟩
   have FIN:=Hd (show KeepsFrom w1.heap.size X w2∧KeepL CA cc hs X w2∧((∃v,Boxed w2 (g+3) 24 v∧w2.ownsRow w1.heap.size 52 4 v (Vd.told f ((pre++[(⟨(x0,x1,(o:Int),x3),hx⟩:Sf.RW)]).map Subtype.val)).length (Nt.wrCells (Vd.told f ((pre++[(⟨(x0,x1,(o:Int),x3),hx⟩:Sf.RW)]).map Subtype.val)))∧True)∧Vd.Stay (g+3) w1 w2)∧Below w.heap.size w w2 from
    ⟨keepsF_below b2,fun h=>h.later b2,⟨⟨_,Blk.later HV.out b2,by rw[HSN.out];exact own_later HROW.out b2,trivial⟩,I2.out.later b2⟩,below_on I3.out b2⟩)
   clear b2 HV HROW HX
   gi_wp2
   exact FIN.out
  |true=>
   rw[hq,if_pos rfl]at hsn
   rw[hq]at N1
   have HSN:=Hd hsn
   clear hX hv hrow i2 i3 hsn hq hseq hl hM hob n1 R1
   gi_wp2_with fail
   refine⟨trivial,(CallsIn.inRound l' (callsIn_wide.2 N1.out)).mono ?_⟩
   rintro e w2 ⟨rfl,b2⟩
   have X2:=HX.out.later b2
   have hv6:Boxed w2 (g+3) 24 (.slice VA M.length vc):=Blk.later HV.out b2
   have hc6:=hv6.cell
   have hrow6:=own_later HROW.out b2
   have hrowL:=own_base hrow6 (show w.heap.size≤w1.heap.size by omega)
   have hlt6:=hv6.lt
   have hbw6:=below_on I3.out b2
   have hst6:=I2.out.later b2
   have hsz6:=hst6.size
   have hszL:=hbw6.size
   have k0:=X2.cell (i:=0) rfl
   have k1:=X2.cell (i:=1) rfl
   have k2:=X2.cell (i:=2) rfl
   have k3:=X2.cell (i:=3) rfl
   have HBW6:=Hd hbw6
   have HST6:=Hd hst6
   have B2:=Hd b2
   clear b2 hbw6 hst6 X2 N1 u0
   gi_wp2_with (gi_at_builtin;refine Go.Proofs.YtjlfehpockfkdaaGreat.wpListIn_append_lies _ rfl _ _ 24 rfl w1.heap.size 52 i0 (.agg #[.int .i64 0,.int .i64 0,.int .i64 0,.bool false]) 4 32 Tryz.underlying24 hI hZ0 hZ1 hZ2 rfl (by decide) _ M.length (Nt.wrCells M) rfl (hrow6.alloc _) (some ⟨w2.heap.size,0,none⟩) 1 1 (fun h=>by cases h) (Nt.wrCells [(x0,x1,(o:Int),x3)]) rfl rfl ?c1 (Nt.wrCells_one _) ?c3 ?c4 ?c5 ?_)
   case c1=>
    intro _
    refine⟨w2.heap.size,0,rfl,fun j u hu =>?_⟩
    rw[Nat.zero_add]
    exact(Blk.new w2 52 #[.int .i64 x0,.int .i64 x1,.int .i64 (o:Int),.bool x3]).cell (by simpa[Nt.wrCells,Nt.wrCell] using hu)
   case c3=>unfold maxLen;omega
   case c4=>omega
   case c5=>simp;omega
   intro v' w7 hown1 hg1 hm1
   obtain⟨g',cap',rfl⟩:=ownsRow_succ hown1
   obtain⟨hv1,hv2,-,hk2,hb2⟩:=hv6.appended (by decide) hrowL hszL (by omega) (own_base hown1 (show w.heap.size≤w1.heap.size by omega)) hg1
   have hr2:=hown1.kept (grownBy_setCell' w7 (g+3) (.slice (some ⟨g',0,none⟩) (M.length+1) cap')) (.inr (hv1.not_row (by decide) hown1).symm)
   have hst7:=((HST6.out.later (below_new (Below.refl w2.heap.size w2) (.cells #[.int .i64 x0,.int .i64 x1,.int .i64 (o:Int),.bool x3] 52))).grown hg1 (fun r e=>own_ge hrow6 r e)).set 0 (.slice (some ⟨g',0,none⟩) (M.length+1) cap')
   have hc1:=hv1.cell
   have hf1:=hv1.frozen
   have HV2:=Hd hv2
   have HR2:=Hd hr2
   have HST7:=Hd hst7
   have KF:=Hd (KeepsFrom.trans (keepsF_below (n0:=w1.heap.size) B2.out) (hk2.from _))
   have FB:=Hd (HBW6.out.trans hb2)
   clear hv2 hr2 hown1 hg1 hrow6 hrowL hv6 hv1 hk2 hb2 hc6 hst7
   gi_wp2
   exact⟨KF.out,fun _=>HST7.out.oneW HCO.out HCP.out,⟨⟨_,HV2.out,by rw[HSN.out,Nt.wrCells_append,List.length_append];exact HR2.out,trivial⟩,HST7.out⟩,FB.out⟩
 case done=>
  rintro DD ys X hDD hys ⟨⟨⟨v,hv,hrow,-⟩,i2⟩,i3⟩ hK
  subst hys
  rw[HXS.out,HTW.out]at hrow
  obtain⟨VA,vc,hvv,-,-,-,-⟩:=own_form hrow
  subst hvv
  have HROW:=Hd hrow
  have HRB:=Hd (show Blk X (g+3) 24 #[.slice VA TW.length vc] from hv)
  have HNB:=Hd (i2.blk HN1.out (by omega))
  have HUB:=Hd (i2.blk HU1.out (by omega))
  have I3:=Hd i3
  have HK:=Hd hK
  have hDl:=(Array.getElem?_eq_some_iff.1 hK).1
  have hgd:DD≠g+2:=fun e=>by
   have h1:X.heap[g+2]?=_:=HNB.out
   rw[←e,hK]at h1
   cases h1
  have HGD:=Hd hgd
  clear hv hrow i2 i3 hK hseq R1 hgd
  gi_wp2_with fail
  refine⟨trivial,(callsIn_wide.2 (vdalone_any 0 255 X)).mono ?_⟩
  rintro e w2 ⟨ga,rfl,hga,b2⟩
  have HB3:=Hd (below_on I3.out b2)
  have NL:=Hd (fun wx (hb:Below w2.heap.size w2 wx)=>(spless_any (some ⟨ga,0,none⟩) U 1 cu [(0,255)] (Sp.ofL f) wx (hga.later hb) ((HU.out.later (below_on I3.out b2)).later hb)).mono fun _ _ hg=>hg.one)
  rw[rest_is f,HBL.out]at NL
  have HNC:=Hd (HNB.out.later b2)
  have HUC:=Hd (HUB.out.later b2)
  have HRC:=Hd (HRB.out.later b2)
  have HRW:=Hd (own_later HROW.out b2)
  have HK2:=Hd ((b2.block DD hDl).trans HK.out)
  have hDl2:=(Array.getElem?_eq_some_iff.1 HK2.out).1
  have u0:=HUC.out.cell (i:=0) rfl
  have r0:=HRC.out.cell (i:=0) rfl
  clear b2 hga HNB HUB HRB HROW HK hDl
  gi_wp2_with fail
  refine wpIn_wide.2 ?_
  refine wp_region_facts 7 (by kernel_rfl) (by kernel_rfl)
   (fun v=>{ tmps:=#[.agg #[.slice K kn.length ck,.slice Z zs.length cz,.slice H hs.length ch,.slice B bs.length cb,.int .i64 room],.slice E reach.length ce,.slice U (Sp.ofL f).length cu,.pointer (some ⟨g,0,none⟩),undef,.pointer (some ⟨g+1,0,none⟩),.pointer (some ⟨g+2,0,none⟩),.pointer (some ⟨g+3,0,none⟩),undef,undef,.slice (some ⟨ga,0,none⟩) 1 1,.pointer (some ⟨g,2,none⟩),.slice H hs.length ch,.func (Fn.func gf) #[] lb,undef,undef,undef,undef,undef,undef,undef,undef,undef,.agg #[.int .i64 0,.int .i64 255],.slice (some ⟨ga,0,none⟩) 1 1,v 0,v 1,v 2,v 3,v 4,v 5,v 6],defers:=[{ target :=.collected DD,args:=#[] }] }) (fun _=>undef)
   (fun i x wx=>match i with
    |0=>x = .slice E reach.length ce
    |1=>∃A9 c9,x = .slice A9 reach.length c9∧OneL wx A9 c9 reach
    |2=>x = .slice (some ⟨ga,0,none⟩) 1 1
    |3=>x = .slice U (Sp.ofL f).length cu
    |4=>∃A9 c9,x = .slice A9 BL.length c9∧OneL wx A9 c9 BL
    |5=>x = .slice VA TW.length vc
    |6=>∃Aa ca Ab cb',x = .agg #[.slice none 0 0,.slice Aa reach.length ca,.slice Ab BL.length cb',.slice VA TW.length vc]∧OneL wx Aa ca reach∧OneL wx Ab cb' BL
    |_=>True)
   (fun w1 w2=>Below w1.heap.size w1 w2) (fun h1 h2=>below_on h1 h2) (fun _=>Below.refl _ _) (Below.drew (Below.refl _ _)) ?stabR ?stepR ?doneR
  case stabR=>
   rintro i x w1 w2 h hb
   match i,h with
   |0,h=>exact h
   |1,h=>obtain⟨A9,c9,e9,h9⟩:=h;exact⟨A9,c9,e9,h9.later hb⟩
   |2,h=>exact h
   |3,h=>exact h
   |4,h=>obtain⟨A9,c9,e9,h9⟩:=h;exact⟨A9,c9,e9,h9.later hb⟩
   |5,h=>exact h
   |6,h=>obtain⟨Aa,ca,Ab,cb',ex,k1,k2⟩:=h;exact⟨Aa,ca,Ab,cb',ex,k1.later hb,k2.later hb⟩
   |i+7,_=>trivial
  case stepR=>
   intro i hi v w' hb hd
   match i,hi with
   |0,_=>
    refine wpOp_oneH rfl fun KK HKK =>?_
    clear hd
    go_wp2
    exact HKK.out _ _ ⟨_,(by simp[upd];done),Below.refl _ _,rfl⟩
   |1,_=>
    have h0:v 0=_:=hdx hd 0 (by kernel_rfl)
    refine wpOp_oneH rfl fun KK HKK =>?_
    clear hd
    rw[h0]
    go_wp2_with fail
    refine(NC.out _ (below_on HB3.out hb)).mono ?_
    rintro e w'' ⟨u,rfl,ho,b⟩
    obtain⟨A9,c9,rfl,hB⟩:=OneL.of_own ho
    go_wp2
    exact HKK.out _ _ ⟨_,(by simp[upd,h0];done),b,A9,c9,rfl,hB⟩
   |2,_=>
    refine wpOp_oneH rfl fun KK HKK =>?_
    clear hd
    go_wp2
    exact HKK.out _ _ ⟨_,(by simp[upd];done),Below.refl _ _,rfl⟩
   |3,_=>
    refine wpOp_oneH rfl fun KK HKK =>?_
    clear hd
    have q0:=cell_later hb u0
    go_wp2
    exact HKK.out _ _ ⟨_,(by simp[upd];done),Below.refl _ _,rfl⟩
   |4,_=>
    have h2:v 2=_:=hdx hd 2 (by kernel_rfl)
    have h3:v 3=_:=hdx hd 3 (by kernel_rfl)
    refine wpOp_oneH rfl fun KK HKK =>?_
    clear hd
    rw[h2,h3]
    go_wp2_with fail
    refine(NL.out _ hb).mono ?_
    rintro e w'' ⟨A9,c9,rfl,hB,b⟩
    go_wp2
    exact HKK.out _ _ ⟨_,(by simp[upd,h2,h3];done),b,A9,c9,rfl,hB⟩
   |5,_=>
    refine wpOp_oneH rfl fun KK HKK =>?_
    clear hd
    have q0:=cell_later hb r0
    go_wp2
    exact HKK.out _ _ ⟨_,(by simp[upd];done),Below.refl _ _,rfl⟩
   |6,_=>
    obtain⟨A1,c1,h1,o1⟩:=hd 1 (List.elem_iff.1 (by kernel_rfl))
    obtain⟨A4,c4,h4,o4⟩:=hd 4 (List.elem_iff.1 (by kernel_rfl))
    have h5:v 5=_:=hdx hd 5 (by kernel_rfl)
    refine wpOp_oneH rfl fun KK HKK =>?_
    clear hd
    rw[h1,h4,h5]
    go_wp2
    exact HKK.out _ _ ⟨_,(by simp[upd,h1,h4,h5];done),Below.refl _ _,A1,c1,A4,c4,rfl,o1,o4⟩
   |k+7,hk=>exact absurd hk (by omega)
  case doneR=>
   intro v w5 hb hf
   have h0:v 0=_:=hf 0 (by decide)
   obtain⟨A1,c1,h1,o1⟩:=hf 1 (by decide)
   have h2:v 2=_:=hf 2 (by decide)
   have h3:v 3=_:=hf 3 (by decide)
   obtain⟨A4,c4,h4,o4⟩:=hf 4 (by decide)
   have h5:v 5=_:=hf 5 (by decide)
   obtain⟨EA,ec,BA,bc,h6,oe,ob⟩:=hf 6 (by decide)
   clear hf
   rw[h0,h1,h2,h3,h4,h5,h6]
   have NN:=HNC.out.later hb
   have hB5:=below_on HB3.out hb
   have hK5:=(hb.block DD hDl2).trans HK2.out
   have m0:=NN.cell (i:=0) rfl
   have m1:=NN.cell (i:=1) rfl
   have m2:=NN.cell (i:=2) rfl
   have m3:=NN.cell (i:=3) rfl
   have f0:=NN.free 0
   have f1:=NN.free 1
   have f2:=NN.free 2
   have f3:=NN.free 3
   have hge:w.heap.size≤g+2:=by omega
   have P4:=((((NN.put 0 (.slice none 0 0)).put 1 (.slice EA reach.length ec)).put 2 (.slice BA BL.length bc)).put 3 (.slice VA TW.length vc))
   have Q4:=((((hB5.setCell (p:=⟨g+2,0,none⟩) hge (.slice none 0 0)).setCell (p:=⟨g+2,1,none⟩) hge (.slice EA reach.length ec)).setCell (p:=⟨g+2,2,none⟩) hge (.slice BA BL.length bc)).setCell (p:=⟨g+2,3,none⟩) hge (.slice VA TW.length vc))
   have E4:=((((oe.far (show Blk _ (g+2) 40 #[.slice none 0 0,.slice none 0 0,.slice none 0 0,.slice none 0 0] from NN) rfl 0 (.slice none 0 0)).far (show Blk _ (g+2) 40 #[.slice none 0 0,.slice none 0 0,.slice none 0 0,.slice none 0 0] from(NN.put 0 (.slice none 0 0))) rfl 1 (.slice EA reach.length ec)).far (show Blk _ (g+2) 40 #[.slice none 0 0,.slice EA reach.length ec,.slice none 0 0,.slice none 0 0] from((NN.put 0 (.slice none 0 0)).put 1 (.slice EA reach.length ec))) rfl 2 (.slice BA BL.length bc)).far (show Blk _ (g+2) 40 #[.slice none 0 0,.slice EA reach.length ec,.slice BA BL.length bc,.slice none 0 0] from(((NN.put 0 (.slice none 0 0)).put 1 (.slice EA reach.length ec)).put 2 (.slice BA BL.length bc))) rfl 3 (.slice VA TW.length vc))
   have B4:=((((ob.far (show Blk _ (g+2) 40 #[.slice none 0 0,.slice none 0 0,.slice none 0 0,.slice none 0 0] from NN) rfl 0 (.slice none 0 0)).far (show Blk _ (g+2) 40 #[.slice none 0 0,.slice none 0 0,.slice none 0 0,.slice none 0 0] from(NN.put 0 (.slice none 0 0))) rfl 1 (.slice EA reach.length ec)).far (show Blk _ (g+2) 40 #[.slice none 0 0,.slice EA reach.length ec,.slice none 0 0,.slice none 0 0] from((NN.put 0 (.slice none 0 0)).put 1 (.slice EA reach.length ec))) rfl 2 (.slice BA BL.length bc)).far (show Blk _ (g+2) 40 #[.slice none 0 0,.slice EA reach.length ec,.slice BA BL.length bc,.slice none 0 0] from(((NN.put 0 (.slice none 0 0)).put 1 (.slice EA reach.length ec)).put 2 (.slice BA BL.length bc))) rfl 3 (.slice VA TW.length vc))
   obtain⟨RA,rc,re,hRO⟩:=OneW.of_own HRW.out
   injection re with re1 _ re2
   subst re1 re2
   have R4:=(((((hRO.later hb).far (show Blk _ (g+2) 40 #[.slice none 0 0,.slice none 0 0,.slice none 0 0,.slice none 0 0] from NN) rfl 0 (.slice none 0 0)).far (show Blk _ (g+2) 40 #[.slice none 0 0,.slice none 0 0,.slice none 0 0,.slice none 0 0] from(NN.put 0 (.slice none 0 0))) rfl 1 (.slice EA reach.length ec)).far (show Blk _ (g+2) 40 #[.slice none 0 0,.slice EA reach.length ec,.slice none 0 0,.slice none 0 0] from((NN.put 0 (.slice none 0 0)).put 1 (.slice EA reach.length ec))) rfl 2 (.slice BA BL.length bc)).far (show Blk _ (g+2) 40 #[.slice none 0 0,.slice EA reach.length ec,.slice BA BL.length bc,.slice none 0 0] from(((NN.put 0 (.slice none 0 0)).put 1 (.slice EA reach.length ec)).put 2 (.slice BA BL.length bc))) rfl 3 (.slice VA TW.length vc))
   have K4:=((Below.heap_setCell (((w5.setCell ⟨g+2,0,none⟩ (.slice none 0 0)).setCell ⟨g+2,1,none⟩ (.slice EA reach.length ec)).setCell ⟨g+2,2,none⟩ (.slice BA BL.length bc)) ⟨g+2,3,none⟩ (.slice VA TW.length vc) DD HGD.out).trans ((Below.heap_setCell ((w5.setCell ⟨g+2,0,none⟩ (.slice none 0 0)).setCell ⟨g+2,1,none⟩ (.slice EA reach.length ec)) ⟨g+2,2,none⟩ (.slice BA BL.length bc) DD HGD.out).trans ((Below.heap_setCell (w5.setCell ⟨g+2,0,none⟩ (.slice none 0 0)) ⟨g+2,1,none⟩ (.slice EA reach.length ec) DD HGD.out).trans ((Below.heap_setCell w5 ⟨g+2,0,none⟩ (.slice none 0 0) DD HGD.out).trans hK5))))
   have HP4:=Hd (show Blk ((((w5.setCell ⟨g+2,0,none⟩ (.slice none 0 0)).setCell ⟨g+2,1,none⟩ (.slice EA reach.length ec)).setCell ⟨g+2,2,none⟩ (.slice BA BL.length bc)).setCell ⟨g+2,3,none⟩ (.slice VA TW.length vc)) (g+2) 40 #[.slice none 0 0,.slice EA reach.length ec,.slice BA BL.length bc,.slice VA TW.length vc] from P4)
   have FIN:=Hd (show AnsN ⟨[],reach,BL,TW⟩ w (.returned (.agg #[.slice none 0 0,.slice EA reach.length ec,.slice BA BL.length bc,.slice VA TW.length vc])) (((((w5.setCell ⟨g+2,0,none⟩ (.slice none 0 0)).setCell ⟨g+2,1,none⟩ (.slice EA reach.length ec)).setCell ⟨g+2,2,none⟩ (.slice BA BL.length bc)).setCell ⟨g+2,3,none⟩ (.slice VA TW.length vc)).putObj DD (.deferred none)) from
    ⟨none,EA,BA,VA,0,ec,bc,vc,rfl,⟨OneL.nil,OneL.kept E4 K4 rfl rfl,OneL.kept B4 K4 rfl rfl,oneW_own VA vc TW () _ _ (some DD) R4 (grownBy_putObj' _ DD (.deferred none)) (fun r e=>by cases e;exact⟨_,K4,rfl⟩)⟩,Q4.trans (belowK_b (w:=w) (Nat.le_refl _) _ DD _ (.deferred none) (by omega) K4 rfl rfl)⟩)
   have HK4:=Hd K4
   clear NN hB5 hK5 P4 Q4 E4 B4 R4 K4 o1 o4 oe ob hb u0 r0
   go_wp2_with fail
   gi_wp2
   refine⟨by simp,.inl ⟨_,_,rfl,run_takeDeferred HK4.out,?_⟩⟩
   have QP:=blk_own _ _ (fun (_:Unit)=>#[.slice none 0 0,.slice EA reach.length ec,.slice BA BL.length bc,.slice VA TW.length vc]) () _ _ (some DD) HP4.out (grownBy_putObj' _ DD (.deferred none)) (fun r e=>by cases e;exact⟨_,HK4.out,rfl⟩)
   exact⟨.agg #[.slice none 0 0,.slice EA reach.length ec,.slice BA BL.length bc,.slice VA TW.length vc],results_cell_row rfl _ _ (g+2) 40 #[.slice none 0 0,.slice EA reach.length ec,.slice BA BL.length bc,.slice VA TW.length vc] (0,0) _ rfl QP Tryz.underlying40 rfl infoNt4,FIN.out⟩
end Go.Proofs.YtjlfehpockfkdaaGreat
namespace Go.Proofs.YtjlfehpockfkdaaGreat
open Go.RowKit
namespace Vw
theorem part_fmd{v:Vw}(hv:Ok v){reach:List (Int × Int)}(hr:Ve.fmd reach=true){f:Nat→Bool}(hf:∀y∈v.h,f y.2.2.1.toNat=true→hasOf reach y.1 y.2.1=true):Nt.fmd (part v reach f)=true:=by
 have hws:Nt.wsOk (part v reach f)=true:=by
  rw[Nt.wsOk_iff]
  have hsub:((part v reach f).ws).Sublist v.h:=List.filter_sublist
  have hl:=(Sf.fmd_list v.h).1 hv.h
  have hp:=hl.2.sublist hsub
  intro j hj
  have hg:(part v reach f).ws.getD j Nt.zeroW=(part v reach f).ws[j]:=by rw[List.getD_eq_getElem?_getD,List.getElem?_eq_getElem hj];rfl
  have hm:(part v reach f).ws[j]∈v.h.filter fun x=>f x.2.2.1.toNat:=List.getElem_mem hj
  obtain⟨m1,m2⟩:=List.mem_filter.1 hm
  have ho:=obj_right hv.h m1
  refine⟨by rw[hg];exact hf _ m1 m2,by unfold Nt.obj;rw[hg];exact ho,?_,fun h0 =>?_⟩
  ·unfold Nt.obj
   rw[hg]
   unfold inOf
   rw[decide_eq_true ho,Bool.true_and]
   show Sp.inL (Sp.ofL (fun o =>!f o)) _=false
   rw[Sp.inL_ofL _ _ (by omega)]
   rw[show f (part v reach f).ws[j].2.2.1.toNat=true from m2]
   rfl
  ·have:=(List.pairwise_iff_getElem.1 hp) (j-1) j (by omega) hj (by omega)
   unfold Nt.obj
   rw[hg,show(part v reach f).ws.getD (j-1) Nt.zeroW=(part v reach f).ws[j-1] from by rw[List.getD_eq_getElem?_getD,List.getElem?_eq_getElem (by omega)];rfl]
   exact this
 unfold Nt.fmd
 rw[hws]
 show(Ve.fmd []&&(Ve.fmd reach&&(Ve.cov (Ve.cnt reach) (Ve.cnt [])&&(Sp.fmd (Sp.ofL (fun o =>!f o))&&true))))=true
 rw[hr,Sp.fmd_ofL,show Ve.fmd []=true from rfl,show Ve.cov (Ve.cnt reach) (Ve.cnt [])=true from(Ve.cov_iff _ _).2 (fun i _=>Ve.cnt_nonneg reach i)]
 rfl
theorem rch_fmd{v:Vw}(hv:Ok v)(o:Int):Ve.fmd (Tr.rch v.z v.k o)=true:=by
 unfold Tr.rch
 rcases Tr.at_ways v.z o with ⟨-,h,-⟩|⟨k,h1,-,h,-,-⟩
 ·rw[h];exact hv.k
 ·rw[h]
  refine(z_each hv.z (z:=v.z.getD k (0,0,[])) ?_).2
  rw[List.getD_eq_getElem?_getD,List.getElem?_eq_getElem h1]
  exact List.getElem_mem h1
theorem has_rch{v:Vw}(hv:Ok v){y:Wr}(hy:y∈v.h):hasOf (Tr.rch v.z v.k y.2.2.1) y.1 y.2.1=true:=by
 have h1:=hv.has y hy
 unfold Vw.has at h1
 rwa [rchR_in hv (obj_right hv.h hy)]at h1
end Vw
namespace Tr
def ups:Int→List Zn→Prop
 |_,[]=>True
 |lo,z::r=>(lo≤z.1∧z.1≤z.2.1∧z.2.1≤255)∧ups (z.2.1+1) r∧∀z2 s,r=z2::s→z2.1=z.2.1+1→z.2.2≠z2.2.2
theorem ups_of:∀(zs:List Zn) (lo:Int),fmTo zs zs.length→(∀z r,zs=z::r→lo≤z.1)→ups lo zs
 | [],_,_,_=>trivial
 |z::r,lo,h,h0=>by
  have hz:=(h 0 (by simp)).1
  refine⟨⟨h0 z r rfl,hz.2.1,hz.2.2⟩,ups_of r (z.2.1+1) (fun j hj =>?_) (fun z2 s e =>?_),fun z2 s e e2 =>?_⟩
  ·have h1:=h (j+1) (by simpa using hj)
   refine⟨by simpa using h1.1,by simpa using h1.2.1,fun hj0 =>?_⟩
   have h2:=h1.2.2 (by omega)
   obtain⟨i,rfl⟩:∃i,j=i+1:=⟨j-1,by omega⟩
   simpa using h2
  ·subst e
   have h1:=((h 1 (by simp)).2.2 (by omega)).1
   simp at h1
   omega
  ·subst e
   have h1:=((h 1 (by simp)).2.2 (by omega)).2
   simp at h1
   exact h1 (by omega)
theorem ups_fmd{zs:List Zn}(h:fmd zs=true):ups 0 zs:=ups_of zs 0 ((fmd_iff zs).1 h) (fun z r e=>by
 subst e
 exact((fmd_iff _).1 h 0 (by simp)).1.1)
theorem at_less:∀(zs:List Zn) (lo o:Int),ups lo zs→o<lo→at_ zs o=none
 | [],_,_,_,_=>rfl
 |z::r,lo,o,h,ho=>by
  rw[at_cons,if_neg (by unfold holds;rw[decide_eq_true_iff];have:=h.1;omega)]
  exact at_less r (z.2.1+1) o h.2.1 (by have:=h.1;omega)
theorem at_head{z:Zn}{r:List Zn}{o:Int}(h:z.1≤o∧o≤z.2.1):at_ (z::r) o=some z.2.2:=by
 rw[at_cons,if_pos (by unfold holds;exact decide_eq_true h)]
theorem at_tail{z:Zn}{r:List Zn}{o:Int}(h:z.2.1<o):at_ (z::r) o=at_ r o:=by
 rw[at_cons,if_neg (by unfold holds;rw[decide_eq_true_iff];omega)]
theorem hi_le{z z':Zn}{r r':List Zn}{lo:Int}(h:ups lo (z::r))(h':ups lo (z'::r'))(hlo:z.1=z'.1)(hv:z.2.2=z'.2.2)(he:∀o:Int,lo≤o→o≤255→at_ (z::r) o=at_ (z'::r') o):z'.2.1≤z.2.1:=by
 apply Classical.byContradiction
 intro hc
 have k:=h.1
 have k':=h'.1
 have h1:=he (z.2.1+1) (by omega) (by omega)
 rw[at_tail (by omega),at_head (z:=z') (by omega)]at h1
 cases r with
 |nil=>cases h1
 |cons z2 s=>
  have h2:=h.2.1
  by_cases e:z2.1=z.2.1+1
  ·rw[at_head (by have:=h2.1;omega)]at h1
   exact h.2.2 z2 s rfl e (hv.trans (Option.some.inj h1).symm)
  ·rw[at_less (z2::s) z2.1 (z.2.1+1) ⟨⟨Int.le_refl _,h2.1.2⟩,h2.2⟩ (by have:=h2.1;omega)]at h1
   cases h1
theorem zs_uniq:∀(zs zs':List Zn) (lo:Int),ups lo zs→ups lo zs'→(∀o:Int,lo≤o→o≤255→at_ zs o=at_ zs' o)→zs=zs'
 | [],[],_,_,_,_=>rfl
 | [],z'::r',lo,_,h',he=>by
  have k:=h'.1
  have:=he z'.1 k.1 (by omega)
  rw[at_head (by omega)]at this
  cases this
 |z::r,[],lo,h,_,he=>by
  have k:=h.1
  have:=he z.1 k.1 (by omega)
  rw[at_head (by omega)]at this
  cases this
 |z::r,z'::r',lo,h,h',he=>by
  have k:=h.1
  have k':=h'.1
  have hlo:z.1=z'.1:=by
   rcases Int.lt_trichotomy z.1 z'.1 with h1|h1|h1
   ·have:=he z.1 k.1 (by omega)
    rw[at_head (by omega),at_less (z'::r') z'.1 z.1 ⟨⟨Int.le_refl _,k'.2⟩,h'.2⟩ h1]at this
    cases this
   ·exact h1
   ·have:=he z'.1 k'.1 (by omega)
    rw[at_head (z:=z') (by omega),at_less (z::r) z.1 z'.1 ⟨⟨Int.le_refl _,k.2⟩,h.2⟩ h1]at this
    cases this
  have hv:z.2.2=z'.2.2:=by
   have:=he z.1 k.1 (by omega)
   rw[at_head (by omega),at_head (z:=z') (by omega)]at this
   exact Option.some.inj this
  have hh:z.2.1=z'.2.1:=by
   have a:=hi_le h h' hlo hv he
   have b:=hi_le h' h hlo.symm hv.symm (fun o h1 h2=>(he o h1 h2).symm)
   omega
  have hz:z=z':=by
   obtain⟨a,b,c⟩:=z
   obtain⟨a',b',c'⟩:=z'
   dsimp only at hlo hh hv
   rw[hlo,hh,hv]
  subst hz
  rw[zs_uniq r r' (z.2.1+1) h.2.1 h'.2.1 (fun o h1 h2=>by
   have:=he o (by omega) h2
   rwa [at_tail (by omega),at_tail (by omega)]at this)]
theorem mk_at{zs:List Zn}(h:fmd zs=true):mkTo (fun o=>at_ zs (o:Int)) 256=zs:=by
 have hf:∀(o:Nat) v,at_ zs (o:Int)=some v→Ve.fmd v=true:=fun o v hv=>by
  rcases at_ways zs (o:Int) with ⟨-,e,-⟩|⟨k,h1,-,e,-,-⟩
  ·rw[e]at hv;cases hv
  ·rw[e]at hv
   have hv:=Option.some.inj hv
   rw[←hv]
   refine(Vw.z_each h (z:=zs.getD k (0,0,[])) ?_).2
   rw[List.getD_eq_getElem?_getD,List.getElem?_eq_getElem h1]
   exact List.getElem_mem h1
 refine zs_uniq _ zs 0 (ups_fmd (fmd_mk hf)) (ups_fmd h) (fun o h1 h2 =>?_)
 have:=at_mk hf (o:=o.toNat) (by omega)
 rwa [show((o.toNat:Nat):Int)=o by omega]at this
end Tr
namespace Sf
theorem put1_same{f:Mp}{x y:Wr}(hx:0≤x.2.2.1)(h:f x.2.2.1.toNat=some y)(hc:¬St.cmpS y.1 y.2.1 x.1 x.2.1<0):put1 f x=f:=funext fun j=>by
 unfold put1
 by_cases e:(j:Int)=x.2.2.1
 ·rw[if_pos e]
  have hj:j=x.2.2.1.toNat:=by omega
  subst hj
  rw[h]
  show some (if St.cmpS y.1 y.2.1 x.1 x.2.1<0 then x else y)=some y
  rw[if_neg hc]
 ·rw[if_neg e]
theorem puts_same:∀(r:List Wr) (f:Mp),(∀x∈r,0≤x.2.2.1∧∃y,f x.2.2.1.toNat=some y∧¬St.cmpS y.1 y.2.1 x.1 x.2.1<0)→puts f r=f
 | [],_,_=>rfl
 |x::r,f,h=>by
  obtain⟨h0,y,h1,h2⟩:=h x List.mem_cons_self
  show puts (put1 f x) r=f
  rw[put1_same h0 h1 h2]
  exact puts_same r f (fun x' hx'=>h x' (List.mem_cons_of_mem _ hx'))
theorem of_self{l:List Wr}(h:fmd l=true){x:Wr}(hx:x∈l):of l x.2.2.1.toNat=some x:=by
 have h1:=(right_iff x).1 (((fmd_list l).1 h).1 x hx)
 exact(of_iff h _ x).2 ⟨hx,by omega⟩
theorem best_of{l:List Wr}(h:fmd l=true):Best (of l) l:=fun j=>by
 have hp:=((fmd_list l).1 h).2
 refine⟨fun y hy =>?_,fun hn p hpm ho =>?_⟩
 ·obtain⟨h1,h2⟩:=(of_iff h j y).1 hy
  refine⟨h1,h2,fun p hpm ho =>?_⟩
  have h3:=(of_iff h j p).2 ⟨hpm,ho⟩
  rw[hy]at h3
  obtain rfl:=Option.some.inj h3
  rw[cmp_self]
  omega
 ·have h3:=(of_iff h j p).2 ⟨hpm,ho⟩
  rw[hn]at h3
  cases h3
theorem all_of{l r:List Wr}(h:fmd l=true)(hr:∀x∈r,x∈l):r.all right=true:=List.all_eq_true.2 (fun x hx=>((fmd_list l).1 h).1 x (hr x hx))
theorem putR_sub{l r:List Wr}(h:fmd l=true)(hr:∀x∈r,x∈l):putR l r=(l,0):=by
 unfold putR
 rw[if_pos h,if_pos (all_of h hr),puts_same r (of l) (fun x hx=>⟨((right_iff x).1 (((fmd_list l).1 h).1 x (hr x hx))).1,x,of_self h (hr x hx),by rw[cmp_self];omega⟩),out_of h]
theorem putR_twice{l:List Wr}(h:fmd l=true)(r:List Wr):(putR (putR l r).1 r).1=(putR l r).1:=by
 by_cases hr:r.all right=true
 ·rw[putR_yes h hr]
  dsimp only
  have hk:=(keyed_of h).puts r (List.all_eq_true.1 hr)
  rw[putR_yes (fmd_outTo hk) hr,of_out hk]
  dsimp only
  have hb:=(best_of h).puts r l
  rw[puts_same r _ (fun x hx =>?_)]
  have hx0:=(right_iff x).1 (List.all_eq_true.1 hr x hx)
  refine⟨hx0.1,?_⟩
  obtain⟨b1,b2⟩:=hb x.2.2.1.toNat
  cases hf:puts (of l) r x.2.2.1.toNat with
  |none=>exact absurd (show x.2.2.1=((x.2.2.1.toNat:Nat):Int) by omega) (b2 hf x (List.mem_append_right _ hx))
  |some y=>
   have h3:=(b1 y hf).2.2 x (List.mem_append_right _ hx) (by omega)
   have h4:=St.cmpS_neg y.1 y.2.1 x.1 x.2.1
   exact⟨y,rfl,by omega⟩
 ·have e:putR l r=([],1):=by unfold putR;rw[if_pos h,if_neg hr]
  rw[e]
  dsimp only
  unfold putR
  rw[if_pos fmd_nil,if_neg hr]
end Sf
namespace Vw
theorem take_not{v:Vw}{n:Note}(h:(takeR v n).2≠0):(takeR v n).1=zero:=by
 unfold takeR at h ⊢
 by_cases c:fmd v=true
 ·rw[if_pos c]at h ⊢
  by_cases c2:(Tr.tkR v.z v.k n).2.2=0
  ·rw[if_pos c2]at h;exact absurd rfl h
  ·rw[if_neg c2]
 ·rw[if_neg c]
theorem take_gave{v:Vw}{n:Note}(h:(takeR v n).2=0):Ok v∧Nt.fmd n=true∧Ve.cov (Ve.cnt v.k) (Ve.cnt n.s)=true:=by
 cases hf:fmd v with
 |false=>unfold takeR at h;rw[if_neg (by rw[hf];exact Bool.false_ne_true)]at h;cases h
 |true=>
  have hv:=(ok_iff v).1 hf
  by_cases h0:(Tr.tkR v.z v.k n).2.2=0
  ·obtain⟨hn,hc,-⟩:=tk_ways v n h0 hv
   exact⟨hv,hn,hc⟩
  ·exfalso
   unfold takeR at h
   rw[if_pos hf,if_neg h0]at h
   exact h0 h
theorem take_again{v:Vw}{n:Note}(h:(takeR v n).2=0):takeR (takeR v n).1 n=((takeR v n).1,0):=by
 obtain⟨hv,hn,hc⟩:=take_gave h
 have hy:=take_ok h
 have ht:=take_is hv hn hc
 have h2:=Tr.take_twice hv.z hv.k hn hc
 obtain⟨zs,hzs⟩:∃zs,Tr.mkTo (Tr.zof v.z v.k n) 256=zs:=⟨_,rfl⟩
 obtain⟨kn,hkn⟩:∃kn,Ve.joinL [v.k,n.e]=kn:=⟨_,rfl⟩
 rw[hzs,hkn]at ht h2
 rw[ht]at hy ⊢
 dsimp only at hy ⊢
 obtain⟨hd,hhd⟩:∃l,heldR v zs kn n=l:=⟨_,rfl⟩
 rw[hhd]at hy ⊢
 have hb:(v.b.filter (Vw.wants ⟨kn,zs,hd,[],v.r⟩)).filter (Vw.wants ⟨kn,zs,hd,[],v.r⟩)=v.b.filter (Vw.wants ⟨kn,zs,hd,[],v.r⟩):=by rw[List.filter_filter];simp
 obtain⟨bs,hbs⟩:∃l,v.b.filter (Vw.wants ⟨kn,zs,hd,[],v.r⟩)=l:=⟨_,rfl⟩
 rw[hbs]at hy hb ⊢
 have hh:heldR ⟨kn,zs,hd,bs,v.r⟩ zs kn n=hd:=by
  rw[←hhd]
  unfold heldR
  exact Sf.putR_twice hv.h _
 unfold takeR
 rw[if_pos ((ok_iff _).2 hy)]
 dsimp only
 rw[h2]
 dsimp only
 rw[if_pos rfl,hh,hb]
theorem putting_of_sum{v:Vw}(hv:Ok v){reach:List (Int × Int)}(hr:Ve.fmd reach=true)(hcov:Ve.cov (Ve.cnt v.k) (Ve.cnt reach)=true){f:Nat→Bool}(hf:∀o,o<256→f o=true→Tr.rch v.z v.k (o:Int)=reach) :
  takeR v (part v reach f)=(v,0):=by
 have hn:Nt.fmd (part v reach f)=true:=part_fmd hv hr (fun y hy h=>by
  have h1:=has_rch hv hy
  have ho:=obj_right hv.h hy
  have h2:=hf _ (by omega) h
  rw[show((y.2.2.1.toNat:Nat):Int)=y.2.2.1 by omega]at h2
  rwa [h2]at h1)
 have hc:Ve.cov (Ve.cnt v.k) (Ve.cnt (part v reach f).s)=true:=(Ve.cov_iff _ _).2 (fun i _=>Ve.cnt_nonneg v.k i)
 have hj:Ve.joinL [v.k,(part v reach f).e]=v.k:=Tr.join_known hv.k hcov
 have hz:Tr.mkTo (Tr.zof v.z v.k (part v reach f)) 256=v.z:=by
  refine Eq.trans (Tr.mkTo_ext 256 (fun o ho =>?_)) (Tr.mk_at hv.z)
  have hs:Tr.sho v.z v.k (part v reach f) o=Tr.rch v.z v.k (o:Int):=by
   unfold Tr.sho
   split
   ·rfl
   ·next hb=>
    have hfo:f o=true:=by
     have:Sp.inL (Sp.ofL (fun o =>!f o)) o=false:=Bool.eq_false_iff.2 hb
     rw[Sp.inL_ofL _ o ho]at this
     simpa using this
    rw[hf o ho hfo]
    exact Tr.strd_known hr (Tr.cov_self _) _
  rw[Tr.zof_eq,hs,hj]
  cases ha:Tr.at_ v.z (o:Int) with
  |none=>rw[show Tr.rch v.z v.k (o:Int)=v.k from by unfold Tr.rch;rw[ha];rfl,if_pos (Tr.cov_self _)]
  |some u=>
   have hu:Tr.rch v.z v.k (o:Int)=u:=by unfold Tr.rch;rw[ha];rfl
   rw[hu]
   rcases Tr.at_ways v.z (o:Int) with ⟨-,e,-⟩|⟨k,h1,-,e,-,-⟩
   ·rw[ha]at e;cases e
   ·rw[ha]at e
    have e:=Option.some.inj e
    have hst:=hv.below (v.z.getD k (0,0,[])) (by rw[List.getD_eq_getElem?_getD,List.getElem?_eq_getElem h1];exact List.getElem_mem h1)
    rw[←e]at hst
    rw[if_neg (by rw[(stand_one.1 hst).1];exact Bool.false_ne_true)]
 rw[take_is hv hn hc,hz,hj]
 have hh:heldR v v.z v.k (part v reach f)=v.h:=by
  unfold heldR
  exact congrArg Prod.fst (Sf.putR_sub hv.h (fun x hx=>(List.mem_filter.1 ((List.mem_filter.1 hx).1)).1))
 rw[hh]
 have hb:v.b.filter (Vw.wants ⟨v.k,v.z,v.h,[],v.r⟩)=v.b:=List.filter_eq_self.2 (fun x hx=>hv.wants x hx)
 rw[hb]
theorem like_rch{v:Vw}{it:List (Int × Int)}{o p:Nat}(h:like v it o p=true):Tr.rch v.z v.k (p:Int)=Tr.rch v.z v.k (o:Int):=((like_iff v it o p).1 h).2.2
theorem sum_own{v:Vw}(hv:Ok v)(it:List (Int × Int)):∀n∈(sumR v it).1,takeR v n=(v,0):=by
 intro n hn
 unfold sumR at hn
 rw[if_pos ((ok_iff v).2 hv)]at hn
 rcases List.mem_cons.1 hn with rfl|hn
 ·refine putting_of_sum hv hv.k (Tr.cov_self _) (fun o ho h =>?_)
  simp only[Bool.and_eq_true,Bool.not_eq_true']at h
  unfold isB at h
  unfold Tr.rch
  cases hx:Tr.at_ v.z (o:Int) with
  |none=>rfl
  |some u=>rw[hx]at h;cases h.2
 ·obtain⟨o,-,rfl⟩:=List.mem_map.1 hn
  exact putting_of_sum hv (rch_fmd hv _) (hv.cov _) (fun p hp h=>like_rch h)
theorem sum_ok{v:Vw}(hv:Ok v)(it:List (Int × Int)):(sumR v it).2=0∧(sumR v it).1≠[]:=by
 unfold sumR
 rw[if_pos ((ok_iff v).2 hv)]
 exact⟨rfl,by simp⟩
end Vw
end Go.Proofs.YtjlfehpockfkdaaGreat
