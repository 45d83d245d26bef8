/-
  What the row of this claim stands on: VwLawN.
-/
import Derived.Test.YtjlfehpockfkdaaGreatB01
import Derived.Test.YtjlfehpockfkdaaGreatSViewNewestA
namespace Go.Proofs.YtjlfehpockfkdaaGreat
open Go.RowKit Fb
theorem Vw.new_ok{room:Int}(h0:0≤room)(h1:room≤65535):Vw.newR room=(⟨[],[],[],[],room⟩,0):=by
 unfold Vw.newR
 rw[if_pos ⟨h0,by omega⟩]
theorem Vw.new_nw{room:Int}(h0:0≤room)(h1:room≤65535):Vw.Nw ⟨[],[],[],[],room⟩ [] []:=by
 refine Vw.nw_new ?_ rfl rfl
 rw[←Vw.ok_iff]
 unfold Vw.fmd
 rw[Ca.fmd_nil h0 (by omega)]
 rfl
set_option maxRecDepth 100000 in
set_option maxHeartbeats 25600000 in
theorem lawVNewest_any(SV:ViewSpec)(SL:ViewLo)(A:Option Addr)(c:Nat)(L:List Ac)(room o:Int)(w:World)(hA:OneA w A c L)(hr0:0≤room)(hr1:room≤65535) :
  Calls Tryz.prog 8 #[.slice A L.length c,.int .u16 room,.int .i64 o] w (Says (.bool true) w):=by
 obtain⟨i0,hI,hz0,hz1,hz2⟩:=info_parts infoWr
 obtain⟨i1,hJ,hy0,hy1,hy2⟩:=info_parts infoBdy
 have AL:=Hd (fun wx=>valive_any SV wx)
 have SS:=Hd SV
 have SLO:=Hd SL
 have HA:=Hd (fun wx (hb:Below w.heap.size w wx)=>hA.later hb)
 have hlen:=hA.len
 have HNR:=Hd (Vw.new_ok hr0 hr1)
 have HN0:=Hd (Vw.new_nw hr0 hr1)
 have hcv:IntKind.i64.wrap room=room:=IntWalk.i64_in _ (by omega)
 clear SV SL hA hr0 hr1
 by_cases hg:60<L.length
 ·have hd:decide ((60:Int)<(L.length:Int))=true:=decide_eq_true (by omega)
  clear hg HNR HN0 HA SLO SS
  have HB0:=Hd (Below.refl w.heap.size w)
  go_enter Tryz.func8,Tryz.ntmps8
  go_wp2_with fail
  refine(AL.out _).mono ?_
  rintro e w1 ⟨rfl,b1⟩
  have HB1:=Hd (below_on HB0.out b1)
  clear HB0
  clear b1 AL
  have HZ:=Hd HB1.out
  go_wp2
  go_ret
  exact⟨rfl,HZ.out⟩
 have hd:decide ((60:Int)<(L.length:Int))=false:=decide_eq_false (by omega)
 have hl60:L.length≤60:=by omega
 clear hg
 have HB0:=Hd (Below.refl w.heap.size w)
 go_enter Tryz.func8,Tryz.ntmps8
 go_wp2_with fail
 refine(AL.out _).mono ?_
 rintro e w1 ⟨rfl,b1⟩
 have HB1:=Hd (below_on HB0.out b1)
 clear HB0
 clear b1 AL
 go_wp2_with fail
 refine((show Calls Tryz.prog 13 #[.int .i64 room] w1 (GivesVwE ⟨[],[],[],[],room⟩ 0 w1) from by have n:=SS.out.new room w1;rw[HNR.out]at n;exact n)).mono ?_
 rintro e w2 ⟨q0,rfl,hq0,hV0,b2⟩
 have HB2:=Hd (below_on HB1.out b2)
 clear HB1
 clear b2 HNR
 obtain⟨Koo,ckoo,koo,Zoo,czoo,zoo,Hoo,choo,hoo,Boo,cboo,boo,roo⟩:=q0
 have HQoo:=Hd hq0
 have XVoo:=Hd hV0
 clear hq0 hV0
 unfold vwCells
 dsimp only
 obtain⟨g7,hgg7⟩:∃g7,w2.heap.size=g7:=⟨_,rfl⟩
 have le_g7:w.heap.size≤g7:=by have:=HB2.out.size;rw[hgg7]at this;exact this
 go_upto_region 6 with (fail)
 have b3:=below_new (Below.refl w2.heap.size w2) (.cells #[.slice Koo koo.length ckoo,.slice Zoo zoo.length czoo,.slice Hoo hoo.length choo,.slice Boo boo.length cboo,.int .i64 roo] 27)
 have hX:=Blk.new w2 27 #[.slice Koo koo.length ckoo,.slice Zoo zoo.length czoo,.slice Hoo hoo.length choo,.slice Boo boo.length cboo,.int .i64 roo]
 obtain⟨w3,hw3⟩:∃x,w2.alloc (.cells #[.slice Koo koo.length ckoo,.slice Zoo zoo.length czoo,.slice Hoo hoo.length choo,.slice Boo boo.length cboo,.int .i64 roo] 27)=x:=⟨_,rfl⟩
 rw[hw3]at b3 hX
 rw[hw3]
 have HB3:=Hd (below_on HB2.out b3)
 clear HB2
 replace XVoo:=Hd (XVoo.out.later b3)
 rw[hgg7]at hX
 have HX:=Hd hX
 clear b3 hw3 hX
 have LG7:=Hd le_g7
 go_wp2_with fail
 go_loopw [9,10,11] (fun s9 s10 s11 wr=>∃(k:Nat) (p:Vl) (all:List Wr) (M:List Bc),k≤L.length∧s11 = .int .i64 (k:Int)∧RowA wr w.heap.size s9 all∧RowY wr w.heap.size s10 M∧(∀z∈M,OneB w z.X z.d z.b.v)∧Vw.Nw p.vw all (M.map Bc.b)∧Ve.top (Ve.cnt p.k)≤9223372036854775807∧all.length≤256*k∧M.length≤k∧VwAt wr p∧Clear s9 p∧Clear s10 p∧Blk wr g7 27 (vwCells p)∧Below w.heap.size w wr) (fun _ _ s11 _=>L.length-(intOf s11).toNat)
 case atStart=>exact⟨0,⟨Koo,ckoo,koo,Zoo,czoo,zoo,Hoo,choo,hoo,Boo,cboo,boo,roo⟩,[],[],Nat.zero_le _,rfl,RowA.nil _ _,RowY.nil _ _,(fun z h=>by cases h),(by rw[HQoo.out];exact HN0.out),(by show Ve.top (Ve.cnt koo)≤9223372036854775807;rw[show koo=[] from congrArg Vw.k HQoo.out];decide),Nat.zero_le _,Nat.zero_le _,XVoo.out,Clear.nil _,Clear.nil _,HX.out,HB3.out⟩
 case round=>
  clear HX HQoo XVoo HN0 HB3 le_g7
  obtain⟨k,p,all,M,hk,rfl,hra,hry,hmy,hnw,htop,hla,hly,hV,hca,hcy,hX,hbw⟩:=hrel
  obtain⟨A9,c9,hv9,-,-,-,-⟩:=own_form hra.own
  subst hv9
  obtain⟨A10,c10,hv10,-,-,-,-⟩:=own_form hry.own
  subst hv10
  obtain⟨Kov,ckov,kov,Zov,czov,zov,Hov,chov,hov,Bov,cbov,bov,rov⟩:=p
  unfold vwCells at hX
  dsimp only at hX htop
  obtain⟨vv,hv⟩:∃vv,Vl.vw ⟨Kov,ckov,kov,Zov,czov,zov,Hov,chov,hov,Bov,cbov,bov,rov⟩=vv:=⟨_,rfl⟩
  rw[hv]at hnw
  have HPV:=Hd hv
  have RA:=Hd hra
  have RY:=Hd hry
  have HMY:=Hd hmy
  have HNW:=Hd hnw
  have HTOP:=Hd htop
  have XV:=Hd hV
  have HCA:=Hd hca
  have HCY:=Hd hcy
  have HX:=Hd hX
  have HBW:=Hd hbw
  have HG7:=Hd (show w.heap.size≤g7 from LG7.out)
  clear hv hra hry hmy hnw htop hV hca hcy hX hbw
  by_cases hlt:k<L.length
  ·
   have hi0:(0:Int)≤(k:Int):=by omega
   have hi1:(k:Int)<(L.length:Int):=by omega
   obtain⟨b,off,hAA,-⟩:=(HA.out wr HBW.out).at (fun h=>by rw[h]at hlt;exact absurd hlt (Nat.not_lt_zero _))
   obtain⟨a,ha⟩:∃a,L[k]?=some a:=⟨L[k],List.getElem?_eq_getElem hlt⟩
   have hat:=(HA.out w (Below.refl _ _)).each a (List.mem_of_getElem? ha)
   subst hAA
   have hac:=fun wx (hb:Below w.heap.size w wx)=>Ac.cells14 (Ac.at14 (HA.out wx hb) ha)
   obtain⟨kind,⟨S,E,P,U,cs,ce,cp,cu,n⟩,me,ob,sk,D,dd,val,gone,⟨Y,yd,⟨y0,y1,y2,yv⟩⟩⟩:=a
   obtain⟨hnA,hdA,hyA,hlow⟩:=hat
   unfold Nl.At at hnA
   dsimp only at hac hnA hdA hyA hlow
   have HAC:=Hd hac
   have HNA:=Hd hnA
   have HDA:=Hd hdA
   have HYA:=Hd hyA
   have HLOW:=Hd hlow
   clear hac hnA hdA hyA hlow ha
   obtain⟨e0,-⟩:=HAC.out wr HBW.out
   obtain⟨m,hm3,hm⟩:=mod3 kind
   obtain⟨kw,hkw⟩:∃t,IntKind.u64.wrap kind=t:=⟨_,rfl⟩
   rw[hkw]at hm
   have X_0:=HX.out.cell (i:=0) rfl
   have X_1:=HX.out.cell (i:=1) rfl
   have X_2:=HX.out.cell (i:=2) rfl
   have X_3:=HX.out.cell (i:=3) rfl
   have X_4:=HX.out.cell (i:=4) rfl
   go_upto_region 18 with (fail)
   clear hm hkw e0
   clear X_0 X_1 X_2 X_3 X_4
   by_cases hm0:m=0
   ·
    have d0:((m:Int) == 0)=true:=by rw[hm0];rfl
    clear hm0
    obtain⟨-,⟨kc0,kc1,kc2,kc3⟩,-⟩:=HAC.out wr HBW.out
    obtain⟨⟨nx,er⟩,hnx⟩:∃t,Vw.takeR vv n=t:=⟨_,rfl⟩
    have TK:=Hd (fun wx (hbx:Below wr.heap.size wr wx)=>show Calls Tryz.prog 22 #[.agg #[.slice Kov kov.length ckov,.slice Zov zov.length czov,.slice Hov hov.length chov,.slice Bov bov.length cbov,.int .i64 rov],.agg #[.slice S n.s.length cs,.slice E n.e.length ce,.slice P n.b.length cp,.slice U n.ws.length cu]] wx (GivesVwN nx er wx) from by have h:=SLO.out.take ⟨Kov,ckov,kov,Zov,czov,zov,Hov,chov,hov,Bov,cbov,bov,rov⟩ S E P U cs ce cp cu n wx (XV.out.later hbx) (NoteAt.later HNA.out (below_on HBW.out hbx));rw[HPV.out,hnx]at h;exact h)
    have HNX:=Hd hnx
    clear hnx
    have HGW:=Hd HX.out.lt
    have X_0:=HX.out.cell (i:=0) rfl
    have X_1:=HX.out.cell (i:=1) rfl
    have X_2:=HX.out.cell (i:=2) rfl
    have X_3:=HX.out.cell (i:=3) rfl
    have X_4:=HX.out.cell (i:=4) rfl
    go_upto_region 19 with (fail)
    refine wp_region_facts3 12 (by kernel_rfl) (by kernel_rfl)
     (fun v=>{ tmps:=#[.slice (some ⟨b,off,none⟩) L.length c,.int .u16 room,.int .i64 o,undef,undef,undef,.bool false,.pointer (some ⟨g7,0,none⟩),.int .i64 0,.slice A9 all.length c9,.slice A10 M.length c10,.int .i64 (k:Int),v 10,u13,undef,u15,u16,u17,u18,u19,u20,u21,undef,undef,undef,undef,undef,undef,.bool true,.bool false,.slice (some ⟨b,off,none⟩) L.length c,.int .i64 (L.length:Int),.bool false,.tuple #[.agg #[.slice Koo koo.length ckoo,.slice Zoo zoo.length czoo,.slice Hoo hoo.length choo,.slice Boo boo.length cboo,.int .i64 roo],.int .i64 0],.int .u16 room,.int .i64 room,.tuple #[.agg #[.slice Koo koo.length ckoo,.slice Zoo zoo.length czoo,.slice Hoo hoo.length choo,.slice Boo boo.length cboo,.int .i64 roo],.int .i64 0],.agg #[.slice Koo koo.length ckoo,.slice Zoo zoo.length czoo,.slice Hoo hoo.length choo,.slice Boo boo.length cboo,.int .i64 roo],.int .i64 0,.int .i64 0,.bool false,.int .i64 (k:Int),.slice (some ⟨b,off,none⟩) L.length c,.int .i64 (L.length:Int),.bool true,u45,u46,.slice (some ⟨b,off,none⟩) L.length c,.int .i64 (k:Int),.pointer (some ⟨b,off+k*14,none⟩),.pointer (some ⟨b,off+k*14,none⟩),.int .i64 kind,.int .u64 kw,.int .u64 (m:Int),u54,u55,u56,u57,u58,u59,u60,u61,u62,u63,u64,u65,u66,u67,u68,u69,u70,u71,u72,u73,u74,.bool true,.bool true,v 7,v 0,v 1,v 2,v 3,v 4,v 5,v 6,v 8,v 9,u87,u88,u89,u90,u91,u92,u93,u94,u95,u96,u97,u98,u99,u100,u101,u102,u103,u104,u105,u106,u107,u108,u109,u110,u111,u112,u113,u114,u115,u116,u117,u118,u119,u120,u121,u122,u123,u124,u125,u126,u127,u128,u129,u130,u131,u132,u133,u134,u135,u136,u137,u138,u139,u140,u141,u142,u143,u144,u145,u146,u147,u148,u149,u150,u151,u152,u153,u154,u155,u156,u157,u158,u159,u160,u161,u162,u163,u164,u165,u166,u167,u168,u169,u170,u171,undef,undef,undef,undef,undef,undef,undef,undef,undef,undef,undef,undef,undef,undef,undef,undef,undef,undef,undef,undef,undef,undef,undef,undef,undef,undef,undef,undef,undef,undef,undef,undef,undef,undef,undef,undef,undef,undef,undef,undef,undef,undef,undef,undef,undef,undef,undef,undef,undef,undef,undef,undef,undef,undef,undef,undef,undef,undef,undef,undef,undef,undef,undef,undef,undef,undef,undef,undef,undef,undef,undef,undef,undef,undef,undef,undef,undef,undef,undef,undef,undef,undef,undef,undef],defers:=[] }) (fun i=>match i with|0=>u78|1=>u79|2=>u80|3=>u81|4=>u82|5=>u83|6=>u84|7=>u77|8=>u85|9=>u86|10=>u12|_=>undef)
     (NwF wr.heap.size 27 (fun i=>match i with|0 =>.agg #[.slice Kov kov.length ckov,.slice Zov zov.length czov,.slice Hov hov.length chov,.slice Bov bov.length cbov,.int .i64 rov]|1 =>.slice (some ⟨b,off,none⟩) L.length c|2 =>.int .i64 (k:Int)|3 =>.pointer (some ⟨b,off+k*14,none⟩)|4 =>.pointer (some ⟨b,off+k*14+1,none⟩)|5 =>.agg #[.slice S n.s.length cs,.slice E n.e.length ce,.slice P n.b.length cp,.slice U n.ws.length cu]|_=>undef) nx er)
     (fun w1 w2=>Below wr.heap.size w1 w2) (fun h1 h2=>h1.trans h2) (fun _=>Below.refl _ _) (Below.drew (Below.refl _ _)) ?loc ?step ?done
    case loc=>
     intro i k9 v x wx hk9 hd h
     exact NwF.loc hk9 (fun e h8=>by subst e;subst h8;exact hd (List.elem_iff.1 (by kernel_rfl))) h
    case step=>
     intro i hi v w' hb hd
     match i,hi with
     |0,_=>
      refine wpOp_oneH rfl fun KK HKK =>?_
      clear hd
      have q0:=cell_later hb X_0
      have q1:=cell_later hb X_1
      have q2:=cell_later hb X_2
      have q3:=cell_later hb X_3
      have q4:=cell_later hb X_4
      go_wp2
      exact HKK.out _ _ ⟨_,(by simp[upd];done),Below.refl _ _,rfl,fun _ _ _ h=>h⟩
     |1,_=>
      refine wpOp_oneH rfl fun KK HKK =>?_
      clear hd
      go_wp2
      exact HKK.out _ _ ⟨_,(by simp[upd];done),Below.refl _ _,rfl,fun _ _ _ h=>h⟩
     |2,_=>
      refine wpOp_oneH rfl fun KK HKK =>?_
      clear hd
      go_wp2
      exact HKK.out _ _ ⟨_,(by simp[upd];done),Below.refl _ _,rfl,fun _ _ _ h=>h⟩
     |3,_=>
      have h1:v 1 = .slice (some ⟨b,off,none⟩) L.length c:=hd 1 (List.elem_iff.1 (by kernel_rfl))
      have h2:v 2 = .int .i64 (k:Int):=hd 2 (List.elem_iff.1 (by kernel_rfl))
      refine wpOp_oneH rfl fun KK HKK =>?_
      clear hd
      rw[h1,h2]
      go_wp2
      exact HKK.out _ _ ⟨_,(by simp[upd,h1,h2];done),Below.refl _ _,rfl,fun _ _ _ h=>h⟩
     |4,_=>
      have h3:v 3 = .pointer (some ⟨b,off+k*14,none⟩):=hd 3 (List.elem_iff.1 (by kernel_rfl))
      refine wpOp_oneH rfl fun KK HKK =>?_
      clear hd
      rw[h3]
      go_wp2
      exact HKK.out _ _ ⟨_,(by simp[upd,h3];done),Below.refl _ _,rfl,fun _ _ _ h=>h⟩
     |5,_=>
      have h4:v 4 = .pointer (some ⟨b,off+k*14+1,none⟩):=hd 4 (List.elem_iff.1 (by kernel_rfl))
      refine wpOp_oneH rfl fun KK HKK =>?_
      clear hd
      have q0:=cell_later hb kc0
      have q1:=cell_later hb kc1
      have q2:=cell_later hb kc2
      have q3:=cell_later hb kc3
      rw[h4]
      go_wp2
      exact HKK.out _ _ ⟨_,(by simp[upd,h4];done),Below.refl _ _,rfl,fun _ _ _ h=>h⟩
     |6,_=>
      have h0:v 0 = .agg #[.slice Kov kov.length ckov,.slice Zov zov.length czov,.slice Hov hov.length chov,.slice Bov bov.length cbov,.int .i64 rov]:=hd 0 (List.elem_iff.1 (by kernel_rfl))
      have h5:v 5 = .agg #[.slice S n.s.length cs,.slice E n.e.length ce,.slice P n.b.length cp,.slice U n.ws.length cu]:=hd 5 (List.elem_iff.1 (by kernel_rfl))
      refine wpOp_oneH rfl fun KK HKK =>?_
      clear hd
      rw[h0,h5]
      go_wp2_with fail
      refine(TK.out _ hb).mono ?_
      rintro e w'' ⟨⟨p1,q2,q1,p3,q5,q4,p6,q8,q7,p9,q11,q10,q12⟩,rfl,hq,hV,hL,bV⟩
      have HL9:=Hd (hL.lower hb.size)
      clear hL
      unfold vwCells
      dsimp only
      go_wp2
      exact HKK.out _ _ ⟨_,(by simp[upd,h0,h5,vwCells];done),bV.mono hb.size,⟨⟨p1,q2,q1,p3,q5,q4,p6,q8,q7,p9,q11,q10,q12⟩,rfl,hq,hV,HL9.out⟩,fun _ _ _ h=>h.later bV⟩
     |7,_=>
      obtain⟨⟨p1,q2,q1,p3,q5,q4,p6,q8,q7,p9,q11,q10,q12⟩,h6,m6,o6,l6⟩:=hd 6 (List.elem_iff.1 (by kernel_rfl))
      have h6:v 6 = .tuple #[.agg #[.slice p1 q1.length q2,.slice p3 q4.length q5,.slice p6 q7.length q8,.slice p9 q10.length q11,.int .i64 q12],.int .i64 er]:=h6
      refine wpOp_oneH rfl fun KK HKK =>?_
      clear hd
      rw[h6]
      go_wp2
      exact HKK.out _ _ ⟨_,(by simp[upd,h6,vwCells];done),Below.refl _ _,⟨⟨p1,q2,q1,p3,q5,q4,p6,q8,q7,p9,q11,q10,q12⟩,rfl,m6,o6,l6⟩,fun _ _ _ h=>h⟩
     |8,_=>
      obtain⟨⟨p1,q2,q1,p3,q5,q4,p6,q8,q7,p9,q11,q10,q12⟩,h7,m7,o7,l7⟩:=hd 7 (List.elem_iff.1 (by kernel_rfl))
      have h7:v 7 = .tuple #[.agg #[.slice p1 q1.length q2,.slice p3 q4.length q5,.slice p6 q7.length q8,.slice p9 q10.length q11,.int .i64 q12],.int .i64 er]:=h7
      refine wpOp_oneH rfl fun KK HKK =>?_
      clear hd
      rw[h7]
      go_wp2
      exact HKK.out _ _ ⟨_,(by simp[upd,h7,vwCells];done),Below.refl _ _,⟨⟨p1,q2,q1,p3,q5,q4,p6,q8,q7,p9,q11,q10,q12⟩,rfl,m7,o7,l7⟩,fun _ _ _ h=>h⟩
     |9,_=>
      obtain⟨⟨p1,q2,q1,p3,q5,q4,p6,q8,q7,p9,q11,q10,q12⟩,h7,m7,o7,l7⟩:=hd 7 (List.elem_iff.1 (by kernel_rfl))
      have h7:v 7 = .tuple #[.agg #[.slice p1 q1.length q2,.slice p3 q4.length q5,.slice p6 q7.length q8,.slice p9 q10.length q11,.int .i64 q12],.int .i64 er]:=h7
      refine wpOp_oneH rfl fun KK HKK =>?_
      clear hd
      rw[h7]
      go_wp2
      exact HKK.out _ _ ⟨_,(by simp[upd,h7];done),Below.refl _ _,rfl,fun _ _ _ h=>h⟩
     |10,_=>
      refine wpOp_oneH rfl fun KK HKK =>?_
      clear hd
      go_wp2
      exact HKK.out _ _ ⟨_,(by simp[upd];done),(below_new (Below.refl w'.heap.size w') (.cells #[.slice none 0 0,.slice none 0 0,.slice none 0 0,.slice none 0 0,.int .i64 0] 27)).mono hb.size,⟨w'.heap.size,Vl.none,rfl,hb.size,Blk.new _ _ _⟩,fun _ _ _ h=>h.later (below_new (Below.refl w'.heap.size w') (.cells #[.slice none 0 0,.slice none 0 0,.slice none 0 0,.slice none 0 0,.int .i64 0] 27))⟩
     |11,_=>
      obtain⟨⟨p1,q2,q1,p3,q5,q4,p6,q8,q7,p9,q11,q10,q12⟩,h8,m8,o8,l8⟩:=hd 8 (List.elem_iff.1 (by kernel_rfl))
      have h8:v 8 = .agg #[.slice p1 q1.length q2,.slice p3 q4.length q5,.slice p6 q7.length q8,.slice p9 q10.length q11,.int .i64 q12]:=h8
      obtain⟨g9,y9,h9,l9,o9⟩:=hd 10 (List.elem_iff.1 (by kernel_rfl))
      refine wpOp_oneH rfl fun KK HKK =>?_
      clear hd
      rw[h8,h9]
      have FIN:=Hd (fun kk9=>NwF.store (B:=wr.heap.size) (kk:=kk9) (er:=er) (p:=y9) h9 l9 o9 m8 o8 l8)
      obtain⟨Kt,ckt,kt,Zt,czt,zt,Ht,cht,ht,Bt,cbt,bt,rt⟩:=y9
      unfold vwCells at o9
      dsimp only at o9
      have kz0':=o9.cell (i:=0) rfl
      have kz1':=o9.cell (i:=1) rfl
      have kz2':=o9.cell (i:=2) rfl
      have kz3':=o9.cell (i:=3) rfl
      have kz4':=o9.cell (i:=4) rfl
      have u0':=o9.free 0
      have u1':=o9.free 1
      have u2':=o9.free 2
      have u3':=o9.free 3
      have u4':=o9.free 4
      go_wp2
      exact HKK.out _ _ ⟨undef,(by simp[upd,h8,h9];done),(FIN.out (fun _=>undef)).1,(FIN.out _).2.1 undef,fun j hj=>(FIN.out _).2.2 j (by omega)⟩
    case done=>
     intro v w' hb hf
     have h9:v 9 = .int .i64 er:=hf 9 (by omega)
     obtain⟨g9,q7,h10,m10,o10,m7,o7,l7⟩:=hf 11 (by omega)
     clear hf
     simp only[List.drop_succ_cons,List.drop_zero]
     rw[h9,h10]
     clear h9 h10
     generalize v 0=va0
     generalize v 1=va1
     generalize v 2=va2
     generalize v 3=va3
     generalize v 4=va4
     generalize v 5=va5
     generalize v 6=va6
     generalize v 7=va7
     generalize v 8=va8
     clear v
     clear X_0 X_1 X_2 X_3 X_4
     clear TK kc0 kc1 kc2 kc3
     have HCA6:=Hd (Clear.newA RA.out (Nat.le_refl _) l7)
     have HCY6:=Hd (Clear.newY RY.out (Nat.le_refl _) l7)
     replace HX:=Hd (HX.out.later hb)
     have HB4:=Hd (below_on HBW.out hb)
     clear HBW
     replace XV:=Hd (XV.out.later hb)
     replace RA:=Hd (RA.out.later hb)
     replace RY:=Hd (RY.out.later hb)
     clear hb l7
     obtain⟨Knv,cknv,knv,Znv,cznv,znv,Hnv,chnv,hnv,Bnv,cbnv,bnv,rnv⟩:=q7
     have HQnv:=Hd m7
     have XVnv:=Hd o7
     unfold vwCells at o10
     dsimp only at o10
     have HT:=Hd o10
     have HG9:=Hd m10
     clear m7 o7 o10 m10
     by_cases her:er=0
     rotate_left
     ·
      have dr:(er == 0)=false:=beq_eq_false_iff_ne.2 her
      clear her
      go_wp2_with fail
      go_roundw
      case rel=>exact⟨k+1,⟨Kov,ckov,kov,Zov,czov,zov,Hov,chov,hov,Bov,cbov,bov,rov⟩,all,M,by omega,by go_num,RA.out,RY.out,HMY.out,by rw[HPV.out];exact HNW.out,HTOP.out,by omega,by omega,XV.out,HCA.out,HCY.out,HX.out,HB4.out⟩
      case measure=>simp[intOf];omega
     have dr:(er == 0)=true:=by rw[her];rfl
     have h00:(Vw.takeR vv n).2=0:=by rw[HNX.out];exact her
     have hnw:=Vw.nw_take HNW.out h00
     have hfm:=(Vw.take_gave h00).2.1
     have hvk:vv.k=kov:=by rw[←HPV.out];rfl
     have htop:=Vw.take_top h00 (by rw[hvk];exact HTOP.out) (fun i _=>Ve.cnt_low HLOW.out i)
     rw[HNX.out]at hnw htop
     dsimp only at hnw htop
     have HNW6:=Hd hnw
     have HTOP6:=Hd htop
     have hwl:=Vw.ws_len hfm
     clear her h00 hnw hfm hvk htop HNX
     have hg7:=HG7.out
     have hg79:g7≠g9:=by have:=HG9.out;have:=HGW.out;omega
     have T_0:=HT.out.cell (i:=0) rfl
     have T_1:=HT.out.cell (i:=1) rfl
     have T_2:=HT.out.cell (i:=2) rfl
     have T_3:=HT.out.cell (i:=3) rfl
     have T_4:=HT.out.cell (i:=4) rfl
     have X_0:=HX.out.cell (i:=0) rfl
     have X_1:=HX.out.cell (i:=1) rfl
     have X_2:=HX.out.cell (i:=2) rfl
     have X_3:=HX.out.cell (i:=3) rfl
     have X_4:=HX.out.cell (i:=4) rfl
     have X_f0:=HX.out.free 0
     have X_f1:=HX.out.free 1
     have X_f2:=HX.out.free 2
     have X_f3:=HX.out.free 3
     have X_f4:=HX.out.free 4
     go_upto_region 22 with (fail)
     clear T_0 T_1 T_2 T_3 T_4 X_0 X_1 X_2 X_3 X_4 X_f0 X_f1 X_f2 X_f3 X_f4
     obtain⟨w5,hw5⟩:∃x,w'.setCell ⟨g7,0,none⟩ (.slice Knv knv.length cknv)=x:=⟨_,rfl⟩
     have t_RA:=RA.out.far HX.out rfl 0 (.slice Knv knv.length cknv)
     have t_RY:=RY.out.far HX.out rfl 0 (.slice Knv knv.length cknv)
     have t_XVnv:=XVnv.out.far HX.out rfl 0 (.slice Knv knv.length cknv)
     have t_HT:=HT.out.far (p:=⟨g7,0,none⟩) (by show g9≠g7;omega) (.slice Knv knv.length cknv)
     have t_HX:Blk (w'.setCell ⟨g7,0,none⟩ (.slice Knv knv.length cknv)) (g7) 27 #[.slice Knv knv.length cknv,.slice Zov zov.length czov,.slice Hov hov.length chov,.slice Bov bov.length cbov,.int .i64 rov]:=HX.out.put 0 (.slice Knv knv.length cknv)
     have t_HB5:=HB4.out.setCell (p:=⟨g7,0,none⟩) (by show w.heap.size≤g7;omega) (.slice Knv knv.length cknv)
     rw[hw5]at t_RA t_RY t_XVnv t_HT t_HX t_HB5
     rw[hw5]
     replace RA:=Hd t_RA
     replace RY:=Hd t_RY
     replace XVnv:=Hd t_XVnv
     replace HT:=Hd t_HT
     replace HX:=Hd t_HX
     have HB5:=Hd t_HB5
     clear t_RA t_RY t_XVnv t_HT t_HX t_HB5 hw5 HB4
     obtain⟨w6,hw6⟩:∃x,w5.setCell ⟨g7,1,none⟩ (.slice Znv znv.length cznv)=x:=⟨_,rfl⟩
     have t_RA:=RA.out.far HX.out rfl 1 (.slice Znv znv.length cznv)
     have t_RY:=RY.out.far HX.out rfl 1 (.slice Znv znv.length cznv)
     have t_XVnv:=XVnv.out.far HX.out rfl 1 (.slice Znv znv.length cznv)
     have t_HT:=HT.out.far (p:=⟨g7,1,none⟩) (by show g9≠g7;omega) (.slice Znv znv.length cznv)
     have t_HX:Blk (w5.setCell ⟨g7,1,none⟩ (.slice Znv znv.length cznv)) (g7) 27 #[.slice Knv knv.length cknv,.slice Znv znv.length cznv,.slice Hov hov.length chov,.slice Bov bov.length cbov,.int .i64 rov]:=HX.out.put 1 (.slice Znv znv.length cznv)
     have t_HB6:=HB5.out.setCell (p:=⟨g7,1,none⟩) (by show w.heap.size≤g7;omega) (.slice Znv znv.length cznv)
     rw[hw6]at t_RA t_RY t_XVnv t_HT t_HX t_HB6
     rw[hw6]
     replace RA:=Hd t_RA
     replace RY:=Hd t_RY
     replace XVnv:=Hd t_XVnv
     replace HT:=Hd t_HT
     replace HX:=Hd t_HX
     have HB6:=Hd t_HB6
     clear t_RA t_RY t_XVnv t_HT t_HX t_HB6 hw6 HB5
     obtain⟨w7,hw7⟩:∃x,w6.setCell ⟨g7,2,none⟩ (.slice Hnv hnv.length chnv)=x:=⟨_,rfl⟩
     have t_RA:=RA.out.far HX.out rfl 2 (.slice Hnv hnv.length chnv)
     have t_RY:=RY.out.far HX.out rfl 2 (.slice Hnv hnv.length chnv)
     have t_XVnv:=XVnv.out.far HX.out rfl 2 (.slice Hnv hnv.length chnv)
     have t_HT:=HT.out.far (p:=⟨g7,2,none⟩) (by show g9≠g7;omega) (.slice Hnv hnv.length chnv)
     have t_HX:Blk (w6.setCell ⟨g7,2,none⟩ (.slice Hnv hnv.length chnv)) (g7) 27 #[.slice Knv knv.length cknv,.slice Znv znv.length cznv,.slice Hnv hnv.length chnv,.slice Bov bov.length cbov,.int .i64 rov]:=HX.out.put 2 (.slice Hnv hnv.length chnv)
     have t_HB7:=HB6.out.setCell (p:=⟨g7,2,none⟩) (by show w.heap.size≤g7;omega) (.slice Hnv hnv.length chnv)
     rw[hw7]at t_RA t_RY t_XVnv t_HT t_HX t_HB7
     rw[hw7]
     replace RA:=Hd t_RA
     replace RY:=Hd t_RY
     replace XVnv:=Hd t_XVnv
     replace HT:=Hd t_HT
     replace HX:=Hd t_HX
     have HB7:=Hd t_HB7
     clear t_RA t_RY t_XVnv t_HT t_HX t_HB7 hw7 HB6
     obtain⟨w8,hw8⟩:∃x,w7.setCell ⟨g7,3,none⟩ (.slice Bnv bnv.length cbnv)=x:=⟨_,rfl⟩
     have t_RA:=RA.out.far HX.out rfl 3 (.slice Bnv bnv.length cbnv)
     have t_RY:=RY.out.far HX.out rfl 3 (.slice Bnv bnv.length cbnv)
     have t_XVnv:=XVnv.out.far HX.out rfl 3 (.slice Bnv bnv.length cbnv)
     have t_HT:=HT.out.far (p:=⟨g7,3,none⟩) (by show g9≠g7;omega) (.slice Bnv bnv.length cbnv)
     have t_HX:Blk (w7.setCell ⟨g7,3,none⟩ (.slice Bnv bnv.length cbnv)) (g7) 27 #[.slice Knv knv.length cknv,.slice Znv znv.length cznv,.slice Hnv hnv.length chnv,.slice Bnv bnv.length cbnv,.int .i64 rov]:=HX.out.put 3 (.slice Bnv bnv.length cbnv)
     have t_HB8:=HB7.out.setCell (p:=⟨g7,3,none⟩) (by show w.heap.size≤g7;omega) (.slice Bnv bnv.length cbnv)
     rw[hw8]at t_RA t_RY t_XVnv t_HT t_HX t_HB8
     rw[hw8]
     replace RA:=Hd t_RA
     replace RY:=Hd t_RY
     replace XVnv:=Hd t_XVnv
     replace HT:=Hd t_HT
     replace HX:=Hd t_HX
     have HB8:=Hd t_HB8
     clear t_RA t_RY t_XVnv t_HT t_HX t_HB8 hw8 HB7
     obtain⟨w9,hw9⟩:∃x,w8.setCell ⟨g7,4,none⟩ (.int .i64 rnv)=x:=⟨_,rfl⟩
     have t_RA:=RA.out.far HX.out rfl 4 (.int .i64 rnv)
     have t_RY:=RY.out.far HX.out rfl 4 (.int .i64 rnv)
     have t_XVnv:=XVnv.out.far HX.out rfl 4 (.int .i64 rnv)
     have t_HT:=HT.out.far (p:=⟨g7,4,none⟩) (by show g9≠g7;omega) (.int .i64 rnv)
     have t_HX:Blk (w8.setCell ⟨g7,4,none⟩ (.int .i64 rnv)) (g7) 27 #[.slice Knv knv.length cknv,.slice Znv znv.length cznv,.slice Hnv hnv.length chnv,.slice Bnv bnv.length cbnv,.int .i64 rnv]:=HX.out.put 4 (.int .i64 rnv)
     have t_HB9:=HB8.out.setCell (p:=⟨g7,4,none⟩) (by show w.heap.size≤g7;omega) (.int .i64 rnv)
     rw[hw9]at t_RA t_RY t_XVnv t_HT t_HX t_HB9
     rw[hw9]
     replace RA:=Hd t_RA
     replace RY:=Hd t_RY
     replace XVnv:=Hd t_XVnv
     replace HT:=Hd t_HT
     replace HX:=Hd t_HX
     have HB9:=Hd t_HB9
     clear t_RA t_RY t_XVnv t_HT t_HX t_HB9 hw9 HB8
     clear XV HCA HCY HT
     obtain⟨-,⟨-,-,-,kc3⟩,-⟩:=HAC.out w9 HB9.out
     go_wp2_with fail
     clear kc3
     have HHD:∃hv,nx.has=hv:=⟨_,rfl⟩
     obtain⟨hv,hhv⟩:=HHD
     have HHV:=Hd hhv
     clear hhv
     go_loopw [9,97] (fun s9 s97 w4=>∃(j:Nat) (l9:List Wr),j≤n.ws.length∧s97 = .int .i64 (j:Int)∧l9=all++(n.ws.take j).filter nx.has∧RowA w4 w.heap.size s9 l9∧RowY w4 w.heap.size (.slice A10 M.length c10) M∧VwAt w4 ⟨Knv,cknv,knv,Znv,cznv,znv,Hnv,chnv,hnv,Bnv,cbnv,bnv,rnv⟩∧Clear s9 ⟨Knv,cknv,knv,Znv,cznv,znv,Hnv,chnv,hnv,Bnv,cbnv,bnv,rnv⟩∧Blk w4 g7 27 #[.slice Knv knv.length cknv,.slice Znv znv.length cznv,.slice Hnv hnv.length chnv,.slice Bnv bnv.length cbnv,.int .i64 rnv]∧Below w.heap.size w w4) (fun _ s97 _=>n.ws.length-(intOf s97).toNat)
     case atStart=>exact⟨0,all,Nat.zero_le _,rfl,(by simp),RA.out,RY.out,XVnv.out,HCA6.out,HX.out,HB9.out⟩
     case round=>
      clear HX RA RY XVnv HCA6 HB9
      obtain⟨j,l9,hj,rfl,hl9,hra,hry,hV,hca,hX,hbw⟩:=hrel
      obtain⟨B9,d9,hv9,-,-,-,-⟩:=own_form hra.own
      subst hv9
      have hll:l9.length≤all.length+j:=by rw[hl9,List.length_append];have h1:=List.length_filter_le nx.has (n.ws.take j);rw[List.length_take]at h1;omega
      have RA:=Hd hra
      have RY:=Hd hry
      have XVnv:=Hd hV
      have HCA6:=Hd hca
      have HX:=Hd hX
      have HBV:=Hd hbw
      have HL9:=Hd hl9
      clear hra hry hV hca hX hbw hl9
      by_cases hjt:j<n.ws.length
      ·
       have hi0:(0:Int)≤(j:Int):=by omega
       have hi1:(j:Int)<(n.ws.length:Int):=by omega
       obtain⟨ub,uo,hU,-⟩:=(NoteAt.later HNA.out HBV.out).hv.at (fun h=>by rw[h]at hjt;exact absurd hjt (Nat.not_lt_zero _))
       obtain⟨y,hy⟩:∃y,n.ws[j]?=some y:=⟨n.ws[j],List.getElem?_eq_getElem hjt⟩
       have htk:=Vw.take_has (v:=nx) hy
       subst hU
       obtain⟨kc0,kc1,kc2,kc3⟩:=(NoteAt.later HNA.out HBV.out).hv.cells4 hy
       obtain⟨x0,x1,x2,x3⟩:=y
       dsimp only at kc0 kc1 kc2 kc3
       obtain⟨tb,hhb⟩:∃t,nx.has (x0,x1,x2,x3)=t:=⟨_,rfl⟩
       rw[hhb]at htk
       obtain⟨rl,hrl⟩:∃r,Tr.rchR nx.z nx.k x2=r:=⟨_,rfl⟩
       have hhs:hasOf rl x0 x1=tb:=by rw[←hrl,←hhb];rfl
       have hz6:znv.map Zc.zn=nx.z:=congrArg Vw.z HQnv.out
       have hk6:knv=nx.k:=congrArg Vw.k HQnv.out
       have RC:=Hd (fun wx (hbx:Below wr.heap.size wr wx)=>show Calls Tryz.prog 36 #[.slice Znv znv.length cznv,.slice Knv knv.length cknv,.int .i64 x2] wx (Gives rl wx) from by have h:=zreach_any Znv Knv cznv cknv znv knv x2 wx (XVnv.out.later hbx).z (XVnv.out.later hbx).k;rw[hz6,hk6,hrl]at h;rw[hk6];exact h)
       have HTK:=Hd htk
       have HHS:=Hd hhs
       clear hy htk hhb hrl hhs hz6 hk6
       have BR:=Hd (Below.refl wr.heap.size wr)
       obtain⟨gw,hggw⟩:∃gw,wr.heap.size=gw:=⟨_,rfl⟩
       have lt_X_gw:g7<gw:=by have:=HX.out.lt;rw[hggw]at this;exact this
       have le_gw:w.heap.size≤gw:=by have:=HBV.out.size;rw[hggw]at this;exact this
       have X_0:=HX.out.cell (i:=0) rfl
       have X_1:=HX.out.cell (i:=1) rfl
       have X_2:=HX.out.cell (i:=2) rfl
       have X_3:=HX.out.cell (i:=3) rfl
       have X_4:=HX.out.cell (i:=4) rfl
       go_upto_region 25 with (fail)
       have b10:=below_new (Below.refl wr.heap.size wr) (.cells #[.int .i64 x0,.int .i64 x1,.int .i64 x2,.bool x3] 52)
       have hW:=Blk.new wr 52 #[.int .i64 x0,.int .i64 x1,.int .i64 x2,.bool x3]
       obtain⟨w10,hw10⟩:∃x,wr.alloc (.cells #[.int .i64 x0,.int .i64 x1,.int .i64 x2,.bool x3] 52)=x:=⟨_,rfl⟩
       rw[hw10]at b10 hW
       rw[hw10]
       clear X_0 X_1 X_2 X_3 X_4
       replace HX:=Hd (HX.out.later b10)
       have HB10:=Hd (below_on HBV.out b10)
       clear HBV
       replace XVnv:=Hd (XVnv.out.later b10)
       replace RA:=Hd (RA.out.later b10)
       replace RY:=Hd (RY.out.later b10)
       replace BR:=Hd (below_on BR.out b10)
       rw[hggw]at hW
       have HW:=Hd hW
       clear b10 hw10 hW
       clear kc0 kc1 kc2 kc3
       have X_0:=HX.out.cell (i:=0) rfl
       have X_1:=HX.out.cell (i:=1) rfl
       have X_2:=HX.out.cell (i:=2) rfl
       have X_3:=HX.out.cell (i:=3) rfl
       have X_4:=HX.out.cell (i:=4) rfl
       have W_0:=HW.out.cell (i:=0) rfl
       have W_1:=HW.out.cell (i:=1) rfl
       have W_2:=HW.out.cell (i:=2) rfl
       have W_3:=HW.out.cell (i:=3) rfl
       have RC2:=Hd (fun wx (hbx:Below w10.heap.size w10 wx)=>RC.out wx (below_on BR.out hbx))
       clear RC
       refine wp_region_facts 9 (by kernel_rfl) (by kernel_rfl)
        (fun v=>{ tmps:=#[.slice (some ⟨b,off,none⟩) L.length c,.int .u16 room,.int .i64 o,undef,undef,undef,.bool false,.pointer (some ⟨g7,0,none⟩),.int .i64 0,.slice B9 l9.length d9,.slice A10 M.length c10,.int .i64 (k:Int),.pointer (some ⟨g9,0,none⟩),.int .i64 er,undef,.pointer (some ⟨gw,0,none⟩),u16,u17,u18,u19,u20,u21,undef,undef,undef,undef,undef,undef,.bool true,.bool false,.slice (some ⟨b,off,none⟩) L.length c,.int .i64 (L.length:Int),.bool false,.tuple #[.agg #[.slice Koo koo.length ckoo,.slice Zoo zoo.length czoo,.slice Hoo hoo.length choo,.slice Boo boo.length cboo,.int .i64 roo],.int .i64 0],.int .u16 room,.int .i64 room,.tuple #[.agg #[.slice Koo koo.length ckoo,.slice Zoo zoo.length czoo,.slice Hoo hoo.length choo,.slice Boo boo.length cboo,.int .i64 roo],.int .i64 0],.agg #[.slice Koo koo.length ckoo,.slice Zoo zoo.length czoo,.slice Hoo hoo.length choo,.slice Boo boo.length cboo,.int .i64 roo],.int .i64 0,.int .i64 0,.bool false,.int .i64 (k:Int),.slice (some ⟨b,off,none⟩) L.length c,.int .i64 (L.length:Int),.bool true,u45,u46,.slice (some ⟨b,off,none⟩) L.length c,.int .i64 (k:Int),.pointer (some ⟨b,off+k*14,none⟩),.pointer (some ⟨b,off+k*14,none⟩),.int .i64 kind,.int .u64 kw,.int .u64 (m:Int),u54,u55,u56,u57,u58,u59,u60,u61,u62,u63,u64,u65,u66,u67,u68,u69,u70,u71,u72,u73,u74,.bool true,.bool true,va7,va0,va1,va2,va3,va4,va5,va6,va8,.int .i64 er,.int .i64 er,.bool true,.agg #[.slice Knv knv.length cknv,.slice Znv znv.length cznv,.slice Hnv hnv.length chnv,.slice Bnv bnv.length cbnv,.int .i64 rnv],.slice (some ⟨b,off,none⟩) L.length c,.int .i64 (k:Int),.pointer (some ⟨b,off+k*14,none⟩),.pointer (some ⟨b,off+k*14+1,none⟩),.pointer (some ⟨b,off+k*14+1+3,none⟩),.slice (some ⟨ub,uo,none⟩) n.ws.length cu,.int .i64 (n.ws.length:Int),.int .i64 (j:Int),.bool true,.pointer (some ⟨ub,uo+j*4,none⟩),.agg #[.int .i64 x0,.int .i64 x1,.int .i64 x2,.bool x3],v 0,v 1,v 2,v 3,v 4,v 5,v 6,v 7,v 8,u110,u111,u112,u113,u114,u115,u116,u117,u118,u119,u120,u121,u122,u123,u124,u125,u126,u127,u128,u129,u130,u131,u132,u133,u134,u135,u136,u137,u138,u139,u140,u141,u142,u143,u144,u145,u146,u147,u148,u149,u150,u151,u152,u153,u154,u155,u156,u157,u158,u159,u160,u161,u162,u163,u164,u165,u166,u167,u168,u169,u170,u171,undef,undef,undef,undef,undef,undef,undef,undef,undef,undef,undef,undef,undef,undef,undef,undef,undef,undef,undef,undef,undef,undef,undef,undef,undef,undef,undef,undef,undef,undef,undef,undef,undef,undef,undef,undef,undef,undef,undef,undef,undef,undef,undef,undef,undef,undef,undef,undef,undef,undef,undef,undef,undef,undef,undef,undef,undef,undef,undef,undef,undef,undef,undef,undef,undef,undef,undef,undef,undef,undef,undef,undef,undef,undef,undef,undef,undef,undef,undef,undef,undef,undef,undef,undef],defers:=[] }) (fun i=>match i with|0=>u101|1=>u102|2=>u103|3=>u104|4=>u105|5=>u106|6=>u107|7=>u108|8=>u109|_=>undef)
        (fun i x wx=>match i with
         |0=>x = .pointer (some ⟨g7,1,none⟩)
         |1=>x = .slice Znv znv.length cznv
         |2=>x = .pointer (some ⟨g7,0,none⟩)
         |3=>x = .slice Knv knv.length cknv
         |4=>x = .pointer (some ⟨gw,2,none⟩)
         |5=>x = .int .i64 x2
         |6=>∃A9 c9,x = .slice A9 rl.length c9∧OneL wx A9 c9 rl
         |7=>x = .pointer (some ⟨gw,0,none⟩)
         |8=>x = .agg #[.int .i64 x0,.int .i64 x1]
         |_=>True)
        (fun w1 w2=>Below w1.heap.size w1 w2) (fun h1 h2=>below_on h1 h2) (fun _=>Below.refl _ _) (Below.drew (Below.refl _ _)) ?stabA ?stepA ?doneA
       case stabA=>
        rintro i x w1 w2 h hb
        match i,h with
        |0,h=>exact h
        |1,h=>exact h
        |2,h=>exact h
        |3,h=>exact h
        |4,h=>exact h
        |5,h=>exact h
        |6,h=>obtain⟨A9,c9,e9,h9⟩:=h;exact⟨A9,c9,e9,h9.later hb⟩
        |7,h=>exact h
        |8,h=>exact h
        |i+9,_=>trivial
       case stepA=>
        intro i hi v w' hb hd
        match i,hi with
        |0,_=>
         refine wpOp_oneH rfl fun KK HKK =>?_
         clear hd
         go_wp2
         exact HKK.out _ _ ⟨_,(by simp[upd];done),Below.refl _ _,rfl⟩
        |1,_=>
         have h0:v 0=_:=hdx hd 0 (by kernel_rfl)
         refine wpOp_oneH rfl fun KK HKK =>?_
         clear hd
         rw[h0]
         have q0:=cell_later hb X_1
         go_wp2
         exact HKK.out _ _ ⟨_,(by simp[upd,h0];done),Below.refl _ _,rfl⟩
        |2,_=>
         refine wpOp_oneH rfl fun KK HKK =>?_
         clear hd
         go_wp2
         exact HKK.out _ _ ⟨_,(by simp[upd];done),Below.refl _ _,rfl⟩
        |3,_=>
         have h2:v 2=_:=hdx hd 2 (by kernel_rfl)
         refine wpOp_oneH rfl fun KK HKK =>?_
         clear hd
         rw[h2]
         have q0:=cell_later hb X_0
         go_wp2
         exact HKK.out _ _ ⟨_,(by simp[upd,h2];done),Below.refl _ _,rfl⟩
        |4,_=>
         refine wpOp_oneH rfl fun KK HKK =>?_
         clear hd
         go_wp2
         exact HKK.out _ _ ⟨_,(by simp[upd];done),Below.refl _ _,rfl⟩
        |5,_=>
         have h4:v 4=_:=hdx hd 4 (by kernel_rfl)
         refine wpOp_oneH rfl fun KK HKK =>?_
         clear hd
         rw[h4]
         have q0:=cell_later hb W_2
         go_wp2
         exact HKK.out _ _ ⟨_,(by simp[upd,h4];done),Below.refl _ _,rfl⟩
        |6,_=>
         have h1:v 1=_:=hdx hd 1 (by kernel_rfl)
         have h3:v 3=_:=hdx hd 3 (by kernel_rfl)
         have h5:v 5=_:=hdx hd 5 (by kernel_rfl)
         refine wpOp_oneH rfl fun KK HKK =>?_
         clear hd
         rw[h1,h3,h5]
         go_wp2_with fail
         refine(RC2.out _ hb).mono ?_
         rintro e w'' ⟨u,rfl,ho,b⟩
         obtain⟨A9,c9,rfl,hB⟩:=OneL.of_own ho
         go_wp2
         exact HKK.out _ _ ⟨_,(by simp[upd,h1,h3,h5];done),b,A9,c9,rfl,hB⟩
        |7,_=>
         refine wpOp_oneH rfl fun KK HKK =>?_
         clear hd
         go_wp2
         exact HKK.out _ _ ⟨_,(by simp[upd];done),Below.refl _ _,rfl⟩
        |8,_=>
         have h7:v 7=_:=hdx hd 7 (by kernel_rfl)
         refine wpOp_oneH rfl fun KK HKK =>?_
         clear hd
         rw[h7]
         have q0:=cell_later hb W_0
         have q1:=cell_later hb W_1
         go_wp2
         exact HKK.out _ _ ⟨_,(by simp[upd,h7];done),Below.refl _ _,rfl⟩
        |k+9,hk=>exact absurd hk (by omega)
       case doneA=>
        intro v w5 hb hf
        have h0:v 0=_:=hf 0 (by decide)
        have h1:v 1=_:=hf 1 (by decide)
        have h2:v 2=_:=hf 2 (by decide)
        have h3:v 3=_:=hf 3 (by decide)
        have h4:v 4=_:=hf 4 (by decide)
        have h5:v 5=_:=hf 5 (by decide)
        obtain⟨A6,c6,h6,o6⟩:=hf 6 (by decide)
        have h7:v 7=_:=hf 7 (by decide)
        have h8:v 8=_:=hf 8 (by decide)
        clear hf
        rw[h0,h1,h2,h3,h4,h5,h6,h7,h8]
        clear X_0 X_1 X_2 X_3 X_4 W_0 W_1 W_2 W_3
        replace HX:=Hd (HX.out.later hb)
        replace HW:=Hd (HW.out.later hb)
        have HB11:=Hd (below_on HB10.out hb)
        clear HB10
        replace XVnv:=Hd (XVnv.out.later hb)
        replace RA:=Hd (RA.out.later hb)
        replace RY:=Hd (RY.out.later hb)
        replace BR:=Hd (below_on BR.out hb)
        clear hb
        have NH:=Hd (show Calls Tryz.prog 35 #[.slice A6 rl.length c6,.agg #[.int .i64 x0,.int .i64 x1]] w5 (Says (.bool tb) w5) from by rw[←HHS.out];exact rhas_any A6 c6 rl x0 x1 w5 o6.len o6.stamps)
        clear RC2 o6
        go_wp2_with fail
        refine(NH.out).mono ?_
        rintro e w12 ⟨rfl,b12⟩
        replace HX:=Hd (HX.out.later b12)
        replace HW:=Hd (HW.out.later b12)
        have HB12:=Hd (below_on HB11.out b12)
        clear HB11
        replace XVnv:=Hd (XVnv.out.later b12)
        replace RA:=Hd (RA.out.later b12)
        replace RY:=Hd (RY.out.later b12)
        replace BR:=Hd (below_on BR.out b12)
        clear b12 NH HHS
        cases tb with
        |false=>
         have HTK2:=Hd (show l9=all++(n.ws.take (j+1)).filter nx.has from by rw[HTK.out,HL9.out];simp)
         clear HTK HL9
         go_wp2_with fail
         go_roundw
         case rel=>exact⟨j+1,l9,by omega,by go_num,HTK2.out,RA.out,RY.out,XVnv.out,HCA6.out,HX.out,HB12.out⟩
         case measure=>simp[intOf];omega
        |true=>
         have HTK2:=Hd (show l9++[(x0,x1,x2,x3)]=all++(n.ws.take (j+1)).filter nx.has from by rw[HTK.out,HL9.out];simp)
         clear HTK HL9
         have W_0:=HW.out.cell (i:=0) rfl
         have W_1:=HW.out.cell (i:=1) rfl
         have W_2:=HW.out.cell (i:=2) rfl
         have W_3:=HW.out.cell (i:=3) rfl
         have bn:=below_new (Below.refl w12.heap.size w12) (.cells #[.int .i64 x0,.int .i64 x1,.int .i64 x2,.bool x3] 52)
         have R2A:=RA.out.later bn
         have R2Y:=RY.out.later bn
         have V2:=XVnv.out.later bn
         have BB:=Hd (below_on HB12.out bn)
         have B2X:=HX.out.later bn
         have hszw:w.heap.size≤(w12.alloc (.cells #[.int .i64 x0,.int .i64 x1,.int .i64 x2,.bool x3] 52)).heap.size:=BB.out.size
         have hrow2:=R2A.own
         have HNL:=Hd (show Lies (w12.alloc (.cells #[.int .i64 x0,.int .i64 x1,.int .i64 x2,.bool x3] 52)) (some ⟨w12.heap.size,0,none⟩) (Nt.wrCells [(x0,x1,x2,x3)]) from fun _=>⟨w12.heap.size,0,rfl,fun j u hu=>by rw[Nat.zero_add];exact(Blk.new w12 52 #[.int .i64 x0,.int .i64 x1,.int .i64 x2,.bool x3]).cell (by simpa[Nt.wrCells,Nt.wrCell] using hu)⟩)
         clear bn
         go_wp2_with (at_builtin;refine Go.Proofs.YtjlfehpockfkdaaGreat.wpList_append_lies _ rfl _ _ 24 rfl w.heap.size 52 i0 (.agg #[.int .i64 0,.int .i64 0,.int .i64 0,.bool false]) 4 32 Tryz.underlying24 hI hz0 hz1 hz2 rfl (by decide) _ l9.length (Nt.wrCells l9) rfl hrow2 (some ⟨w12.heap.size,0,none⟩) 1 1 (fun h=>by cases h) (Nt.wrCells [(x0,x1,x2,x3)]) rfl rfl HNL.out (Nt.wrCells_one _) ?h63 ?hbytes hszw ?_)
         case h63=>unfold maxLen;omega
         case hbytes=>omega
         intro v' wz hownz hgz hvb
         clear W_0 W_1 W_2 W_3
         have hra3:RowA wz w.heap.size v' (l9++[(x0,x1,x2,x3)]):=RowA.snoc (l2:=[(x0,x1,x2,x3)]) hownz rfl
         clear hrow2 hszw HNL
         have RY3:=Hd (R2Y.grown R2A hgz)
         have XV3:=Hd (V2.grown hgz (fun g hg=>HCA6.out g hg))
         have HC3:=Hd (HCA6.out.grown V2 (by first|exact hvb|(rw[World.size_alloc];exact hvb)))
         have B3X:=Hd (R2A.box B2X (by decide) hgz)
         have BB3:=Hd (BB.out.grown hgz (by have:=BB.out.size;omega) (fun r e=>own_ge R2A.own r e))
         clear HCA6 V2 R2A R2Y RA RY XVnv hgz hownz hvb BB HB12 B2X HX
         have RA:=Hd hra3
         have RY:=RY3
         clear hra3 RY3
         have HCA6:=HC3
         have XVnv:=XV3
         clear HC3 XV3
         have HX:=B3X
         clear B3X
         have HB13:=BB3
         clear BB3
         go_wp2_with fail
         go_roundw
         case rel=>exact⟨j+1,l9++[(x0,x1,x2,x3)],by omega,by go_num,HTK2.out,RA.out,RY.out,XVnv.out,HCA6.out,HX.out,HB13.out⟩
         case measure=>simp[intOf];omega
      obtain rfl:j=n.ws.length:=by omega
      have hd0:decide ((n.ws.length:Int)<(n.ws.length:Int))=false:=decide_eq_false (by omega)
      have HNW7:=Hd (show Vw.Nw nx l9 (M.map Bc.b) from by rw[HL9.out,List.take_length];exact HNW6.out)
      go_wp2_with fail
      go_roundw
      case rel=>exact⟨k+1,⟨Knv,cknv,knv,Znv,cznv,znv,Hnv,chnv,hnv,Bnv,cbnv,bnv,rnv⟩,l9,M,by omega,by go_num,RA.out,RY.out,HMY.out,by rw[HQnv.out];exact HNW7.out,by show Ve.top (Ve.cnt knv)≤9223372036854775807;rw[show knv=nx.k from congrArg Vw.k HQnv.out];exact HTOP6.out,by omega,by omega,XVnv.out,HCA6.out,HCY6.out,HX.out,HBV.out⟩
      case measure=>simp[intOf];omega
   have d0:((m:Int) == 0)=false:=by rw[beq_eq_false_iff_ne];omega
   by_cases hm1:m=1
   ·
    have d1:((m:Int) == 1)=true:=by rw[hm1];rfl
    clear hm0 hm1
    obtain⟨-,-,⟨kc0,kc1,kc2,kc3,kc4⟩,-⟩:=HAC.out wr HBW.out
    obtain⟨⟨nx,nn,er⟩,hnx⟩:∃t,Vw.writeR vv me ob sk val gone=t:=⟨_,rfl⟩
    have WK:=Hd (fun wx (hbx:Below wr.heap.size wr wx)=>show Calls Tryz.prog 37 #[.agg #[.slice Kov kov.length ckov,.slice Zov zov.length czov,.slice Hov hov.length chov,.slice Bov bov.length cbov,.int .i64 rov],.int .i64 me,.int .i64 ob,.int .i64 sk,.slice D val.length dd,.bool gone] wx (GivesVwNN nx nn er wx) from by have h:=SLO.out.write ⟨Kov,ckov,kov,Zov,czov,zov,Hov,chov,hov,Bov,cbov,bov,rov⟩ me ob sk D dd val gone wx HTOP.out (XV.out.later hbx) (HDA.out.later (below_on HBW.out hbx));rw[HPV.out,hnx]at h;exact h)
    have HNX:=Hd hnx
    clear hnx
    have HGW:=Hd HX.out.lt
    have BR:=Hd (Below.refl wr.heap.size wr)
    obtain⟨gd,hggd⟩:∃gd,wr.heap.size=gd:=⟨_,rfl⟩
    have lt_X_gd:g7<gd:=by have:=HX.out.lt;rw[hggd]at this;exact this
    have le_gd:w.heap.size≤gd:=by have:=HBW.out.size;rw[hggd]at this;exact this
    have le2_gd:wr.heap.size≤gd:=by omega
    go_upto_region 30 with (fail)
    have b4:=below_new (Below.refl wr.heap.size wr) (.cells #[.int .i64 me,.int .i64 ob,.int .i64 sk,.slice D val.length dd,.bool gone] 70)
    have hD:=Blk.new wr 70 #[.int .i64 me,.int .i64 ob,.int .i64 sk,.slice D val.length dd,.bool gone]
    obtain⟨w4,hw4⟩:∃x,wr.alloc (.cells #[.int .i64 me,.int .i64 ob,.int .i64 sk,.slice D val.length dd,.bool gone] 70)=x:=⟨_,rfl⟩
    rw[hw4]at b4 hD
    rw[hw4]
    replace HX:=Hd (HX.out.later b4)
    have HB4:=Hd (below_on HBW.out b4)
    clear HBW
    replace XV:=Hd (XV.out.later b4)
    replace RA:=Hd (RA.out.later b4)
    replace RY:=Hd (RY.out.later b4)
    replace BR:=Hd (below_on BR.out b4)
    rw[hggd]at hD
    have HD:=Hd hD
    clear b4 hw4 hD
    clear kc0 kc1 kc2 kc3 kc4
    have X_0:=HX.out.cell (i:=0) rfl
    have X_1:=HX.out.cell (i:=1) rfl
    have X_2:=HX.out.cell (i:=2) rfl
    have X_3:=HX.out.cell (i:=3) rfl
    have X_4:=HX.out.cell (i:=4) rfl
    have D_0:=HD.out.cell (i:=0) rfl
    have D_1:=HD.out.cell (i:=1) rfl
    have D_2:=HD.out.cell (i:=2) rfl
    have D_3:=HD.out.cell (i:=3) rfl
    have D_4:=HD.out.cell (i:=4) rfl
    have RA0:=RA
    have RY0:=RY
    have HGD:=Hd HD.out.lt
    have HGL:=Hd (show wr.heap.size≤gd from le2_gd)
    go_wp2_with fail
    refine(WK.out _ BR.out).mono ?_
    rintro e w5 ⟨q6,NS,NE,NP,NU,qs,qe,qp,qu,rfl,hq6,hV6,hN6,hL6,hLU,b5⟩
    clear X_0 X_1 X_2 X_3 X_4 D_0 D_1 D_2 D_3 D_4
    replace HX:=Hd (HX.out.later b5)
    replace HD:=Hd (HD.out.later b5)
    have HB5:=Hd (below_on HB4.out b5)
    clear HB4
    replace XV:=Hd (XV.out.later b5)
    replace RA:=Hd (RA.out.later b5)
    replace RY:=Hd (RY.out.later b5)
    replace BR:=Hd (below_on BR.out b5)
    clear b5 WK
    have HCA6:=Hd (Clear.newA RA0.out (Nat.le_refl _) hL6)
    have HCY6:=Hd (Clear.newY RY0.out (Nat.le_refl _) hL6)
    have HUA:=Hd (show ∀g,(Value.slice A9 all.length c9).ownBlock=some g→Off g NU from fun g hg=>hLU.off (own_lt RA0.out.own g hg))
    clear RA0 RY0 hL6 hLU BR
    obtain⟨Knv,cknv,knv,Znv,cznv,znv,Hnv,chnv,hnv,Bnv,cbnv,bnv,rnv⟩:=q6
    have HQnv:=Hd hq6
    have XVnv:=Hd hV6
    clear hq6 hV6
    unfold vwCells
    dsimp only
    have XN:=Hd hN6
    clear hN6
    unfold noteCells
    obtain⟨g9,hgg9⟩:∃g9,w5.heap.size=g9:=⟨_,rfl⟩
    have lt_X_g9:g7<g9:=by have:=HX.out.lt;rw[hgg9]at this;exact this
    have lt_D_g9:gd<g9:=by have:=HD.out.lt;rw[hgg9]at this;exact this
    have le_g9:w.heap.size≤g9:=by have:=HB5.out.size;rw[hgg9]at this;exact this
    have hT:=(Blk.new w5 27 #[.slice none 0 0,.slice none 0 0,.slice none 0 0,.slice none 0 0,.int .i64 0]).alloc (.cells #[.slice none 0 0,.slice none 0 0,.slice none 0 0,.slice none 0 0] 40)
    have hN:=Blk.new (w5.alloc (.cells #[.slice none 0 0,.slice none 0 0,.slice none 0 0,.slice none 0 0,.int .i64 0] 27)) 40 #[.slice none 0 0,.slice none 0 0,.slice none 0 0,.slice none 0 0]
    simp only[World.size_alloc]at hN
    rw[hgg9]at hT hN
    have t0:=hT.cell (i:=0) rfl
    have tf0:=hT.free 0
    have t1:=hT.cell (i:=1) rfl
    have tf1:=hT.free 1
    have t2:=hT.cell (i:=2) rfl
    have tf2:=hT.free 2
    have t3:=hT.cell (i:=3) rfl
    have tf3:=hT.free 3
    have t4:=hT.cell (i:=4) rfl
    have tf4:=hT.free 4
    have r0:=hN.cell (i:=0) rfl
    have rf0:=hN.free 0
    have r1:=hN.cell (i:=1) rfl
    have rf1:=hN.free 1
    have r2:=hN.cell (i:=2) rfl
    have rf2:=hN.free 2
    have r3:=hN.cell (i:=3) rfl
    have rf3:=hN.free 3
    go_upto_region 31 with (fail)
    clear hT hN t0 tf0 t1 tf1 t2 tf2 t3 tf3 t4 tf4 r0 rf0 r1 rf1 r2 rf2 r3 rf3
    have ba:=below_new (Below.refl w5.heap.size w5) (.cells #[.slice Knv knv.length cknv,.slice Znv znv.length cznv,.slice Hnv hnv.length chnv,.slice Bnv bnv.length cbnv,.int .i64 rnv] 27)
    have bb:=below_new ba (.cells #[.slice NS nn.s.length qs,.slice NE nn.e.length qe,.slice NP nn.b.length qp,.slice NU nn.ws.length qu] 40)
    clear ba
    have hT:=(Blk.new w5 27 #[.slice Knv knv.length cknv,.slice Znv znv.length cznv,.slice Hnv hnv.length chnv,.slice Bnv bnv.length cbnv,.int .i64 rnv]).alloc (.cells #[.slice NS nn.s.length qs,.slice NE nn.e.length qe,.slice NP nn.b.length qp,.slice NU nn.ws.length qu] 40)
    have hN:=Blk.new (w5.alloc (.cells #[.slice Knv knv.length cknv,.slice Znv znv.length cznv,.slice Hnv hnv.length chnv,.slice Bnv bnv.length cbnv,.int .i64 rnv] 27)) 40 #[.slice NS nn.s.length qs,.slice NE nn.e.length qe,.slice NP nn.b.length qp,.slice NU nn.ws.length qu]
    simp only[World.size_alloc]at hN
    rw[hgg9]at hT hN
    obtain⟨WB,hWB⟩:∃x,(w5.alloc (.cells #[.slice Knv knv.length cknv,.slice Znv znv.length cznv,.slice Hnv hnv.length chnv,.slice Bnv bnv.length cbnv,.int .i64 rnv] 27)).alloc (.cells #[.slice NS nn.s.length qs,.slice NE nn.e.length qe,.slice NP nn.b.length qp,.slice NU nn.ws.length qu] 40)=x:=⟨_,rfl⟩
    rw[hWB]at bb hT hN
    rw[hWB]
    clear hWB
    have HG9:=Hd (show wr.heap.size≤g9 from by have:=HGD.out;have h:=HD.out.lt;rw[hgg9]at h;have:=HGL.out;omega)
    replace HX:=Hd (HX.out.later bb)
    replace HD:=Hd (HD.out.later bb)
    have HB6:=Hd (below_on HB5.out bb)
    clear HB5
    replace XV:=Hd (XV.out.later bb)
    replace RA:=Hd (RA.out.later bb)
    replace RY:=Hd (RY.out.later bb)
    replace XVnv:=Hd (XVnv.out.later bb)
    replace XN:=Hd (XN.out.later bb)
    clear bb
    have HT:=Hd hT
    have HN:=Hd hN
    clear hT hN
    by_cases her:er=0
    rotate_left
    ·
     have dr:(er == 0)=false:=beq_eq_false_iff_ne.2 her
     clear her
     go_wp2_with fail
     go_roundw
     case rel=>exact⟨k+1,⟨Kov,ckov,kov,Zov,czov,zov,Hov,chov,hov,Bov,cbov,bov,rov⟩,all,M,by omega,by go_num,RA.out,RY.out,HMY.out,by rw[HPV.out];exact HNW.out,HTOP.out,by omega,by omega,XV.out,HCA.out,HCY.out,HX.out,HB6.out⟩
     case measure=>simp[intOf];omega
    have dr:(er == 0)=true:=by rw[her];rfl
    have h00:(Vw.writeR vv me ob sk val gone).2.2=0:=by rw[HNX.out];exact her
    obtain⟨wc,wn,hws,hnw⟩:=Vw.nw_write HNW.out h00
    have hvk:vv.k=kov:=by rw[←HPV.out];rfl
    have htop:=Vw.write_top HNW.out.ok (by rw[hvk];exact HTOP.out) h00
    rw[HNX.out]at hws hnw htop
    dsimp only at hws hnw htop
    have hl1:nn.ws.length=1:=by rw[hws];rfl
    rw[hl1]at HN
    have hN9:=HN.out
    clear HN
    have HN:=Hd hN9
    clear hN9
    have HTOP6:=Hd htop
    clear her h00 hvk htop HNX
    obtain⟨ub,uo,hU,-⟩:=XN.out.hv.at (by rw[hws];intro h;cases h)
    subst hU
    have hnl:=XN.out.hv.2.2.2
    rw[hws]at hnl
    have XL:=Hd hnl
    clear hnl XN hws
    obtain⟨tb,hhb⟩:∃t,nx.has (wc,wn,ob,gone)=t:=⟨_,rfl⟩
    rw[hhb]at hnw
    obtain⟨rl,hrl⟩:∃r,Tr.rchR nx.z nx.k ob=r:=⟨_,rfl⟩
    have hhs:hasOf rl wc wn=tb:=by rw[←hrl,←hhb];rfl
    have HNW6:=Hd hnw
    have HHS:=Hd hhs
    have HRL:=Hd hrl
    clear hnw hhb hrl hhs hl1
    have hg7:=HG7.out
    have hg79:g7≠g9:=by have:=HG9.out;have:=HGW.out;omega
    have T_0:=HT.out.cell (i:=0) rfl
    have T_1:=HT.out.cell (i:=1) rfl
    have T_2:=HT.out.cell (i:=2) rfl
    have T_3:=HT.out.cell (i:=3) rfl
    have T_4:=HT.out.cell (i:=4) rfl
    have X_0:=HX.out.cell (i:=0) rfl
    have X_1:=HX.out.cell (i:=1) rfl
    have X_2:=HX.out.cell (i:=2) rfl
    have X_3:=HX.out.cell (i:=3) rfl
    have X_4:=HX.out.cell (i:=4) rfl
    have X_f0:=HX.out.free 0
    have X_f1:=HX.out.free 1
    have X_f2:=HX.out.free 2
    have X_f3:=HX.out.free 3
    have X_f4:=HX.out.free 4
    go_upto_region 33 with (fail)
    clear T_0 T_1 T_2 T_3 T_4 X_0 X_1 X_2 X_3 X_4 X_f0 X_f1 X_f2 X_f3 X_f4
    obtain⟨w7,hw7⟩:∃x,WB.setCell ⟨g7,0,none⟩ (.slice Knv knv.length cknv)=x:=⟨_,rfl⟩
    have t_RA:=RA.out.far HX.out rfl 0 (.slice Knv knv.length cknv)
    have t_RY:=RY.out.far HX.out rfl 0 (.slice Knv knv.length cknv)
    have t_XVnv:=XVnv.out.far HX.out rfl 0 (.slice Knv knv.length cknv)
    have t_XL:=XL.out.farW HX.out rfl 0 (.slice Knv knv.length cknv)
    have t_HD:=HD.out.far (p:=⟨g7,0,none⟩) (by show gd≠g7;omega) (.slice Knv knv.length cknv)
    have t_HT:=HT.out.far (p:=⟨g7,0,none⟩) (by show g9≠g7;omega) (.slice Knv knv.length cknv)
    have t_HN:=HN.out.far (p:=⟨g7,0,none⟩) (by show g9+1≠g7;omega) (.slice Knv knv.length cknv)
    have t_HX:Blk (WB.setCell ⟨g7,0,none⟩ (.slice Knv knv.length cknv)) (g7) 27 #[.slice Knv knv.length cknv,.slice Zov zov.length czov,.slice Hov hov.length chov,.slice Bov bov.length cbov,.int .i64 rov]:=HX.out.put 0 (.slice Knv knv.length cknv)
    have t_HB7:=HB6.out.setCell (p:=⟨g7,0,none⟩) (by show w.heap.size≤g7;omega) (.slice Knv knv.length cknv)
    rw[hw7]at t_RA t_RY t_XVnv t_XL t_HD t_HT t_HN t_HX t_HB7
    rw[hw7]
    replace RA:=Hd t_RA
    replace RY:=Hd t_RY
    replace XVnv:=Hd t_XVnv
    replace XL:=Hd t_XL
    replace HD:=Hd t_HD
    replace HT:=Hd t_HT
    replace HN:=Hd t_HN
    replace HX:=Hd t_HX
    have HB7:=Hd t_HB7
    clear t_RA t_RY t_XVnv t_XL t_HD t_HT t_HN t_HX t_HB7 hw7 HB6
    obtain⟨w8,hw8⟩:∃x,w7.setCell ⟨g7,1,none⟩ (.slice Znv znv.length cznv)=x:=⟨_,rfl⟩
    have t_RA:=RA.out.far HX.out rfl 1 (.slice Znv znv.length cznv)
    have t_RY:=RY.out.far HX.out rfl 1 (.slice Znv znv.length cznv)
    have t_XVnv:=XVnv.out.far HX.out rfl 1 (.slice Znv znv.length cznv)
    have t_XL:=XL.out.farW HX.out rfl 1 (.slice Znv znv.length cznv)
    have t_HD:=HD.out.far (p:=⟨g7,1,none⟩) (by show gd≠g7;omega) (.slice Znv znv.length cznv)
    have t_HT:=HT.out.far (p:=⟨g7,1,none⟩) (by show g9≠g7;omega) (.slice Znv znv.length cznv)
    have t_HN:=HN.out.far (p:=⟨g7,1,none⟩) (by show g9+1≠g7;omega) (.slice Znv znv.length cznv)
    have t_HX:Blk (w7.setCell ⟨g7,1,none⟩ (.slice Znv znv.length cznv)) (g7) 27 #[.slice Knv knv.length cknv,.slice Znv znv.length cznv,.slice Hov hov.length chov,.slice Bov bov.length cbov,.int .i64 rov]:=HX.out.put 1 (.slice Znv znv.length cznv)
    have t_HB8:=HB7.out.setCell (p:=⟨g7,1,none⟩) (by show w.heap.size≤g7;omega) (.slice Znv znv.length cznv)
    rw[hw8]at t_RA t_RY t_XVnv t_XL t_HD t_HT t_HN t_HX t_HB8
    rw[hw8]
    replace RA:=Hd t_RA
    replace RY:=Hd t_RY
    replace XVnv:=Hd t_XVnv
    replace XL:=Hd t_XL
    replace HD:=Hd t_HD
    replace HT:=Hd t_HT
    replace HN:=Hd t_HN
    replace HX:=Hd t_HX
    have HB8:=Hd t_HB8
    clear t_RA t_RY t_XVnv t_XL t_HD t_HT t_HN t_HX t_HB8 hw8 HB7
    obtain⟨w9,hw9⟩:∃x,w8.setCell ⟨g7,2,none⟩ (.slice Hnv hnv.length chnv)=x:=⟨_,rfl⟩
    have t_RA:=RA.out.far HX.out rfl 2 (.slice Hnv hnv.length chnv)
    have t_RY:=RY.out.far HX.out rfl 2 (.slice Hnv hnv.length chnv)
    have t_XVnv:=XVnv.out.far HX.out rfl 2 (.slice Hnv hnv.length chnv)
    have t_XL:=XL.out.farW HX.out rfl 2 (.slice Hnv hnv.length chnv)
    have t_HD:=HD.out.far (p:=⟨g7,2,none⟩) (by show gd≠g7;omega) (.slice Hnv hnv.length chnv)
    have t_HT:=HT.out.far (p:=⟨g7,2,none⟩) (by show g9≠g7;omega) (.slice Hnv hnv.length chnv)
    have t_HN:=HN.out.far (p:=⟨g7,2,none⟩) (by show g9+1≠g7;omega) (.slice Hnv hnv.length chnv)
    have t_HX:Blk (w8.setCell ⟨g7,2,none⟩ (.slice Hnv hnv.length chnv)) (g7) 27 #[.slice Knv knv.length cknv,.slice Znv znv.length cznv,.slice Hnv hnv.length chnv,.slice Bov bov.length cbov,.int .i64 rov]:=HX.out.put 2 (.slice Hnv hnv.length chnv)
    have t_HB9:=HB8.out.setCell (p:=⟨g7,2,none⟩) (by show w.heap.size≤g7;omega) (.slice Hnv hnv.length chnv)
    rw[hw9]at t_RA t_RY t_XVnv t_XL t_HD t_HT t_HN t_HX t_HB9
    rw[hw9]
    replace RA:=Hd t_RA
    replace RY:=Hd t_RY
    replace XVnv:=Hd t_XVnv
    replace XL:=Hd t_XL
    replace HD:=Hd t_HD
    replace HT:=Hd t_HT
    replace HN:=Hd t_HN
    replace HX:=Hd t_HX
    have HB9:=Hd t_HB9
    clear t_RA t_RY t_XVnv t_XL t_HD t_HT t_HN t_HX t_HB9 hw9 HB8
    obtain⟨w10,hw10⟩:∃x,w9.setCell ⟨g7,3,none⟩ (.slice Bnv bnv.length cbnv)=x:=⟨_,rfl⟩
    have t_RA:=RA.out.far HX.out rfl 3 (.slice Bnv bnv.length cbnv)
    have t_RY:=RY.out.far HX.out rfl 3 (.slice Bnv bnv.length cbnv)
    have t_XVnv:=XVnv.out.far HX.out rfl 3 (.slice Bnv bnv.length cbnv)
    have t_XL:=XL.out.farW HX.out rfl 3 (.slice Bnv bnv.length cbnv)
    have t_HD:=HD.out.far (p:=⟨g7,3,none⟩) (by show gd≠g7;omega) (.slice Bnv bnv.length cbnv)
    have t_HT:=HT.out.far (p:=⟨g7,3,none⟩) (by show g9≠g7;omega) (.slice Bnv bnv.length cbnv)
    have t_HN:=HN.out.far (p:=⟨g7,3,none⟩) (by show g9+1≠g7;omega) (.slice Bnv bnv.length cbnv)
    have t_HX:Blk (w9.setCell ⟨g7,3,none⟩ (.slice Bnv bnv.length cbnv)) (g7) 27 #[.slice Knv knv.length cknv,.slice Znv znv.length cznv,.slice Hnv hnv.length chnv,.slice Bnv bnv.length cbnv,.int .i64 rov]:=HX.out.put 3 (.slice Bnv bnv.length cbnv)
    have t_HB10:=HB9.out.setCell (p:=⟨g7,3,none⟩) (by show w.heap.size≤g7;omega) (.slice Bnv bnv.length cbnv)
    rw[hw10]at t_RA t_RY t_XVnv t_XL t_HD t_HT t_HN t_HX t_HB10
    rw[hw10]
    replace RA:=Hd t_RA
    replace RY:=Hd t_RY
    replace XVnv:=Hd t_XVnv
    replace XL:=Hd t_XL
    replace HD:=Hd t_HD
    replace HT:=Hd t_HT
    replace HN:=Hd t_HN
    replace HX:=Hd t_HX
    have HB10:=Hd t_HB10
    clear t_RA t_RY t_XVnv t_XL t_HD t_HT t_HN t_HX t_HB10 hw10 HB9
    obtain⟨w11,hw11⟩:∃x,w10.setCell ⟨g7,4,none⟩ (.int .i64 rnv)=x:=⟨_,rfl⟩
    have t_RA:=RA.out.far HX.out rfl 4 (.int .i64 rnv)
    have t_RY:=RY.out.far HX.out rfl 4 (.int .i64 rnv)
    have t_XVnv:=XVnv.out.far HX.out rfl 4 (.int .i64 rnv)
    have t_XL:=XL.out.farW HX.out rfl 4 (.int .i64 rnv)
    have t_HD:=HD.out.far (p:=⟨g7,4,none⟩) (by show gd≠g7;omega) (.int .i64 rnv)
    have t_HT:=HT.out.far (p:=⟨g7,4,none⟩) (by show g9≠g7;omega) (.int .i64 rnv)
    have t_HN:=HN.out.far (p:=⟨g7,4,none⟩) (by show g9+1≠g7;omega) (.int .i64 rnv)
    have t_HX:Blk (w10.setCell ⟨g7,4,none⟩ (.int .i64 rnv)) (g7) 27 #[.slice Knv knv.length cknv,.slice Znv znv.length cznv,.slice Hnv hnv.length chnv,.slice Bnv bnv.length cbnv,.int .i64 rnv]:=HX.out.put 4 (.int .i64 rnv)
    have t_HB11:=HB10.out.setCell (p:=⟨g7,4,none⟩) (by show w.heap.size≤g7;omega) (.int .i64 rnv)
    rw[hw11]at t_RA t_RY t_XVnv t_XL t_HD t_HT t_HN t_HX t_HB11
    rw[hw11]
    replace RA:=Hd t_RA
    replace RY:=Hd t_RY
    replace XVnv:=Hd t_XVnv
    replace XL:=Hd t_XL
    replace HD:=Hd t_HD
    replace HT:=Hd t_HT
    replace HN:=Hd t_HN
    replace HX:=Hd t_HX
    have HB11:=Hd t_HB11
    clear t_RA t_RY t_XVnv t_XL t_HD t_HT t_HN t_HX t_HB11 hw11 HB10
    clear XV HCA HCY HT
    have hz6:znv.map Zc.zn=nx.z:=congrArg Vw.z HQnv.out
    have hk6:knv=nx.k:=congrArg Vw.k HQnv.out
    have RC:=Hd (fun wx (hbx:Below w11.heap.size w11 wx)=>show Calls Tryz.prog 36 #[.slice Znv znv.length cznv,.slice Knv knv.length cknv,.int .i64 ob] wx (Gives rl wx) from by have h:=zreach_any Znv Knv cznv cknv znv knv ob wx (XVnv.out.later hbx).z (XVnv.out.later hbx).k;rw[hz6,hk6,HRL.out]at h;rw[hk6];exact h)
    clear hz6 hk6 HRL
    obtain⟨kc0,kc1,kc2,kc3⟩:=XL.out.wr1
    dsimp only at kc0 kc1 kc2 kc3
    have X_0:=HX.out.cell (i:=0) rfl
    have X_1:=HX.out.cell (i:=1) rfl
    have X_2:=HX.out.cell (i:=2) rfl
    have X_3:=HX.out.cell (i:=3) rfl
    have X_4:=HX.out.cell (i:=4) rfl
    have D_0:=HD.out.cell (i:=0) rfl
    have D_1:=HD.out.cell (i:=1) rfl
    have D_2:=HD.out.cell (i:=2) rfl
    have D_3:=HD.out.cell (i:=3) rfl
    have D_4:=HD.out.cell (i:=4) rfl
    have N_0:=HN.out.cell (i:=0) rfl
    have N_1:=HN.out.cell (i:=1) rfl
    have N_2:=HN.out.cell (i:=2) rfl
    have N_3:=HN.out.cell (i:=3) rfl
    refine wp_region_facts 12 (by kernel_rfl) (by kernel_rfl)
     (fun v=>{ tmps:=#[.slice (some ⟨b,off,none⟩) L.length c,.int .u16 room,.int .i64 o,undef,undef,undef,.bool false,.pointer (some ⟨g7,0,none⟩),.int .i64 0,.slice A9 all.length c9,.slice A10 M.length c10,.int .i64 (k:Int),u12,u13,undef,u15,.pointer (some ⟨gd,0,none⟩),.pointer (some ⟨g9,0,none⟩),.pointer (some ⟨g9+1,0,none⟩),.int .i64 er,u20,u21,undef,undef,undef,undef,undef,undef,.bool true,.bool false,.slice (some ⟨b,off,none⟩) L.length c,.int .i64 (L.length:Int),.bool false,.tuple #[.agg #[.slice Koo koo.length ckoo,.slice Zoo zoo.length czoo,.slice Hoo hoo.length choo,.slice Boo boo.length cboo,.int .i64 roo],.int .i64 0],.int .u16 room,.int .i64 room,.tuple #[.agg #[.slice Koo koo.length ckoo,.slice Zoo zoo.length czoo,.slice Hoo hoo.length choo,.slice Boo boo.length cboo,.int .i64 roo],.int .i64 0],.agg #[.slice Koo koo.length ckoo,.slice Zoo zoo.length czoo,.slice Hoo hoo.length choo,.slice Boo boo.length cboo,.int .i64 roo],.int .i64 0,.int .i64 0,.bool false,.int .i64 (k:Int),.slice (some ⟨b,off,none⟩) L.length c,.int .i64 (L.length:Int),.bool true,u45,u46,.slice (some ⟨b,off,none⟩) L.length c,.int .i64 (k:Int),.pointer (some ⟨b,off+k*14,none⟩),.pointer (some ⟨b,off+k*14,none⟩),.int .i64 kind,.int .u64 kw,.int .u64 (m:Int),u54,u55,u56,u57,u58,u59,u60,u61,u62,u63,u64,u65,u66,u67,u68,u69,u70,u71,u72,u73,u74,.bool false,.bool false,u77,u78,u79,u80,u81,u82,u83,u84,u85,u86,u87,u88,u89,u90,u91,u92,u93,u94,u95,u96,u97,u98,u99,u100,u101,u102,u103,u104,u105,u106,u107,u108,u109,u110,u111,u112,u113,u114,u115,.bool true,.bool true,.slice (some ⟨b,off,none⟩) L.length c,.int .i64 (k:Int),.pointer (some ⟨b,off+k*14,none⟩),.pointer (some ⟨b,off+k*14+5,none⟩),.agg #[.int .i64 me,.int .i64 ob,.int .i64 sk,.slice D val.length dd,.bool gone],.tuple #[.agg #[.slice Knv knv.length cknv,.slice Znv znv.length cznv,.slice Hnv hnv.length chnv,.slice Bnv bnv.length cbnv,.int .i64 rnv],.agg #[.slice NS nn.s.length qs,.slice NE nn.e.length qe,.slice NP nn.b.length qp,.slice (some ⟨ub,uo,none⟩) nn.ws.length qu],.int .i64 er],.agg #[.slice Kov kov.length ckov,.slice Zov zov.length czov,.slice Hov hov.length chov,.slice Bov bov.length cbov,.int .i64 rov],.pointer (some ⟨gd,0,none⟩),.int .i64 me,.pointer (some ⟨gd,1,none⟩),.int .i64 ob,.pointer (some ⟨gd,2,none⟩),.int .i64 sk,.pointer (some ⟨gd,3,none⟩),.slice D val.length dd,.pointer (some ⟨gd,4,none⟩),.bool gone,.tuple #[.agg #[.slice Knv knv.length cknv,.slice Znv znv.length cznv,.slice Hnv hnv.length chnv,.slice Bnv bnv.length cbnv,.int .i64 rnv],.agg #[.slice NS nn.s.length qs,.slice NE nn.e.length qe,.slice NP nn.b.length qp,.slice (some ⟨ub,uo,none⟩) nn.ws.length qu],.int .i64 er],.agg #[.slice Knv knv.length cknv,.slice Znv znv.length cznv,.slice Hnv hnv.length chnv,.slice Bnv bnv.length cbnv,.int .i64 rnv],.agg #[.slice NS nn.s.length qs,.slice NE nn.e.length qe,.slice NP nn.b.length qp,.slice (some ⟨ub,uo,none⟩) nn.ws.length qu],.int .i64 er,.int .i64 er,.bool true,.agg #[.slice Knv knv.length cknv,.slice Znv znv.length cznv,.slice Hnv hnv.length chnv,.slice Bnv bnv.length cbnv,.int .i64 rnv],v 0,v 1,v 2,v 3,v 4,v 5,v 6,v 7,v 8,v 9,v 10,v 11,u154,u155,u156,u157,u158,u159,u160,u161,u162,u163,u164,u165,u166,u167,u168,u169,u170,u171,undef,undef,undef,undef,undef,undef,undef,undef,undef,undef,undef,undef,undef,undef,undef,undef,undef,undef,undef,undef,undef,undef,undef,undef,undef,undef,undef,undef,undef,undef,undef,undef,undef,undef,undef,undef,undef,undef,undef,undef,undef,undef,undef,undef,undef,undef,undef,undef,undef,undef,undef,undef,undef,undef,undef,undef,undef,undef,undef,undef,undef,undef,undef,undef,undef,undef,undef,undef,undef,undef,undef,undef,undef,undef,undef,undef,undef,undef,undef,undef,undef,undef,undef,undef],defers:=[] }) (fun i=>match i with|0=>u142|1=>u143|2=>u144|3=>u145|4=>u146|5=>u147|6=>u148|7=>u149|8=>u150|9=>u151|10=>u152|11=>u153|_=>undef)
     (fun i x wx=>match i with
      |0=>x = .pointer (some ⟨g7,1,none⟩)
      |1=>x = .slice Znv znv.length cznv
      |2=>x = .pointer (some ⟨g7,0,none⟩)
      |3=>x = .slice Knv knv.length cknv
      |4=>x = .pointer (some ⟨gd,1,none⟩)
      |5=>x = .int .i64 ob
      |6=>∃A9 c9,x = .slice A9 rl.length c9∧OneL wx A9 c9 rl
      |7=>x = .pointer (some ⟨g9+1,3,none⟩)
      |8=>x = .slice (some ⟨ub,uo,none⟩) 1 qu
      |9=>x = .pointer (some ⟨ub,uo,none⟩)
      |10=>x = .pointer (some ⟨ub,uo,none⟩)
      |11=>x = .agg #[.int .i64 wc,.int .i64 wn]
      |_=>True)
     (fun w1 w2=>Below w1.heap.size w1 w2) (fun h1 h2=>below_on h1 h2) (fun _=>Below.refl _ _) (Below.drew (Below.refl _ _)) ?stabA ?stepA ?doneA
    case stabA=>
     rintro i x w1 w2 h hb
     match i,h with
     |0,h=>exact h
     |1,h=>exact h
     |2,h=>exact h
     |3,h=>exact h
     |4,h=>exact h
     |5,h=>exact h
     |6,h=>obtain⟨A9,c9,e9,h9⟩:=h;exact⟨A9,c9,e9,h9.later hb⟩
     |7,h=>exact h
     |8,h=>exact h
     |9,h=>exact h
     |10,h=>exact h
     |11,h=>exact h
     |i+12,_=>trivial
    case stepA=>
     intro i hi v w' hb hd
     match i,hi with
     |0,_=>
      refine wpOp_oneH rfl fun KK HKK =>?_
      clear hd
      go_wp2
      exact HKK.out _ _ ⟨_,(by simp[upd];done),Below.refl _ _,rfl⟩
     |1,_=>
      have h0:v 0=_:=hdx hd 0 (by kernel_rfl)
      refine wpOp_oneH rfl fun KK HKK =>?_
      clear hd
      rw[h0]
      have q0:=cell_later hb X_1
      go_wp2
      exact HKK.out _ _ ⟨_,(by simp[upd,h0];done),Below.refl _ _,rfl⟩
     |2,_=>
      refine wpOp_oneH rfl fun KK HKK =>?_
      clear hd
      go_wp2
      exact HKK.out _ _ ⟨_,(by simp[upd];done),Below.refl _ _,rfl⟩
     |3,_=>
      have h2:v 2=_:=hdx hd 2 (by kernel_rfl)
      refine wpOp_oneH rfl fun KK HKK =>?_
      clear hd
      rw[h2]
      have q0:=cell_later hb X_0
      go_wp2
      exact HKK.out _ _ ⟨_,(by simp[upd,h2];done),Below.refl _ _,rfl⟩
     |4,_=>
      refine wpOp_oneH rfl fun KK HKK =>?_
      clear hd
      go_wp2
      exact HKK.out _ _ ⟨_,(by simp[upd];done),Below.refl _ _,rfl⟩
     |5,_=>
      have h4:v 4=_:=hdx hd 4 (by kernel_rfl)
      refine wpOp_oneH rfl fun KK HKK =>?_
      clear hd
      rw[h4]
      have q0:=cell_later hb D_1
      go_wp2
      exact HKK.out _ _ ⟨_,(by simp[upd,h4];done),Below.refl _ _,rfl⟩
     |6,_=>
      have h1:v 1=_:=hdx hd 1 (by kernel_rfl)
      have h3:v 3=_:=hdx hd 3 (by kernel_rfl)
      have h5:v 5=_:=hdx hd 5 (by kernel_rfl)
      refine wpOp_oneH rfl fun KK HKK =>?_
      clear hd
      rw[h1,h3,h5]
      go_wp2_with fail
      refine(RC.out _ hb).mono ?_
      rintro e w'' ⟨u,rfl,ho,b⟩
      obtain⟨A9,c9,rfl,hB⟩:=OneL.of_own ho
      go_wp2
      exact HKK.out _ _ ⟨_,(by simp[upd,h1,h3,h5];done),b,A9,c9,rfl,hB⟩
     |7,_=>
      refine wpOp_oneH rfl fun KK HKK =>?_
      clear hd
      go_wp2
      exact HKK.out _ _ ⟨_,(by simp[upd];done),Below.refl _ _,rfl⟩
     |8,_=>
      have h7:v 7=_:=hdx hd 7 (by kernel_rfl)
      refine wpOp_oneH rfl fun KK HKK =>?_
      clear hd
      rw[h7]
      have q0:=cell_later hb N_3
      go_wp2
      exact HKK.out _ _ ⟨_,(by simp[upd,h7];done),Below.refl _ _,rfl⟩
     |9,_=>
      have h8:v 8=_:=hdx hd 8 (by kernel_rfl)
      refine wpOp_oneH rfl fun KK HKK =>?_
      clear hd
      rw[h8]
      go_wp2
      exact HKK.out _ _ ⟨_,(by simp[upd,h8];done),Below.refl _ _,rfl⟩
     |10,_=>
      have h9:v 9=_:=hdx hd 9 (by kernel_rfl)
      refine wpOp_oneH rfl fun KK HKK =>?_
      clear hd
      rw[h9]
      go_wp2
      exact HKK.out _ _ ⟨_,(by simp[upd,h9];done),Below.refl _ _,rfl⟩
     |11,_=>
      have h10:v 10=_:=hdx hd 10 (by kernel_rfl)
      refine wpOp_oneH rfl fun KK HKK =>?_
      clear hd
      rw[h10]
      have q0:=cell_later hb kc0
      have q1:=cell_later hb kc1
      go_wp2
      exact HKK.out _ _ ⟨_,(by simp[upd,h10];done),Below.refl _ _,rfl⟩
     |k+12,hk=>exact absurd hk (by omega)
    case doneA=>
     intro v w5 hb hf
     have h0:v 0=_:=hf 0 (by decide)
     have h1:v 1=_:=hf 1 (by decide)
     have h2:v 2=_:=hf 2 (by decide)
     have h3:v 3=_:=hf 3 (by decide)
     have h4:v 4=_:=hf 4 (by decide)
     have h5:v 5=_:=hf 5 (by decide)
     obtain⟨A6,c6,h6,o6⟩:=hf 6 (by decide)
     have h7:v 7=_:=hf 7 (by decide)
     have h8:v 8=_:=hf 8 (by decide)
     have h9:v 9=_:=hf 9 (by decide)
     have h10:v 10=_:=hf 10 (by decide)
     have h11:v 11=_:=hf 11 (by decide)
     clear hf
     rw[h0,h1,h2,h3,h4,h5,h6,h7,h8,h9,h10,h11]
     clear X_0 X_1 X_2 X_3 X_4 D_0 D_1 D_2 D_3 D_4 N_0 N_1 N_2 N_3
     replace HX:=Hd (HX.out.later hb)
     replace HD:=Hd (HD.out.later hb)
     replace HN:=Hd (HN.out.later hb)
     have HB12:=Hd (below_on HB11.out hb)
     clear HB11
     replace RA:=Hd (RA.out.later hb)
     replace RY:=Hd (RY.out.later hb)
     replace XVnv:=Hd (XVnv.out.later hb)
     replace XL:=Hd (XL.out.later hb)
     clear hb
     clear kc0 kc1 kc2 kc3
     have NH:=Hd (show Calls Tryz.prog 35 #[.slice A6 rl.length c6,.agg #[.int .i64 wc,.int .i64 wn]] w5 (Says (.bool tb) w5) from by rw[←HHS.out];exact rhas_any A6 c6 rl wc wn w5 o6.len o6.stamps)
     clear RC o6
     go_wp2_with fail
     refine(NH.out).mono ?_
     rintro e w13 ⟨rfl,b13⟩
     replace HX:=Hd (HX.out.later b13)
     replace HD:=Hd (HD.out.later b13)
     replace HN:=Hd (HN.out.later b13)
     have HB13:=Hd (below_on HB12.out b13)
     clear HB12
     replace RA:=Hd (RA.out.later b13)
     replace RY:=Hd (RY.out.later b13)
     replace XVnv:=Hd (XVnv.out.later b13)
     replace XL:=Hd (XL.out.later b13)
     clear b13 NH HHS
     cases tb with
     |false=>
      obtain⟨kc0,kc1,kc2,kc3⟩:=XL.out.wr1
      dsimp only at kc0 kc1 kc2 kc3
      go_upto_region 35 with (fail)
      have D_0:=HD.out.cell (i:=0) rfl
      have D_1:=HD.out.cell (i:=1) rfl
      have D_2:=HD.out.cell (i:=2) rfl
      have D_3:=HD.out.cell (i:=3) rfl
      have D_4:=HD.out.cell (i:=4) rfl
      have N_0:=HN.out.cell (i:=0) rfl
      have N_1:=HN.out.cell (i:=1) rfl
      have N_2:=HN.out.cell (i:=2) rfl
      have N_3:=HN.out.cell (i:=3) rfl
      refine wp_region_facts 12 (by kernel_rfl) (by kernel_rfl)
       (fun v=>{ tmps:=#[.slice (some ⟨b,off,none⟩) L.length c,.int .u16 room,.int .i64 o,undef,undef,undef,.bool false,.pointer (some ⟨g7,0,none⟩),.int .i64 0,.slice A9 all.length c9,.slice A10 M.length c10,.int .i64 (k:Int),u12,u13,undef,u15,.pointer (some ⟨gd,0,none⟩),.pointer (some ⟨g9,0,none⟩),.pointer (some ⟨g9+1,0,none⟩),.int .i64 er,u20,u21,undef,undef,undef,undef,undef,undef,.bool true,.bool false,.slice (some ⟨b,off,none⟩) L.length c,.int .i64 (L.length:Int),.bool false,.tuple #[.agg #[.slice Koo koo.length ckoo,.slice Zoo zoo.length czoo,.slice Hoo hoo.length choo,.slice Boo boo.length cboo,.int .i64 roo],.int .i64 0],.int .u16 room,.int .i64 room,.tuple #[.agg #[.slice Koo koo.length ckoo,.slice Zoo zoo.length czoo,.slice Hoo hoo.length choo,.slice Boo boo.length cboo,.int .i64 roo],.int .i64 0],.agg #[.slice Koo koo.length ckoo,.slice Zoo zoo.length czoo,.slice Hoo hoo.length choo,.slice Boo boo.length cboo,.int .i64 roo],.int .i64 0,.int .i64 0,.bool false,.int .i64 (k:Int),.slice (some ⟨b,off,none⟩) L.length c,.int .i64 (L.length:Int),.bool true,u45,u46,.slice (some ⟨b,off,none⟩) L.length c,.int .i64 (k:Int),.pointer (some ⟨b,off+k*14,none⟩),.pointer (some ⟨b,off+k*14,none⟩),.int .i64 kind,.int .u64 kw,.int .u64 (m:Int),u54,u55,u56,u57,u58,u59,u60,u61,u62,u63,u64,u65,u66,u67,u68,u69,u70,u71,u72,u73,u74,.bool false,.bool false,u77,u78,u79,u80,u81,u82,u83,u84,u85,u86,u87,u88,u89,u90,u91,u92,u93,u94,u95,u96,u97,u98,u99,u100,u101,u102,u103,u104,u105,u106,u107,u108,u109,u110,u111,u112,u113,u114,u115,.bool true,.bool true,.slice (some ⟨b,off,none⟩) L.length c,.int .i64 (k:Int),.pointer (some ⟨b,off+k*14,none⟩),.pointer (some ⟨b,off+k*14+5,none⟩),.agg #[.int .i64 me,.int .i64 ob,.int .i64 sk,.slice D val.length dd,.bool gone],.tuple #[.agg #[.slice Knv knv.length cknv,.slice Znv znv.length cznv,.slice Hnv hnv.length chnv,.slice Bnv bnv.length cbnv,.int .i64 rnv],.agg #[.slice NS nn.s.length qs,.slice NE nn.e.length qe,.slice NP nn.b.length qp,.slice (some ⟨ub,uo,none⟩) nn.ws.length qu],.int .i64 er],.agg #[.slice Kov kov.length ckov,.slice Zov zov.length czov,.slice Hov hov.length chov,.slice Bov bov.length cbov,.int .i64 rov],.pointer (some ⟨gd,0,none⟩),.int .i64 me,.pointer (some ⟨gd,1,none⟩),.int .i64 ob,.pointer (some ⟨gd,2,none⟩),.int .i64 sk,.pointer (some ⟨gd,3,none⟩),.slice D val.length dd,.pointer (some ⟨gd,4,none⟩),.bool gone,.tuple #[.agg #[.slice Knv knv.length cknv,.slice Znv znv.length cznv,.slice Hnv hnv.length chnv,.slice Bnv bnv.length cbnv,.int .i64 rnv],.agg #[.slice NS nn.s.length qs,.slice NE nn.e.length qe,.slice NP nn.b.length qp,.slice (some ⟨ub,uo,none⟩) nn.ws.length qu],.int .i64 er],.agg #[.slice Knv knv.length cknv,.slice Znv znv.length cznv,.slice Hnv hnv.length chnv,.slice Bnv bnv.length cbnv,.int .i64 rnv],.agg #[.slice NS nn.s.length qs,.slice NE nn.e.length qe,.slice NP nn.b.length qp,.slice (some ⟨ub,uo,none⟩) nn.ws.length qu],.int .i64 er,.int .i64 er,.bool true,.agg #[.slice Knv knv.length cknv,.slice Znv znv.length cznv,.slice Hnv hnv.length chnv,.slice Bnv bnv.length cbnv,.int .i64 rnv],.pointer (some ⟨g7,1,none⟩),.slice Znv znv.length cznv,.pointer (some ⟨g7,0,none⟩),.slice Knv knv.length cknv,.pointer (some ⟨gd,1,none⟩),.int .i64 ob,.slice A6 rl.length c6,.pointer (some ⟨g9+1,3,none⟩),.slice (some ⟨ub,uo,none⟩) 1 qu,.pointer (some ⟨ub,uo,none⟩),.pointer (some ⟨ub,uo,none⟩),.agg #[.int .i64 wc,.int .i64 wn],.bool false,u155,u156,u157,u158,v 0,v 1,v 2,v 3,v 4,v 5,v 6,v 7,v 8,v 9,v 10,v 11,u171,undef,undef,undef,undef,undef,undef,undef,undef,undef,undef,undef,undef,undef,undef,undef,undef,undef,undef,undef,undef,undef,undef,undef,undef,undef,undef,undef,undef,undef,undef,undef,undef,undef,undef,undef,undef,undef,undef,undef,undef,undef,undef,undef,undef,undef,undef,undef,undef,undef,undef,undef,undef,undef,undef,undef,undef,undef,undef,undef,undef,undef,undef,undef,undef,undef,undef,undef,undef,undef,undef,undef,undef,undef,undef,undef,undef,undef,undef,undef,undef,undef,undef,undef,undef],defers:=[] }) (fun i=>match i with|0=>u159|1=>u160|2=>u161|3=>u162|4=>u163|5=>u164|6=>u165|7=>u166|8=>u167|9=>u168|10=>u169|11=>u170|_=>undef)
       (fun i x wx=>match i with
        |0=>x = .slice A10 M.length c10
        |1=>x = .pointer (some ⟨gd,1,none⟩)
        |2=>x = .int .i64 ob
        |3=>x = .pointer (some ⟨g9+1,3,none⟩)
        |4=>x = .slice (some ⟨ub,uo,none⟩) 1 qu
        |5=>x = .pointer (some ⟨ub,uo,none⟩)
        |6=>x = .pointer (some ⟨ub,uo,none⟩)
        |7=>x = .agg #[.int .i64 wc,.int .i64 wn]
        |8=>x = .pointer (some ⟨gd,3,none⟩)
        |9=>x = .slice D val.length dd
        |10=>x = .agg #[.int .i64 ob,.int .i64 wc,.int .i64 wn,.slice D val.length dd]
        |11=>∃g9,x = .slice (some ⟨g9,0,none⟩) 1 1∧Blk wx g9 49 #[.int .i64 ob,.int .i64 wc,.int .i64 wn,.slice D val.length dd]
        |_=>True)
       (fun w1 w2=>Below w1.heap.size w1 w2) (fun h1 h2=>below_on h1 h2) (fun _=>Below.refl _ _) (Below.drew (Below.refl _ _)) ?stabBf ?stepBf ?doneBf
      case stabBf=>
       rintro i x w1 w2 h hb
       match i,h with
       |0,h=>exact h
       |1,h=>exact h
       |2,h=>exact h
       |3,h=>exact h
       |4,h=>exact h
       |5,h=>exact h
       |6,h=>exact h
       |7,h=>exact h
       |8,h=>exact h
       |9,h=>exact h
       |10,h=>exact h
       |11,h=>obtain⟨g9,e9,h9⟩:=h;exact⟨g9,e9,h9.later hb⟩
       |i+12,_=>trivial
      case stepBf=>
       intro i hi v w' hb hd
       match i,hi with
       |0,_=>
        refine wpOp_oneH rfl fun KK HKK =>?_
        clear hd
        go_wp2
        exact HKK.out _ _ ⟨_,(by simp[upd];done),Below.refl _ _,rfl⟩
       |1,_=>
        refine wpOp_oneH rfl fun KK HKK =>?_
        clear hd
        go_wp2
        exact HKK.out _ _ ⟨_,(by simp[upd];done),Below.refl _ _,rfl⟩
       |2,_=>
        have h1:v 1=_:=hdx hd 1 (by kernel_rfl)
        refine wpOp_oneH rfl fun KK HKK =>?_
        clear hd
        rw[h1]
        have q0:=cell_later hb D_1
        go_wp2
        exact HKK.out _ _ ⟨_,(by simp[upd,h1];done),Below.refl _ _,rfl⟩
       |3,_=>
        refine wpOp_oneH rfl fun KK HKK =>?_
        clear hd
        go_wp2
        exact HKK.out _ _ ⟨_,(by simp[upd];done),Below.refl _ _,rfl⟩
       |4,_=>
        have h3:v 3=_:=hdx hd 3 (by kernel_rfl)
        refine wpOp_oneH rfl fun KK HKK =>?_
        clear hd
        rw[h3]
        have q0:=cell_later hb N_3
        go_wp2
        exact HKK.out _ _ ⟨_,(by simp[upd,h3];done),Below.refl _ _,rfl⟩
       |5,_=>
        have h4:v 4=_:=hdx hd 4 (by kernel_rfl)
        refine wpOp_oneH rfl fun KK HKK =>?_
        clear hd
        rw[h4]
        go_wp2
        exact HKK.out _ _ ⟨_,(by simp[upd,h4];done),Below.refl _ _,rfl⟩
       |6,_=>
        have h5:v 5=_:=hdx hd 5 (by kernel_rfl)
        refine wpOp_oneH rfl fun KK HKK =>?_
        clear hd
        rw[h5]
        go_wp2
        exact HKK.out _ _ ⟨_,(by simp[upd,h5];done),Below.refl _ _,rfl⟩
       |7,_=>
        have h6:v 6=_:=hdx hd 6 (by kernel_rfl)
        refine wpOp_oneH rfl fun KK HKK =>?_
        clear hd
        rw[h6]
        have q0:=cell_later hb kc0
        have q1:=cell_later hb kc1
        go_wp2
        exact HKK.out _ _ ⟨_,(by simp[upd,h6];done),Below.refl _ _,rfl⟩
       |8,_=>
        refine wpOp_oneH rfl fun KK HKK =>?_
        clear hd
        go_wp2
        exact HKK.out _ _ ⟨_,(by simp[upd];done),Below.refl _ _,rfl⟩
       |9,_=>
        have h8:v 8=_:=hdx hd 8 (by kernel_rfl)
        refine wpOp_oneH rfl fun KK HKK =>?_
        clear hd
        rw[h8]
        have q0:=cell_later hb D_3
        go_wp2
        exact HKK.out _ _ ⟨_,(by simp[upd,h8];done),Below.refl _ _,rfl⟩
       |10,_=>
        have h2:v 2=_:=hdx hd 2 (by kernel_rfl)
        have h7:v 7=_:=hdx hd 7 (by kernel_rfl)
        have h9:v 9=_:=hdx hd 9 (by kernel_rfl)
        refine wpOp_oneH rfl fun KK HKK =>?_
        clear hd
        rw[h2,h7,h9]
        go_wp2
        exact HKK.out _ _ ⟨_,(by simp[upd,h2,h7,h9];done),Below.refl _ _,rfl⟩
       |11,_=>
        have h10:v 10=_:=hdx hd 10 (by kernel_rfl)
        refine wpOp_oneH rfl fun KK HKK =>?_
        clear hd
        rw[h10]
        have bn:=below_new (Below.refl w'.heap.size w') (.cells #[.int .i64 ob,.int .i64 wc,.int .i64 wn,.slice D val.length dd] 49)
        have HBN:=Hd (Blk.new w' 49 #[.int .i64 ob,.int .i64 wc,.int .i64 wn,.slice D val.length dd])
        go_wp2
        exact HKK.out _ _ ⟨_,(by simp[upd,h10];done),bn,_,rfl,HBN.out⟩
       |k+12,hk=>exact absurd hk (by omega)
      case doneBf=>
       intro v w5 hb hf
       have h0:v 0=_:=hf 0 (by decide)
       have h1:v 1=_:=hf 1 (by decide)
       have h2:v 2=_:=hf 2 (by decide)
       have h3:v 3=_:=hf 3 (by decide)
       have h4:v 4=_:=hf 4 (by decide)
       have h5:v 5=_:=hf 5 (by decide)
       have h6:v 6=_:=hf 6 (by decide)
       have h7:v 7=_:=hf 7 (by decide)
       have h8:v 8=_:=hf 8 (by decide)
       have h9:v 9=_:=hf 9 (by decide)
       have h10:v 10=_:=hf 10 (by decide)
       obtain⟨g11,h11,o11⟩:=hf 11 (by decide)
       clear hf
       rw[h0,h1,h2,h3,h4,h5,h6,h7,h8,h9,h10,h11]
       clear D_0 D_1 D_2 D_3 D_4 N_0 N_1 N_2 N_3
       replace HX:=Hd (HX.out.later hb)
       replace HD:=Hd (HD.out.later hb)
       replace HN:=Hd (HN.out.later hb)
       have HB14:=Hd (below_on HB13.out hb)
       clear HB13
       replace RA:=Hd (RA.out.later hb)
       replace RY:=Hd (RY.out.later hb)
       replace XVnv:=Hd (XVnv.out.later hb)
       replace XL:=Hd (XL.out.later hb)
       clear hb
       clear kc0 kc1 kc2 kc3
       simp only[List.drop_succ_cons,List.drop_zero]
       have R2A:=RA.out.later (Below.refl w5.heap.size w5)
       have R2Y:=RY.out.later (Below.refl w5.heap.size w5)
       have V2:=XVnv.out.later (Below.refl w5.heap.size w5)
       have BB:=Hd (below_on HB14.out (Below.refl w5.heap.size w5))
       have B2X:=HX.out.later (Below.refl w5.heap.size w5)
       have hszw:w.heap.size≤(w5).heap.size:=BB.out.size
       have hrow2:=R2Y.own
       have HNL:=Hd (show Lies w5 (some ⟨g11,0,none⟩) (Ca.cell (⟨D,dd,⟨ob,wc,wn,val⟩⟩:Bc)) from fun _=>⟨g11,0,rfl,fun j u hu=>by rw[Nat.zero_add];exact o11.cell (by simpa[Ca.cell] using hu)⟩)
       clear o11
       go_wp2_with (at_builtin;refine Go.Proofs.YtjlfehpockfkdaaGreat.wpList_append_lies _ rfl _ _ 25 rfl w.heap.size 49 i1 (.agg #[.int .i64 0,.int .i64 0,.int .i64 0,.slice none 0 0]) 4 48 Tryz.underlying25 hJ hy0 hy1 hy2 rfl (by decide) _ M.length (Ca.cells M) rfl hrow2 (some ⟨g11,0,none⟩) 1 1 (fun h=>by cases h) (Ca.cell (⟨D,dd,⟨ob,wc,wn,val⟩⟩:Bc)) rfl rfl HNL.out (by intro u hu;simp[Ca.cell]at hu;rcases hu with rfl|rfl|rfl|rfl<;>rfl) ?h63 ?hbytes hszw ?_)
       case h63=>unfold maxLen;omega
       case hbytes=>omega
       intro v' wz hownz hgz hvb
       have hry3:RowY wz w.heap.size v' (M++[(⟨D,dd,⟨ob,wc,wn,val⟩⟩:Bc)]):=RowY.snoc hownz
       clear hrow2 hszw HNL
       have RA3:=Hd (R2A.grown R2Y hgz)
       have XV3:=Hd (V2.grown hgz (fun g hg=>HCY6.out g hg))
       have HC3:=Hd (HCY6.out.grown V2 (by first|exact hvb|(rw[World.size_alloc];exact hvb)))
       have B3X:=Hd (R2Y.box B2X (by decide) hgz)
       have BB3:=Hd (BB.out.grown hgz (by have:=BB.out.size;omega) (fun r e=>own_ge R2Y.own r e))
       clear HCY6 V2 R2A R2Y RA RY XVnv hgz hownz hvb BB HB14 B2X HX
       have RY:=Hd hry3
       have RA:=RA3
       clear hry3 RA3
       have HCY6:=HC3
       have XVnv:=XV3
       clear HC3 XV3
       have HX:=B3X
       clear B3X
       have HB15:=BB3
       clear BB3
       have HMY2:=Hd (show ∀z∈M++[(⟨D,dd,⟨ob,wc,wn,val⟩⟩:Bc)],OneB w z.X z.d z.b.v from fun z hz=>by rcases List.mem_append.1 hz with h|h;exact HMY.out z h;rw[List.mem_singleton]at h;subst h;exact HDA.out)
       have HNW7:=Hd (show Vw.Nw nx (all) ((M++[(⟨D,dd,⟨ob,wc,wn,val⟩⟩:Bc)]).map Bc.b) from by have h:=HNW6.out;simp only[Bool.false_eq_true,if_false,List.append_nil]at h;rw[List.map_append];exact h)
       go_wp2_with fail
       go_roundw
       case rel=>exact⟨k+1,⟨Knv,cknv,knv,Znv,cznv,znv,Hnv,chnv,hnv,Bnv,cbnv,bnv,rnv⟩,all,M++[(⟨D,dd,⟨ob,wc,wn,val⟩⟩:Bc)],by omega,by go_num,RA.out,RY.out,HMY2.out,by rw[HQnv.out];exact HNW7.out,by show Ve.top (Ve.cnt knv)≤9223372036854775807;rw[show knv=nx.k from congrArg Vw.k HQnv.out];exact HTOP6.out,by omega,(by rw[List.length_append];show M.length+1≤k+1;omega),XVnv.out,HCA6.out,HCY6.out,HX.out,HB15.out⟩
       case measure=>simp[intOf];omega
     |true=>
      have N_3:=HN.out.cell (i:=3) rfl
      have R2A:=RA.out.later (Below.refl w13.heap.size w13)
      have R2Y:=RY.out.later (Below.refl w13.heap.size w13)
      have V2:=XVnv.out.later (Below.refl w13.heap.size w13)
      have BB:=Hd (below_on HB13.out (Below.refl w13.heap.size w13))
      have B2X:=HX.out.later (Below.refl w13.heap.size w13)
      have B2D:=HD.out.later (Below.refl w13.heap.size w13)
      have B2N:=HN.out.later (Below.refl w13.heap.size w13)
      have hszw:w.heap.size≤(w13).heap.size:=BB.out.size
      have hrow2:=R2A.own
      have HNL:=XL
      go_wp2_with (at_builtin;refine Go.Proofs.YtjlfehpockfkdaaGreat.wpList_append_lies _ rfl _ _ 24 rfl w.heap.size 52 i0 (.agg #[.int .i64 0,.int .i64 0,.int .i64 0,.bool false]) 4 32 Tryz.underlying24 hI hz0 hz1 hz2 rfl (by decide) _ all.length (Nt.wrCells all) rfl hrow2 (some ⟨ub,uo,none⟩) 1 qu (fun h=>by cases h) (Nt.wrCells [(wc,wn,ob,gone)]) rfl rfl HNL.out (Nt.wrCells_one _) ?h63 ?hbytes hszw ?_)
      case h63=>unfold maxLen;omega
      case hbytes=>omega
      intro v' wz hownz hgz hvb
      clear N_3
      have hra3:RowA wz w.heap.size v' (all++[(wc,wn,ob,gone)]):=RowA.snoc (l2:=[(wc,wn,ob,gone)]) hownz rfl
      clear hrow2 hszw HNL
      have RY3:=Hd (R2Y.grown R2A hgz)
      have XV3:=Hd (V2.grown hgz (fun g hg=>HCA6.out g hg))
      have HC3:=Hd (HCA6.out.grown V2 (by first|exact hvb|(rw[World.size_alloc];exact hvb)))
      have B3X:=Hd (R2A.box B2X (by decide) hgz)
      have B3D:=Hd (R2A.box B2D (by decide) hgz)
      have B3N:=Hd (R2A.box B2N (by decide) hgz)
      have BB3:=Hd (BB.out.grown hgz (by have:=BB.out.size;omega) (fun r e=>own_ge R2A.own r e))
      have XL3:=Hd (XL.out.grown hgz (fun _ g hg=>HUA.out g hg))
      clear HCA6 V2 R2A R2Y RA RY XVnv hgz hownz hvb BB HB13 B2X B2D B2N HX HD HN
      have RA:=Hd hra3
      have RY:=RY3
      clear hra3 RY3
      have HCA6:=HC3
      have XVnv:=XV3
      clear HC3 XV3
      have HX:=B3X
      clear B3X
      have HD:=B3D
      clear B3D
      have HN:=B3N
      clear B3N
      have HB14:=BB3
      clear BB3
      clear XL
      have XL:=XL3
      clear XL3
      go_upto_region 35 with (fail)
      obtain⟨kc0,kc1,kc2,kc3⟩:=XL.out.wr1
      dsimp only at kc0 kc1 kc2 kc3
      have D_0:=HD.out.cell (i:=0) rfl
      have D_1:=HD.out.cell (i:=1) rfl
      have D_2:=HD.out.cell (i:=2) rfl
      have D_3:=HD.out.cell (i:=3) rfl
      have D_4:=HD.out.cell (i:=4) rfl
      have N_0:=HN.out.cell (i:=0) rfl
      have N_1:=HN.out.cell (i:=1) rfl
      have N_2:=HN.out.cell (i:=2) rfl
      have N_3:=HN.out.cell (i:=3) rfl
      refine wp_region_facts 12 (by kernel_rfl) (by kernel_rfl)
       (fun v=>{ tmps:=#[.slice (some ⟨b,off,none⟩) L.length c,.int .u16 room,.int .i64 o,undef,undef,undef,.bool false,.pointer (some ⟨g7,0,none⟩),.int .i64 0,v',.slice A10 M.length c10,.int .i64 (k:Int),u12,u13,undef,u15,.pointer (some ⟨gd,0,none⟩),.pointer (some ⟨g9,0,none⟩),.pointer (some ⟨g9+1,0,none⟩),.int .i64 er,u20,u21,undef,undef,undef,undef,undef,undef,.bool true,.bool false,.slice (some ⟨b,off,none⟩) L.length c,.int .i64 (L.length:Int),.bool false,.tuple #[.agg #[.slice Koo koo.length ckoo,.slice Zoo zoo.length czoo,.slice Hoo hoo.length choo,.slice Boo boo.length cboo,.int .i64 roo],.int .i64 0],.int .u16 room,.int .i64 room,.tuple #[.agg #[.slice Koo koo.length ckoo,.slice Zoo zoo.length czoo,.slice Hoo hoo.length choo,.slice Boo boo.length cboo,.int .i64 roo],.int .i64 0],.agg #[.slice Koo koo.length ckoo,.slice Zoo zoo.length czoo,.slice Hoo hoo.length choo,.slice Boo boo.length cboo,.int .i64 roo],.int .i64 0,.int .i64 0,.bool false,.int .i64 (k:Int),.slice (some ⟨b,off,none⟩) L.length c,.int .i64 (L.length:Int),.bool true,u45,u46,.slice (some ⟨b,off,none⟩) L.length c,.int .i64 (k:Int),.pointer (some ⟨b,off+k*14,none⟩),.pointer (some ⟨b,off+k*14,none⟩),.int .i64 kind,.int .u64 kw,.int .u64 (m:Int),u54,u55,u56,u57,u58,u59,u60,u61,u62,u63,u64,u65,u66,u67,u68,u69,u70,u71,u72,u73,u74,.bool false,.bool false,u77,u78,u79,u80,u81,u82,u83,u84,u85,u86,u87,u88,u89,u90,u91,u92,u93,u94,u95,u96,u97,u98,u99,u100,u101,u102,u103,u104,u105,u106,u107,u108,u109,u110,u111,u112,u113,u114,u115,.bool true,.bool true,.slice (some ⟨b,off,none⟩) L.length c,.int .i64 (k:Int),.pointer (some ⟨b,off+k*14,none⟩),.pointer (some ⟨b,off+k*14+5,none⟩),.agg #[.int .i64 me,.int .i64 ob,.int .i64 sk,.slice D val.length dd,.bool gone],.tuple #[.agg #[.slice Knv knv.length cknv,.slice Znv znv.length cznv,.slice Hnv hnv.length chnv,.slice Bnv bnv.length cbnv,.int .i64 rnv],.agg #[.slice NS nn.s.length qs,.slice NE nn.e.length qe,.slice NP nn.b.length qp,.slice (some ⟨ub,uo,none⟩) nn.ws.length qu],.int .i64 er],.agg #[.slice Kov kov.length ckov,.slice Zov zov.length czov,.slice Hov hov.length chov,.slice Bov bov.length cbov,.int .i64 rov],.pointer (some ⟨gd,0,none⟩),.int .i64 me,.pointer (some ⟨gd,1,none⟩),.int .i64 ob,.pointer (some ⟨gd,2,none⟩),.int .i64 sk,.pointer (some ⟨gd,3,none⟩),.slice D val.length dd,.pointer (some ⟨gd,4,none⟩),.bool gone,.tuple #[.agg #[.slice Knv knv.length cknv,.slice Znv znv.length cznv,.slice Hnv hnv.length chnv,.slice Bnv bnv.length cbnv,.int .i64 rnv],.agg #[.slice NS nn.s.length qs,.slice NE nn.e.length qe,.slice NP nn.b.length qp,.slice (some ⟨ub,uo,none⟩) nn.ws.length qu],.int .i64 er],.agg #[.slice Knv knv.length cknv,.slice Znv znv.length cznv,.slice Hnv hnv.length chnv,.slice Bnv bnv.length cbnv,.int .i64 rnv],.agg #[.slice NS nn.s.length qs,.slice NE nn.e.length qe,.slice NP nn.b.length qp,.slice (some ⟨ub,uo,none⟩) nn.ws.length qu],.int .i64 er,.int .i64 er,.bool true,.agg #[.slice Knv knv.length cknv,.slice Znv znv.length cznv,.slice Hnv hnv.length chnv,.slice Bnv bnv.length cbnv,.int .i64 rnv],.pointer (some ⟨g7,1,none⟩),.slice Znv znv.length cznv,.pointer (some ⟨g7,0,none⟩),.slice Knv knv.length cknv,.pointer (some ⟨gd,1,none⟩),.int .i64 ob,.slice A6 rl.length c6,.pointer (some ⟨g9+1,3,none⟩),.slice (some ⟨ub,uo,none⟩) 1 qu,.pointer (some ⟨ub,uo,none⟩),.pointer (some ⟨ub,uo,none⟩),.agg #[.int .i64 wc,.int .i64 wn],.bool true,.slice A9 all.length c9,.pointer (some ⟨g9+1,3,none⟩),.slice (some ⟨ub,uo,none⟩) 1 qu,v',v 0,v 1,v 2,v 3,v 4,v 5,v 6,v 7,v 8,v 9,v 10,v 11,u171,undef,undef,undef,undef,undef,undef,undef,undef,undef,undef,undef,undef,undef,undef,undef,undef,undef,undef,undef,undef,undef,undef,undef,undef,undef,undef,undef,undef,undef,undef,undef,undef,undef,undef,undef,undef,undef,undef,undef,undef,undef,undef,undef,undef,undef,undef,undef,undef,undef,undef,undef,undef,undef,undef,undef,undef,undef,undef,undef,undef,undef,undef,undef,undef,undef,undef,undef,undef,undef,undef,undef,undef,undef,undef,undef,undef,undef,undef,undef,undef,undef,undef,undef,undef],defers:=[] }) (fun i=>match i with|0=>u159|1=>u160|2=>u161|3=>u162|4=>u163|5=>u164|6=>u165|7=>u166|8=>u167|9=>u168|10=>u169|11=>u170|_=>undef)
       (fun i x wx=>match i with
        |0=>x = .slice A10 M.length c10
        |1=>x = .pointer (some ⟨gd,1,none⟩)
        |2=>x = .int .i64 ob
        |3=>x = .pointer (some ⟨g9+1,3,none⟩)
        |4=>x = .slice (some ⟨ub,uo,none⟩) 1 qu
        |5=>x = .pointer (some ⟨ub,uo,none⟩)
        |6=>x = .pointer (some ⟨ub,uo,none⟩)
        |7=>x = .agg #[.int .i64 wc,.int .i64 wn]
        |8=>x = .pointer (some ⟨gd,3,none⟩)
        |9=>x = .slice D val.length dd
        |10=>x = .agg #[.int .i64 ob,.int .i64 wc,.int .i64 wn,.slice D val.length dd]
        |11=>∃g9,x = .slice (some ⟨g9,0,none⟩) 1 1∧Blk wx g9 49 #[.int .i64 ob,.int .i64 wc,.int .i64 wn,.slice D val.length dd]
        |_=>True)
       (fun w1 w2=>Below w1.heap.size w1 w2) (fun h1 h2=>below_on h1 h2) (fun _=>Below.refl _ _) (Below.drew (Below.refl _ _)) ?stabBt ?stepBt ?doneBt
      case stabBt=>
       rintro i x w1 w2 h hb
       match i,h with
       |0,h=>exact h
       |1,h=>exact h
       |2,h=>exact h
       |3,h=>exact h
       |4,h=>exact h
       |5,h=>exact h
       |6,h=>exact h
       |7,h=>exact h
       |8,h=>exact h
       |9,h=>exact h
       |10,h=>exact h
       |11,h=>obtain⟨g9,e9,h9⟩:=h;exact⟨g9,e9,h9.later hb⟩
       |i+12,_=>trivial
      case stepBt=>
       intro i hi v w' hb hd
       match i,hi with
       |0,_=>
        refine wpOp_oneH rfl fun KK HKK =>?_
        clear hd
        go_wp2
        exact HKK.out _ _ ⟨_,(by simp[upd];done),Below.refl _ _,rfl⟩
       |1,_=>
        refine wpOp_oneH rfl fun KK HKK =>?_
        clear hd
        go_wp2
        exact HKK.out _ _ ⟨_,(by simp[upd];done),Below.refl _ _,rfl⟩
       |2,_=>
        have h1:v 1=_:=hdx hd 1 (by kernel_rfl)
        refine wpOp_oneH rfl fun KK HKK =>?_
        clear hd
        rw[h1]
        have q0:=cell_later hb D_1
        go_wp2
        exact HKK.out _ _ ⟨_,(by simp[upd,h1];done),Below.refl _ _,rfl⟩
       |3,_=>
        refine wpOp_oneH rfl fun KK HKK =>?_
        clear hd
        go_wp2
        exact HKK.out _ _ ⟨_,(by simp[upd];done),Below.refl _ _,rfl⟩
       |4,_=>
        have h3:v 3=_:=hdx hd 3 (by kernel_rfl)
        refine wpOp_oneH rfl fun KK HKK =>?_
        clear hd
        rw[h3]
        have q0:=cell_later hb N_3
        go_wp2
        exact HKK.out _ _ ⟨_,(by simp[upd,h3];done),Below.refl _ _,rfl⟩
       |5,_=>
        have h4:v 4=_:=hdx hd 4 (by kernel_rfl)
        refine wpOp_oneH rfl fun KK HKK =>?_
        clear hd
        rw[h4]
        go_wp2
        exact HKK.out _ _ ⟨_,(by simp[upd,h4];done),Below.refl _ _,rfl⟩
       |6,_=>
        have h5:v 5=_:=hdx hd 5 (by kernel_rfl)
        refine wpOp_oneH rfl fun KK HKK =>?_
        clear hd
        rw[h5]
        go_wp2
        exact HKK.out _ _ ⟨_,(by simp[upd,h5];done),Below.refl _ _,rfl⟩
       |7,_=>
        have h6:v 6=_:=hdx hd 6 (by kernel_rfl)
        refine wpOp_oneH rfl fun KK HKK =>?_
        clear hd
        rw[h6]
        have q0:=cell_later hb kc0
        have q1:=cell_later hb kc1
        go_wp2
        exact HKK.out _ _ ⟨_,(by simp[upd,h6];done),Below.refl _ _,rfl⟩
       |8,_=>
        refine wpOp_oneH rfl fun KK HKK =>?_
        clear hd
        go_wp2
        exact HKK.out _ _ ⟨_,(by simp[upd];done),Below.refl _ _,rfl⟩
       |9,_=>
        have h8:v 8=_:=hdx hd 8 (by kernel_rfl)
        refine wpOp_oneH rfl fun KK HKK =>?_
        clear hd
        rw[h8]
        have q0:=cell_later hb D_3
        go_wp2
        exact HKK.out _ _ ⟨_,(by simp[upd,h8];done),Below.refl _ _,rfl⟩
       |10,_=>
        have h2:v 2=_:=hdx hd 2 (by kernel_rfl)
        have h7:v 7=_:=hdx hd 7 (by kernel_rfl)
        have h9:v 9=_:=hdx hd 9 (by kernel_rfl)
        refine wpOp_oneH rfl fun KK HKK =>?_
        clear hd
        rw[h2,h7,h9]
        go_wp2
        exact HKK.out _ _ ⟨_,(by simp[upd,h2,h7,h9];done),Below.refl _ _,rfl⟩
       |11,_=>
        have h10:v 10=_:=hdx hd 10 (by kernel_rfl)
        refine wpOp_oneH rfl fun KK HKK =>?_
        clear hd
        rw[h10]
        have bn:=below_new (Below.refl w'.heap.size w') (.cells #[.int .i64 ob,.int .i64 wc,.int .i64 wn,.slice D val.length dd] 49)
        have HBN:=Hd (Blk.new w' 49 #[.int .i64 ob,.int .i64 wc,.int .i64 wn,.slice D val.length dd])
        go_wp2
        exact HKK.out _ _ ⟨_,(by simp[upd,h10];done),bn,_,rfl,HBN.out⟩
       |k+12,hk=>exact absurd hk (by omega)
      case doneBt=>
       intro v w5 hb hf
       have h0:v 0=_:=hf 0 (by decide)
       have h1:v 1=_:=hf 1 (by decide)
       have h2:v 2=_:=hf 2 (by decide)
       have h3:v 3=_:=hf 3 (by decide)
       have h4:v 4=_:=hf 4 (by decide)
       have h5:v 5=_:=hf 5 (by decide)
       have h6:v 6=_:=hf 6 (by decide)
       have h7:v 7=_:=hf 7 (by decide)
       have h8:v 8=_:=hf 8 (by decide)
       have h9:v 9=_:=hf 9 (by decide)
       have h10:v 10=_:=hf 10 (by decide)
       obtain⟨g11,h11,o11⟩:=hf 11 (by decide)
       clear hf
       rw[h0,h1,h2,h3,h4,h5,h6,h7,h8,h9,h10,h11]
       clear D_0 D_1 D_2 D_3 D_4 N_0 N_1 N_2 N_3
       replace HX:=Hd (HX.out.later hb)
       replace HD:=Hd (HD.out.later hb)
       replace HN:=Hd (HN.out.later hb)
       have HB15:=Hd (below_on HB14.out hb)
       clear HB14
       replace RA:=Hd (RA.out.later hb)
       replace RY:=Hd (RY.out.later hb)
       replace XVnv:=Hd (XVnv.out.later hb)
       replace XL:=Hd (XL.out.later hb)
       clear hb
       clear kc0 kc1 kc2 kc3
       simp only[List.drop_succ_cons,List.drop_zero]
       have R2A:=RA.out.later (Below.refl w5.heap.size w5)
       have R2Y:=RY.out.later (Below.refl w5.heap.size w5)
       have V2:=XVnv.out.later (Below.refl w5.heap.size w5)
       have BB:=Hd (below_on HB15.out (Below.refl w5.heap.size w5))
       have B2X:=HX.out.later (Below.refl w5.heap.size w5)
       have hszw:w.heap.size≤(w5).heap.size:=BB.out.size
       have hrow2:=R2Y.own
       have HNL:=Hd (show Lies w5 (some ⟨g11,0,none⟩) (Ca.cell (⟨D,dd,⟨ob,wc,wn,val⟩⟩:Bc)) from fun _=>⟨g11,0,rfl,fun j u hu=>by rw[Nat.zero_add];exact o11.cell (by simpa[Ca.cell] using hu)⟩)
       clear o11
       go_wp2_with (at_builtin;refine Go.Proofs.YtjlfehpockfkdaaGreat.wpList_append_lies _ rfl _ _ 25 rfl w.heap.size 49 i1 (.agg #[.int .i64 0,.int .i64 0,.int .i64 0,.slice none 0 0]) 4 48 Tryz.underlying25 hJ hy0 hy1 hy2 rfl (by decide) _ M.length (Ca.cells M) rfl hrow2 (some ⟨g11,0,none⟩) 1 1 (fun h=>by cases h) (Ca.cell (⟨D,dd,⟨ob,wc,wn,val⟩⟩:Bc)) rfl rfl HNL.out (by intro u hu;simp[Ca.cell]at hu;rcases hu with rfl|rfl|rfl|rfl<;>rfl) ?h63 ?hbytes hszw ?_)
       case h63=>unfold maxLen;omega
       case hbytes=>omega
       intro v' wz hownz hgz hvb
       have hry3:RowY wz w.heap.size v' (M++[(⟨D,dd,⟨ob,wc,wn,val⟩⟩:Bc)]):=RowY.snoc hownz
       clear hrow2 hszw HNL
       have RA3:=Hd (R2A.grown R2Y hgz)
       have XV3:=Hd (V2.grown hgz (fun g hg=>HCY6.out g hg))
       have HC3:=Hd (HCY6.out.grown V2 (by first|exact hvb|(rw[World.size_alloc];exact hvb)))
       have B3X:=Hd (R2Y.box B2X (by decide) hgz)
       have BB3:=Hd (BB.out.grown hgz (by have:=BB.out.size;omega) (fun r e=>own_ge R2Y.own r e))
       clear HCY6 V2 R2A R2Y RA RY XVnv hgz hownz hvb BB HB15 B2X HX
       have RY:=Hd hry3
       have RA:=RA3
       clear hry3 RA3
       have HCY6:=HC3
       have XVnv:=XV3
       clear HC3 XV3
       have HX:=B3X
       clear B3X
       have HB16:=BB3
       clear BB3
       have HMY2:=Hd (show ∀z∈M++[(⟨D,dd,⟨ob,wc,wn,val⟩⟩:Bc)],OneB w z.X z.d z.b.v from fun z hz=>by rcases List.mem_append.1 hz with h|h;exact HMY.out z h;rw[List.mem_singleton]at h;subst h;exact HDA.out)
       have HNW7:=Hd (show Vw.Nw nx (all++[(wc,wn,ob,gone)]) ((M++[(⟨D,dd,⟨ob,wc,wn,val⟩⟩:Bc)]).map Bc.b) from by have h:=HNW6.out;simp only[if_true]at h;rw[List.map_append];exact h)
       go_wp2_with fail
       go_roundw
       case rel=>exact⟨k+1,⟨Knv,cknv,knv,Znv,cznv,znv,Hnv,chnv,hnv,Bnv,cbnv,bnv,rnv⟩,all++[(wc,wn,ob,gone)],M++[(⟨D,dd,⟨ob,wc,wn,val⟩⟩:Bc)],by omega,by go_num,RA.out,RY.out,HMY2.out,by rw[HQnv.out];exact HNW7.out,by show Ve.top (Ve.cnt knv)≤9223372036854775807;rw[show knv=nx.k from congrArg Vw.k HQnv.out];exact HTOP6.out,(by rw[List.length_append];show all.length+1≤256*(k+1);omega),(by rw[List.length_append];show M.length+1≤k+1;omega),XVnv.out,HCA6.out,HCY6.out,HX.out,HB16.out⟩
       case measure=>simp[intOf];omega
   have d1:((m:Int) == 1)=false:=by rw[beq_eq_false_iff_ne];omega
   clear hm0 hm1
   obtain⟨-,-,-,kc0,kc1,kc2,kc3⟩:=HAC.out wr HBW.out
   obtain⟨⟨nx,er⟩,hnx⟩:∃t,Vw.bodyR vv ⟨y0,y1,y2,yv⟩=t:=⟨_,rfl⟩
   have TK:=Hd (fun wx (hbx:Below wr.heap.size wr wx)=>show Calls Tryz.prog 25 #[.agg #[.slice Kov kov.length ckov,.slice Zov zov.length czov,.slice Hov hov.length chov,.slice Bov bov.length cbov,.int .i64 rov],.agg #[.int .i64 y0,.int .i64 y1,.int .i64 y2,.slice Y yv.length yd]] wx (GivesVwN nx er wx) from by have h:=SLO.out.body ⟨Kov,ckov,kov,Zov,czov,zov,Hov,chov,hov,Bov,cbov,bov,rov⟩ Y yd ⟨y0,y1,y2,yv⟩ wx (XV.out.later hbx) (HYA.out.later (below_on HBW.out hbx));rw[HPV.out,hnx]at h;exact h)
   have HNX:=Hd hnx
   clear hnx
   have HGW:=Hd HX.out.lt
   have X_0:=HX.out.cell (i:=0) rfl
   have X_1:=HX.out.cell (i:=1) rfl
   have X_2:=HX.out.cell (i:=2) rfl
   have X_3:=HX.out.cell (i:=3) rfl
   have X_4:=HX.out.cell (i:=4) rfl
   go_upto_region 14 with (fail)
   refine wp_region_facts3 12 (by kernel_rfl) (by kernel_rfl)
    (fun v=>{ tmps:=#[.slice (some ⟨b,off,none⟩) L.length c,.int .u16 room,.int .i64 o,undef,undef,undef,.bool false,.pointer (some ⟨g7,0,none⟩),.int .i64 0,.slice A9 all.length c9,.slice A10 M.length c10,.int .i64 (k:Int),u12,u13,undef,u15,u16,u17,u18,u19,v 10,u21,undef,undef,undef,undef,undef,undef,.bool true,.bool false,.slice (some ⟨b,off,none⟩) L.length c,.int .i64 (L.length:Int),.bool false,.tuple #[.agg #[.slice Koo koo.length ckoo,.slice Zoo zoo.length czoo,.slice Hoo hoo.length choo,.slice Boo boo.length cboo,.int .i64 roo],.int .i64 0],.int .u16 room,.int .i64 room,.tuple #[.agg #[.slice Koo koo.length ckoo,.slice Zoo zoo.length czoo,.slice Hoo hoo.length choo,.slice Boo boo.length cboo,.int .i64 roo],.int .i64 0],.agg #[.slice Koo koo.length ckoo,.slice Zoo zoo.length czoo,.slice Hoo hoo.length choo,.slice Boo boo.length cboo,.int .i64 roo],.int .i64 0,.int .i64 0,.bool false,.int .i64 (k:Int),.slice (some ⟨b,off,none⟩) L.length c,.int .i64 (L.length:Int),.bool true,u45,u46,.slice (some ⟨b,off,none⟩) L.length c,.int .i64 (k:Int),.pointer (some ⟨b,off+k*14,none⟩),.pointer (some ⟨b,off+k*14,none⟩),.int .i64 kind,.int .u64 kw,.int .u64 (m:Int),v 7,v 0,v 1,v 2,v 3,v 4,v 5,v 6,v 8,v 9,u64,u65,u66,u67,u68,u69,u70,u71,u72,u73,u74,.bool false,.bool false,u77,u78,u79,u80,u81,u82,u83,u84,u85,u86,u87,u88,u89,u90,u91,u92,u93,u94,u95,u96,u97,u98,u99,u100,u101,u102,u103,u104,u105,u106,u107,u108,u109,u110,u111,u112,u113,u114,u115,.bool false,.bool false,u118,u119,u120,u121,u122,u123,u124,u125,u126,u127,u128,u129,u130,u131,u132,u133,u134,u135,u136,u137,u138,u139,u140,u141,u142,u143,u144,u145,u146,u147,u148,u149,u150,u151,u152,u153,u154,u155,u156,u157,u158,u159,u160,u161,u162,u163,u164,u165,u166,u167,u168,u169,u170,u171,undef,undef,undef,undef,undef,undef,undef,undef,undef,undef,undef,undef,undef,undef,undef,undef,undef,undef,undef,undef,undef,undef,undef,undef,undef,undef,undef,undef,undef,undef,undef,undef,undef,undef,undef,undef,undef,undef,undef,undef,undef,undef,undef,undef,undef,undef,undef,undef,undef,undef,undef,undef,undef,undef,undef,undef,undef,undef,undef,undef,undef,undef,undef,undef,undef,undef,undef,undef,undef,undef,undef,undef,undef,undef,undef,undef,undef,undef,undef,undef,undef,undef,undef,undef],defers:=[] }) (fun i=>match i with|0=>u55|1=>u56|2=>u57|3=>u58|4=>u59|5=>u60|6=>u61|7=>u54|8=>u62|9=>u63|10=>u20|_=>undef)
    (NwF wr.heap.size 27 (fun i=>match i with|0 =>.agg #[.slice Kov kov.length ckov,.slice Zov zov.length czov,.slice Hov hov.length chov,.slice Bov bov.length cbov,.int .i64 rov]|1 =>.slice (some ⟨b,off,none⟩) L.length c|2 =>.int .i64 (k:Int)|3 =>.pointer (some ⟨b,off+k*14,none⟩)|4 =>.pointer (some ⟨b,off+k*14+10,none⟩)|5 =>.agg #[.int .i64 y0,.int .i64 y1,.int .i64 y2,.slice Y yv.length yd]|_=>undef) nx er)
    (fun w1 w2=>Below wr.heap.size w1 w2) (fun h1 h2=>h1.trans h2) (fun _=>Below.refl _ _) (Below.drew (Below.refl _ _)) ?loc ?step ?done
   case loc=>
    intro i k9 v x wx hk9 hd h
    exact NwF.loc hk9 (fun e h8=>by subst e;subst h8;exact hd (List.elem_iff.1 (by kernel_rfl))) h
   case step=>
    intro i hi v w' hb hd
    match i,hi with
    |0,_=>
     refine wpOp_oneH rfl fun KK HKK =>?_
     clear hd
     have q0:=cell_later hb X_0
     have q1:=cell_later hb X_1
     have q2:=cell_later hb X_2
     have q3:=cell_later hb X_3
     have q4:=cell_later hb X_4
     go_wp2
     exact HKK.out _ _ ⟨_,(by simp[upd];done),Below.refl _ _,rfl,fun _ _ _ h=>h⟩
    |1,_=>
     refine wpOp_oneH rfl fun KK HKK =>?_
     clear hd
     go_wp2
     exact HKK.out _ _ ⟨_,(by simp[upd];done),Below.refl _ _,rfl,fun _ _ _ h=>h⟩
    |2,_=>
     refine wpOp_oneH rfl fun KK HKK =>?_
     clear hd
     go_wp2
     exact HKK.out _ _ ⟨_,(by simp[upd];done),Below.refl _ _,rfl,fun _ _ _ h=>h⟩
    |3,_=>
     have h1:v 1 = .slice (some ⟨b,off,none⟩) L.length c:=hd 1 (List.elem_iff.1 (by kernel_rfl))
     have h2:v 2 = .int .i64 (k:Int):=hd 2 (List.elem_iff.1 (by kernel_rfl))
     refine wpOp_oneH rfl fun KK HKK =>?_
     clear hd
     rw[h1,h2]
     go_wp2
     exact HKK.out _ _ ⟨_,(by simp[upd,h1,h2];done),Below.refl _ _,rfl,fun _ _ _ h=>h⟩
    |4,_=>
     have h3:v 3 = .pointer (some ⟨b,off+k*14,none⟩):=hd 3 (List.elem_iff.1 (by kernel_rfl))
     refine wpOp_oneH rfl fun KK HKK =>?_
     clear hd
     rw[h3]
     go_wp2
     exact HKK.out _ _ ⟨_,(by simp[upd,h3];done),Below.refl _ _,rfl,fun _ _ _ h=>h⟩
    |5,_=>
     have h4:v 4 = .pointer (some ⟨b,off+k*14+10,none⟩):=hd 4 (List.elem_iff.1 (by kernel_rfl))
     refine wpOp_oneH rfl fun KK HKK =>?_
     clear hd
     have q0:=cell_later hb kc0
     have q1:=cell_later hb kc1
     have q2:=cell_later hb kc2
     have q3:=cell_later hb kc3
     rw[h4]
     go_wp2
     exact HKK.out _ _ ⟨_,(by simp[upd,h4];done),Below.refl _ _,rfl,fun _ _ _ h=>h⟩
    |6,_=>
     have h0:v 0 = .agg #[.slice Kov kov.length ckov,.slice Zov zov.length czov,.slice Hov hov.length chov,.slice Bov bov.length cbov,.int .i64 rov]:=hd 0 (List.elem_iff.1 (by kernel_rfl))
     have h5:v 5 = .agg #[.int .i64 y0,.int .i64 y1,.int .i64 y2,.slice Y yv.length yd]:=hd 5 (List.elem_iff.1 (by kernel_rfl))
     refine wpOp_oneH rfl fun KK HKK =>?_
     clear hd
     rw[h0,h5]
     go_wp2_with fail
     refine(TK.out _ hb).mono ?_
     rintro e w'' ⟨⟨p1,q2,q1,p3,q5,q4,p6,q8,q7,p9,q11,q10,q12⟩,rfl,hq,hV,hL,bV⟩
     have HL9:=Hd (hL.lower hb.size)
     clear hL
     unfold vwCells
     dsimp only
     go_wp2
     exact HKK.out _ _ ⟨_,(by simp[upd,h0,h5,vwCells];done),bV.mono hb.size,⟨⟨p1,q2,q1,p3,q5,q4,p6,q8,q7,p9,q11,q10,q12⟩,rfl,hq,hV,HL9.out⟩,fun _ _ _ h=>h.later bV⟩
    |7,_=>
     obtain⟨⟨p1,q2,q1,p3,q5,q4,p6,q8,q7,p9,q11,q10,q12⟩,h6,m6,o6,l6⟩:=hd 6 (List.elem_iff.1 (by kernel_rfl))
     have h6:v 6 = .tuple #[.agg #[.slice p1 q1.length q2,.slice p3 q4.length q5,.slice p6 q7.length q8,.slice p9 q10.length q11,.int .i64 q12],.int .i64 er]:=h6
     refine wpOp_oneH rfl fun KK HKK =>?_
     clear hd
     rw[h6]
     go_wp2
     exact HKK.out _ _ ⟨_,(by simp[upd,h6,vwCells];done),Below.refl _ _,⟨⟨p1,q2,q1,p3,q5,q4,p6,q8,q7,p9,q11,q10,q12⟩,rfl,m6,o6,l6⟩,fun _ _ _ h=>h⟩
    |8,_=>
     obtain⟨⟨p1,q2,q1,p3,q5,q4,p6,q8,q7,p9,q11,q10,q12⟩,h7,m7,o7,l7⟩:=hd 7 (List.elem_iff.1 (by kernel_rfl))
     have h7:v 7 = .tuple #[.agg #[.slice p1 q1.length q2,.slice p3 q4.length q5,.slice p6 q7.length q8,.slice p9 q10.length q11,.int .i64 q12],.int .i64 er]:=h7
     refine wpOp_oneH rfl fun KK HKK =>?_
     clear hd
     rw[h7]
     go_wp2
     exact HKK.out _ _ ⟨_,(by simp[upd,h7,vwCells];done),Below.refl _ _,⟨⟨p1,q2,q1,p3,q5,q4,p6,q8,q7,p9,q11,q10,q12⟩,rfl,m7,o7,l7⟩,fun _ _ _ h=>h⟩
    |9,_=>
     obtain⟨⟨p1,q2,q1,p3,q5,q4,p6,q8,q7,p9,q11,q10,q12⟩,h7,m7,o7,l7⟩:=hd 7 (List.elem_iff.1 (by kernel_rfl))
     have h7:v 7 = .tuple #[.agg #[.slice p1 q1.length q2,.slice p3 q4.length q5,.slice p6 q7.length q8,.slice p9 q10.length q11,.int .i64 q12],.int .i64 er]:=h7
     refine wpOp_oneH rfl fun KK HKK =>?_
     clear hd
     rw[h7]
     go_wp2
     exact HKK.out _ _ ⟨_,(by simp[upd,h7];done),Below.refl _ _,rfl,fun _ _ _ h=>h⟩
    |10,_=>
     refine wpOp_oneH rfl fun KK HKK =>?_
     clear hd
     go_wp2
     exact HKK.out _ _ ⟨_,(by simp[upd];done),(below_new (Below.refl w'.heap.size w') (.cells #[.slice none 0 0,.slice none 0 0,.slice none 0 0,.slice none 0 0,.int .i64 0] 27)).mono hb.size,⟨w'.heap.size,Vl.none,rfl,hb.size,Blk.new _ _ _⟩,fun _ _ _ h=>h.later (below_new (Below.refl w'.heap.size w') (.cells #[.slice none 0 0,.slice none 0 0,.slice none 0 0,.slice none 0 0,.int .i64 0] 27))⟩
    |11,_=>
     obtain⟨⟨p1,q2,q1,p3,q5,q4,p6,q8,q7,p9,q11,q10,q12⟩,h8,m8,o8,l8⟩:=hd 8 (List.elem_iff.1 (by kernel_rfl))
     have h8:v 8 = .agg #[.slice p1 q1.length q2,.slice p3 q4.length q5,.slice p6 q7.length q8,.slice p9 q10.length q11,.int .i64 q12]:=h8
     obtain⟨g9,y9,h9,l9,o9⟩:=hd 10 (List.elem_iff.1 (by kernel_rfl))
     refine wpOp_oneH rfl fun KK HKK =>?_
     clear hd
     rw[h8,h9]
     have FIN:=Hd (fun kk9=>NwF.store (B:=wr.heap.size) (kk:=kk9) (er:=er) (p:=y9) h9 l9 o9 m8 o8 l8)
     obtain⟨Kt,ckt,kt,Zt,czt,zt,Ht,cht,ht,Bt,cbt,bt,rt⟩:=y9
     unfold vwCells at o9
     dsimp only at o9
     have kz0':=o9.cell (i:=0) rfl
     have kz1':=o9.cell (i:=1) rfl
     have kz2':=o9.cell (i:=2) rfl
     have kz3':=o9.cell (i:=3) rfl
     have kz4':=o9.cell (i:=4) rfl
     have u0':=o9.free 0
     have u1':=o9.free 1
     have u2':=o9.free 2
     have u3':=o9.free 3
     have u4':=o9.free 4
     go_wp2
     exact HKK.out _ _ ⟨undef,(by simp[upd,h8,h9];done),(FIN.out (fun _=>undef)).1,(FIN.out _).2.1 undef,fun j hj=>(FIN.out _).2.2 j (by omega)⟩
   case done=>
    intro v w' hb hf
    have h9:v 9 = .int .i64 er:=hf 9 (by omega)
    obtain⟨g9,q7,h10,m10,o10,m7,o7,l7⟩:=hf 11 (by omega)
    clear hf
    simp only[List.drop_succ_cons,List.drop_zero]
    rw[h9,h10]
    clear h9 h10
    generalize v 0=va0
    generalize v 1=va1
    generalize v 2=va2
    generalize v 3=va3
    generalize v 4=va4
    generalize v 5=va5
    generalize v 6=va6
    generalize v 7=va7
    generalize v 8=va8
    clear v
    clear X_0 X_1 X_2 X_3 X_4
    clear TK kc0 kc1 kc2 kc3
    have HCA6:=Hd (Clear.newA RA.out (Nat.le_refl _) l7)
    have HCY6:=Hd (Clear.newY RY.out (Nat.le_refl _) l7)
    replace HX:=Hd (HX.out.later hb)
    have HB4:=Hd (below_on HBW.out hb)
    clear HBW
    replace XV:=Hd (XV.out.later hb)
    replace RA:=Hd (RA.out.later hb)
    replace RY:=Hd (RY.out.later hb)
    clear hb l7
    obtain⟨Knv,cknv,knv,Znv,cznv,znv,Hnv,chnv,hnv,Bnv,cbnv,bnv,rnv⟩:=q7
    have HQnv:=Hd m7
    have XVnv:=Hd o7
    unfold vwCells at o10
    dsimp only at o10
    have HT:=Hd o10
    have HG9:=Hd m10
    clear m7 o7 o10 m10
    by_cases her:er=0
    rotate_left
    ·
     have dr:(er == 0)=false:=beq_eq_false_iff_ne.2 her
     clear her
     go_wp2_with fail
     go_roundw
     case rel=>exact⟨k+1,⟨Kov,ckov,kov,Zov,czov,zov,Hov,chov,hov,Bov,cbov,bov,rov⟩,all,M,by omega,by go_num,RA.out,RY.out,HMY.out,by rw[HPV.out];exact HNW.out,HTOP.out,by omega,by omega,XV.out,HCA.out,HCY.out,HX.out,HB4.out⟩
     case measure=>simp[intOf];omega
    have dr:(er == 0)=true:=by rw[her];rfl
    have h00:(Vw.bodyR vv ⟨y0,y1,y2,yv⟩).2=0:=by rw[HNX.out];exact her
    have hnw:=Vw.nw_body HNW.out h00
    have hvk:vv.k=kov:=by rw[←HPV.out];rfl
    have htop:=Vw.body_top h00 (by rw[hvk];exact HTOP.out)
    rw[HNX.out]at hnw htop
    dsimp only at hnw htop
    have HNW6:=Hd (show Vw.Nw nx all ((M++[(⟨Y,yd,⟨y0,y1,y2,yv⟩⟩:Bc)]).map Bc.b) from by rw[List.map_append];exact hnw)
    have HTOP6:=Hd htop
    clear her h00 hnw hvk htop HNX
    have hg7:=HG7.out
    have hg79:g7≠g9:=by have:=HG9.out;have:=HGW.out;omega
    have T_0:=HT.out.cell (i:=0) rfl
    have T_1:=HT.out.cell (i:=1) rfl
    have T_2:=HT.out.cell (i:=2) rfl
    have T_3:=HT.out.cell (i:=3) rfl
    have T_4:=HT.out.cell (i:=4) rfl
    have X_0:=HX.out.cell (i:=0) rfl
    have X_1:=HX.out.cell (i:=1) rfl
    have X_2:=HX.out.cell (i:=2) rfl
    have X_3:=HX.out.cell (i:=3) rfl
    have X_4:=HX.out.cell (i:=4) rfl
    have X_f0:=HX.out.free 0
    have X_f1:=HX.out.free 1
    have X_f2:=HX.out.free 2
    have X_f3:=HX.out.free 3
    have X_f4:=HX.out.free 4
    go_upto_region 17 with (fail)
    clear T_0 T_1 T_2 T_3 T_4 X_0 X_1 X_2 X_3 X_4 X_f0 X_f1 X_f2 X_f3 X_f4
    obtain⟨w5,hw5⟩:∃x,w'.setCell ⟨g7,0,none⟩ (.slice Knv knv.length cknv)=x:=⟨_,rfl⟩
    have t_RA:=RA.out.far HX.out rfl 0 (.slice Knv knv.length cknv)
    have t_RY:=RY.out.far HX.out rfl 0 (.slice Knv knv.length cknv)
    have t_XVnv:=XVnv.out.far HX.out rfl 0 (.slice Knv knv.length cknv)
    have t_HT:=HT.out.far (p:=⟨g7,0,none⟩) (by show g9≠g7;omega) (.slice Knv knv.length cknv)
    have t_HX:Blk (w'.setCell ⟨g7,0,none⟩ (.slice Knv knv.length cknv)) (g7) 27 #[.slice Knv knv.length cknv,.slice Zov zov.length czov,.slice Hov hov.length chov,.slice Bov bov.length cbov,.int .i64 rov]:=HX.out.put 0 (.slice Knv knv.length cknv)
    have t_HB5:=HB4.out.setCell (p:=⟨g7,0,none⟩) (by show w.heap.size≤g7;omega) (.slice Knv knv.length cknv)
    rw[hw5]at t_RA t_RY t_XVnv t_HT t_HX t_HB5
    rw[hw5]
    replace RA:=Hd t_RA
    replace RY:=Hd t_RY
    replace XVnv:=Hd t_XVnv
    replace HT:=Hd t_HT
    replace HX:=Hd t_HX
    have HB5:=Hd t_HB5
    clear t_RA t_RY t_XVnv t_HT t_HX t_HB5 hw5 HB4
    obtain⟨w6,hw6⟩:∃x,w5.setCell ⟨g7,1,none⟩ (.slice Znv znv.length cznv)=x:=⟨_,rfl⟩
    have t_RA:=RA.out.far HX.out rfl 1 (.slice Znv znv.length cznv)
    have t_RY:=RY.out.far HX.out rfl 1 (.slice Znv znv.length cznv)
    have t_XVnv:=XVnv.out.far HX.out rfl 1 (.slice Znv znv.length cznv)
    have t_HT:=HT.out.far (p:=⟨g7,1,none⟩) (by show g9≠g7;omega) (.slice Znv znv.length cznv)
    have t_HX:Blk (w5.setCell ⟨g7,1,none⟩ (.slice Znv znv.length cznv)) (g7) 27 #[.slice Knv knv.length cknv,.slice Znv znv.length cznv,.slice Hov hov.length chov,.slice Bov bov.length cbov,.int .i64 rov]:=HX.out.put 1 (.slice Znv znv.length cznv)
    have t_HB6:=HB5.out.setCell (p:=⟨g7,1,none⟩) (by show w.heap.size≤g7;omega) (.slice Znv znv.length cznv)
    rw[hw6]at t_RA t_RY t_XVnv t_HT t_HX t_HB6
    rw[hw6]
    replace RA:=Hd t_RA
    replace RY:=Hd t_RY
    replace XVnv:=Hd t_XVnv
    replace HT:=Hd t_HT
    replace HX:=Hd t_HX
    have HB6:=Hd t_HB6
    clear t_RA t_RY t_XVnv t_HT t_HX t_HB6 hw6 HB5
    obtain⟨w7,hw7⟩:∃x,w6.setCell ⟨g7,2,none⟩ (.slice Hnv hnv.length chnv)=x:=⟨_,rfl⟩
    have t_RA:=RA.out.far HX.out rfl 2 (.slice Hnv hnv.length chnv)
    have t_RY:=RY.out.far HX.out rfl 2 (.slice Hnv hnv.length chnv)
    have t_XVnv:=XVnv.out.far HX.out rfl 2 (.slice Hnv hnv.length chnv)
    have t_HT:=HT.out.far (p:=⟨g7,2,none⟩) (by show g9≠g7;omega) (.slice Hnv hnv.length chnv)
    have t_HX:Blk (w6.setCell ⟨g7,2,none⟩ (.slice Hnv hnv.length chnv)) (g7) 27 #[.slice Knv knv.length cknv,.slice Znv znv.length cznv,.slice Hnv hnv.length chnv,.slice Bov bov.length cbov,.int .i64 rov]:=HX.out.put 2 (.slice Hnv hnv.length chnv)
    have t_HB7:=HB6.out.setCell (p:=⟨g7,2,none⟩) (by show w.heap.size≤g7;omega) (.slice Hnv hnv.length chnv)
    rw[hw7]at t_RA t_RY t_XVnv t_HT t_HX t_HB7
    rw[hw7]
    replace RA:=Hd t_RA
    replace RY:=Hd t_RY
    replace XVnv:=Hd t_XVnv
    replace HT:=Hd t_HT
    replace HX:=Hd t_HX
    have HB7:=Hd t_HB7
    clear t_RA t_RY t_XVnv t_HT t_HX t_HB7 hw7 HB6
    obtain⟨w8,hw8⟩:∃x,w7.setCell ⟨g7,3,none⟩ (.slice Bnv bnv.length cbnv)=x:=⟨_,rfl⟩
    have t_RA:=RA.out.far HX.out rfl 3 (.slice Bnv bnv.length cbnv)
    have t_RY:=RY.out.far HX.out rfl 3 (.slice Bnv bnv.length cbnv)
    have t_XVnv:=XVnv.out.far HX.out rfl 3 (.slice Bnv bnv.length cbnv)
    have t_HT:=HT.out.far (p:=⟨g7,3,none⟩) (by show g9≠g7;omega) (.slice Bnv bnv.length cbnv)
    have t_HX:Blk (w7.setCell ⟨g7,3,none⟩ (.slice Bnv bnv.length cbnv)) (g7) 27 #[.slice Knv knv.length cknv,.slice Znv znv.length cznv,.slice Hnv hnv.length chnv,.slice Bnv bnv.length cbnv,.int .i64 rov]:=HX.out.put 3 (.slice Bnv bnv.length cbnv)
    have t_HB8:=HB7.out.setCell (p:=⟨g7,3,none⟩) (by show w.heap.size≤g7;omega) (.slice Bnv bnv.length cbnv)
    rw[hw8]at t_RA t_RY t_XVnv t_HT t_HX t_HB8
    rw[hw8]
    replace RA:=Hd t_RA
    replace RY:=Hd t_RY
    replace XVnv:=Hd t_XVnv
    replace HT:=Hd t_HT
    replace HX:=Hd t_HX
    have HB8:=Hd t_HB8
    clear t_RA t_RY t_XVnv t_HT t_HX t_HB8 hw8 HB7
    obtain⟨w9,hw9⟩:∃x,w8.setCell ⟨g7,4,none⟩ (.int .i64 rnv)=x:=⟨_,rfl⟩
    have t_RA:=RA.out.far HX.out rfl 4 (.int .i64 rnv)
    have t_RY:=RY.out.far HX.out rfl 4 (.int .i64 rnv)
    have t_XVnv:=XVnv.out.far HX.out rfl 4 (.int .i64 rnv)
    have t_HT:=HT.out.far (p:=⟨g7,4,none⟩) (by show g9≠g7;omega) (.int .i64 rnv)
    have t_HX:Blk (w8.setCell ⟨g7,4,none⟩ (.int .i64 rnv)) (g7) 27 #[.slice Knv knv.length cknv,.slice Znv znv.length cznv,.slice Hnv hnv.length chnv,.slice Bnv bnv.length cbnv,.int .i64 rnv]:=HX.out.put 4 (.int .i64 rnv)
    have t_HB9:=HB8.out.setCell (p:=⟨g7,4,none⟩) (by show w.heap.size≤g7;omega) (.int .i64 rnv)
    rw[hw9]at t_RA t_RY t_XVnv t_HT t_HX t_HB9
    rw[hw9]
    replace RA:=Hd t_RA
    replace RY:=Hd t_RY
    replace XVnv:=Hd t_XVnv
    replace HT:=Hd t_HT
    replace HX:=Hd t_HX
    have HB9:=Hd t_HB9
    clear t_RA t_RY t_XVnv t_HT t_HX t_HB9 hw9 HB8
    clear XV HCA HCY HT
    obtain⟨-,-,-,kc0,kc1,kc2,kc3⟩:=HAC.out w9 HB9.out
    have bn:=below_new (Below.refl w9.heap.size w9) (.cells #[.int .i64 y0,.int .i64 y1,.int .i64 y2,.slice Y yv.length yd] 49)
    have R2A:=RA.out.later bn
    have R2Y:=RY.out.later bn
    have V2:=XVnv.out.later bn
    have BB:=Hd (below_on HB9.out bn)
    have B2X:=HX.out.later bn
    have hszw:w.heap.size≤(w9.alloc (.cells #[.int .i64 y0,.int .i64 y1,.int .i64 y2,.slice Y yv.length yd] 49)).heap.size:=BB.out.size
    have hrow2:=R2Y.own
    have HNL:=Hd (show Lies (w9.alloc (.cells #[.int .i64 y0,.int .i64 y1,.int .i64 y2,.slice Y yv.length yd] 49)) (some ⟨w9.heap.size,0,none⟩) (Ca.cell (⟨Y,yd,⟨y0,y1,y2,yv⟩⟩:Bc)) from fun _=>⟨w9.heap.size,0,rfl,fun j u hu=>by rw[Nat.zero_add];exact(Blk.new w9 49 #[.int .i64 y0,.int .i64 y1,.int .i64 y2,.slice Y yv.length yd]).cell (by simpa[Ca.cell] using hu)⟩)
    clear bn
    go_wp2_with (at_builtin;refine Go.Proofs.YtjlfehpockfkdaaGreat.wpList_append_lies _ rfl _ _ 25 rfl w.heap.size 49 i1 (.agg #[.int .i64 0,.int .i64 0,.int .i64 0,.slice none 0 0]) 4 48 Tryz.underlying25 hJ hy0 hy1 hy2 rfl (by decide) _ M.length (Ca.cells M) rfl hrow2 (some ⟨w9.heap.size,0,none⟩) 1 1 (fun h=>by cases h) (Ca.cell (⟨Y,yd,⟨y0,y1,y2,yv⟩⟩:Bc)) rfl rfl HNL.out (by intro u hu;simp[Ca.cell]at hu;rcases hu with rfl|rfl|rfl|rfl<;>rfl) ?h63 ?hbytes hszw ?_)
    case h63=>unfold maxLen;omega
    case hbytes=>omega
    intro v' wz hownz hgz hvb
    have hry3:RowY wz w.heap.size v' (M++[(⟨Y,yd,⟨y0,y1,y2,yv⟩⟩:Bc)]):=RowY.snoc hownz
    clear hrow2 hszw HNL
    have RA3:=Hd (R2A.grown R2Y hgz)
    have XV3:=Hd (V2.grown hgz (fun g hg=>HCY6.out g hg))
    have HC3:=Hd (HCY6.out.grown V2 (by first|exact hvb|(rw[World.size_alloc];exact hvb)))
    have B3X:=Hd (R2Y.box B2X (by decide) hgz)
    have BB3:=Hd (BB.out.grown hgz (by have:=BB.out.size;omega) (fun r e=>own_ge R2Y.own r e))
    clear HCY6 V2 R2A R2Y RA RY XVnv hgz hownz hvb BB HB9 B2X HX
    have RY:=Hd hry3
    have RA:=RA3
    clear hry3 RA3
    have HCY6:=HC3
    have XVnv:=XV3
    clear HC3 XV3
    have HX:=B3X
    clear B3X
    have HB10:=BB3
    clear BB3
    clear kc0 kc1 kc2 kc3
    have HMY2:=Hd (show ∀z∈M++[(⟨Y,yd,⟨y0,y1,y2,yv⟩⟩:Bc)],OneB w z.X z.d z.b.v from fun z hz=>by rcases List.mem_append.1 hz with h|h;exact HMY.out z h;rw[List.mem_singleton]at h;subst h;exact HYA.out)
    go_wp2_with fail
    go_roundw
    case rel=>exact⟨k+1,⟨Knv,cknv,knv,Znv,cznv,znv,Hnv,chnv,hnv,Bnv,cbnv,bnv,rnv⟩,all,M++[(⟨Y,yd,⟨y0,y1,y2,yv⟩⟩:Bc)],by omega,by go_num,RA.out,RY.out,HMY2.out,by rw[HQnv.out];exact HNW6.out,by show Ve.top (Ve.cnt knv)≤9223372036854775807;rw[show knv=nx.k from congrArg Vw.k HQnv.out];exact HTOP6.out,by omega,(by rw[List.length_append];show M.length+1≤k+1;omega),XVnv.out,HCA6.out,HCY6.out,HX.out,HB10.out⟩
    case measure=>simp[intOf];omega
  obtain rfl:k=L.length:=by omega
  have hd0:decide ((L.length:Int)<(L.length:Int))=false:=decide_eq_false (by omega)
  obtain⟨⟨rb,⟨rc,rn,ro,rg⟩,er⟩,hrd⟩:∃t,Vw.readR vv o=t:=⟨_,rfl⟩
  have hnr:=Vw.nw_read HNW.out o
  rw[hrd]at hnr
  dsimp only at hnr
  obtain⟨r1,r2,r3,r4⟩:=hnr
  have R1:=Hd r1
  have R2:=Hd r2
  have R3:=Hd r3
  have R4:=Hd r4
  clear r1 r2 r3 r4
  have RD:=Hd (show Calls Tryz.prog 27 #[.agg #[.slice Kov kov.length ckov,.slice Zov zov.length czov,.slice Hov hov.length chov,.slice Bov bov.length cbov,.int .i64 rov],.int .i64 o] wr (GivesRd rb (rc,rn,ro,rg) er wr) from by have h:=SS.out.read ⟨Kov,ckov,kov,Zov,czov,zov,Hov,chov,hov,Bov,cbov,bov,rov⟩ o wr XV.out;rw[HPV.out,hrd]at h;exact h)
  have XA:=Hd RA.out.one.2
  have XC:=Hd (RY.out.one (fun z hz=>(HMY.out z hz).later HBW.out)).2
  clear hrd RA RY HMY HNW HTOP XV HCA HCY HPV SS SLO HA
  have X_0:=HX.out.cell (i:=0) rfl
  have X_1:=HX.out.cell (i:=1) rfl
  have X_2:=HX.out.cell (i:=2) rfl
  have X_3:=HX.out.cell (i:=3) rfl
  have X_4:=HX.out.cell (i:=4) rfl
  go_wp2_with fail
  refine(RD.out).mono ?_
  rintro e w4 ⟨RB,rbc,rfl,hB,b4⟩
  clear X_0 X_1 X_2 X_3 X_4
  replace HX:=Hd (HX.out.later b4)
  have HB4:=Hd (below_on HBW.out b4)
  clear HBW
  replace XA:=Hd (XA.out.later b4)
  replace XC:=Hd (XC.out.later b4)
  clear b4 RD
  have XB:=Hd hB
  clear hB
  unfold Nt.wrArr
  dsimp only
  clear HX
  obtain⟨gr,hggr⟩:∃gr,w4.heap.size=gr:=⟨_,rfl⟩
  have le_gr:w.heap.size≤gr:=by have:=HB4.out.size;rw[hggr]at this;exact this
  go_upto_region 37 with (fail)
  have b5:=below_new (Below.refl w4.heap.size w4) (.cells #[.int .i64 rc,.int .i64 rn,.int .i64 ro,.bool rg] 52)
  have hR:=Blk.new w4 52 #[.int .i64 rc,.int .i64 rn,.int .i64 ro,.bool rg]
  obtain⟨w5,hw5⟩:∃x,w4.alloc (.cells #[.int .i64 rc,.int .i64 rn,.int .i64 ro,.bool rg] 52)=x:=⟨_,rfl⟩
  rw[hw5]at b5 hR
  rw[hw5]
  have HB5:=Hd (below_on HB4.out b5)
  clear HB4
  replace XA:=Hd (XA.out.later b5)
  replace XC:=Hd (XC.out.later b5)
  replace XB:=Hd (XB.out.later b5)
  rw[hggr]at hR
  have HR:=Hd hR
  clear b5 hw5 hR
  have BR:=Hd (Below.refl w5.heap.size w5)
  have hal:all.length≤15360:=by omega
  have hml:M.length≤60:=by omega
  go_wp2_with fail
  go_loopw [25,26] (fun s25 s26 wr=>∃(ix:Nat) (sn:Bool),ix≤all.length∧s26 = .int .i64 (ix:Int)∧s25 = .bool sn∧sn=(all.take ix).any (fun p=>decide (p.2.2.1=o))∧Below w5.heap.size w5 wr) (fun _ s26 _=>all.length-(intOf s26).toNat)
  case atStart=>exact⟨0,false,Nat.zero_le _,rfl,rfl,rfl,Below.refl _ _⟩
  case round=>
   obtain⟨ix,sn,hi,rfl,rfl,hsn,hbw⟩:=hrel
   have HSN:=Hd hsn
   have BW:=Hd hbw
   replace HR:=Hd (HR.out.later hbw)
   have HB6:=Hd (below_on HB5.out hbw)
   clear HB5
   replace XA:=Hd (XA.out.later hbw)
   replace XC:=Hd (XC.out.later hbw)
   replace XB:=Hd (XB.out.later hbw)
   clear hsn hbw
   by_cases hlt:ix<all.length
   ·
    have hi0:(0:Int)≤(ix:Int):=by omega
    have hi1:(ix:Int)<(all.length:Int):=by omega
    obtain⟨ub,uo,hU,-⟩:=XA.out.at (fun h=>by rw[h]at hlt;exact absurd hlt (Nat.not_lt_zero _))
    obtain⟨y,hy⟩:∃y,all[ix]?=some y:=⟨all[ix],List.getElem?_eq_getElem hlt⟩
    have hmy:=List.mem_of_getElem? hy
    have hay:=Vw.any_succ (o:=o) hy
    have HU:=Hd hU
    subst hU
    obtain⟨kc0,kc1,kc2,kc3⟩:=XA.out.cells4 hy
    obtain⟨x0,x1,x2,x3⟩:=y
    dsimp only at kc0 kc1 kc2 kc3 hay
    have hr1:=R1.out _ hmy
    dsimp only at hr1
    have HR1:=Hd hr1
    have HAY:=Hd hay
    clear hr1 hay hmy hy HU
    by_cases hxo:x2=o
    ·
     have dx:(x2 != o)=false:=by rw[bne_eq_false_iff_eq];exact hxo
     obtain⟨hne8,hcm⟩:=HR1.out hxo
     have HS2:=Hd (show true=(all.take (ix+1)).any (fun p=>decide (p.2.2.1=o)) from by rw[HAY.out,decide_eq_true hxo,Bool.or_true])
     clear HAY HR1 hxo HSN
     have HCM:=Hd hcm
     clear hcm hne8
     go_upto_region 43 with (fail)
     by_cases h0:er=0
     ·
      have hcm:=HCM.out (.inl h0)
      clear HCM R1 R2 R3 R4
      subst h0
      obtain⟨cm,hcm2⟩:∃t,St.cmpS x0 x1 rc rn=t:=⟨_,rfl⟩
      rw[hcm2]at hcm
      have dcm:decide ((0:Int)<cm)=false:=decide_eq_false (by omega)
      have NC:=Hd (fun wx=>show Calls Tryz.prog 38 #[.agg #[.int .i64 x0,.int .i64 x1],.agg #[.int .i64 rc,.int .i64 rn]] wx (Says (.int .i64 cm) wx) from by rw[←hcm2];exact rcompare_any x0 x1 rc rn wx)
      clear hcm hcm2
      have R_0:=HR.out.cell (i:=0) rfl
      have R_1:=HR.out.cell (i:=1) rfl
      refine wp_region_facts 16 (by kernel_rfl) (by kernel_rfl)
       (fun v=>{ tmps:=#[.slice A L.length c,.int .u16 room,.int .i64 o,undef,undef,undef,u6,.pointer (some ⟨g7,0,none⟩),.int .i64 0,.slice (some ⟨ub,uo,none⟩) all.length c9,.slice A10 M.length c10,.int .i64 (L.length:Int),u12,u13,undef,u15,u16,u17,u18,u19,u20,u21,.slice RB rb.length rbc,.pointer (some ⟨gr,0,none⟩),.int .i64 0,.bool true,.int .i64 (ix:Int),undef,.bool true,.bool false,.slice A L.length c,.int .i64 (L.length:Int),.bool false,.tuple #[.agg #[.slice Koo koo.length ckoo,.slice Zoo zoo.length czoo,.slice Hoo hoo.length choo,.slice Boo boo.length cboo,.int .i64 roo],.int .i64 0],.int .u16 room,.int .i64 room,.tuple #[.agg #[.slice Koo koo.length ckoo,.slice Zoo zoo.length czoo,.slice Hoo hoo.length choo,.slice Boo boo.length cboo,.int .i64 roo],.int .i64 0],.agg #[.slice Koo koo.length ckoo,.slice Zoo zoo.length czoo,.slice Hoo hoo.length choo,.slice Boo boo.length cboo,.int .i64 roo],.int .i64 0,.int .i64 0,.bool false,.int .i64 (L.length:Int),.slice A L.length c,.int .i64 (L.length:Int),.bool false,u45,u46,u47,u48,u49,u50,u51,u52,u53,u54,u55,u56,u57,u58,u59,u60,u61,u62,u63,u64,u65,u66,u67,u68,u69,u70,u71,u72,u73,u74,u75,u76,u77,u78,u79,u80,u81,u82,u83,u84,u85,u86,u87,u88,u89,u90,u91,u92,u93,u94,u95,u96,u97,u98,u99,u100,u101,u102,u103,u104,u105,u106,u107,u108,u109,u110,u111,u112,u113,u114,u115,u116,u117,u118,u119,u120,u121,u122,u123,u124,u125,u126,u127,u128,u129,u130,u131,u132,u133,u134,u135,u136,u137,u138,u139,u140,u141,u142,u143,u144,u145,u146,u147,u148,u149,u150,u151,u152,u153,u154,u155,u156,u157,u158,u159,u160,u161,u162,u163,u164,u165,u166,u167,u168,u169,u170,u171,.tuple #[.slice RB rb.length rbc,.agg #[.int .i64 rc,.int .i64 rn,.int .i64 ro,.bool rg],.int .i64 0],.agg #[.slice Kov kov.length ckov,.slice Zov zov.length czov,.slice Hov hov.length chov,.slice Bov bov.length cbov,.int .i64 rov],.int .i64 o,.tuple #[.slice RB rb.length rbc,.agg #[.int .i64 rc,.int .i64 rn,.int .i64 ro,.bool rg],.int .i64 0],.slice RB rb.length rbc,.agg #[.int .i64 rc,.int .i64 rn,.int .i64 ro,.bool rg],.int .i64 0,.int .i64 (ix:Int),.slice (some ⟨ub,uo,none⟩) all.length c9,.int .i64 (all.length:Int),.bool true,u183,u184,.slice (some ⟨ub,uo,none⟩) all.length c9,.int .i64 (ix:Int),.pointer (some ⟨ub,uo+ix*4,none⟩),.pointer (some ⟨ub,uo+ix*4+2,none⟩),.int .i64 x2,.int .i64 o,.bool false,v 0,v 1,v 2,v 3,v 4,v 5,v 6,v 7,v 8,v 9,v 10,v 11,v 12,v 13,v 14,v 15,u208,undef,undef,undef,undef,undef,undef,undef,undef,undef,undef,undef,undef,undef,undef,undef,undef,undef,undef,undef,undef,undef,undef,undef,undef,undef,undef,undef,undef,undef,undef,undef,undef,undef,undef,undef,undef,undef,undef,undef,undef,undef,undef,undef,undef,undef,undef,undef],defers:=[] }) (fun i=>match i with|0=>u192|1=>u193|2=>u194|3=>u195|4=>u196|5=>u197|6=>u198|7=>u199|8=>u200|9=>u201|10=>u202|11=>u203|12=>u204|13=>u205|14=>u206|15=>u207|_=>undef)
       (fun i x wx=>match i with
        |0=>x = .int .i64 0
        |1=>x = .bool true
        |2=>x = .bool true
        |3=>x=undef
        |4=>x=undef
        |5=>x = .bool true
        |6=>x = .bool true
        |7=>x = .slice (some ⟨ub,uo,none⟩) all.length c9
        |8=>x = .int .i64 (ix:Int)
        |9=>x = .pointer (some ⟨ub,uo+ix*4,none⟩)
        |10=>x = .pointer (some ⟨ub,uo+ix*4,none⟩)
        |11=>x = .agg #[.int .i64 x0,.int .i64 x1]
        |12=>x = .pointer (some ⟨gr,0,none⟩)
        |13=>x = .agg #[.int .i64 rc,.int .i64 rn]
        |14=>x = .int .i64 cm
        |15=>x = .bool false
        |_=>True)
       (fun w1 w2=>Below w1.heap.size w1 w2) (fun h1 h2=>below_on h1 h2) (fun _=>Below.refl _ _) (Below.drew (Below.refl _ _)) ?stabC ?stepC ?doneC
      case stabC=>
       rintro i x w1 w2 h hb
       match i,h with
       |0,h=>exact h
       |1,h=>exact h
       |2,h=>exact h
       |3,h=>exact h
       |4,h=>exact h
       |5,h=>exact h
       |6,h=>exact h
       |7,h=>exact h
       |8,h=>exact h
       |9,h=>exact h
       |10,h=>exact h
       |11,h=>exact h
       |12,h=>exact h
       |13,h=>exact h
       |14,h=>exact h
       |15,h=>exact h
       |i+16,_=>trivial
      case stepC=>
       intro i hi v w' hb hd
       match i,hi with
       |0,_=>
        refine wpOp_oneH rfl fun KK HKK =>?_
        clear hd
        go_wp2
        exact HKK.out _ _ ⟨_,(by simp[upd];done),Below.refl _ _,rfl⟩
       |1,_=>
        have h0:v 0=_:=hdx hd 0 (by kernel_rfl)
        refine wpOp_oneH rfl fun KK HKK =>?_
        clear hd
        rw[h0]
        go_wp2
        exact HKK.out _ _ ⟨_,(by simp[upd,h0];done),Below.refl _ _,rfl⟩
       |2,_=>
        have h1:v 1=_:=hdx hd 1 (by kernel_rfl)
        refine wpOp_oneH rfl fun KK HKK =>?_
        clear hd
        rw[h1]
        go_wp2
        exact HKK.out _ _ ⟨_,(by simp[upd,h1];done),Below.refl _ _,rfl⟩
       |3,_=>
        have h2:v 2=_:=hdx hd 2 (by kernel_rfl)
        clear hd
        rw[h2]
        exact wpOp_skip rfl (by rfl) ⟨_,(by simp[upd,Act.put,h2];done),Below.refl _ _,rfl⟩
       |4,_=>
        have h2:v 2=_:=hdx hd 2 (by kernel_rfl)
        clear hd
        rw[h2]
        exact wpOp_skip rfl (by rfl) ⟨_,(by simp[upd,Act.put,h2];done),Below.refl _ _,rfl⟩
       |5,_=>
        have h2:v 2=_:=hdx hd 2 (by kernel_rfl)
        have h4:v 4=_:=hdx hd 4 (by kernel_rfl)
        refine wpOp_oneH rfl fun KK HKK =>?_
        clear hd
        rw[h2,h4]
        go_wp2
        exact HKK.out _ _ ⟨_,(by simp[upd,h2,h4];done),Below.refl _ _,rfl⟩
       |6,_=>
        have h5:v 5=_:=hdx hd 5 (by kernel_rfl)
        refine wpOp_oneH rfl fun KK HKK =>?_
        clear hd
        rw[h5]
        go_wp2
        exact HKK.out _ _ ⟨_,(by simp[upd,h5];done),Below.refl _ _,rfl⟩
       |7,_=>
        have h6:v 6=_:=hdx hd 6 (by kernel_rfl)
        refine wpOp_oneH rfl fun KK HKK =>?_
        clear hd
        rw[h6]
        go_wp2
        exact HKK.out _ _ ⟨_,(by simp[upd,h6];done),Below.refl _ _,rfl⟩
       |8,_=>
        have h6:v 6=_:=hdx hd 6 (by kernel_rfl)
        refine wpOp_oneH rfl fun KK HKK =>?_
        clear hd
        rw[h6]
        go_wp2
        exact HKK.out _ _ ⟨_,(by simp[upd,h6];done),Below.refl _ _,rfl⟩
       |9,_=>
        have h6:v 6=_:=hdx hd 6 (by kernel_rfl)
        have h7:v 7=_:=hdx hd 7 (by kernel_rfl)
        have h8:v 8=_:=hdx hd 8 (by kernel_rfl)
        refine wpOp_oneH rfl fun KK HKK =>?_
        clear hd
        rw[h6,h7,h8]
        go_wp2
        exact HKK.out _ _ ⟨_,(by simp[upd,h6,h7,h8];done),Below.refl _ _,rfl⟩
       |10,_=>
        have h6:v 6=_:=hdx hd 6 (by kernel_rfl)
        have h9:v 9=_:=hdx hd 9 (by kernel_rfl)
        refine wpOp_oneH rfl fun KK HKK =>?_
        clear hd
        rw[h6,h9]
        go_wp2
        exact HKK.out _ _ ⟨_,(by simp[upd,h6,h9];done),Below.refl _ _,rfl⟩
       |11,_=>
        have h6:v 6=_:=hdx hd 6 (by kernel_rfl)
        have h10:v 10=_:=hdx hd 10 (by kernel_rfl)
        refine wpOp_oneH rfl fun KK HKK =>?_
        clear hd
        rw[h6,h10]
        have q0:=cell_later hb kc0
        have q1:=cell_later hb kc1
        go_wp2
        exact HKK.out _ _ ⟨_,(by simp[upd,h6,h10];done),Below.refl _ _,rfl⟩
       |12,_=>
        have h6:v 6=_:=hdx hd 6 (by kernel_rfl)
        refine wpOp_oneH rfl fun KK HKK =>?_
        clear hd
        rw[h6]
        go_wp2
        exact HKK.out _ _ ⟨_,(by simp[upd,h6];done),Below.refl _ _,rfl⟩
       |13,_=>
        have h6:v 6=_:=hdx hd 6 (by kernel_rfl)
        have h12:v 12=_:=hdx hd 12 (by kernel_rfl)
        refine wpOp_oneH rfl fun KK HKK =>?_
        clear hd
        rw[h6,h12]
        have q0:=cell_later hb R_0
        have q1:=cell_later hb R_1
        go_wp2
        exact HKK.out _ _ ⟨_,(by simp[upd,h6,h12];done),Below.refl _ _,rfl⟩
       |14,_=>
        have h6:v 6=_:=hdx hd 6 (by kernel_rfl)
        have h11:v 11=_:=hdx hd 11 (by kernel_rfl)
        have h13:v 13=_:=hdx hd 13 (by kernel_rfl)
        refine wpOp_oneH rfl fun KK HKK =>?_
        clear hd
        rw[h6,h11,h13]
        go_wp2_with fail
        refine(NC.out _).mono ?_
        rintro e w'' ⟨rfl,b⟩
        go_wp2
        exact HKK.out _ _ ⟨_,(by simp[upd,h6,h11,h13];done),b,rfl⟩
       |15,_=>
        have h6:v 6=_:=hdx hd 6 (by kernel_rfl)
        have h14:v 14=_:=hdx hd 14 (by kernel_rfl)
        refine wpOp_oneH rfl fun KK HKK =>?_
        clear hd
        rw[h6,h14]
        go_wp2
        exact HKK.out _ _ ⟨_,(by simp[upd,h6,h14];done),Below.refl _ _,rfl⟩
       |k+16,hk=>exact absurd hk (by omega)
      case doneC=>
       intro v w5 hb hf
       have h0:v 0=_:=hf 0 (by decide)
       have h1:v 1=_:=hf 1 (by decide)
       have h2:v 2=_:=hf 2 (by decide)
       have h3:v 3=_:=hf 3 (by decide)
       have h4:v 4=_:=hf 4 (by decide)
       have h5:v 5=_:=hf 5 (by decide)
       have h6:v 6=_:=hf 6 (by decide)
       have h7:v 7=_:=hf 7 (by decide)
       have h8:v 8=_:=hf 8 (by decide)
       have h9:v 9=_:=hf 9 (by decide)
       have h10:v 10=_:=hf 10 (by decide)
       have h11:v 11=_:=hf 11 (by decide)
       have h12:v 12=_:=hf 12 (by decide)
       have h13:v 13=_:=hf 13 (by decide)
       have h14:v 14=_:=hf 14 (by decide)
       have h15:v 15=_:=hf 15 (by decide)
       clear hf
       rw[h0,h1,h2,h3,h4,h5,h6,h7,h8,h9,h10,h11,h12,h13,h14,h15]
       clear R_0 R_1
       replace HR:=Hd (HR.out.later hb)
       have HB7:=Hd (below_on HB6.out hb)
       clear HB6
       replace XA:=Hd (XA.out.later hb)
       replace XC:=Hd (XC.out.later hb)
       replace XB:=Hd (XB.out.later hb)
       replace BW:=Hd (below_on BW.out hb)
       clear hb
       go_wp2_with fail
       go_roundw
       case rel=>exact⟨ix+1,true,by omega,by go_num,rfl,HS2.out,BW.out⟩
       case measure=>simp[intOf];omega
     by_cases h10:er=10
     ·
      have hcm:=HCM.out (.inr h10)
      clear HCM R1 R2 R3 R4 h0
      subst h10
      obtain⟨cm,hcm2⟩:∃t,St.cmpS x0 x1 rc rn=t:=⟨_,rfl⟩
      rw[hcm2]at hcm
      have dcm:decide ((0:Int)<cm)=false:=decide_eq_false (by omega)
      have NC:=Hd (fun wx=>show Calls Tryz.prog 38 #[.agg #[.int .i64 x0,.int .i64 x1],.agg #[.int .i64 rc,.int .i64 rn]] wx (Says (.int .i64 cm) wx) from by rw[←hcm2];exact rcompare_any x0 x1 rc rn wx)
      clear hcm hcm2
      have R_0:=HR.out.cell (i:=0) rfl
      have R_1:=HR.out.cell (i:=1) rfl
      refine wp_region_facts 16 (by kernel_rfl) (by kernel_rfl)
       (fun v=>{ tmps:=#[.slice A L.length c,.int .u16 room,.int .i64 o,undef,undef,undef,u6,.pointer (some ⟨g7,0,none⟩),.int .i64 0,.slice (some ⟨ub,uo,none⟩) all.length c9,.slice A10 M.length c10,.int .i64 (L.length:Int),u12,u13,undef,u15,u16,u17,u18,u19,u20,u21,.slice RB rb.length rbc,.pointer (some ⟨gr,0,none⟩),.int .i64 10,.bool true,.int .i64 (ix:Int),undef,.bool true,.bool false,.slice A L.length c,.int .i64 (L.length:Int),.bool false,.tuple #[.agg #[.slice Koo koo.length ckoo,.slice Zoo zoo.length czoo,.slice Hoo hoo.length choo,.slice Boo boo.length cboo,.int .i64 roo],.int .i64 0],.int .u16 room,.int .i64 room,.tuple #[.agg #[.slice Koo koo.length ckoo,.slice Zoo zoo.length czoo,.slice Hoo hoo.length choo,.slice Boo boo.length cboo,.int .i64 roo],.int .i64 0],.agg #[.slice Koo koo.length ckoo,.slice Zoo zoo.length czoo,.slice Hoo hoo.length choo,.slice Boo boo.length cboo,.int .i64 roo],.int .i64 0,.int .i64 0,.bool false,.int .i64 (L.length:Int),.slice A L.length c,.int .i64 (L.length:Int),.bool false,u45,u46,u47,u48,u49,u50,u51,u52,u53,u54,u55,u56,u57,u58,u59,u60,u61,u62,u63,u64,u65,u66,u67,u68,u69,u70,u71,u72,u73,u74,u75,u76,u77,u78,u79,u80,u81,u82,u83,u84,u85,u86,u87,u88,u89,u90,u91,u92,u93,u94,u95,u96,u97,u98,u99,u100,u101,u102,u103,u104,u105,u106,u107,u108,u109,u110,u111,u112,u113,u114,u115,u116,u117,u118,u119,u120,u121,u122,u123,u124,u125,u126,u127,u128,u129,u130,u131,u132,u133,u134,u135,u136,u137,u138,u139,u140,u141,u142,u143,u144,u145,u146,u147,u148,u149,u150,u151,u152,u153,u154,u155,u156,u157,u158,u159,u160,u161,u162,u163,u164,u165,u166,u167,u168,u169,u170,u171,.tuple #[.slice RB rb.length rbc,.agg #[.int .i64 rc,.int .i64 rn,.int .i64 ro,.bool rg],.int .i64 10],.agg #[.slice Kov kov.length ckov,.slice Zov zov.length czov,.slice Hov hov.length chov,.slice Bov bov.length cbov,.int .i64 rov],.int .i64 o,.tuple #[.slice RB rb.length rbc,.agg #[.int .i64 rc,.int .i64 rn,.int .i64 ro,.bool rg],.int .i64 10],.slice RB rb.length rbc,.agg #[.int .i64 rc,.int .i64 rn,.int .i64 ro,.bool rg],.int .i64 10,.int .i64 (ix:Int),.slice (some ⟨ub,uo,none⟩) all.length c9,.int .i64 (all.length:Int),.bool true,u183,u184,.slice (some ⟨ub,uo,none⟩) all.length c9,.int .i64 (ix:Int),.pointer (some ⟨ub,uo+ix*4,none⟩),.pointer (some ⟨ub,uo+ix*4+2,none⟩),.int .i64 x2,.int .i64 o,.bool false,v 0,v 1,v 2,v 3,v 4,v 5,v 6,v 7,v 8,v 9,v 10,v 11,v 12,v 13,v 14,v 15,u208,undef,undef,undef,undef,undef,undef,undef,undef,undef,undef,undef,undef,undef,undef,undef,undef,undef,undef,undef,undef,undef,undef,undef,undef,undef,undef,undef,undef,undef,undef,undef,undef,undef,undef,undef,undef,undef,undef,undef,undef,undef,undef,undef,undef,undef,undef,undef],defers:=[] }) (fun i=>match i with|0=>u192|1=>u193|2=>u194|3=>u195|4=>u196|5=>u197|6=>u198|7=>u199|8=>u200|9=>u201|10=>u202|11=>u203|12=>u204|13=>u205|14=>u206|15=>u207|_=>undef)
       (fun i x wx=>match i with
        |0=>x = .int .i64 10
        |1=>x = .bool false
        |2=>x = .bool false
        |3=>x = .int .i64 10
        |4=>x = .bool true
        |5=>x = .bool true
        |6=>x = .bool true
        |7=>x = .slice (some ⟨ub,uo,none⟩) all.length c9
        |8=>x = .int .i64 (ix:Int)
        |9=>x = .pointer (some ⟨ub,uo+ix*4,none⟩)
        |10=>x = .pointer (some ⟨ub,uo+ix*4,none⟩)
        |11=>x = .agg #[.int .i64 x0,.int .i64 x1]
        |12=>x = .pointer (some ⟨gr,0,none⟩)
        |13=>x = .agg #[.int .i64 rc,.int .i64 rn]
        |14=>x = .int .i64 cm
        |15=>x = .bool false
        |_=>True)
       (fun w1 w2=>Below w1.heap.size w1 w2) (fun h1 h2=>below_on h1 h2) (fun _=>Below.refl _ _) (Below.drew (Below.refl _ _)) ?stabC ?stepC ?doneC
      case stabC=>
       rintro i x w1 w2 h hb
       match i,h with
       |0,h=>exact h
       |1,h=>exact h
       |2,h=>exact h
       |3,h=>exact h
       |4,h=>exact h
       |5,h=>exact h
       |6,h=>exact h
       |7,h=>exact h
       |8,h=>exact h
       |9,h=>exact h
       |10,h=>exact h
       |11,h=>exact h
       |12,h=>exact h
       |13,h=>exact h
       |14,h=>exact h
       |15,h=>exact h
       |i+16,_=>trivial
      case stepC=>
       intro i hi v w' hb hd
       match i,hi with
       |0,_=>
        refine wpOp_oneH rfl fun KK HKK =>?_
        clear hd
        go_wp2
        exact HKK.out _ _ ⟨_,(by simp[upd];done),Below.refl _ _,rfl⟩
       |1,_=>
        have h0:v 0=_:=hdx hd 0 (by kernel_rfl)
        refine wpOp_oneH rfl fun KK HKK =>?_
        clear hd
        rw[h0]
        go_wp2
        exact HKK.out _ _ ⟨_,(by simp[upd,h0];done),Below.refl _ _,rfl⟩
       |2,_=>
        have h1:v 1=_:=hdx hd 1 (by kernel_rfl)
        refine wpOp_oneH rfl fun KK HKK =>?_
        clear hd
        rw[h1]
        go_wp2
        exact HKK.out _ _ ⟨_,(by simp[upd,h1];done),Below.refl _ _,rfl⟩
       |3,_=>
        have h2:v 2=_:=hdx hd 2 (by kernel_rfl)
        refine wpOp_oneH rfl fun KK HKK =>?_
        clear hd
        rw[h2]
        go_wp2
        exact HKK.out _ _ ⟨_,(by simp[upd,h2];done),Below.refl _ _,rfl⟩
       |4,_=>
        have h2:v 2=_:=hdx hd 2 (by kernel_rfl)
        have h3:v 3=_:=hdx hd 3 (by kernel_rfl)
        refine wpOp_oneH rfl fun KK HKK =>?_
        clear hd
        rw[h2,h3]
        go_wp2
        exact HKK.out _ _ ⟨_,(by simp[upd,h2,h3];done),Below.refl _ _,rfl⟩
       |5,_=>
        have h2:v 2=_:=hdx hd 2 (by kernel_rfl)
        have h4:v 4=_:=hdx hd 4 (by kernel_rfl)
        refine wpOp_oneH rfl fun KK HKK =>?_
        clear hd
        rw[h2,h4]
        go_wp2
        exact HKK.out _ _ ⟨_,(by simp[upd,h2,h4];done),Below.refl _ _,rfl⟩
       |6,_=>
        have h5:v 5=_:=hdx hd 5 (by kernel_rfl)
        refine wpOp_oneH rfl fun KK HKK =>?_
        clear hd
        rw[h5]
        go_wp2
        exact HKK.out _ _ ⟨_,(by simp[upd,h5];done),Below.refl _ _,rfl⟩
       |7,_=>
        have h6:v 6=_:=hdx hd 6 (by kernel_rfl)
        refine wpOp_oneH rfl fun KK HKK =>?_
        clear hd
        rw[h6]
        go_wp2
        exact HKK.out _ _ ⟨_,(by simp[upd,h6];done),Below.refl _ _,rfl⟩
       |8,_=>
        have h6:v 6=_:=hdx hd 6 (by kernel_rfl)
        refine wpOp_oneH rfl fun KK HKK =>?_
        clear hd
        rw[h6]
        go_wp2
        exact HKK.out _ _ ⟨_,(by simp[upd,h6];done),Below.refl _ _,rfl⟩
       |9,_=>
        have h6:v 6=_:=hdx hd 6 (by kernel_rfl)
        have h7:v 7=_:=hdx hd 7 (by kernel_rfl)
        have h8:v 8=_:=hdx hd 8 (by kernel_rfl)
        refine wpOp_oneH rfl fun KK HKK =>?_
        clear hd
        rw[h6,h7,h8]
        go_wp2
        exact HKK.out _ _ ⟨_,(by simp[upd,h6,h7,h8];done),Below.refl _ _,rfl⟩
       |10,_=>
        have h6:v 6=_:=hdx hd 6 (by kernel_rfl)
        have h9:v 9=_:=hdx hd 9 (by kernel_rfl)
        refine wpOp_oneH rfl fun KK HKK =>?_
        clear hd
        rw[h6,h9]
        go_wp2
        exact HKK.out _ _ ⟨_,(by simp[upd,h6,h9];done),Below.refl _ _,rfl⟩
       |11,_=>
        have h6:v 6=_:=hdx hd 6 (by kernel_rfl)
        have h10:v 10=_:=hdx hd 10 (by kernel_rfl)
        refine wpOp_oneH rfl fun KK HKK =>?_
        clear hd
        rw[h6,h10]
        have q0:=cell_later hb kc0
        have q1:=cell_later hb kc1
        go_wp2
        exact HKK.out _ _ ⟨_,(by simp[upd,h6,h10];done),Below.refl _ _,rfl⟩
       |12,_=>
        have h6:v 6=_:=hdx hd 6 (by kernel_rfl)
        refine wpOp_oneH rfl fun KK HKK =>?_
        clear hd
        rw[h6]
        go_wp2
        exact HKK.out _ _ ⟨_,(by simp[upd,h6];done),Below.refl _ _,rfl⟩
       |13,_=>
        have h6:v 6=_:=hdx hd 6 (by kernel_rfl)
        have h12:v 12=_:=hdx hd 12 (by kernel_rfl)
        refine wpOp_oneH rfl fun KK HKK =>?_
        clear hd
        rw[h6,h12]
        have q0:=cell_later hb R_0
        have q1:=cell_later hb R_1
        go_wp2
        exact HKK.out _ _ ⟨_,(by simp[upd,h6,h12];done),Below.refl _ _,rfl⟩
       |14,_=>
        have h6:v 6=_:=hdx hd 6 (by kernel_rfl)
        have h11:v 11=_:=hdx hd 11 (by kernel_rfl)
        have h13:v 13=_:=hdx hd 13 (by kernel_rfl)
        refine wpOp_oneH rfl fun KK HKK =>?_
        clear hd
        rw[h6,h11,h13]
        go_wp2_with fail
        refine(NC.out _).mono ?_
        rintro e w'' ⟨rfl,b⟩
        go_wp2
        exact HKK.out _ _ ⟨_,(by simp[upd,h6,h11,h13];done),b,rfl⟩
       |15,_=>
        have h6:v 6=_:=hdx hd 6 (by kernel_rfl)
        have h14:v 14=_:=hdx hd 14 (by kernel_rfl)
        refine wpOp_oneH rfl fun KK HKK =>?_
        clear hd
        rw[h6,h14]
        go_wp2
        exact HKK.out _ _ ⟨_,(by simp[upd,h6,h14];done),Below.refl _ _,rfl⟩
       |k+16,hk=>exact absurd hk (by omega)
      case doneC=>
       intro v w5 hb hf
       have h0:v 0=_:=hf 0 (by decide)
       have h1:v 1=_:=hf 1 (by decide)
       have h2:v 2=_:=hf 2 (by decide)
       have h3:v 3=_:=hf 3 (by decide)
       have h4:v 4=_:=hf 4 (by decide)
       have h5:v 5=_:=hf 5 (by decide)
       have h6:v 6=_:=hf 6 (by decide)
       have h7:v 7=_:=hf 7 (by decide)
       have h8:v 8=_:=hf 8 (by decide)
       have h9:v 9=_:=hf 9 (by decide)
       have h10:v 10=_:=hf 10 (by decide)
       have h11:v 11=_:=hf 11 (by decide)
       have h12:v 12=_:=hf 12 (by decide)
       have h13:v 13=_:=hf 13 (by decide)
       have h14:v 14=_:=hf 14 (by decide)
       have h15:v 15=_:=hf 15 (by decide)
       clear hf
       rw[h0,h1,h2,h3,h4,h5,h6,h7,h8,h9,h10,h11,h12,h13,h14,h15]
       clear R_0 R_1
       replace HR:=Hd (HR.out.later hb)
       have HB7:=Hd (below_on HB6.out hb)
       clear HB6
       replace XA:=Hd (XA.out.later hb)
       replace XC:=Hd (XC.out.later hb)
       replace XB:=Hd (XB.out.later hb)
       replace BW:=Hd (below_on BW.out hb)
       clear hb
       go_wp2_with fail
       go_roundw
       case rel=>exact⟨ix+1,true,by omega,by go_num,rfl,HS2.out,BW.out⟩
       case measure=>simp[intOf];omega
     have d0:(er == 0)=false:=beq_eq_false_iff_ne.2 h0
     have d10:(er == 10)=false:=beq_eq_false_iff_ne.2 h10
     clear HCM h0 h10
     refine wp_region_facts 16 (by kernel_rfl) (by kernel_rfl)
      (fun v=>{ tmps:=#[.slice A L.length c,.int .u16 room,.int .i64 o,undef,undef,undef,u6,.pointer (some ⟨g7,0,none⟩),.int .i64 0,.slice (some ⟨ub,uo,none⟩) all.length c9,.slice A10 M.length c10,.int .i64 (L.length:Int),u12,u13,undef,u15,u16,u17,u18,u19,u20,u21,.slice RB rb.length rbc,.pointer (some ⟨gr,0,none⟩),.int .i64 er,.bool true,.int .i64 (ix:Int),undef,.bool true,.bool false,.slice A L.length c,.int .i64 (L.length:Int),.bool false,.tuple #[.agg #[.slice Koo koo.length ckoo,.slice Zoo zoo.length czoo,.slice Hoo hoo.length choo,.slice Boo boo.length cboo,.int .i64 roo],.int .i64 0],.int .u16 room,.int .i64 room,.tuple #[.agg #[.slice Koo koo.length ckoo,.slice Zoo zoo.length czoo,.slice Hoo hoo.length choo,.slice Boo boo.length cboo,.int .i64 roo],.int .i64 0],.agg #[.slice Koo koo.length ckoo,.slice Zoo zoo.length czoo,.slice Hoo hoo.length choo,.slice Boo boo.length cboo,.int .i64 roo],.int .i64 0,.int .i64 0,.bool false,.int .i64 (L.length:Int),.slice A L.length c,.int .i64 (L.length:Int),.bool false,u45,u46,u47,u48,u49,u50,u51,u52,u53,u54,u55,u56,u57,u58,u59,u60,u61,u62,u63,u64,u65,u66,u67,u68,u69,u70,u71,u72,u73,u74,u75,u76,u77,u78,u79,u80,u81,u82,u83,u84,u85,u86,u87,u88,u89,u90,u91,u92,u93,u94,u95,u96,u97,u98,u99,u100,u101,u102,u103,u104,u105,u106,u107,u108,u109,u110,u111,u112,u113,u114,u115,u116,u117,u118,u119,u120,u121,u122,u123,u124,u125,u126,u127,u128,u129,u130,u131,u132,u133,u134,u135,u136,u137,u138,u139,u140,u141,u142,u143,u144,u145,u146,u147,u148,u149,u150,u151,u152,u153,u154,u155,u156,u157,u158,u159,u160,u161,u162,u163,u164,u165,u166,u167,u168,u169,u170,u171,.tuple #[.slice RB rb.length rbc,.agg #[.int .i64 rc,.int .i64 rn,.int .i64 ro,.bool rg],.int .i64 er],.agg #[.slice Kov kov.length ckov,.slice Zov zov.length czov,.slice Hov hov.length chov,.slice Bov bov.length cbov,.int .i64 rov],.int .i64 o,.tuple #[.slice RB rb.length rbc,.agg #[.int .i64 rc,.int .i64 rn,.int .i64 ro,.bool rg],.int .i64 er],.slice RB rb.length rbc,.agg #[.int .i64 rc,.int .i64 rn,.int .i64 ro,.bool rg],.int .i64 er,.int .i64 (ix:Int),.slice (some ⟨ub,uo,none⟩) all.length c9,.int .i64 (all.length:Int),.bool true,u183,u184,.slice (some ⟨ub,uo,none⟩) all.length c9,.int .i64 (ix:Int),.pointer (some ⟨ub,uo+ix*4,none⟩),.pointer (some ⟨ub,uo+ix*4+2,none⟩),.int .i64 x2,.int .i64 o,.bool false,v 0,v 1,v 2,v 3,v 4,v 5,v 6,v 7,v 8,v 9,v 10,v 11,v 12,v 13,v 14,v 15,u208,undef,undef,undef,undef,undef,undef,undef,undef,undef,undef,undef,undef,undef,undef,undef,undef,undef,undef,undef,undef,undef,undef,undef,undef,undef,undef,undef,undef,undef,undef,undef,undef,undef,undef,undef,undef,undef,undef,undef,undef,undef,undef,undef,undef,undef,undef,undef],defers:=[] }) (fun i=>match i with|0=>u192|1=>u193|2=>u194|3=>u195|4=>u196|5=>u197|6=>u198|7=>u199|8=>u200|9=>u201|10=>u202|11=>u203|12=>u204|13=>u205|14=>u206|15=>u207|_=>undef)
      (fun i x wx=>match i with
       |0=>x = .int .i64 er
       |1=>x = .bool false
       |2=>x = .bool false
       |3=>x = .int .i64 er
       |4=>x = .bool false
       |5=>x = .bool false
       |6=>x = .bool false
       |7=>x=undef
       |8=>x=undef
       |9=>x=undef
       |10=>x=undef
       |11=>x=undef
       |12=>x=undef
       |13=>x=undef
       |14=>x=undef
       |15=>x=undef
       |_=>True)
      (fun w1 w2=>Below w1.heap.size w1 w2) (fun h1 h2=>below_on h1 h2) (fun _=>Below.refl _ _) (Below.drew (Below.refl _ _)) ?stabC ?stepC ?doneC
     case stabC=>
      rintro i x w1 w2 h hb
      match i,h with
      |0,h=>exact h
      |1,h=>exact h
      |2,h=>exact h
      |3,h=>exact h
      |4,h=>exact h
      |5,h=>exact h
      |6,h=>exact h
      |7,h=>exact h
      |8,h=>exact h
      |9,h=>exact h
      |10,h=>exact h
      |11,h=>exact h
      |12,h=>exact h
      |13,h=>exact h
      |14,h=>exact h
      |15,h=>exact h
      |i+16,_=>trivial
     case stepC=>
      intro i hi v w' hb hd
      match i,hi with
      |0,_=>
       refine wpOp_oneH rfl fun KK HKK =>?_
       clear hd
       go_wp2
       exact HKK.out _ _ ⟨_,(by simp[upd];done),Below.refl _ _,rfl⟩
      |1,_=>
       have h0:v 0=_:=hdx hd 0 (by kernel_rfl)
       refine wpOp_oneH rfl fun KK HKK =>?_
       clear hd
       rw[h0]
       go_wp2
       exact HKK.out _ _ ⟨_,(by simp[upd,h0];done),Below.refl _ _,rfl⟩
      |2,_=>
       have h1:v 1=_:=hdx hd 1 (by kernel_rfl)
       refine wpOp_oneH rfl fun KK HKK =>?_
       clear hd
       rw[h1]
       go_wp2
       exact HKK.out _ _ ⟨_,(by simp[upd,h1];done),Below.refl _ _,rfl⟩
      |3,_=>
       have h2:v 2=_:=hdx hd 2 (by kernel_rfl)
       refine wpOp_oneH rfl fun KK HKK =>?_
       clear hd
       rw[h2]
       go_wp2
       exact HKK.out _ _ ⟨_,(by simp[upd,h2];done),Below.refl _ _,rfl⟩
      |4,_=>
       have h2:v 2=_:=hdx hd 2 (by kernel_rfl)
       have h3:v 3=_:=hdx hd 3 (by kernel_rfl)
       refine wpOp_oneH rfl fun KK HKK =>?_
       clear hd
       rw[h2,h3]
       go_wp2
       exact HKK.out _ _ ⟨_,(by simp[upd,h2,h3];done),Below.refl _ _,rfl⟩
      |5,_=>
       have h2:v 2=_:=hdx hd 2 (by kernel_rfl)
       have h4:v 4=_:=hdx hd 4 (by kernel_rfl)
       refine wpOp_oneH rfl fun KK HKK =>?_
       clear hd
       rw[h2,h4]
       go_wp2
       exact HKK.out _ _ ⟨_,(by simp[upd,h2,h4];done),Below.refl _ _,rfl⟩
      |6,_=>
       have h5:v 5=_:=hdx hd 5 (by kernel_rfl)
       refine wpOp_oneH rfl fun KK HKK =>?_
       clear hd
       rw[h5]
       go_wp2
       exact HKK.out _ _ ⟨_,(by simp[upd,h5];done),Below.refl _ _,rfl⟩
      |7,_=>
       have h6:v 6=_:=hdx hd 6 (by kernel_rfl)
       clear hd
       rw[h6]
       exact wpOp_skip rfl (by rfl) ⟨_,(by simp[upd,Act.put,h6];done),Below.refl _ _,rfl⟩
      |8,_=>
       have h6:v 6=_:=hdx hd 6 (by kernel_rfl)
       clear hd
       rw[h6]
       exact wpOp_skip rfl (by rfl) ⟨_,(by simp[upd,Act.put,h6];done),Below.refl _ _,rfl⟩
      |9,_=>
       have h6:v 6=_:=hdx hd 6 (by kernel_rfl)
       clear hd
       rw[h6]
       exact wpOp_skip rfl (by rfl) ⟨_,(by simp[upd,Act.put,h6];done),Below.refl _ _,rfl⟩
      |10,_=>
       have h6:v 6=_:=hdx hd 6 (by kernel_rfl)
       clear hd
       rw[h6]
       exact wpOp_skip rfl (by rfl) ⟨_,(by simp[upd,Act.put,h6];done),Below.refl _ _,rfl⟩
      |11,_=>
       have h6:v 6=_:=hdx hd 6 (by kernel_rfl)
       clear hd
       rw[h6]
       exact wpOp_skip rfl (by rfl) ⟨_,(by simp[upd,Act.put,h6];done),Below.refl _ _,rfl⟩
      |12,_=>
       have h6:v 6=_:=hdx hd 6 (by kernel_rfl)
       clear hd
       rw[h6]
       exact wpOp_skip rfl (by rfl) ⟨_,(by simp[upd,Act.put,h6];done),Below.refl _ _,rfl⟩
      |13,_=>
       have h6:v 6=_:=hdx hd 6 (by kernel_rfl)
       clear hd
       rw[h6]
       exact wpOp_skip rfl (by rfl) ⟨_,(by simp[upd,Act.put,h6];done),Below.refl _ _,rfl⟩
      |14,_=>
       have h6:v 6=_:=hdx hd 6 (by kernel_rfl)
       clear hd
       rw[h6]
       exact wpOp_skip rfl (by rfl) ⟨_,(by simp[upd,Act.put,h6];done),Below.refl _ _,rfl⟩
      |15,_=>
       have h6:v 6=_:=hdx hd 6 (by kernel_rfl)
       clear hd
       rw[h6]
       exact wpOp_skip rfl (by rfl) ⟨_,(by simp[upd,Act.put,h6];done),Below.refl _ _,rfl⟩
      |k+16,hk=>exact absurd hk (by omega)
     case doneC=>
      intro v w5 hb hf
      have h0:v 0=_:=hf 0 (by decide)
      have h1:v 1=_:=hf 1 (by decide)
      have h2:v 2=_:=hf 2 (by decide)
      have h3:v 3=_:=hf 3 (by decide)
      have h4:v 4=_:=hf 4 (by decide)
      have h5:v 5=_:=hf 5 (by decide)
      have h6:v 6=_:=hf 6 (by decide)
      have h7:v 7=_:=hf 7 (by decide)
      have h8:v 8=_:=hf 8 (by decide)
      have h9:v 9=_:=hf 9 (by decide)
      have h10:v 10=_:=hf 10 (by decide)
      have h11:v 11=_:=hf 11 (by decide)
      have h12:v 12=_:=hf 12 (by decide)
      have h13:v 13=_:=hf 13 (by decide)
      have h14:v 14=_:=hf 14 (by decide)
      have h15:v 15=_:=hf 15 (by decide)
      clear hf
      rw[h0,h1,h2,h3,h4,h5,h6,h7,h8,h9,h10,h11,h12,h13,h14,h15]
      replace HR:=Hd (HR.out.later hb)
      have HB7:=Hd (below_on HB6.out hb)
      clear HB6
      replace XA:=Hd (XA.out.later hb)
      replace XC:=Hd (XC.out.later hb)
      replace XB:=Hd (XB.out.later hb)
      replace BW:=Hd (below_on BW.out hb)
      clear hb
      go_wp2_with fail
      go_roundw
      case rel=>exact⟨ix+1,true,by omega,by go_num,rfl,HS2.out,BW.out⟩
      case measure=>simp[intOf];omega
    have dx:(x2 != o)=true:=by rw[bne_iff_ne];exact hxo
    have HS2:=Hd (show sn=(all.take (ix+1)).any (fun p=>decide (p.2.2.1=o)) from by rw[HAY.out,decide_eq_false hxo,Bool.or_false];exact HSN.out)
    clear HAY HR1 hxo HSN
    go_wp2_with fail
    go_roundw
    case rel=>exact⟨ix+1,sn,by omega,by go_num,rfl,HS2.out,BW.out⟩
    case measure=>simp[intOf];omega
   obtain rfl:ix=all.length:=by omega
   have hd0:decide ((all.length:Int)<(all.length:Int))=false:=decide_eq_false (by omega)
   have hsn:sn=all.any (fun p=>decide (p.2.2.1=o)):=by have h:=HSN.out;rw[List.take_length]at h;exact h
   have HZ:=Hd HB6.out
   cases sn with
   |false=>
    have hno:∀p∈all,p.2.2.1≠o:=fun p hp h=>by have h1:=List.any_eq_false.1 hsn.symm p hp;simp[h]at h1
    rcases R2.out hno with h8|h9|⟨h1,ho⟩
    ·
     subst h8
     clear hsn hno HSN R1 R2 R3 R4
     go_wp2
     go_ret
     exact⟨rfl,HZ.out⟩
    ·
     subst h9
     clear hsn hno HSN R1 R2 R3 R4
     go_wp2
     go_ret
     exact⟨rfl,HZ.out⟩
    ·
     subst h1
     clear hsn hno HSN R1 R2 R3 R4
     by_cases hol:o<0
     ·
      have dl:decide (o<0)=true:=decide_eq_true hol
      go_wp2
      go_ret
      exact⟨rfl,HZ.out⟩
     ·
      have dl:decide (o<0)=false:=decide_eq_false hol
      have dh:decide (255<o)=true:=decide_eq_true (by omega)
      go_wp2
      go_ret
      exact⟨rfl,HZ.out⟩
   |true=>
    obtain⟨p,hp,hpo⟩:=List.any_eq_true.1 hsn.symm
    have hp8:=(R1.out p hp (of_decide_eq_true hpo)).1
    clear hsn hp hpo HSN R1 R2
    have d8:(er == 8)=false:=beq_eq_false_iff_ne.2 hp8
    clear hp8
    have R_0:=HR.out.cell (i:=0) rfl
    have R_1:=HR.out.cell (i:=1) rfl
    have R_2:=HR.out.cell (i:=2) rfl
    have R_3:=HR.out.cell (i:=3) rfl
    by_cases h0:er=0
    rotate_left
    ·
     obtain rfl:=R3.out (.inl h0)
     have d0:(er != 0)=true:=by rw[bne_iff_ne];exact h0
     clear R3 R4 h0
     go_wp2
     go_ret
     exact⟨rfl,HZ.out⟩
    subst h0
    cases rg with
    |true=>
     obtain rfl:=R3.out (.inr rfl)
     clear R3 R4
     go_wp2
     go_ret
     exact⟨rfl,HZ.out⟩
    |false=>
     have r4:=R4.out rfl rfl
     have HR4:=Hd r4
     clear R3 R4 r4
     go_wp2_with fail
     clear R_0 R_1 R_2 R_3
     go_loopw [27] (fun s27 wr2=>∃ix:Nat,ix≤M.length∧s27 = .int .i64 (ix:Int)∧(∀z∈M.take ix,z.b≠⟨o,rc,rn,rb⟩)∧Below wr.heap.size wr wr2) (fun s27 _=>M.length-(intOf s27).toNat)
     case atStart=>exact⟨0,Nat.zero_le _,rfl,(fun z h=>by cases h),Below.refl _ _⟩
     case round=>
      obtain⟨ix,hi,rfl,hno,hbw⟩:=hrel
      have HNO:=Hd hno
      have BV:=Hd hbw
      replace HR:=Hd (HR.out.later hbw)
      have HB7:=Hd (below_on HB6.out hbw)
      clear HB6
      replace XA:=Hd (XA.out.later hbw)
      replace XC:=Hd (XC.out.later hbw)
      replace XB:=Hd (XB.out.later hbw)
      clear hno hbw HZ
      by_cases hlt:ix<M.length
      ·
       have hi0:(0:Int)≤(ix:Int):=by omega
       have hi1:(ix:Int)<(M.length:Int):=by omega
       obtain⟨ub,uo,hU,hcs⟩:=XC.out.at (fun h=>by rw[h]at hlt;exact absurd hlt (Nat.not_lt_zero _))
       have hcx:=hcs ix hlt
       have hbx:=XC.out.each _ (Ca.getD_mem hlt)
       have hts:∀z∈M.take (ix+1),z∈M.take ix∨z=M.getD ix Bc.zero:=fun z hz=>by rw[List.take_succ_eq_append_getElem hlt]at hz;rcases List.mem_append.1 hz with h|h;exact .inl h;rw[List.mem_singleton]at h;right;rw[h,List.getD_eq_getElem?_getD,List.getElem?_eq_getElem hlt];rfl
       obtain⟨xe,hxe⟩:∃t,M.getD ix Bc.zero=t:=⟨_,rfl⟩
       rw[hxe]at hcx hbx hts
       obtain⟨X,xd,⟨x0,x1,x2,xv⟩⟩:=xe
       dsimp only at hcx hbx
       obtain⟨kc0,kc1,kc2,kc3⟩:=hcx
       obtain⟨sm,hsm⟩:∃t,Wi.bsame ⟨x0,x1,x2,xv⟩ ⟨o,rc,rn,rb⟩=t:=⟨_,rfl⟩
       have XX:=Hd hbx
       have HTS:=Hd hts
       have HSM:=Hd hsm
       subst hU
       clear hcs hbx hts hxe hsm
       have R_0:=HR.out.cell (i:=0) rfl
       have R_1:=HR.out.cell (i:=1) rfl
       have R_2:=HR.out.cell (i:=2) rfl
       have R_3:=HR.out.cell (i:=3) rfl
       go_upto_region 54 with (fail)
       refine wp_region_facts 9 (by kernel_rfl) (by kernel_rfl)
        (fun v=>{ tmps:=#[.slice A L.length c,.int .u16 room,.int .i64 o,undef,undef,undef,u6,.pointer (some ⟨g7,0,none⟩),.int .i64 0,.slice A9 all.length c9,.slice (some ⟨ub,uo,none⟩) M.length c10,.int .i64 (L.length:Int),u12,u13,undef,u15,u16,u17,u18,u19,u20,u21,.slice RB rb.length rbc,.pointer (some ⟨gr,0,none⟩),.int .i64 0,.bool true,.int .i64 (all.length:Int),.int .i64 (ix:Int),.bool true,.bool false,.slice A L.length c,.int .i64 (L.length:Int),.bool false,.tuple #[.agg #[.slice Koo koo.length ckoo,.slice Zoo zoo.length czoo,.slice Hoo hoo.length choo,.slice Boo boo.length cboo,.int .i64 roo],.int .i64 0],.int .u16 room,.int .i64 room,.tuple #[.agg #[.slice Koo koo.length ckoo,.slice Zoo zoo.length czoo,.slice Hoo hoo.length choo,.slice Boo boo.length cboo,.int .i64 roo],.int .i64 0],.agg #[.slice Koo koo.length ckoo,.slice Zoo zoo.length czoo,.slice Hoo hoo.length choo,.slice Boo boo.length cboo,.int .i64 roo],.int .i64 0,.int .i64 0,.bool false,.int .i64 (L.length:Int),.slice A L.length c,.int .i64 (L.length:Int),.bool false,u45,u46,u47,u48,u49,u50,u51,u52,u53,u54,u55,u56,u57,u58,u59,u60,u61,u62,u63,u64,u65,u66,u67,u68,u69,u70,u71,u72,u73,u74,u75,u76,u77,u78,u79,u80,u81,u82,u83,u84,u85,u86,u87,u88,u89,u90,u91,u92,u93,u94,u95,u96,u97,u98,u99,u100,u101,u102,u103,u104,u105,u106,u107,u108,u109,u110,u111,u112,u113,u114,u115,u116,u117,u118,u119,u120,u121,u122,u123,u124,u125,u126,u127,u128,u129,u130,u131,u132,u133,u134,u135,u136,u137,u138,u139,u140,u141,u142,u143,u144,u145,u146,u147,u148,u149,u150,u151,u152,u153,u154,u155,u156,u157,u158,u159,u160,u161,u162,u163,u164,u165,u166,u167,u168,u169,u170,u171,.tuple #[.slice RB rb.length rbc,.agg #[.int .i64 rc,.int .i64 rn,.int .i64 ro,.bool false],.int .i64 0],.agg #[.slice Kov kov.length ckov,.slice Zov zov.length czov,.slice Hov hov.length chov,.slice Bov bov.length cbov,.int .i64 rov],.int .i64 o,.tuple #[.slice RB rb.length rbc,.agg #[.int .i64 rc,.int .i64 rn,.int .i64 ro,.bool false],.int .i64 0],.slice RB rb.length rbc,.agg #[.int .i64 rc,.int .i64 rn,.int .i64 ro,.bool false],.int .i64 0,.int .i64 (all.length:Int),.slice A9 all.length c9,.int .i64 (all.length:Int),.bool false,u183,u184,u185,u186,u187,u188,u189,u190,u191,u192,u193,u194,u195,u196,u197,u198,u199,u200,u201,u202,u203,u204,u205,u206,u207,u208,.bool true,.bool false,undef,undef,undef,undef,undef,undef,undef,undef,undef,undef,undef,undef,undef,undef,undef,undef,undef,undef,.int .i64 0,.bool false,.int .i64 0,.bool false,.bool false,.pointer (some ⟨gr,3,none⟩),.bool false,.bool false,undef,undef,undef,.int .i64 (ix:Int),.slice (some ⟨ub,uo,none⟩) M.length c10,.int .i64 (M.length:Int),.bool true,u244,u245,v 0,v 1,v 2,v 3,v 4,v 5,v 6,v 7,v 8,u255],defers:=[] }) (fun i=>match i with|0=>u246|1=>u247|2=>u248|3=>u249|4=>u250|5=>u251|6=>u252|7=>u253|8=>u254|_=>undef)
        (fun i x wx=>match i with
         |0=>x = .slice (some ⟨ub,uo,none⟩) M.length c10
         |1=>x = .int .i64 (ix:Int)
         |2=>x = .pointer (some ⟨ub,uo+ix*4,none⟩)
         |3=>x = .agg #[.int .i64 x0,.int .i64 x1,.int .i64 x2,.slice X xv.length xd]
         |4=>x = .int .i64 o
         |5=>x = .pointer (some ⟨gr,0,none⟩)
         |6=>x = .agg #[.int .i64 rc,.int .i64 rn]
         |7=>x = .slice RB rb.length rbc
         |8=>x = .agg #[.int .i64 o,.int .i64 rc,.int .i64 rn,.slice RB rb.length rbc]
         |_=>True)
        (fun w1 w2=>Below w1.heap.size w1 w2) (fun h1 h2=>below_on h1 h2) (fun _=>Below.refl _ _) (Below.drew (Below.refl _ _)) ?stabS ?stepS ?doneS
       case stabS=>
        rintro i x w1 w2 h hb
        match i,h with
        |0,h=>exact h
        |1,h=>exact h
        |2,h=>exact h
        |3,h=>exact h
        |4,h=>exact h
        |5,h=>exact h
        |6,h=>exact h
        |7,h=>exact h
        |8,h=>exact h
        |i+9,_=>trivial
       case stepS=>
        intro i hi v w' hb hd
        match i,hi with
        |0,_=>
         refine wpOp_oneH rfl fun KK HKK =>?_
         clear hd
         go_wp2
         exact HKK.out _ _ ⟨_,(by simp[upd];done),Below.refl _ _,rfl⟩
        |1,_=>
         refine wpOp_oneH rfl fun KK HKK =>?_
         clear hd
         go_wp2
         exact HKK.out _ _ ⟨_,(by simp[upd];done),Below.refl _ _,rfl⟩
        |2,_=>
         have h0:v 0=_:=hdx hd 0 (by kernel_rfl)
         have h1:v 1=_:=hdx hd 1 (by kernel_rfl)
         refine wpOp_oneH rfl fun KK HKK =>?_
         clear hd
         rw[h0,h1]
         go_wp2
         exact HKK.out _ _ ⟨_,(by simp[upd,h0,h1];done),Below.refl _ _,rfl⟩
        |3,_=>
         have h2:v 2=_:=hdx hd 2 (by kernel_rfl)
         refine wpOp_oneH rfl fun KK HKK =>?_
         clear hd
         rw[h2]
         have q0:=cell_later hb kc0
         have q1:=cell_later hb kc1
         have q2:=cell_later hb kc2
         have q3:=cell_later hb kc3
         go_wp2
         exact HKK.out _ _ ⟨_,(by simp[upd,h2];done),Below.refl _ _,rfl⟩
        |4,_=>
         refine wpOp_oneH rfl fun KK HKK =>?_
         clear hd
         go_wp2
         exact HKK.out _ _ ⟨_,(by simp[upd];done),Below.refl _ _,rfl⟩
        |5,_=>
         refine wpOp_oneH rfl fun KK HKK =>?_
         clear hd
         go_wp2
         exact HKK.out _ _ ⟨_,(by simp[upd];done),Below.refl _ _,rfl⟩
        |6,_=>
         have h5:v 5=_:=hdx hd 5 (by kernel_rfl)
         refine wpOp_oneH rfl fun KK HKK =>?_
         clear hd
         rw[h5]
         have q0:=cell_later hb R_0
         have q1:=cell_later hb R_1
         go_wp2
         exact HKK.out _ _ ⟨_,(by simp[upd,h5];done),Below.refl _ _,rfl⟩
        |7,_=>
         refine wpOp_oneH rfl fun KK HKK =>?_
         clear hd
         go_wp2
         exact HKK.out _ _ ⟨_,(by simp[upd];done),Below.refl _ _,rfl⟩
        |8,_=>
         have h4:v 4=_:=hdx hd 4 (by kernel_rfl)
         have h6:v 6=_:=hdx hd 6 (by kernel_rfl)
         have h7:v 7=_:=hdx hd 7 (by kernel_rfl)
         refine wpOp_oneH rfl fun KK HKK =>?_
         clear hd
         rw[h4,h6,h7]
         go_wp2
         exact HKK.out _ _ ⟨_,(by simp[upd,h4,h6,h7];done),Below.refl _ _,rfl⟩
        |k+9,hk=>exact absurd hk (by omega)
       case doneS=>
        intro v w5 hb hf
        have h0:v 0=_:=hf 0 (by decide)
        have h1:v 1=_:=hf 1 (by decide)
        have h2:v 2=_:=hf 2 (by decide)
        have h3:v 3=_:=hf 3 (by decide)
        have h4:v 4=_:=hf 4 (by decide)
        have h5:v 5=_:=hf 5 (by decide)
        have h6:v 6=_:=hf 6 (by decide)
        have h7:v 7=_:=hf 7 (by decide)
        have h8:v 8=_:=hf 8 (by decide)
        clear hf
        rw[h0,h1,h2,h3,h4,h5,h6,h7,h8]
        clear R_0 R_1 R_2 R_3
        replace HR:=Hd (HR.out.later hb)
        have HB8:=Hd (below_on HB7.out hb)
        clear HB7
        replace XA:=Hd (XA.out.later hb)
        replace XC:=Hd (XC.out.later hb)
        replace XB:=Hd (XB.out.later hb)
        replace XX:=Hd (XX.out.later hb)
        replace BV:=Hd (below_on BV.out hb)
        clear hb
        have NS:=Hd (show Calls Tryz.prog 39 #[.agg #[.int .i64 x0,.int .i64 x1,.int .i64 x2,.slice X xv.length xd],.agg #[.int .i64 o,.int .i64 rc,.int .i64 rn,.slice RB rb.length rbc]] w5 (Says (.bool sm) w5) from by rw[←HSM.out];exact bsamebody_any X RB xd rbc ⟨x0,x1,x2,xv⟩ ⟨o,rc,rn,rb⟩ w5 XX.out XB.out)
        go_wp2_with fail
        refine(NS.out).mono ?_
        rintro e w9 ⟨rfl,b9⟩
        replace HR:=Hd (HR.out.later b9)
        have HB9:=Hd (below_on HB8.out b9)
        clear HB8
        replace XA:=Hd (XA.out.later b9)
        replace XC:=Hd (XC.out.later b9)
        replace XB:=Hd (XB.out.later b9)
        replace XX:=Hd (XX.out.later b9)
        replace BV:=Hd (below_on BV.out b9)
        clear b9 NS
        cases sm with
        |false=>
         have HN2:=Hd (show ∀z∈M.take (ix+1),z.b≠⟨o,rc,rn,rb⟩ from fun z hz=>by rcases HTS.out z hz with h|h;exact HNO.out z h;subst h;intro h2;have h3:=(Wi.bsame_iff _ _).2 h2;rw[HSM.out]at h3;cases h3)
         go_wp2_with fail
         go_roundw
         case rel=>exact⟨ix+1,by omega,by go_num,HN2.out,BV.out⟩
         case measure=>simp[intOf];omega
        |true=>
         have HZ:=Hd HB9.out
         go_wp2
         go_ret
         exact⟨rfl,HZ.out⟩
      obtain rfl:ix=M.length:=by omega
      exfalso
      obtain⟨z,hz,hzb⟩:=List.mem_map.1 HR4.out
      exact HNO.out z (by rw[List.take_length];exact hz) hzb
end Go.Proofs.YtjlfehpockfkdaaGreat
