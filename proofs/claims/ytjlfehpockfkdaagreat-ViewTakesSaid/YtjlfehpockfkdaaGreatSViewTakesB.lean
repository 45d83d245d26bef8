/-
  What the row of this claim stands on: TrCopy, TrReach, TrStr, TrTake, SfMath, SfZero, StampCalls, SfRef, SfRefP, CaRefB, VwRefA.
-/
import Derived.Test.YtjlfehpockfkdaaGreatB01
import Derived.Deep.LoopGhost
import Derived.Deep.CutRange
import Derived.Deep.DeepCutAuto
import Derived.Test.YtjlfehpockfkdaaGreatProg
import Derived.Tactics
import Derived.Tactics2
import Derived.WalkKit
import Derived.WalkSpells
import Derived.OwnWalk
import Derived.Deep.QuietTactic
import Derived.BigQuiet
import Derived.Deep.RegionHeld3
import Derived.KernelRfl
import Derived.Lib.Hide
import Derived.Lib.QuietBelow
import Derived.WalkSmall
import Derived.Test.YtjlfehpockfkdaaGreatSViewTakesA
import Derived.Deep.AppendLies
import Derived.Deep.RegionLaw
set_option maxRecDepth 100000
set_option maxHeartbeats 102400000
namespace Go.Proofs.YtjlfehpockfkdaaGreat
open Go.RowKit
section
variable {w w2:World} {base:Nat} {v v2:Value} {L:List Zc}
theorem OwnZ.snoc(h:OwnZ w base v L){z:Zc}(hz:w.ownsRow base 46 2 (.slice z.X z.l.length z.c) z.l.length (stCells z.l))(hg:w.grownBy w2 v.ownBlock)(hr:w2.ownsRow base 99 3 v2 (L.length+1) (zCells L++zCells [z])):OwnZ w2 base v2 (L++[z]):=by
 have keep:∀x:Zc,w.ownsRow base 46 2 (.slice x.X x.l.length x.c) x.l.length (stCells x.l)→w2.ownsRow base 46 2 (.slice x.X x.l.length x.c) x.l.length (stCells x.l):=fun x hx=>
  own_stays hx (fun k hk=>hg.block k (own_lt hx k hk) (own_apart hx h.row (by decide) k hk))
 refine⟨by rw[zCells_append,List.length_append];exact hr,fun x hx =>?_⟩
 rcases List.mem_append.1 hx with hx|hx
 ·exact keep x (h.each x hx)
 ·rw[List.mem_singleton]at hx
  subst hx;exact keep x hz
end
def GivesOZ(zs:List Zn)(w:World)(e:Ending)(w':World):Prop:=∃v M,e = .returned v∧OwnZ w' w.heap.size v M∧M.map Zc.zn=zs∧Below w.heap.size w w'
theorem zcopyO_any(A:Option Addr)(c:Nat)(L:List Zc)(w:World)(h:OneZ w A c L)(hL:L.length*40≤140737488355328)(hE:∀z∈L,z.l.length*16≤140737488355328) :
  Calls Tryz.prog 47 #[.slice A L.length c] w (GivesOZ (L.map Zc.zn) w):=by
 have hlen:=h.len;have HD:=Hd h;have HE:=Hd hE;obtain⟨i0,hI,hz0,hz1,hz2⟩:=info_parts infoZn;clear h hE
 go_enter Tryz.func47,Tryz.ntmps47
 go_wp2_with fail
 go_loopw [3,4] (fun s3 s4 wr=>∃(k:Nat) (M:List Zc),k≤L.length∧s4 = .int .i64 (k:Int)∧M.length=k∧OwnZ wr w.heap.size s3 M∧M.map Zc.zn=(L.map Zc.zn).take k∧Below w.heap.size w wr) (fun _ s4 _=>L.length-(intOf s4).toNat)
 case atStart=>exact⟨0,[],Nat.zero_le _,rfl,rfl,OwnZ.nil _ _,by simp,Below.refl _ _⟩
 case round=>
  obtain⟨k,M,hk,rfl,hMk,hO,hM,hbw⟩:=hrel;obtain⟨VA,vc,hvv,-,hvm,hvn,-⟩:=own_form hO.row;subst hvv;unfold maxLen at hvm;have HO:=Hd hO;have HM:=Hd hM;have HMK:=Hd hMk;have HB:=Hd hbw;clear hO hM
  by_cases hlt:k<L.length
  ·have hne:L≠[]:=fun e=>by subst e;simp at hlt
   obtain⟨b,off,hA,hc⟩:=(HD.out.later hbw).at hne;subst hA;obtain⟨x,hx⟩:∃x,L[k]?=some x:=⟨L[k],List.getElem?_eq_getElem hlt⟩;obtain⟨e0,e1,e2⟩:=hc k x hx;have E0:=Hd e0;have E1:=Hd e1;have E2:=Hd e2;have hi0:(0:Int)≤(k:Int):=by omega
   have hi1:(k:Int)<(L.length:Int):=by omega
   have hxo:=HD.out.one hx;have hxs:=HE.out x (List.mem_of_getElem? hx)
   have CLN:=Hd (fun (w':World) (hb:Below wr.heap.size wr w')=>show Calls Tryz.prog 46 #[.slice x.X x.l.length x.c] w' (fun e w''=>∃X' c',e = .returned (.slice X' x.l.length c')∧w''.ownsRow w.heap.size 46 2 (.slice X' x.l.length c') x.l.length (stCells x.l)∧Below w'.heap.size w' w'') from by
    have hbb:=below_on HB.out hb;have h1:=hxo.later hbb;refine(rcopy_any x.X x.c x.l w' hxs h1.2.2.1 h1.2.2.2).mono ?_;rintro e w'' ⟨v2,rfl,ho,b2⟩;obtain⟨X',c',rfl,-,-,-,-⟩:=own_form ho;exact⟨X',c',rfl,own_base ho hbb.size,b2⟩)
   have PUSH:=Hd (fun (w':World) (hb:Below wr.heap.size wr w') (X':Option Addr) (c':Nat) (hx2:w'.ownsRow w.heap.size 46 2 (.slice X' x.l.length c') x.l.length (stCells x.l)) (v2:Value) (w2:World) (hg:w'.grownBy w2 (Value.ownBlock (.slice VA M.length vc))) (hr:w2.ownsRow w.heap.size 99 3 v2 (M.length+1) (zCells M++[.int .i64 x.lo,.int .i64 x.hi,.slice X' x.l.length c']))=>
    (show OwnZ w2 w.heap.size v2 (M++[⟨x.lo,x.hi,X',c',x.l⟩])∧(M++[(⟨x.lo,x.hi,X',c',x.l⟩:Zc)]).map Zc.zn=(L.map Zc.zn).take (k+1)∧Below w.heap.size w w2 from by
     have hO':=HO.out.later hb;have hbb:=below_on HB.out hb;refine⟨hO'.snoc (z:=⟨x.lo,x.hi,X',c',x.l⟩) hx2 hg hr,?_,hbb.grown hg hbb.size (fun k hk=>own_ge hO'.row k hk)⟩
     rw[List.map_append,HM.out,List.take_succ_eq_append_getElem (by rw[List.length_map];exact hlt)]
     congr 1
     have:=(List.getElem?_eq_some_iff.1 hx).2;rw[List.getElem_map,this];rfl))
   have OWN:=Hd (fun (w':World) (hb:Below wr.heap.size wr w')=>(HO.out.later hb).row)
   have hMi:(M.length+1)*40≤140737488355328:=by omega
   have HS:=Hd (show w.heap.size≤wr.heap.size from hbw.size);clear hc hne hx e0 e1 e2 hxo hxs hbw hMk
   go_upto_region 5 with (fail)
   refine wp_region_facts 14 (by kernel_rfl) (by kernel_rfl)
    (fun v=>{ tmps:=#[.slice (some ⟨b,off,none⟩) L.length c,undef,.slice none 0 0,.slice VA M.length vc,.int .i64 (k:Int),.int .i64 (k:Int),.slice (some ⟨b,off,none⟩) L.length c,.int .i64 (L.length:Int),.bool true,u9,u10,v 0,v 1,v 2,v 3,v 4,v 5,v 6,v 7,v 8,v 9,v 10,v 11,v 12,v 13,u25,undef],defers:=[] }) (fun i_=>match i_ with|0=>u11|1=>u12|2=>u13|3=>u14|4=>u15|5=>u16|6=>u17|7=>u18|8=>u19|9=>u20|10=>u21|11=>u22|12=>u23|13=>u24|_=>undef)
    (fun i_ x_ wx=>match i_ with
     |0=>x_ = .slice VA M.length vc
     |1=>x_ = .slice (some ⟨b,off,none⟩) L.length c
     |2=>x_ = .int .i64 (k:Int)
     |3=>x_ = .pointer (some ⟨b,off+k*3,none⟩)
     |4=>x_ = .pointer (some ⟨b,off+k*3,none⟩)
     |5=>x_ = .agg #[.int .i64 x.lo,.int .i64 x.hi]
     |6=>x_ = .slice (some ⟨b,off,none⟩) L.length c
     |7=>x_ = .int .i64 (k:Int)
     |8=>x_ = .pointer (some ⟨b,off+k*3,none⟩)
     |9=>x_ = .pointer (some ⟨b,off+k*3+2,none⟩)
     |10=>x_ = .slice x.X x.l.length x.c
     |11=>∃X' c',x_ = .slice X' x.l.length c'∧wx.ownsRow w.heap.size 46 2 (.slice X' x.l.length c') x.l.length (stCells x.l)
     |12=>∃X' c',x_ = .agg #[.int .i64 x.lo,.int .i64 x.hi,.slice X' x.l.length c']∧wx.ownsRow w.heap.size 46 2 (.slice X' x.l.length c') x.l.length (stCells x.l)
     |13=>∃g X' c',x_ = .slice (some ⟨g,0,none⟩) 1 1∧Blk wx g 99 #[.int .i64 x.lo,.int .i64 x.hi,.slice X' x.l.length c']∧wx.ownsRow w.heap.size 46 2 (.slice X' x.l.length c') x.l.length (stCells x.l)
     |_=>True)
    (fun w1 w2=>Below w1.heap.size w1 w2) (fun h1 h2=>below_on h1 h2) (fun _=>Below.refl _ _) (Below.drew (Below.refl _ _)) ?stab ?step ?done
   case stab=>
    rintro i_ x_ w1 w2 h hb
    match i_,h with
    |0,h=>exact h
    |1,h=>exact h
    |2,h=>exact h
    |3,h=>exact h
    |4,h=>exact h
    |5,h=>exact h
    |6,h=>exact h
    |7,h=>exact h
    |8,h=>exact h
    |9,h=>exact h
    |10,h=>exact h
    |11,h=>obtain⟨X',c',h1,h2⟩:=h;exact⟨X',c',h1,own_later h2 hb⟩
    |12,h=>obtain⟨X',c',h1,h2⟩:=h;exact⟨X',c',h1,own_later h2 hb⟩
    |13,h=>obtain⟨g,X',c',h1,h2,h3⟩:=h;exact⟨g,X',c',h1,h2.later hb,own_later h3 hb⟩
    |i_+14,_=>trivial
   case step=>
    intro i_ hi_ v w' hb hd
    match i_,hi_ with
    |0,_=>
     refine wpOp_one rfl ?_;clear hd;go_wp2
     first|exact⟨_,(by simp[upd]),Below.refl _ _,rfl⟩|exact⟨(by simp[upd]),Below.refl _ _⟩
    |1,_=>
     refine wpOp_one rfl ?_;clear hd;go_wp2
     first|exact⟨_,(by simp[upd]),Below.refl _ _,rfl⟩|exact⟨(by simp[upd]),Below.refl _ _⟩
    |2,_=>
     refine wpOp_one rfl ?_;clear hd;go_wp2
     first|exact⟨_,(by simp[upd]),Below.refl _ _,rfl⟩|exact⟨(by simp[upd]),Below.refl _ _⟩
    |3,_=>
     have h1:v 1=_:=hdx hd 1 (by kernel_rfl)
     have h2:v 2=_:=hdx hd 2 (by kernel_rfl)
     refine wpOp_one rfl ?_;clear hd;rw[h1,h2];go_wp2
     first|exact⟨_,(by simp[upd,h1,h2]),Below.refl _ _,rfl⟩|exact⟨(by simp[upd,h1,h2]),Below.refl _ _⟩
    |4,_=>
     have h3:v 3=_:=hdx hd 3 (by kernel_rfl)
     refine wpOp_one rfl ?_;clear hd;rw[h3];go_wp2
     first|exact⟨_,(by simp[upd,h3]),Below.refl _ _,rfl⟩|exact⟨(by simp[upd,h3]),Below.refl _ _⟩
    |5,_=>
     have h4:v 4=_:=hdx hd 4 (by kernel_rfl)
     refine wpOp_one rfl ?_;clear hd;rw[h4];have q0:=cell_later hb E0.out;have q1:=cell_later hb E1.out;go_wp2
     first|exact⟨_,(by simp[upd,h4]),Below.refl _ _,rfl⟩|exact⟨(by simp[upd,h4]),Below.refl _ _⟩
    |6,_=>
     refine wpOp_one rfl ?_;clear hd;go_wp2
     first|exact⟨_,(by simp[upd]),Below.refl _ _,rfl⟩|exact⟨(by simp[upd]),Below.refl _ _⟩
    |7,_=>
     refine wpOp_one rfl ?_;clear hd;go_wp2
     first|exact⟨_,(by simp[upd]),Below.refl _ _,rfl⟩|exact⟨(by simp[upd]),Below.refl _ _⟩
    |8,_=>
     have h6:v 6=_:=hdx hd 6 (by kernel_rfl)
     have h7:v 7=_:=hdx hd 7 (by kernel_rfl)
     refine wpOp_one rfl ?_;clear hd;rw[h6,h7];go_wp2
     first|exact⟨_,(by simp[upd,h6,h7]),Below.refl _ _,rfl⟩|exact⟨(by simp[upd,h6,h7]),Below.refl _ _⟩
    |9,_=>
     have h8:v 8=_:=hdx hd 8 (by kernel_rfl)
     refine wpOp_one rfl ?_;clear hd;rw[h8];go_wp2
     first|exact⟨_,(by simp[upd,h8]),Below.refl _ _,rfl⟩|exact⟨(by simp[upd,h8]),Below.refl _ _⟩
    |10,_=>
     have h9:v 9=_:=hdx hd 9 (by kernel_rfl)
     refine wpOp_one rfl ?_;clear hd;rw[h9];have q0:=cell_later hb E2.out;go_wp2
     first|exact⟨_,(by simp[upd,h9]),Below.refl _ _,rfl⟩|exact⟨(by simp[upd,h9]),Below.refl _ _⟩
    |11,_=>
     have h10:v 10=_:=hdx hd 10 (by kernel_rfl)
     refine wpOp_one rfl ?_;clear hd;rw[h10];have CL:=CLN.out w' hb;clear CLN;go_wp2_with fail;refine CL.mono ?_;rintro e w'' ⟨X',c',rfl,ho,b2⟩;go_wp2;exact⟨_,(by simp[upd,h10]),b2,X',c',rfl,ho⟩
    |12,_=>
     have h5:v 5=_:=hdx hd 5 (by kernel_rfl)
     obtain⟨X11,c11',h11,o11⟩:=hd 11 (List.elem_iff.1 (by kernel_rfl))
     refine wpOp_one rfl ?_;clear hd;rw[h5,h11];go_wp2;exact⟨_,(by simp[upd,h5,h11]),Below.refl _ _,X11,c11',rfl,o11⟩
    |13,_=>
     obtain⟨X12,c12',h12,o12⟩:=hd 12 (List.elem_iff.1 (by kernel_rfl))
     refine wpOp_one rfl ?_;clear hd;rw[h12];have hbn:=below_new (Below.refl w'.heap.size w') (.cells #[.int .i64 x.lo,.int .i64 x.hi,.slice X12 x.l.length c12'] 99);have KK:=Hd (Blk.new w' 99 #[.int .i64 x.lo,.int .i64 x.hi,.slice X12 x.l.length c12']);have o12':=own_later o12 hbn;have OO:=Hd o12';clear o12 o12';go_wp2;exact⟨_,(by simp[upd,h12]),hbn,w'.heap.size,X12,c12',rfl,KK.out,OO.out⟩
    |k_+14,hk=>exact absurd hk (by omega)
   case done=>
    intro v w' hb hf;have h0:v 0 = .slice VA M.length vc:=hf 0 (by omega)
    obtain⟨gA,XA,cA,h13,B13,o13⟩:=hf 13 (by omega)
    clear hf;simp only[List.drop_succ_cons,List.drop_zero];rw[h0,h13];clear h0 h13;have hown:=OWN.out w' hb;have hsz:=hb.size;have PU:=Hd (fun v2 w2 hg hr=>PUSH.out w' hb XA cA o13 v2 w2 hg hr)
    have hy:Lies w' (some ⟨gA,0,none⟩) [.int .i64 x.lo,.int .i64 x.hi,.slice XA x.l.length cA]:=fun _=>⟨gA,0,rfl,fun j u hu=>by
     rw[Nat.zero_add];exact B13.cell (by simpa using hu)⟩
    have hs5:=HS.out;clear PUSH OWN B13 o13 CLN
    go_wp2_with (at_builtin;refine wpList_append_lies _ rfl _ _ 23 rfl w.heap.size 99 i0 (.agg #[.int .i64 0,.int .i64 0,.slice none 0 0]) 3 40 Tryz.underlying23 hI hz0 hz1 hz2 rfl (by decide) _ M.length (zCells M) rfl hown (some ⟨gA,0,none⟩) 1 1 (fun h=>by cases h) [.int .i64 x.lo,.int .i64 x.hi,.slice XA x.l.length cA] rfl rfl hy (by intro u hu;simp at hu;rcases hu with rfl|rfl|rfl<;>rfl) ?d3 ?d4 ?d5 ?_)
    case d3=>unfold maxLen;omega
    case d4=>omega
    case d5=>omega
    intro v2 w2 ho2 hg2 _;have nx:=PU.out v2 w2 hg2 ho2;have NX:=Hd nx;clear ho2 hg2 hown hy PU nx;go_wp2_with fail
    go_roundw
    case rel=>exact⟨k+1,_,by omega,by first|rfl|go_num,by rw[List.length_append,HMK.out];rfl,NX.out.1,NX.out.2.1,NX.out.2.2⟩
    case measure=>simp[intOf];omega
  ·have hd:decide ((k:Int)<(L.length:Int))=false:=decide_eq_false (by omega)
   have FIN:=Hd (show GivesOZ (L.map Zc.zn) w (.returned (.slice VA M.length vc)) wr from⟨_,M,rfl,HO.out,by rw[HM.out];exact List.take_of_length_le (by rw[List.length_map];omega),HB.out⟩)
   clear hMk;go_wp2;go_ret;exact FIN.out
theorem zcopy_any(A:Option Addr)(c:Nat)(L:List Zc)(w:World)(h:OneZ w A c L)(hL:L.length*40≤140737488355328)(hE:∀z∈L,z.l.length*16≤140737488355328) :
  Calls Tryz.prog 47 #[.slice A L.length c] w (GivesZ (L.map Zc.zn) w):=by
 refine(zcopyO_any A c L w h hL hE).mono ?_;rintro e w' ⟨v,M,rfl,hO,hm,hb⟩;obtain⟨V,cv,rfl,h1⟩:=hO.one;exact⟨V,cv,M,rfl,h1,hm,hb⟩
theorem zsame_any(A B:Option Addr)(c d:Nat)(L M:List Zc)(w:World)(h:OneZ w A c L)(h2:OneZ w B d M) :
  Calls Tryz.prog 60 #[.slice A L.length c,.slice B M.length d] w (Says (.bool (decide (L.map Zc.zn=M.map Zc.zn))) w):=by
 have hlen:=h.len;have hlen2:=h2.len;have HD:=Hd h;have HD2:=Hd h2;obtain⟨q,hq⟩:∃q,decide (L.map Zc.zn=M.map Zc.zn)=q:=⟨_,rfl⟩;rw[hq];have HQ:=Hd hq;clear h h2 hq
 by_cases hne:L.length=M.length
 ·have HNE:=Hd hne
  obtain⟨n,hn⟩:∃n,M.length=n:=⟨_,rfl⟩;rw[hne,hn];rw[hn]at hlen2;have HLN:=Hd (show L.length=n from hne.trans hn);have HMN:=Hd hn;clear hne hn hlen
  go_enter Tryz.func60,Tryz.ntmps60
  go_wp2_with fail
  go_loopw [5] (fun s5 wr=>∃(k:Nat),k≤n∧s5 = .int .i64 (k:Int)∧(∀(u:Nat),u<k→(L.map Zc.zn)[u]?=(M.map Zc.zn)[u]?)∧Below w.heap.size w wr) (fun s5 _=>n-(intOf s5).toNat)
  case atStart=>exact⟨0,Nat.zero_le _,rfl,fun u hu=>by omega,Below.refl _ _⟩
  case round=>
   obtain⟨k,hk,rfl,hall,hbw⟩:=hrel;have HALL:=Hd hall;clear hall
   by_cases hlt:k<n
   ·have hltL:k<L.length:=by rw[HLN.out];exact hlt
    have hltM:k<M.length:=by rw[HMN.out];exact hlt
    obtain⟨b,off,hA,hc⟩:=(HD.out.later hbw).at (fun e=>by subst e;simp at hltL)
    obtain⟨b2,off2,hA2,hc2⟩:=(HD2.out.later hbw).at (fun e=>by subst e;simp at hltM)
    subst hA hA2;obtain⟨x,hx⟩:∃x,L[k]?=some x:=⟨L[k],List.getElem?_eq_getElem hltL⟩;obtain⟨y,hy⟩:∃y,M[k]?=some y:=⟨M[k],List.getElem?_eq_getElem hltM⟩;obtain⟨e0,e1,e2⟩:=hc k x hx;obtain⟨f0,f1,f2⟩:=hc2 k y hy;have hxo:=(HD.out.one hx).later hbw;have hyo:=(HD2.out.one hy).later hbw;have hi0:(0:Int)≤(k:Int):=by omega
    have hi1:(k:Int)<(n:Int):=by omega
    have gx:(L.map Zc.zn)[k]?=some x.zn:=by rw[List.getElem?_map,hx];rfl
    have gy:(M.map Zc.zn)[k]?=some y.zn:=by rw[List.getElem?_map,hy];rfl
    obtain⟨lo,hi,X,cx,l⟩:=x;obtain⟨yo,yi,Y,cy,r⟩:=y;dsimp only at e0 e1 e2 f0 f1 f2 hxo hyo
    have NO:=Hd (fun (hn:¬((lo=yo∧hi=yi)∧l=r))=>(show q=false from by
     rw[←HQ.out];refine decide_eq_false (fun e=>hn ?_)
     rw[e,gy]at gx;injection gx with gx
     injection gx with g1 g2
     injection g2 with g2 g3
     exact⟨⟨g1.symm,g2.symm⟩,g3.symm⟩))
    have NX:=Hd (fun (hn:(lo=yo∧hi=yi)∧l=r)=>(show ∀(u:Nat),u<k+1→(L.map Zc.zn)[u]?=(M.map Zc.zn)[u]? from fun u hu=>by
     by_cases e:u=k
     ·subst e
      rw[gx,gy];show some (lo,hi,l)=some (yo,yi,r);rw[hn.1.1,hn.1.2,hn.2]
     ·exact HALL.out u (by omega)))
    have m0:∀d os,(Sort.grow (redrawn wr d) os).cell? ⟨b,off+k*3,none⟩=some (.int .i64 lo):=cell_regrown e0;have m1:∀d os,(Sort.grow (redrawn wr d) os).cell? ⟨b,off+k*3+1,none⟩=some (.int .i64 hi):=cell_regrown e1;have m2:∀d os,(Sort.grow (redrawn wr d) os).cell? ⟨b,off+k*3+2,none⟩=some (.slice X l.length cx):=cell_regrown e2;have p0:∀d os,(Sort.grow (redrawn wr d) os).cell? ⟨b2,off2+k*3,none⟩=some (.int .i64 yo):=cell_regrown f0;have p1:∀d os,(Sort.grow (redrawn wr d) os).cell? ⟨b2,off2+k*3+1,none⟩=some (.int .i64 yi):=cell_regrown f1;have p2:∀d os,(Sort.grow (redrawn wr d) os).cell? ⟨b2,off2+k*3+2,none⟩=some (.slice Y r.length cy):=cell_regrown f2;obtain⟨sm,hsm⟩:∃sm,decide (l=r)=sm:=⟨_,rfl⟩
    have CS:=Hd (fun d os=>(show Calls Tryz.prog 18 #[.slice X l.length cx,.slice Y r.length cy] (Sort.grow (redrawn wr d) os) (fun e w''=>e = .returned (.bool sm)∧∃p:Regrown,w''=Sort.grow (redrawn wr p.d) p.os) from by
     rw[←hsm];have h1:=hxo.later (below_regrown wr d os);have h2:=hyo.later (below_regrown wr d os);exact Calls.regrown_of (rsame_any X Y cx cy l r _ h1.len h1.stamps h2.stamps)))
    have HSM:=Hd hsm;clear hx hy hc hc2 e0 e1 e2 f0 f1 f2 hxo hyo gx gy hsm hltL hltM
    by_cases t1:lo=yo∧hi=yi
    ·obtain⟨t1,t2⟩:=t1
     subst t1 t2;cases sm with
     |true=>
      have HT:=Hd (NX.out ⟨⟨rfl,rfl⟩,of_decide_eq_true HSM.out⟩);go_wp2_with fail;refine wp_region_quiet_below (by kernel_rfl) (by kernel_rfl) ?_
      repeat (first|go_big_quiet_step (exact CS.out _ _)|quiet_step (exact CS.out _ _))
      refine wpQuiet_nil ?_;intro _ hw';obtain⟨⟨dq,osq⟩,hw''⟩:=hw';subst hw'';go_wp2_with fail
      go_roundw
      case rel=>exact⟨_,by omega,by first|rfl|go_num,HT.out,below_on hbw (below_regrown wr dq osq)⟩
      case measure=>simp[intOf];omega
     |false=>
      have hqf:=NO.out (fun h=>of_decide_eq_false HSM.out h.2)
      subst hqf;go_wp2_with fail;refine wp_region_quiet_below (by kernel_rfl) (by kernel_rfl) ?_
      repeat (first|go_big_quiet_step (exact CS.out _ _)|quiet_step (exact CS.out _ _))
      refine wpQuiet_nil ?_;intro _ hw';obtain⟨⟨dq,osq⟩,hw''⟩:=hw';subst hw'';go_wp2;go_ret;exact⟨rfl,below_on hbw (below_regrown wr dq osq)⟩
    ·have hqf:=NO.out (fun h=>t1 h.1)
     subst hqf
     have d1:(lo == yo&&hi == yi)=false:=by
      rw[Bool.and_eq_false_iff,beq_eq_false_iff_ne,beq_eq_false_iff_ne]
      by_cases e:lo=yo
      ·exact .inr (fun e2=>t1 ⟨e,e2⟩)
      ·exact .inl e
     by_cases t2:lo=yo
     ·subst t2
      have t3:¬hi=yi:=fun e=>t1 ⟨rfl,e⟩
      have d3:(hi == yi)=false:=by rw[beq_eq_false_iff_ne];exact t3
      clear t1;go_wp2_with fail;refine wp_region_quiet_below (by kernel_rfl) (by kernel_rfl) ?_
      repeat (first|go_big_quiet_step (exact CS.out _ _)|quiet_step (exact CS.out _ _))
      refine wpQuiet_nil ?_;intro _ hw';obtain⟨⟨dq,osq⟩,hw''⟩:=hw';subst hw'';go_wp2;go_ret;exact⟨rfl,below_on hbw (below_regrown wr dq osq)⟩
     ·have d3:(lo == yo)=false:=by rw[beq_eq_false_iff_ne];exact t2
      clear t1;go_wp2_with fail;refine wp_region_quiet_below (by kernel_rfl) (by kernel_rfl) ?_
      repeat (first|go_big_quiet_step (exact CS.out _ _)|quiet_step (exact CS.out _ _))
      refine wpQuiet_nil ?_;intro _ hw';obtain⟨⟨dq,osq⟩,hw''⟩:=hw';subst hw'';go_wp2;go_ret;exact⟨rfl,below_on hbw (below_regrown wr dq osq)⟩
   ·have hd:decide ((k:Int)<(n:Int))=false:=decide_eq_false (by omega)
    have hkn:k=n:=by omega
    have hqt:q=true:=by
     rw[←HQ.out];refine decide_eq_true (List.ext_getElem? fun u =>?_)
     by_cases hu:u<n
     ·exact HALL.out u (by omega)
     ·rw[List.getElem?_eq_none (by rw[List.length_map,HLN.out];omega),List.getElem?_eq_none (by rw[List.length_map,HMN.out];omega)]
    subst hqt;clear hkn;go_wp2;go_ret;exact⟨rfl,hbw⟩
 ·have hqf:q=false:=by
   rw[←HQ.out];exact decide_eq_false (fun e=>hne (by have:=congrArg List.length e;simpa using this))
  subst hqf;have d1:((L.length:Int) == (M.length:Int))=false:=by rw[beq_eq_false_iff_ne];omega
  have d2:decide ((L.length:Int)=(M.length:Int))=false:=decide_eq_false (by omega)
  have d3:decide (L.length=M.length)=false:=decide_eq_false hne;clear HQ
  go_enter Tryz.func60,Tryz.ntmps60
  go_wp2;go_ret;exact⟨rfl,Below.refl _ _⟩
end Go.Proofs.YtjlfehpockfkdaaGreat
namespace Go.Proofs.YtjlfehpockfkdaaGreat
open Go.RowKit Fb
theorem Gives.none{w w':World}(hb:Below w.heap.size w w'):Gives [] w (.returned (.slice none 0 0)) w':=⟨_,rfl,⟨rfl,.inl ⟨rfl,rfl⟩⟩,hb⟩
theorem zreach_any(A B:Option Addr)(c cb:Nat)(L:List Zc)(kn:List (Int × Int))(o:Int)(w:World)(h:OneZ w A c L)(hb:OneL w B cb kn) :
  Calls Tryz.prog 36 #[.slice A L.length c,.slice B kn.length cb,.int .i64 o] w (Gives (Tr.rchR (L.map Zc.zn) kn o) w):=by
 have hlen:=h.len;have N:=zformed_any A c L w h;have HD:=Hd h;have HK:=Hd hb;clear h hb;cases hq:Tr.fmd (L.map Zc.zn) with
 |false=>
  have hR:Tr.rchR (L.map Zc.zn) kn o=[]:=by unfold Tr.rchR;rw[if_neg (fun h=>by rw[hq]at h;exact absurd h.1 Bool.false_ne_true)]
  rw[hR];rw[hq]at N;have NN:=Hd N;clear N hq hR
  go_enter Tryz.func36,Tryz.ntmps36
  go_wp2_with fail;refine NN.out.mono ?_;rintro e w1 ⟨rfl,b1⟩;have FIN:=Hd (Gives.none b1);clear b1;go_wp2;go_ret;exact FIN.out
 |true=>
  rw[hq]at N;have NN:=Hd N;have HQ:=Hd hq;have KF:=Hd (fun (w1:World) (b1:Below w.heap.size w w1)=>rformed_any B cb kn w1 (HK.out.later b1).len (HK.out.later b1).stamps)
  clear N hq;cases hk:Ve.fmd kn with
  |false=>
   have hR:Tr.rchR (L.map Zc.zn) kn o=[]:=by unfold Tr.rchR;rw[if_neg (fun h=>by rw[hk]at h;exact absurd h.2.1 Bool.false_ne_true)]
   rw[hR];rw[hk]at KF;clear hk hR
   go_enter Tryz.func36,Tryz.ntmps36
   go_wp2_with fail;refine NN.out.mono ?_;rintro e w1 ⟨rfl,b1⟩;have KF1:=Hd (KF.out w1 b1);have B1:=Hd b1;clear b1 KF;go_wp2_with fail;refine KF1.out.mono ?_;rintro e w2 ⟨rfl,b2⟩;have FIN:=Hd (Gives.none (below_on B1.out b2));clear b2;go_wp2;go_ret;exact FIN.out
  |true=>
   rw[hk]at KF;have HKF:=Hd hk;clear hk
   by_cases ho:0≤o∧o≤255
   ·obtain⟨ho0,ho1⟩:=ho
    have d0:decide (o<0)=false:=decide_eq_false (by omega)
    have d1:decide (255<o)=false:=decide_eq_false (by omega)
    have hR:Tr.rchR (L.map Zc.zn) kn o=Tr.rch (L.map Zc.zn) kn o:=by unfold Tr.rchR;rw[if_pos ⟨HQ.out,HKF.out,ho0,ho1⟩]
    rw[hR];clear hR ho0 ho1;rcases Tr.at_ways (L.map Zc.zn) o with ⟨h1,h2,-⟩|⟨k,h0,h1,h2,-,-⟩
    ·have hR:Tr.rch (L.map Zc.zn) kn o=kn:=by unfold Tr.rch;rw[h2];rfl
     rw[hR]
     have ZA:=Hd (fun (w1:World) (b1:Below w.heap.size w w1)=>(show Calls Tryz.prog 104 #[.slice A L.length c,.int .i64 o] w1 (Says (.int .i64 (-1)) w1) from by
      have:=zat_any A c L o w1 (HD.out.later b1);rw[h1]at this;exact this))
     have CP:=Hd (fun (w1:World) (b1:Below w.heap.size w w1)=>rcopy_any B cb kn w1 (by have:=Tr.short HKF.out;omega) (HK.out.later b1).2.2.1 (HK.out.later b1).2.2.2)
     clear h1 h2 hR
     go_enter Tryz.func36,Tryz.ntmps36
     go_wp2_with fail;refine NN.out.mono ?_;rintro e w1 ⟨rfl,b1⟩;have KF1:=Hd (KF.out w1 b1);have B1:=Hd b1;clear b1 KF NN;go_wp2_with fail;refine KF1.out.mono ?_;rintro e w2 ⟨rfl,b2⟩;have B2:=Hd (below_on B1.out b2);have ZA2:=Hd (ZA.out w2 B2.out);clear b2 ZA KF1;go_wp2_with fail;refine ZA2.out.mono ?_;rintro e w3 ⟨rfl,b3⟩;have B3:=Hd (below_on B2.out b3);clear b3 ZA2;have CP3:=Hd (CP.out w3 B3.out);clear CP;go_wp2_with fail;refine CP3.out.mono ?_;rintro e w4 ⟨v,rfl,ho,b4⟩;have HO:=Hd (own_base ho B3.out.size);have FB:=Hd (below_on B3.out b4);clear ho b4;go_wp2;go_ret;exact⟨_,rfl,HO.out,FB.out⟩
    ·rw[List.length_map]at h0
     obtain⟨x,hx⟩:∃x,L[k]?=some x:=⟨L[k],List.getElem?_eq_getElem h0⟩;have hg:=zn_getD hx;rw[hg]at h2;have hR:Tr.rch (L.map Zc.zn) kn o=x.l:=by unfold Tr.rch;rw[h2];rfl
     rw[hR]
     have hxf:Ve.fmd x.l=true:=by
      have:=Tr.vec_fmd HQ.out (k:=k) (by rw[List.length_map];exact h0)
      rw[hg]at this;exact this
     have ZA:=Hd (fun (w1:World) (b1:Below w.heap.size w w1)=>(show Calls Tryz.prog 104 #[.slice A L.length c,.int .i64 o] w1 (Says (.int .i64 (k:Int)) w1) from by
      have:=zat_any A c L o w1 (HD.out.later b1);rw[h1]at this;exact this))
     have HXO:=Hd (HD.out.one hx);have CP:=Hd (fun (w1:World) (b1:Below w.heap.size w w1)=>rcopy_any x.X x.c x.l w1 (by have:=Tr.short hxf;omega) (HXO.out.later b1).2.2.1 (HXO.out.later b1).2.2.2)
     obtain⟨b,off,hA,hc⟩:=HD.out.at (fun e=>by subst e;simp at h0)
     obtain⟨-,-,e2⟩:=hc k x hx;subst hA;have E2:=Hd e2;have hi0:(0:Int)≤(k:Int):=by omega
     have hi1:(k:Int)<(L.length:Int):=by omega
     have hdk:decide ((0:Int)≤(k:Int))=true:=decide_eq_true hi0;clear h1 h2 hR hx hg hxf hc e2
     go_enter Tryz.func36,Tryz.ntmps36
     go_wp2_with fail;refine NN.out.mono ?_;rintro e w1 ⟨rfl,b1⟩;have KF1:=Hd (KF.out w1 b1);have B1:=Hd b1;clear b1 KF NN;go_wp2_with fail;refine KF1.out.mono ?_;rintro e w2 ⟨rfl,b2⟩;have B2:=Hd (below_on B1.out b2);have ZA2:=Hd (ZA.out w2 B2.out);clear b2 ZA KF1;go_wp2_with fail;refine ZA2.out.mono ?_;rintro e w3 ⟨rfl,b3⟩;have B3:=Hd (below_on B2.out b3);clear b3 ZA2;have CP3:=Hd (CP.out w3 B3.out);have e2:=cell_later B3.out E2.out;clear CP;go_wp2_with fail;refine CP3.out.mono ?_;rintro e w4 ⟨v,rfl,ho,b4⟩;have HO:=Hd (own_base ho B3.out.size);have FB:=Hd (below_on B3.out b4);clear ho b4 e2;go_wp2;go_ret;exact⟨_,rfl,HO.out,FB.out⟩
   ·have hR:Tr.rchR (L.map Zc.zn) kn o=[]:=by unfold Tr.rchR;rw[if_neg (fun h=>ho h.2.2)]
    rw[hR];clear hR
    by_cases ho0:o<0
    ·have d0:decide (o<0)=true:=decide_eq_true ho0
     clear ho ho0
     go_enter Tryz.func36,Tryz.ntmps36
     go_wp2_with fail;refine NN.out.mono ?_;rintro e w1 ⟨rfl,b1⟩;have KF1:=Hd (KF.out w1 b1);have B1:=Hd b1;clear b1 KF NN;go_wp2_with fail;refine KF1.out.mono ?_;rintro e w2 ⟨rfl,b2⟩;have FIN:=Hd (Gives.none (below_on B1.out b2));clear b2;go_wp2;go_ret;exact FIN.out
    ·have d0:decide (o<0)=false:=decide_eq_false ho0
     have d1:decide (255<o)=true:=decide_eq_true (by omega)
     clear ho ho0
     go_enter Tryz.func36,Tryz.ntmps36
     go_wp2_with fail;refine NN.out.mono ?_;rintro e w1 ⟨rfl,b1⟩;have KF1:=Hd (KF.out w1 b1);have B1:=Hd b1;clear b1 KF NN;go_wp2_with fail;refine KF1.out.mono ?_;rintro e w2 ⟨rfl,b2⟩;have FIN:=Hd (Gives.none (below_on B1.out b2));clear b2;go_wp2;go_ret;exact FIN.out
namespace Tr
def strTo(c s e:Nat→Int)(k i:Nat):Int:=if i<k then str c s e i else c i
theorem str_start(c s e:Nat→Int)(i:Nat):c i=strTo c s e 0 i:=by unfold strTo;rw[if_neg (by omega)]
theorem str_here(c s e:Nat→Int)(k:Nat):strTo c s e k k=c k:=by unfold strTo;rw[if_neg (by omega)]
theorem str_step(c s e:Nat→Int)(k:Nat){x:Int}(hx:x=str c s e k)(i:Nat):(if i=k then x else strTo c s e k i)=strTo c s e (k+1) i:=by
 unfold strTo
 by_cases q:i=k
 ·subst q
  rw[if_pos rfl,if_pos (Nat.lt_succ_self _),hx]
 ·rw[if_neg q]
  by_cases r:i<k
  ·rw[if_pos r,if_pos (by omega)]
  ·rw[if_neg r,if_neg (by omega)]
theorem str_same(c s e:Nat→Int)(k:Nat)(h:str c s e k=c k)(i:Nat):strTo c s e k i=strTo c s e (k+1) i:=by
 unfold strTo
 by_cases q:i=k
 ·subst q
  rw[if_neg (Nat.lt_irrefl _),if_pos (Nat.lt_succ_self _),h]
 ·by_cases r:i<k
  ·rw[if_pos r,if_pos (by omega)]
  ·rw[if_neg r,if_neg (by omega)]
theorem str_end(c s e:Nat→Int)(i:Nat)(hi:i<64):strTo c s e 64 i=str c s e i:=by unfold strTo;rw[if_pos hi]
end Tr
theorem zstretched_any(X S E B V:Option Addr)(cx cs ce cb cv:Nat)(l:List (Int × Int))(n:Note)(o:Int)(w:World)(hX:OneL w X cx l)(h1:NoteAt w S E B V cs ce cb cv n) :
  Calls Tryz.prog 138 #[.slice X l.length cx,.agg (noteCells S E B V cs ce cb cv n),.int .i64 o] w (Ans (Tr.strd l n o) w):=by
 obtain⟨W,hW⟩:∃W,w.alloc (.cells (noteCells S E B V cs ce cb cv n) 40)=W:=⟨_,rfl⟩;have hb0:Below w.heap.size w W:=by rw[←hW];exact below_new (Below.refl _ _) _
 have hB0:Blk W w.heap.size 40 (noteCells S E B V cs ce cb cv n):=by rw[←hW];exact Blk.new w _ _
 have hN:=h1.later hb0;have hX0:=hX.later hb0;have C0:=Hd (fun wx (hb:Below W.heap.size W wx)=>counts_any X cx l wx hX0.len (hX0.later hb).stamps)
 have C1:=Hd (fun wx (hb:Below W.heap.size W wx)=>counts_any S cs n.s wx hN.hs.len (hN.hs.later hb).stamps)
 have C2:=Hd (fun wx (hb:Below W.heap.size W wx)=>counts_any E ce n.e wx hN.he.len (hN.he.later hb).stamps)
 have AT:=Hd (fun wx (hb:Below W.heap.size W wx)=>nat_any V cv n.ws o wx (hN.hv.later hb))
 have P0:=Hd (show W.cell? ⟨w.heap.size,0,none⟩=some (.slice S n.s.length cs) from hB0.cell rfl);have P1:=Hd (show W.cell? ⟨w.heap.size,1,none⟩=some (.slice E n.e.length ce) from hB0.cell rfl);have P3:=Hd (show W.cell? ⟨w.heap.size,3,none⟩=some (.slice V n.ws.length cv) from hB0.cell rfl);have HX0:=Hd hX0;have HB0:=Hd hb0;have HW:=Hd hW;obtain⟨CV,hCV⟩:∃CV,Ve.cnt l=CV:=⟨_,rfl⟩;obtain⟨CS,hCS⟩:∃CS,Ve.cnt n.s=CS:=⟨_,rfl⟩;obtain⟨CE,hCE⟩:∃CE,Ve.cnt n.e=CE:=⟨_,rfl⟩;obtain⟨x,hx⟩:∃x,Ve.ofL (Tr.str CV CS CE)=x:=⟨_,rfl⟩;obtain⟨⟨wt,ok⟩,hat⟩:∃r,Nt.at_ n.ws o=r:=⟨_,rfl⟩
 have hT:Tr.strd l n o=if ok=true∧hasOf x wt.1 wt.2.1=false then l else x:=by
  unfold Tr.strd;rw[hCV,hCS,hCE,hx,hat]
 rw[hT];rw[hat]at AT;rw[hCV]at C0;rw[hCS]at C1;rw[hCE]at C2;obtain⟨RS,hRS⟩:∃RS,(if ok=true∧hasOf x wt.1 wt.2.1=false then l else x)=RS:=⟨_,rfl⟩
 rw[hRS];have HRS:=Hd hRS;have HXX:=Hd hx;clear hX h1 hN hX0 hb0 hW hB0 hCV hCS hCE hx hat hT hRS
 go_enter Tryz.func138,Tryz.ntmps138
 go_upto_region 1 with (fail)
 try rw[HW.out]
 refine wp_region_facts2 11 (by kernel_rfl) (by kernel_rfl)
  (fun v=>{ tmps:=#[.slice X l.length cx,.agg (noteCells S E B V cs ce cb cv n),.int .i64 o,undef,.pointer (some ⟨w.heap.size,0,none⟩),undef,.slice none 0 0,v 8,v 9,v 10,undef,undef,undef,undef,v 0,v 1,v 2,v 3,v 4,v 5,v 6,v 7,undef,undef,undef,undef,undef,undef,undef,undef,undef,undef,undef,undef,undef,undef,undef,undef,undef,undef,undef,undef,undef,undef,undef,undef,undef,undef,undef,undef,undef,undef,undef,undef,undef,undef,undef,undef,undef,undef,undef],defers:=[] }) (fun _=>undef)
  (fun i x wx=>match i with
   |0=>x = .slice X l.length cx
   |1=>x = .agg (Ve.arr CV)
   |2=>x = .pointer (some ⟨w.heap.size,0,none⟩)
   |3=>x = .slice S n.s.length cs
   |4=>x = .agg (Ve.arr CS)
   |5=>x = .pointer (some ⟨w.heap.size,1,none⟩)
   |6=>x = .slice E n.e.length ce
   |7=>x = .agg (Ve.arr CE)
   |8=>∃g,x = .pointer (some ⟨g,0,none⟩)∧Blk wx g 185 (Ve.arr fun _=>0)∧W.heap.size≤g
   |9=>∃g,x = .pointer (some ⟨g,0,none⟩)∧Blk wx g 185 (Ve.arr fun _=>0)∧W.heap.size≤g
   |10=>∃g,x = .pointer (some ⟨g,0,none⟩)∧Blk wx g 185 (Ve.arr fun _=>0)∧W.heap.size≤g
   |_=>True)
  (fun i j x y=>(8≤i∧i≤10∧8≤j∧j≤10)→x≠y)
  (fun w1 w2=>Below w1.heap.size w1 w2) (fun h1 h2=>below_on h1 h2) (fun _=>Below.refl _ _) (Below.drew (Below.refl _ _)) ?stab ?step ?done
 case stab=>
  rintro i x w1 w2 h hb
  match i,h with
  |0,h=>exact h
  |1,h=>exact h
  |2,h=>exact h
  |3,h=>exact h
  |4,h=>exact h
  |5,h=>exact h
  |6,h=>exact h
  |7,h=>exact h
  |8,h=>obtain⟨g,h1,h2,h3⟩:=h;exact⟨g,h1,h2.later hb,h3⟩
  |9,h=>obtain⟨g,h1,h2,h3⟩:=h;exact⟨g,h1,h2.later hb,h3⟩
  |10,h=>obtain⟨g,h1,h2,h3⟩:=h;exact⟨g,h1,h2.later hb,h3⟩
  |i+11,_=>trivial
 case step=>
  intro i hi v w' hb hd
  match i,hi with
  |0,_=>
   refine wpOp_oneH rfl fun KK HKK =>?_
   clear hd;go_wp2;exact HKK.out _ _ ⟨_,(by simp[upd]),Below.refl _ _,rfl,fun j y _ _=>⟨fun h=>by omega,fun h=>by omega⟩⟩
  |1,_=>
   have h0:v 0=_:=hdx hd 0 (by kernel_rfl)
   refine wpOp_oneH rfl fun KK HKK =>?_
   clear hd;rw[h0];go_wp2_with fail;refine(C0.out _ hb).mono ?_;rintro e w'' ⟨rfl,b⟩;go_wp2;exact HKK.out _ _ ⟨_,(by simp[upd,h0]),b,rfl,fun j y _ _=>⟨fun h=>by omega,fun h=>by omega⟩⟩
  |2,_=>
   refine wpOp_oneH rfl fun KK HKK =>?_
   clear hd;go_wp2;exact HKK.out _ _ ⟨_,(by simp[upd]),Below.refl _ _,rfl,fun j y _ _=>⟨fun h=>by omega,fun h=>by omega⟩⟩
  |3,_=>
   have h2:v 2=_:=hdx hd 2 (by kernel_rfl)
   refine wpOp_oneH rfl fun KK HKK =>?_
   clear hd;rw[h2];have q0:=cell_later hb P0.out;go_wp2;exact HKK.out _ _ ⟨_,(by simp[upd,h2]),Below.refl _ _,rfl,fun j y _ _=>⟨fun h=>by omega,fun h=>by omega⟩⟩
  |4,_=>
   have h3:v 3=_:=hdx hd 3 (by kernel_rfl)
   refine wpOp_oneH rfl fun KK HKK =>?_
   clear hd;rw[h3];go_wp2_with fail;refine(C1.out _ hb).mono ?_;rintro e w'' ⟨rfl,b⟩;go_wp2;exact HKK.out _ _ ⟨_,(by simp[upd,h3]),b,rfl,fun j y _ _=>⟨fun h=>by omega,fun h=>by omega⟩⟩
  |5,_=>
   refine wpOp_oneH rfl fun KK HKK =>?_
   clear hd;go_wp2;exact HKK.out _ _ ⟨_,(by simp[upd]),Below.refl _ _,rfl,fun j y _ _=>⟨fun h=>by omega,fun h=>by omega⟩⟩
  |6,_=>
   have h5:v 5=_:=hdx hd 5 (by kernel_rfl)
   refine wpOp_oneH rfl fun KK HKK =>?_
   clear hd;rw[h5];have q0:=cell_later hb P1.out;go_wp2;exact HKK.out _ _ ⟨_,(by simp[upd,h5]),Below.refl _ _,rfl,fun j y _ _=>⟨fun h=>by omega,fun h=>by omega⟩⟩
  |7,_=>
   have h6:v 6=_:=hdx hd 6 (by kernel_rfl)
   refine wpOp_oneH rfl fun KK HKK =>?_
   clear hd;rw[h6];go_wp2_with fail;refine(C2.out _ hb).mono ?_;rintro e w'' ⟨rfl,b⟩;go_wp2;exact HKK.out _ _ ⟨_,(by simp[upd,h6]),b,rfl,fun j y _ _=>⟨fun h=>by omega,fun h=>by omega⟩⟩
  |8,_=>
   refine wpOp_oneH rfl fun KK HKK =>?_
   clear hd;have hz:=hb.size;go_wp2;refine HKK.out _ _ ⟨_,(by simp[upd]),below_new (Below.refl _ _) _,⟨w'.heap.size,rfl,by rw[Ve.arr_zero];exact Blk.new _ _ _,by omega⟩,fun j y hne hy =>?_⟩
   have hj:8≤j→j≤10→y ≠ .pointer (some ⟨w'.heap.size,0,none⟩):=fun h1 h2 e=>by
    have h3:j=8∨j=9∨j=10:=by omega
    rcases h3 with rfl|rfl|rfl<;>(obtain⟨g,h4,h5,_⟩:=hy;rw[e]at h4;have h6:=h5.lt;injection h4 with h4;injection h4 with h4;injection h4 with h4;omega)
   exact⟨fun h=>(fun e=>hj h.2.2.1 h.2.2.2 e.symm),fun h=>hj h.1 h.2.1⟩
  |9,_=>
   refine wpOp_oneH rfl fun KK HKK =>?_
   clear hd;have hz:=hb.size;go_wp2;refine HKK.out _ _ ⟨_,(by simp[upd]),below_new (Below.refl _ _) _,⟨w'.heap.size,rfl,by rw[Ve.arr_zero];exact Blk.new _ _ _,by omega⟩,fun j y hne hy =>?_⟩
   have hj:8≤j→j≤10→y ≠ .pointer (some ⟨w'.heap.size,0,none⟩):=fun h1 h2 e=>by
    have h3:j=8∨j=9∨j=10:=by omega
    rcases h3 with rfl|rfl|rfl<;>(obtain⟨g,h4,h5,_⟩:=hy;rw[e]at h4;have h6:=h5.lt;injection h4 with h4;injection h4 with h4;injection h4 with h4;omega)
   exact⟨fun h=>(fun e=>hj h.2.2.1 h.2.2.2 e.symm),fun h=>hj h.1 h.2.1⟩
  |10,_=>
   refine wpOp_oneH rfl fun KK HKK =>?_
   clear hd;have hz:=hb.size;go_wp2;refine HKK.out _ _ ⟨_,(by simp[upd]),below_new (Below.refl _ _) _,⟨w'.heap.size,rfl,by rw[Ve.arr_zero];exact Blk.new _ _ _,by omega⟩,fun j y hne hy =>?_⟩
   have hj:8≤j→j≤10→y ≠ .pointer (some ⟨w'.heap.size,0,none⟩):=fun h1 h2 e=>by
    have h3:j=8∨j=9∨j=10:=by omega
    rcases h3 with rfl|rfl|rfl<;>(obtain⟨g,h4,h5,_⟩:=hy;rw[e]at h4;have h6:=h5.lt;injection h4 with h4;injection h4 with h4;injection h4 with h4;omega)
   exact⟨fun h=>(fun e=>hj h.2.2.1 h.2.2.2 e.symm),fun h=>hj h.1 h.2.1⟩
 case done=>
  intro v w' hb hf hr;have h1:v 1=_:=hf 1 (by omega)
  have h4:v 4=_:=hf 4 (by omega)
  have h7:v 7=_:=hf 7 (by omega)
  obtain⟨g6,h9,q6,l6⟩:=hf 8 (by omega)
  obtain⟨g7,h10,q7,l7⟩:=hf 9 (by omega)
  obtain⟨g8,h11,q8,l8⟩:=hf 10 (by omega)
  have n67:g6≠g7:=fun e=>hr 8 9 (by omega) (by omega) (by omega) ⟨by omega,by omega,by omega,by omega⟩ (by rw[h9,h10,e])
  have n68:g6≠g8:=fun e=>hr 8 10 (by omega) (by omega) (by omega) ⟨by omega,by omega,by omega,by omega⟩ (by rw[h9,h11,e])
  have n78:g7≠g8:=fun e=>hr 9 10 (by omega) (by omega) (by omega) ⟨by omega,by omega,by omega,by omega⟩ (by rw[h10,h11,e])
  clear hf hr;simp only[List.drop_succ_cons,List.drop_zero];rw[h1,h4,h7,h9,h10,h11];have u7:=q7.rowFar n67.symm (Ve.arr CV);have u8:=(q8.rowFar n68.symm (Ve.arr CV)).rowFar n78.symm (Ve.arr CS);have G6:=((q6.row (Ve.arr CV)).rowFar n67 (Ve.arr CS)).rowFar n68 (Ve.arr CE);have G7:=(u7.row (Ve.arr CS)).rowFar n78 (Ve.arr CE);have G8:=u8.row (Ve.arr CE);have b5:=below_setRow (below_setRow (below_setRow hb l6 (Ve.arr CV)) l7 (Ve.arr CS)) l8 (Ve.arr CE);clear C0 C1 C2 h1 h4 h7 h9 h10 h11
  go_wp2_with (first|(refine wpList_store_row rfl 185 _ _ rfl g6 (Ve.arr CV) rfl rfl 185 (Ve.arr fun _=>0) q6 (by rw[Ve.arr_size];exact info64) (by rw[Ve.arr_size,Ve.arr_size]) (one_arr _) ?_)|(refine wpList_store_row rfl 185 _ _ rfl g7 (Ve.arr CS) rfl rfl 185 (Ve.arr fun _=>0) u7 (by rw[Ve.arr_size];exact info64) (by rw[Ve.arr_size,Ve.arr_size]) (one_arr _) ?_)|(refine wpList_store_row rfl 185 _ _ rfl g8 (Ve.arr CE) rfl rfl 185 (Ve.arr fun _=>0) u8 (by rw[Ve.arr_size];exact info64) (by rw[Ve.arr_size,Ve.arr_size]) (one_arr _) ?_))
  obtain⟨w5,hw5⟩:∃w5,((w'.setRow g6 (Ve.arr CV)).setRow g7 (Ve.arr CS)).setRow g8 (Ve.arr CE)=w5:=⟨_,rfl⟩;rw[hw5]at G6 G7 G8 b5 ⊢;have HG6:=Hd G6;have HG7:=Hd G7;have HG8:=Hd G8;clear hw5 q6 q7 q8 u7 u8 G6 G7 G8 hb
  go_loopw [10] (fun s10 wr=>∃k:Nat,k≤64∧s10 = .int .i64 (k:Int)∧Blk wr g6 185 (Ve.arr (Tr.strTo CV CS CE k))∧Blk wr g7 185 (Ve.arr CS)∧Blk wr g8 185 (Ve.arr CE)∧Below W.heap.size W wr) (fun s10 _=>64-(intOf s10).toNat)
  case atStart=>
   exact⟨0,Nat.zero_le _,rfl,HG6.out.same fun i _=>Tr.str_start CV CS CE i,HG7.out,HG8.out,b5⟩
  case round=>
   obtain⟨k,hk,rfl,hC,hS,hE,hbw⟩:=hrel
   by_cases hlt:k<64
   ·have x0:=hC.arr_cell k hlt
    rw[Tr.str_here]at x0;have y0:=hS.arr_cell k hlt;have z0:=hE.arr_cell k hlt;have x1:=hC.free k;have hj0:(0:Int)≤(k:Int):=by omega
    have hj1:(k:Int)<64:=by omega
    obtain⟨c,hc⟩:∃c,CV k=c:=⟨_,rfl⟩;obtain⟨s,hs⟩:∃s,CS k=s:=⟨_,rfl⟩;obtain⟨e,he⟩:∃e,CE k=e:=⟨_,rfl⟩;have HSK:=Hd (show Tr.str CV CS CE k=if s≤c then (if c<e then e else c) else c from by unfold Tr.str;rw[hc,hs,he])
    have HCK:=Hd hc;rw[hc]at x0;rw[hs]at y0;rw[he]at z0;clear hc hs he
    by_cases t1:s≤c
    ·have d1:decide (s≤c)=true:=decide_eq_true t1
     by_cases t2:c<e
     ·have B6:=(hC.arr_put k hlt e).same (f':=Tr.strTo CV CS CE (k+1)) (fun i _=>Tr.str_step CV CS CE k (by rw[HSK.out,if_pos t1,if_pos t2]) i)
      have B7:=hS.far (p:=⟨g6,k,none⟩) (by show g7≠g6;exact n67.symm) (.int .i64 e)
      have B8:=hE.far (p:=⟨g6,k,none⟩) (by show g8≠g6;exact n68.symm) (.int .i64 e)
      have HB:=Hd (And.intro B6 (And.intro B7 B8));have HBZ:=Hd (hbw.setCell (p:=⟨g6,k,none⟩) (by show W.heap.size≤g6;exact l6) (.int .i64 e))
      clear hC hS hE B6 B7 B8 hbw;go_wp2_with fail
      go_region
      go_wp2_with fail
      go_region
      go_wp2_with fail
      go_roundw
      case rel=>exact⟨k+1,by omega,by go_num,HB.out.1,HB.out.2.1,HB.out.2.2,HBZ.out.drew.drew⟩
      case measure=>simp[intOf];omega
     ·have hle:e≤c:=by omega
      have B6:=(hC.arr_put k hlt c).same (f':=Tr.strTo CV CS CE (k+1)) (fun i _=>Tr.str_step CV CS CE k (by rw[HSK.out,if_pos t1,if_neg t2]) i)
      have B7:=hS.far (p:=⟨g6,k,none⟩) (by show g7≠g6;exact n67.symm) (.int .i64 c)
      have B8:=hE.far (p:=⟨g6,k,none⟩) (by show g8≠g6;exact n68.symm) (.int .i64 c)
      have HB:=Hd (And.intro B6 (And.intro B7 B8));have HBZ:=Hd (hbw.setCell (p:=⟨g6,k,none⟩) (by show W.heap.size≤g6;exact l6) (.int .i64 c))
      clear hC hS hE B6 B7 B8 hbw;go_wp2_with fail
      go_region
      go_wp2_with fail
      go_region
      go_wp2_with fail
      go_roundw
      case rel=>exact⟨k+1,by omega,by go_num,HB.out.1,HB.out.2.1,HB.out.2.2,HBZ.out.drew.drew⟩
      case measure=>simp[intOf];omega
    ·have d1:decide (s≤c)=false:=decide_eq_false t1
     have B6:=hC.same (f':=Tr.strTo CV CS CE (k+1)) (fun i _=>Tr.str_same CV CS CE k (by rw[HSK.out,if_neg t1,HCK.out]) i)
     have HB:=Hd (And.intro B6 (And.intro hS hE));have HBZ:=Hd hbw;clear hC hS hE B6 hbw;go_wp2_with fail
     go_region
     go_wp2_with fail
     go_roundw
     case rel=>exact⟨k+1,by omega,by go_num,HB.out.1.drew,HB.out.2.1.drew,HB.out.2.2.drew,HBZ.out.drew⟩
     case measure=>simp[intOf];omega
   ·have hkl:k=64:=by omega
    subst hkl;have HC:=Hd (hC.same (f':=Tr.str CV CS CE) (fun i hi=>Tr.str_end CV CS CE i hi))
    have HBW:=Hd hbw;clear hC hS hE hbw
    go_wp2_with (refine wpList_load_row rfl 185 _ rfl g6 rfl 185 _ (0,0) _ HC.out Tryz.underlying185 rfl (by rw[Ve.arr_size];exact info64) ?_)
    refine(of_any _ _).mono ?_;rintro e w3 ⟨v3,rfl,ho,hb3⟩;rw[HXX.out]at ho;obtain⟨X3,c3,rfl,hx3⟩:=OneL.of_own ho;have HO3:=Hd hx3;have B3:=Hd (below_on HBW.out hb3);have AT3:=Hd (AT.out w3 B3.out);have p3:=cell_later B3.out P3.out;clear ho hx3 hb3 AT;go_wp2_with fail;refine AT3.out.mono ?_;rintro e w4 ⟨rfl,b4⟩;unfold Nt.wrV;obtain⟨W5,hW5⟩:∃W5,w4.alloc (.cells #[.int .i64 wt.1,.int .i64 wt.2.1,.int .i64 wt.2.2.1,.bool wt.2.2.2] 52)=W5:=⟨_,rfl⟩;have b5':Below w4.heap.size w4 W5:=by rw[←hW5];exact below_new (Below.refl _ _) _
    have XB:Blk W5 w4.heap.size 52 #[.int .i64 wt.1,.int .i64 wt.2.1,.int .i64 wt.2.2.1,.bool wt.2.2.2]:=by rw[←hW5];exact Blk.new w4 _ _
    have B5:=Hd (below_on (below_on B3.out b4) b5');have HO5:=Hd ((HO3.out.later b4).later b5');have HXB:=Hd XB;have HHS:=Hd (rhas_any X3 c3 x wt.1 wt.2.1 W5 HO5.out.len HO5.out.stamps);obtain⟨hs,hhs⟩:∃hs,hasOf x wt.1 wt.2.1=hs:=⟨_,rfl⟩;rw[hhs]at HHS;have HHV:=Hd hhs;have x0:=XB.cell (i:=0) rfl;have x1:=XB.cell (i:=1) rfl;clear b4 b5' XB AT3 p3 hhs
    go_upto_region 9 with (fail)
    try rw[hW5]
    clear hW5;cases ok with
    |false=>
     have hRS:RS=x:=by rw[←HRS.out,if_neg (fun h=>by cases h.1)]
     subst hRS;clear HHS HHV;go_wp2;go_ret;exact⟨X3,c3,rfl,HO5.out,below_on HB0.out B5.out⟩
    |true=>
     go_wp2_with fail;refine HHS.out.mono ?_;rintro e w6 ⟨rfl,b6⟩;have B6:=Hd (below_on HB0.out (below_on B5.out b6));have HO6:=Hd (HO5.out.later b6);have HX6:=Hd (HX0.out.later (below_on B5.out b6));clear b6;cases hs with
     |false=>
      have hRS:RS=l:=by rw[←HRS.out,if_pos ⟨by first|rfl|trivial,HHV.out⟩]
      subst hRS;go_wp2;go_ret;exact⟨X,cx,rfl,HX6.out,B6.out⟩
     |true=>
      have hRS:RS=x:=by rw[←HRS.out,if_neg (fun h=>by rw[HHV.out]at h;cases h.2)]
      subst hRS;go_wp2;go_ret;exact⟨X3,c3,rfl,HO6.out,B6.out⟩
namespace Tr
theorem strd_len{v:List (Int × Int)}(h:v.length≤64)(n:Note)(o:Int):(strd v n o).length≤64:=by
 unfold strd
 split
 ·exact h
 ·exact Ve.ofL_len _
theorem sho_len{zs:List Zn}{known:List (Int × Int)}(h:fmd zs=true)(hk:Ve.fmd known=true)(n:Note)(o:Nat):(sho zs known n o).length≤64:=by
 have h1:=short (rch_fmd h hk (o:Int));unfold sho
 split
 ·exact h1
 ·exact strd_len h1 n _
theorem mkTo_len(f:Nat→Option (List (Int × Int))):∀k,(mkTo f k).length≤k
 |0=>Nat.le_refl _
 |k+1=>by
  have ih:=mkTo_len f k;cases hf:f k with
  |none=>rw[mkTo_none hf];omega
  |some v=>
   cases hg:goesOn (mkTo f k) k v with
   |true=>
    rw[mkTo_on hf hg];have:0<(mkTo f k).length:=by unfold goesOn at hg;exact(of_decide_eq_true hg).1
    rw[ext_len _ _ this];omega
   |false=>rw[mkTo_new hf hg,List.length_append];simp;omega
end Tr
theorem undZones:Tryz.prog.underlying 23=some (.slice 99):=by kernel_rfl
structure TkI (w wr:World) (g:Nat) (nc:Array Value) (bf:Nat→Bool) (v:Value) (M:List Zc):Prop where
 out:OwnZ wr (g+1) v M
 bl:Blk wr g 138 (Sp.arr bf)
 nb:Blk wr w.heap.size 40 nc
 low:Below w.heap.size w wr
 hn:w.heap.size<g
section
variable {w wr w1 w2:World} {g:Nat} {nc:Array Value} {bf:Nat→Bool} {v v2:Value} {M M0:List Zc}
theorem TkI.later(h:TkI w wr g nc bf v M)(hb:Below wr.heap.size wr w1):TkI w w1 g nc bf v M:=⟨h.out.later hb,h.bl.later hb,h.nb.later hb,below_on h.low hb,h.hn⟩
theorem TkI.push(h:TkI w wr g nc bf v M){z:Zc}(hz:wr.ownsRow (g+1) 46 2 (.slice z.X z.l.length z.c) z.l.length (stCells z.l))(hg:wr.grownBy w2 v.ownBlock)(hr:w2.ownsRow (g+1) 99 3 v2 (M.length+1) (zCells M++zCells [z])):TkI w w2 g nc bf v2 (M++[z]):=by
 have hge:=own_ge h.out.row;have hn:=h.hn;have hlt:=h.bl.lt;have low:∀k,k≤g→w2.heap[k]?=wr.heap[k]?:=fun k hk=>hg.block k (by omega) (fun e=>by have:=hge k e.symm;omega)
 exact⟨h.out.snoc hz hg hr,(low _ (Nat.le_refl _)).trans h.bl,(low _ (by omega)).trans h.nb,h.low.grown hg h.low.size (fun k hk=>by have:=hge k hk;omega),h.hn⟩
theorem zCells_set(M0:List Zc)(z:Zc)(x:Int):(zCells (M0++[z])).set (M0.length*3+1) (.int .i64 x)=zCells (M0++[{ z with hi:=x }]):=by
 rw[zCells_append,zCells_append,List.set_append_right _ _ (by rw[zCells_length];omega),zCells_length,Nat.add_sub_cancel_left]
 rfl
theorem TkI.ext{A cap n:Nat}{z:Zc}(h:TkI w wr g nc bf (.slice (some ⟨A,0,none⟩) n cap) (M0++[z]))(hn:n=(M0++[z]).length)(x:Int):TkI w (wr.setCell ⟨A,M0.length*3+1,none⟩ (.int .i64 x)) g nc bf (.slice (some ⟨A,0,none⟩) n cap) (M0++[{ z with hi:=x }]):=by
 subst hn;have hrow:=h.out.row;have hge:g+1≤A:=(own_base_le hrow).1;have hput:=own_put hrow (M0.length*3+1) (.int .i64 x);rw[zCells_set]at hput;have hlen:(M0++[{ z with hi:=x }]).length=(M0++[z]).length:=by simp
 have hn:=h.hn
 have keep:∀y:Zc,wr.ownsRow (g+1) 46 2 (.slice y.X y.l.length y.c) y.l.length (stCells y.l)→(wr.setCell ⟨A,M0.length*3+1,none⟩ (.int .i64 x)).ownsRow (g+1) 46 2 (.slice y.X y.l.length y.c) y.l.length (stCells y.l):=fun y hy=>
  own_stays hy (fun k hk=>Below.heap_setCell _ _ _ _ (fun e=>own_apart hy hrow (by decide) k hk (by rw[e];rfl)))
 refine⟨⟨by rw[hlen];exact hput,fun y hy =>?_⟩,h.bl.far (p:=⟨A,M0.length*3+1,none⟩) (by show g≠A;omega) _,h.nb.far (p:=⟨A,M0.length*3+1,none⟩) (by show w.heap.size≠A;omega) _,h.low.setCell (by show w.heap.size≤A;omega) _,h.hn⟩
 rcases List.mem_append.1 hy with hy|hy
 ·exact keep y (h.out.each y (List.mem_append.2 (.inl hy)))
 ·rw[List.mem_singleton]at hy
  subst hy;exact keep { z with hi:=x } (h.out.each z (List.mem_append.2 (.inr (List.mem_singleton.2 rfl))))
end
theorem now_one{w:World}{base:Nat}{A:Option Addr}{c:Nat}{l:List (Int × Int)}(h:w.ownsRow base 46 2 (.slice A l.length c) l.length (stCells l)):OneL w A c l:=by
 obtain⟨X,cx,e1,e2⟩:=OneL.of_own h;injection e1 with e3 _ e4
 subst e3 e4;exact e2
theorem ztake_any(A B S E Bl V:Option Addr)(c cb cs ce cl cv:Nat)(L:List Zc)(kn:List (Int × Int))(n:Note)(w:World)(h:OneZ w A c L)(hk:OneL w B cb kn)(hN:NoteAt w S E Bl V cs ce cl cv n) :
  Calls Tryz.prog 70 #[.slice A L.length c,.slice B kn.length cb,.agg (noteCells S E Bl V cs ce cl cv n)] w (GivesT (Tr.tkR (L.map Zc.zn) kn n) w):=by
 obtain⟨W,hW⟩:∃W,w.alloc (.cells (noteCells S E Bl V cs ce cl cv n) 40)=W:=⟨_,rfl⟩;have hb0:Below w.heap.size w W:=by rw[←hW];exact below_new (Below.refl _ _) _
 have hB0:Blk W w.heap.size 40 (noteCells S E Bl V cs ce cl cv n):=by rw[←hW];exact Blk.new w _ _
 have HZ:=Hd h;have HK:=Hd hk;have HN:=Hd hN;have HW:=Hd hW;have HB0:=Hd hb0;have HNB:=Hd hB0;have ZF:=Hd (zformed_any A c L W (h.later hb0));have KF:=Hd (fun wx (hb:Below w.heap.size w wx)=>rformed_any B cb kn wx (HK.out.later hb).len (HK.out.later hb).stamps)
 have NF:=Hd (fun wx (hb:Below w.heap.size w wx)=>nformed_any S E Bl V cs ce cl cv n wx (HN.out.later hb))
 have FT:=Hd (fun wx (hb:Below w.heap.size w wx)=>nfits_any S E Bl V B cs ce cl cv cb n kn wx (HN.out.later hb) (HK.out.later hb))
 obtain⟨zf,hzf⟩:∃x,Tr.fmd (L.map Zc.zn)=x:=⟨_,rfl⟩;obtain⟨kf,hkf⟩:∃x,Ve.fmd kn=x:=⟨_,rfl⟩;obtain⟨nf,hnf⟩:∃x,Nt.fmd n=x:=⟨_,rfl⟩;obtain⟨ft,hft⟩:∃x,Ve.cov (Ve.cnt kn) (Ve.cnt n.s)=x:=⟨_,rfl⟩;rw[hzf]at ZF;rw[hkf]at KF;rw[hnf]at NF;rw[hft]at FT
 have hR:Tr.tkR (L.map Zc.zn) kn n=if zf=true∧kf=true∧nf=true then (if ft=true then (Tr.mkTo (Tr.zof (L.map Zc.zn) kn n) 256,Ve.joinL [kn,n.e],0) else ([],[],3)) else ([],[],1):=by
  unfold Tr.tkR;rw[hzf,hkf,hnf,hft]
 have HZF:=Hd hzf;have HKF:=Hd hkf;clear h hk hN hW hb0 hB0 hzf hkf hnf hft;cases zf with
 |false=>
  rw[if_neg (fun h=>by cases h.1)]at hR
  rw[hR];clear hR
  go_enter Tryz.func70,Tryz.ntmps70
  go_wp2_with fail;rw[HW.out];refine ZF.out.mono ?_;rintro e w1 ⟨rfl,b1⟩;have B1:=Hd (below_on HB0.out b1);have N1:=Hd (HNB.out.later b1);clear b1;have FIN:=Hd (GivesT.err 1 B1.out);go_wp2;exact bodyPost_ret (v :=.tuple #[.slice none 0 0,.slice none 0 0,.int .i64 1]) (by simp[results,Tryz.results70,go_sem]) rfl FIN.out
 |true=>
 cases kf with
 |false=>
  rw[if_neg (fun h=>by cases h.2.1)]at hR
  rw[hR];clear hR
  go_enter Tryz.func70,Tryz.ntmps70
  go_wp2_with fail;rw[HW.out];refine ZF.out.mono ?_;rintro e w1 ⟨rfl,b1⟩;have B1:=Hd (below_on HB0.out b1);have N1:=Hd (HNB.out.later b1);clear b1;have KF1:=Hd (KF.out w1 B1.out);go_wp2_with fail;refine KF1.out.mono ?_;rintro e w2 ⟨rfl,b2⟩;have B2:=Hd (below_on B1.out b2);have N2:=Hd (N1.out.later b2);clear b2 KF1;have FIN:=Hd (GivesT.err 1 B2.out);go_wp2;exact bodyPost_ret (v :=.tuple #[.slice none 0 0,.slice none 0 0,.int .i64 1]) (by simp[results,Tryz.results70,go_sem]) rfl FIN.out
 |true=>
 cases nf with
 |false=>
  rw[if_neg (fun h=>by cases h.2.2)]at hR
  rw[hR];clear hR
  go_enter Tryz.func70,Tryz.ntmps70
  go_wp2_with fail;rw[HW.out];refine ZF.out.mono ?_;rintro e w1 ⟨rfl,b1⟩;have B1:=Hd (below_on HB0.out b1);have N1:=Hd (HNB.out.later b1);clear b1;have KF1:=Hd (KF.out w1 B1.out);go_wp2_with fail;refine KF1.out.mono ?_;rintro e w2 ⟨rfl,b2⟩;have B2:=Hd (below_on B1.out b2);have N2:=Hd (N1.out.later b2);clear b2 KF1;have NF2:=Hd (NF.out w2 B2.out);obtain⟨c0,c1,c2,c3⟩:=note_cells N2.out;go_wp2_with fail;refine NF2.out.mono ?_;rintro e w3 ⟨rfl,b3⟩;have B3:=Hd (below_on B2.out b3);have N3:=Hd (N2.out.later b3);clear b3 NF2 c0 c1 c2 c3;have FIN:=Hd (GivesT.err 1 B3.out);go_wp2;exact bodyPost_ret (v :=.tuple #[.slice none 0 0,.slice none 0 0,.int .i64 1]) (by simp[results,Tryz.results70,go_sem]) rfl FIN.out
 |true=>
 rw[if_pos ⟨rfl,rfl,rfl⟩]at hR;cases ft with
 |false=>
  rw[if_neg Bool.false_ne_true]at hR;rw[hR];clear hR
  go_enter Tryz.func70,Tryz.ntmps70
  go_wp2_with fail;rw[HW.out];refine ZF.out.mono ?_;rintro e w1 ⟨rfl,b1⟩;have B1:=Hd (below_on HB0.out b1);have N1:=Hd (HNB.out.later b1);clear b1;have KF1:=Hd (KF.out w1 B1.out);go_wp2_with fail;refine KF1.out.mono ?_;rintro e w2 ⟨rfl,b2⟩;have B2:=Hd (below_on B1.out b2);have N2:=Hd (N1.out.later b2);clear b2 KF1;have NF2:=Hd (NF.out w2 B2.out);obtain⟨c0,c1,c2,c3⟩:=note_cells N2.out;go_wp2_with fail;refine NF2.out.mono ?_;rintro e w3 ⟨rfl,b3⟩;have B3:=Hd (below_on B2.out b3);have N3:=Hd (N2.out.later b3);clear b3 NF2 c0 c1 c2 c3;have FT3:=Hd (FT.out w3 B3.out);obtain⟨c0,c1,c2,c3⟩:=note_cells N3.out;go_wp2_with fail;refine FT3.out.mono ?_;rintro e w4 ⟨rfl,b4⟩;have B4:=Hd (below_on B3.out b4);have N4:=Hd (N3.out.later b4);clear b4 FT3 c0 c1 c2 c3;have FIN:=Hd (GivesT.err 3 B4.out);go_wp2;exact bodyPost_ret (v :=.tuple #[.slice none 0 0,.slice none 0 0,.int .i64 3]) (by simp[results,Tryz.results70,go_sem]) rfl FIN.out
 |true=>
  rw[if_pos rfl]at hR;obtain⟨NOW,hNOW⟩:∃x,Ve.joinL [kn,n.e]=x:=⟨_,rfl⟩;obtain⟨ZO,hZO⟩:∃x,Tr.mkTo (Tr.zof (L.map Zc.zn) kn n) 256=x:=⟨_,rfl⟩;rw[hR,hNOW,hZO];have HNOW:=Hd hNOW;have HZO:=Hd hZO;obtain⟨i0,hI,hz0,hz1,hz2⟩:=info_parts infoZn;clear hR hNOW hZO
  go_enter Tryz.func70,Tryz.ntmps70
  go_wp2_with fail;rw[HW.out];refine ZF.out.mono ?_;rintro e w1 ⟨rfl,b1⟩;have B1:=Hd (below_on HB0.out b1);have N1:=Hd (HNB.out.later b1);clear b1;have KF1:=Hd (KF.out w1 B1.out);go_wp2_with fail;refine KF1.out.mono ?_;rintro e w2 ⟨rfl,b2⟩;have B2:=Hd (below_on B1.out b2);have N2:=Hd (N1.out.later b2);clear b2 KF1;have NF2:=Hd (NF.out w2 B2.out);obtain⟨c0,c1,c2,c3⟩:=note_cells N2.out;go_wp2_with fail;refine NF2.out.mono ?_;rintro e w3 ⟨rfl,b3⟩;have B3:=Hd (below_on B2.out b3);have N3:=Hd (N2.out.later b3);clear b3 NF2 c0 c1 c2 c3;have FT3:=Hd (FT.out w3 B3.out);obtain⟨c0,c1,c2,c3⟩:=note_cells N3.out;go_wp2_with fail;refine FT3.out.mono ?_;rintro e w4 ⟨rfl,b4⟩;have B4:=Hd (below_on B3.out b4);have N4:=Hd (N3.out.later b4);clear b4 FT3 c0 c1 c2 c3;have TW:=rtwo_any B E cb ce kn n.e w4 (HK.out.later B4.out) (HN.out.he.later B4.out);rw[HNOW.out]at TW;have TT:=Hd TW;have SE:=Hd (fun wx (hb:Below w.heap.size w wx)=>set_any Bl cl n.b wx (HN.out.hb.later hb).len (HN.out.hb.later hb).stamps)
  have c1:=N4.out.cell (i:=1) rfl;clear TW;go_wp2_with fail;refine TT.out.mono ?_;rintro e w5 ⟨v5,rfl,ho5,b5⟩;have hnow:=own_base ho5 B4.out.size;obtain⟨NA,na,rfl,-,-,-,-⟩:=own_form hnow;have B5:=Hd (below_on B4.out b5);have N5:=Hd (N4.out.later b5);have HNW:=Hd hnow;have SE5:=Hd (SE.out w5 B5.out);have c2:=N5.out.cell (i:=2) rfl;clear ho5 b5 hnow c1 TT SE;go_wp2_with fail;refine SE5.out.mono ?_;rintro e w6 ⟨rfl,b6⟩;have hS0:=Blk.new w6 138 (Sp.arr fun _=>false)
  rw[←marks_zero]at hS0;have bs:=below_setRow (below_new (Below.refl w6.heap.size w6) (.cells Tryz.zeroCells138 138)) (Nat.le_refl _) (Sp.arr (Sp.inL n.b));have TK:=Hd (⟨OwnZ.nil _ _,hS0.row (Sp.arr (Sp.inL n.b)),(N5.out.later b6).later bs,below_on (below_on B5.out b6) bs,(N5.out.later b6).lt⟩:TkI w ((w6.alloc (.cells Tryz.zeroCells138 138)).setRow w6.heap.size (Sp.arr (Sp.inL n.b))) w6.heap.size (noteCells S E Bl V cs ce cl cv n) (Sp.inL n.b) (.slice none 0 0) []);have HNW7:=Hd (own_later (own_later HNW.out b6) bs);clear b6 bs c2 SE5 N5 B5 HNW
  go_wp2_with (refine wpList_store_row rfl 138 _ _ rfl w6.heap.size (Sp.arr (Sp.inL n.b)) rfl rfl 138 Tryz.zeroCells138 hS0 (by rw[Sp.arr_size];exact info256) (by rw[marks_zero,Sp.arr_size,Sp.arr_size]) (one_marks _) ?_)
  obtain⟨W7,hW7⟩:∃W7,(w6.alloc (.cells Tryz.zeroCells138 138)).setRow w6.heap.size (Sp.arr (Sp.inL n.b))=W7:=⟨_,rfl⟩;obtain⟨g,hg⟩:∃g,w6.heap.size=g:=⟨_,rfl⟩;rw[hW7]at TK HNW7 ⊢;rw[hg]at TK ⊢;clear hW7 hS0 hg
  go_loopg [11,12] 256 (fun gk s11 s12 wr=>∃(k:Nat) (M:List Zc),k≤256∧gk=256-k∧s12 = .int .i64 (k:Int)∧TkI w wr g (noteCells S E Bl V cs ce cl cv n) (Sp.inL n.b) s11 M∧M.map Zc.zn=Tr.mkTo (Tr.zof (L.map Zc.zn) kn n) k∧wr.ownsRow w.heap.size 46 2 (.slice NA NOW.length na) NOW.length (stCells NOW))
  case atStart=>exact⟨0,[],Nat.zero_le _,rfl,rfl,TK.out,rfl,HNW7.out⟩
  case round=>
   obtain⟨k,M,hk,rfl,rfl,hT,hM,hNW⟩:=hrel;obtain⟨VA,vc,hvv,-,hvm,hvn,-⟩:=own_form hT.out.row;subst hvv;unfold maxLen at hvm;have HT:=Hd hT;have HM:=Hd hM;have HNX:=Hd hNW
   have HMl:=Hd (show M.length≤k from by
    have h1:=congrArg List.length hM;have h2:=Tr.mkTo_len (Tr.zof (L.map Zc.zn) kn n) k;rw[List.length_map]at h1;omega)
   clear TK HNW7 hM hNW
   by_cases hlt:k<256
   ·have hd:decide ((k:Int)<256)=true:=decide_eq_true (by omega)
    have hi0:(0:Int)≤(k:Int):=by omega
    have hi1:(k:Int)<256:=by omega
    obtain⟨vl,hvl⟩:∃vl,Tr.rch (L.map Zc.zn) kn (k:Int)=vl:=⟨_,rfl⟩;have HVL:=Hd hvl;clear hvl hT;obtain⟨r,hr⟩:∃r,Tr.atI (L.map Zc.zn) (k:Int)=r:=⟨_,rfl⟩;have ZA:=zat_any A c L (k:Int) wr (HZ.out.later HT.out.low);rw[hr]at ZA;have NA_:=Hd ZA;have HRR:=Hd hr;clear hr ZA;go_wp2_with fail;refine NA_.out.mono ?_;rintro e w8 ⟨rfl,b8⟩;have HT8:=Hd (HT.out.later b8);have HNX8:=Hd (own_later HNX.out b8);clear b8 NA_ HT HNX
    go_upto_if 49 with (fail)
    go_cut [13] (fun s13 wx=>∃X cx,s13 = .slice X vl.length cx∧OneL wx X cx vl∧Below w8.heap.size w8 wx)
    case first=>
     rcases Tr.at_ways (L.map Zc.zn) (k:Int) with ⟨h1,h2,-⟩|⟨j,h0,h1,h2,-,-⟩
     ·have hv:vl=kn:=by rw[←HVL.out];unfold Tr.rch;rw[h2];rfl
      have dr:decide ((0:Int)≤r)=false:=by rw[←HRR.out,h1];rfl
      have HV:=Hd hv;have HX8:=Hd (HK.out.later HT8.out.low);clear h1 h2 hv;rw[dr];go_wp2_with fail
      go_meet
      exact⟨B,cb,by rw[HV.out],by rw[HV.out];exact HX8.out,Below.refl _ _⟩
     ·rw[List.length_map]at h0
      obtain⟨x,hx⟩:∃x,L[j]?=some x:=⟨L[j],List.getElem?_eq_getElem h0⟩;have hg:=zn_getD hx;rw[hg]at h2;have hv:vl=x.l:=by rw[←HVL.out];unfold Tr.rch;rw[h2];rfl
      have hr:r=(j:Int):=by rw[←HRR.out,h1]
      subst hr;have HV:=Hd hv;obtain⟨b,off,hA,hc⟩:=HZ.out.at (fun e=>by subst e;simp at h0)
      obtain⟨-,-,e2⟩:=hc j x hx;subst hA;have e2:=cell_later HT8.out.low e2;have HX8:=Hd ((HZ.out.one hx).later HT8.out.low);have hj0:(0:Int)≤(j:Int):=by omega
      have hj1:(j:Int)<(L.length:Int):=by omega
      have dj:decide ((0:Int)≤(j:Int))=true:=decide_eq_true hj0;clear h1 h2 hv hc hx hg;rw[dj];go_wp2_with fail
      go_meet
      exact⟨x.X,x.c,by rw[HV.out],by rw[HV.out];exact HX8.out,Below.refl _ _⟩
    case rest=>
     obtain⟨X,cx,rfl,hX,hbw⟩:=hcut;have HX:=Hd hX;have HT8:=Hd (HT8.out.later hbw);have HNX8:=Hd (own_later HNX8.out hbw);clear hbw;obtain⟨w9,hw9⟩:∃w9,wc=w9:=⟨_,rfl⟩;subst hw9;obtain⟨sh,hsh⟩:∃sh,Tr.sho (L.map Zc.zn) kn n k=sh:=⟨_,rfl⟩;have HSH:=Hd hsh;have HSL:=Hd (show sh.length≤64 from by rw[←hsh];exact Tr.sho_len HZF.out HKF.out n k)
     have x1:=HT8.out.bl.marks_cell k hlt;obtain⟨m,hmm⟩:∃m,Sp.inL n.b k=m:=⟨_,rfl⟩;rw[hmm]at x1;have HMM:=Hd hmm;clear hX hsh hmm
     go_upto_if 58 with (fail)
     go_cut [13] (fun s13 wx=>∃X cx,s13 = .slice X sh.length cx∧OneL wx X cx sh∧Below wc.heap.size wc wx)
     case first=>
      have hmm:=HMM.out;cases m with
      |true=>
       have hv:sh=vl:=by rw[←HSH.out];unfold Tr.sho;rw[if_pos hmm,HVL.out]
       have HV:=Hd hv;clear hmm hv
       try simp only[Bool.not_true]
       go_wp2_with fail
       go_meet
       exact⟨X,cx,by rw[HV.out],by rw[HV.out];exact HX.out,Below.refl _ _⟩
      |false=>
       have hv:Tr.strd vl n (k:Int)=sh:=by rw[←HSH.out];unfold Tr.sho;rw[if_neg (by rw[hmm];exact Bool.false_ne_true),HVL.out]
       have ST:=zstretched_any X S E Bl V cx cs ce cl cv vl n (k:Int) wc HX.out (HN.out.later HT8.out.low);rw[hv]at ST;have NS:=Hd ST;obtain⟨c0,c1,c2,c3⟩:=note_cells HT8.out.nb;clear hmm hv ST
       try simp only[Bool.not_false]
       go_wp2_with fail;refine NS.out.mono ?_;rintro e w8 ⟨Y,cy,rfl,hy,b8⟩;have HY:=Hd hy;have B8:=Hd b8;clear hy b8 c0 c1 c2 c3 x1;go_wp2_with fail
       go_meet
       exact⟨Y,cy,by first|rfl|simp,HY.out,B8.out⟩
     case rest=>
      obtain⟨Y,cy,rfl,hy,hbw⟩:=hcut;have HY:=Hd hy;have HD:=Hd (HT8.out.later hbw);have HND:=Hd (own_later HNX8.out hbw);have HY:=Hd hy;have HD:=Hd (HT8.out.later hbw);have HND:=Hd (own_later HNX8.out hbw);have hno:=now_one HND.out;have RC:=rcovers_any Y NA cy na sh NOW wc hy.len hno.len hy.stamps hno.stamps;obtain⟨cvb,hcvb⟩:∃x,Ve.cov (Ve.cnt sh) (Ve.cnt NOW)=x:=⟨_,rfl⟩;rw[hcvb]at RC;have NRC:=Hd RC;have HZF2:=Hd (show Tr.zof (L.map Zc.zn) kn n k=if cvb=true then none else some sh from by unfold Tr.zof;rw[HSH.out,HNOW.out,hcvb])
      obtain⟨ml,hml⟩:∃x,M.length=x:=⟨_,rfl⟩;rw[hml];rw[hml]at hvn;have HLEN:=Hd hml;have HML:=Hd (show ml≤k from by rw[←hml];exact HMl.out)
      clear hy hbw RC hcvb hml HT8 HNX8 hno;go_wp2_with fail;refine NRC.out.mono ?_;rintro e w9 ⟨rfl,b9⟩;have HD9:=Hd (HD.out.later b9);have HND9:=Hd (own_later HND.out b9);have HY9:=Hd (HY.out.later b9);clear b9 NRC HD HND HY;cases cvb with
      |true=>
       have hT1:=Hd (show M.map Zc.zn=Tr.mkTo (Tr.zof (L.map Zc.zn) kn n) (k+1) from by rw[Tr.mkTo_none (by rw[HZF2.out];rfl)];exact HM.out)
       go_wp2_with fail
       go_roundg (256-(k+1))
       case measure=>omega
       case rel=>exact⟨k+1,M,by omega,rfl,by first|rfl|go_num,(by rw[←HLEN.out];exact HD9.out),hT1.out,HND9.out⟩
      |false=>
       have hzo:Tr.zof (L.map Zc.zn) kn n k=some sh:=by rw[HZF2.out];rfl
       have HZS:=Hd hzo;clear hzo;rcases List.eq_nil_or_concat M with hMn|⟨M0,z,hMn⟩
       ·subst hMn
        have h0:ml=0:=by rw[←HLEN.out];rfl
        subst h0
        have HNW:=Hd (show Tr.mkTo (Tr.zof (L.map Zc.zn) kn n) (k+1)=([]:List Zc).map Zc.zn++[((k:Int),(k:Int),sh)] from by
         rw[HM.out];exact Tr.mkTo_new HZS.out (by rw[←HM.out];exact Tr.goes_nil k sh))
        have CP:=Hd (rcopy_any Y cy sh w9 (by have:=HSL.out;omega) HY9.out.2.2.1 HY9.out.2.2.2)
        have HGW:=Hd (show g+1≤w9.heap.size from HD9.out.bl.lt);go_wp2_with fail;refine CP.out.mono ?_;rintro e w11 ⟨v11,rfl,ho,b11⟩;have ho:=own_base ho HGW.out;obtain⟨X11,c11,rfl,-,-,-,-⟩:=own_form ho;have b12:=below_new (Below.refl w11.heap.size w11) (.cells #[.int .i64 (k:Int),.int .i64 (k:Int),.slice X11 sh.length c11] 99);have HD12:=Hd ((HD9.out.later b11).later b12);have HO12:=Hd (own_later ho b12);have HND12:=Hd (own_later (own_later HND9.out b11) b12);have YB:=Hd (Blk.new w11 99 #[.int .i64 (k:Int),.int .i64 (k:Int),.slice X11 sh.length c11]);have hown:=HD12.out.out.row;rw[HLEN.out]at hown;have hs12:g+1≤(w11.alloc (.cells #[.int .i64 (k:Int),.int .i64 (k:Int),.slice X11 sh.length c11] 99)).heap.size:=HD12.out.bl.lt
        have hy12:Lies (w11.alloc (.cells #[.int .i64 (k:Int),.int .i64 (k:Int),.slice X11 sh.length c11] 99)) (some ⟨w11.heap.size,0,none⟩) [.int .i64 (k:Int),.int .i64 (k:Int),.slice X11 sh.length c11]:=fun _=>⟨w11.heap.size,0,rfl,fun j u hu=>by
         rw[Nat.zero_add];exact YB.out.cell (by simpa using hu)⟩
        have hml:=HML.out;clear ho b11 b12 CP
        go_wp2_with (at_builtin;refine Go.Proofs.YtjlfehpockfkdaaGreat.wpList_append_lies _ rfl _ _ 23 rfl (g+1) 99 i0 (.agg #[.int .i64 0,.int .i64 0,.slice none 0 0]) 3 40 undZones hI hz0 hz1 hz2 rfl (by decide) (.slice VA 0 vc) 0 (zCells []) rfl hown (some ⟨w11.heap.size,0,none⟩) 1 1 (fun h=>by cases h) [.int .i64 (k:Int),.int .i64 (k:Int),.slice X11 sh.length c11] rfl rfl hy12 (by intro u hu;simp at hu;rcases hu with rfl|rfl<;>rfl) ?d3 ?d4 ?d5 ?_)
        case d3=>unfold maxLen;omega
        case d4=>omega
        case d5=>exact hs12
        intro v13 w13 ho13 hg13 _;have hsn:=Hd (HD12.out.push (z:=⟨(k:Int),(k:Int),X11,c11,sh⟩) HO12.out hg13 (by rw[HLEN.out];exact ho13))
        have hnw:=Hd (own_stays HND12.out (fun q hq=>hg13.block q (own_lt HND12.out q hq) (own_apart HND12.out hown (by decide) q hq)))
        clear ho13 hg13 hown hy12 hs12 hml;go_wp2_with fail
        go_roundg (256-(k+1))
        case measure=>omega
        case rel=>exact⟨k+1,_,by omega,rfl,by first|rfl|go_num,hsn.out,by rw[List.map_append];exact HNW.out.symm,hnw.out⟩
       ·rw[List.concat_eq_append]at hMn
        obtain⟨m,hm⟩:∃m,M0.length=m:=⟨_,rfl⟩;have hlm:ml=m+1:=by rw[←HLEN.out,hMn,List.length_append,hm];rfl
        subst hlm;have hrow:=HD9.out.out.row;obtain⟨gA,cap,hgv⟩:=own_len hrow (by rw[HLEN.out];omega)
        injection hgv with hg1 _ hg2
        subst hg1 hg2;have hz:=zCells_get M m z (by rw[hMn,←hm,List.getElem?_concat_length])
        have z1:=own_cell_at (n:=m+1) (by rw[HLEN.out]at hrow;exact hrow) hz.2.1
        have z2:=own_cell_at (n:=m+1) (by rw[HLEN.out]at hrow;exact hrow) hz.2.2
        have zf:=own_free_at (n:=m+1) (by rw[HLEN.out]at hrow;exact hrow) (m*3+1)
        have hzo:=now_one (HD9.out.out.each z (by rw[hMn];exact List.mem_append.2 (.inr (List.mem_singleton.2 rfl))))
        obtain⟨zlo,zhi,ZX,zc,zl⟩:=z;dsimp only at z1 z2 hzo;have HMN:=Hd hMn;have HM0:=Hd hm;have hgo:Tr.goesOn (M.map Zc.zn) k sh=decide (zhi=(k:Int)-1∧zl=sh):=by rw[hMn,List.map_append];exact Tr.goes_snoc _ _ _ _
        have HGO:=Hd hgo;have HZO9:=Hd hzo;have m0:(0:Int)≤(m:Int):=by omega
        have m1:(m:Int)<((m+1:Nat):Int):=by omega
        have mz:((m+1:Nat):Int)-1=(m:Int):=by omega
        have hmb:m+1≤257:=by have:=HML.out;omega
        have dg:decide ((0:Int)<((m+1:Nat):Int))=true:=decide_eq_true (by omega)
        have kw:IntKind.i64.wrap ((k:Int)-1)=(k:Int)-1:=IntWalk.i64_in _ (by omega)
        clear hMn hm hrow hz hzo hgo
        by_cases t5:zhi=(k:Int)-1
        ·obtain⟨sm,hsm⟩:∃x,decide (zl=sh)=x:=⟨_,rfl⟩
         have SM:=Hd (show Calls Tryz.prog 18 #[.slice ZX zl.length zc,.slice Y sh.length cy] w9 (fun e w'=>e = .returned (.bool sm)∧Below w9.heap.size w9 w') from by
          rw[←hsm];exact rsame_any ZX Y zc cy zl sh w9 HZO9.out.len HZO9.out.stamps HY9.out.stamps)
         have HSM:=Hd hsm;have HT5:=Hd t5;clear hsm;subst t5;go_wp2_with fail;refine SM.out.mono ?_;rintro e w10 ⟨rfl,b10⟩;have HD10:=Hd (HD9.out.later b10);have HND10:=Hd (own_later HND9.out b10);have HY10:=Hd (HY9.out.later b10);have z1:=cell_later b10 z1;have zf:=own_free_at (n:=m+1) (by have h:=HD10.out.out.row;rw[HLEN.out]at h;exact h) (m*3+1)
         clear b10 SM;cases sm with
         |true=>
          have hx:=HD10.out;rw[HLEN.out]at hx;have hx2:=TkI.ext (M0:=M0) (z:=⟨zlo,(k:Int)-1,ZX,zc,zl⟩) (by rw[←HMN.out];exact hx) (show m+1=_ from by rw[←HMN.out,HLEN.out]) (k:Int)
          rw[HM0.out]at hx2;have HXT:=Hd hx2
          have HNW:=Hd (show(M0++[(⟨zlo,(k:Int),ZX,zc,zl⟩:Zc)]).map Zc.zn=Tr.mkTo (Tr.zof (L.map Zc.zn) kn n) (k+1) from by
           rw[Tr.mkTo_on HZS.out (by rw[←HM.out,HGO.out];exact decide_eq_true ⟨by first|rfl|trivial,of_decide_eq_true HSM.out⟩),←HM.out,HMN.out,List.map_append,List.map_append]
           exact(Tr.ext_snoc (M0.map Zc.zn) (zlo,(k:Int)-1,zl) k).symm)
          have hnw:=Hd (own_stays (w':=w10.setCell ⟨gA,m*3+1,none⟩ (.int .i64 (k:Int))) HND10.out (fun q hq=>Below.heap_setCell _ _ _ _ (fun e=>own_apart HND10.out hx.out.row (by decide) q hq (by rw[e];rfl))))
          clear hx hx2;go_wp2_with fail
          go_roundg (256-(k+1))
          case measure=>omega
          case rel=>exact⟨k+1,_,by omega,rfl,by first|rfl|go_num,HXT.out,HNW.out,hnw.out⟩
         |false=>
          have HNW:=Hd (show Tr.mkTo (Tr.zof (L.map Zc.zn) kn n) (k+1)=M.map Zc.zn++[((k:Int),(k:Int),sh)] from by
           rw[HM.out];exact Tr.mkTo_new HZS.out (by rw[←HM.out,HGO.out];exact decide_eq_false (fun h=>of_decide_eq_false HSM.out h.2)))
          have CP:=Hd (rcopy_any Y cy sh w10 (by have:=HSL.out;omega) HY10.out.2.2.1 HY10.out.2.2.2)
          have HGW:=Hd (show g+1≤w10.heap.size from HD10.out.bl.lt);go_wp2_with fail;refine CP.out.mono ?_;rintro e w11 ⟨v11,rfl,ho,b11⟩;have ho:=own_base ho HGW.out;obtain⟨X11,c11,rfl,-,-,-,-⟩:=own_form ho;have b12:=below_new (Below.refl w11.heap.size w11) (.cells #[.int .i64 (k:Int),.int .i64 (k:Int),.slice X11 sh.length c11] 99);have HD12:=Hd ((HD10.out.later b11).later b12);have HO12:=Hd (own_later ho b12);have HND12:=Hd (own_later (own_later HND10.out b11) b12);have YB:=Hd (Blk.new w11 99 #[.int .i64 (k:Int),.int .i64 (k:Int),.slice X11 sh.length c11]);have hown:=HD12.out.out.row;rw[HLEN.out]at hown;have hs12:g+1≤(w11.alloc (.cells #[.int .i64 (k:Int),.int .i64 (k:Int),.slice X11 sh.length c11] 99)).heap.size:=HD12.out.bl.lt
          have hy12:Lies (w11.alloc (.cells #[.int .i64 (k:Int),.int .i64 (k:Int),.slice X11 sh.length c11] 99)) (some ⟨w11.heap.size,0,none⟩) [.int .i64 (k:Int),.int .i64 (k:Int),.slice X11 sh.length c11]:=fun _=>⟨w11.heap.size,0,rfl,fun j u hu=>by
           rw[Nat.zero_add];exact YB.out.cell (by simpa using hu)⟩
          have hml:=HML.out;clear ho b11 b12 CP
          go_wp2_with (at_builtin;refine Go.Proofs.YtjlfehpockfkdaaGreat.wpList_append_lies _ rfl _ _ 23 rfl (g+1) 99 i0 (.agg #[.int .i64 0,.int .i64 0,.slice none 0 0]) 3 40 undZones hI hz0 hz1 hz2 rfl (by decide) (.slice (some ⟨gA,0,none⟩) (m+1) vc) (m+1) (zCells M) rfl hown (some ⟨w11.heap.size,0,none⟩) 1 1 (fun h=>by cases h) [.int .i64 (k:Int),.int .i64 (k:Int),.slice X11 sh.length c11] rfl rfl hy12 (by intro u hu;simp at hu;rcases hu with rfl|rfl<;>rfl) ?d3 ?d4 ?d5 ?_)
          case d3=>unfold maxLen;omega
          case d4=>omega
          case d5=>exact hs12
          intro v13 w13 ho13 hg13 _;have hsn:=Hd (HD12.out.push (z:=⟨(k:Int),(k:Int),X11,c11,sh⟩) HO12.out hg13 (by rw[HLEN.out];exact ho13))
          have hnw:=Hd (own_stays HND12.out (fun q hq=>hg13.block q (own_lt HND12.out q hq) (own_apart HND12.out hown (by decide) q hq)))
          clear ho13 hg13 hown hy12 hs12 hml;go_wp2_with fail
          go_roundg (256-(k+1))
          case measure=>omega
          case rel=>exact⟨k+1,_,by omega,rfl,by first|rfl|go_num,hsn.out,by rw[List.map_append];exact HNW.out.symm,hnw.out⟩
        ·have d5:(zhi == (k:Int)-1)=false:=by rw[beq_eq_false_iff_ne];exact t5
         have d5':decide (zhi=(k:Int)-1)=false:=decide_eq_false t5
         have HNW:=Hd (show Tr.mkTo (Tr.zof (L.map Zc.zn) kn n) (k+1)=M.map Zc.zn++[((k:Int),(k:Int),sh)] from by
          rw[HM.out];exact Tr.mkTo_new HZS.out (by rw[←HM.out,HGO.out];exact decide_eq_false (fun h=>t5 h.1)))
         have HT5:=Hd t5;clear t5;have CP:=Hd (rcopy_any Y cy sh w9 (by have:=HSL.out;omega) HY9.out.2.2.1 HY9.out.2.2.2)
         have HGW:=Hd (show g+1≤w9.heap.size from HD9.out.bl.lt);go_wp2_with fail;refine CP.out.mono ?_;rintro e w11 ⟨v11,rfl,ho,b11⟩;have ho:=own_base ho HGW.out;obtain⟨X11,c11,rfl,-,-,-,-⟩:=own_form ho;have b12:=below_new (Below.refl w11.heap.size w11) (.cells #[.int .i64 (k:Int),.int .i64 (k:Int),.slice X11 sh.length c11] 99);have HD12:=Hd ((HD9.out.later b11).later b12);have HO12:=Hd (own_later ho b12);have HND12:=Hd (own_later (own_later HND9.out b11) b12);have YB:=Hd (Blk.new w11 99 #[.int .i64 (k:Int),.int .i64 (k:Int),.slice X11 sh.length c11]);have hown:=HD12.out.out.row;rw[HLEN.out]at hown;have hs12:g+1≤(w11.alloc (.cells #[.int .i64 (k:Int),.int .i64 (k:Int),.slice X11 sh.length c11] 99)).heap.size:=HD12.out.bl.lt
         have hy12:Lies (w11.alloc (.cells #[.int .i64 (k:Int),.int .i64 (k:Int),.slice X11 sh.length c11] 99)) (some ⟨w11.heap.size,0,none⟩) [.int .i64 (k:Int),.int .i64 (k:Int),.slice X11 sh.length c11]:=fun _=>⟨w11.heap.size,0,rfl,fun j u hu=>by
          rw[Nat.zero_add];exact YB.out.cell (by simpa using hu)⟩
         have hml:=HML.out;clear ho b11 b12 CP
         go_wp2_with (at_builtin;refine Go.Proofs.YtjlfehpockfkdaaGreat.wpList_append_lies _ rfl _ _ 23 rfl (g+1) 99 i0 (.agg #[.int .i64 0,.int .i64 0,.slice none 0 0]) 3 40 undZones hI hz0 hz1 hz2 rfl (by decide) (.slice (some ⟨gA,0,none⟩) (m+1) vc) (m+1) (zCells M) rfl hown (some ⟨w11.heap.size,0,none⟩) 1 1 (fun h=>by cases h) [.int .i64 (k:Int),.int .i64 (k:Int),.slice X11 sh.length c11] rfl rfl hy12 (by intro u hu;simp at hu;rcases hu with rfl|rfl<;>rfl) ?d3 ?d4 ?d5 ?_)
         case d3=>unfold maxLen;omega
         case d4=>omega
         case d5=>exact hs12
         intro v13 w13 ho13 hg13 _;have hsn:=Hd (HD12.out.push (z:=⟨(k:Int),(k:Int),X11,c11,sh⟩) HO12.out hg13 (by rw[HLEN.out];exact ho13))
         have hnw:=Hd (own_stays HND12.out (fun q hq=>hg13.block q (own_lt HND12.out q hq) (own_apart HND12.out hown (by decide) q hq)))
         clear ho13 hg13 hown hy12 hs12 hml;go_wp2_with fail
         go_roundg (256-(k+1))
         case measure=>omega
         case rel=>exact⟨k+1,_,by omega,rfl,by first|rfl|go_num,hsn.out,by rw[List.map_append];exact HNW.out.symm,hnw.out⟩
   ·have hd:decide ((k:Int)<256)=false:=decide_eq_false (by omega)
    have hkl:k=256:=by omega
    have hme:M.map Zc.zn=ZO:=by rw[HM.out,hkl,HZO.out]
    obtain⟨VB,vd,hve,hOZ⟩:=HT.out.out.one;injection hve with hve1 _ hve2
    subst hve1 hve2;have FIN:=Hd (show GivesT (ZO,NOW,0) w (.returned (.tuple #[.slice VA M.length vc,.slice NA NOW.length na,.int .i64 0])) wr from⟨VA,vc,M,NA,na,rfl,hOZ,hme,now_one HNX.out,HT.out.low⟩);clear hkl hme hOZ hT;go_wp2;exact bodyPost_ret (v :=.tuple #[.slice VA M.length vc,.slice NA NOW.length na,.int .i64 0]) (by simp[results,Tryz.results70,go_sem]) rfl FIN.out
end Go.Proofs.YtjlfehpockfkdaaGreat
namespace Go.Proofs.YtjlfehpockfkdaaGreat
open Go.RowKit
namespace Sf
theorem fmd_obj{l:List Wr}(h:fmd l=true)(k:Nat)(hk:k<l.length):0≤Nt.obj l k∧Nt.obj l k≤255:=by
 have:=(right_iff _).1 ((fmd_iff l).1 h k hk).1;exact⟨this.1,this.2.1⟩
end Sf
end Go.Proofs.YtjlfehpockfkdaaGreat
namespace Go.Proofs.YtjlfehpockfkdaaGreat
open Fb
theorem wrs_zero:Tryz.zeroCells168=Sf.arr (fun _=>Nt.zeroW):=by rfl
@[simp] theorem wrs_zeroV(w:World):(zeroValue 168).run Tryz.prog w = .ok (.agg Tryz.zeroCells168) w:=by kernel_rfl
@[simp] theorem wrs_zero_size:Tryz.zeroCells168.size=1024:=by rw[wrs_zero,Sf.arr_size]
@[simp] theorem wrs_zero_ne:¬Tryz.zeroCells168=#[]:=fun h=>by have h2:=wrs_zero_size;rw[h]at h2;cases h2
end Go.Proofs.YtjlfehpockfkdaaGreat
namespace Go.Proofs.YtjlfehpockfkdaaGreat
open Go.RowKit
theorem rcompare_lt(c n c' n':Int)(w:World)(h:c<c') :
  Calls Tryz.prog 38 #[.agg #[.int .i64 c,.int .i64 n],.agg #[.int .i64 c',.int .i64 n']] w fun e w'=>e = .returned (.int .i64 (St.cmpS c n c' n'))∧Below w.heap.size w w':=by
 have h0:St.cmpS c n c' n' = -1:=by(first|rw[St.cmpS_lt (by omega)]|rw[St.cmpS_gt (by omega)]|(rw[St.cmpS_eq (by omega)];first|exact St.cmpI_lt (by omega)|exact St.cmpI_eq (by omega)|exact St.cmpI_gt (by omega)))
 have H0:=Hd h0;clear h0;have hd:decide (c<c')=true:=decide_eq_true h
 go_enter Tryz.func38,Tryz.ntmps38
 go_wp2;go_ret;rw[H0.out];exact⟨rfl,by repeat (first|exact Below.refl _ _|exact Nat.le_refl _|(apply Below.drew)|(refine Below.alloc ?_ ?_ _)|(refine Below.setCell ?_ ?_ _)|(simp)|(simp;omega))⟩
theorem rcompare_gt(c n c' n':Int)(w:World)(h:c'<c) :
  Calls Tryz.prog 38 #[.agg #[.int .i64 c,.int .i64 n],.agg #[.int .i64 c',.int .i64 n']] w fun e w'=>e = .returned (.int .i64 (St.cmpS c n c' n'))∧Below w.heap.size w w':=by
 have h0:St.cmpS c n c' n'=1:=by(first|rw[St.cmpS_lt (by omega)]|rw[St.cmpS_gt (by omega)]|(rw[St.cmpS_eq (by omega)];first|exact St.cmpI_lt (by omega)|exact St.cmpI_eq (by omega)|exact St.cmpI_gt (by omega)))
 have H0:=Hd h0;clear h0;have hd:decide (c<c')=false:=decide_eq_false (by omega)
 have hd2:(c == c')=false:=beq_eq_false_iff_ne.2 (by omega)
 go_enter Tryz.func38,Tryz.ntmps38
 go_wp2;go_ret;rw[H0.out];exact⟨rfl,by repeat (first|exact Below.refl _ _|exact Nat.le_refl _|(apply Below.drew)|(refine Below.alloc ?_ ?_ _)|(refine Below.setCell ?_ ?_ _)|(simp)|(simp;omega))⟩
theorem rcompare_nlt(c n c' n':Int)(w:World)(h:c=c')(hn:n<n') :
  Calls Tryz.prog 38 #[.agg #[.int .i64 c,.int .i64 n],.agg #[.int .i64 c',.int .i64 n']] w fun e w'=>e = .returned (.int .i64 (St.cmpS c n c' n'))∧Below w.heap.size w w':=by
 have h0:St.cmpS c n c' n' = -1:=by(first|rw[St.cmpS_lt (by omega)]|rw[St.cmpS_gt (by omega)]|(rw[St.cmpS_eq (by omega)];first|exact St.cmpI_lt (by omega)|exact St.cmpI_eq (by omega)|exact St.cmpI_gt (by omega)))
 have H0:=Hd h0;clear h0;have hd:decide (c<c')=false:=decide_eq_false (by omega)
 have hd2:(c == c')=true:=beq_iff_eq.2 h;have hd3:decide (n<n')=true:=decide_eq_true hn;clear h
 go_enter Tryz.func38,Tryz.ntmps38
 go_wp2;go_ret;rw[H0.out];exact⟨rfl,by repeat (first|exact Below.refl _ _|exact Nat.le_refl _|(apply Below.drew)|(refine Below.alloc ?_ ?_ _)|(refine Below.setCell ?_ ?_ _)|(simp)|(simp;omega))⟩
theorem rcompare_ngt(c n c' n':Int)(w:World)(h:c=c')(hn:n'<n) :
  Calls Tryz.prog 38 #[.agg #[.int .i64 c,.int .i64 n],.agg #[.int .i64 c',.int .i64 n']] w fun e w'=>e = .returned (.int .i64 (St.cmpS c n c' n'))∧Below w.heap.size w w':=by
 have h0:St.cmpS c n c' n'=1:=by(first|rw[St.cmpS_lt (by omega)]|rw[St.cmpS_gt (by omega)]|(rw[St.cmpS_eq (by omega)];first|exact St.cmpI_lt (by omega)|exact St.cmpI_eq (by omega)|exact St.cmpI_gt (by omega)))
 have H0:=Hd h0;clear h0;have hd:decide (c<c')=false:=decide_eq_false (by omega)
 have hd2:(c == c')=true:=beq_iff_eq.2 h;have hd3:decide (n<n')=false:=decide_eq_false (by omega)
 have hd4:(n == n')=false:=beq_eq_false_iff_ne.2 (by omega)
 clear h
 go_enter Tryz.func38,Tryz.ntmps38
 go_wp2;go_ret;rw[H0.out];exact⟨rfl,by repeat (first|exact Below.refl _ _|exact Nat.le_refl _|(apply Below.drew)|(refine Below.alloc ?_ ?_ _)|(refine Below.setCell ?_ ?_ _)|(simp)|(simp;omega))⟩
theorem rcompare_eq(c n c' n':Int)(w:World)(h:c=c')(hn:n=n') :
  Calls Tryz.prog 38 #[.agg #[.int .i64 c,.int .i64 n],.agg #[.int .i64 c',.int .i64 n']] w fun e w'=>e = .returned (.int .i64 (St.cmpS c n c' n'))∧Below w.heap.size w w':=by
 have h0:St.cmpS c n c' n'=0:=by(first|rw[St.cmpS_lt (by omega)]|rw[St.cmpS_gt (by omega)]|(rw[St.cmpS_eq (by omega)];first|exact St.cmpI_lt (by omega)|exact St.cmpI_eq (by omega)|exact St.cmpI_gt (by omega)))
 have H0:=Hd h0;clear h0;have hd:decide (c<c')=false:=decide_eq_false (by omega)
 have hd2:(c == c')=true:=beq_iff_eq.2 h;have hd3:decide (n<n')=false:=decide_eq_false (by omega)
 have hd4:(n == n')=true:=beq_iff_eq.2 hn;clear h hn
 go_enter Tryz.func38,Tryz.ntmps38
 go_wp2;go_ret;rw[H0.out];exact⟨rfl,by repeat (first|exact Below.refl _ _|exact Nat.le_refl _|(apply Below.drew)|(refine Below.alloc ?_ ?_ _)|(refine Below.setCell ?_ ?_ _)|(simp)|(simp;omega))⟩
theorem rcompare_any(c n c' n':Int)(w:World) :
  Calls Tryz.prog 38 #[.agg #[.int .i64 c,.int .i64 n],.agg #[.int .i64 c',.int .i64 n']] w fun e w'=>e = .returned (.int .i64 (St.cmpS c n c' n'))∧Below w.heap.size w w':=by
 rcases Int.lt_trichotomy c c' with h|h|h
 ·exact rcompare_lt c n c' n' w h
 ·rcases Int.lt_trichotomy n n' with hn|hn|hn
  ·exact rcompare_nlt c n c' n' w h hn
  ·exact rcompare_eq c n c' n' w h hn
  ·exact rcompare_ngt c n c' n' w h hn
 ·exact rcompare_gt c n c' n' w h
theorem fright_any(x:Wr)(w:World):Calls Tryz.prog 116 #[Nt.wrV x] w (Says (.bool (Sf.right x)) w):=by
 obtain⟨c,n,o,g⟩:=x;show Calls Tryz.prog 116 #[.agg #[.int .i64 c,.int .i64 n,.int .i64 o,.bool g]] w (Says (.bool (Sf.right (c,n,o,g))) w);have hb0:=below_new (Below.refl w.heap.size w) (.cells #[.int .i64 c,.int .i64 n,.int .i64 o,.bool g] 52)
 by_cases h0:0≤o
 ·have hd0:decide (0≤o)=true:=decide_eq_true h0
  by_cases h1:o≤255
  ·have hd1:decide (o≤255)=true:=decide_eq_true h1
   have HR:=Hd (show Sf.right (c,n,o,g)=St.rgt c n by unfold Sf.right;simp[h0,h1])
   go_enter Tryz.func116,Tryz.ntmps116
   go_wp2_with fail;refine(rright_any c n _).mono ?_;rintro e w1 ⟨rfl,b1⟩;go_wp2;go_ret;exact⟨by rw[HR.out];rfl,below_on hb0 b1⟩
  ·have hd1:decide (o≤255)=false:=decide_eq_false h1
   have HR:=Hd (show Sf.right (c,n,o,g)=false by unfold Sf.right;simp[h1])
   go_enter Tryz.func116,Tryz.ntmps116
   go_wp2;go_ret;exact⟨by rw[HR.out];rfl,hb0⟩
 ·have hd0:decide (0≤o)=false:=decide_eq_false h0
  have HR:=Hd (show Sf.right (c,n,o,g)=false by unfold Sf.right;simp[h0])
  go_enter Tryz.func116,Tryz.ntmps116
  go_wp2;go_ret;exact⟨by rw[HR.out];rfl,hb0⟩
theorem fformed_any(A:Option Addr)(c:Nat)(l:List Wr)(w:World)(h:OneW w A c l) :
  Calls Tryz.prog 55 #[.slice A l.length c] w (Says (.bool (Sf.fmd l)) w):=by
 have hl:=h.len;have H1:=Hd h;have NO:=Hd (fun k hk hn=>Sf.fmd_no (l:=l) k hk hn)
 have YES:=Hd (fun hn=>(Sf.fmd_iff l).2 hn)
 obtain⟨q,hq⟩:∃q,Sf.fmd l=q:=⟨_,rfl⟩;rw[hq]at NO YES ⊢;clear h hq
 go_enter Tryz.func55,Tryz.ntmps55
 go_wp2_with fail
 go_loopw [3] (fun s3 wr=>∃k:Nat,k≤l.length∧s3 = .int .i64 (k:Int)∧(∀j,j<k→Sf.ok l j)∧Below w.heap.size w wr) (fun s3 _=>l.length-(intOf s3).toNat)
 case atStart=>exact⟨0,Nat.zero_le _,rfl,(fun j hj=>by omega),Below.refl _ _⟩
 case round=>
  obtain⟨k,hk,rfl,hall,hbw⟩:=hrel;have HALL:=Hd hall;clear hall
  by_cases hlt:k<l.length
  ·have hne:l≠[]:=fun e=>by subst e;simp at hlt
   obtain⟨b,off,hA,hcA⟩:=(H1.out.later hbw).at hne;have H1':=H1;subst hA;obtain⟨e0,e1,e2,e3⟩:=hcA k hlt;have hi0:(0:Int)≤(k:Int):=by omega
   have hi1:(k:Int)<(l.length:Int):=by omega
   have hob:(l.getD k Nt.zeroW).2.2.1=Nt.obj l k:=rfl;have hrt:Sf.right (l.getD k Nt.zeroW)=Sf.right (l.getD k Nt.zeroW):=rfl;have nOk:¬Sf.ok l k→q=false:=NO.out k hlt
   have yOk:(Sf.right (l.getD k Nt.zeroW)=true∧(0<k→Nt.obj l (k-1)<Nt.obj l k))→∀j,j<k+1→Sf.ok l j:=fun hh j hj=>by
    by_cases e:j=k
    ·subst e;exact hh
    ·exact HALL.out j (by omega)
   have nOk2:¬(Sf.right (l.getD k Nt.zeroW)=true∧(0<k→Nt.obj l (k-1)<Nt.obj l k))→q=false:=nOk;obtain⟨x,hx⟩:∃x,l.getD k Nt.zeroW=x:=⟨_,rfl⟩;rw[hx]at e0 e1 e2 e3 nOk2 yOk hob;obtain⟨r,hr⟩:∃r,Sf.right x=r:=⟨_,rfl⟩
   have cR:∀d os,Calls Tryz.prog 116 #[.agg #[.int .i64 x.1,.int .i64 x.2.1,.int .i64 x.2.2.1,.bool x.2.2.2]] (Sort.grow (redrawn wr d) os) fun e w''=>e = .returned (.bool r)∧∃p:Regrown,w''=Sort.grow (redrawn wr p.d) p.os:=fun d os=>by
    rw[←hr];exact Calls.regrown_of (fright_any x _)
   rw[hr]at nOk2 yOk;have CR:=Hd cR;have k0:=cell_regrown e0;have k1:=cell_regrown e1;have k2:=cell_regrown e2;have k3:=cell_regrown e3;have NK:=Hd nOk2;have YK:=Hd yOk;have BW:=Hd hbw;cases k with
   |zero=>
    have hgt:decide ((0:Int)<((0:Nat):Int))=false:=rfl;clear nOk nOk2 yOk hx hr cR hob hrt hcA e0 e1 e2 e3 hbw;simp only[Nat.zero_mul,Nat.add_zero]at k0 k1 k2 k3;cases r with
    |true=>
     have HT:=Hd (YK.out ⟨rfl,fun hh=>by omega⟩)
     go_wp2_with fail;refine wp_region_quiet_below (by kernel_rfl) (by kernel_rfl) ?_
     repeat (first|go_big_quiet_step (exact CR.out _ _)|quiet_step (exact CR.out _ _))
     refine wpQuiet_nil ?_;intro _ hw';obtain⟨⟨dq,osq⟩,hw''⟩:=hw';subst hw'';go_wp2_with fail
     go_roundw
     case rel=>exact⟨1,by omega,by first|rfl|go_num,HT.out,below_on BW.out (below_regrown wr dq osq)⟩
     case measure=>simp[intOf];omega
    |false=>
     have hqf:=NK.out (fun hh=>by cases hh.1)
     subst hqf;go_wp2_with fail;refine wp_region_quiet_below (by kernel_rfl) (by kernel_rfl) ?_
     repeat (first|go_big_quiet_step (exact CR.out _ _)|quiet_step (exact CR.out _ _))
     refine wpQuiet_nil ?_;intro _ hw';obtain⟨⟨dq,osq⟩,hw''⟩:=hw';subst hw'';go_wp2;go_ret;exact⟨rfl,below_on BW.out (below_regrown wr dq osq)⟩
   |succ m=>
    obtain⟨-,-,f2,-⟩:=hcA m (by omega)
    have hgt:decide ((0:Int)<((m+1:Nat):Int))=true:=decide_eq_true (by omega)
    have hm1:((m+1:Nat):Int)-1=(m:Int):=by omega
    have hj0:(0:Int)≤(m:Int):=by omega
    have hj1:(m:Int)<(l.length:Int):=by omega
    have m2:∀d os,(Sort.grow (redrawn wr d) os).cell? ⟨b,off+m*4+2,none⟩=some (.int .i64 (Nt.obj l m)):=cell_regrown f2;have hob1:Nt.obj l (m+1)=x.2.2.1:=hob.symm;rw[hob1,show m+1-1=m from rfl]at NK YK;obtain⟨y,hy⟩:∃y,Nt.obj l m=y:=⟨_,rfl⟩;rw[hy]at m2 NK YK;clear nOk nOk2 yOk hx hr cR hob hob1 hrt hcA e0 e1 e2 e3 f2 hbw hy;cases r with
    |false=>
     have hqf:=NK.out (fun hh=>by cases hh.1)
     subst hqf;go_wp2_with fail;refine wp_region_quiet_below (by kernel_rfl) (by kernel_rfl) ?_
     repeat (first|go_big_quiet_step (exact CR.out _ _)|quiet_step (exact CR.out _ _))
     refine wpQuiet_nil ?_;intro _ hw';obtain⟨⟨dq,osq⟩,hw''⟩:=hw';subst hw'';go_wp2;go_ret;exact⟨rfl,below_on BW.out (below_regrown wr dq osq)⟩
    |true=>
     by_cases hge:x.2.2.1≤y
     ·have hd:decide (x.2.2.1≤y)=true:=decide_eq_true hge
      have hqf:=NK.out (fun hh=>by have:=hh.2 (by omega);omega)
      subst hqf;go_wp2_with fail;refine wp_region_quiet_below (by kernel_rfl) (by kernel_rfl) ?_
      repeat (first|go_big_quiet_step (exact CR.out _ _)|quiet_step (exact CR.out _ _))
      refine wpQuiet_nil ?_;intro _ hw';obtain⟨⟨dq,osq⟩,hw''⟩:=hw';subst hw'';go_wp2;go_ret;exact⟨rfl,below_on BW.out (below_regrown wr dq osq)⟩
     ·have hd:decide (x.2.2.1≤y)=false:=decide_eq_false hge
      have HT:=Hd (YK.out ⟨rfl,fun _=>by omega⟩)
      go_wp2_with fail;refine wp_region_quiet_below (by kernel_rfl) (by kernel_rfl) ?_
      repeat (first|go_big_quiet_step (exact CR.out _ _)|quiet_step (exact CR.out _ _))
      refine wpQuiet_nil ?_;intro _ hw';obtain⟨⟨dq,osq⟩,hw''⟩:=hw';subst hw'';go_wp2_with fail
      go_roundw
      case rel=>exact⟨m+1+1,by omega,by first|rfl|go_num,HT.out,below_on BW.out (below_regrown wr dq osq)⟩
      case measure=>simp[intOf];omega
  ·have hkl:k=l.length:=by omega
   subst hkl;have hqt:=YES.out HALL.out;subst hqt;go_wp2;go_ret;exact⟨rfl,hbw⟩
end Go.Proofs.YtjlfehpockfkdaaGreat
namespace Go.Proofs.YtjlfehpockfkdaaGreat
open Go.RowKit Fb
section
variable {w:World} {g:Nat} {t:TypeId} {f:Nat→Wr}
theorem Blk.wrs_same{f':Nat→Wr}(h:Blk w g t (Sf.arr f))(e:∀i,i<256→f i=f' i):Blk w g t (Sf.arr f'):=by rw[←Sf.arr_ext e];exact h
end
structure PutM (w:World) (g6 g7:Nat) (f:Sf.Mp):Prop where
 has:Blk w g6 138 (Sp.arr fun j=>(f j).isSome)
 at_:Blk w g7 168 (Sf.arr fun j=>(f j).getD Nt.zeroW)
theorem PutM.later{w w':World}{g6 g7:Nat}{f:Sf.Mp}(h:PutM w g6 g7 f)(hb:Below w.heap.size w w'):PutM w' g6 g7 f:=⟨h.has.later hb,h.at_.later hb⟩
theorem PutM.drew{w:World}{g6 g7:Nat}{f:Sf.Mp}(h:PutM w g6 g7 f):PutM w.drew g6 g7 f:=⟨h.has.drew,h.at_.drew⟩
theorem PutM.set{w:World}{g6 g7:Nat}{f:Sf.Mp}(h:PutM w g6 g7 f)(hne:g6≠g7){x:Wr}{o:Nat}(hx:x.2.2.1=(o:Int))(ho:o<256) :
  PutM (((((w.setCell ⟨g6,o,none⟩ (.bool true)).setCell ⟨g7,o*4,none⟩ (.int .i64 x.1)).setCell ⟨g7,o*4+1,none⟩ (.int .i64 x.2.1)).setCell ⟨g7,o*4+2,none⟩ (.int .i64 x.2.2.1)).setCell ⟨g7,o*4+3,none⟩ (.bool x.2.2.2)) g6 g7 (Sf.set1 f x):=by
 have a1:=(((((h.has.marks_put o ho true).far (p:=⟨g7,o*4,none⟩) hne (.int .i64 x.1)).far (p:=⟨g7,o*4+1,none⟩) hne (.int .i64 x.2.1)).far (p:=⟨g7,o*4+2,none⟩) hne (.int .i64 x.2.2.1)).far (p:=⟨g7,o*4+3,none⟩) hne (.bool x.2.2.2));have a2:=(h.at_.far (p:=⟨g6,o,none⟩) hne.symm (.bool true)).wrs_put o ho x;refine⟨a1.marks_same fun i _ =>?_,a2.wrs_same fun i _ =>?_⟩
 ·unfold Sf.set1
  by_cases e:i=o
  ·subst e;rw[if_pos rfl,if_pos hx.symm];rfl
  ·rw[if_neg e,if_neg (by omega)]
 ·unfold Sf.set1
  by_cases e:i=o
  ·subst e;rw[if_pos rfl,if_pos hx.symm];rfl
  ·rw[if_neg e,if_neg (by omega)]
theorem PutM.belows{w0 w:World}{g6 g7:Nat}(hb:Below w0.heap.size w0 w)(h6:w0.heap.size≤g6)(h7:w0.heap.size≤g7)(o:Nat)(x:Wr) :
  Below w0.heap.size w0 (((((w.setCell ⟨g6,o,none⟩ (.bool true)).setCell ⟨g7,o*4,none⟩ (.int .i64 x.1)).setCell ⟨g7,o*4+1,none⟩ (.int .i64 x.2.1)).setCell ⟨g7,o*4+2,none⟩ (.int .i64 x.2.2.1)).setCell ⟨g7,o*4+3,none⟩ (.bool x.2.2.2)):=
 ((((hb.setCell (p:=⟨g6,o,none⟩) h6 _).setCell (p:=⟨g7,o*4,none⟩) h7 _).setCell (p:=⟨g7,o*4+1,none⟩) h7 _).setCell (p:=⟨g7,o*4+2,none⟩) h7 _).setCell (p:=⟨g7,o*4+3,none⟩) h7 _
namespace Sf
theorem put_new{f:Mp}{x:Wr}{o:Nat}(hx:x.2.2.1=(o:Int))(h:newer x (f o)=x):put1 f x=set1 f x:=by
 funext j
 unfold put1 set1
 by_cases e:(j:Int)=x.2.2.1
 ·rw[if_pos e,if_pos e]
  have:j=o:=by omega
  subst this;rw[h]
 ·rw[if_neg e,if_neg e]
theorem put_old{f:Mp}{x y:Wr}{o:Nat}(hx:x.2.2.1=(o:Int))(hy:f o=some y)(h:¬St.cmpS y.1 y.2.1 x.1 x.2.1<0):put1 f x=f:=by
 funext j
 unfold put1
 by_cases e:(j:Int)=x.2.2.1
 ·rw[if_pos e]
  have:j=o:=by omega
  subst this;rw[hy];show some (if St.cmpS y.1 y.2.1 x.1 x.2.1<0 then x else y)=some y
  rw[if_neg h]
 ·rw[if_neg e]
def ofTo(l:List Wr)(k:Nat):Mp:=(l.take k).foldl set1 none_
def putsTo(f:Mp)(l:List Wr)(k:Nat):Mp:=(l.take k).foldl put1 f
theorem ofTo_succ{l:List Wr}{k:Nat}(h:k<l.length):ofTo l (k+1)=set1 (ofTo l k) (l.getD k Nt.zeroW):=by unfold ofTo;rw[foldl_take _ _ _ _ h,getD_lt h]
theorem putsTo_succ{f:Mp}{l:List Wr}{k:Nat}(h:k<l.length):putsTo f l (k+1)=put1 (putsTo f l k) (l.getD k Nt.zeroW):=by unfold putsTo;rw[foldl_take _ _ _ _ h,getD_lt h]
theorem ofTo_all(l:List Wr):ofTo l l.length=of l:=by unfold ofTo of;rw[List.take_length]
theorem putsTo_all(f:Mp)(l:List Wr):putsTo f l l.length=Sf.puts f l:=by unfold putsTo Sf.puts;rw[List.take_length]
theorem putR_bad{l:List Wr}(r:List Wr)(h:fmd l=false):putR l r=([],1):=by unfold putR;rw[if_neg (by rw[h];simp)]
theorem putR_wrong{l r:List Wr}(h:fmd l=true)(k:Nat)(hk:k<r.length)(h2:right (r.getD k Nt.zeroW)=false):putR l r=([],1):=by
 unfold putR;rw[if_pos h,if_neg];intro ha;rw[getD_lt hk,all_right ha _ (List.getElem_mem hk)]at h2;cases h2
theorem putR_fine{l r:List Wr}(h:fmd l=true)(h2:∀k,k<r.length→right (r.getD k Nt.zeroW)=true):putR l r=(outTo (Sf.puts (of l) r) 256,0):=by
 unfold putR;rw[if_pos h,if_pos];rw[List.all_eq_true];intro x hx;obtain⟨j,hj,rfl⟩:=List.mem_iff_getElem.1 hx;have:=h2 j hj
 rwa [getD_lt hj]at this
end Sf
theorem fput_any(A B:Option Addr)(c d:Nat)(l r:List Wr)(w:World)(h:OneW w A c l)(h2:OneW w B d r) :
  Calls Tryz.prog 71 #[.slice A l.length c,.slice B r.length d] w (AnsWE (Sf.putR l r).1 (Sf.putR l r).2 w):=by
 obtain⟨i0,hI,hZ0,hZ1,hZ2⟩:=info_parts infoWr;have n1:=fformed_any A c l w h;have P0:=Hd (fun hf=>Sf.putR_bad (l:=l) r hf)
 have PW:=Hd (fun hf k hk hx=>Sf.putR_wrong (l:=l) (r:=r) hf k hk hx)
 have PF:=Hd (fun hf hx=>Sf.putR_fine (l:=l) (r:=r) hf hx)
 have FO:=Hd (fun hf=>Sf.fmd_obj (l:=l) hf)
 have H1:=Hd h;have H2:=Hd h2;have hll:=h.len;have hrl:=h2.len;obtain⟨res,hres⟩:∃q,Sf.putR l r=q:=⟨_,rfl⟩;obtain⟨q,hq⟩:∃q,Sf.fmd l=q:=⟨_,rfl⟩;rw[hres]at P0 PW PF ⊢;rw[hq]at n1 P0 PW PF FO;have N1:=Hd n1;clear n1 hres hq h h2;cases q with
 |false=>
  have hR:=P0.out rfl;subst hR
  go_enter Tryz.func71,Tryz.ntmps71
  go_wp2_with fail;refine N1.out.mono ?_;rintro e w1 ⟨rfl,b1⟩;go_wp2
  go_ret2
  exact⟨none,0,rfl,OneW.nil,b1⟩
 |true=>
  have FO1:=Hd (FO.out rfl);have PW1:=Hd (PW.out rfl);have PF1:=Hd (PF.out rfl);clear P0 FO PW PF
  go_enter Tryz.func71,Tryz.ntmps71
  go_wp2_with fail;refine N1.out.mono ?_;rintro e w1 ⟨rfl,b1⟩;go_wp2_with fail;have B6:=(Blk.new w1 138 (Sp.arr fun _=>false)).alloc (.cells Tryz.zeroCells168 168)
  have B7:=Blk.new (w1.alloc (.cells (Sp.arr fun _=>false) 138)) 168 Tryz.zeroCells168
  rw[show(w1.alloc (.cells (Sp.arr fun _=>false) 138)).heap.size=w1.heap.size+1 from by simp,wrs_zero]at B7
  rw[←marks_zero]at B6 B7;rw[wrs_zero]at B6;have bb:=below_new (below_new b1 (.cells Tryz.zeroCells138 138)) (.cells Tryz.zeroCells168 168);obtain⟨W,hW⟩:∃W,(w1.alloc (.cells Tryz.zeroCells138 138)).alloc (.cells Tryz.zeroCells168 168)=W:=⟨_,rfl⟩;rw[←wrs_zero]at B6 B7;rw[hW]at bb B6 B7 ⊢;rw[marks_zero]at B6;rw[wrs_zero]at B7;have hM:PutM W w1.heap.size (w1.heap.size+1) Sf.none_:=⟨B6,B7⟩;have HM:=Hd hM;have HBB:=Hd bb;have hz1:=b1.size;clear hM B6 B7 hW b1 N1 bb
  go_loopw [8] (fun s8 wr=>∃k:Nat,k≤l.length∧s8 = .int .i64 (k:Int)∧PutM wr w1.heap.size (w1.heap.size+1) (Sf.ofTo l k)∧Below w.heap.size w wr) (fun s8 _=>l.length-(intOf s8).toNat)
  case atStart=>exact⟨0,Nat.zero_le _,rfl,HM.out,HBB.out⟩
  case round=>
   obtain⟨k,hk,rfl,hM,hbw⟩:=hrel
   by_cases hlt:k<l.length
   ·have hne:l≠[]:=fun e=>by subst e;simp at hlt
    obtain⟨b,off,hA,hcA⟩:=(H1.out.later hbw).at hne;have H1':=H1;subst hA;obtain⟨e0,e1,e2,e3⟩:=hcA k hlt;have hob:=FO1.out k hlt;have hi0:(0:Int)≤(k:Int):=by omega
    have hi1:(k:Int)<(l.length:Int):=by omega
    have hst:=Sf.ofTo_succ hlt;have hobj:(l.getD k Nt.zeroW).2.2.1=Nt.obj l k:=rfl;obtain⟨x,hx⟩:∃x,l.getD k Nt.zeroW=x:=⟨_,rfl⟩;rw[hx]at e0 e1 e2 e3 hobj hst;obtain⟨o,ho⟩:∃o:Nat,Nt.obj l k=(o:Int):=⟨(Nt.obj l k).toNat,by omega⟩
    rw[ho]at hobj hob;have HX:=Hd hobj;rw[hobj]at e2;have ho256:o<256:=by omega
    have ho0:(0:Int)≤(o:Int):=by omega
    have ho1:(o:Int)<256:=by omega
    have hS:=hM.set (by omega) hobj ho256
    have hBS:=PutM.belows (g6:=w1.heap.size) (g7:=w1.heap.size+1) hbw hz1 (by omega) o x
    rw[hobj,←hst]at hS;rw[hobj]at hBS;have f6:=hM.has.free o;have m6:=hM.has.marks_cell o ho256;have hA7:=hM.at_.far (p:=⟨w1.heap.size,o,none⟩) (by show w1.heap.size+1≠w1.heap.size;omega) (.bool true)
    have hbb:b<w.heap.size:=by
     have h0:=H1.out.2.2.2 (fun e=>hne (Nt.wrCells_nil.1 e))
     obtain⟨b',off',hA',hc'⟩:=h0;injection hA' with hA'
     injection hA' with hA1 hA2
     obtain⟨q1,_⟩:=Nt.wrCells_get l k hlt;have:=World.block_lt_of_cell? _ _ (hc' _ _ q1);simp at this;omega
    have hbf:b≠w1.heap.size:=by omega
    have hbf7:b≠w1.heap.size+1:=by omega
    have q0:=(World.cell?_of_block (a:=⟨b,off+k*4,none⟩) (Below.heap_setCell wr ⟨w1.heap.size,o,none⟩ (.bool true) b hbf)).trans e0;have q1:=(World.cell?_of_block (a:=⟨b,off+k*4+1,none⟩) (Below.heap_setCell wr ⟨w1.heap.size,o,none⟩ (.bool true) b hbf)).trans e1;have q2:=(World.cell?_of_block (a:=⟨b,off+k*4+2,none⟩) (Below.heap_setCell wr ⟨w1.heap.size,o,none⟩ (.bool true) b hbf)).trans e2;have q3:=(World.cell?_of_block (a:=⟨b,off+k*4+3,none⟩) (Below.heap_setCell wr ⟨w1.heap.size,o,none⟩ (.bool true) b hbf)).trans e3;obtain⟨W2,hW2⟩:∃W2,wr.setCell ⟨w1.heap.size,o,none⟩ (.bool true)=W2:=⟨_,rfl⟩;rw[hW2]at hS hBS hA7 q0 q1 q2 q3;have HS:=Hd (And.intro hS hBS);have f70:=hA7.free (o*4);have f71:=hA7.free (o*4+1);have f72:=hA7.free (o*4+2);have f73:=hA7.free (o*4+3);obtain⟨m70,m71,m72,m73⟩:=hA7.wrs_cells o ho256;have HW2:=Hd hW2;clear hcA hx ho hM hS hBS hst hobj hbw hA7 hW2;go_wp2_with fail;rw[HW2.out];clear e0 e1 e2 e3 m6 f6
    go_region
    go_wp2_with fail
    go_roundw
    case rel=>exact⟨k+1,by omega,by go_num,HS.out.1.drew,HS.out.2.drew⟩
    case measure=>simp[intOf];omega
   ·have hkl:k=l.length:=by omega
    subst hkl;rw[Sf.ofTo_all]at hM;obtain⟨F,hF⟩:∃F,Sf.of l=F:=⟨_,rfl⟩;rw[hF]at hM PF1;have HM2:=Hd hM;have HBW:=Hd hbw;clear hM hbw hF;go_wp2_with fail;clear HM HBB
    go_loopw [9,10] (fun s9 _ wr=>∃k:Nat,k≤r.length∧s9 = .int .i64 (k:Int)∧(∀j,j<k→Sf.right (r.getD j Nt.zeroW)=true)∧PutM wr w1.heap.size (w1.heap.size+1) (Sf.putsTo F r k)∧Below w.heap.size w wr) (fun s9 _ _=>r.length-(intOf s9).toNat)
    case atStart=>exact⟨0,Nat.zero_le _,rfl,(fun j hj=>by omega),HM2.out,HBW.out⟩
    case round=>
     clear HM2 HBW;obtain⟨k,hk,rfl,hall,hM,hbw⟩:=hrel;have HALL:=Hd hall;clear hall
     by_cases hlt:k<r.length
     ·have hne:r≠[]:=fun e=>by subst e;simp at hlt
      obtain⟨b,off,hA,hcA⟩:=(H2.out.later hbw).at hne;have H2':=H2;subst hA;obtain⟨e0,e1,e2,e3⟩:=hcA k hlt;have hi0:(0:Int)≤(k:Int):=by omega
      have hi1:(k:Int)<(r.length:Int):=by omega
      have hst:=Sf.putsTo_succ (f:=F) hlt;have hpw:=PW1.out k hlt
      have hbb:b<w.heap.size:=by
       have h0:=H2.out.2.2.2 (fun e=>hne (Nt.wrCells_nil.1 e))
       obtain⟨b',off',hA',hc'⟩:=h0;injection hA' with hA'
       injection hA' with hA1 hA2
       obtain⟨q1,_⟩:=Nt.wrCells_get r k hlt;have:=World.block_lt_of_cell? _ _ (hc' _ _ q1);simp at this;omega
      have hal:Sf.right (r.getD k Nt.zeroW)=true→∀j,j<k+1→Sf.right (r.getD j Nt.zeroW)=true:=fun hh j hj=>by
       by_cases e:j=k
       ·subst e;exact hh
       ·exact HALL.out j (by omega)
      obtain⟨x,hx⟩:∃x,r.getD k Nt.zeroW=x:=⟨_,rfl⟩;have hal2:Sf.right x=true→∀j,j<k+1→Sf.right (r.getD j Nt.zeroW)=true:=fun hh=>hal (by rw[hx];exact hh)
      rw[hx]at e0 e1 e2 e3 hst hpw;have hob:=Sf.right_iff x;have nR:=fright_any x wr;obtain⟨rt,hrt⟩:∃q,Sf.right x=q:=⟨_,rfl⟩;rw[hrt]at nR hpw hal2 hob;have NR:=Hd (show Calls Tryz.prog 116 #[.agg #[.int .i64 x.1,.int .i64 x.2.1,.int .i64 x.2.2.1,.bool x.2.2.2]] wr (Says (.bool rt) wr) from nR);have HAL:=Hd hal2;have HST:=Hd hst;have HMM:=Hd hM;have HBW:=Hd hbw;clear hcA hx nR hal hal2 hst hM hbw hrt;cases rt with
      |false=>
       have hR:=hpw rfl;clear hob hpw PW1 PF1;subst hR;go_wp2_with fail;refine NR.out.mono ?_;rintro e w5 ⟨rfl,b5⟩;go_wp2
       go_ret2
       exact⟨none,0,rfl,OneW.nil,below_on HBW.out b5⟩
      |true=>
       obtain⟨ho0,ho255,-⟩:=hob.1 rfl;have HT:=Hd (HAL.out rfl);obtain⟨o,ho⟩:∃o:Nat,x.2.2.1=(o:Int):=⟨x.2.2.1.toNat,by omega⟩
       have nR:=NR.out;rw[ho]at nR e2 ho0 ho255;have NR2:=Hd nR;have HO:=Hd ho;clear hob hpw nR ho NR;go_wp2_with fail;refine NR2.out.mono ?_;rintro e w5 ⟨rfl,b5⟩;have E0:=cell_later b5 e0;have E1:=cell_later b5 e1;have E2:=cell_later b5 e2;have E3:=cell_later b5 e3;have hM5:=HMM.out.later b5;have hbw5:=below_on HBW.out b5;have ho256:o<256:=by omega
       have ho1:(o:Int)<256:=by omega
       clear NR2 e0 e1 e2 e3 HMM b5;go_wp2_with fail;have k0:=cell_regrown E0;have k1:=cell_regrown E1;have k6:=cell_regrown (hM5.has.marks_cell o ho256);obtain⟨m70,m71,m72,m73⟩:=hM5.at_.wrs_cells o ho256;have k7:=cell_regrown m70;have k8:=cell_regrown m71;have E:=Hd (And.intro E0 (And.intro E1 (And.intro E2 E3)));have HM5:=Hd hM5;have BW5:=Hd hbw5
       have hput:Sf.newer x (Sf.putsTo F r k o)=x∨∃y,Sf.putsTo F r k o=some y∧¬St.cmpS y.1 y.2.1 x.1 x.2.1<0:=by
        cases hf:Sf.putsTo F r k o with
        |none=>exact .inl rfl
        |some y=>
         by_cases hc:St.cmpS y.1 y.2.1 x.1 x.2.1<0
         ·exact .inl (if_pos hc)
         ·exact .inr ⟨y,rfl,hc⟩
       have HPUT:=Hd hput;obtain⟨fo,hfo⟩:∃fo,Sf.putsTo F r k o=fo:=⟨_,rfl⟩;rw[hfo]at k6 k7 k8;have HFO:=Hd hfo;clear E0 E1 E2 E3 hM5 hbw5 m70 m71 m72 m73 hfo hput;cases fo with
       |none=>
        simp only[Option.isSome_none]at k6;refine wp_region_quiet_below (by kernel_rfl) (by kernel_rfl) ?_
        repeat (first|go_big_quiet_step (fail)|quiet_step (fail))
        refine wpQuiet_nil ?_;intro _ hw';obtain⟨pp,hw''⟩:=hw';subst hw'';obtain⟨w6,hw6⟩:∃w6,Sort.grow (redrawn w5 pp.d) pp.os=w6:=⟨_,rfl⟩;have b6:Below w5.heap.size w5 w6:=by rw[←hw6];exact below_regrown w5 pp.d pp.os
        rw[hw6];have hM6:=HM5.out.later b6;have hbw6:=below_on BW5.out b6;clear hw6 k0 k1 k6;have hnew:Sf.newer x (Sf.putsTo F r k o)=x:=by rw[HFO.out];rfl
        have E0:=cell_later b6 E.out.1;have E1:=cell_later b6 E.out.2.1;have E2:=cell_later b6 E.out.2.2.1;have E3:=cell_later b6 E.out.2.2.2;have f6:=hM6.has.free o;have m6:=hM6.has.marks_cell o ho256;have hA7:=hM6.at_.far (p:=⟨w1.heap.size,o,none⟩) (by show w1.heap.size+1≠w1.heap.size;omega) (.bool true)
        have hbf:b≠w1.heap.size:=by omega
        have q0:=(World.cell?_of_block (a:=⟨b,off+k*4,none⟩) (Below.heap_setCell w6 ⟨w1.heap.size,o,none⟩ (.bool true) b hbf)).trans E0;have q1:=(World.cell?_of_block (a:=⟨b,off+k*4+1,none⟩) (Below.heap_setCell w6 ⟨w1.heap.size,o,none⟩ (.bool true) b hbf)).trans E1;have q2:=(World.cell?_of_block (a:=⟨b,off+k*4+2,none⟩) (Below.heap_setCell w6 ⟨w1.heap.size,o,none⟩ (.bool true) b hbf)).trans E2;have q3:=(World.cell?_of_block (a:=⟨b,off+k*4+3,none⟩) (Below.heap_setCell w6 ⟨w1.heap.size,o,none⟩ (.bool true) b hbf)).trans E3;have hS:=hM6.set (by omega) HO.out ho256
        have hBS:=PutM.belows (g6:=w1.heap.size) (g7:=w1.heap.size+1) hbw6 hz1 (by omega) o x
        rw[HO.out,←Sf.put_new HO.out hnew,←HST.out]at hS;rw[HO.out]at hBS;have HS:=Hd (And.intro hS hBS);have f70:=hA7.free (o*4);have f71:=hA7.free (o*4+1);have f72:=hA7.free (o*4+2);have f73:=hA7.free (o*4+3);obtain⟨m70,m71,m72,m73⟩:=hA7.wrs_cells o ho256;clear hM6 hbw6 hS hBS hA7 hnew E0 E1 E2 E3;go_wp2_with fail
        go_roundw
        case rel=>exact⟨k+1,by omega,by go_num,HT.out,HS.out.1,HS.out.2⟩
        case measure=>simp[intOf];omega
       |some y=>
        simp only[Option.isSome_some,Option.getD_some]at k6 k7 k8;have cC:∀d os,Calls Tryz.prog 38 #[.agg #[.int .i64 y.1,.int .i64 y.2.1],.agg #[.int .i64 x.1,.int .i64 x.2.1]] (Sort.grow (redrawn w5 d) os) fun e w''=>e = .returned (.int .i64 (St.cmpS y.1 y.2.1 x.1 x.2.1))∧∃p:Regrown,w''=Sort.grow (redrawn w5 p.d) p.os:=fun d os=>Calls.regrown_of (rcompare_any _ _ _ _ _)
        have CC:=Hd cC;have hbd:=St.cmpS_neg y.1 y.2.1 x.1 x.2.1;clear cC hbd
        by_cases hc:St.cmpS y.1 y.2.1 x.1 x.2.1<0
        ·have hd:decide (St.cmpS y.1 y.2.1 x.1 x.2.1<0)=true:=decide_eq_true hc
         have hnew:Sf.newer x (Sf.putsTo F r k o)=x:=by rw[HFO.out];exact if_pos hc
         clear hc HPUT;refine wp_region_quiet_below (by kernel_rfl) (by kernel_rfl) ?_
         repeat (first|go_big_quiet_step (exact CC.out _ _)|quiet_step (exact CC.out _ _))
         refine wpQuiet_nil ?_;intro _ hw';obtain⟨pp,hw''⟩:=hw';subst hw'';obtain⟨w6,hw6⟩:∃w6,Sort.grow (redrawn w5 pp.d) pp.os=w6:=⟨_,rfl⟩;have b6:Below w5.heap.size w5 w6:=by rw[←hw6];exact below_regrown w5 pp.d pp.os
         rw[hw6];have hM6:=HM5.out.later b6;have hbw6:=below_on BW5.out b6;clear hw6 k0 k1 k6;have E0:=cell_later b6 E.out.1;have E1:=cell_later b6 E.out.2.1;have E2:=cell_later b6 E.out.2.2.1;have E3:=cell_later b6 E.out.2.2.2;have f6:=hM6.has.free o;have m6:=hM6.has.marks_cell o ho256;have hA7:=hM6.at_.far (p:=⟨w1.heap.size,o,none⟩) (by show w1.heap.size+1≠w1.heap.size;omega) (.bool true)
         have hbf:b≠w1.heap.size:=by omega
         have q0:=(World.cell?_of_block (a:=⟨b,off+k*4,none⟩) (Below.heap_setCell w6 ⟨w1.heap.size,o,none⟩ (.bool true) b hbf)).trans E0;have q1:=(World.cell?_of_block (a:=⟨b,off+k*4+1,none⟩) (Below.heap_setCell w6 ⟨w1.heap.size,o,none⟩ (.bool true) b hbf)).trans E1;have q2:=(World.cell?_of_block (a:=⟨b,off+k*4+2,none⟩) (Below.heap_setCell w6 ⟨w1.heap.size,o,none⟩ (.bool true) b hbf)).trans E2;have q3:=(World.cell?_of_block (a:=⟨b,off+k*4+3,none⟩) (Below.heap_setCell w6 ⟨w1.heap.size,o,none⟩ (.bool true) b hbf)).trans E3;have hS:=hM6.set (by omega) HO.out ho256
         have hBS:=PutM.belows (g6:=w1.heap.size) (g7:=w1.heap.size+1) hbw6 hz1 (by omega) o x
         rw[HO.out,←Sf.put_new HO.out hnew,←HST.out]at hS;rw[HO.out]at hBS;have HS:=Hd (And.intro hS hBS);have f70:=hA7.free (o*4);have f71:=hA7.free (o*4+1);have f72:=hA7.free (o*4+2);have f73:=hA7.free (o*4+3);obtain⟨m70,m71,m72,m73⟩:=hA7.wrs_cells o ho256;clear hM6 hbw6 hS hBS hA7 hnew E0 E1 E2 E3;go_wp2_with fail
         go_roundw
         case rel=>exact⟨k+1,by omega,by go_num,HT.out,HS.out.1,HS.out.2⟩
         case measure=>simp[intOf];omega
        ·have hd:decide (St.cmpS y.1 y.2.1 x.1 x.2.1<0)=false:=decide_eq_false hc
         have HOLD:=Hd (Sf.put_old HO.out HFO.out hc);clear hc HPUT;refine wp_region_quiet_below (by kernel_rfl) (by kernel_rfl) ?_
         repeat (first|go_big_quiet_step (exact CC.out _ _)|quiet_step (exact CC.out _ _))
         refine wpQuiet_nil ?_;intro _ hw';obtain⟨pp,hw''⟩:=hw';subst hw'';obtain⟨w6,hw6⟩:∃w6,Sort.grow (redrawn w5 pp.d) pp.os=w6:=⟨_,rfl⟩;have b6:Below w5.heap.size w5 w6:=by rw[←hw6];exact below_regrown w5 pp.d pp.os
         rw[hw6];have hM6:=HM5.out.later b6;have hbw6:=below_on BW5.out b6;clear hw6 k0 k1 k6;rw[←HOLD.out,←HST.out]at hM6;have HS:=Hd (And.intro hM6 hbw6);clear hM6 hbw6;go_wp2_with fail
         go_roundw
         case rel=>exact⟨k+1,by omega,by go_num,HT.out,HS.out.1,HS.out.2⟩
         case measure=>simp[intOf];omega
     ·have hkl:k=r.length:=by omega
      subst hkl;have hR:=PF1.out HALL.out;clear PW1 PF1 HALL;rw[Sf.putsTo_all]at hM;obtain⟨G,hG⟩:∃G,Sf.puts F r=G:=⟨_,rfl⟩;rw[hG]at hM hR;subst hR;obtain⟨w4,rfl⟩:∃w4,w4=wr:=⟨_,rfl⟩;have hg7:=hM.at_.lt;have HM4:=Hd hM;have BW4:=Hd hbw;clear hM hbw hG;go_wp2_with fail
      go_loopw [11,12] (fun s11 s12 wr=>∃k:Nat,k≤256∧s12 = .int .i64 (k:Int)∧wr.ownsRow w4.heap.size 52 4 s11 (Sf.outTo G k).length (Nt.wrCells (Sf.outTo G k))∧Below w4.heap.size w4 wr) (fun _ s12 _=>256-(intOf s12).toNat)
      case atStart=>exact⟨0,Nat.zero_le _,rfl,⟨rfl,.inl ⟨rfl,rfl⟩⟩,Below.refl _ _⟩
      case round=>
       obtain⟨k,hk,rfl,hown,hbw⟩:=hrel
       by_cases hlt:k<256
       ·have hM:=HM4.out.later hbw
        have m6:=hM.has.marks_cell k hlt;obtain⟨e0,e1,e2,e3⟩:=hM.at_.wrs_cells k hlt;have hkl:=Sf.outTo_len G k;have KY:=Hd (fun (x:Wr) hh=>Sf.outTo_some (f:=G) (k:=k) (x:=x) hh)
        have KN:=Hd (fun hh=>Sf.outTo_none (f:=G) (k:=k) hh)
        have hi0:(0:Int)≤(k:Int):=by omega
        have hi1:(k:Int)<256:=by omega
        have HOW:=Hd hown;have BW:=Hd hbw;clear hM hown;obtain⟨fo,hfo⟩:∃fo,G k=fo:=⟨_,rfl⟩;rw[hfo]at m6 e0 e1 e2 e3 KY KN;clear hfo;cases fo with
        |none=>
         simp only[Option.isSome_none]at m6;have HK:=Hd (KN.out rfl);clear e0 e1 e2 e3 KY KN;go_wp2_with fail
         go_roundw
         case rel=>exact⟨k+1,by omega,by go_num,by rw[HK.out];exact HOW.out,BW.out⟩
         case measure=>simp[intOf];omega
        |some x=>
         obtain⟨x0,x1,x2,x3⟩:=x;simp only[Option.isSome_some,Option.getD_some]at m6 e0 e1 e2 e3;have HK:=Hd (KY.out _ rfl);clear KY KN;have bz2:=below_new (Below.refl wr.heap.size wr) (.cells #[.int .i64 x0,.int .i64 x1,.int .i64 x2,.bool x3] 52);have hown':=own_later HOW.out bz2
         have hy1:Lies (wr.alloc (.cells #[.int .i64 x0,.int .i64 x1,.int .i64 x2,.bool x3] 52)) (some ⟨wr.heap.size,0,none⟩) (Nt.wrCells [(x0,x1,x2,x3)]):=fun _=>⟨wr.heap.size,0,rfl,fun j u hu=>by
          rw[Nat.zero_add];exact(Blk.new wr 52 #[.int .i64 x0,.int .i64 x1,.int .i64 x2,.bool x3]).cell (by simpa[Nt.wrCells,Nt.wrCell] using hu)⟩
         have hbw2:=below_on BW.out bz2;have hszw:=hbw2.size;obtain⟨K,hKK⟩:∃K,Sf.outTo G k=K:=⟨_,rfl⟩;rw[hKK]at hown' hkl HK;clear hKK HOW
         go_wp2_with (at_builtin;refine Go.Proofs.YtjlfehpockfkdaaGreat.wpList_append_lies _ rfl _ _ 24 rfl w4.heap.size 52 i0 (.agg #[.int .i64 0,.int .i64 0,.int .i64 0,.bool false]) 4 32 Tryz.underlying24 hI hZ0 hZ1 hZ2 rfl (by decide) _ K.length (Nt.wrCells K) rfl hown' (some ⟨wr.heap.size,0,none⟩) 1 1 (fun h=>by cases h) (Nt.wrCells [(x0,x1,x2,x3)]) rfl rfl hy1 (Nt.wrCells_one _) ?h63 ?hbytes hszw ?_)
         case h63=>show K.length+1≤(9223372036854775807:Nat);omega
         case hbytes=>omega
         intro v' wz hownz hgz _;have bwz:Below w4.heap.size w4 wz:=hbw2.grown hgz (by omega) (fun r e=>own_ge hown' r e)
         rw[←Nt.wrCells_append,show K.length+1=(K++[(x0,x1,x2,x3)]).length from by simp,←HK.out]at hownz
         have HQ:=Hd (And.intro hownz bwz);obtain⟨gv,capv,rfl⟩:=own_len hownz (by rw[HK.out];simp)
         clear hownz hgz hown' hy1 bwz;go_wp2_with fail
         go_roundw
         case rel=>exact⟨k+1,by omega,by go_num,HQ.out.1,HQ.out.2⟩
         case measure=>simp[intOf];omega
       ·have hkl:k=256:=by omega
        subst hkl;obtain⟨A7,k7,hvk,hO7⟩:=OneW.of_own hown;subst hvk;have HO:=Hd hO7;clear hown hO7;go_wp2
        go_ret2
        exact⟨A7,k7,rfl,HO.out,below_on BW4.out hbw⟩
namespace Ca
def seen(L:List Bc)(k j:Nat):Bool:=(L.take k).any fun z=>decide (z.b.o=(j:Int))
theorem seen_succ{L:List Bc}{k:Nat}(h:k<L.length)(j:Nat):seen L (k+1) j=(seen L k j||decide ((L.getD k Bc.zero).b.o=(j:Int))):=by
 unfold seen;rw[List.take_succ_eq_append_getElem h,List.any_append,getD_lt h];simp
theorem ok_seen{L:List Bc}{k:Nat}(h:k<L.length)(o:Nat)(ho:(L.getD k Bc.zero).b.o=(o:Int)):ok (L.map Bc.b) k↔(Wi.bright (L.getD k Bc.zero).b=true∧seen L k o=false):=by
 unfold ok seen;rw[map_getD,List.any_eq_false];constructor
 ·rintro ⟨h1,h2⟩
  refine⟨h1,fun z hz e =>?_⟩
  obtain⟨i,hi,rfl⟩:=List.mem_iff_getElem.1 hz;rw[List.length_take]at hi;have h3:=h2 i (by omega)
  rw[map_getD,getD_lt (show i<L.length by omega)]at h3
  rw[List.getElem_take]at e;exact h3 ((of_decide_eq_true e).trans ho.symm)
 ·rintro ⟨h1,h2⟩
  refine⟨h1,fun i hi e =>?_⟩
  have h4:i<(L.take k).length:=by rw[List.length_take];omega
  refine h2 _ (List.getElem_mem h4) ?_;rw[List.getElem_take];rw[map_getD,getD_lt (show i<L.length by omega)]at e
  exact decide_eq_true (e.trans ho)
end Ca
theorem cget_any(A:Option Addr)(c:Nat)(L:List Bc)(o sc sn:Int)(w:World)(h:OneC w A c L)(hf:Fits L) :
  Calls Tryz.prog 89 #[.slice A L.length c,.int .i64 o,.agg #[.int .i64 sc,.int .i64 sn]] w (GivesVE (Ca.getR (L.map Bc.b) o sc sn).1 (Ca.getR (L.map Bc.b) o sc sn).2 w):=by
 have hn:=hf.n;have HL:=Hd h;have HZ:=Hd hf.each;have HY:=Hd (fun k hk hb hx=>Ca.get_yes (L:=L) (k:=k) (o:=o) (c:=sc) (n:=sn) hk hb hx)
 have HN:=Hd (fun hb=>Ca.get_no (L:=L) (o:=o) (c:=sc) (n:=sn) hb)
 obtain⟨R,hR⟩:∃R,Ca.getR (L.map Bc.b) o sc sn=R:=⟨_,rfl⟩;rw[hR]at HY HN ⊢;have b0:=below_new (Below.refl w.heap.size w) (.cells #[.int .i64 sc,.int .i64 sn] 46);have B0:=Blk.new w 46 #[.int .i64 sc,.int .i64 sn];obtain⟨W,hW⟩:∃W,w.alloc (.cells #[.int .i64 sc,.int .i64 sn] 46)=W:=⟨_,rfl⟩;rw[hW]at b0 B0;have HW:=Hd hW;have HB:=Hd b0;have HS:=Hd B0;clear h hf hR hW b0 B0
 go_enter Tryz.func89,Tryz.ntmps89
 go_wp2_with fail;rw[HW.out]
 go_loopw [8] (fun s8 wr=>∃k:Nat,k≤L.length∧s8 = .int .i64 (k:Int)∧(∀j,j<k→¬Ca.isAt (L.getD j Bc.zero).b o sc sn)∧Below W.heap.size W wr) (fun s8 _=>L.length-(intOf s8).toNat)
 case atStart=>exact⟨0,Nat.zero_le _,rfl,fun j hj=>by omega,Below.refl _ _⟩
 case round=>
  obtain⟨k,hk,rfl,hno,hbw⟩:=hrel
  by_cases hlt:k<L.length
  ·have hne:L≠[]:=fun e=>by subst e;simp at hlt
   have hbb:=below_on HB.out hbw;obtain⟨b,off,hA,hcs⟩:=(HL.out.later hbb).at hne;obtain⟨e0,e1,e2,e3⟩:=hcs k hlt;have hxb:=(HL.out.later hbb).each _ (Ca.getD_mem hlt);have hxz:=HZ.out _ (Ca.getD_mem hlt);have hy:=HY.out k hlt hno;have HL':=HL;subst hA;have hi0:(0:Int)≤(k:Int):=by omega
   have hi1:(k:Int)<(L.length:Int):=by omega
   have hS:=HS.out.later hbw;have s0:=hS.cell (i:=0) rfl;have s1:=hS.cell (i:=1) rfl;obtain⟨x,hx⟩:∃x,L.getD k Bc.zero=x:=⟨_,rfl⟩;rw[hx]at e0 e1 e2 e3 hxb hxz hy;obtain⟨X,d,⟨x0,x1,x2,v⟩⟩:=x;dsimp only at e0 e1 e2 e3 hxb hxz hy;have HX:=Hd hx;have HNO:=Hd hno;have BW:=Hd hbw;have BB:=Hd hbb;have XB:=Hd hxb
   have hnext:¬Ca.isAt ⟨x0,x1,x2,v⟩ o sc sn→∀j,j<k+1→¬Ca.isAt (L.getD j Bc.zero).b o sc sn:=fun h1 j hj=>by
    by_cases e:j=k
    ·subst e;rw[hx];exact h1
    ·exact hno j (by omega)
   have HNX:=Hd hnext;have HYY:=Hd hy;clear hcs hx hno hbw hbb hxb hy hnext hS
   by_cases q0:x0=o
   ·by_cases q1:x1=sc
    ·by_cases q2:x2=sn
     ·have d0:(x0 == o)=true:=beq_iff_eq.2 q0
      have d1:(x1 == sc)=true:=beq_iff_eq.2 q1;have d2:(x2 == sn)=true:=beq_iff_eq.2 q2;have HR:=Hd (HYY.out ⟨q0,q1,q2⟩);clear q0 q1 q2;go_wp2_with fail
      go_quiet (fail)
      have NC:=Hd (fun n=>bcopy_any X d v (wr.drewN n) hxz (XB.out.later (below_drewN (Below.refl _ _) n)))
      have BB2:=Hd (fun n=>below_drewN BB.out n)
      clear BB;go_wp2_with fail;refine(NC.out _).mono ?_;rintro e w3 ⟨u,rfl,ho,b3⟩;have HO:=Hd (own_base ho (BB2.out _).size);have BB3:=Hd (below_on (BB2.out _) b3);clear ho b3;go_wp2
      go_ret2
      rw[HR.out];exact⟨_,rfl,HO.out,BB3.out⟩
     ·have d0:(x0 == o)=true:=beq_iff_eq.2 q0
      have d1:(x1 == sc)=true:=beq_iff_eq.2 q1;have d2:(x2 == sn)=false:=beq_eq_false_iff_ne.2 q2;have HX2:=Hd (HNX.out (fun h=>q2 h.2.2))
      clear q0 q1 q2;go_wp2_with fail
      go_quiet (fail)
      go_wp2_with fail
      go_roundw
      case rel=>exact⟨k+1,by omega,by go_num,HX2.out,below_drewN BW.out _⟩
      case measure=>simp[intOf];omega
    ·have d0:(x0 == o)=true:=beq_iff_eq.2 q0
     have d1:(x1 == sc)=false:=beq_eq_false_iff_ne.2 q1;have HX2:=Hd (HNX.out (fun h=>q1 h.2.1))
     clear q0 q1;go_wp2_with fail
     go_quiet (fail)
     go_wp2_with fail
     go_roundw
     case rel=>exact⟨k+1,by omega,by go_num,HX2.out,below_drewN BW.out _⟩
     case measure=>simp[intOf];omega
   ·have d0:(x0 == o)=false:=beq_eq_false_iff_ne.2 q0
    have HX2:=Hd (HNX.out (fun h=>q0 h.1))
    clear q0;go_wp2_with fail
    go_quiet (fail)
    go_wp2_with fail
    go_roundw
    case rel=>exact⟨k+1,by omega,by go_num,HX2.out,below_drewN BW.out _⟩
    case measure=>simp[intOf];omega
  ·obtain rfl:k=L.length:=by omega
   have hR:=HN.out hno;subst hR;have BB:=Hd (below_on HB.out hbw);clear hno hbw;go_wp2
   go_ret2
   exact⟨_,rfl,⟨rfl,.inl ⟨rfl,rfl⟩⟩,BB.out⟩
theorem cformed_any(A:Option Addr)(c:Nat)(L:List Bc)(room:Int)(w:World)(h:OneC w A c L) :
  Calls Tryz.prog 56 #[.slice A L.length c,.int .i64 room] w (Says (.bool (Ca.fmd (L.map Bc.b) room)) w):=by
 have hF:Ca.fmd (L.map Bc.b) room=(decide (0≤room∧room≤16777216∧L.length≤256)&&(Ca.oks (L.map Bc.b)&&decide ((Ca.used (L.map Bc.b):Int)≤room))):=by unfold Ca.fmd;rw[List.length_map]
 have HL:=Hd h;have hlen:=h.len
 by_cases c0:room<0
 ·have d0:decide (room<0)=true:=decide_eq_true c0
  rw[decide_eq_false (show ¬(0≤room∧room≤16777216∧L.length≤256) by omega),Bool.false_and]at hF
  rw[hF];clear hF h
  go_enter Tryz.func56,Tryz.ntmps56
  go_wp2;go_ret;exact⟨rfl,Below.refl _ _⟩
 by_cases c1:16777216<room
 ·have d0:decide (room<0)=false:=decide_eq_false c0
  have d1:decide (16777216<room)=true:=decide_eq_true c1;rw[decide_eq_false (show ¬(0≤room∧room≤16777216∧L.length≤256) by omega),Bool.false_and]at hF
  rw[hF];clear hF h
  go_enter Tryz.func56,Tryz.ntmps56
  go_wp2;go_ret;exact⟨rfl,Below.refl _ _⟩
 by_cases c2:256<L.length
 ·have d0:decide (room<0)=false:=decide_eq_false c0
  have d1:decide (16777216<room)=false:=decide_eq_false c1;have d2:decide ((256:Int)<(L.length:Int))=true:=decide_eq_true (by omega)
  rw[decide_eq_false (show ¬(0≤room∧room≤16777216∧L.length≤256) by omega),Bool.false_and]at hF
  rw[hF];clear hF h
  go_enter Tryz.func56,Tryz.ntmps56
  go_wp2;go_ret;exact⟨rfl,Below.refl _ _⟩
 have d0:decide (room<0)=false:=decide_eq_false c0;have d1:decide (16777216<room)=false:=decide_eq_false c1;have d2:decide ((256:Int)<(L.length:Int))=false:=decide_eq_false (by omega)
 rw[decide_eq_true (show 0≤room∧room≤16777216∧L.length≤256 by omega),Bool.true_and]at hF
 rw[hF];have hOK:=Hd (fun k hk o ho=>Ca.ok_seen (L:=L) (k:=k) hk o ho)
 have hNO:=Hd (fun k hk hx=>Ca.oks_no (l:=L.map Bc.b) k hk hx)
 have hYES:=Hd (Ca.oks_iff (L.map Bc.b)).2;have hSU:=Hd (fun k hk j=>Ca.seen_succ (L:=L) (k:=k) hk j)
 have hUO:=Hd (fun hx=>Ca.used_oks (L:=L) hx)
 obtain⟨OK,hok⟩:∃q,Ca.oks (L.map Bc.b)=q:=⟨_,rfl⟩;obtain⟨ok,hokk⟩:∃f,(fun k=>Ca.ok (L.map Bc.b) k)=f:=⟨_,rfl⟩
 rw[hok]at hNO hYES ⊢;have B5:=Blk.new w 138 (Sp.arr fun _=>false)
 rw[←marks_zero]at B5;have b5:=below_new (Below.refl w.heap.size w) (.cells Tryz.zeroCells138 138);obtain⟨W,hW⟩:∃W,w.alloc (.cells Tryz.zeroCells138 138)=W:=⟨_,rfl⟩;rw[hW,marks_zero]at B5;rw[hW]at b5;have HW:=Hd hW;have HB5:=Hd B5;have Hb5:=Hd b5;clear hF h hok hokk ok B5 b5 hW c0 c1
 go_enter Tryz.func56,Tryz.ntmps56
 go_wp2_with fail;rw[HW.out]
 go_loopw [6] (fun s6 wr=>∃k:Nat,k≤L.length∧s6 = .int .i64 (k:Int)∧(∀j,j<k→Ca.ok (L.map Bc.b) j)∧Blk wr w.heap.size 138 (Sp.arr (Ca.seen L k))∧Below w.heap.size w wr) (fun s6 _=>L.length-(intOf s6).toNat)
 case atStart=>exact⟨0,Nat.zero_le _,rfl,fun j hj=>by omega,HB5.out,Hb5.out⟩
 case round=>
  obtain⟨k,hk,rfl,hall,hB,hbw⟩:=hrel
  by_cases hlt:k<L.length
  ·have hne:L≠[]:=fun e=>by subst e;simp at hlt
   obtain⟨b,off,hA,hcs⟩:=(HL.out.later hbw).at hne;obtain⟨e0,e1,e2,e3⟩:=hcs k hlt;have HL':=HL;subst hA;have hi0:(0:Int)≤(k:Int):=by omega
   have hi1:(k:Int)<(L.length:Int):=by omega
   have hok:=hOK.out k hlt;have hno:=hNO.out k (by rw[List.length_map];exact hlt)
   have hsu:=hSU.out k hlt;have hbx:Ca.ok (L.map Bc.b) k→Wi.bright (L.getD k Bc.zero).b=true:=fun h=>by have:=h.1;rwa [Ca.map_getD]at this
   obtain⟨x,hx⟩:∃x,L.getD k Bc.zero=x:=⟨_,rfl⟩;rw[hx]at e0 e1 e2 e3 hok hsu hbx;obtain⟨X,d,⟨x0,x1,x2,v⟩⟩:=x;dsimp only at e0 e1 e2 e3 hok hsu hbx;obtain⟨q,hq⟩:∃q,Wi.bright ⟨x0,x1,x2,v⟩=q:=⟨_,rfl⟩;have NR:=Hd (show Calls Tryz.prog 80 #[.agg #[.int .i64 x0,.int .i64 x1,.int .i64 x2,.slice X v.length d]] wr (Says (.bool q) wr) from by rw[←hq];exact bright_any X d ⟨x0,x1,x2,v⟩ wr)
   cases q with
   |false=>
    have hR:OK=false:=hno (fun h=>by have:=hbx h;rw[hq]at this;cases this)
    subst hR;have BW:=Hd hbw;clear hcs hx hbw hok hno hsu hbx hq hall hB;go_wp2_with fail;refine NR.out.mono ?_;rintro e w3 ⟨rfl,b3⟩;have BB:=Hd (below_on BW.out b3);clear b3 NR BW;go_wp2;go_ret;exact⟨rfl,BB.out⟩
   |true=>
    obtain⟨o1,o2,o3⟩:=Ca.right_obj hq;dsimp only at o1 o2 o3;obtain⟨o,rfl⟩:∃o:Nat,x0=(o:Int):=⟨x0.toNat,by omega⟩
    have ho:o<256:=by omega
    have ho0:(0:Int)≤(o:Int):=by omega
    have ho1:(o:Int)<256:=by omega
    have hoks:=hok o rfl;rw[hq]at hoks;have hm:=hB.marks_cell o ho;have hst:=hB.marks_put o ho true
    have hst2:=hst.marks_same (f':=Ca.seen L (k+1)) (fun i _=>by
     rw[hsu i]
     by_cases e:i=o
     ·subst e;simp
     ·rw[if_neg e,decide_eq_false (by omega),Bool.or_false])
    have hmf:=hB.free o;have HST:=Hd hst2;have BW:=Hd hbw;have HALL:=Hd hall;have HB:=Hd hB;have HOKS:=Hd hoks;have HSU:=Hd hsu;have Hno:=Hd hno;clear hcs hx hbw hok hno hsu hbx hq hall hB hst hst2 hoks;cases hs:Ca.seen L k o with
    |true=>
     have hR:OK=false:=Hno.out (fun h=>by have:=(HOKS.out.1 h).2;rw[hs]at this;cases this)
     subst hR;rw[hs]at hm;clear hs HST;go_wp2_with fail;refine NR.out.mono ?_;rintro e w3 ⟨rfl,b3⟩;have hm3:=cell_later b3 hm;have e03:=cell_later b3 e0;have BB:=Hd (below_on BW.out b3);clear b3 NR BW hm e0 e1 e2 e3;go_wp2;go_ret;exact⟨rfl,BB.out⟩
    |false=>
     have hok:=HOKS.out.2 ⟨rfl,hs⟩;have HOK:=Hd hok;rw[hs]at hm;clear hs hok HST;go_wp2_with fail;refine NR.out.mono ?_;rintro e w3 ⟨rfl,b3⟩;have hm3:=cell_later b3 hm;have e03:=cell_later b3 e0;have hB3:=HB.out.later b3;have hmf3:=hB3.free o
     have hst2:=(hB3.marks_put o ho true).marks_same (f':=Ca.seen L (k+1)) (fun i _=>by
      rw[HSU.out i]
      by_cases e:i=o
      ·subst e;simp
      ·rw[if_neg e,decide_eq_false (by omega),Bool.or_false])
     have HST:=Hd hst2;have BB:=Hd ((below_on BW.out b3).setCell (p:=⟨w.heap.size,o,none⟩) (Nat.le_refl _) (.bool true));clear b3 NR BW hm e0 e1 e2 e3 hst2 hB3 hmf;go_wp2_with fail
     go_roundw
     case rel=>
      refine⟨k+1,by omega,by go_num,fun j hj =>?_,HST.out,BB.out⟩
      by_cases e:j=k
      ·subst e;exact HOK.out
      ·exact HALL.out j (by omega)
     case measure=>simp[intOf];omega
  ·obtain rfl:k=L.length:=by omega
   have hR:OK=true:=hYES.out (fun j hj=>hall j (by rw[List.length_map]at hj;exact hj))
   have hu:=hUO.out hall;subst hR;have NU:=Hd (cused_any A c L wr (HL.out.later hbw) (by omega))
   obtain⟨U,hU⟩:∃U,Ca.used (L.map Bc.b)=U:=⟨_,rfl⟩;rw[hU]at NU ⊢;have BW:=Hd hbw;have HU:=Hd hU;clear hall hB hbw hu hU hYES;go_wp2_with fail;refine NU.out.mono ?_;rintro e w3 ⟨rfl,b3⟩;have BB:=Hd (below_on BW.out b3);clear b3 NU BW;go_wp2;go_ret;exact⟨by rw[HU.out];simp,BB.out⟩
theorem vreached_any(q:Vl)(y:Wr)(w:World)(h:VwAt w q):Calls Tryz.prog 58 #[.agg (vwCells q),.agg (Nt.wrArr y)] w (Says (.bool (Vw.has q.vw y)) w):=by
 obtain⟨t,ht⟩:∃t,Vw.has q.vw y=t:=⟨_,rfl⟩;rw[ht];obtain⟨R,hR⟩:∃R,Tr.rchR (q.z.map Zc.zn) q.k y.2.2.1=R:=⟨_,rfl⟩;have HT:=Hd (show hasOf R y.1 y.2.1=t from by rw[←hR];exact ht)
 have b0:=below_new (below_new (Below.refl w.heap.size w) (.cells (vwCells q) 27)) (.cells (Nt.wrArr y) 52);have V0:=(Blk.new w 27 (vwCells q)).alloc (.cells (Nt.wrArr y) 52);have Y0:=Blk.new (w.alloc (.cells (vwCells q) 27)) 52 (Nt.wrArr y);rw[World.size_alloc]at Y0;obtain⟨W,hW⟩:∃W,(w.alloc (.cells (vwCells q) 27)).alloc (.cells (Nt.wrArr y) 52)=W:=⟨_,rfl⟩;rw[hW]at b0 V0 Y0;have HW:=Hd hW;obtain⟨g,hg⟩:∃g,w.heap.size=g:=⟨_,rfl⟩;rw[hg]at V0 Y0
 have NR:=Hd (fun w' (hb:Below W.heap.size W w')=>show Calls Tryz.prog 36 #[.slice q.Z q.z.length q.cz,.slice q.K q.k.length q.ck,.int .i64 y.2.2.1] w' (Gives R w') from by
  have h1:=(h.later b0).later hb;rw[←hR];exact zreach_any q.Z q.K q.cz q.ck q.z q.k y.2.2.1 w' h1.z h1.k)
 have B0:=Hd b0;have v0:W.cell? ⟨g,0,none⟩=some (.slice q.K q.k.length q.ck):=V0.cell (i:=0) rfl;have v1:W.cell? ⟨g,1,none⟩=some (.slice q.Z q.z.length q.cz):=V0.cell (i:=1) rfl;have y0:W.cell? ⟨g+1,0,none⟩=some (.int .i64 y.1):=Y0.cell (i:=0) rfl;have y1:W.cell? ⟨g+1,1,none⟩=some (.int .i64 y.2.1):=Y0.cell (i:=1) rfl;have y2:W.cell? ⟨g+1,2,none⟩=some (.int .i64 y.2.2.1):=Y0.cell (i:=2) rfl;clear ht hR h b0 V0 Y0 hW
 go_enter Tryz.func58,Tryz.ntmps58
 go_upto_region 1 with (fail)
 rw[HW.out];clear HW
 refine wp_region_facts 10 (by kernel_rfl) (by kernel_rfl)
  (fun v=>{ tmps:=#[.agg (vwCells q),.agg (Nt.wrArr y),.pointer (some ⟨g,0,none⟩),.pointer (some ⟨g+1,0,none⟩),.bool false,v 0,v 1,v 2,v 3,v 4,v 5,v 6,v 7,v 8,v 9],defers:=[] }) (fun _=>undef)
  (fun i x wx=>match i with
   |0=>x = .pointer (some ⟨g,1,none⟩)
   |1=>x = .slice q.Z q.z.length q.cz
   |2=>x = .pointer (some ⟨g,0,none⟩)
   |3=>x = .slice q.K q.k.length q.ck
   |4=>x = .pointer (some ⟨g+1,2,none⟩)
   |5=>x = .int .i64 y.2.2.1
   |6=>∃A9 c9,x = .slice A9 R.length c9∧OneL wx A9 c9 R
   |7=>x = .pointer (some ⟨g+1,0,none⟩)
   |8=>x = .agg #[.int .i64 y.1,.int .i64 y.2.1]
   |9=>x = .bool t
   |_=>True)
  (fun w1 w2=>Below w1.heap.size w1 w2) (fun h1 h2=>below_on h1 h2) (fun _=>Below.refl _ _) (Below.drew (Below.refl _ _)) ?stabR ?stepR ?doneR
 case stabR=>
  rintro i x w1 w2 h hb
  match i,h with
  |0,h=>exact h
  |1,h=>exact h
  |2,h=>exact h
  |3,h=>exact h
  |4,h=>exact h
  |5,h=>exact h
  |6,h=>obtain⟨A9,c9,e9,h9⟩:=h;exact⟨A9,c9,e9,h9.later hb⟩
  |7,h=>exact h
  |8,h=>exact h
  |9,h=>exact h
  |i+10,_=>trivial
 case stepR=>
  intro i hi v w' hb hd
  match i,hi with
  |0,_=>
   refine wpOp_oneH rfl fun KK HKK =>?_
   clear hd;go_wp2;exact HKK.out _ _ ⟨_,(by simp[upd]),Below.refl _ _,rfl⟩
  |1,_=>
   have h0:v 0=_:=hdx hd 0 (by kernel_rfl)
   refine wpOp_oneH rfl fun KK HKK =>?_
   clear hd;rw[h0];have q0:=cell_later hb v1;go_wp2;exact HKK.out _ _ ⟨_,(by simp[upd,h0]),Below.refl _ _,rfl⟩
  |2,_=>
   refine wpOp_oneH rfl fun KK HKK =>?_
   clear hd;go_wp2;exact HKK.out _ _ ⟨_,(by simp[upd]),Below.refl _ _,rfl⟩
  |3,_=>
   have h2:v 2=_:=hdx hd 2 (by kernel_rfl)
   refine wpOp_oneH rfl fun KK HKK =>?_
   clear hd;rw[h2];have q0:=cell_later hb v0;go_wp2;exact HKK.out _ _ ⟨_,(by simp[upd,h2]),Below.refl _ _,rfl⟩
  |4,_=>
   refine wpOp_oneH rfl fun KK HKK =>?_
   clear hd;go_wp2;exact HKK.out _ _ ⟨_,(by simp[upd]),Below.refl _ _,rfl⟩
  |5,_=>
   have h4:v 4=_:=hdx hd 4 (by kernel_rfl)
   refine wpOp_oneH rfl fun KK HKK =>?_
   clear hd;rw[h4];have q0:=cell_later hb y2;go_wp2;exact HKK.out _ _ ⟨_,(by simp[upd,h4]),Below.refl _ _,rfl⟩
  |6,_=>
   have h1:v 1=_:=hdx hd 1 (by kernel_rfl)
   have h3:v 3=_:=hdx hd 3 (by kernel_rfl)
   have h5:v 5=_:=hdx hd 5 (by kernel_rfl)
   refine wpOp_oneH rfl fun KK HKK =>?_
   clear hd;rw[h1,h3,h5];go_wp2_with fail;refine(NR.out _ hb).mono ?_;rintro e w'' ⟨v6,rfl,ho6,b⟩;obtain⟨A6,c6,rfl,hB6⟩:=OneL.of_own ho6;go_wp2;exact HKK.out _ _ ⟨_,(by simp[upd,h1,h3,h5]),b,A6,c6,rfl,hB6⟩
  |7,_=>
   refine wpOp_oneH rfl fun KK HKK =>?_
   clear hd;go_wp2;exact HKK.out _ _ ⟨_,(by simp[upd]),Below.refl _ _,rfl⟩
  |8,_=>
   have h7:v 7=_:=hdx hd 7 (by kernel_rfl)
   refine wpOp_oneH rfl fun KK HKK =>?_
   clear hd;rw[h7];have q0:=cell_later hb y0;have q1:=cell_later hb y1;go_wp2;exact HKK.out _ _ ⟨_,(by simp[upd,h7]),Below.refl _ _,rfl⟩
  |9,_=>
   obtain⟨B6,d6,h6,hB6⟩:=hd 6 (List.elem_iff.1 (by kernel_rfl))
   have h8:v 8=_:=hdx hd 8 (by kernel_rfl)
   refine wpOp_oneH rfl fun KK HKK =>?_
   clear hd;rw[h6,h8];have NH:=Hd (rhas_any B6 d6 R y.1 y.2.1 w' hB6.len hB6.stamps);go_wp2_with fail;refine NH.out.mono ?_;rintro e w'' ⟨rfl,b⟩;rw[HT.out];go_wp2;exact HKK.out _ _ ⟨_,(by simp[upd,h6,h8]),b,rfl⟩
  |k+10,hk=>exact absurd hk (by omega)
 case doneR=>
  intro v w5 hb hf;have h0:v 0=_:=hf 0 (by decide)
  have h1:v 1=_:=hf 1 (by decide)
  have h2:v 2=_:=hf 2 (by decide)
  have h3:v 3=_:=hf 3 (by decide)
  have h4:v 4=_:=hf 4 (by decide)
  have h5:v 5=_:=hf 5 (by decide)
  obtain⟨B6,d6,h6,hB6⟩:=hf 6 (by decide)
  have h7:v 7=_:=hf 7 (by decide)
  have h8:v 8=_:=hf 8 (by decide)
  have h9:v 9=_:=hf 9 (by decide)
  clear hf;rw[h0,h1,h2,h3,h4,h5,h6,h7,h8,h9];have BB:=Hd (below_on B0.out hb);clear hb B0 hB6;go_wp2;go_ret;exact⟨rfl,BB.out⟩
theorem vwanted_any(q:Vl)(X:Option Addr)(d:Nat)(x:Bd)(w:World)(h:VwAt w q):Calls Tryz.prog 59 #[.agg (vwCells q),.agg (bdCells X d x)] w (Says (.bool (Vw.wants q.vw x)) w):=by
 obtain⟨x0,x1,x2,vl⟩:=x;obtain⟨t,ht⟩:∃t,Vw.wants q.vw ⟨x0,x1,x2,vl⟩=t:=⟨_,rfl⟩;rw[ht];obtain⟨⟨⟨a0,a1,a2,a3⟩,ok⟩,hp⟩:∃p,Nt.at_ q.h x0=p:=⟨_,rfl⟩;have hT:(ok&&(decide (a0=x1∧a1=x2) && !a3))=t:=(fun p (hp:Nt.at_ q.h x0=p)=>show(p.2&&(decide (p.1.1=x1∧p.1.2.1=x2) && !p.1.2.2.2))=t from by subst hp;exact ht) _ hp
 have b0:=below_new (below_new (Below.refl w.heap.size w) (.cells (vwCells q) 27)) (.cells (bdCells X d ⟨x0,x1,x2,vl⟩) 49);have V0:=(Blk.new w 27 (vwCells q)).alloc (.cells (bdCells X d ⟨x0,x1,x2,vl⟩) 49);have Y0:=Blk.new (w.alloc (.cells (vwCells q) 27)) 49 (bdCells X d ⟨x0,x1,x2,vl⟩);rw[World.size_alloc]at Y0;obtain⟨W,hW⟩:∃W,(w.alloc (.cells (vwCells q) 27)).alloc (.cells (bdCells X d ⟨x0,x1,x2,vl⟩) 49)=W:=⟨_,rfl⟩;rw[hW]at b0 V0 Y0;have HW:=Hd hW;obtain⟨g,hg⟩:∃g,w.heap.size=g:=⟨_,rfl⟩;rw[hg]at V0 Y0
 have NA:=Hd (show Calls Tryz.prog 88 #[.slice q.H q.h.length q.ch,.int .i64 x0] W (Says (.tuple #[.agg #[.int .i64 a0,.int .i64 a1,.int .i64 a2,.bool a3],.bool ok]) W) from by
  have n:=nat_any q.H q.ch q.h x0 W (h.later b0).h;rw[hp]at n;exact n)
 have B0:=Hd b0;have v2:W.cell? ⟨g,2,none⟩=some (.slice q.H q.h.length q.ch):=V0.cell (i:=2) rfl;have y0:W.cell? ⟨g+1,0,none⟩=some (.int .i64 x0):=Y0.cell (i:=0) rfl;have y1:W.cell? ⟨g+1,1,none⟩=some (.int .i64 x1):=Y0.cell (i:=1) rfl;have y2:W.cell? ⟨g+1,2,none⟩=some (.int .i64 x2):=Y0.cell (i:=2) rfl;have HT:=Hd hT;clear ht hp h b0 V0 Y0 hW hT
 go_enter Tryz.func59,Tryz.ntmps59
 go_upto_region 1 with (fail)
 rw[HW.out];clear HW;go_wp2_with fail;refine NA.out.mono ?_;rintro e w2 ⟨rfl,b2⟩;have bz:=below_new (Below.refl w2.heap.size w2) (.cells #[.int .i64 a0,.int .i64 a1,.int .i64 a2,.bool a3] 52);have BB:=Hd (below_on B0.out (below_on b2 bz));have A0:=Blk.new w2 52 #[.int .i64 a0,.int .i64 a1,.int .i64 a2,.bool a3];have z1:=cell_later (below_on b2 bz) y1;have z2:=cell_later (below_on b2 bz) y2;have c0:=A0.cell (i:=0) rfl;have c1:=A0.cell (i:=1) rfl;have c3:=A0.cell (i:=3) rfl;clear b2 bz A0 NA B0 v2 y0 y1 y2;cases ok with
 |false=>
  obtain rfl:t=false:=HT.out.symm;clear HT;go_wp2;go_ret;exact⟨rfl,BB.out⟩
 |true=>
  by_cases e0:a0=x1
  ·by_cases e1:a1=x2
   ·have d0:(a0 == x1)=true:=beq_iff_eq.2 e0
    have d1:(a1 == x2)=true:=beq_iff_eq.2 e1;obtain rfl:t = !a3:=by rw[←HT.out,decide_eq_true ⟨e0,e1⟩];rfl
    clear HT e0 e1;go_wp2;go_ret;exact⟨rfl,BB.out⟩
   ·have d0:(a0 == x1)=true:=beq_iff_eq.2 e0
    have d1:(a1 == x2)=false:=beq_eq_false_iff_ne.2 e1;obtain rfl:t=false:=by rw[←HT.out,decide_eq_false (fun h=>e1 h.2)];rfl
    clear HT e0 e1;go_wp2;go_ret;exact⟨rfl,BB.out⟩
  ·have d0:(a0 == x1)=false:=beq_eq_false_iff_ne.2 e0
   obtain rfl:t=false:=by rw[←HT.out,decide_eq_false (fun h=>e0 h.1)];rfl
   clear HT e0;go_wp2;go_ret;exact⟨rfl,BB.out⟩
end Go.Proofs.YtjlfehpockfkdaaGreat
