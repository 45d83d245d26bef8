/-
  What the rows of this claim stand on: TpEach, TpPieces, TpBlur, TpReach, TpSince, TpPut, DelS, TpStr, TpStay, TpState.
-/
import Derived.Test.YtjlfehpockfkdaaGreatB01
import Derived.RangeFuncFrom
import Derived.RangeFuncNested
import Derived.RangeFuncBound
import Derived.RangeFuncCalls
import Derived.RangeFuncLeaves
import Derived.RangeFuncWrites
import Derived.Shelf.Abstract
import Derived.Shelf.RegionOpen
import Derived.OwnWalkIn
import Derived.TacticsInMore
import Derived.LoopNIn
import Derived.LoopIn
import Derived.WalkMore
import Derived.Lib.QuietBelow
import Derived.Test.YtjlfehpockfkdaaGreatB02
import Derived.Test.YtjlfehpockfkdaaGreatB04
import Derived.Test.YtjlfehpockfkdaaGreatB03
namespace Go.Proofs.YtjlfehpockfkdaaGreat
open Go.RowKit Go.Shelf Fb
attribute [local go_sem] Oper.semAt_some
def Zc.none:Zc:=⟨0,0,Option.none,0,[]⟩
def pcc(R:Zc)(hi:Int):Int→List Zc→List Zc
 |k,[]=>if k≤hi then [⟨k,hi,R.X,R.c,R.l⟩] else []
 |k,z::r=>(if k<z.lo then [⟨k,z.lo-1,R.X,R.c,R.l⟩] else [])++z::pcc R hi (z.hi+1) r
theorem pcc_zn(R:Zc)(hi:Int):∀(L:List Zc) (k:Int),(pcc R hi k L).map Zc.zn=Tr.pcs R.l hi k (L.map Zc.zn)
 | [],k=>by
  show(if k≤hi then [(⟨k,hi,R.X,R.c,R.l⟩:Zc)] else []).map Zc.zn=if k≤hi then [(k,hi,R.l)] else []
  by_cases h:k≤hi
  ·rw[if_pos h,if_pos h];rfl
  ·rw[if_neg h,if_neg h];rfl
 |z::r,k=>by
  have ih:=pcc_zn R hi r (z.hi+1)
  show((if k<z.lo then _ else [])++z::pcc R hi (z.hi+1) r).map Zc.zn=(if k<z.lo then [(k,z.lo-1,R.l)] else [])++z.zn::Tr.pcs R.l hi (z.hi+1) (r.map Zc.zn)
  rw[List.map_append,List.map_cons,ih]
  by_cases h:k<z.lo
  ·rw[if_pos h,if_pos h];rfl
  ·rw[if_neg h,if_neg h];rfl
theorem pcc_mem(R:Zc)(hi:Int):∀(L:List Zc) (k:Int) (z:Zc),z∈pcc R hi k L→z∈L∨(z.X=R.X∧z.c=R.c∧z.l=R.l)
 | [],k,z,h=>by
  unfold pcc at h
  split at h
  ·rw[List.mem_singleton]at h
   subst h
   exact .inr ⟨rfl,rfl,rfl⟩
  ·cases h
 |y::r,k,z,h=>by
  have h:z∈(if k<y.lo then [(⟨k,y.lo-1,R.X,R.c,R.l⟩:Zc)] else [])++y::pcc R hi (y.hi+1) r:=h
  rcases List.mem_append.1 h with h|h
  ·split at h
   ·rw[List.mem_singleton]at h
    subst h
    exact .inr ⟨rfl,rfl,rfl⟩
   ·cases h
  ·rcases List.mem_cons.1 h with rfl|h
   ·exact .inl List.mem_cons_self
   ·rcases pcc_mem R hi r _ z h with h|h
    ·exact .inl (List.mem_cons_of_mem _ h)
    ·exact .inr h
def toldP(x:Zc):Array Value:=#[.agg #[.int .i64 x.lo,.int .i64 x.hi],.slice x.X x.l.length x.c]
def tellP(P:List Zc)(k:Nat):Array Value:=toldP (P.getD k Zc.none)
theorem drop_one{P:List Zc}{m:Nat}{a:Zc}{r:List Zc}(h:P.drop m=a::r):m<P.length∧P.getD m Zc.none=a∧P.drop (m+1)=r:=by
 have hlt:m<P.length:=by
  rcases Nat.lt_or_ge m P.length with h1|h1
  ·exact h1
  ·rw[List.drop_eq_nil_of_le h1]at h;cases h
 rw[List.drop_eq_getElem_cons hlt]at h
 injection h with h1 h2
 exact⟨hlt,by rw[List.getD_eq_getElem?_getD,List.getElem?_eq_getElem hlt];exact h1,h2⟩
set_option maxRecDepth 100000 in
set_option maxHeartbeats 6400000 in
theorem eachP_in(g:Nat)(L P:List Zc)(R:Zc)(lo hi:Int)(hP:pcc R hi lo L=P)(hL:∀z∈L,0≤z.lo∧z.lo≤255∧0≤z.hi∧z.hi≤255)(hlo:0≤lo∧lo≤255)(n:Nat)(hn:1≤n)
  (l bw bz br c s:Nat)(A:Option Addr)(J Jx:List Nat→World→Prop)(hJa:AbidesFrom s J)
  (hY:∀pre x W,J pre W→pre.length<P.length→YieldAt Fence.wide (n-1) Tryz.prog l (tellP P x) W fun e W'=>(e = .returned (.bool true)∧J (pre++[x]) W'∧KeepB g W W')∨(e = .returned (.bool false)∧Jx (pre++[x]) W'))
  (W:World)(hlen:L.length≤9223372036854775807)(hok:RowOk g W)(sw:Safe g W bw)(sr:Safe g W br)
  (w0:W.cell? ⟨bw,0,none⟩=some (.int .i64 lo))(w1:W.cell? ⟨bw,1,none⟩=some (.int .i64 hi))(z0:W.cell? ⟨bz,0,none⟩=some (.slice A L.length c))(r0:W.cell? ⟨br,0,none⟩=some (.slice R.X R.l.length R.c))
  (hZ:L≠[]→∃b off,A=some ⟨b,off,none⟩∧Safe g W b∧∀k x,L[k]?=some x→W.cell? ⟨b,off+k*3,none⟩=some (.int .i64 x.lo)∧W.cell? ⟨b,off+k*3+1,none⟩=some (.int .i64 x.hi)∧W.cell? ⟨b,off+k*3+2,none⟩=some (.slice x.X x.l.length x.c))
  (h0:J [] W) :
  CallsIn Fence.wide n Tryz.prog 163 #[.func (.yield l) #[] #[],.pointer (some ⟨bw,0,none⟩),.pointer (some ⟨bz,0,none⟩),.pointer (some ⟨br,0,none⟩)] W fun e W'=>(∃v,e = .returned v) ∧
   ((∃ys,ys=List.range P.length∧J ys W')∨(∃pre,pre <+: List.range P.length∧Jx pre W')):=by
 have HL:=Hd hL
 have HJA:=Hd hJa
 have HZ:=Hd hZ
 have HP:=Hd hP
 have SW:=Hd sw
 have SR:=Hd sr
 have OK:=Hd hok
 have HPR:∀m,m<P.length→List.range m++[m] <+: List.range P.length:=fun m hm=>by
  rw[←List.range_succ]
  exact⟨(List.range P.length).drop (m+1),by
   have:=List.take_append_drop (m+1) (List.range P.length)
   rw[List.take_range,Nat.min_eq_left (by omega)]at this
   exact this⟩
 have HPR:=Hd HPR
 clear hL hJa hZ hP sw sr hok
 refine callsIn_of_wp Tryz.func163 rfl trivial ?_ rfl
 simp only[Tryz.ntmps163,List.size_toArray,List.length_cons,List.length_nil,Nat.reduceAdd,Nat.reduceSub,Array.replicate_succ,Array.replicate_zero,List.push_toArray,List.append_toArray,List.nil_append,List.cons_append]
 gi_wp2_with fail
 gi_loopw [5,12] (fun s5 s12 wr=>∃(k m:Nat) (nx:Int),k≤L.length∧s12 = .int .i64 (k:Int)∧s5 = .int .i64 nx∧0≤nx∧nx≤256∧P.drop m=pcc R hi nx (L.drop k)∧m≤P.length∧J (List.range m) wr∧KeepB g W wr) (fun _ s12 _=>L.length-(intOf s12).toNat)
 case atStart=>exact⟨0,0,lo,Nat.zero_le _,rfl,rfl,hlo.1,by omega,HP.out.symm,Nat.zero_le _,h0,KeepB.refl _ _⟩
 case round=>
  obtain⟨k,m,nx,hk,rfl,rfl,hn0,hn1,hdr,hmP,hJs,hkp⟩:=hrel
  have HDR:=Hd hdr
  have r0':=SR.out.cell hkp r0
  have w1':=SW.out.cell hkp w1
  clear hdr
  by_cases hlt:k<L.length
  ·have hne:L≠[]:=fun e=>by subst e;simp at hlt
   obtain⟨b,off,hA,sb,hcs⟩:=HZ.out hne
   subst hA
   obtain⟨x,hx⟩:∃x,L[k]?=some x:=⟨L[k],List.getElem?_eq_getElem hlt⟩
   obtain⟨e0,e1,e2⟩:=hcs k x hx
   replace e0:=sb.cell hkp e0
   replace e1:=sb.cell hkp e1
   replace e2:=sb.cell hkp e2
   obtain⟨hb1,hb2,hb3,hb4⟩:=HL.out x (List.mem_of_getElem? hx)
   have hdl:L.drop k=x::L.drop (k+1):=by
    rw[List.drop_eq_getElem_cons hlt]
    congr 1
    exact(List.getElem?_eq_some_iff.1 hx).2
   have hi0:(0:Int)≤(k:Int):=by omega
   have hi1:(k:Int)<(L.length:Int):=by omega
   have HD2:=HDR.out
   rw[hdl]at HD2
   have HD2:P.drop m=(if nx<x.lo then [⟨nx,x.lo-1,R.X,R.c,R.l⟩] else [])++x::pcc R hi (x.hi+1) (L.drop (k+1)):=HD2
   obtain⟨zlo,zhi,X,cx,zl⟩:=x
   dsimp only at e0 e1 e2 hb1 hb2 hb3 hb4 HD2
   have hok1:=OK.out.keep hkp
   have b1:=below_new (Below.refl wr.heap.size wr) (.cells #[.int .i64 zlo,.int .i64 zhi,.slice X zl.length cx] 99)
   have s1:=Safe.new hok1 #[.int .i64 zlo,.int .i64 zhi,.slice X zl.length cx] 99
   have hJ1:J (List.range m) (wr.alloc (.cells #[.int .i64 zlo,.int .i64 zhi,.slice X zl.length cx] 99)):=HJA.out _ _ _ none hJs (World.grownBy_alloc _ _ none) (fun r e=>by cases e)
   have B2:=Blk.new wr 99 #[.int .i64 zlo,.int .i64 zhi,.slice X zl.length cx]
   have kp1:=hkp.trans (KeepB.below hok1 b1)
   have g0:=B2.cell (i:=0) rfl
   have g1:=B2.cell (i:=1) rfl
   have g2:=B2.cell (i:=2) rfl
   have q0:=SR.out.cell kp1 r0
   have S1:=Hd s1
   have KP1:=Hd kp1
   clear b1 hcs hJs hkp hok1 B2 s1 sb hx hdl HDR kp1
   by_cases hgap:nx<zlo
   ·rw[if_pos hgap]at HD2
    obtain⟨hm1,hm2,hm3⟩:=drop_one HD2
    obtain⟨hm4,hm5,hm6⟩:=drop_one hm3
    obtain⟨fn,tmps,assign,body,hy,hR⟩:=hY _ m _ hJ1 (by rw[List.length_range];exact hm1)
    rw[show tellP P m=#[.agg #[.int .i64 nx,.int .i64 (zlo-1)],.slice R.X R.l.length R.c] from by unfold tellP;rw[hm2];rfl]at hy
    have hd:decide (nx<zlo)=true:=decide_eq_true hgap
    have hw1:IntKind.i64.wrap (zlo-1)=zlo-1:=IntWalk.i64_in _ (by omega)
    have HM:=Hd hm5
    have HM6:=Hd hm6
    have HPM:=Hd (HPR.out m hm1)
    clear hm2 hm3 hm5 hm6 HD2 hgap
    gi_wp2_with fail
    refine hR.mono ?_
    rintro e W3 (⟨rfl,hJ3,hk3⟩|⟨rfl,hJx3⟩)
    ·clear hy hR fn tmps assign body
     rw[←List.range_succ]at hJ3
     have p0:=S1.out.cell hk3 g0
     have p1:=S1.out.cell hk3 g1
     have p2:=S1.out.cell hk3 g2
     have s3:=(S1.out.keep hk3).2
     have kp3:=KP1.out.trans hk3
     obtain⟨fn,tmps,assign,body,hy,hR⟩:=hY _ (m+1) W3 hJ3 (by rw[List.length_range];exact hm4)
     rw[show tellP P (m+1)=#[.agg #[.int .i64 zlo,.int .i64 zhi],.slice X zl.length cx] from by unfold tellP;rw[HM.out];rfl]at hy
     have HPM2:=Hd (HPR.out (m+1) hm4)
     clear HPM hk3 hJ1 g0 g1 g2 q0 e0 e1 e2 r0' w1' S1
     gi_wp2_with fail
     refine hR.mono ?_
     rintro e W4 (⟨rfl,hJ4,hk4⟩|⟨rfl,hJx4⟩)
     ·clear hy hR fn tmps assign body
      rw[←List.range_succ]at hJ4
      have t1:=s3.cell hk4 p1
      have kp4:=kp3.trans hk4
      have hw2:IntKind.i64.wrap (zhi+1)=zhi+1:=IntWalk.i64_in _ (by omega)
      clear p0 p1 p2 s3 kp3 hk4
      gi_wp2_with fail
      go_roundw
      case rel=>exact⟨k+1,m+2,zhi+1,by omega,by first|rfl|go_num,rfl,by omega,by omega,HM6.out,by omega,hJ4,kp4⟩
      case measure=>simp[intOf];omega
     ·gi_wp2_with fail
      refine bodyPost_ret (results_none rfl _ _ _) rfl ?_
      exact⟨⟨_,rfl⟩,.inr ⟨_,HPM2.out,hJx4⟩⟩
    ·gi_wp2_with fail
     refine bodyPost_ret (results_none rfl _ _ _) rfl ?_
     exact⟨⟨_,rfl⟩,.inr ⟨_,HPM.out,hJx3⟩⟩
   ·rw[if_neg hgap]at HD2
    have HD2:P.drop m=(⟨zlo,zhi,X,cx,zl⟩:Zc)::pcc R hi (zhi+1) (L.drop (k+1)):=HD2
    obtain⟨hm4,hm5,hm6⟩:=drop_one HD2
    obtain⟨fn,tmps,assign,body,hy,hR⟩:=hY _ m _ hJ1 (by rw[List.length_range];exact hm4)
    rw[show tellP P m=#[.agg #[.int .i64 zlo,.int .i64 zhi],.slice X zl.length cx] from by unfold tellP;rw[hm5];rfl]at hy
    have hd:decide (nx<zlo)=false:=decide_eq_false hgap
    have HM6:=Hd hm6
    have HPM:=Hd (HPR.out m hm4)
    clear hm5 hm6 HD2 hgap
    gi_wp2_with fail
    refine⟨fun _ h=>(by cases h),?_⟩
    gi_wp2_with fail
    refine hR.mono ?_
    rintro e W3 (⟨rfl,hJ3,hk3⟩|⟨rfl,hJx3⟩)
    ·clear hy hR fn tmps assign body
     rw[←List.range_succ]at hJ3
     have t1:=S1.out.cell hk3 g1
     have kp3:=KP1.out.trans hk3
     have hw2:IntKind.i64.wrap (zhi+1)=zhi+1:=IntWalk.i64_in _ (by omega)
     clear hk3 hJ1 g0 g1 g2 q0 e0 e1 e2 r0' w1' S1
     gi_wp2_with fail
     go_roundw
     case rel=>exact⟨k+1,m+1,zhi+1,by omega,by first|rfl|go_num,rfl,by omega,by omega,HM6.out,by omega,hJ3,kp3⟩
     case measure=>simp[intOf];omega
    ·gi_wp2_with fail
     refine bodyPost_ret (results_none rfl _ _ _) rfl ?_
     exact⟨⟨_,rfl⟩,.inr ⟨_,HPM.out,hJx3⟩⟩
  ·have hkl:k=L.length:=by omega
   have hdk:decide ((k:Int)<(L.length:Int))=false:=decide_eq_false (by omega)
   have HD2:P.drop m=if nx≤hi then [⟨nx,hi,R.X,R.c,R.l⟩] else []:=by rw[HDR.out,hkl,List.drop_length];rfl
   clear HDR hkl
   by_cases hgap:nx≤hi
   ·rw[if_pos hgap]at HD2
    obtain⟨hm4,hm5,hm6⟩:=drop_one HD2
    obtain⟨fn,tmps,assign,body,hy,hR⟩:=hY _ m _ hJs (by rw[List.length_range];exact hm4)
    rw[show tellP P m=#[.agg #[.int .i64 nx,.int .i64 hi],.slice R.X R.l.length R.c] from by unfold tellP;rw[hm5];rfl]at hy
    have hd:decide (nx≤hi)=true:=decide_eq_true hgap
    have HPM:=Hd (HPR.out m hm4)
    have hmN:m+1=P.length:=by
     have:=congrArg List.length HD2
     simp at this
     omega
    have HMN:=Hd hmN
    clear hm5 hm6 HD2 hgap hmN
    gi_wp2_with fail
    refine hR.mono ?_
    rintro e W3 (⟨rfl,hJ3,hk3⟩|⟨rfl,hJx3⟩)
    ·have hJ3:J (List.range P.length) W3:=by rw[←HMN.out,List.range_succ];exact hJ3
     clear hy hR fn tmps assign body
     gi_wp2
     go_end0
     exact⟨⟨_,rfl⟩,.inl ⟨_,rfl,hJ3⟩⟩
    ·gi_wp2
     go_end0
     exact⟨⟨_,rfl⟩,.inr ⟨_,HPM.out,hJx3⟩⟩
   ·rw[if_neg hgap]at HD2
    have hd:decide (nx≤hi)=false:=decide_eq_false hgap
    have hmN:m=P.length:=by
     have:=List.drop_eq_nil_iff.1 HD2
     omega
    subst hmN
    clear HD2 hgap
    gi_wp2
    go_end0
    exact⟨⟨_,rfl⟩,.inl ⟨_,rfl,hJs⟩⟩
end Go.Proofs.YtjlfehpockfkdaaGreat
namespace Go.Proofs.YtjlfehpockfkdaaGreat
open Go.RowKit Go.Shelf Fb
def WalkerP(A:Option Addr)(c:Nat)(L:List Zc)(R:Zc)(lo hi:Int)(w:World)(e:Ending)(w1:World):Prop:=
 ∃bw bz br,e = .returned (.func (.func 163) #[] #[.pointer (some ⟨bw,0,none⟩),.pointer (some ⟨bz,0,none⟩),.pointer (some ⟨br,0,none⟩)]) ∧
  Blk w1 bw 97 #[.int .i64 lo,.int .i64 hi]∧Blk w1 bz 23 #[.slice A L.length c]∧Blk w1 br 22 #[.slice R.X R.l.length R.c]∧w.heap.size≤bw∧w.heap.size≤bz∧w.heap.size≤br∧Below w.heap.size w w1
theorem pieces_any(A:Option Addr)(c:Nat)(L:List Zc)(R:Zc)(lo hi:Int)(w:World) :
  Calls Tryz.prog 119 #[.slice A L.length c,.slice R.X R.l.length R.c,.agg #[.int .i64 lo,.int .i64 hi]] w (WalkerP A c L R lo hi w):=by
 have B0:=((Blk.new w 23 #[.slice A L.length c]).alloc (.cells #[.slice R.X R.l.length R.c] 22)).alloc (.cells #[.int .i64 lo,.int .i64 hi] 97)
 have B1:=(Blk.new (w.alloc (.cells #[.slice A L.length c] 23)) 22 #[.slice R.X R.l.length R.c]).alloc (.cells #[.int .i64 lo,.int .i64 hi] 97)
 have B2:=Blk.new ((w.alloc (.cells #[.slice A L.length c] 23)).alloc (.cells #[.slice R.X R.l.length R.c] 22)) 97 #[.int .i64 lo,.int .i64 hi]
 simp only[World.size_alloc]at B1 B2
 have FIN:=Hd (⟨_,_,_,rfl,B2,B0,B1,by omega,Nat.le_refl _,by omega,below_new (below_new (below_new (Below.refl _ _) _) _) _⟩:WalkerP A c L R lo hi w (.returned (.func (.func 163) #[] #[.pointer (some ⟨w.heap.size+1+1,0,none⟩),.pointer (some ⟨w.heap.size,0,none⟩),.pointer (some ⟨w.heap.size+1,0,none⟩)])) _)
 clear B0 B1 B2
 go_enter Tryz.func119,Tryz.ntmps119
 go_wp2
 go_ret
 exact FIN.out
theorem enters_eachP:∀args w,(callFunc 163 args).run Tryz.prog w = .ok (.enter 163 args) w:=
 enters_of Tryz.func163 (by kernel_rfl) rfl
theorem Blk.isCells{w:World}{g:Nat}{t:TypeId}{cs:Array Value}(h:Blk w g t cs):∃o,w.heap[g]?=some o∧o.isCells=true:=⟨_,h,rfl⟩
theorem Safe.newer{g:Nat}{w w1:World}(h:RowOk g w)(hb:Below w.heap.size w w1){k:Nat}(hk:w.heap.size≤k)(hc:∃o,w1.heap[k]?=some o∧o.isCells=true):Safe g w1 k:=by
 refine⟨hc,by have:=h.lt;omega,fun e =>?_⟩
 rw[rowIn_below h.lt hb]at e
 have:=h.row _ e
 omega
def ZoneSafe(g:Nat)(W:World)(A:Option Addr)(L:List Zc):Prop:=L≠[]→∃b off,A=some ⟨b,off,none⟩∧Safe g W b∧∀k x,L[k]?=some x→W.cell? ⟨b,off+k*3,none⟩=some (.int .i64 x.lo)∧W.cell? ⟨b,off+k*3+1,none⟩=some (.int .i64 x.hi)∧W.cell? ⟨b,off+k*3+2,none⟩=some (.slice x.X x.l.length x.c)
theorem ZoneSafe.below{g:Nat}{W W':World}{A:Option Addr}{L:List Zc}(h:ZoneSafe g W A L)(hr:RowOk g W)(hb:Below W.heap.size W W'):ZoneSafe g W' A L:=fun hne=>by
 obtain⟨b,off,hA,hs,hc⟩:=h hne
 exact⟨b,off,hA,hs.below hr hb,fun k x hx=>⟨cell_later hb (hc k x hx).1,cell_later hb (hc k x hx).2.1,cell_later hb (hc k x hx).2.2⟩⟩
theorem ZoneSafe.old{g:Nat}{w W:World}{A:Option Addr}{c:Nat}{L:List Zc}(h:OneZ w A c L)(hb:Below w.heap.size w W)(hn:w.heap.size≤g)(hr:∀r,rowIn W g=some r→w.heap.size≤r):ZoneSafe g W A L:=fun hne=>by
 obtain⟨b,off,hA,hc⟩:=h.at hne
 obtain⟨x,hx⟩:∃x,L[0]?=some x:=⟨L[0]'(List.length_pos_iff.2 hne),List.getElem?_eq_getElem _⟩
 obtain⟨o,ho,hoc⟩:=cells_of_cell (hc 0 x hx).1
 have hlt:b<w.heap.size:=(Array.getElem?_eq_some_iff.1 ho).1
 exact⟨b,off,hA,Safe.old hn hr hlt ⟨o,(hb.block b hlt).trans ho,hoc⟩,fun k x hx=>⟨cell_later hb (hc k x hx).1,cell_later hb (hc k x hx).2.1,cell_later hb (hc k x hx).2.2⟩⟩
theorem pieces_stops(g n:Nat)(L P:List Zc)(R:Zc)(lo hi:Int)(hP:pcc R hi lo L=P)(hL:∀z∈L,0≤z.lo∧z.lo≤255∧0≤z.hi∧z.hi≤255)(hlo:0≤lo∧lo≤255)(hn:1≤n)(hlen:L.length≤9223372036854775807)(A:Option Addr)(c bw bz br:Nat)(w:World)
  (hok:RowOk g w)(sw:Safe g w bw)(sr:Safe g w br)(Bw:Blk w bw 97 #[.int .i64 lo,.int .i64 hi])(Bz:Blk w bz 23 #[.slice A L.length c])(Br:Blk w br 22 #[.slice R.X R.l.length R.c])(hZ:ZoneSafe g w A L) :
  SeqStopsK Fence.wide n Tryz.prog 163 #[.pointer (some ⟨bw,0,none⟩),.pointer (some ⟨bz,0,none⟩),.pointer (some ⟨br,0,none⟩)] (tellP P) (KeepB g) (· = List.range P.length) (· <+: List.range P.length) P.length w:=
 fun l J Jx W hW hJ _ hY h0=>eachP_in g L P R lo hi hP hL hlo n hn l bw bz br c W.heap.size A J Jx hJ hY W hlen (hok.below hW) (sw.below hok hW) (sr.below hok hW)
  ((Bw.later hW).cell (i:=0) rfl) ((Bw.later hW).cell (i:=1) rfl) ((Bz.later hW).cell (i:=0) rfl) ((Br.later hW).cell (i:=0) rfl) (hZ.below hok hW) h0
end Go.Proofs.YtjlfehpockfkdaaGreat
namespace Go.Proofs.YtjlfehpockfkdaaGreat
open Go.RowKit
namespace Tr
theorem rise_len{hi:Int}:∀(zs:List Zn) (k:Int),Rise hi k zs→k≤hi+1→k+zs.length≤hi+1
 | [],k,_,h=>by simpa using h
 |z::r,k,⟨h1,h2,h3,h4⟩,_=>by
  have:=rise_len r (z.2.1+1) h4 (by omega)
  rw[List.length_cons]
  omega
theorem fmd_len{zs:List Zn}(h:fmd zs=true):zs.length≤256:=by
 have:=rise_len zs 0 (rise_fmd h) (by omega)
 omega
def blL(zs:List Zn):List (Int × Int):=zs.map fun z=>(z.1,z.2.1)
theorem blL_in(zs:List Zn)(o:Nat):Sp.inL (blL zs) o=(at_ zs (o:Int)).isSome:=by
 induction zs with
 |nil=>rfl
 |cons z r ih=>
  rw[at_cons]
  show(holds z (o:Int)||Sp.inL (blL r) o)=_
  rw[ih]
  cases holds z (o:Int)<;>simp
theorem blr_is{zs:List Zn}(h:fmd zs=true):blr zs=Sp.ofL (Sp.inL (blL zs)):=by
 unfold blr
 rw[if_pos h]
 exact Sp.ofL_ext (fun o _=>(blL_in zs o).symm)
end Tr
set_option maxRecDepth 100000 in
set_option maxHeartbeats 3200000 in
theorem tblurred_any(A:Option Addr)(c:Nat)(L:List Zc)(w:World)(h:OneZ w A c L) :
  Calls Tryz.prog 84 #[.slice A L.length c] w (Ans (Tr.blr (L.map Zc.zn)) w):=by
 have N:=tformed_any A c L w h
 have HD:=Hd h
 clear h
 cases hq:Tr.fmd (L.map Zc.zn) with
 |false=>
  have hR:Tr.blr (L.map Zc.zn)=[]:=by unfold Tr.blr;rw[if_neg (fun h=>by rw[hq]at h;exact absurd h Bool.false_ne_true)]
  rw[hR]
  rw[hq]at N
  have NN:=Hd N
  clear N hq hR HD
  go_enter Tryz.func84,Tryz.ntmps84
  go_wp2_with fail
  refine NN.out.mono ?_
  rintro e w1 ⟨rfl,b1⟩
  clear NN
  go_wp2
  go_ret
  exact⟨none,0,rfl,OneL.nil,b1⟩
 |true=>
  rw[hq]at N
  have hlen:=Tr.fmd_len hq
  rw[List.length_map]at hlen
  rw[Tr.blr_is hq]
  obtain⟨zs,hzs⟩:∃zs,Tr.blL (L.map Zc.zn)=zs:=⟨_,rfl⟩
  have hzl:zs.length=L.length:=by rw[←hzs];unfold Tr.blL;rw[List.length_map,List.length_map]
  have hzg:∀k (x:Zc),L[k]?=some x→zs.take (k+1)=zs.take k++[(x.lo,x.hi)]:=fun k x hx=>by
   have hk:=(List.getElem?_eq_some_iff.1 hx).1
   rw[List.take_succ_eq_append_getElem (by rw[hzl];exact hk)]
   congr 1
   have:zs[k]?=some (x.lo,x.hi):=by rw[←hzs];unfold Tr.blL;rw[List.getElem?_map,List.getElem?_map,hx];rfl
   have:=(List.getElem?_eq_some_iff.1 this).2
   rw[this]
  rw[hzs]
  have HZL:=Hd hzl
  have HZG:=Hd hzg
  have NN:=Hd N
  obtain⟨i0,hI,hz0,hz1,hz2⟩:=info_parts infoSt
  obtain⟨i1,hI1,hy0,hy1,hy2⟩:=info_parts (show(Tryz.prog.info? 97).map (fun i=>(i.zero,i.size,i.bytes))=some (some (.agg #[.int .i64 0,.int .i64 0]),2,16) from by kernel_rfl)
  clear N hq hzs hzl hzg hI hz0 hz1 hz2
  go_enter Tryz.func84,Tryz.ntmps84
  go_wp2_with fail
  refine NN.out.mono ?_
  rintro e w1 ⟨rfl,b1⟩
  clear NN
  go_wp2_with fail
  go_loopw [3,11] (fun s3 s11 wr=>∃(k:Nat),k≤L.length∧s11 = .int .i64 (k:Int)∧wr.ownsRow w.heap.size 97 2 s3 k (stCells (zs.take k))∧Below w.heap.size w wr) (fun _ s11 _=>L.length-(intOf s11).toNat)
  case atStart=>exact⟨0,Nat.zero_le _,rfl,⟨rfl,.inl ⟨rfl,rfl⟩⟩,b1⟩
  case round=>
   obtain⟨k,hk,rfl,ho,hbw⟩:=hrel
   obtain⟨VA,vc,hvv,-,hvm,hvn,-⟩:=own_form ho
   subst hvv
   unfold maxLen at hvm
   have HO:=Hd ho
   clear ho b1
   by_cases hlt:k<L.length
   ·have hne:L≠[]:=fun e=>by subst e;simp at hlt
    obtain⟨b,off,hA,hc⟩:=(HD.out.later hbw).at hne
    subst hA
    obtain⟨x,hx⟩:∃x,L[k]?=some x:=⟨L[k],List.getElem?_eq_getElem hlt⟩
    obtain⟨e0,e1,e2⟩:=hc k x hx
    have HT:=Hd (HZG.out k x hx)
    have hi0:(0:Int)≤(k:Int):=by omega
    have hi1:(k:Int)<(L.length:Int):=by omega
    obtain⟨lo,hi,X,cx,l⟩:=x
    dsimp only at e0 e1 e2 HT
    have b2:=below_new (Below.refl wr.heap.size wr) (.cells #[.int .i64 lo,.int .i64 hi,.slice X l.length cx] 99)
    have XB:=Blk.new wr 99 #[.int .i64 lo,.int .i64 hi,.slice X l.length cx]
    obtain⟨W2,hW2⟩:∃W2,wr.alloc (.cells #[.int .i64 lo,.int .i64 hi,.slice X l.length cx] 99)=W2:=⟨_,rfl⟩
    rw[hW2]at b2 XB
    have k0:W2.cell? ⟨wr.heap.size,0,none⟩=some (.int .i64 lo):=XB.cell (i:=0) rfl
    have k1:W2.cell? ⟨wr.heap.size,1,none⟩=some (.int .i64 hi):=XB.cell (i:=1) rfl
    have k2:W2.cell? ⟨wr.heap.size,2,none⟩=some (.slice X l.length cx):=XB.cell (i:=2) rfl
    have b3:=below_new (Below.refl W2.heap.size W2) (.cells #[.int .i64 lo,.int .i64 hi] 97)
    have YB:=Blk.new W2 97 #[.int .i64 lo,.int .i64 hi]
    have hown:=Hd (own_later (own_later HO.out b2) b3)
    have HB3:=Hd (below_on (below_on hbw b2) b3)
    have hy:Lies (W2.alloc (.cells #[.int .i64 lo,.int .i64 hi] 97)) (some ⟨W2.heap.size,0,none⟩) (stCells [(lo,hi)]):=(one_stamp YB).2.2.2
    have hs3:=HB3.out.size
    have HY:=Hd hy
    have HW2:=Hd hW2
    clear hc hne hx XB YB b2 b3 hW2 hy HO hbw
    go_upto_region 7 with (fail)
    rw[HW2.out]
    clear HW2 e0 e1 e2
    go_wp2_with (at_builtin;refine Go.Proofs.YtjlfehpockfkdaaGreat.wpList_append_lies _ rfl _ _ 28 rfl w.heap.size 97 i1 (.agg #[.int .i64 0,.int .i64 0]) 2 16 Tryz.underlying28 hI1 hy0 hy1 hy2 rfl (by decide) (.slice VA k vc) k (stCells (zs.take k)) rfl hown.out (some ⟨W2.heap.size,0,none⟩) 1 1 (fun h=>by cases h) (stCells [(lo,hi)]) rfl rfl HY.out (stCells_one _) ?d3 ?d4 ?d5 ?_)
    case d3=>unfold maxLen;omega
    case d4=>omega
    case d5=>exact hs3
    intro v7 w7 ho7 hg7 _
    rw[←stCells_append,←HT.out]at ho7
    have HO7:=Hd ho7
    have HB7:=Hd (HB3.out.grown hg7 hs3 (fun q hq=>own_ge hown.out q hq))
    clear ho7 hg7 hs3
    go_wp2_with fail
    go_roundw
    case rel=>exact⟨k+1,by omega,by first|rfl|go_num,HO7.out,HB7.out⟩
    case measure=>simp[intOf];omega
   ·have hkl:k=L.length:=by omega
    have hd:decide ((k:Int)<(L.length:Int))=false:=decide_eq_false (by omega)
    have htk:zs.take k=zs:=List.take_of_length_le (by rw[HZL.out];omega)
    have hol:=HO.out
    rw[htk,hkl,←HZL.out]at hol
    obtain⟨A2,c2,e2,h2⟩:=OneL.of_own hol
    injection e2 with e3 _ e4
    subst e3 e4
    have hkz:k=zs.length:=by rw[HZL.out];omega
    have JN:=join_one h2
    have NJ:=Hd (JN 28)
    have HBW:=Hd hbw
    subst hkz
    clear hkl htk hol h2 JN HO hbw
    go_wp2_with fail
    refine NJ.out.mono ?_
    rintro e w6 ⟨v,rfl,ho,b6⟩
    obtain⟨A5,c5,rfl,h5⟩:=OneL.of_own ho
    have H5:=Hd h5
    have B6:=Hd (below_on HBW.out b6)
    clear ho b6 NJ h5
    go_wp2
    go_ret
    exact⟨A5,c5,rfl,H5.out,B6.out⟩
end Go.Proofs.YtjlfehpockfkdaaGreat
namespace Go.Proofs.YtjlfehpockfkdaaGreat
open Go.RowKit Go.Shelf Fb
attribute [local go_sem] Oper.semAt_some
theorem all_zn(L:List Zc)(R:Zc):(pcc R 255 0 L).map Zc.zn=Tr.all (L.map Zc.zn) R.l:=pcc_zn R 255 L 0
theorem fmd_bounds{L:List Zc}(h:Tr.fmd (L.map Zc.zn)=true):∀z∈L,0≤z.lo∧z.lo≤255∧0≤z.hi∧z.hi≤255:=fun z hz=>by
 obtain⟨k,hk,rfl⟩:=List.mem_iff_getElem.1 hz
 have h1:=((Tr.fmd_iff _).1 h k (by rw[List.length_map];exact hk)).1
 rw[zn_getD (List.getElem?_eq_getElem hk)]at h1
 have h2:0≤(L[k]).lo∧(L[k]).lo≤(L[k]).hi∧(L[k]).hi≤255:=h1
 omega
theorem all_piece{L:List Zc}(h:Tr.fmd (L.map Zc.zn)=true){R:Zc}(hR:Ve.fmd R.l=true)(k:Nat):0≤((pcc R 255 0 L).getD k Zc.none).lo∧((pcc R 255 0 L).getD k Zc.none).lo≤((pcc R 255 0 L).getD k Zc.none).hi∧((pcc R 255 0 L).getD k Zc.none).hi≤255∧Ve.fmd ((pcc R 255 0 L).getD k Zc.none).l=true ∧
  ∀(w:World),(∀z∈L,OneL w z.X z.c z.l)→OneL w R.X R.c R.l→OneL w ((pcc R 255 0 L).getD k Zc.none).X ((pcc R 255 0 L).getD k Zc.none).c ((pcc R 255 0 L).getD k Zc.none).l:=by
 rw[List.getD_eq_getElem?_getD]
 cases hk:(pcc R 255 0 L)[k]? with
 |none=>exact⟨Int.le_refl _,Int.le_refl _,by show(0:Int)≤255;omega,by decide,fun w _ _=>OneL.nil⟩
 |some z=>
  have hm:=List.mem_of_getElem? hk
  have hz:z.zn∈Tr.all (L.map Zc.zn) R.l:=by rw[←all_zn];exact List.mem_map.2 ⟨z,hm,rfl⟩
  obtain⟨t1,t2,t3,-⟩:=Tr.tiles_of _ _ _ (Tr.all_tiles h R.l) _ hz
  have t1:((0:Nat):Int)≤z.lo:=t1
  have t2:z.lo≤z.hi:=t2
  have t3:z.hi<((256:Nat):Int):=t3
  refine⟨by show 0≤z.lo;omega,t2,by show z.hi≤255;omega,?_,fun w h1 h2 =>?_⟩
  ·show Ve.fmd z.l=true
   rcases pcc_mem R 255 L 0 z hm with hl|⟨-,-,hl⟩
   ·obtain⟨j,hj,rfl⟩:=List.mem_iff_getElem.1 hl
    have h1:=((Tr.fmd_iff _).1 h j (by rw[List.length_map];exact hj)).2.1
    rw[zn_getD (List.getElem?_eq_getElem hj)]at h1
    exact h1
   ·rw[hl];exact hR
  ·show OneL w z.X z.c z.l
   rcases pcc_mem R 255 L 0 z hm with hl|⟨e1,e2,e3⟩
   ·exact h1 z hl
   ·rw[e1,e2,e3];exact h2
theorem all_short{L:List Zc}(h:Tr.fmd (L.map Zc.zn)=true)(R:Zc):(pcc R 255 0 L).length≤513:=by
 have hl:=Tr.fmd_len h
 rw[List.length_map]at hl
 have:∀(L:List Zc) (k:Int),(pcc R 255 k L).length≤2*L.length+1:=fun L=>by
  induction L with
  |nil=>intro k;unfold pcc;split<;>simp
  |cons z r ih=>
   intro k
   have:=ih (z.hi+1)
   show((if k<z.lo then _ else [])++z::pcc R 255 (z.hi+1) r).length≤_
   rw[List.length_append,List.length_cons,List.length_cons]
   split<;>simp<;>omega
 have:=this L 0
 omega
end Go.Proofs.YtjlfehpockfkdaaGreat
namespace Go.Proofs.YtjlfehpockfkdaaGreat
open Go.RowKit Go.Shelf Fb
attribute [local go_sem] Oper.semAt_some
theorem rowIn_boxed{W:World}{g:Nat}{t:TypeId}{v:Value}(h:Boxed W g t v):rowIn W g=v.ownBlock:=by unfold rowIn;rw[h.cell];rfl
theorem RowOk.boxed{W:World}{g base size n:Nat}{t e:TypeId}{v:Value}{xs:List Value}(h:Boxed W g t v)(ho:W.ownsRow base e size v n xs):RowOk g W:=⟨h.lt,fun r hr=>own_lt ho r (by rw[rowIn_boxed h]at hr;exact hr)⟩
theorem KeepB.appended{W w1:World}{g base size m:Nat}{t e:TypeId}{v v':Value}{ys:List Value}{tmp:Obj}(hv:Boxed W g t v)(hv1:Boxed w1 g t v)(hown:w1.ownsRow base e size v' m ys)(hg:(W.alloc tmp).grownBy w1 v.ownBlock)(hm:v'.ownBlock=v.ownBlock∨v'.ownBlock=some (W.heap.size+1)):KeepB g W (w1.setCell ⟨g,0,none⟩ v'):=by
 have hsz:=hg.size
 simp only[World.size_alloc]at hsz
 refine⟨Nat.le_trans (by omega:W.heap.size≤w1.heap.size) (KeepsOthers.setCell w1 ⟨g,0,none⟩ v').size,fun k o h1 h2 h3 h4 =>?_,?_⟩
 ·rw[rowIn_boxed hv]at h4
  have hlt:=(Array.getElem?_eq_some_iff.1 h1).1
  rw[Below.heap_setCell w1 ⟨g,0,none⟩ v' k h3,hg.block k (by simp;omega) (fun e=>h4 e.symm)]
  exact(Below.heap_alloc W tmp k hlt).trans h1
 ·have hn:=rowIn_boxed (hv1.set v')
  rcases hm with hm|hm
  ·left
   rw[hn,rowIn_boxed hv,hm]
  ·right
   intro r hr
   rw[hn,hm]at hr
   injection hr with hr
   subst hr
   refine⟨by omega,?_⟩
   have:=own_lt hown _ hm
   simpa using this
theorem range_all(P:List Zc):(List.range P.length).map (fun k=>P.getD k Zc.none)=P:=by
 apply List.ext_getElem
 ·simp
 ·intro i h1 h2
  rw[List.getElem_map,List.getElem_range,List.getD_eq_getElem?_getD,List.getElem?_eq_getElem h2]
  rfl
end Go.Proofs.YtjlfehpockfkdaaGreat
namespace Go.Proofs.YtjlfehpockfkdaaGreat
open Go.RowKit
def PuF(B:Nat)(lo hi:Int)(r:List (Int × Int))(K:Nat→Value):Nat→(Nat→Value)→World→Prop
 |2,v,w=>∃Y d,v 2 = .slice Y r.length d∧w.ownsRow B 46 2 (.slice Y r.length d) r.length (stCells r)
 |3,v,w=>∃Y d,v 3 = .agg #[.int .i64 lo,.int .i64 hi,.slice Y r.length d]∧w.ownsRow B 46 2 (.slice Y r.length d) r.length (stCells r)
 |7,v,w=>∃g u0 u1 u2,v 7 = .pointer (some ⟨g,0,none⟩)∧B≤g∧Blk w g 99 #[u0,u1,u2]
 |8,v,w=>∃g Y d,v 7 = .pointer (some ⟨g,0,none⟩)∧B≤g∧Blk w g 99 #[.int .i64 lo,.int .i64 hi,.slice Y r.length d]∧w.ownsRow B 46 2 (.slice Y r.length d) r.length (stCells r)
 |i,v,_=>v i=K i
theorem own_not{w:World}{base size n g:Nat}{e t:TypeId}{u:Value}{xs:List Value}{c0:Array Value}(h:w.ownsRow base e size u n xs)(hB:Blk w g t c0)(hne:t≠e):∀k,u.ownBlock=some k→k≠g:=fun k hk ek=>by
 subst ek
 rcases h.2 with ⟨h1,_⟩|⟨g3,cap,cur,h1,_,hB3,_⟩
 ·rw[h1]at hk;cases hk
 ·rw[h1]at hk
  injection hk with hk
  subst hk
  unfold Blk at hB
  rw[hB]at hB3
  injection hB3 with hB3
  injection hB3 with _ h4
  exact hne h4
section
variable {B:Nat} {lo hi:Int} {r:List (Int × Int)} {K:Nat→Value} {v:Nat→Value} {w w':World}
theorem PuF.loc{i k:Nat}{x:Value}(hk:k≠i)(h7:i=8→k≠7)(h:PuF B lo hi r K i v w):PuF B lo hi r K i (upd v k x) w:=by
 unfold PuF at h ⊢
 split at h<;>first
  |(rw[upd_other v k x (fun e=>hk e.symm)];exact h)
  |(rw[upd_other v k x (fun e=>h7 rfl e.symm)];exact h)
theorem PuF.later(hb:Below w.heap.size w w'){i:Nat}(h:PuF B lo hi r K i v w):PuF B lo hi r K i v w':=by
 unfold PuF at h ⊢
 split at h
 ·obtain⟨Y,d,h1,h2⟩:=h;exact⟨Y,d,h1,own_later h2 hb⟩
 ·obtain⟨Y,d,h1,h2⟩:=h;exact⟨Y,d,h1,own_later h2 hb⟩
 ·obtain⟨g,u0,u1,u2,h1,h2,h3⟩:=h;exact⟨g,u0,u1,u2,h1,h2,h3.later hb⟩
 ·obtain⟨g,Y,d,h1,h2,h3,h4⟩:=h;exact⟨g,Y,d,h1,h2,h3.later hb,own_later h4 hb⟩
 ·exact h
theorem PuF.stored{g:Nat}{cs:Array Value}{u0 u1 u2:Value}(hY:Blk w g 99 cs){i:Nat}(hi8:i≠8)(h:PuF B lo hi r K i v w):PuF B lo hi r K i v (((w.setCell ⟨g,0,none⟩ u0).setCell ⟨g,1,none⟩ u1).setCell ⟨g,2,none⟩ u2):=by
 have hs:∀b,b≠g→(((w.setCell ⟨g,0,none⟩ u0).setCell ⟨g,1,none⟩ u1).setCell ⟨g,2,none⟩ u2).heap[b]?=w.heap[b]?:=fun b hb=>((Below.heap_setCell _ _ _ _ hb).trans (Below.heap_setCell _ _ _ _ hb)).trans (Below.heap_setCell _ _ _ _ hb)
 unfold PuF at h ⊢
 split at h
 ·obtain⟨Y,d,h1,h2⟩:=h;exact⟨Y,d,h1,own_stays h2 (fun k hk=>hs k (own_not h2 hY (by decide) k hk))⟩
 ·obtain⟨Y,d,h1,h2⟩:=h;exact⟨Y,d,h1,own_stays h2 (fun k hk=>hs k (own_not h2 hY (by decide) k hk))⟩
 ·obtain⟨g2,v0,v1,v2,h1,h2,h3⟩:=h
  by_cases e:g2=g
  ·subst e
   exact⟨g2,u0,u1,u2,h1,h2,((h3.put 0 u0).put 1 u1).put 2 u2⟩
  ·exact⟨g2,v0,v1,v2,h1,h2,(hs g2 e).trans h3⟩
 ·exact absurd rfl hi8
 ·exact h
end
def PutR(g n0:Nat)(zs:List Zn)(w:World)(e:Ending)(w':World):Prop:=
 ∃u v L,e = .returned u∧Boxed w' g 23 v∧OwnZ w' n0 v L∧L.map Zc.zn=zs∧KeepB g w w'∧KeepsOthers w w'∧Below n0 w w'
theorem keeps_below{w w':World}(hb:Below w.heap.size w w'):KeepsOthers w w':=⟨hb.size,fun k _ hk _=>(hb.block k (Array.getElem?_eq_some_iff.1 hk).1).trans hk⟩
theorem own_past{w w':World}{gA n0 base sz k sz2 k2:Nat}{t e e2:TypeId}{vA v' u:Value}{ys xs:List Value}{tmp:Obj}(h:w.ownsRow base e sz u k xs)(hrow:w.ownsRow n0 e2 sz2 vA k2 ys)(hg:(w.alloc tmp).grownBy w' vA.ownBlock)(hv:Boxed w' gA t vA)(h1:e≠e2)(h2:t≠e):(w'.setCell ⟨gA,0,none⟩ v').ownsRow base e sz u k xs:=by
 have q1:=own_later h (show Below w.heap.size w (w.alloc tmp) from below_new (Below.refl _ _) _)
 have q2:=own_stays q1 (fun k hk=>hg.block k (own_lt q1 k hk) (fun e=>own_apart h hrow h1 k hk e))
 exact own_stays q2 (fun k hk=>Below.heap_setCell _ _ _ k (fun e=>by
  have e:k=gA:=e
  exact hv.not_row h2 q2 (by rw[hk,e])))
theorem zCells_last(M:List Zc)(z:Zc)(hi:Int):(zCells (M++[z])).set (M.length*3+1) (.int .i64 hi)=zCells (M++[⟨z.lo,hi,z.X,z.c,z.l⟩]):=by
 rw[zCells_append,zCells_append,List.set_append_right _ _ (by rw[zCells_length];omega),zCells_length,show M.length*3+1-M.length*3=1 from by omega]
 rfl
set_option maxRecDepth 100000 in
set_option maxHeartbeats 12800000 in
theorem tput_any(gA gT n0:Nat)(vA:Value)(L:List Zc)(TX X:Option Addr)(tc c:Nat)(T r:List (Int × Int))(lo hi:Int)(w:World)(hv:Boxed w gA 23 vA)(hO:OwnZ w n0 vA L)(hT:Blk w gT 22 #[.slice TX T.length tc])(hTL:OneL w TX tc T)(hr:OneL w X c r)(hrf:r.length≤64)
  (hn0:n0≤w.heap.size)(hn1:n0≤gA)(hlo:0≤lo∧0≤hi)(hLh:∀z∈L,0≤z.hi∧z.hi≤255)(hLl:L.length≤1000000) :
  Calls Tryz.prog 126 #[.agg #[.int .i64 lo,.int .i64 hi],.slice X r.length c,.pointer (some ⟨gA,0,none⟩),.pointer (some ⟨gT,0,none⟩)] w (PutR gA n0 (Tr.put T (L.map Zc.zn) (lo,hi,r)) w):=by
 have b1:=below_new (Below.refl w.heap.size w) (.cells #[.int .i64 lo,.int .i64 hi] 97)
 have B4:=Blk.new w 97 #[.int .i64 lo,.int .i64 hi]
 obtain⟨W,hW⟩:∃W,w.alloc (.cells #[.int .i64 lo,.int .i64 hi] 97)=W:=⟨_,rfl⟩
 rw[hW]at b1 B4
 obtain⟨n,hn⟩:∃n,L.length=n:=⟨_,rfl⟩
 obtain⟨A,ca,hvv,hnc,hcm,hvn,-⟩:=own_form hO.row
 rw[hn]at hvv
 subst hvv
 have HV:=Hd hv
 have HO:=Hd hO
 have HT:=Hd hT
 have HTL:=Hd hTL
 have HR:=Hd hr
 have HB1:=Hd b1
 have HB4:=Hd B4
 have HW:=Hd hW
 have HLH:=Hd hLh
 have HN:=Hd hn
 have CLN:=Hd (fun (w':World) (hb:Below W.heap.size W w')=>cloneS_any X c r w' (by omega) (HR.out.later (below_on HB1.out hb)))
 have c4:=Hd (show W.cell? ⟨gA,0,none⟩=some (.slice A n ca) from(Blk.later HV.out b1).cell (i:=0) rfl)
 have b0:=Hd (show W.cell? ⟨w.heap.size,0,none⟩=some (.int .i64 lo) from B4.cell (i:=0) rfl)
 have b1':=Hd (show W.cell? ⟨w.heap.size,1,none⟩=some (.int .i64 hi) from B4.cell (i:=1) rfl)
 have hwz:w.heap.size+1=W.heap.size:=by rw[←hW];simp
 have hnl:n≤1000000:=by omega
 obtain⟨i1,hI1,hy0,hy1,hy2⟩:=info_parts infoZn
 clear hv hO hT hTL hr b1 B4 hW hLh hn hnc hcm hvn hLl
 go_enter Tryz.func126,Tryz.ntmps126
 go_upto_region 1 with (fail)
 rw[HW.out]
 refine wp_region_facts3 9 (by kernel_rfl) (by kernel_rfl)
  (fun v=>{ tmps:=#[.agg #[.int .i64 lo,.int .i64 hi],.slice X r.length c,.pointer (some ⟨gA,0,none⟩),.pointer (some ⟨gT,0,none⟩),.pointer (some ⟨w.heap.size,0,none⟩),undef,v 7,undef,v 0,v 1,v 2,v 3,v 4,v 5,v 6,undef,undef,undef,undef,undef,undef,undef,undef,undef,undef,undef,undef,undef,undef,undef,undef,undef,undef,undef,undef,undef,undef,undef,undef,undef,undef],defers:=[] }) (fun _=>undef)
  (PuF W.heap.size lo hi r (fun i=>match i with|0 =>.agg #[.int .i64 lo,.int .i64 hi]|1 =>.slice X r.length c|4 =>.slice A n ca|5 =>.int .i64 (n:Int)|6 =>.int .i64 ((n:Int)-1)|_=>undef))
  (fun w1 w2=>Below W.heap.size w1 w2) (fun h1 h2=>h1.trans h2) (fun _=>Below.refl _ _) (Below.drew (Below.refl _ _)) ?loc ?step ?done
 case loc=>
  intro i_ k v x wx hk hd h
  exact PuF.loc hk (fun e h7=>by subst e;subst h7;exact hd (List.elem_iff.1 (by kernel_rfl))) h
 case step=>
  intro i_ hi_ v w' hb hd
  match i_,hi_ with
  |0,_=>
   refine wpOp_oneH rfl fun KK HKK =>?_
   clear hd
   have q0:=cell_later hb b0.out
   have q1:=cell_later hb b1'.out
   go_wp2
   exact HKK.out _ _ ⟨_,(by simp[upd];done),Below.refl _ _,rfl,fun _ _ _ h=>h⟩
  |1,_=>
   refine wpOp_oneH rfl fun KK HKK =>?_
   clear hd
   go_wp2
   exact HKK.out _ _ ⟨_,(by simp[upd];done),Below.refl _ _,rfl,fun _ _ _ h=>h⟩
  |2,_=>
   have h1:v 1 = .slice X r.length c:=hd 1 (List.elem_iff.1 (by kernel_rfl))
   refine wpOp_oneH rfl fun KK HKK =>?_
   clear hd
   rw[h1]
   have hsz:=hb.size
   go_wp2_with fail
   refine(CLN.out _ hb).mono ?_
   rintro e w'' ⟨u,rfl,ho,b2⟩
   obtain⟨Y,d,rfl,-,-,-,-⟩:=own_form ho
   have HO2:=Hd (own_base ho hsz)
   clear ho
   go_wp2
   exact HKK.out _ _ ⟨_,(by simp[upd,h1];done),b2.mono hsz,⟨Y,d,rfl,HO2.out⟩,fun _ _ _ h=>h.later b2⟩
  |3,_=>
   have h0:v 0 = .agg #[.int .i64 lo,.int .i64 hi]:=hd 0 (List.elem_iff.1 (by kernel_rfl))
   have g2:∃Y d,v 2 = .slice Y r.length d∧w'.ownsRow W.heap.size 46 2 (.slice Y r.length d) r.length (stCells r):=hd 2 (List.elem_iff.1 (by kernel_rfl))
   obtain⟨Y,d,h2,o2⟩:=g2
   refine wpOp_oneK rfl (fun KK hKK =>?_)
   have HKK:=Hd hKK
   have HO2:=Hd o2
   clear hKK hd o2
   rw[h0,h2]
   go_wp2
   exact HKK.out _ _ ⟨_,(by simp[upd,h0,h2];done),Below.refl _ _,⟨Y,d,rfl,HO2.out⟩,fun _ _ _ h=>h⟩
  |4,_=>
   refine wpOp_oneH rfl fun KK HKK =>?_
   clear hd
   have q0:=cell_later hb c4.out
   go_wp2
   exact HKK.out _ _ ⟨_,(by simp[upd];done),Below.refl _ _,rfl,fun _ _ _ h=>h⟩
  |5,_=>
   have h4:v 4 = .slice A n ca:=hd 4 (List.elem_iff.1 (by kernel_rfl))
   refine wpOp_oneH rfl fun KK HKK =>?_
   clear hd
   rw[h4]
   go_wp2
   exact HKK.out _ _ ⟨_,(by simp[upd,h4];done),Below.refl _ _,rfl,fun _ _ _ h=>h⟩
  |6,_=>
   have h5:v 5 = .int .i64 (n:Int):=hd 5 (List.elem_iff.1 (by kernel_rfl))
   refine wpOp_oneH rfl fun KK HKK =>?_
   clear hd
   rw[h5]
   have lw:IntKind.i64.wrap ((n:Int)-1)=(n:Int)-1:=IntWalk.i64_in _ (by omega)
   go_wp2
   exact HKK.out _ _ ⟨_,(by simp[upd,h5];done),Below.refl _ _,rfl,fun _ _ _ h=>h⟩
  |7,_=>
   refine wpOp_oneH rfl fun KK HKK =>?_
   clear hd
   have hbn:=below_new (Below.refl w'.heap.size w') (.cells #[.int .i64 0,.int .i64 0,.slice none 0 0] 99)
   have KK2:=Hd (Blk.new w' 99 #[.int .i64 0,.int .i64 0,.slice none 0 0])
   have hsz:=hb.size
   go_wp2
   exact HKK.out _ _ ⟨_,(by simp[upd];done),hbn.mono hsz,⟨w'.heap.size,_,_,_,rfl,hsz,KK2.out⟩,fun _ _ _ h=>h.later hbn⟩
  |8,_=>
   have g3:∃Y d,v 3 = .agg #[.int .i64 lo,.int .i64 hi,.slice Y r.length d]∧w'.ownsRow W.heap.size 46 2 (.slice Y r.length d) r.length (stCells r):=hd 3 (List.elem_iff.1 (by kernel_rfl))
   obtain⟨Y,d,h3,o3⟩:=g3
   have g7:∃g u0 u1 u2,v 7 = .pointer (some ⟨g,0,none⟩)∧W.heap.size≤g∧Blk w' g 99 #[u0,u1,u2]:=hd 7 (List.elem_iff.1 (by kernel_rfl))
   obtain⟨g,y0,y1,y2,h7,l7,B7⟩:=g7
   refine wpOp_oneH rfl fun KK HKK =>?_
   clear hd
   rw[h3,h7]
   have z0:=B7.cell (i:=0) rfl
   have z1:=B7.cell (i:=1) rfl
   have z2:=B7.cell (i:=2) rfl
   have zf0:=B7.free 0
   have zf1:=B7.free 1
   have zf2:=B7.free 2
   have BB:=Hd B7
   have OO:=Hd o3
   clear B7 o3
   go_wp2
   exact HKK.out _ _ ⟨undef,(by simp[upd,h3,h7];done),(((Below.refl _ _).setCell l7 _).setCell l7 _).setCell l7 _,⟨g,Y,d,h7,l7,((BB.out.put 0 _).put 1 _).put 2 _,own_stays OO.out (fun k hk=>by
    have hne:=own_not OO.out BB.out (by decide) k hk
    exact((Below.heap_setCell _ _ _ _ hne).trans (Below.heap_setCell _ _ _ _ hne)).trans (Below.heap_setCell _ _ _ _ hne))⟩,fun _ _ hj h=>PuF.stored BB.out hj h⟩
  |k+9,hk=>exact absurd hk (by omega)
 case done=>
  intro vv w5 hb hf
  have h0:vv 0 = .agg #[.int .i64 lo,.int .i64 hi]:=hf 0 (by omega)
  have h1:vv 1 = .slice X r.length c:=hf 1 (by omega)
  have h4:vv 4 = .slice A n ca:=hf 4 (by omega)
  have h5:vv 5 = .int .i64 (n:Int):=hf 5 (by omega)
  have h6:vv 6 = .int .i64 ((n:Int)-1):=hf 6 (by omega)
  have g8:∃g Y d,vv 7 = .pointer (some ⟨g,0,none⟩)∧W.heap.size≤g∧Blk w5 g 99 #[.int .i64 lo,.int .i64 hi,.slice Y r.length d]∧w5.ownsRow W.heap.size 46 2 (.slice Y r.length d) r.length (stCells r):=hf 8 (by omega)
  obtain⟨g,Y,d,h7,l7,G7,O7⟩:=g8
  clear hf
  rw[h0,h1,h4,h5,h6,h7]
  simp only[List.drop_succ_cons,List.drop_zero]
  have BW:=Hd (below_on HB1.out hb)
  have HB0:=Hd hb
  have T5:=HT.out.later BW.out
  have t0:=T5.cell (i:=0) rfl
  have CV:=Hd (covers_any X TX c tc r T w5 (HR.out.later BW.out) (HTL.out.later BW.out))
  clear hb h0 h1 h4 h5 h6 h7 CLN T5
  go_wp2_with fail
  refine CV.out.mono ?_
  rintro e w6 ⟨rfl,b6⟩
  have BW6:=Hd (below_on BW.out b6)
  have HWW:=Hd (below_on HB0.out b6)
  have HG6:=Hd (G7.later b6)
  have HO6:=Hd (own_later O7 b6)
  have hVC:w6.cell? ⟨gA,0,none⟩=some (.slice A n ca):=(Blk.later HV.out BW6.out).cell (i:=0) rfl
  have HVC:=Hd hVC
  clear b6 G7 O7 CV t0 hVC
  cases hc:Ve.cov (Ve.cnt r) (Ve.cnt T) with
  |true=>
   have FIN:=Hd (show Tr.put T (L.map Zc.zn) (lo,hi,r)=L.map Zc.zn from by unfold Tr.put;rw[if_pos hc])
   have hok:=RowOk.boxed HV.out HO.out.row
   have KB:=Hd (KeepB.below hok BW6.out)
   clear hc hok
   go_wp2
   go_end0
   exact⟨_,_,L,rfl,Blk.later HV.out BW6.out,HO.out.later BW6.out,FIN.out.symm,KB.out,keeps_below BW6.out,BW6.out.mono hn0⟩
  |false=>
   have HNC:=Hd hc
   clear hc
   rcases List.eq_nil_or_concat L with hL|⟨M,z,hL⟩
   ·have hn2:n=0:=by rw[←HN.out,hL];rfl
    subst hL hn2
    have HPUT:=Hd (show Tr.put T (([]:List Zc).map Zc.zn) (lo,hi,r)=([]:List Zc).map Zc.zn++[(lo,hi,r)] from by
     unfold Tr.put
     rw[if_neg (by rw[HNC.out];exact Bool.false_ne_true),if_neg (by unfold Tr.goesOn;rw[decide_eq_true_iff];simp)])
    go_upto_region 4 with (fail)
    refine wp_region_facts 10 (by kernel_rfl) (by kernel_rfl)
     (fun v=>{ tmps:=#[.agg #[.int .i64 lo,.int .i64 hi],.slice X r.length c,.pointer (some ⟨gA,0,none⟩),.pointer (some ⟨gT,0,none⟩),.pointer (some ⟨w.heap.size,0,none⟩),undef,.pointer (some ⟨g,0,none⟩),.int .i64 (-1),.agg #[.int .i64 lo,.int .i64 hi],.slice X r.length c,vv 2,vv 3,.slice A 0 ca,.int .i64 0,.int .i64 (-1),undef,undef,undef,undef,.bool false,.slice X r.length c,.slice TX T.length tc,.bool false,undef,v 0,v 1,v 2,v 3,v 4,v 5,v 6,v 7,v 8,v 9,undef,undef,undef,undef,undef,undef,undef],defers:=[] }) (fun _=>undef)
     (fun i x wx=>match i with
      |0=>x = .int .i64 (-1:Int)
      |1=>x = .bool false
      |2=>x = .bool false
      |3=>x=undef
      |4=>x=undef
      |5=>x=undef
      |6=>x=undef
      |7=>x=undef
      |8=>x=undef
      |9=>x = .bool false
      |_=>True)
     (fun w1 w2=>Below w1.heap.size w1 w2) (fun h1 h2=>below_on h1 h2) (fun _=>Below.refl _ _) (Below.drew (Below.refl _ _)) ?staba ?stepa ?donea
    case staba=>
     rintro i x w1 w2 h hb
     match i,h with
     |0,h=>exact h
     |1,h=>exact h
     |2,h=>exact h
     |3,h=>exact h
     |4,h=>exact h
     |5,h=>exact h
     |6,h=>exact h
     |7,h=>exact h
     |8,h=>exact h
     |9,h=>exact h
     |i+10,_=>trivial
    case stepa=>
     intro i hi v w' hb hd
     match i,hi with
     |0,_=>
      refine wpOp_oneH rfl fun KK HKK =>?_
      clear hd
      go_wp2
      exact HKK.out _ _ ⟨_,(by simp[upd];done),Below.refl _ _,rfl⟩
     |1,_=>
      have h0:v 0=_:=hdx hd 0 (by kernel_rfl)
      refine wpOp_oneH rfl fun KK HKK =>?_
      clear hd
      rw[h0]
      go_wp2
      exact HKK.out _ _ ⟨_,(by simp[upd,h0];done),Below.refl _ _,rfl⟩
     |2,_=>
      have h1:v 1=_:=hdx hd 1 (by kernel_rfl)
      refine wpOp_oneH rfl fun KK HKK =>?_
      clear hd
      rw[h1]
      go_wp2
      exact HKK.out _ _ ⟨_,(by simp[upd,h1];done),Below.refl _ _,rfl⟩
     |3,_=>
      have h2:v 2=_:=hdx hd 2 (by kernel_rfl)
      clear hd
      rw[h2]
      exact wpOp_skip rfl (by rfl) ⟨_,(by simp[upd,Act.put,h2];done),Below.refl _ _,rfl⟩
     |4,_=>
      have h2:v 2=_:=hdx hd 2 (by kernel_rfl)
      clear hd
      rw[h2]
      exact wpOp_skip rfl (by rfl) ⟨_,(by simp[upd,Act.put,h2];done),Below.refl _ _,rfl⟩
     |5,_=>
      have h2:v 2=_:=hdx hd 2 (by kernel_rfl)
      clear hd
      rw[h2]
      exact wpOp_skip rfl (by rfl) ⟨_,(by simp[upd,Act.put,h2];done),Below.refl _ _,rfl⟩
     |6,_=>
      have h2:v 2=_:=hdx hd 2 (by kernel_rfl)
      clear hd
      rw[h2]
      exact wpOp_skip rfl (by rfl) ⟨_,(by simp[upd,Act.put,h2];done),Below.refl _ _,rfl⟩
     |7,_=>
      have h2:v 2=_:=hdx hd 2 (by kernel_rfl)
      clear hd
      rw[h2]
      exact wpOp_skip rfl (by rfl) ⟨_,(by simp[upd,Act.put,h2];done),Below.refl _ _,rfl⟩
     |8,_=>
      have h2:v 2=_:=hdx hd 2 (by kernel_rfl)
      clear hd
      rw[h2]
      exact wpOp_skip rfl (by rfl) ⟨_,(by simp[upd,Act.put,h2];done),Below.refl _ _,rfl⟩
     |9,_=>
      have h2:v 2=_:=hdx hd 2 (by kernel_rfl)
      have h8:v 8=_:=hdx hd 8 (by kernel_rfl)
      refine wpOp_oneH rfl fun KK HKK =>?_
      clear hd
      rw[h2,h8]
      go_wp2
      exact HKK.out _ _ ⟨_,(by simp[upd,h2,h8];done),Below.refl _ _,rfl⟩
     |k+10,hk=>exact absurd hk (by omega)
    case donea=>
     intro v w5 hb hf
     have h9:v 9=_:=hf 9 (by decide)
     clear hf
     rw[h9]
     have BF:=below_on BW6.out hb
     have hv5:Boxed w5 gA 23 (.slice A 0 ca):=Blk.later HV.out BF
     have hO5:=HO.out.later BF
     have hOY:=own_later HO6.out hb
     have hG5:=HG6.out.later hb
     have d0:=hG5.cell (i:=0) rfl
     have d1:=hG5.cell (i:=1) rfl
     have d2:=hG5.cell (i:=2) rfl
     have e0:w5.cell? ⟨gA,0,none⟩=some (.slice A 0 ca):=hv5.cell
     have hrow5:=hO5.row
     rw[HN.out]at hrow5
     have hsz5:n0≤w5.heap.size:=by have:=BF.size;omega
     have hok:=RowOk.boxed HV.out HO.out.row
     have KB0:=Hd (KeepB.below hok BF)
     have b9:=below_new (Below.refl w5.heap.size w5) (.cells #[.int .i64 lo,.int .i64 hi,.slice Y r.length d] 99)
     have YB:=Blk.new w5 99 #[.int .i64 lo,.int .i64 hi,.slice Y r.length d]
     have hown:=Hd (own_later hrow5 b9)
     have HLY:=Hd (show Lies (w5.alloc (.cells #[.int .i64 lo,.int .i64 hi,.slice Y r.length d] 99)) (some ⟨w5.heap.size,0,none⟩) [.int .i64 lo,.int .i64 hi,.slice Y r.length d] from fun _=>⟨w5.heap.size,0,rfl,fun i u hu=>by
      rw[Nat.zero_add]
      exact YB.cell (by simpa using hu)⟩)
     have HV5:=Hd hv5
     have HO5:=Hd hO5
     have HOY:=Hd hOY
     have HR5:=Hd hrow5
     have HBF:=Hd BF
     have hs9:n0≤(w5.alloc (.cells #[.int .i64 lo,.int .i64 hi,.slice Y r.length d] 99)).heap.size:=by rw[World.size_alloc];omega
     clear hb hv5 hO5 hOY hG5 hrow5 hok b9 YB BF
     go_wp2_with (at_builtin;refine Go.Proofs.YtjlfehpockfkdaaGreat.wpList_append_lies _ rfl _ _ 23 rfl n0 99 i1 (.agg #[.int .i64 0,.int .i64 0,.slice none 0 0]) 3 40 Tryz.underlying23 hI1 hy0 hy1 hy2 rfl (by decide) (.slice A 0 ca) 0 (zCells []) rfl hown.out (some ⟨w5.heap.size,0,none⟩) 1 1 (fun h=>by cases h) [.int .i64 lo,.int .i64 hi,.slice Y r.length d] rfl rfl HLY.out (by intro u hu;simp at hu;rcases hu with rfl|rfl|rfl<;>rfl) ?d3a ?d4a ?d5a ?_)
     case d3a=>unfold maxLen;omega
     case d4a=>omega
     case d5a=>exact hs9
     intro v7 w7 ho7 hg7 hm7
     obtain⟨g',cap',rfl⟩:=ownsRow_succ ho7
     obtain⟨hv1,hv2,hr2,hk2,hb2⟩:=HV5.out.appended (by decide) HR5.out hsz5 hn1 ho7 hg7
     have e1:w7.cell? ⟨gA,0,none⟩=some (.slice A 0 ca):=hv1.cell
     have hf1:=hv1.frozen
     have FIN:=Hd (show PutR gA n0 (Tr.put T (([]:List Zc).map Zc.zn) (lo,hi,r)) w (.returned (.tuple #[])) (w7.setCell ⟨gA,0,none⟩ (.slice (some ⟨g',0,none⟩) (0+1) cap')) from
      ⟨_,_,[]++[⟨lo,hi,Y,d,r⟩],rfl,hv2,⟨by rw[List.length_append,HN.out,zCells_append];exact hr2,fun y hy=>by
       rcases List.mem_append.1 hy with hy|hy
       ·exact own_past (HO5.out.each y hy) HR5.out hg7 hv1 (by decide) (by decide)
       ·rw[List.mem_singleton]at hy
        subst hy
        exact own_base (own_past HOY.out HR5.out hg7 hv1 (by decide) (by decide)) (by omega)⟩,by rw[HPUT.out,List.map_append];rfl,KB0.out.trans (KeepB.appended HV5.out hv1 ho7 hg7 hm7),(keeps_below HBF.out).trans hk2,(HBF.out.mono hn0).trans hb2⟩)
     clear hv1 hv2 hr2 hk2 hb2 ho7 hg7 hm7 e0 d0 d1 d2
     go_wp2
     go_end0
     obtain⟨_,f⟩:=FIN.out
     exact⟨_,f⟩
   ·have hL9:L=M++[z]:=by simpa using hL
    clear hL
    obtain⟨m,hm⟩:∃m,M.length=m:=⟨_,rfl⟩
    have hn2:n=m+1:=by rw[←HN.out,hL9,List.length_append,hm];rfl
    subst hL9 hn2
    obtain⟨ga,ca2,hga⟩:=own_len HO.out.row (by rw[HN.out];omega)
    rw[HN.out]at hga
    injection hga with hga _ hgc
    subst hga hgc
    have lwm:((m+1:Nat):Int)-1=(m:Int):=by omega
    have im0:(0:Int)≤(m:Int):=by omega
    have im1:(m:Int)<((m+1:Nat):Int):=by omega
    have hzL:(M++[z])[m]?=some z:=by rw[←hm,List.getElem?_concat_length]
    obtain⟨q0,q1,q2⟩:=zCells_get (M++[z]) m z hzL
    have hrow:=HO.out.row
    rw[HN.out]at hrow
    have HZ0:=Hd (cell_later BW6.out (own_cell_at hrow q0))
    have HZ1:=Hd (cell_later BW6.out (own_cell_at hrow q1))
    have HZ2:=Hd (cell_later BW6.out (own_cell_at hrow q2))
    have hzb:=HLH.out z (by simp)
    obtain⟨zA,zca,zvv,zone⟩:=HO.out.one
    have hzo:OneL w z.X z.c z.l:=zone.each z (by simp)
    have hput:=Tr.goes_snoc (M.map Zc.zn) z.zn lo.toNat r
    have hputx:Tr.put T ((M++[z]).map Zc.zn) (lo,hi,r)=if (decide (z.hi+1=lo∧z.l=r))=true then Tr.ext (M.map Zc.zn++[z.zn]) hi.toNat else M.map Zc.zn++[z.zn]++[(lo,hi,r)]:=by
     unfold Tr.put
     rw[if_neg (by rw[HNC.out];exact Bool.false_ne_true),List.map_append]
     show(if Tr.goesOn (M.map Zc.zn++[z.zn]) lo.toNat r=true then _ else _)=_
     rw[hput]
     have:decide (z.zn.2.1=(lo.toNat:Int)-1∧z.zn.2.2=r)=decide (z.hi+1=lo∧z.l=r):=by
      rw[decide_eq_decide]
      show(z.hi=(lo.toNat:Int)-1∧z.l=r)↔_
      constructor
      ·rintro ⟨h1,h2⟩;exact⟨by omega,h2⟩
      ·rintro ⟨h1,h2⟩;exact⟨by omega,h2⟩
     rw[this]
     rfl
    obtain⟨go,hgo⟩:∃go,decide (z.hi+1=lo∧z.l=r)=go:=⟨_,rfl⟩
    have GO:=fun (w':World) (q:Below w6.heap.size w6 w')=>goesOn_any z ⟨lo,hi,Y,d,r⟩ w' (hzo.later (below_on BW6.out q)) (by
     obtain⟨Y2,d2,e2,o2⟩:=OneL.of_own (own_later HO6.out q)
     injection e2 with e3 _ e4
     subst e3 e4
     exact o2) hzb.1 hzb.2
    obtain⟨zlo,zhi,zX,zc,zl⟩:=z
    unfold zV at GO
    dsimp only at GO hgo hputx hzb HZ0 HZ1 HZ2
    rw[hgo]at GO hputx
    have HGO:=Hd GO
    have HPX:=Hd hputx
    have HM:=Hd hm
    have HRW:=Hd hrow
    clear hzL q0 q1 q2 hrow zvv zone hzo hput hputx hgo GO hm
    cases go with
    |true=>
     have HPUT:=Hd (show Tr.put T ((M++[(⟨zlo,zhi,zX,zc,zl⟩:Zc)]).map Zc.zn) (lo,hi,r)=(M++[(⟨zlo,hi,zX,zc,zl⟩:Zc)]).map Zc.zn from by
      rw[HPX.out,if_pos rfl,Tr.ext_snoc,List.map_append]
      show _++[(zlo,(hi.toNat:Int),zl)]=_++[(zlo,hi,zl)]
      rw[show(hi.toNat:Int)=hi from by omega])
     go_upto_region 4 with (fail)
     refine wp_region_facts 10 (by kernel_rfl) (by kernel_rfl)
      (fun v=>{ tmps:=#[.agg #[.int .i64 lo,.int .i64 hi],.slice X r.length c,.pointer (some ⟨gA,0,none⟩),.pointer (some ⟨gT,0,none⟩),.pointer (some ⟨w.heap.size,0,none⟩),undef,.pointer (some ⟨g,0,none⟩),.int .i64 (m:Int),.agg #[.int .i64 lo,.int .i64 hi],.slice X r.length c,vv 2,vv 3,.slice (some ⟨ga,0,none⟩) (m+1) ca,.int .i64 ((m:Int)+1),.int .i64 (m:Int),undef,undef,undef,undef,.bool false,.slice X r.length c,.slice TX T.length tc,.bool false,undef,v 0,v 1,v 2,v 3,v 4,v 5,v 6,v 7,v 8,v 9,undef,undef,undef,undef,undef,undef,undef],defers:=[] }) (fun _=>undef)
      (fun i x wx=>match i with
       |0=>x = .int .i64 (m:Int)
       |1=>x = .bool true
       |2=>x = .bool true
       |3=>x = .slice (some ⟨ga,0,none⟩) (m+1) ca
       |4=>x = .int .i64 (m:Int)
       |5=>x = .pointer (some ⟨ga,m*3,none⟩)
       |6=>x = .agg #[.int .i64 zlo,.int .i64 zhi,.slice zX zl.length zc]
       |7=>x = .agg #[.int .i64 lo,.int .i64 hi,.slice Y r.length d]
       |8=>x = .bool true
       |9=>x = .bool true
       |_=>True)
      (fun w1 w2=>Below w1.heap.size w1 w2) (fun h1 h2=>below_on h1 h2) (fun _=>Below.refl _ _) (Below.drew (Below.refl _ _)) ?stabb ?stepb ?doneb
     case stabb=>
      rintro i x w1 w2 h hb
      match i,h with
      |0,h=>exact h
      |1,h=>exact h
      |2,h=>exact h
      |3,h=>exact h
      |4,h=>exact h
      |5,h=>exact h
      |6,h=>exact h
      |7,h=>exact h
      |8,h=>exact h
      |9,h=>exact h
      |i+10,_=>trivial
     case stepb=>
      intro i hi v w' hb hd
      match i,hi with
      |0,_=>
       refine wpOp_oneH rfl fun KK HKK =>?_
       clear hd
       go_wp2
       exact HKK.out _ _ ⟨_,(by simp[upd];done),Below.refl _ _,rfl⟩
      |1,_=>
       have h0:v 0=_:=hdx hd 0 (by kernel_rfl)
       refine wpOp_oneH rfl fun KK HKK =>?_
       clear hd
       rw[h0]
       go_wp2
       exact HKK.out _ _ ⟨_,(by simp[upd,h0];done),Below.refl _ _,rfl⟩
      |2,_=>
       have h1:v 1=_:=hdx hd 1 (by kernel_rfl)
       refine wpOp_oneH rfl fun KK HKK =>?_
       clear hd
       rw[h1]
       go_wp2
       exact HKK.out _ _ ⟨_,(by simp[upd,h1];done),Below.refl _ _,rfl⟩
      |3,_=>
       have h2:v 2=_:=hdx hd 2 (by kernel_rfl)
       refine wpOp_oneH rfl fun KK HKK =>?_
       clear hd
       rw[h2]
       have q0:=cell_later hb HVC.out
       go_wp2
       exact HKK.out _ _ ⟨_,(by simp[upd,h2];done),Below.refl _ _,rfl⟩
      |4,_=>
       have h2:v 2=_:=hdx hd 2 (by kernel_rfl)
       refine wpOp_oneH rfl fun KK HKK =>?_
       clear hd
       rw[h2]
       go_wp2
       exact HKK.out _ _ ⟨_,(by simp[upd,h2];done),Below.refl _ _,rfl⟩
      |5,_=>
       have h2:v 2=_:=hdx hd 2 (by kernel_rfl)
       have h3:v 3=_:=hdx hd 3 (by kernel_rfl)
       have h4:v 4=_:=hdx hd 4 (by kernel_rfl)
       refine wpOp_oneH rfl fun KK HKK =>?_
       clear hd
       rw[h2,h3,h4]
       go_wp2
       exact HKK.out _ _ ⟨_,(by simp[upd,h2,h3,h4];done),Below.refl _ _,rfl⟩
      |6,_=>
       have h2:v 2=_:=hdx hd 2 (by kernel_rfl)
       have h5:v 5=_:=hdx hd 5 (by kernel_rfl)
       refine wpOp_oneH rfl fun KK HKK =>?_
       clear hd
       rw[h2,h5]
       have q0:=cell_later hb HZ0.out
       have q1:=cell_later hb HZ1.out
       have q2:=cell_later hb HZ2.out
       go_wp2
       exact HKK.out _ _ ⟨_,(by simp[upd,h2,h5];done),Below.refl _ _,rfl⟩
      |7,_=>
       have h2:v 2=_:=hdx hd 2 (by kernel_rfl)
       refine wpOp_oneH rfl fun KK HKK =>?_
       clear hd
       rw[h2]
       have q0:=cell_later hb (HG6.out.cell (i:=0) rfl)
       have q1:=cell_later hb (HG6.out.cell (i:=1) rfl)
       have q2:=cell_later hb (HG6.out.cell (i:=2) rfl)
       go_wp2
       exact HKK.out _ _ ⟨_,(by simp[upd,h2];done),Below.refl _ _,rfl⟩
      |8,_=>
       have h2:v 2=_:=hdx hd 2 (by kernel_rfl)
       have h6:v 6=_:=hdx hd 6 (by kernel_rfl)
       have h7:v 7=_:=hdx hd 7 (by kernel_rfl)
       refine wpOp_oneH rfl fun KK HKK =>?_
       clear hd
       rw[h2,h6,h7]
       go_wp2_with fail
       refine(HGO.out _ hb).mono ?_
       rintro e w'' ⟨rfl,b⟩
       go_wp2
       exact HKK.out _ _ ⟨_,(by simp[upd,h2,h6,h7];done),b,rfl⟩
      |9,_=>
       have h2:v 2=_:=hdx hd 2 (by kernel_rfl)
       have h8:v 8=_:=hdx hd 8 (by kernel_rfl)
       refine wpOp_oneH rfl fun KK HKK =>?_
       clear hd
       rw[h2,h8]
       go_wp2
       exact HKK.out _ _ ⟨_,(by simp[upd,h2,h8];done),Below.refl _ _,rfl⟩
      |k+10,hk=>exact absurd hk (by omega)
     case doneb=>
      intro v w5 hb hf
      have h9:v 9=_:=hf 9 (by decide)
      clear hf
      rw[h9]
      have BF:=below_on BW6.out hb
      have hv5:Boxed w5 gA 23 (.slice (some ⟨ga,0,none⟩) (m+1) ca):=Blk.later HV.out BF
      have hO5:=HO.out.later BF
      have e0:w5.cell? ⟨gA,0,none⟩=some (.slice (some ⟨ga,0,none⟩) (m+1) ca):=hv5.cell
      have e1:w5.cell? ⟨w.heap.size,1,none⟩=some (.int .i64 hi):=(HB4.out.later (below_on HWW.out hb)).cell (i:=1) rfl
      have hrow5:=hO5.row
      rw[HN.out]at hrow5
      have f0:=own_free_at hrow5 (m*3+1)
      have hz1:w5.cell? ⟨ga,m*3+1,none⟩=some (.int .i64 zhi):=cell_later hb HZ1.out
      have hne:gA≠ga:=fun e=>hv5.not_row (by decide) hrow5 (by rw[e];rfl)
      have hok:=RowOk.boxed HV.out HO.out.row
      have hset:∀b,b≠ga→(w5.setCell ⟨ga,m*3+1,none⟩ (.int .i64 hi)).heap[b]?=w5.heap[b]?:=fun b hb=>Below.heap_setCell _ _ _ _ hb
      have hlast:=zCells_last M ⟨zlo,zhi,zX,zc,zl⟩ hi
      rw[HM.out]at hlast
      have hrow6:=own_put hrow5 (m*3+1) (.int .i64 hi)
      rw[hlast]at hrow6
      have hstay:∀{u:Value} {k:Nat} {xs:List Value},w5.ownsRow n0 46 2 u k xs→(w5.setCell ⟨ga,m*3+1,none⟩ (.int .i64 hi)).ownsRow n0 46 2 u k xs:=fun {u k xs} q=>own_stays q (fun j hj=>hset j (fun e=>own_apart q hrow5 (by decide) j hj (by rw[e];rfl)))
      have hge:=own_base_le hrow5
      have hv6:Boxed (w5.setCell ⟨ga,m*3+1,none⟩ (.int .i64 hi)) gA 23 (.slice (some ⟨ga,0,none⟩) (m+1) ca):=(hset gA hne).trans hv5
      have KB0:=KeepB.below hok BF
      have KB1:KeepB gA w5 (w5.setCell ⟨ga,m*3+1,none⟩ (.int .i64 hi)):=⟨(KeepsOthers.setCell _ _ _).size,fun k o h1 _ _ h4=>(hset k (fun e=>h4 (by rw[rowIn_boxed hv5,e];rfl))).trans h1,.inl (by rw[rowIn_boxed hv6,rowIn_boxed hv5])⟩
      have FIN:=Hd (show PutR gA n0 (Tr.put T ((M++[(⟨zlo,zhi,zX,zc,zl⟩:Zc)]).map Zc.zn) (lo,hi,r)) w (.returned (.tuple #[])) (w5.setCell ⟨ga,m*3+1,none⟩ (.int .i64 hi)) from
       ⟨_,_,M++[⟨zlo,hi,zX,zc,zl⟩],rfl,hv6,⟨by rw[show(M++[(⟨zlo,hi,zX,zc,zl⟩:Zc)]).length=m+1 from by rw[List.length_append,HM.out];rfl];exact hrow6,fun y hy=>by
        rcases List.mem_append.1 hy with hy|hy
        ·exact hstay (hO5.each y (List.mem_append.2 (.inl hy)))
        ·rw[List.mem_singleton]at hy
         subst hy
         exact hstay (hO5.each ⟨zlo,zhi,zX,zc,zl⟩ (by simp))⟩,HPUT.out.symm,KB0.trans KB1,(keeps_below BF).trans (KeepsOthers.setCell _ _ _),(BF.mono hn0).setCell (p:=⟨ga,m*3+1,none⟩) hge.1 _⟩)
      clear hb BF hv5 hO5 hrow5 hok hset hlast hrow6 hstay hge hv6 KB0 KB1 hne
      go_wp2
      go_end0
      obtain⟨_,f⟩:=FIN.out
      exact⟨_,f⟩
    |false=>
     have HPUT:=Hd (show Tr.put T ((M++[(⟨zlo,zhi,zX,zc,zl⟩:Zc)]).map Zc.zn) (lo,hi,r)=(M++[(⟨zlo,zhi,zX,zc,zl⟩:Zc)]).map Zc.zn++[(lo,hi,r)] from by
      rw[HPX.out,if_neg Bool.false_ne_true,List.map_append]
      rfl)
     go_upto_region 4 with (fail)
     refine wp_region_facts 10 (by kernel_rfl) (by kernel_rfl)
      (fun v=>{ tmps:=#[.agg #[.int .i64 lo,.int .i64 hi],.slice X r.length c,.pointer (some ⟨gA,0,none⟩),.pointer (some ⟨gT,0,none⟩),.pointer (some ⟨w.heap.size,0,none⟩),undef,.pointer (some ⟨g,0,none⟩),.int .i64 (m:Int),.agg #[.int .i64 lo,.int .i64 hi],.slice X r.length c,vv 2,vv 3,.slice (some ⟨ga,0,none⟩) (m+1) ca,.int .i64 ((m:Int)+1),.int .i64 (m:Int),undef,undef,undef,undef,.bool false,.slice X r.length c,.slice TX T.length tc,.bool false,undef,v 0,v 1,v 2,v 3,v 4,v 5,v 6,v 7,v 8,v 9,undef,undef,undef,undef,undef,undef,undef],defers:=[] }) (fun _=>undef)
      (fun i x wx=>match i with
       |0=>x = .int .i64 (m:Int)
       |1=>x = .bool true
       |2=>x = .bool true
       |3=>x = .slice (some ⟨ga,0,none⟩) (m+1) ca
       |4=>x = .int .i64 (m:Int)
       |5=>x = .pointer (some ⟨ga,m*3,none⟩)
       |6=>x = .agg #[.int .i64 zlo,.int .i64 zhi,.slice zX zl.length zc]
       |7=>x = .agg #[.int .i64 lo,.int .i64 hi,.slice Y r.length d]
       |8=>x = .bool false
       |9=>x = .bool false
       |_=>True)
      (fun w1 w2=>Below w1.heap.size w1 w2) (fun h1 h2=>below_on h1 h2) (fun _=>Below.refl _ _) (Below.drew (Below.refl _ _)) ?stabc ?stepc ?donec
     case stabc=>
      rintro i x w1 w2 h hb
      match i,h with
      |0,h=>exact h
      |1,h=>exact h
      |2,h=>exact h
      |3,h=>exact h
      |4,h=>exact h
      |5,h=>exact h
      |6,h=>exact h
      |7,h=>exact h
      |8,h=>exact h
      |9,h=>exact h
      |i+10,_=>trivial
     case stepc=>
      intro i hi v w' hb hd
      match i,hi with
      |0,_=>
       refine wpOp_oneH rfl fun KK HKK =>?_
       clear hd
       go_wp2
       exact HKK.out _ _ ⟨_,(by simp[upd];done),Below.refl _ _,rfl⟩
      |1,_=>
       have h0:v 0=_:=hdx hd 0 (by kernel_rfl)
       refine wpOp_oneH rfl fun KK HKK =>?_
       clear hd
       rw[h0]
       go_wp2
       exact HKK.out _ _ ⟨_,(by simp[upd,h0];done),Below.refl _ _,rfl⟩
      |2,_=>
       have h1:v 1=_:=hdx hd 1 (by kernel_rfl)
       refine wpOp_oneH rfl fun KK HKK =>?_
       clear hd
       rw[h1]
       go_wp2
       exact HKK.out _ _ ⟨_,(by simp[upd,h1];done),Below.refl _ _,rfl⟩
      |3,_=>
       have h2:v 2=_:=hdx hd 2 (by kernel_rfl)
       refine wpOp_oneH rfl fun KK HKK =>?_
       clear hd
       rw[h2]
       have q0:=cell_later hb HVC.out
       go_wp2
       exact HKK.out _ _ ⟨_,(by simp[upd,h2];done),Below.refl _ _,rfl⟩
      |4,_=>
       have h2:v 2=_:=hdx hd 2 (by kernel_rfl)
       refine wpOp_oneH rfl fun KK HKK =>?_
       clear hd
       rw[h2]
       go_wp2
       exact HKK.out _ _ ⟨_,(by simp[upd,h2];done),Below.refl _ _,rfl⟩
      |5,_=>
       have h2:v 2=_:=hdx hd 2 (by kernel_rfl)
       have h3:v 3=_:=hdx hd 3 (by kernel_rfl)
       have h4:v 4=_:=hdx hd 4 (by kernel_rfl)
       refine wpOp_oneH rfl fun KK HKK =>?_
       clear hd
       rw[h2,h3,h4]
       go_wp2
       exact HKK.out _ _ ⟨_,(by simp[upd,h2,h3,h4];done),Below.refl _ _,rfl⟩
      |6,_=>
       have h2:v 2=_:=hdx hd 2 (by kernel_rfl)
       have h5:v 5=_:=hdx hd 5 (by kernel_rfl)
       refine wpOp_oneH rfl fun KK HKK =>?_
       clear hd
       rw[h2,h5]
       have q0:=cell_later hb HZ0.out
       have q1:=cell_later hb HZ1.out
       have q2:=cell_later hb HZ2.out
       go_wp2
       exact HKK.out _ _ ⟨_,(by simp[upd,h2,h5];done),Below.refl _ _,rfl⟩
      |7,_=>
       have h2:v 2=_:=hdx hd 2 (by kernel_rfl)
       refine wpOp_oneH rfl fun KK HKK =>?_
       clear hd
       rw[h2]
       have q0:=cell_later hb (HG6.out.cell (i:=0) rfl)
       have q1:=cell_later hb (HG6.out.cell (i:=1) rfl)
       have q2:=cell_later hb (HG6.out.cell (i:=2) rfl)
       go_wp2
       exact HKK.out _ _ ⟨_,(by simp[upd,h2];done),Below.refl _ _,rfl⟩
      |8,_=>
       have h2:v 2=_:=hdx hd 2 (by kernel_rfl)
       have h6:v 6=_:=hdx hd 6 (by kernel_rfl)
       have h7:v 7=_:=hdx hd 7 (by kernel_rfl)
       refine wpOp_oneH rfl fun KK HKK =>?_
       clear hd
       rw[h2,h6,h7]
       go_wp2_with fail
       refine(HGO.out _ hb).mono ?_
       rintro e w'' ⟨rfl,b⟩
       go_wp2
       exact HKK.out _ _ ⟨_,(by simp[upd,h2,h6,h7];done),b,rfl⟩
      |9,_=>
       have h2:v 2=_:=hdx hd 2 (by kernel_rfl)
       have h8:v 8=_:=hdx hd 8 (by kernel_rfl)
       refine wpOp_oneH rfl fun KK HKK =>?_
       clear hd
       rw[h2,h8]
       go_wp2
       exact HKK.out _ _ ⟨_,(by simp[upd,h2,h8];done),Below.refl _ _,rfl⟩
      |k+10,hk=>exact absurd hk (by omega)
     case donec=>
      intro v w5 hb hf
      have h9:v 9=_:=hf 9 (by decide)
      clear hf
      rw[h9]
      have BF:=below_on BW6.out hb
      have hv5:Boxed w5 gA 23 (.slice (some ⟨ga,0,none⟩) (m+1) ca):=Blk.later HV.out BF
      have hO5:=HO.out.later BF
      have hOY:=own_later HO6.out hb
      have hG5:=HG6.out.later hb
      have d0:=hG5.cell (i:=0) rfl
      have d1:=hG5.cell (i:=1) rfl
      have d2:=hG5.cell (i:=2) rfl
      have e0:w5.cell? ⟨gA,0,none⟩=some (.slice (some ⟨ga,0,none⟩) (m+1) ca):=hv5.cell
      have hrow5:=hO5.row
      rw[HN.out]at hrow5
      have hsz5:n0≤w5.heap.size:=by have:=BF.size;omega
      have hok:=RowOk.boxed HV.out HO.out.row
      have KB0:=Hd (KeepB.below hok BF)
      have b9:=below_new (Below.refl w5.heap.size w5) (.cells #[.int .i64 lo,.int .i64 hi,.slice Y r.length d] 99)
      have YB:=Blk.new w5 99 #[.int .i64 lo,.int .i64 hi,.slice Y r.length d]
      have hown:=Hd (own_later hrow5 b9)
      have HLY:=Hd (show Lies (w5.alloc (.cells #[.int .i64 lo,.int .i64 hi,.slice Y r.length d] 99)) (some ⟨w5.heap.size,0,none⟩) [.int .i64 lo,.int .i64 hi,.slice Y r.length d] from fun _=>⟨w5.heap.size,0,rfl,fun i u hu=>by
       rw[Nat.zero_add]
       exact YB.cell (by simpa using hu)⟩)
      have HV5:=Hd hv5
      have HO5:=Hd hO5
      have HOY:=Hd hOY
      have HR5:=Hd hrow5
      have HBF:=Hd BF
      have hs9:n0≤(w5.alloc (.cells #[.int .i64 lo,.int .i64 hi,.slice Y r.length d] 99)).heap.size:=by rw[World.size_alloc];omega
      clear hb hv5 hO5 hOY hG5 hrow5 hok b9 YB BF
      go_wp2_with (at_builtin;refine Go.Proofs.YtjlfehpockfkdaaGreat.wpList_append_lies _ rfl _ _ 23 rfl n0 99 i1 (.agg #[.int .i64 0,.int .i64 0,.slice none 0 0]) 3 40 Tryz.underlying23 hI1 hy0 hy1 hy2 rfl (by decide) (.slice (some ⟨ga,0,none⟩) (m+1) ca) (m+1) (zCells (M++[(⟨zlo,zhi,zX,zc,zl⟩:Zc)])) rfl hown.out (some ⟨w5.heap.size,0,none⟩) 1 1 (fun h=>by cases h) [.int .i64 lo,.int .i64 hi,.slice Y r.length d] rfl rfl HLY.out (by intro u hu;simp at hu;rcases hu with rfl|rfl|rfl<;>rfl) ?d3c ?d4c ?d5c ?_)
      case d3c=>unfold maxLen;omega
      case d4c=>omega
      case d5c=>exact hs9
      intro v7 w7 ho7 hg7 hm7
      obtain⟨g',cap',rfl⟩:=ownsRow_succ ho7
      obtain⟨hv1,hv2,hr2,hk2,hb2⟩:=HV5.out.appended (by decide) HR5.out hsz5 hn1 ho7 hg7
      have e1:w7.cell? ⟨gA,0,none⟩=some (.slice (some ⟨ga,0,none⟩) (m+1) ca):=hv1.cell
      have hf1:=hv1.frozen
      have FIN:=Hd (show PutR gA n0 (Tr.put T (((M++[(⟨zlo,zhi,zX,zc,zl⟩:Zc)]):List Zc).map Zc.zn) (lo,hi,r)) w (.returned (.tuple #[])) (w7.setCell ⟨gA,0,none⟩ (.slice (some ⟨g',0,none⟩) ((m+1)+1) cap')) from
       ⟨_,_,(M++[(⟨zlo,zhi,zX,zc,zl⟩:Zc)])++[⟨lo,hi,Y,d,r⟩],rfl,hv2,⟨by rw[List.length_append,HN.out,zCells_append];exact hr2,fun y hy=>by
        rcases List.mem_append.1 hy with hy|hy
        ·exact own_past (HO5.out.each y hy) HR5.out hg7 hv1 (by decide) (by decide)
        ·rw[List.mem_singleton]at hy
         subst hy
         exact own_base (own_past HOY.out HR5.out hg7 hv1 (by decide) (by decide)) (by omega)⟩,by rw[HPUT.out,List.map_append];rfl,KB0.out.trans (KeepB.appended HV5.out hv1 ho7 hg7 hm7),(keeps_below HBF.out).trans hk2,(HBF.out.mono hn0).trans hb2⟩)
      clear hv1 hv2 hr2 hk2 hb2 ho7 hg7 hm7 e0 d0 d1 d2
      go_wp2
      go_end0
      obtain⟨_,f⟩:=FIN.out
      rw[List.map_append]at f
      exact⟨_,f⟩
def PredS(wb:World)(fn:Nat)(lb:Array Value)(p:(Int × Int)→Bool):Prop:=∀(W:World) (x:(Int × Int)),Below wb.heap.size wb W→Calls Tryz.prog fn (#[.agg #[.int .i64 x.1,.int .i64 x.2]]++lb) W fun e w'=>e = .returned (.bool (p x))∧Below W.heap.size W w'
set_option maxHeartbeats 1600000 in
theorem indexFuncS_any(p:(Int × Int)→Bool)(fn:Nat)(lb:Array Value)(eg:∀args w,(callFunc fn args).run Tryz.prog w = .ok (.enter fn args) w)(wb:World)(b off cap:Nat)(D:List (Int × Int))(w:World)
  (hp:PredS wb fn lb p)(hB:Below wb.heap.size wb w)(hlt:b<w.heap.size)(hL:Lay w b off (stCells D))(hmax:D.length≤9223372036854775807)(r:Int)
  (hr:(r = -1∧∀t (h:t<D.length),p D[t]=false)∨∃t,∃h:t<D.length,r=(t:Int)∧p D[t]=true∧∀u (h:u<t),p (D[u]'(by omega))=false) :
  Calls Tryz.prog 175 #[.slice (some ⟨b,off,none⟩) D.length cap,.func (.func fn) #[] lb] w fun e w'=>e = .returned (.int .i64 r)∧Below w.heap.size w w':=by
 have HL:=Hd hL
 have HP:=Hd hp
 have HR:=Hd hr
 have HB:=Hd hB
 clear hL hp hr hB
 go_enter Tryz.func175,Tryz.ntmps175
 go_wp2_with fail
 go_loopw [5,8] (fun _ s8 wr=>∃k:Nat,k≤D.length∧s8 = .int .i64 (k:Int)∧(∀u,u<k→∀h:u<D.length,p D[u]=false)∧Below w.heap.size w wr) (fun _ s8 _=>D.length-(intOf s8).toNat)
 case atStart=>exact⟨0,Nat.zero_le _,rfl,(fun u hu=>by omega),Below.refl _ _⟩
 case round=>
  obtain⟨k,hk,rfl,hall,hbw⟩:=hrel
  have HALL:=Hd hall
  clear hall
  by_cases hlt2:k<D.length
  ·have hi0:(0:Int)≤(k:Int):=by omega
   have hi1:(k:Int)<(D.length:Int):=by omega
   obtain⟨x,hx⟩:∃x,D[k]=x:=⟨_,rfl⟩
   have hx2:D[k]?=some x:=by rw[List.getElem?_eq_getElem hlt2,hx]
   obtain⟨g0,g1⟩:=st_get D x k hx2
   have L2:=HL.out.later hlt hbw
   have e0:=(L2 _ _ g0).1
   have e1:=(L2 _ _ g1).1
   rw[←Nat.add_assoc]at e1
   have cl:=HP.out wr x (below_on HB.out hbw)
   have hpx:p D[k]=p x:=by rw[hx]
   obtain⟨px,hpxx⟩:∃px,p x=px:=⟨_,rfl⟩
   rw[hpxx]at cl hpx
   obtain⟨x1,x2⟩:=x
   have CL:=Hd cl
   have HX:=Hd hpx
   clear cl hpx hx hx2 hpxx L2 g0 g1
   cases px with
   |true=>
    go_wp2_with (go_at_fn fn;refine CL.out.mono ?_;rintro e w1 ⟨rfl,b1⟩)
    go_ret
    have hrk:r=(k:Int):=by
     rcases HR.out with ⟨_,h2⟩|⟨t,ht,h1,h2,h3⟩
     ·have:=h2 k hlt2;rw[HX.out]at this;cases this
     ·rw[h1]
      rcases Nat.lt_trichotomy t k with h4|h4|h4
      ·have:=HALL.out t h4 ht;rw[h2]at this;cases this
      ·rw[h4]
      ·have:=h3 k h4;rw[HX.out]at this;cases this
    exact⟨by rw[hrk];rfl,below_on hbw b1⟩
   |false=>
    go_wp2_with (go_at_fn fn;refine CL.out.mono ?_;rintro e w1 ⟨rfl,b1⟩)
    go_roundw
    case rel=>exact⟨k+1,by omega,by go_num,(fun u hu h=>by
     by_cases e:u=k
     ·subst e;exact HX.out
     ·exact HALL.out u (by omega) h),below_on hbw b1⟩
    case measure=>simp[intOf];omega
  ·have hkl:k=D.length:=by omega
   subst hkl
   go_wp2
   go_ret
   have hrk:r = -1:=by
    rcases HR.out with ⟨h1,_⟩|⟨t,ht,h1,h2,h3⟩
    ·exact h1
    ·have:=HALL.out t ht ht;rw[h2]at this;cases this
   exact⟨by rw[hrk];rfl,hbw⟩
theorem zeroCellsS(m:Nat):(Builtin.zeroCells (Value.cells (.agg #[.int .i64 0,.int .i64 0])) m).toList.length=m*2∧∀u∈(Builtin.zeroCells (Value.cells (.agg #[.int .i64 0,.int .i64 0])) m).toList,u.oneCell'=true:=by
 refine⟨by rw[Array.length_toList,size_zeroCells];rfl,fun u hu =>?_⟩
 unfold Builtin.zeroCells at hu
 simp[Value.cells]at hu
 obtain⟨a,_,rfl⟩:=hu
 have h4:a % 2<2:=Nat.mod_lt _ (by omega)
 rcases(show a % 2=0∨a % 2=1 from by omega) with h|h<;>simp[h,Value.oneCell']
set_option maxRecDepth 100000 in
set_option maxHeartbeats 6400000 in
theorem deleteFuncS_any(p:(Int × Int)→Bool)(fn:Nat)(lb:Array Value)(eg:∀args w,(callFunc fn args).run Tryz.prog w = .ok (.enter fn args) w)(wb:World)(b off cap:Nat)(D:List (Int × Int))(w:World)
  (hp:PredS wb fn lb p)(hB:Below wb.heap.size wb w)(hlt:b<w.heap.size)(hbb:wb.heap.size≤b)(hL:Lay w b off (stCells D))(hcap:D.length≤cap)(hmax:cap≤9223372036854775807) :
  Calls Tryz.prog 165 #[.slice (some ⟨b,off,none⟩) D.length cap,.func (.func fn) #[] lb] w fun e w'=>e = .returned (.slice (some ⟨b,off,none⟩) (D.filter fun x =>!p x).length cap)∧Lay w' b off (stCells (D.filter fun x =>!p x))∧Below wb.heap.size wb w':=by
 have hfind:(∀t (h:t<D.length),p D[t]=false)∨∃t,∃h:t<D.length,p D[t]=true∧∀u (h:u<t),p (D[u]'(by omega))=false:=by
  cases hf:D.findIdx? p with
  |none=>
   rw[List.findIdx?_eq_none_iff]at hf
   exact .inl fun t h=>by simpa using hf D[t] (List.getElem_mem h)
  |some t=>
   rw[List.findIdx?_eq_some_iff_getElem]at hf
   obtain⟨h1,h2,h3⟩:=hf
   exact .inr ⟨t,h1,h2,fun u hu=>by simpa using h3 u hu⟩
 rcases hfind with hall|⟨t0,ht0,hyes,hno⟩
 ·have hfil:(D.filter fun x =>!p x)=D:=List.filter_eq_self.2 fun x hx=>by
   obtain⟨t,ht,rfl⟩:=List.mem_iff_getElem.1 hx
   rw[hall t ht];rfl
  rw[hfil]
  have N:=Hd (indexFuncS_any p fn lb eg wb b off cap D w hp hB hlt hL (by omega) (-1) (.inl ⟨rfl,hall⟩))
  have HL:=Hd hL
  clear hL hp hall hfil
  go_enter Tryz.func165,Tryz.ntmps165
  go_wp2_with fail
  refine N.out.mono ?_
  rintro e w1 ⟨rfl,b1⟩
  go_wp2
  go_ret
  exact⟨rfl,HL.out.later hlt b1,below_on hB b1⟩
 ·have N:=Hd (indexFuncS_any p fn lb eg wb b off cap D w hp hB hlt hL (by omega) (t0:Int) (.inr ⟨t0,ht0,rfl,hyes,hno⟩))
  have HL:=Hd hL
  have HP:=Hd hp
  have HS:=Hd (KeptL.start (q:=fun x =>!p x) ht0 (fun u hu=>by show(!p D[u])=true;rw[hno u hu];rfl) (by show(!p D[t0])=false;rw[hyes];rfl))
  have HBW:=Hd hB
  clear hL hp hyes hno hB
  have ht1:((t0:Int) == -1)=false:=beq_eq_false_iff_ne.2 (by omega)
  go_enter Tryz.func165,Tryz.ntmps165
  go_wp2_with fail
  refine N.out.mono ?_
  rintro e w1 ⟨rfl,b1⟩
  go_wp2_with fail
  go_loopw [5,6,7] (fun s5 s6 _ wr=>∃(i j:Nat) (Dk:List (Int × Int)),s5 = .int .i64 (i:Int)∧s6 = .int .i64 (j:Int)∧KeptL (fun x =>!p x) D j i Dk∧Lay wr b off (stCells Dk)∧b<wr.heap.size∧Below wb.heap.size wb wr) (fun _ s6 _ _=>D.length-(intOf s6).toNat)
  case atStart=>exact⟨t0,t0+1,D,rfl,by go_num,HS.out,HL.out.later hlt b1,Nat.lt_of_lt_of_le hlt b1.size,below_on HBW.out b1⟩
  case round=>
   obtain⟨i,j,Dk,rfl,rfl,hK,hLk,hlk,hbk⟩:=hrel
   have hij:=hK.lt
   have hjD:=hK.le
   have hlD:=hK.len
   have KK:=Hd hK
   have LK:=Hd hLk
   have HBK:=Hd hbk
   clear hK hLk hbk
   by_cases hlt2:j<D.length
   ·have hi0:(0:Int)≤(j:Int):=by omega
    have hi1:(j:Int)<(D.length:Int):=by omega
    have hi2:(0:Int)≤(i:Int):=by omega
    have hi3:(i:Int)<(D.length:Int):=by omega
    obtain⟨x,hx⟩:∃x,D[j]=x:=⟨_,rfl⟩
    have hx2:Dk[j]?=some x:=by rw[KK.out.get hlt2,hx]
    obtain⟨g0,g1⟩:=st_get Dk x j hx2
    have e0:=(LK.out _ _ g0).1
    have e1:=(LK.out _ _ g1).1
    rw[←Nat.add_assoc]at e1
    have hkp:=fun h=>KK.out.keep (j:=j) hlt2 h
    have hsk:=fun h=>KK.out.skip (j:=j) hlt2 h
    rw[hx]at hkp hsk
    obtain⟨px,hpxx⟩:∃px,p x=px:=⟨_,rfl⟩
    obtain⟨W1,hW1⟩:∃W1,wr.alloc (.cells #[.int .i64 x.1,.int .i64 x.2] 46)=W1:=⟨_,rfl⟩
    have hbn:Below wr.heap.size wr W1:=by rw[←hW1];exact below_new (Below.refl _ _) _
    have hB1:Blk W1 wr.heap.size 46 #[.int .i64 x.1,.int .i64 x.2]:=by rw[←hW1];exact Blk.new wr _ _
    have cl:=HP.out W1 x (below_on HBK.out hbn)
    have hset:=st_set Dk x i (by omega)
    rw[hpxx]at cl
    have hkp2:px=false→KeptL (fun x =>!p x) D (j+1) (i+1) (Dk.set i x):=fun h=>hkp (by show(!p x)=true;rw[hpxx,h];rfl)
    have hsk2:px=true→KeptL (fun x =>!p x) D (j+1) i Dk:=fun h=>hsk (by show(!p x)=false;rw[hpxx,h];rfl)
    obtain⟨old,hold⟩:∃old,Dk[i]?=some old:=⟨Dk[i],List.getElem?_eq_getElem (by omega)⟩
    obtain⟨og0,og1⟩:=st_get Dk old i hold
    have LK1:=LK.out.later hlk hbn
    have hlk1:b<W1.heap.size:=Nat.lt_of_lt_of_le hlk hbn.size
    have CL:=Hd cl
    have HB1:=Hd hB1
    have HLK1:=Hd LK1
    have HW1:=Hd hW1
    have HK2:=Hd hkp2
    have HS2:=Hd hsk2
    have HSET:=Hd hset
    have OG0:=Hd og0
    have OG1:=Hd og1
    clear cl hB1 LK1 hW1 hkp2 hsk2 hset hkp hsk hpxx hx hx2 hold g0 g1 og0 og1
    obtain⟨x1,x2⟩:=x
    have q:=HB1.out
    have q0:=q.cell (i:=0) rfl
    have q1:=q.cell (i:=1) rfl
    clear q
    cases px with
    |true=>
     go_wp2_with fail
     rw[HW1.out]
     go_wp2_with (go_at_fn fn;refine CL.out.mono ?_;rintro e w2 ⟨rfl,b2⟩)
     go_roundw
     case rel=>exact⟨i,j+1,Dk,rfl,by go_num,HS2.out (by first|rfl|trivial),HLK1.out.later hlk1 b2,Nat.lt_of_lt_of_le hlk1 b2.size,below_on HBK.out (below_on hbn b2)⟩
     case measure=>simp[intOf];omega
    |false=>
     go_wp2_with fail
     rw[HW1.out]
     go_wp2_with fail
     refine CL.out.mono ?_
     rintro e w2 ⟨rfl,b2⟩
     have L2:=HLK1.out.later hlk1 b2
     have r0:=cell_later b2 q0
     have r1:=cell_later b2 q1
     have u0:=(L2 _ _ OG0.out).1
     have f0:=(L2 _ _ OG0.out).2
     have u1:=(L2 _ _ OG1.out).1
     have f1:=(L2 _ _ OG1.out).2
     rw[←Nat.add_assoc]at u1 f1
     have HL2:=Hd L2
     clear L2 q0 q1
     go_wp2_with fail
     go_roundw
     case rel=>
      have h:=((HL2.out.put (i*2) (.int .i64 (x1,x2).1)).put (i*2+1) (.int .i64 (x1,x2).2))
      rw[HSET.out]at h
      exact⟨i+1,j+1,_,by go_num,by go_num,HK2.out (by first|rfl|trivial),h,by simpa using Nat.lt_of_lt_of_le hlk1 b2.size,((below_on HBK.out (below_on hbn b2)).setCell (p:=⟨b,_,none⟩) hbb _).setCell (p:=⟨b,_,none⟩) hbb _⟩
     case measure=>simp[intOf];omega
   ·have hkl:j=D.length:=by omega
    subst hkl
    have hin:i<D.length:=by omega
    have hlen:(stCells Dk).length=D.length*2:=by rw[stCells_length,hlD]
    have hzl:=zeroCellsS (D.length-i)
    have hcl:∀ty,(Builtin.clear_ #[22] ty #[.slice (some ⟨b,off+i*2,none⟩) (D.length-i) (cap-i)]).run Tryz.prog wr = .ok (.tuple #[]) (wr.setCells b (off+i*2) (Builtin.zeroCells (Value.cells (.agg #[.int .i64 0,.int .i64 0])) (D.length-i)).toList):=fun ty=>
     run_clear_cells wr 22 46 ty (.agg #[.int .i64 0,.int .i64 0]) Tryz.underlying22 Tryz.zeroValue46 b (off+i*2) (D.length-i) (cap-i) (by omega) hzl.2
      (fun t ht=>by rw[hzl.1]at ht;have hx:i*2+t<(stCells Dk).length:=Nat.lt_of_lt_of_eq (by omega) hlen.symm;rw[Nat.add_assoc,(LK.out _ _ (List.getElem?_eq_getElem hx)).1];rfl)
      (fun t ht=>by rw[hzl.1]at ht;have hx:i*2+t<(stCells Dk).length:=Nat.lt_of_lt_of_eq (by omega) hlen.symm;rw[Nat.add_assoc];exact(LK.out _ _ (List.getElem?_eq_getElem hx)).2)
    have hdone:=KK.out.done
    have HD:=Hd hdone
    clear hdone hlen hzl
    have hi2:(0:Int)≤(i:Int):=by omega
    have hi3:(i:Int)≤(D.length:Int):=by omega
    have hi4:(D.length:Int)≤(cap:Int):=by omega
    go_wp2
    go_ret
    refine⟨by rw[←HD.out.1];rfl,?_,below_cells hbb _ _ _ HBK.out⟩
    refine Lay.behind ?_ (i*2) (by rw[stCells_length,←HD.out.1];exact Nat.le_refl _) _
    rw[←HD.out.2]
    exact LK.out.sub (st_take Dk i)
set_option maxHeartbeats 800000 in
theorem indexFuncS_nil(p:Fn)(ca lb:Array Value)(w:World):Calls Tryz.prog 175 #[.slice none 0 0,.func p ca lb] w fun e w'=>e = .returned (.int .i64 (-1))∧Below w.heap.size w w':=by
 go_enter Tryz.func175,Tryz.ntmps175
 go_wp2_with fail
 go_loopw [8] (fun s8 wr=>s8 = .int .i64 0∧Below w.heap.size w wr) (fun _ _=>0)
 case atStart=>exact⟨rfl,Below.refl _ _⟩
 case round=>
  obtain⟨rfl,hb⟩:=hrel
  go_wp2
  go_ret
  exact⟨rfl,hb⟩
set_option maxHeartbeats 800000 in
theorem deleteFuncS_nil(p:Fn)(ca lb:Array Value)(w:World):Calls Tryz.prog 165 #[.slice none 0 0,.func p ca lb] w fun e w'=>e = .returned (.slice none 0 0)∧Below w.heap.size w w':=by
 have N:=Hd (indexFuncS_nil p ca lb w)
 go_enter Tryz.func165,Tryz.ntmps165
 go_wp2_with fail
 refine N.out.mono ?_
 rintro e w1 ⟨rfl,b1⟩
 go_wp2
 go_ret
 exact⟨rfl,b1⟩
def notOn(v:List (Int × Int))(n:Note)(x:Int × Int):Bool:=decide (countOf v x.2<countOf n.s x.2)
set_option maxRecDepth 100000 in
set_option maxHeartbeats 3200000 in
theorem stretched1_any(wb:World)(gv gn:Nat)(X S E Bl V:Option Addr)(c cs ce cl cv:Nat)(v:List (Int × Int))(n:Note)(hv:Blk wb gv 22 #[.slice X v.length c])(hn:Blk wb gn 40 (noteCells S E Bl V cs ce cl cv n))(h1:OneL wb X c v)(h2:OneL wb S cs n.s) :
  PredS wb 166 #[.pointer (some ⟨gv,0,none⟩),.pointer (some ⟨gn,0,none⟩)] (notOn v n):=by
 intro W x hW
 obtain⟨a,m⟩:=x
 show Calls Tryz.prog 166 #[.agg #[.int .i64 a,.int .i64 m],.pointer (some ⟨gv,0,none⟩),.pointer (some ⟨gn,0,none⟩)] W _
 obtain⟨q1,hq1⟩:∃q,countOf v m=q:=⟨_,rfl⟩
 obtain⟨q2,hq2⟩:∃q,countOf n.s m=q:=⟨_,rfl⟩
 have hres:notOn v n (a,m)=decide (q1<q2):=by unfold notOn;rw[hq1,hq2]
 rw[hres]
 have b0:=below_new (Below.refl W.heap.size W) (.cells #[.int .i64 a,.int .i64 m] 46)
 have b1:=below_on hW b0
 have B3:=Blk.new W 46 #[.int .i64 a,.int .i64 m]
 obtain⟨W1,hW1⟩:∃W1,W.alloc (.cells #[.int .i64 a,.int .i64 m] 46)=W1:=⟨_,rfl⟩
 rw[hW1]at b0 b1 B3
 have hn':=hn.later b1
 obtain⟨c0,-,-,-⟩:=note_cells hn'
 have m0:∀d os,(Sort.grow (redrawn W1 d) os).cell? ⟨gv,0,none⟩=some (.slice X v.length c):=cell_regrown ((hv.later b1).cell rfl)
 have m1:∀d os,(Sort.grow (redrawn W1 d) os).cell? ⟨gn,0,none⟩=some (.slice S n.s.length cs):=cell_regrown c0
 have m2:∀d os,(Sort.grow (redrawn W1 d) os).cell? ⟨W.heap.size,1,none⟩=some (.int .i64 m):=cell_regrown (B3.cell rfl)
 have C1:=Hd (fun d os=>(show Calls Tryz.prog 167 #[.slice X v.length c,.int .i64 m] (Sort.grow (redrawn W1 d) os) (fun e w''=>e = .returned (.int .i64 q1)∧∃p:Regrown,w''=Sort.grow (redrawn W1 p.d) p.os) from by
  rw[←hq1]
  exact Calls.regrown_of (count_any X c v m _ ((h1.later b1).later (below_regrown W1 d os)))))
 have C2:=Hd (fun d os=>(show Calls Tryz.prog 167 #[.slice S n.s.length cs,.int .i64 m] (Sort.grow (redrawn W1 d) os) (fun e w''=>e = .returned (.int .i64 q2)∧∃p:Regrown,w''=Sort.grow (redrawn W1 p.d) p.os) from by
  rw[←hq2]
  exact Calls.regrown_of (count_any S cs n.s m _ ((h2.later b1).later (below_regrown W1 d os)))))
 have FB:=Hd (fun d os=>below_on b0 (below_regrown W1 d os))
 have HW1:=Hd hW1
 clear hq1 hq2 hres hn' c0 hn hv h1 h2 hW b0 b1 B3 hW1
 go_enter Tryz.func166,Tryz.ntmps166
 go_upto_region 1 with (fail)
 rw[HW1.out]
 clear HW1
 refine wp_region_quiet_below (by kernel_rfl) (by kernel_rfl) ?_
 iterate 3 (first|go_big_quiet_step (fail)|quiet_step (fail))
 first|go_big_quiet_step (exact C1.out _ _)|quiet_step (exact C1.out _ _)
 iterate 4 (first|go_big_quiet_step (fail)|quiet_step (fail))
 first|go_big_quiet_step (exact C2.out _ _)|quiet_step (exact C2.out _ _)
 repeat (first|go_big_quiet_step (fail)|quiet_step (fail))
 refine wpQuiet_nil ?_
 intro _ hw'
 obtain⟨⟨dq,osq⟩,hw''⟩:=hw'
 subst hw''
 go_wp2
 go_ret
 exact⟨rfl,FB.out _ _⟩
set_option maxRecDepth 100000 in
set_option maxHeartbeats 3200000 in
theorem tstretched_any(X S E Bl V:Option Addr)(c cs ce cl cv:Nat)(v:List (Int × Int))(n:Note)(w:World)(h1:OneL w X c v)(h2:NoteAt w S E Bl V cs ce cl cv n)(he:n.e.length≤64) :
  Calls Tryz.prog 128 #[.slice X v.length c,.agg (noteCells S E Bl V cs ce cl cv n)] w (Gives (Tr.fur v n) w):=by
 obtain⟨W1,hW1⟩:∃W1,(w.alloc (.cells #[.slice X v.length c] 22)).alloc (.cells (noteCells S E Bl V cs ce cl cv n) 40)=W1:=⟨_,rfl⟩
 have hbn:Below w.heap.size w W1:=by rw[←hW1];exact below_new (below_new (Below.refl _ _) _) _
 have B2:Blk W1 w.heap.size 22 #[.slice X v.length c]:=by rw[←hW1];exact(Blk.new w _ _).alloc _
 have B3:Blk W1 (w.heap.size+1) 40 (noteCells S E Bl V cs ce cl cv n):=by rw[←hW1];simpa using Blk.new (w.alloc (.cells #[.slice X v.length c] 22)) 40 (noteCells S E Bl V cs ce cl cv n)
 have N:=Hd (cloneS_any E ce n.e W1 (by omega) (h2.he.later hbn))
 have HP:=Hd (stretched1_any W1 w.heap.size (w.heap.size+1) X S E Bl V c cs ce cl cv v n B2 B3 (h1.later hbn) (h2.hs.later hbn))
 obtain⟨-,c1,-,-⟩:=note_cells B3
 have p1:=c1
 rw[←hW1]at p1
 have eg:∀args w,(callFunc 166 args).run Tryz.prog w = .ok (.enter 166 args) w:=enters_of Tryz.func166 (by kernel_rfl) rfl
 have EG:=Hd eg
 have HW1:=Hd hW1
 have HX:=Hd (h1.later hbn)
 have HB2:=Hd B2
 have JN:=Hd (fun (w':World) (g:Nat) (Y:Option Addr) (d:Nat) (l:List (Int × Int)) (hB:Blk w' g 22 #[.slice X v.length c,.slice Y l.length d]) (q1:OneL w' X c v) (q2:OneL w' Y d l)=>join_any (some ⟨g,0,none⟩) 2 [v,l] w' (by simp) (rows_two hB q1 q2))
 have hfil:(n.e.filter fun x =>!notOn v n x)=Tr.ends v n:=rfl
 have hfu:Tr.fur v n=Ve.joinL [v,Tr.ends v n]:=rfl
 have hz1:w.heap.size+2≤W1.heap.size:=by rw[←hW1];simp
 rw[hfu]
 obtain⟨es,hes⟩:∃es,Tr.ends v n=es:=⟨_,rfl⟩
 rw[hes]at hfil ⊢
 have HES:=Hd hes
 unfold noteCells at p1 ⊢
 clear hW1 eg h1 h2 B2 B3 c1 hfu he hes
 go_enter Tryz.func128,Tryz.ntmps128
 go_wp2_with fail
 rw[show((w.alloc (.cells #[.slice X v.length c] 22)).alloc (.cells #[.slice S n.s.length cs,.slice E n.e.length ce,.slice Bl n.b.length cl,.slice V n.ws.length cv] 40))=W1 from HW1.out]
 clear HW1 p1
 refine N.out.mono ?_
 rintro e w1 ⟨u,rfl,ho,b1⟩
 rcases ho.2 with ⟨rfl,hl0⟩|⟨g,cap,cur,rfl,hg,hh,hc1,hc2,_,_⟩
 ·have hws:n.e=[]:=List.eq_nil_of_length_eq_zero hl0
  have hE:es=[]:=by rw[←HES.out];unfold Tr.ends;rw[hws];rfl
  subst hE
  clear ho hl0 hws hfil N HP EG HES
  go_wp2_with fail
  refine(deleteFuncS_nil _ _ _ _).mono ?_
  rintro e w2 ⟨rfl,b2⟩
  have b12:=below_on b1 b2
  have B2:=HB2.out.later b12
  have c2:=B2.cell (i:=0) rfl
  have b3:=below_new (Below.refl w2.heap.size w2) (.cells #[.slice X v.length c,.slice none 0 0] 22)
  have NJ:=JN.out _ w2.heap.size none 0 [] (Blk.new w2 22 #[.slice X v.length c,.slice none 0 0]) (HX.out.later (below_on b12 b3)) OneL.nil
  have HJ:=Hd NJ
  have FB:=Hd (below_on (below_on hbn b12) b3)
  clear NJ JN b3 B2 b2 b1
  go_wp2_with fail
  refine HJ.out.mono ?_
  rintro e w4 ⟨u4,rfl,ho4,b4⟩
  have HO:=Hd ho4
  clear ho4
  go_wp2
  go_ret
  exact⟨_,rfl,own_base HO.out FB.out.size,below_on FB.out b4⟩
 ·have hL:=Lay.of_own ho
  have hglt:g<w1.heap.size:=Blk.lt hh
  have D:=Hd (deleteFuncS_any _ _ _ EG.out W1 g 0 cap n.e w1 HP.out b1 hglt hg hL hc1 (by unfold maxLen at hc2;exact hc2))
  rw[hfil]at D
  have hcl:es.length≤cap:=by rw[←HES.out];exact Nat.le_trans (List.length_filter_le _ _) hc1
  have hcm:=Hd hc2
  clear hL ho hh hc2 hfil N HP EG hc1 HES
  go_wp2_with fail
  refine D.out.mono ?_
  rintro e w2 ⟨rfl,hL2,b2⟩
  have B2:=HB2.out.later b2
  have c2:=B2.cell (i:=0) rfl
  have b3:=below_new (Below.refl w2.heap.size w2) (.cells #[.slice X v.length c,.slice (some ⟨g,0,none⟩) es.length cap] 22)
  have NJ:=JN.out _ w2.heap.size (some ⟨g,0,none⟩) cap es (Blk.new w2 22 #[.slice X v.length c,.slice (some ⟨g,0,none⟩) es.length cap]) (HX.out.later (below_on b2 b3)) ((OneL.of_lay hL2 hcl hcm.out).later b3)
  have HJ:=Hd NJ
  have FB:=Hd (below_on (below_on hbn b2) b3)
  clear NJ JN b3 B2 b2 b1 hL2
  go_wp2_with fail
  refine HJ.out.mono ?_
  rintro e w4 ⟨u4,rfl,ho4,b4⟩
  have HO:=Hd ho4
  clear ho4
  go_wp2
  go_ret
  exact⟨_,rfl,own_base HO.out FB.out.size,below_on FB.out b4⟩
def GivesStay(X:Option Addr)(c:Nat)(vl:List (Int × Int))(zs:List Zn)(w:World)(e:Ending)(w':World):Prop:=
 ∃u L,e = .returned u∧w'.ownsRow w.heap.size 99 3 u (List.length L) (zCells L)∧L.map Zc.zn=zs∧(∀z∈L,z.X=X∧z.c=c∧z.l=vl)∧Below w.heap.size w w'
namespace Tr
def tornTo(lo hi:Int)(fu:List (Int × Int))(ws:List Wr):List Int:=(ws.filter fun w=>inOf [(lo,hi)] w.2.2.1 && !hasOf fu w.1 w.2.1).map fun w=>w.2.2.1
theorem tornTo_snoc(lo hi:Int)(fu:List (Int × Int))(ws:List Wr)(x:Wr):tornTo lo hi fu (ws++[x])=tornTo lo hi fu ws++(if (inOf [(lo,hi)] x.2.2.1 && !hasOf fu x.1 x.2.1)=true then [x.2.2.1] else []):=by
 unfold tornTo
 rw[List.filter_append,List.map_append]
 congr 1
 rw[List.filter_cons]
 split<;>rfl
theorem tornTo_len(lo hi:Int)(fu:List (Int × Int))(ws:List Wr):(tornTo lo hi fu ws).length≤ws.length:=by
 unfold tornTo
 rw[List.length_map]
 exact List.length_filter_le _ _
end Tr
theorem ws_short{n:Note}(hn:Nt.fmd n=true):n.ws.length≤256:=by
 have hw:Nt.wsTo n n.ws.length:=by
  unfold Nt.fmd at hn
  simp only[Bool.and_eq_true]at hn
  exact(Nt.wsOk_iff n).1 hn.2.2.2.2
 have up:∀j,j<n.ws.length→(j:Int)≤Nt.obj n.ws j∧Nt.obj n.ws j≤255:=fun j=>by
  induction j with
  |zero=>intro h;have:=(hw 0 h).2.1;omega
  |succ j ih=>
   intro h
   have h1:=ih (by omega)
   have h2:=hw (j+1) h
   have h3:=h2.2.2.2 (by omega)
   rw[Nat.add_sub_cancel]at h3
   have:=h2.2.1
   omega
 rcases Nat.lt_or_ge 256 n.ws.length with h|h
 ·have:=up 256 h
  omega
 ·exact h
theorem bl_short{n:Note}(hn:Nt.fmd n=true):n.b.length≤256:=by
 have hg:Sp.fmd n.b=true:=by
  unfold Nt.fmd at hn
  simp only[Bool.and_eq_true]at hn
  exact hn.2.2.2.1
 have hw:=(Sp.fmd_iff n.b).1 hg
 have up:∀j,j<n.b.length→(j:Int)≤(n.b.getD j (0,0)).1∧(n.b.getD j (0,0)).2<256∧(n.b.getD j (0,0)).1≤(n.b.getD j (0,0)).2:=fun j=>by
  induction j with
  |zero=>intro h;have:=hw 0 h;exact⟨this.1,this.2.2.1,this.2.1⟩
  |succ j ih=>
   intro h
   have h1:=ih (by omega)
   obtain⟨q1,q2,q3,q4⟩:=hw (j+1) h
   have h3:=q4 (by omega)
   rw[Nat.add_sub_cancel]at h3
   omega
 rcases Nat.lt_or_ge 256 n.b.length with h|h
 ·have:=up 256 h
  omega
 ·exact h
set_option maxRecDepth 100000 in
set_option maxHeartbeats 12800000 in
theorem tstaying_any(S' E Bl V X Y:Option Addr)(cs ce cl cv c d:Nat)(n:Note)(lo hi:Int)(vl fu:List (Int × Int))(w:World)(h2:NoteAt w S' E Bl V cs ce cl cv n)(hn:Nt.fmd n=true)(hY:OneL w Y d fu) :
  Calls Tryz.prog 129 #[.agg (noteCells S' E Bl V cs ce cl cv n),.agg #[.int .i64 lo,.int .i64 hi],.slice X vl.length c,.slice Y fu.length d] w (GivesStay X c vl (Tr.stay (lo,hi,vl) fu n) w):=by
 obtain⟨W1,hW1⟩:∃W1,(w.alloc (.cells (noteCells S' E Bl V cs ce cl cv n) 40)).alloc (.cells #[.int .i64 lo,.int .i64 hi] 97)=W1:=⟨_,rfl⟩
 have hbn:Below w.heap.size w W1:=by rw[←hW1];exact below_new (below_new (Below.refl _ _) _) _
 have B4:Blk W1 w.heap.size 40 (noteCells S' E Bl V cs ce cl cv n):=by rw[←hW1];exact(Blk.new w _ _).alloc _
 have B5:Blk W1 (w.heap.size+1) 97 #[.int .i64 lo,.int .i64 hi]:=by rw[←hW1];simpa using Blk.new (w.alloc (.cells (noteCells S' E Bl V cs ce cl cv n) 40)) 97 #[.int .i64 lo,.int .i64 hi]
 obtain⟨-,-,c2,c3⟩:=note_cells B4
 have hws:=ws_short hn
 have hbs:=bl_short hn
 have HW:=Hd (h2.hv.later hbn)
 have HBL:=Hd (h2.hb.later hbn)
 have HYY:=Hd (hY.later hbn)
 have HB4:=Hd B4
 have HB5:=Hd B5
 have HC2':=Hd c2
 have HW1:=Hd hW1
 have HBN:=Hd hbn
 obtain⟨S,hS⟩:∃S,Tr.keeps (lo,hi,vl) fu n=S:=⟨_,rfl⟩
 have hst:Tr.stay (lo,hi,vl) fu n=S.map fun s=>(s.1,s.2,vl):=by unfold Tr.stay;rw[hS]
 rw[hst]
 have hSl:S.length≤128:=by rw[←hS];unfold Tr.keeps Sp.meetS;exact Sp.ofL_len _
 have hS2:S=Sp.meetS [(lo,hi)] (Sp.joinS [n.b,Sp.ofL (Sp.someOf (Tr.tornTo lo hi fu n.ws))]):=hS.symm
 have HS2:=Hd hS2
 obtain⟨i0,hI,hz0,hz1,hz2⟩:=info_parts (show(Tryz.prog.info? 3).map (fun i=>(i.zero,i.size,i.bytes))=some (some (.int .i64 0),1,8) from by kernel_rfl)
 obtain⟨i1,hI1,hy0,hy1,hy2⟩:=info_parts infoZn
 have hz1':w.heap.size+2≤W1.heap.size:=by rw[←hW1];simp
 have p3:=c3
 rw[←hW1]at p3
 unfold noteCells at p3 ⊢
 clear hbn B4 B5 hn h2 hY hS hst hS2 hW1 c2
 go_enter Tryz.func129,Tryz.ntmps129
 go_wp2_with fail
 rw[show(w.alloc (.cells #[.slice S' n.s.length cs,.slice E n.e.length ce,.slice Bl n.b.length cl,.slice V n.ws.length cv] 40)).alloc (.cells #[.int .i64 lo,.int .i64 hi] 97)=W1 from HW1.out]
 clear HW1 p3
 go_loopw [9,18] (fun s9 s18 wr=>∃(k:Nat),k≤n.ws.length∧s18 = .int .i64 (k:Int)∧wr.ownsRow W1.heap.size 3 1 s9 (Tr.tornTo lo hi fu (n.ws.take k)).length ((Tr.tornTo lo hi fu (n.ws.take k)).map (Value.int .i64))∧Below W1.heap.size W1 wr) (fun _ s18 _=>n.ws.length-(intOf s18).toNat)
 case atStart=>exact⟨0,Nat.zero_le _,rfl,⟨rfl,.inl ⟨rfl,rfl⟩⟩,Below.refl _ _⟩
 case round=>
  obtain⟨k,hk,rfl,ho,hbw⟩:=hrel
  have hTl:=Tr.tornTo_len lo hi fu (n.ws.take k)
  obtain⟨tl,htl⟩:∃tl,Tr.tornTo lo hi fu (n.ws.take k)=tl:=⟨_,rfl⟩
  rw[htl]at ho hTl
  obtain⟨TA,tc,hvv,-,htm,htn,-⟩:=own_form ho
  subst hvv
  unfold maxLen at htm
  have HO9:=Hd ho
  have HTL:=Hd htl
  have hTl:tl.length≤256:=by
   have:(n.ws.take k).length≤n.ws.length:=by rw[List.length_take];omega
   omega
  clear ho htl
  by_cases hlt:k<n.ws.length
  ·have hne:n.ws≠[]:=fun e=>by rw[e]at hlt;simp at hlt
   obtain⟨b,off,hA,hc⟩:=(HW.out.later hbw).at hne
   subst hA
   obtain⟨e0,e1,e2,e3⟩:=hc k hlt
   have htk:n.ws.take (k+1)=n.ws.take k++[n.ws.getD k Nt.zeroW]:=by
    rw[List.take_succ_eq_append_getElem hlt,List.getD_eq_getElem?_getD,List.getElem?_eq_getElem hlt];rfl
   obtain⟨x,hx⟩:∃x,n.ws.getD k Nt.zeroW=x:=⟨_,rfl⟩
   rw[hx]at e0 e1 e2 e3 htk
   have hnx:=Tr.tornTo_snoc lo hi fu (n.ws.take k) x
   rw[HTL.out,←htk]at hnx
   have hi0:(0:Int)≤(k:Int):=by omega
   have hi1:(k:Int)<(n.ws.length:Int):=by omega
   obtain⟨ct,nd,ob,gn⟩:=x
   dsimp only at e0 e1 e2 e3 hnx
   obtain⟨W2,hW2⟩:∃W2,wr.alloc (.cells #[.int .i64 ct,.int .i64 nd,.int .i64 ob,.bool gn] 52)=W2:=⟨_,rfl⟩
   have hb2:Below wr.heap.size wr W2:=by rw[←hW2];exact below_new (Below.refl _ _) _
   have XB:Blk W2 wr.heap.size 52 #[.int .i64 ct,.int .i64 nd,.int .i64 ob,.bool gn]:=by rw[←hW2];exact Blk.new wr _ _
   have BN:=Hd (below_on hbw hb2)
   have HB2:=Hd hb2
   obtain⟨bx,hbx⟩:∃bx,wr.heap.size=bx:=⟨_,rfl⟩
   rw[hbx]at XB
   have HX:=Hd XB
   have HS5:=Hd (HB5.out.later BN.out)
   obtain⟨ho,hho⟩:∃q,inOf [(lo,hi)] ob=q:=⟨_,rfl⟩
   obtain⟨hh,hhh⟩:∃q,hasOf fu ct nd=q:=⟨_,rfl⟩
   rw[hho,hhh]at hnx
   have HNX:=Hd hnx
   have HO:=Hd (fun (w':World) (g:Nat) (q:Blk w' g 97 #[.int .i64 lo,.int .i64 hi])=>(show Calls Tryz.prog 83 #[.slice (some ⟨g,0,none⟩) 1 1,.int .i64 ob] w' (Says (.bool ho) w') from by
    rw[←hho]
    exact sphas_any (some ⟨g,0,none⟩) 1 [(lo,hi)] ob w' (one_stamp q)))
   have HH:=Hd (fun (w':World) (q:Below W2.heap.size W2 w')=>(show Calls Tryz.prog 133 #[.slice Y fu.length d,.agg #[.int .i64 ct,.int .i64 nd]] w' (Says (.bool hh) w') from by
    rw[←hhh]
    exact has_any Y d fu ct nd w' ((HYY.out.later BN.out).later q)))
   have HOW:=Hd (own_later HO9.out hb2)
   have HW2:=Hd hW2
   have HBX:=Hd hbx
   clear hc hne hx hnx hho hhh hW2 hb2 XB htk hbx hbw
   go_upto_region 5 with (fail)
   rw[HW2.out,HBX.out]
   clear e0 e1 e2 e3 HW2
   cases ho with
   |false=>
    have HT:=Hd (show Tr.tornTo lo hi fu (n.ws.take (k+1))=tl from by rw[HNX.out];simp)
    refine wp_region_facts 11 (by kernel_rfl) (by kernel_rfl)
     (fun v=>{ tmps:=#[.agg #[.slice S' n.s.length cs,.slice E n.e.length ce,.slice Bl n.b.length cl,.slice (some ⟨b,off,none⟩) n.ws.length cv],.agg #[.int .i64 lo,.int .i64 hi],.slice X vl.length c,.slice Y fu.length d,.pointer (some ⟨w.heap.size,0,none⟩),.pointer (some ⟨w.heap.size+1,0,none⟩),undef,undef,.slice none 0 0,.slice TA tl.length tc,undef,.pointer (some ⟨bx,0,none⟩),undef,undef,undef,.pointer (some ⟨w.heap.size,3,none⟩),.slice (some ⟨b,off,none⟩) n.ws.length cv,.int .i64 (n.ws.length:Int),.int .i64 (k:Int),.bool true,.pointer (some ⟨b,off+k*4,none⟩),.agg #[.int .i64 ct,.int .i64 nd,.int .i64 ob,.bool gn],v 0,v 1,v 2,v 3,v 4,v 5,v 6,v 7,v 8,v 9,v 10,u33,u34,u35,u36,u37,u38,u39,undef,undef,undef,undef,undef,undef,undef,undef,undef,undef,undef,undef,undef,undef,undef,undef,undef,undef,undef,undef,undef,undef],defers:=[] }) (fun i=>match i with|0=>u22|1=>u23|2=>u24|3=>u25|4=>u26|5=>u27|6=>u28|7=>u29|8=>u30|9=>u31|10=>u32|_=>undef)
     (fun i x wx=>match i with
      |0=>x = .agg #[.int .i64 lo,.int .i64 hi]
      |1=>∃g,x = .slice (some ⟨g,0,none⟩) 1 1∧Blk wx g 97 #[.int .i64 lo,.int .i64 hi]
      |2=>x = .pointer (some ⟨bx,2,none⟩)
      |3=>x = .int .i64 ob
      |4=>x = .bool false
      |5=>x = .bool false
      |6=>x=undef
      |7=>x=undef
      |8=>x=undef
      |9=>x=undef
      |10=>x=undef
      |_=>True)
     (fun w1 w2=>Below w1.heap.size w1 w2) (fun h1 h2=>below_on h1 h2) (fun _=>Below.refl _ _) (Below.drew (Below.refl _ _)) ?staba ?stepa ?donea
    case staba=>
     rintro i x w1 w2 h hb
     match i,h with
     |0,h=>exact h
     |1,h=>obtain⟨g,h1,h2⟩:=h;exact⟨g,h1,h2.later hb⟩
     |2,h=>exact h
     |3,h=>exact h
     |4,h=>exact h
     |5,h=>exact h
     |6,h=>exact h
     |7,h=>exact h
     |8,h=>exact h
     |9,h=>exact h
     |10,h=>exact h
     |i+11,_=>trivial
    case stepa=>
     intro i hi v w' hb hd
     match i,hi with
     |0,_=>
      refine wpOp_oneH rfl fun KK HKK =>?_
      clear hd
      have q0:=cell_later hb (HS5.out.cell (i:=0) rfl)
      have q1:=cell_later hb (HS5.out.cell (i:=1) rfl)
      go_wp2
      exact HKK.out _ _ ⟨_,(by simp[upd];done),Below.refl _ _,rfl⟩
     |1,_=>
      have h0:v 0=_:=hdx hd 0 (by kernel_rfl)
      refine wpOp_oneH rfl fun KK HKK =>?_
      clear hd
      rw[h0]
      go_wp2_with fail
      refine(alone_any _ _ _).mono ?_
      rintro e w'' ⟨g,rfl,ob,-,b⟩
      go_wp2
      exact HKK.out _ _ ⟨_,(by simp[upd,h0];done),b,g,rfl,ob⟩
     |2,_=>
      refine wpOp_oneH rfl fun KK HKK =>?_
      clear hd
      go_wp2
      exact HKK.out _ _ ⟨_,(by simp[upd];done),Below.refl _ _,rfl⟩
     |3,_=>
      have h2:v 2=_:=hdx hd 2 (by kernel_rfl)
      refine wpOp_oneH rfl fun KK HKK =>?_
      clear hd
      rw[h2]
      have q0:=cell_later hb (HX.out.cell (i:=2) rfl)
      go_wp2
      exact HKK.out _ _ ⟨_,(by simp[upd,h2];done),Below.refl _ _,rfl⟩
     |4,_=>
      obtain⟨g1,h1,o1⟩:=hd 1 (List.elem_iff.1 (by kernel_rfl))
      have h3:v 3=_:=hdx hd 3 (by kernel_rfl)
      refine wpOp_oneH rfl fun KK HKK =>?_
      clear hd
      rw[h1,h3]
      go_wp2_with fail
      refine(HO.out _ _ o1).mono ?_
      rintro e w'' ⟨rfl,b⟩
      go_wp2
      exact HKK.out _ _ ⟨_,(by simp[upd,h1,h3];done),b,rfl⟩
     |5,_=>
      have h4:v 4=_:=hdx hd 4 (by kernel_rfl)
      refine wpOp_oneH rfl fun KK HKK =>?_
      clear hd
      rw[h4]
      go_wp2
      exact HKK.out _ _ ⟨_,(by simp[upd,h4];done),Below.refl _ _,rfl⟩
     |6,_=>
      have h5:v 5=_:=hdx hd 5 (by kernel_rfl)
      clear hd
      rw[h5]
      exact wpOp_skip rfl (by rfl) ⟨_,(by simp[upd,Act.put,h5];done),Below.refl _ _,rfl⟩
     |7,_=>
      have h5:v 5=_:=hdx hd 5 (by kernel_rfl)
      clear hd
      rw[h5]
      exact wpOp_skip rfl (by rfl) ⟨_,(by simp[upd,Act.put,h5];done),Below.refl _ _,rfl⟩
     |8,_=>
      have h5:v 5=_:=hdx hd 5 (by kernel_rfl)
      clear hd
      rw[h5]
      exact wpOp_skip rfl (by rfl) ⟨_,(by simp[upd,Act.put,h5];done),Below.refl _ _,rfl⟩
     |9,_=>
      have h5:v 5=_:=hdx hd 5 (by kernel_rfl)
      clear hd
      rw[h5]
      exact wpOp_skip rfl (by rfl) ⟨_,(by simp[upd,Act.put,h5];done),Below.refl _ _,rfl⟩
     |10,_=>
      have h5:v 5=_:=hdx hd 5 (by kernel_rfl)
      clear hd
      rw[h5]
      exact wpOp_skip rfl (by rfl) ⟨_,(by simp[upd,Act.put,h5];done),Below.refl _ _,rfl⟩
     |k+11,hk=>exact absurd hk (by omega)
    case donea=>
     intro v w5 hb hf
     have h5:v 5=_:=hf 5 (by decide)
     have h10:v 10=_:=hf 10 (by decide)
     clear hf
     rw[h5,h10]
     have HBB:=Hd (below_on BN.out hb)
     have HO2:=Hd (own_later HOW.out hb)
     clear hb
     go_wp2_with fail
     go_roundw
     case rel=>exact⟨k+1,by omega,by first|rfl|go_num,by rw[HT.out];exact HO2.out,HBB.out⟩
     case measure=>simp[intOf];omega
   |true=>
   cases hh with
   |true=>
    have HT:=Hd (show Tr.tornTo lo hi fu (n.ws.take (k+1))=tl from by rw[HNX.out];simp)
    refine wp_region_facts 11 (by kernel_rfl) (by kernel_rfl)
     (fun v=>{ tmps:=#[.agg #[.slice S' n.s.length cs,.slice E n.e.length ce,.slice Bl n.b.length cl,.slice (some ⟨b,off,none⟩) n.ws.length cv],.agg #[.int .i64 lo,.int .i64 hi],.slice X vl.length c,.slice Y fu.length d,.pointer (some ⟨w.heap.size,0,none⟩),.pointer (some ⟨w.heap.size+1,0,none⟩),undef,undef,.slice none 0 0,.slice TA tl.length tc,undef,.pointer (some ⟨bx,0,none⟩),undef,undef,undef,.pointer (some ⟨w.heap.size,3,none⟩),.slice (some ⟨b,off,none⟩) n.ws.length cv,.int .i64 (n.ws.length:Int),.int .i64 (k:Int),.bool true,.pointer (some ⟨b,off+k*4,none⟩),.agg #[.int .i64 ct,.int .i64 nd,.int .i64 ob,.bool gn],v 0,v 1,v 2,v 3,v 4,v 5,v 6,v 7,v 8,v 9,v 10,u33,u34,u35,u36,u37,u38,u39,undef,undef,undef,undef,undef,undef,undef,undef,undef,undef,undef,undef,undef,undef,undef,undef,undef,undef,undef,undef,undef,undef],defers:=[] }) (fun i=>match i with|0=>u22|1=>u23|2=>u24|3=>u25|4=>u26|5=>u27|6=>u28|7=>u29|8=>u30|9=>u31|10=>u32|_=>undef)
     (fun i x wx=>match i with
      |0=>x = .agg #[.int .i64 lo,.int .i64 hi]
      |1=>∃g,x = .slice (some ⟨g,0,none⟩) 1 1∧Blk wx g 97 #[.int .i64 lo,.int .i64 hi]
      |2=>x = .pointer (some ⟨bx,2,none⟩)
      |3=>x = .int .i64 ob
      |4=>x = .bool true
      |5=>x = .bool true
      |6=>x = .slice Y fu.length d
      |7=>x = .pointer (some ⟨bx,0,none⟩)
      |8=>x = .agg #[.int .i64 ct,.int .i64 nd]
      |9=>x = .bool true
      |10=>x = .bool false
      |_=>True)
     (fun w1 w2=>Below w1.heap.size w1 w2) (fun h1 h2=>below_on h1 h2) (fun _=>Below.refl _ _) (Below.drew (Below.refl _ _)) ?stabb ?stepb ?doneb
    case stabb=>
     rintro i x w1 w2 h hb
     match i,h with
     |0,h=>exact h
     |1,h=>obtain⟨g,h1,h2⟩:=h;exact⟨g,h1,h2.later hb⟩
     |2,h=>exact h
     |3,h=>exact h
     |4,h=>exact h
     |5,h=>exact h
     |6,h=>exact h
     |7,h=>exact h
     |8,h=>exact h
     |9,h=>exact h
     |10,h=>exact h
     |i+11,_=>trivial
    case stepb=>
     intro i hi v w' hb hd
     match i,hi with
     |0,_=>
      refine wpOp_oneH rfl fun KK HKK =>?_
      clear hd
      have q0:=cell_later hb (HS5.out.cell (i:=0) rfl)
      have q1:=cell_later hb (HS5.out.cell (i:=1) rfl)
      go_wp2
      exact HKK.out _ _ ⟨_,(by simp[upd];done),Below.refl _ _,rfl⟩
     |1,_=>
      have h0:v 0=_:=hdx hd 0 (by kernel_rfl)
      refine wpOp_oneH rfl fun KK HKK =>?_
      clear hd
      rw[h0]
      go_wp2_with fail
      refine(alone_any _ _ _).mono ?_
      rintro e w'' ⟨g,rfl,ob,-,b⟩
      go_wp2
      exact HKK.out _ _ ⟨_,(by simp[upd,h0];done),b,g,rfl,ob⟩
     |2,_=>
      refine wpOp_oneH rfl fun KK HKK =>?_
      clear hd
      go_wp2
      exact HKK.out _ _ ⟨_,(by simp[upd];done),Below.refl _ _,rfl⟩
     |3,_=>
      have h2:v 2=_:=hdx hd 2 (by kernel_rfl)
      refine wpOp_oneH rfl fun KK HKK =>?_
      clear hd
      rw[h2]
      have q0:=cell_later hb (HX.out.cell (i:=2) rfl)
      go_wp2
      exact HKK.out _ _ ⟨_,(by simp[upd,h2];done),Below.refl _ _,rfl⟩
     |4,_=>
      obtain⟨g1,h1,o1⟩:=hd 1 (List.elem_iff.1 (by kernel_rfl))
      have h3:v 3=_:=hdx hd 3 (by kernel_rfl)
      refine wpOp_oneH rfl fun KK HKK =>?_
      clear hd
      rw[h1,h3]
      go_wp2_with fail
      refine(HO.out _ _ o1).mono ?_
      rintro e w'' ⟨rfl,b⟩
      go_wp2
      exact HKK.out _ _ ⟨_,(by simp[upd,h1,h3];done),b,rfl⟩
     |5,_=>
      have h4:v 4=_:=hdx hd 4 (by kernel_rfl)
      refine wpOp_oneH rfl fun KK HKK =>?_
      clear hd
      rw[h4]
      go_wp2
      exact HKK.out _ _ ⟨_,(by simp[upd,h4];done),Below.refl _ _,rfl⟩
     |6,_=>
      have h5:v 5=_:=hdx hd 5 (by kernel_rfl)
      refine wpOp_oneH rfl fun KK HKK =>?_
      clear hd
      rw[h5]
      go_wp2
      exact HKK.out _ _ ⟨_,(by simp[upd,h5];done),Below.refl _ _,rfl⟩
     |7,_=>
      have h5:v 5=_:=hdx hd 5 (by kernel_rfl)
      refine wpOp_oneH rfl fun KK HKK =>?_
      clear hd
      rw[h5]
      go_wp2
      exact HKK.out _ _ ⟨_,(by simp[upd,h5];done),Below.refl _ _,rfl⟩
     |8,_=>
      have h5:v 5=_:=hdx hd 5 (by kernel_rfl)
      have h7:v 7=_:=hdx hd 7 (by kernel_rfl)
      refine wpOp_oneH rfl fun KK HKK =>?_
      clear hd
      rw[h5,h7]
      have q0:=cell_later hb (HX.out.cell (i:=0) rfl)
      have q1:=cell_later hb (HX.out.cell (i:=1) rfl)
      go_wp2
      exact HKK.out _ _ ⟨_,(by simp[upd,h5,h7];done),Below.refl _ _,rfl⟩
     |9,_=>
      have h5:v 5=_:=hdx hd 5 (by kernel_rfl)
      have h6:v 6=_:=hdx hd 6 (by kernel_rfl)
      have h8:v 8=_:=hdx hd 8 (by kernel_rfl)
      refine wpOp_oneH rfl fun KK HKK =>?_
      clear hd
      rw[h5,h6,h8]
      go_wp2_with fail
      refine(HH.out _ hb).mono ?_
      rintro e w'' ⟨rfl,b⟩
      go_wp2
      exact HKK.out _ _ ⟨_,(by simp[upd,h5,h6,h8];done),b,rfl⟩
     |10,_=>
      have h5:v 5=_:=hdx hd 5 (by kernel_rfl)
      have h9:v 9=_:=hdx hd 9 (by kernel_rfl)
      refine wpOp_oneH rfl fun KK HKK =>?_
      clear hd
      rw[h5,h9]
      go_wp2
      exact HKK.out _ _ ⟨_,(by simp[upd,h5,h9];done),Below.refl _ _,rfl⟩
     |k+11,hk=>exact absurd hk (by omega)
    case doneb=>
     intro v w5 hb hf
     have h5:v 5=_:=hf 5 (by decide)
     have h10:v 10=_:=hf 10 (by decide)
     clear hf
     rw[h5,h10]
     have HBB:=Hd (below_on BN.out hb)
     have HO2:=Hd (own_later HOW.out hb)
     clear hb
     go_wp2_with fail
     go_roundw
     case rel=>exact⟨k+1,by omega,by first|rfl|go_num,by rw[HT.out];exact HO2.out,HBB.out⟩
     case measure=>simp[intOf];omega
   |false=>
    have HT:=Hd (show Tr.tornTo lo hi fu (n.ws.take (k+1))=tl++[ob] from by rw[HNX.out];simp)
    refine wp_region_facts 11 (by kernel_rfl) (by kernel_rfl)
     (fun v=>{ tmps:=#[.agg #[.slice S' n.s.length cs,.slice E n.e.length ce,.slice Bl n.b.length cl,.slice (some ⟨b,off,none⟩) n.ws.length cv],.agg #[.int .i64 lo,.int .i64 hi],.slice X vl.length c,.slice Y fu.length d,.pointer (some ⟨w.heap.size,0,none⟩),.pointer (some ⟨w.heap.size+1,0,none⟩),undef,undef,.slice none 0 0,.slice TA tl.length tc,undef,.pointer (some ⟨bx,0,none⟩),undef,undef,undef,.pointer (some ⟨w.heap.size,3,none⟩),.slice (some ⟨b,off,none⟩) n.ws.length cv,.int .i64 (n.ws.length:Int),.int .i64 (k:Int),.bool true,.pointer (some ⟨b,off+k*4,none⟩),.agg #[.int .i64 ct,.int .i64 nd,.int .i64 ob,.bool gn],v 0,v 1,v 2,v 3,v 4,v 5,v 6,v 7,v 8,v 9,v 10,u33,u34,u35,u36,u37,u38,u39,undef,undef,undef,undef,undef,undef,undef,undef,undef,undef,undef,undef,undef,undef,undef,undef,undef,undef,undef,undef,undef,undef],defers:=[] }) (fun i=>match i with|0=>u22|1=>u23|2=>u24|3=>u25|4=>u26|5=>u27|6=>u28|7=>u29|8=>u30|9=>u31|10=>u32|_=>undef)
     (fun i x wx=>match i with
      |0=>x = .agg #[.int .i64 lo,.int .i64 hi]
      |1=>∃g,x = .slice (some ⟨g,0,none⟩) 1 1∧Blk wx g 97 #[.int .i64 lo,.int .i64 hi]
      |2=>x = .pointer (some ⟨bx,2,none⟩)
      |3=>x = .int .i64 ob
      |4=>x = .bool true
      |5=>x = .bool true
      |6=>x = .slice Y fu.length d
      |7=>x = .pointer (some ⟨bx,0,none⟩)
      |8=>x = .agg #[.int .i64 ct,.int .i64 nd]
      |9=>x = .bool false
      |10=>x = .bool true
      |_=>True)
     (fun w1 w2=>Below w1.heap.size w1 w2) (fun h1 h2=>below_on h1 h2) (fun _=>Below.refl _ _) (Below.drew (Below.refl _ _)) ?stabc ?stepc ?donec
    case stabc=>
     rintro i x w1 w2 h hb
     match i,h with
     |0,h=>exact h
     |1,h=>obtain⟨g,h1,h2⟩:=h;exact⟨g,h1,h2.later hb⟩
     |2,h=>exact h
     |3,h=>exact h
     |4,h=>exact h
     |5,h=>exact h
     |6,h=>exact h
     |7,h=>exact h
     |8,h=>exact h
     |9,h=>exact h
     |10,h=>exact h
     |i+11,_=>trivial
    case stepc=>
     intro i hi v w' hb hd
     match i,hi with
     |0,_=>
      refine wpOp_oneH rfl fun KK HKK =>?_
      clear hd
      have q0:=cell_later hb (HS5.out.cell (i:=0) rfl)
      have q1:=cell_later hb (HS5.out.cell (i:=1) rfl)
      go_wp2
      exact HKK.out _ _ ⟨_,(by simp[upd];done),Below.refl _ _,rfl⟩
     |1,_=>
      have h0:v 0=_:=hdx hd 0 (by kernel_rfl)
      refine wpOp_oneH rfl fun KK HKK =>?_
      clear hd
      rw[h0]
      go_wp2_with fail
      refine(alone_any _ _ _).mono ?_
      rintro e w'' ⟨g,rfl,ob,-,b⟩
      go_wp2
      exact HKK.out _ _ ⟨_,(by simp[upd,h0];done),b,g,rfl,ob⟩
     |2,_=>
      refine wpOp_oneH rfl fun KK HKK =>?_
      clear hd
      go_wp2
      exact HKK.out _ _ ⟨_,(by simp[upd];done),Below.refl _ _,rfl⟩
     |3,_=>
      have h2:v 2=_:=hdx hd 2 (by kernel_rfl)
      refine wpOp_oneH rfl fun KK HKK =>?_
      clear hd
      rw[h2]
      have q0:=cell_later hb (HX.out.cell (i:=2) rfl)
      go_wp2
      exact HKK.out _ _ ⟨_,(by simp[upd,h2];done),Below.refl _ _,rfl⟩
     |4,_=>
      obtain⟨g1,h1,o1⟩:=hd 1 (List.elem_iff.1 (by kernel_rfl))
      have h3:v 3=_:=hdx hd 3 (by kernel_rfl)
      refine wpOp_oneH rfl fun KK HKK =>?_
      clear hd
      rw[h1,h3]
      go_wp2_with fail
      refine(HO.out _ _ o1).mono ?_
      rintro e w'' ⟨rfl,b⟩
      go_wp2
      exact HKK.out _ _ ⟨_,(by simp[upd,h1,h3];done),b,rfl⟩
     |5,_=>
      have h4:v 4=_:=hdx hd 4 (by kernel_rfl)
      refine wpOp_oneH rfl fun KK HKK =>?_
      clear hd
      rw[h4]
      go_wp2
      exact HKK.out _ _ ⟨_,(by simp[upd,h4];done),Below.refl _ _,rfl⟩
     |6,_=>
      have h5:v 5=_:=hdx hd 5 (by kernel_rfl)
      refine wpOp_oneH rfl fun KK HKK =>?_
      clear hd
      rw[h5]
      go_wp2
      exact HKK.out _ _ ⟨_,(by simp[upd,h5];done),Below.refl _ _,rfl⟩
     |7,_=>
      have h5:v 5=_:=hdx hd 5 (by kernel_rfl)
      refine wpOp_oneH rfl fun KK HKK =>?_
      clear hd
      rw[h5]
      go_wp2
      exact HKK.out _ _ ⟨_,(by simp[upd,h5];done),Below.refl _ _,rfl⟩
     |8,_=>
      have h5:v 5=_:=hdx hd 5 (by kernel_rfl)
      have h7:v 7=_:=hdx hd 7 (by kernel_rfl)
      refine wpOp_oneH rfl fun KK HKK =>?_
      clear hd
      rw[h5,h7]
      have q0:=cell_later hb (HX.out.cell (i:=0) rfl)
      have q1:=cell_later hb (HX.out.cell (i:=1) rfl)
      go_wp2
      exact HKK.out _ _ ⟨_,(by simp[upd,h5,h7];done),Below.refl _ _,rfl⟩
     |9,_=>
      have h5:v 5=_:=hdx hd 5 (by kernel_rfl)
      have h6:v 6=_:=hdx hd 6 (by kernel_rfl)
      have h8:v 8=_:=hdx hd 8 (by kernel_rfl)
      refine wpOp_oneH rfl fun KK HKK =>?_
      clear hd
      rw[h5,h6,h8]
      go_wp2_with fail
      refine(HH.out _ hb).mono ?_
      rintro e w'' ⟨rfl,b⟩
      go_wp2
      exact HKK.out _ _ ⟨_,(by simp[upd,h5,h6,h8];done),b,rfl⟩
     |10,_=>
      have h5:v 5=_:=hdx hd 5 (by kernel_rfl)
      have h9:v 9=_:=hdx hd 9 (by kernel_rfl)
      refine wpOp_oneH rfl fun KK HKK =>?_
      clear hd
      rw[h5,h9]
      go_wp2
      exact HKK.out _ _ ⟨_,(by simp[upd,h5,h9];done),Below.refl _ _,rfl⟩
     |k+11,hk=>exact absurd hk (by omega)
    case donec=>
     intro v w5 hb hf
     have h5:v 5=_:=hf 5 (by decide)
     have h10:v 10=_:=hf 10 (by decide)
     clear hf
     rw[h5,h10]
     have HBB:=Hd (below_on BN.out hb)
     have hbz:=HBB.out.size
     have x2:=(HX.out.later hb).cell (i:=2) rfl
     have b3:=below_new (Below.refl w5.heap.size w5) (.cells #[.int .i64 ob] 3)
     have YB:=Blk.new w5 3 #[.int .i64 ob]
     have hown:=Hd (own_later (own_later HOW.out hb) b3)
     have HB3:=Hd (below_on HBB.out b3)
     have HY3:=Hd (show Lies (w5.alloc (.cells #[.int .i64 ob] 3)) (some ⟨w5.heap.size,0,none⟩) [.int .i64 ob] from fun _=>⟨w5.heap.size,0,rfl,fun j u hu=>by
      rw[Nat.zero_add]
      exact YB.cell (by simpa using hu)⟩)
     have hs3:=HB3.out.size
     clear hb b3 YB
     go_wp2_with (at_builtin;refine Go.Proofs.YtjlfehpockfkdaaGreat.wpList_append_lies _ rfl _ _ 85 rfl W1.heap.size 3 i0 (.int .i64 0) 1 8 Tryz.underlying85 hI hz0 hz1 hz2 rfl (by decide) (.slice TA tl.length tc) tl.length (tl.map (Value.int .i64)) rfl hown.out (some ⟨w5.heap.size,0,none⟩) 1 1 (fun h=>by cases h) [.int .i64 ob] rfl rfl HY3.out (by intro u hu;simp at hu;subst hu;rfl) ?d3 ?d4 ?d5 ?_)
     case d3=>unfold maxLen;omega
     case d4=>omega
     case d5=>exact hs3
     intro v7 w7 ho7 hg7 _
     have HO7:=Hd (show w7.ownsRow W1.heap.size 3 1 v7 (tl++[ob]).length ((tl++[ob]).map (Value.int .i64)) from by
      rw[List.length_append,List.map_append]
      exact ho7)
     have HB7:=Hd (HB3.out.grown hg7 hs3 (fun q hq=>own_ge hown.out q hq))
     clear ho7 hg7 hs3
     go_wp2_with fail
     go_roundw
     case rel=>exact⟨k+1,by omega,by first|rfl|go_num,by rw[HT.out];exact HO7.out,HB7.out⟩
     case measure=>simp[intOf];omega
  ·have hkl:k=n.ws.length:=by omega
   have hd:decide ((k:Int)<(n.ws.length:Int))=false:=decide_eq_false (by omega)
   have htk:Tr.tornTo lo hi fu n.ws=tl:=by rw[←HTL.out,hkl,List.take_length]
   have hS3:=HS2.out
   rw[htk]at hS3
   obtain⟨js,hjs⟩:∃js,Sp.joinS [n.b,Sp.ofL (Sp.someOf tl)]=js:=⟨_,rfl⟩
   rw[hjs]at hS3
   have HTA:=Hd (show Lies wr TA (tl.map (Value.int .i64)) from by
    obtain⟨A9,c9,e9,-,-,-,h9⟩:=own_form HO9.out
    injection e9 with e9 _ _
    subst e9
    exact h9)
   have HS5:=Hd (HB5.out.later hbw)
   have HC2:=Hd (cell_later hbw HC2'.out)
   have HOF:=Hd (fun (w':World) (q:Below wr.heap.size wr w')=>spof_any TA tc tl w' (by omega) (HTA.out.later q))
   have HJN:=Hd (fun (w':World) (g:Nat) (U:Option Addr) (du:Nat) (q:Below wr.heap.size wr w') (q1:Blk w' g 28 #[.slice Bl n.b.length cl,.slice U (Sp.ofL (Sp.someOf tl)).length du]) (q2:OneL w' U du (Sp.ofL (Sp.someOf tl)))=>(show Calls Tryz.prog 90 #[.slice (some ⟨g,0,none⟩) 2 2] w' (GivesS js w') from by
    rw[←hjs]
    exact spjoin_any (some ⟨g,0,none⟩) 2 [n.b,Sp.ofL (Sp.someOf tl)] w' (by simp) (by
     have:=Sp.ofL_len (Sp.someOf tl)
     simp[Sp.tot]
     omega) (rows_two q1 ((HBL.out.later hbw).later q) q2)))
   have HMT:=Hd (fun (w':World) (g:Nat) (U:Option Addr) (du:Nat) (q1:Blk w' g 97 #[.int .i64 lo,.int .i64 hi]) (q2:OneL w' U du js)=>(show Calls Tryz.prog 96 #[.slice (some ⟨g,0,none⟩) 1 1,.slice U js.length du] w' (GivesS S w') from by
    rw[hS3]
    exact spmeet_any (some ⟨g,0,none⟩) U 1 du [(lo,hi)] js w' (one_stamp q1) q2))
   have HBW:=Hd hbw
   clear hkl htk hS3 hjs hbw HTL HO9
   go_upto_region 9 with (fail)
   refine wp_region_all (by kernel_rfl) (by kernel_rfl)
    (fun v=>{ tmps:=#[.agg #[.slice S' n.s.length cs,.slice E n.e.length ce,.slice Bl n.b.length cl,.slice V n.ws.length cv],.agg #[.int .i64 lo,.int .i64 hi],.slice X vl.length c,.slice Y fu.length d,.pointer (some ⟨w.heap.size,0,none⟩),.pointer (some ⟨w.heap.size+1,0,none⟩),undef,undef,.slice none 0 0,.slice TA tl.length tc,undef,u11,.slice none 0 0,undef,undef,.pointer (some ⟨w.heap.size,3,none⟩),.slice V n.ws.length cv,.int .i64 (n.ws.length:Int),.int .i64 (k:Int),.bool false,u20,u21,u22,u23,u24,u25,u26,u27,u28,u29,u30,u31,u32,u33,u34,u35,u36,u37,u38,u39,v 0,v 1,v 2,v 3,v 4,v 5,v 6,v 7,v 8,v 9,v 10,undef,undef,undef,undef,undef,undef,undef,undef,undef,undef,undef],defers:=[] }) (fun _=>undef)
    (fun i x wx=>match i with
     |0=>x = .agg #[.int .i64 lo,.int .i64 hi]
     |1=>∃g,x = .slice (some ⟨g,0,none⟩) 1 1∧Blk wx g 97 #[.int .i64 lo,.int .i64 hi]
     |2=>x = .pointer (some ⟨w.heap.size,2,none⟩)
     |3=>x = .slice Bl n.b.length cl
     |4=>x = .slice TA tl.length tc
     |5=>∃U d,x = .slice U (Sp.ofL (Sp.someOf tl)).length d∧OneL wx U d (Sp.ofL (Sp.someOf tl))
     |6=>∃g U d,x = .slice (some ⟨g,0,none⟩) 2 2∧Blk wx g 28 #[.slice Bl n.b.length cl,.slice U (Sp.ofL (Sp.someOf tl)).length d]∧OneL wx U d (Sp.ofL (Sp.someOf tl))
     |7=>∃U d,x = .slice U (js).length d∧OneL wx U d (js)
     |8=>∃U d,x = .slice U (S).length d∧OneL wx U d (S)
     |9=>x = .int .i64 (S.length:Int)
     |10=>x = .int .i64 0
     |_=>True)
    (fun w1 w2=>Below w1.heap.size w1 w2) (fun h1 h2=>below_on h1 h2) (fun _=>Below.refl _ _) (Below.drew (Below.refl _ _)) ?stabM ?stepM ?doneM
   case stabM=>
    rintro i x w1 w2 h hb
    match i,h with
    |0,h=>exact h
    |1,h=>obtain⟨g,h1,h2⟩:=h;exact⟨g,h1,h2.later hb⟩
    |2,h=>exact h
    |3,h=>exact h
    |4,h=>exact h
    |5,h=>obtain⟨U,d,h1,h2⟩:=h;exact⟨U,d,h1,h2.later hb⟩
    |6,h=>obtain⟨g,U,d,h1,h2,h3⟩:=h;exact⟨g,U,d,h1,h2.later hb,h3.later hb⟩
    |7,h=>obtain⟨U,d,h1,h2⟩:=h;exact⟨U,d,h1,h2.later hb⟩
    |8,h=>obtain⟨U,d,h1,h2⟩:=h;exact⟨U,d,h1,h2.later hb⟩
    |9,h=>exact h
    |10,h=>exact h
    |i+11,_=>trivial
   case stepM=>
    intro i hi v w' hb hd
    match i,hi with
    |0,_=>
     refine wpOp_oneH rfl fun KK HKK =>?_
     clear hd
     have q0:=cell_later hb (HS5.out.cell (i:=0) rfl)
     have q1:=cell_later hb (HS5.out.cell (i:=1) rfl)
     go_wp2
     exact HKK.out _ _ ⟨_,(by simp[upd];done),Below.refl _ _,rfl⟩
    |1,_=>
     have h0:v 0=_:=hdx hd 0 (by kernel_rfl)
     refine wpOp_oneH rfl fun KK HKK =>?_
     clear hd
     rw[h0]
     go_wp2_with fail
     refine(alone_any _ _ _).mono ?_
     rintro e w'' ⟨g,rfl,ob,-,b⟩
     go_wp2
     exact HKK.out _ _ ⟨_,(by simp[upd,h0];done),b,g,rfl,ob⟩
    |2,_=>
     refine wpOp_oneH rfl fun KK HKK =>?_
     clear hd
     go_wp2
     exact HKK.out _ _ ⟨_,(by simp[upd];done),Below.refl _ _,rfl⟩
    |3,_=>
     have h2:v 2=_:=hdx hd 2 (by kernel_rfl)
     refine wpOp_oneH rfl fun KK HKK =>?_
     clear hd
     rw[h2]
     have q0:=cell_later hb HC2.out
     go_wp2
     exact HKK.out _ _ ⟨_,(by simp[upd,h2];done),Below.refl _ _,rfl⟩
    |4,_=>
     refine wpOp_oneH rfl fun KK HKK =>?_
     clear hd
     go_wp2
     exact HKK.out _ _ ⟨_,(by simp[upd];done),Below.refl _ _,rfl⟩
    |5,_=>
     have h4:v 4=_:=hdx hd 4 (by kernel_rfl)
     refine wpOp_oneH rfl fun KK HKK =>?_
     clear hd
     rw[h4]
     go_wp2_with fail
     refine(HOF.out _ hb).mono ?_
     rintro e w'' ⟨u,rfl,ho,b⟩
     obtain⟨U,d,rfl,hq1⟩:=OneL.of_own ho
     clear ho
     go_wp2
     exact HKK.out _ _ ⟨_,(by simp[upd,h4];done),b,U,d,rfl,hq1⟩
    |6,_=>
     have h3:v 3=_:=hdx hd 3 (by kernel_rfl)
     obtain⟨U5,d5,h5,o5⟩:=hd 5 (List.elem_iff.1 (by kernel_rfl))
     refine wpOp_oneH rfl fun KK HKK =>?_
     clear hd
     rw[h3,h5]
     go_wp2
     exact HKK.out _ _ ⟨_,(by simp[upd,h3,h5];done),below_new (Below.refl _ _) _,_,U5,d5,rfl,Blk.new _ _ _,o5.later (below_new (Below.refl _ _) _)⟩
    |7,_=>
     obtain⟨g6,U6,d6,h6,b6,o6⟩:=hd 6 (List.elem_iff.1 (by kernel_rfl))
     refine wpOp_oneH rfl fun KK HKK =>?_
     clear hd
     rw[h6]
     go_wp2_with fail
     refine(HJN.out _ _ _ _ hb b6 o6).mono ?_
     rintro e w'' ⟨u,rfl,ho,b⟩
     obtain⟨U,d,rfl,hq1⟩:=OneL.of_own ho
     clear ho
     go_wp2
     exact HKK.out _ _ ⟨_,(by simp[upd,h6];done),b,U,d,rfl,hq1⟩
    |8,_=>
     obtain⟨g1,h1,o1⟩:=hd 1 (List.elem_iff.1 (by kernel_rfl))
     obtain⟨U7,d7,h7,o7⟩:=hd 7 (List.elem_iff.1 (by kernel_rfl))
     refine wpOp_oneH rfl fun KK HKK =>?_
     clear hd
     rw[h1,h7]
     go_wp2_with fail
     refine(HMT.out _ _ _ _ o1 o7).mono ?_
     rintro e w'' ⟨u,rfl,ho,b⟩
     obtain⟨U,d,rfl,hq1⟩:=OneL.of_own ho
     clear ho
     go_wp2
     exact HKK.out _ _ ⟨_,(by simp[upd,h1,h7];done),b,U,d,rfl,hq1⟩
    |9,_=>
     obtain⟨U8,d8,h8,o8⟩:=hd 8 (List.elem_iff.1 (by kernel_rfl))
     refine wpOp_oneH rfl fun KK HKK =>?_
     clear hd
     rw[h8]
     go_wp2
     exact HKK.out _ _ ⟨_,(by simp[upd,h8];done),Below.refl _ _,rfl⟩
    |10,_=>
     refine wpOp_oneH rfl fun KK HKK =>?_
     clear hd
     go_wp2
     exact HKK.out _ _ ⟨_,(by simp[upd];done),Below.refl _ _,rfl⟩
    |k+11,hk=>exact absurd hk (by simp)
   case doneM=>
    intro v w5 hb hf
    have h0:v 0=_:=hf 0 (by decide)
    obtain⟨g1,h1,o1⟩:=hf 1 (by decide)
    have h2:v 2=_:=hf 2 (by decide)
    have h3:v 3=_:=hf 3 (by decide)
    have h4:v 4=_:=hf 4 (by decide)
    obtain⟨U5,d5,h5,o5⟩:=hf 5 (by decide)
    obtain⟨g6,U6,d6,h6,b6,o6⟩:=hf 6 (by decide)
    obtain⟨U7,d7,h7,o7⟩:=hf 7 (by decide)
    obtain⟨U8,d8,h8,o8⟩:=hf 8 (by decide)
    have h9:v 9=_:=hf 9 (by decide)
    have h10:v 10=_:=hf 10 (by decide)
    clear hf
    rw[h0,h1,h2,h3,h4,h5,h6,h7,h8,h9,h10]
    have HBB:=Hd (below_on HBW.out hb)
    have HSL:=Hd o8
    clear hb h0 h1 h2 h3 h4 h5 h6 h7 h8 h9 h10 o1 o5 b6 o6 o7 o8 HOF HJN HMT HTA HC2 HS5
    go_wp2_with fail
    go_loopw [12,50] (fun s12 s50 wr=>∃(j:Nat),j≤S.length∧s50 = .int .i64 (j:Int)∧wr.ownsRow w5.heap.size 99 3 s12 j (zCells ((S.take j).map fun s=>(⟨s.1,s.2,X,c,vl⟩:Zc)))∧Below w5.heap.size w5 wr) (fun _ s50 _=>S.length-(intOf s50).toNat)
    case atStart=>exact⟨0,Nat.zero_le _,rfl,⟨rfl,.inl ⟨rfl,rfl⟩⟩,Below.refl _ _⟩
    case round=>
     obtain⟨j,hj,rfl,ho,hbw⟩:=hrel
     obtain⟨VA,vc,hvv,-,hvm,hvn,-⟩:=own_form ho
     subst hvv
     unfold maxLen at hvm
     have HO:=Hd ho
     clear ho
     by_cases hlt:j<S.length
     ·have hne:S≠[]:=fun e=>by subst e;simp at hlt
      obtain⟨b,off,hA,hc⟩:=(HSL.out.later hbw).stamps hne
      subst hA
      obtain⟨e0,e1⟩:=hc j hlt
      have htk:S.take (j+1)=S.take j++[S.getD j (0,0)]:=by
       rw[List.take_succ_eq_append_getElem hlt,List.getD_eq_getElem?_getD,List.getElem?_eq_getElem hlt];rfl
      obtain⟨s,hs⟩:∃s,S.getD j (0,0)=s:=⟨_,rfl⟩
      rw[hs]at e0 e1 htk
      obtain⟨s1,s2⟩:=s
      have hi0:(0:Int)≤(j:Int):=by omega
      have hi1:(j:Int)<(S.length:Int):=by omega
      dsimp only at e0 e1
      have HT:=Hd htk
      have b2:=below_new (Below.refl wr.heap.size wr) (.cells #[.int .i64 s1,.int .i64 s2] 97)
      have XB:=Blk.new wr 97 #[.int .i64 s1,.int .i64 s2]
      obtain⟨W2,hW2⟩:∃W2,wr.alloc (.cells #[.int .i64 s1,.int .i64 s2] 97)=W2:=⟨_,rfl⟩
      rw[hW2]at b2 XB
      have k0:W2.cell? ⟨wr.heap.size,0,none⟩=some (.int .i64 s1):=XB.cell (i:=0) rfl
      have k1:W2.cell? ⟨wr.heap.size,1,none⟩=some (.int .i64 s2):=XB.cell (i:=1) rfl
      have b3:=below_new (Below.refl W2.heap.size W2) (.cells #[.int .i64 s1,.int .i64 s2,.slice X vl.length c] 99)
      have YB:=Blk.new W2 99 #[.int .i64 s1,.int .i64 s2,.slice X vl.length c]
      have hown:=Hd (own_later (own_later HO.out b2) b3)
      have HB3:=Hd (below_on (below_on hbw b2) b3)
      have HY3:=Hd (show Lies (W2.alloc (.cells #[.int .i64 s1,.int .i64 s2,.slice X vl.length c] 99)) (some ⟨W2.heap.size,0,none⟩) [.int .i64 s1,.int .i64 s2,.slice X vl.length c] from fun _=>⟨W2.heap.size,0,rfl,fun i u hu=>by
       rw[Nat.zero_add]
       exact YB.cell (by simpa using hu)⟩)
      have hs3:=HB3.out.size
      have HW2:=Hd hW2
      clear hc hne hs XB YB b2 b3 hW2 HO hbw htk
      go_upto_region 12 with (fail)
      rw[HW2.out]
      clear HW2 e0 e1
      go_wp2_with (at_builtin;refine Go.Proofs.YtjlfehpockfkdaaGreat.wpList_append_lies _ rfl _ _ 23 rfl w5.heap.size 99 i1 (.agg #[.int .i64 0,.int .i64 0,.slice none 0 0]) 3 40 Tryz.underlying23 hI1 hy0 hy1 hy2 rfl (by decide) (.slice VA j vc) j (zCells ((S.take j).map fun s=>(⟨s.1,s.2,X,c,vl⟩:Zc))) rfl hown.out (some ⟨W2.heap.size,0,none⟩) 1 1 (fun h=>by cases h) [.int .i64 s1,.int .i64 s2,.slice X vl.length c] rfl rfl HY3.out (by intro u hu;simp at hu;rcases hu with rfl|rfl|rfl<;>rfl) ?d3 ?d4 ?d5 ?_)
      case d3=>unfold maxLen;omega
      case d4=>omega
      case d5=>exact hs3
      intro v7 w7 ho7 hg7 _
      have HO7:=Hd (show w7.ownsRow w5.heap.size 99 3 v7 (j+1) (zCells ((S.take (j+1)).map fun s=>(⟨s.1,s.2,X,c,vl⟩:Zc))) from by
       rw[HT.out,List.map_append,zCells_append]
       first
        |exact ho7
        |(rw[List.map_take];exact ho7))
      have HB8:=Hd (show Below w5.heap.size w5 w7 from HB3.out.grown hg7 hs3 (fun q hq=>own_ge hown.out q hq))
      clear ho7 hg7 hs3
      go_wp2_with fail
      go_roundw
      case rel=>exact⟨j+1,by omega,by first|rfl|go_num,HO7.out,HB8.out⟩
      case measure=>simp[intOf];omega
     ·have hjl:j=S.length:=by omega
      have hd:decide ((j:Int)<(S.length:Int))=false:=decide_eq_false (by omega)
      have htk:S.take j=S:=List.take_of_length_le (by omega)
      have hol:=HO.out
      rw[htk]at hol
      have FIN:=Hd (show GivesStay X c vl (S.map fun s=>(s.1,s.2,vl)) w (.returned (.slice VA j vc)) wr from⟨_,S.map fun s=>(⟨s.1,s.2,X,c,vl⟩:Zc),rfl,by rw[List.length_map,←hjl];exact own_base hol (by have:=HBB.out.size;omega),by rw[List.map_map];rfl,fun z hz=>by
       obtain⟨s,-,rfl⟩:=List.mem_map.1 hz
       exact⟨rfl,rfl,rfl⟩,below_on (below_on HBN.out HBB.out) hbw⟩)
      clear hjl htk hol HO
      go_wp2
      go_ret
      exact FIN.out
end Go.Proofs.YtjlfehpockfkdaaGreat
namespace Go.Proofs.YtjlfehpockfkdaaGreat
open Go.RowKit Go.Shelf
namespace Tr
def okZ(zs:List Zn):Prop:=∀z∈zs,0≤z.2.1∧z.2.1≤255
theorem okZ_put{T:List (Int × Int)}{zs:List Zn}{z:Zn}(h:okZ zs)(hz:0≤z.2.1∧z.2.1≤255):okZ (put T zs z):=by
 unfold put
 split
 ·exact h
 ·split
  ·rename_i hg
   obtain⟨g1,-,-⟩:=of_decide_eq_true hg
   intro y hy
   unfold ext at hy
   rcases List.mem_append.1 hy with hy|hy
   ·exact h y ((List.dropLast_sublist zs).subset hy)
   ·rw[List.mem_singleton]at hy
    subst hy
    show 0≤(z.2.1.toNat:Int)∧(z.2.1.toNat:Int)≤255
    omega
  ·intro y hy
   rcases List.mem_append.1 hy with hy|hy
   ·exact h y hy
   ·rw[List.mem_singleton]at hy
    subst hy
    exact hz
theorem put_len(T:List (Int × Int))(zs:List Zn)(z:Zn):(put T zs z).length≤zs.length+1:=by
 unfold put
 split
 ·omega
 ·split
  ·rename_i hg
   obtain⟨g1,-,-⟩:=of_decide_eq_true hg
   rw[ext_len _ _ g1]
   omega
  ·rw[List.length_append];simp
theorem okZ_fold{T:List (Int × Int)}:∀(P zs:List Zn),okZ zs→okZ P→okZ (P.foldl (put T) zs)∧(P.foldl (put T) zs).length≤zs.length+P.length
 | [],zs,h,_=>⟨h,Nat.le_refl _⟩
 |z::r,zs,h,hp=>by
  have h1:=okZ_put (T:=T) h (hp z List.mem_cons_self)
  have h2:=put_len T zs z
  obtain⟨a,b⟩:=okZ_fold (T:=T) r _ h1 (fun y hy=>hp y (List.mem_cons_of_mem _ hy))
  rw[List.foldl_cons,List.length_cons]
  exact⟨a,by omega⟩
theorem pcs_len(rest:List (Int × Int))(hi:Int):∀(zs:List Zn) (k:Int),(pcs rest hi k zs).length≤2*zs.length+1
 | [],k=>by unfold pcs;split<;>simp
 |z::r,k=>by
  have:=pcs_len rest hi r (z.2.1+1)
  show((if k<z.1 then _ else [])++z::pcs rest hi (z.2.1+1) r).length≤_
  rw[List.length_append,List.length_cons,List.length_cons]
  split<;>simp<;>omega
theorem parts_len(z:Zn)(n:Note):(parts z n).length≤257:=by
 have h1:=pcs_len (fur z.2.2 n) z.2.1 (stay z (fur z.2.2 n) n) z.1
 have h2:(stay z (fur z.2.2 n) n).length≤128:=by
  unfold stay keeps Sp.meetS
  rw[List.length_map]
  exact Sp.ofL_len _
 unfold parts
 omega
theorem parts_ok{n:Note}(hn:Nt.fmd n=true){z:Zn}(h1:0≤z.1)(h2:z.1≤z.2.1)(h3:z.2.1≤255):okZ (parts z n):=fun y hy=>by
 have:=tiles_of _ _ _ (parts_tiles hn h1 h2 h3) y hy
 omega
theorem okZ_puts{T:List (Int × Int)}{n:Note}(hn:Nt.fmd n=true):∀(P zs:List Zn),okZ zs→(∀z∈P,0≤z.1∧z.1≤z.2.1∧z.2.1≤255)→okZ (P.foldl (puts T n) zs)∧(P.foldl (puts T n) zs).length≤zs.length+P.length*257
 | [],zs,h,_=>⟨h,by simp⟩
 |z::r,zs,h,hp=>by
  obtain⟨q1,q2,q3⟩:=hp z List.mem_cons_self
  obtain⟨a,b⟩:=okZ_fold (T:=T) (parts z n) zs h (parts_ok hn q1 q2 q3)
  have hl:=parts_len z n
  obtain⟨c,d⟩:=okZ_puts hn r _ a (fun y hy=>hp y (List.mem_cons_of_mem _ hy))
  rw[List.foldl_cons,List.length_cons]
  refine⟨c,?_⟩
  have d':(List.foldl (puts T n) (puts T n zs z) r).length≤((parts z n).foldl (put T) zs).length+r.length*257:=d
  omega
end Tr
structure TkS (n0 b5 g:Nat) (nc:Array Value) (TX:Option Addr) (tc:Nat) (T:List (Int × Int)) (zs:List Zn) (W:World):Prop where
 after:∃v L,Boxed W (g+1) 23 v∧OwnZ W n0 v L∧L.map Zc.zn=zs
 note:Blk W b5 40 nc
 then_:Blk W g 22 #[.slice TX T.length tc]
 fn:Blk W (g+2) 165 #[.func (.func 126) #[] #[.pointer (some ⟨g+1,0,none⟩),.pointer (some ⟨g,0,none⟩)]]
 row:W.ownsRow n0 46 2 (.slice TX T.length tc) T.length (stCells T)
section
variable {n0 b5 g:Nat} {nc:Array Value} {TX:Option Addr} {tc:Nat} {T:List (Int × Int)} {zs:List Zn} {W W':World}
theorem TkS.ok(h:TkS n0 b5 g nc TX tc T zs W):RowOk (g+1) W:=by
 obtain⟨v,L,h1,h2,-⟩:=h.after
 exact RowOk.boxed h1 h2.row
theorem TkS.below(h:TkS n0 b5 g nc TX tc T zs W)(hb:Below W.heap.size W W'):TkS n0 b5 g nc TX tc T zs W':=by
 obtain⟨v,L,h1,h2,h3⟩:=h.after
 exact⟨⟨v,L,Blk.later h1 hb,h2.later hb,h3⟩,h.note.later hb,h.then_.later hb,h.fn.later hb,own_later h.row hb⟩
theorem TkS.own(h:TkS n0 b5 g nc TX tc T zs W){row:Option Nat}(hg:W.grownBy W' row)(hr:∀r,row=some r→∃o:Obj,W.heap[r]?=some o∧o.isCells=false):TkS n0 b5 g nc TX tc T zs W'∧∀W0,KeepB (g+1) W0 W→KeepB (g+1) W0 W':=by
 obtain⟨v,L,h1,h2,h3⟩:=h.after
 have hv:Boxed W' (g+1) 23 v:=boxed_own _ _ (fun (_:Unit)=>v) () W W' row h1 hg hr
 refine⟨⟨⟨v,L,hv,⟨own_row _ _ _ _ _ _ () W W' row h2.row hg hr,fun z hz=>own_row _ _ _ _ _ _ () W W' row (h2.each z hz) hg hr⟩,h3⟩,?_,?_,?_,own_row _ _ _ _ _ _ () W W' row h.row hg hr⟩,fun W0 hk=>⟨Nat.le_trans hk.size hg.size,fun k o q1 q2 q3 q4 =>?_,?_⟩⟩
 ·exact blk_own _ _ (fun (_:Unit)=>nc) () W W' row h.note hg hr
 ·exact blk_own _ _ (fun (_:Unit)=>#[.slice TX T.length tc]) () W W' row h.then_ hg hr
 ·exact blk_own _ _ (fun (_:Unit)=>#[.func (.func 126) #[] #[.pointer (some ⟨g+1,0,none⟩),.pointer (some ⟨g,0,none⟩)]]) () W W' row h.fn hg hr
 ·have hX:=hk.same k o q1 q2 q3 q4
  exact(hg.block k (Array.getElem?_eq_some_iff.1 hX).1 (fun e=>by
   obtain⟨u,hu,hc⟩:=hr k e.symm
   rw[hX]at hu
   cases hu
   rw[q2]at hc
   cases hc)).trans hX
 ·rw[rowIn_boxed hv]
  have:=hk.row
  rw[rowIn_boxed h1]at this
  rcases this with hq|hq
  ·exact .inl hq
  ·exact .inr (fun r e=>⟨(hq r e).1,Nat.lt_of_lt_of_le (hq r e).2 hg.size⟩)
theorem own_keepB{gA base size n:Nat}{u v:Value}{xs:List Value}{L:List Zc}(h:W.ownsRow base 46 size u n xs)(hv:Boxed W gA 23 v)(hO:OwnZ W n0 v L)(hk:KeepB gA W W'):W'.ownsRow base 46 size u n xs:=
 own_stays h (fun k hk2=>by
  have hc:∃o,W.heap[k]?=some o∧o.isCells=true:=by
   rcases h.2 with ⟨h1,_⟩|⟨g3,cap,cur,h1,_,hB3,_⟩
   ·rw[h1]at hk2;cases hk2
   ·rw[h1]at hk2
    injection hk2 with hk2
    subst hk2
    exact⟨_,hB3,rfl⟩
  exact(Safe.keep ⟨hc,fun e=>by subst e;exact hv.not_row (by decide) h hk2.symm,fun e=>by
   rw[rowIn_boxed hv]at e
   exact own_apart h hO.row (by decide) k hk2 e.symm⟩ hk).1)
theorem blk_keepB{gA k:Nat}{t:TypeId}{cs:Array Value}{v:Value}{L:List Zc}(h:Blk W k t cs)(hv:Boxed W gA 23 v)(hO:OwnZ W n0 v L)(hne:k≠gA)(ht:t≠99)(hk:KeepB gA W W'):Blk W' k t cs:=
 ((Safe.keep ⟨⟨_,h,rfl⟩,hne,fun e=>by
  rw[rowIn_boxed hv]at e
  exact own_not hO.row h ht k e rfl⟩ hk).1).trans h
theorem TkS.put{zs':List Zn}{e:Ending}(h:TkS n0 b5 g nc TX tc T zs W)(hb5:b5<g)(hp:PutR (g+1) n0 zs' W e W'):TkS n0 b5 g nc TX tc T zs' W':=by
 obtain⟨v,L,h1,h2,h3⟩:=h.after
 obtain⟨u,v',L',-,q1,q2,q3,q4,-,-⟩:=hp
 exact⟨⟨v',L',q1,q2,q3⟩,blk_keepB h.note h1 h2 (by omega) (by decide) q4,blk_keepB h.then_ h1 h2 (by omega) (by decide) q4,blk_keepB h.fn h1 h2 (by omega) (by decide) q4,own_keepB h.row h1 h2 q4⟩
end
theorem ZoneSafe.own{g:Nat}{W0 W:World}{U:Option Addr}{n d:Nat}{SL:List Zc}(h:RowOk g W0)(hb:Below W0.heap.size W0 W)(ho:W.ownsRow W0.heap.size 99 3 (.slice U n d) SL.length (zCells SL))(hn:n=SL.length):ZoneSafe g W U SL:=fun hne=>by
 subst hn
 obtain⟨gb,cap,hv⟩:=own_len ho (List.length_pos_iff.2 hne)
 injection hv with hv _ hv2
 subst hv hv2
 have hge:=own_base_le ho
 refine⟨gb,0,rfl,Safe.newer h hb hge.1 ?_,fun k x hx =>?_⟩
 ·obtain⟨x,hx⟩:∃x,SL[0]?=some x:=⟨SL[0]'(List.length_pos_iff.2 hne),List.getElem?_eq_getElem _⟩
  exact cells_of_cell (own_cell_at ho (zCells_get SL 0 x hx).1)
 ·obtain⟨q0,q1,q2⟩:=zCells_get SL k x hx
  rw[Nat.zero_add]
  exact⟨own_cell_at ho q0,own_cell_at ho q1,own_cell_at ho q2⟩
end Go.Proofs.YtjlfehpockfkdaaGreat
