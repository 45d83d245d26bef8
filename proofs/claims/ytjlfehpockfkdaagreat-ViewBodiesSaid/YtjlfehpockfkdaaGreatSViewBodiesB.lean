/-
  What the row of this claim stands on: CaRefB, CaRefC, VwRefA, VwRefB, VwRefE, VwRefF, VwLen, VwRefG, VwRefH, VwMath, Law, Open, OpenWith, OpenZones.
-/
import Derived.Test.YtjlfehpockfkdaaGreatB01
import Derived.WalkSmall
import Derived.ProofKit
import Derived.Below
import Derived.WideKeyArgs
import Derived.OpenShut
import Derived.Lib.SmallJoins
import Derived.Deep.Slices
import Derived.Test.YtjlfehpockfkdaaGreatSViewBodiesA
import Derived.Test.YtjlfehpockfkdaaGreatB02
import Derived.Test.YtjlfehpockfkdaaGreatB05
import Derived.Test.YtjlfehpockfkdaaGreatB04
namespace Go.Proofs.YtjlfehpockfkdaaGreat
open Go.RowKit Fb
namespace Ca
def seen(L:List Bc)(k j:Nat):Bool:=(L.take k).any fun z=>decide (z.b.o=(j:Int))
theorem seen_succ{L:List Bc}{k:Nat}(h:k<L.length)(j:Nat):seen L (k+1) j=(seen L k j||decide ((L.getD k Bc.zero).b.o=(j:Int))):=by
 unfold seen
 rw[List.take_succ_eq_append_getElem h,List.any_append,getD_lt h]
 simp
theorem ok_seen{L:List Bc}{k:Nat}(h:k<L.length)(o:Nat)(ho:(L.getD k Bc.zero).b.o=(o:Int)):ok (L.map Bc.b) k↔(Wi.bright (L.getD k Bc.zero).b=true∧seen L k o=false):=by
 unfold ok seen
 rw[map_getD,List.any_eq_false]
 constructor
 ·rintro ⟨h1,h2⟩
  refine⟨h1,fun z hz e =>?_⟩
  obtain⟨i,hi,rfl⟩:=List.mem_iff_getElem.1 hz
  rw[List.length_take]at hi
  have h3:=h2 i (by omega)
  rw[map_getD,getD_lt (show i<L.length by omega)]at h3
  rw[List.getElem_take]at e
  exact h3 ((of_decide_eq_true e).trans ho.symm)
 ·rintro ⟨h1,h2⟩
  refine⟨h1,fun i hi e =>?_⟩
  have h4:i<(L.take k).length:=by rw[List.length_take];omega
  refine h2 _ (List.getElem_mem h4) ?_
  rw[List.getElem_take]
  rw[map_getD,getD_lt (show i<L.length by omega)]at e
  exact decide_eq_true (e.trans ho)
end Ca
set_option maxRecDepth 100000 in
set_option maxHeartbeats 3200000 in
theorem cforget_any(A:Option Addr)(c:Nat)(L:List Bc)(o:Int)(w:World)(h:OneC w A c L)(hf:Fits L) :
  Calls Tryz.prog 145 #[.slice A L.length c,.int .i64 o] w fun e w'=>∃v M,e = .returned v∧M.map Bc.b=Ca.forget (L.map Bc.b) o∧OwnRC w' w.heap.size 49 5 v M∧Below w.heap.size w w':=by
 obtain⟨i0,hI,hZ0,hZ1,hZ2⟩:=info_parts infoBdy
 have hn:=hf.n
 have HL:=Hd h
 have HZ:=Hd hf.each
 have HY:=Hd (fun k hk hx=>Ca.forget_yes (L:=L) (k:=k) (o:=o) hk hx)
 have HN:=Hd (fun k hk hx=>Ca.forget_no (L:=L) (k:=k) (o:=o) hk hx)
 clear h hf
 go_enter Tryz.func145,Tryz.ntmps145
 go_wp2_with fail
 go_loopw [5,6] (fun s5 s6 wr=>∃(k:Nat) (M:List Bc),k≤L.length∧s6 = .int .i64 (k:Int)∧M.map Bc.b=Ca.forget ((L.take k).map Bc.b) o∧OwnRC wr w.heap.size 49 5 s5 M∧Below w.heap.size w wr) (fun _ s6 _=>L.length-(intOf s6).toNat)
 case atStart=>exact⟨0,[],Nat.zero_le _,rfl,rfl,OwnRC.nil _ _ _ _,Below.refl _ _⟩
 case round=>
  obtain⟨k,M,hk,rfl,hM,hR,hbw⟩:=hrel
  by_cases hlt:k<L.length
  ·have hml:M.length≤k:=by
    have h1:=congrArg List.length hM
    have h2:=Ca.forget_len ((L.take k).map Bc.b) o
    rw[List.length_map]at h1
    rw[List.length_map,List.length_take]at h2
    omega
   have hne:L≠[]:=fun e=>by subst e;simp at hlt
   obtain⟨b,off,hA,hcs⟩:=(HL.out.later hbw).at hne
   obtain⟨e0,e1,e2,e3⟩:=hcs k hlt
   have hxb:=(HL.out.later hbw).each _ (Ca.getD_mem hlt)
   have hxz:=HZ.out _ (Ca.getD_mem hlt)
   have hty:=HY.out k hlt
   have htn:=HN.out k hlt
   subst hA
   have hi0:(0:Int)≤(k:Int):=by omega
   have hi1:(k:Int)<(L.length:Int):=by omega
   obtain⟨x,hx⟩:∃x,L.getD k Bc.zero=x:=⟨_,rfl⟩
   rw[hx]at e0 e1 e2 e3 hxb hxz hty htn
   obtain⟨X,d,⟨x0,x1,x2,v⟩⟩:=x
   dsimp only at e0 e1 e2 e3 hxb hxz hty htn
   obtain⟨VA,vc,hvv,-,-,-,-⟩:=own_form hR.row
   subst hvv
   have HM:=Hd hM
   have HR:=Hd hR
   have BW:=Hd hbw
   have HIB:=Hd hxb.byte
   by_cases hd:x0=o
   ·have hd1:(x0 != o)=false:=by rw[bne_eq_false_iff_eq];exact hd
    have HTN:=Hd (htn hd)
    clear hcs hx hxb hxz hty htn hM hR hbw hd
    go_wp2_with fail
    go_roundw
    case rel=>exact⟨k+1,M,by omega,by go_num,by rw[HTN.out];exact HM.out,HR.out,BW.out⟩
    case measure=>simp[intOf];omega
   have hd1:(x0 != o)=true:=by rw[bne_iff_ne];exact hd
   have HTS:=Hd (hty hd)
   have NB:=Hd (show Calls Tryz.prog 72 #[.agg #[.int .i64 x0,.int .i64 x1,.int .i64 x2,.slice X v.length d]] wr (GivesBd ⟨x0,x1,x2,v⟩ wr) from cbody_any X d ⟨x0,x1,x2,v⟩ wr hxz hxb)
   clear hcs hx hxb hxz hty htn hM hR hbw hd
   go_wp2_with fail
   refine NB.out.mono ?_
   rintro e w2 ⟨Y,dy,rfl,hoy,b2⟩
   unfold bdCells
   dsimp only at hoy ⊢
   have bz:=below_new (Below.refl w2.heap.size w2) (.cells #[.int .i64 x0,.int .i64 x1,.int .i64 x2,.slice Y v.length dy] 49)
   have hR2:=HR.out.later (below_on b2 bz)
   have hoy2:=own_later (own_base hoy BW.out.size) bz
   have hbw2:=below_on (below_on BW.out b2) bz
   have hszw:=hbw2.size
   have hy1:Lies (w2.alloc (.cells #[.int .i64 x0,.int .i64 x1,.int .i64 x2,.slice Y v.length dy] 49)) (some ⟨w2.heap.size,0,none⟩) (Ca.cell ⟨Y,dy,⟨x0,x1,x2,v⟩⟩):=fun _=>⟨w2.heap.size,0,rfl,fun j u hu=>by
    rw[Nat.zero_add]
    exact(Blk.new w2 49 #[.int .i64 x0,.int .i64 x1,.int .i64 x2,.slice Y v.length dy]).cell (by simpa[Ca.cell] using hu)⟩
   have HR2:=Hd hR2
   have HO2:=Hd hoy2
   have hrow:=hR2.row
   clear b2 hR2 hoy2 hoy NB
   go_wp2_with (at_builtin;refine Go.Proofs.YtjlfehpockfkdaaGreat.wpList_append_lies _ rfl _ _ 25 rfl w.heap.size 49 i0 (.agg #[.int .i64 0,.int .i64 0,.int .i64 0,.slice none 0 0]) 4 48 Tryz.underlying25 hI hZ0 hZ1 hZ2 rfl (by decide) _ M.length (Ca.cells M) rfl hrow (some ⟨w2.heap.size,0,none⟩) 1 1 (fun h=>by cases h) (Ca.cell ⟨Y,dy,⟨x0,x1,x2,v⟩⟩) rfl rfl hy1 (by intro u hu;simp[Ca.cell]at hu;rcases hu with rfl|rfl|rfl|rfl<;>rfl) ?h63 ?hbytes hszw ?_)
   case h63=>unfold maxLen;omega
   case hbytes=>omega
   intro v' wz hownz hgz _
   have bwz:Below w.heap.size w wz:=hbw2.grown hgz (by omega) (fun r e=>own_ge hrow r e)
   have hRz:=HR2.out.snoc (by decide) hgz ⟨Y,dy,⟨x0,x1,x2,v⟩⟩ HO2.out HIB.out hownz
   obtain⟨gv,capv,rfl⟩:=ownsRow_succ hownz
   have HQ:=Hd (And.intro hRz bwz)
   clear hownz hgz hrow hy1 bwz hRz hbw2 bz
   go_wp2_with fail
   go_roundw
   case rel=>exact⟨k+1,M++[⟨Y,dy,⟨x0,x1,x2,v⟩⟩],by omega,by go_num,by rw[List.map_append,HM.out,HTS.out];rfl,HQ.out.1,HQ.out.2⟩
   case measure=>simp[intOf];omega
  ·obtain rfl:k=L.length:=by omega
   rw[List.take_length]at hM
   have HR:=Hd hR
   obtain⟨VA,vc,hvv,-,-,-,-⟩:=own_form hR.row
   subst hvv
   have HM:=Hd hM
   have BW:=Hd hbw
   clear hM hR hbw
   go_wp2
   go_ret
   exact⟨_,M,rfl,HM.out,HR.out,BW.out⟩
set_option maxRecDepth 100000 in
set_option maxHeartbeats 3200000 in
theorem cget_any(A:Option Addr)(c:Nat)(L:List Bc)(o sc sn:Int)(w:World)(h:OneC w A c L)(hf:Fits L) :
  Calls Tryz.prog 89 #[.slice A L.length c,.int .i64 o,.agg #[.int .i64 sc,.int .i64 sn]] w (GivesVE (Ca.getR (L.map Bc.b) o sc sn).1 (Ca.getR (L.map Bc.b) o sc sn).2 w):=by
 have hn:=hf.n
 have HL:=Hd h
 have HZ:=Hd hf.each
 have HY:=Hd (fun k hk hb hx=>Ca.get_yes (L:=L) (k:=k) (o:=o) (c:=sc) (n:=sn) hk hb hx)
 have HN:=Hd (fun hb=>Ca.get_no (L:=L) (o:=o) (c:=sc) (n:=sn) hb)
 obtain⟨R,hR⟩:∃R,Ca.getR (L.map Bc.b) o sc sn=R:=⟨_,rfl⟩
 rw[hR]at HY HN ⊢
 have b0:=below_new (Below.refl w.heap.size w) (.cells #[.int .i64 sc,.int .i64 sn] 46)
 have B0:=Blk.new w 46 #[.int .i64 sc,.int .i64 sn]
 obtain⟨W,hW⟩:∃W,w.alloc (.cells #[.int .i64 sc,.int .i64 sn] 46)=W:=⟨_,rfl⟩
 rw[hW]at b0 B0
 have HW:=Hd hW
 have HB:=Hd b0
 have HS:=Hd B0
 clear h hf hR hW b0 B0
 go_enter Tryz.func89,Tryz.ntmps89
 go_wp2_with fail
 rw[HW.out]
 go_loopw [8] (fun s8 wr=>∃k:Nat,k≤L.length∧s8 = .int .i64 (k:Int)∧(∀j,j<k→¬Ca.isAt (L.getD j Bc.zero).b o sc sn)∧Below W.heap.size W wr) (fun s8 _=>L.length-(intOf s8).toNat)
 case atStart=>exact⟨0,Nat.zero_le _,rfl,fun j hj=>by omega,Below.refl _ _⟩
 case round=>
  obtain⟨k,hk,rfl,hno,hbw⟩:=hrel
  by_cases hlt:k<L.length
  ·have hne:L≠[]:=fun e=>by subst e;simp at hlt
   have hbb:=below_on HB.out hbw
   obtain⟨b,off,hA,hcs⟩:=(HL.out.later hbb).at hne
   obtain⟨e0,e1,e2,e3⟩:=hcs k hlt
   have hxb:=(HL.out.later hbb).each _ (Ca.getD_mem hlt)
   have hxz:=HZ.out _ (Ca.getD_mem hlt)
   have hy:=HY.out k hlt hno
   have HL':=HL
   subst hA
   have hi0:(0:Int)≤(k:Int):=by omega
   have hi1:(k:Int)<(L.length:Int):=by omega
   have hS:=HS.out.later hbw
   have s0:=hS.cell (i:=0) rfl
   have s1:=hS.cell (i:=1) rfl
   obtain⟨x,hx⟩:∃x,L.getD k Bc.zero=x:=⟨_,rfl⟩
   rw[hx]at e0 e1 e2 e3 hxb hxz hy
   obtain⟨X,d,⟨x0,x1,x2,v⟩⟩:=x
   dsimp only at e0 e1 e2 e3 hxb hxz hy
   have HX:=Hd hx
   have HNO:=Hd hno
   have BW:=Hd hbw
   have BB:=Hd hbb
   have XB:=Hd hxb
   have hnext:¬Ca.isAt ⟨x0,x1,x2,v⟩ o sc sn→∀j,j<k+1→¬Ca.isAt (L.getD j Bc.zero).b o sc sn:=fun h1 j hj=>by
    by_cases e:j=k
    ·subst e;rw[hx];exact h1
    ·exact hno j (by omega)
   have HNX:=Hd hnext
   have HYY:=Hd hy
   clear hcs hx hno hbw hbb hxb hy hnext hS
   by_cases q0:x0=o
   ·by_cases q1:x1=sc
    ·by_cases q2:x2=sn
     ·have d0:(x0 == o)=true:=beq_iff_eq.2 q0
      have d1:(x1 == sc)=true:=beq_iff_eq.2 q1
      have d2:(x2 == sn)=true:=beq_iff_eq.2 q2
      have HR:=Hd (HYY.out ⟨q0,q1,q2⟩)
      clear q0 q1 q2
      go_wp2_with fail
      go_quiet (fail)
      have NC:=Hd (fun n=>bcopy_any X d v (wr.drewN n) hxz (XB.out.later (below_drewN (Below.refl _ _) n)))
      have BB2:=Hd (fun n=>below_drewN BB.out n)
      clear BB
      go_wp2_with fail
      refine(NC.out _).mono ?_
      rintro e w3 ⟨u,rfl,ho,b3⟩
      have HO:=Hd (own_base ho (BB2.out _).size)
      have BB3:=Hd (below_on (BB2.out _) b3)
      clear ho b3
      go_wp2
      go_ret2
      rw[HR.out]
      exact⟨_,rfl,HO.out,BB3.out⟩
     ·have d0:(x0 == o)=true:=beq_iff_eq.2 q0
      have d1:(x1 == sc)=true:=beq_iff_eq.2 q1
      have d2:(x2 == sn)=false:=beq_eq_false_iff_ne.2 q2
      have HX2:=Hd (HNX.out (fun h=>q2 h.2.2))
      clear q0 q1 q2
      go_wp2_with fail
      go_quiet (fail)
      go_wp2_with fail
      go_roundw
      case rel=>exact⟨k+1,by omega,by go_num,HX2.out,below_drewN BW.out _⟩
      case measure=>simp[intOf];omega
    ·have d0:(x0 == o)=true:=beq_iff_eq.2 q0
     have d1:(x1 == sc)=false:=beq_eq_false_iff_ne.2 q1
     have HX2:=Hd (HNX.out (fun h=>q1 h.2.1))
     clear q0 q1
     go_wp2_with fail
     go_quiet (fail)
     go_wp2_with fail
     go_roundw
     case rel=>exact⟨k+1,by omega,by go_num,HX2.out,below_drewN BW.out _⟩
     case measure=>simp[intOf];omega
   ·have d0:(x0 == o)=false:=beq_eq_false_iff_ne.2 q0
    have HX2:=Hd (HNX.out (fun h=>q0 h.1))
    clear q0
    go_wp2_with fail
    go_quiet (fail)
    go_wp2_with fail
    go_roundw
    case rel=>exact⟨k+1,by omega,by go_num,HX2.out,below_drewN BW.out _⟩
    case measure=>simp[intOf];omega
  ·obtain rfl:k=L.length:=by omega
   have hR:=HN.out hno
   subst hR
   have BB:=Hd (below_on HB.out hbw)
   clear hno hbw
   go_wp2
   go_ret2
   exact⟨_,rfl,⟨rfl,.inl ⟨rfl,rfl⟩⟩,BB.out⟩
set_option maxRecDepth 100000 in
set_option maxHeartbeats 3200000 in
theorem cformed_any(A:Option Addr)(c:Nat)(L:List Bc)(room:Int)(w:World)(h:OneC w A c L) :
  Calls Tryz.prog 56 #[.slice A L.length c,.int .i64 room] w (Says (.bool (Ca.fmd (L.map Bc.b) room)) w):=by
 have hF:Ca.fmd (L.map Bc.b) room=(decide (0≤room∧room≤16777216∧L.length≤256)&&(Ca.oks (L.map Bc.b)&&decide ((Ca.used (L.map Bc.b):Int)≤room))):=by unfold Ca.fmd;rw[List.length_map]
 have HL:=Hd h
 have hlen:=h.len
 by_cases c0:room<0
 ·have d0:decide (room<0)=true:=decide_eq_true c0
  rw[decide_eq_false (show ¬(0≤room∧room≤16777216∧L.length≤256) by omega),Bool.false_and]at hF
  rw[hF]
  clear hF h
  go_enter Tryz.func56,Tryz.ntmps56
  go_wp2
  go_ret
  exact⟨rfl,Below.refl _ _⟩
 by_cases c1:16777216<room
 ·have d0:decide (room<0)=false:=decide_eq_false c0
  have d1:decide (16777216<room)=true:=decide_eq_true c1
  rw[decide_eq_false (show ¬(0≤room∧room≤16777216∧L.length≤256) by omega),Bool.false_and]at hF
  rw[hF]
  clear hF h
  go_enter Tryz.func56,Tryz.ntmps56
  go_wp2
  go_ret
  exact⟨rfl,Below.refl _ _⟩
 by_cases c2:256<L.length
 ·have d0:decide (room<0)=false:=decide_eq_false c0
  have d1:decide (16777216<room)=false:=decide_eq_false c1
  have d2:decide ((256:Int)<(L.length:Int))=true:=decide_eq_true (by omega)
  rw[decide_eq_false (show ¬(0≤room∧room≤16777216∧L.length≤256) by omega),Bool.false_and]at hF
  rw[hF]
  clear hF h
  go_enter Tryz.func56,Tryz.ntmps56
  go_wp2
  go_ret
  exact⟨rfl,Below.refl _ _⟩
 have d0:decide (room<0)=false:=decide_eq_false c0
 have d1:decide (16777216<room)=false:=decide_eq_false c1
 have d2:decide ((256:Int)<(L.length:Int))=false:=decide_eq_false (by omega)
 rw[decide_eq_true (show 0≤room∧room≤16777216∧L.length≤256 by omega),Bool.true_and]at hF
 rw[hF]
 have hOK:=Hd (fun k hk o ho=>Ca.ok_seen (L:=L) (k:=k) hk o ho)
 have hNO:=Hd (fun k hk hx=>Ca.oks_no (l:=L.map Bc.b) k hk hx)
 have hYES:=Hd (Ca.oks_iff (L.map Bc.b)).2
 have hSU:=Hd (fun k hk j=>Ca.seen_succ (L:=L) (k:=k) hk j)
 have hUO:=Hd (fun hx=>Ca.used_oks (L:=L) hx)
 obtain⟨OK,hok⟩:∃q,Ca.oks (L.map Bc.b)=q:=⟨_,rfl⟩
 obtain⟨ok,hokk⟩:∃f,(fun k=>Ca.ok (L.map Bc.b) k)=f:=⟨_,rfl⟩
 rw[hok]at hNO hYES ⊢
 have B5:=Blk.new w 138 (Sp.arr fun _=>false)
 rw[←marks_zero]at B5
 have b5:=below_new (Below.refl w.heap.size w) (.cells Tryz.zeroCells138 138)
 obtain⟨W,hW⟩:∃W,w.alloc (.cells Tryz.zeroCells138 138)=W:=⟨_,rfl⟩
 rw[hW,marks_zero]at B5
 rw[hW]at b5
 have HW:=Hd hW
 have HB5:=Hd B5
 have Hb5:=Hd b5
 clear hF h hok hokk ok B5 b5 hW c0 c1
 go_enter Tryz.func56,Tryz.ntmps56
 go_wp2_with fail
 rw[HW.out]
 go_loopw [6] (fun s6 wr=>∃k:Nat,k≤L.length∧s6 = .int .i64 (k:Int)∧(∀j,j<k→Ca.ok (L.map Bc.b) j)∧Blk wr w.heap.size 138 (Sp.arr (Ca.seen L k))∧Below w.heap.size w wr) (fun s6 _=>L.length-(intOf s6).toNat)
 case atStart=>exact⟨0,Nat.zero_le _,rfl,fun j hj=>by omega,HB5.out,Hb5.out⟩
 case round=>
  obtain⟨k,hk,rfl,hall,hB,hbw⟩:=hrel
  by_cases hlt:k<L.length
  ·have hne:L≠[]:=fun e=>by subst e;simp at hlt
   obtain⟨b,off,hA,hcs⟩:=(HL.out.later hbw).at hne
   obtain⟨e0,e1,e2,e3⟩:=hcs k hlt
   have HL':=HL
   subst hA
   have hi0:(0:Int)≤(k:Int):=by omega
   have hi1:(k:Int)<(L.length:Int):=by omega
   have hok:=hOK.out k hlt
   have hno:=hNO.out k (by rw[List.length_map];exact hlt)
   have hsu:=hSU.out k hlt
   have hbx:Ca.ok (L.map Bc.b) k→Wi.bright (L.getD k Bc.zero).b=true:=fun h=>by have:=h.1;rwa [Ca.map_getD]at this
   obtain⟨x,hx⟩:∃x,L.getD k Bc.zero=x:=⟨_,rfl⟩
   rw[hx]at e0 e1 e2 e3 hok hsu hbx
   obtain⟨X,d,⟨x0,x1,x2,v⟩⟩:=x
   dsimp only at e0 e1 e2 e3 hok hsu hbx
   obtain⟨q,hq⟩:∃q,Wi.bright ⟨x0,x1,x2,v⟩=q:=⟨_,rfl⟩
   have NR:=Hd (show Calls Tryz.prog 80 #[.agg #[.int .i64 x0,.int .i64 x1,.int .i64 x2,.slice X v.length d]] wr (Says (.bool q) wr) from by rw[←hq];exact bright_any X d ⟨x0,x1,x2,v⟩ wr)
   cases q with
   |false=>
    have hR:OK=false:=hno (fun h=>by have:=hbx h;rw[hq]at this;cases this)
    subst hR
    have BW:=Hd hbw
    clear hcs hx hbw hok hno hsu hbx hq hall hB
    go_wp2_with fail
    refine NR.out.mono ?_
    rintro e w3 ⟨rfl,b3⟩
    have BB:=Hd (below_on BW.out b3)
    clear b3 NR BW
    go_wp2
    go_ret
    exact⟨rfl,BB.out⟩
   |true=>
    obtain⟨o1,o2,o3⟩:=Ca.right_obj hq
    dsimp only at o1 o2 o3
    obtain⟨o,rfl⟩:∃o:Nat,x0=(o:Int):=⟨x0.toNat,by omega⟩
    have ho:o<256:=by omega
    have ho0:(0:Int)≤(o:Int):=by omega
    have ho1:(o:Int)<256:=by omega
    have hoks:=hok o rfl
    rw[hq]at hoks
    have hm:=hB.marks_cell o ho
    have hst:=hB.marks_put o ho true
    have hst2:=hst.marks_same (f':=Ca.seen L (k+1)) (fun i _=>by
     rw[hsu i]
     by_cases e:i=o
     ·subst e;simp
     ·rw[if_neg e,decide_eq_false (by omega),Bool.or_false])
    have hmf:=hB.free o
    have HST:=Hd hst2
    have BW:=Hd hbw
    have HALL:=Hd hall
    have HB:=Hd hB
    have HOKS:=Hd hoks
    have HSU:=Hd hsu
    have Hno:=Hd hno
    clear hcs hx hbw hok hno hsu hbx hq hall hB hst hst2 hoks
    cases hs:Ca.seen L k o with
    |true=>
     have hR:OK=false:=Hno.out (fun h=>by have:=(HOKS.out.1 h).2;rw[hs]at this;cases this)
     subst hR
     rw[hs]at hm
     clear hs HST
     go_wp2_with fail
     refine NR.out.mono ?_
     rintro e w3 ⟨rfl,b3⟩
     have hm3:=cell_later b3 hm
     have e03:=cell_later b3 e0
     have BB:=Hd (below_on BW.out b3)
     clear b3 NR BW hm e0 e1 e2 e3
     go_wp2
     go_ret
     exact⟨rfl,BB.out⟩
    |false=>
     have hok:=HOKS.out.2 ⟨rfl,hs⟩
     have HOK:=Hd hok
     rw[hs]at hm
     clear hs hok HST
     go_wp2_with fail
     refine NR.out.mono ?_
     rintro e w3 ⟨rfl,b3⟩
     have hm3:=cell_later b3 hm
     have e03:=cell_later b3 e0
     have hB3:=HB.out.later b3
     have hmf3:=hB3.free o
     have hst2:=(hB3.marks_put o ho true).marks_same (f':=Ca.seen L (k+1)) (fun i _=>by
      rw[HSU.out i]
      by_cases e:i=o
      ·subst e;simp
      ·rw[if_neg e,decide_eq_false (by omega),Bool.or_false])
     have HST:=Hd hst2
     have BB:=Hd ((below_on BW.out b3).setCell (p:=⟨w.heap.size,o,none⟩) (Nat.le_refl _) (.bool true))
     clear b3 NR BW hm e0 e1 e2 e3 hst2 hB3 hmf
     go_wp2_with fail
     go_roundw
     case rel=>
      refine⟨k+1,by omega,by go_num,fun j hj =>?_,HST.out,BB.out⟩
      by_cases e:j=k
      ·subst e;exact HOK.out
      ·exact HALL.out j (by omega)
     case measure=>simp[intOf];omega
  ·obtain rfl:k=L.length:=by omega
   have hR:OK=true:=hYES.out (fun j hj=>hall j (by rw[List.length_map]at hj;exact hj))
   have hu:=hUO.out hall
   subst hR
   have NU:=Hd (cused_any A c L wr (HL.out.later hbw) (by omega))
   obtain⟨U,hU⟩:∃U,Ca.used (L.map Bc.b)=U:=⟨_,rfl⟩
   rw[hU]at NU ⊢
   have BW:=Hd hbw
   have HU:=Hd hU
   clear hall hB hbw hu hU hYES
   go_wp2_with fail
   refine NU.out.mono ?_
   rintro e w3 ⟨rfl,b3⟩
   have BB:=Hd (below_on BW.out b3)
   clear b3 NU BW
   go_wp2
   go_ret
   exact⟨by rw[HU.out];simp,BB.out⟩
set_option maxRecDepth 100000 in
set_option maxHeartbeats 6400000 in
theorem cput_any(A X:Option Addr)(cc d:Nat)(L:List Bc)(room:Int)(x:Bd)(w:World)(h:OneC w A cc L)(hx:OneB w X d x.v) :
  Calls Tryz.prog 81 #[.slice A L.length cc,.int .i64 room,.agg (bdCells X d x)] w (GivesCE (Ca.putR (L.map Bc.b) room x).1 (Ca.putR (L.map Bc.b) room x).2 w):=by
 obtain⟨i0,hI,hZ0,hZ1,hZ2⟩:=info_parts infoBdy
 obtain⟨x0,x1,x2,vl⟩:=x
 unfold bdCells
 dsimp only at hx ⊢
 have hR:Ca.putR (L.map Bc.b) room ⟨x0,x1,x2,vl⟩=if Ca.fmd (L.map Bc.b) room=true then (if Wi.bright ⟨x0,x1,x2,vl⟩=true then (Ca.fit room (Ca.forget (L.map Bc.b) x0++[⟨x0,x1,x2,vl⟩]),0) else ([],1)) else ([],1):=rfl
 rw[hR]
 have b0:=below_new (Below.refl w.heap.size w) (.cells #[.int .i64 x0,.int .i64 x1,.int .i64 x2,.slice X vl.length d] 49)
 have B0:=Blk.new w 49 #[.int .i64 x0,.int .i64 x1,.int .i64 x2,.slice X vl.length d]
 obtain⟨W0,hW⟩:∃W0,w.alloc (.cells #[.int .i64 x0,.int .i64 x1,.int .i64 x2,.slice X vl.length d] 49)=W0:=⟨_,rfl⟩
 rw[hW]at b0 B0
 have HW:=Hd hW
 have HL:=Hd h
 have N1:=Hd (cformed_any A cc L room W0 (h.later b0))
 have N2:=Hd (fun w'=>show Calls Tryz.prog 80 #[.agg #[.int .i64 x0,.int .i64 x1,.int .i64 x2,.slice X vl.length d]] w' (Says (.bool (Wi.bright ⟨x0,x1,x2,vl⟩)) w') from bright_any X d ⟨x0,x1,x2,vl⟩ w')
 have HV:=Hd hx
 have HB0:=Hd b0
 have HBB:=Hd B0
 clear hR h hW B0 b0 hx
 cases hf:Ca.fmd (L.map Bc.b) room with
 |false=>
  rw[hf]at N1
  rw[if_neg Bool.false_ne_true]
  clear hf
  go_enter Tryz.func81,Tryz.ntmps81
  go_wp2_with fail
  rw[HW.out]
  refine N1.out.mono ?_
  rintro e w1 ⟨rfl,b1⟩
  have BB:=Hd (below_on HB0.out b1)
  clear N1 N2 b1
  go_wp2
  go_ret2
  exact⟨none,0,[],rfl,rfl,OwnC.nil _ _,BB.out⟩
 |true=>
 rw[if_pos rfl]
 rw[hf]at N1
 have hfp:=Ca.fmd_parts hf
 cases hr:Wi.bright ⟨x0,x1,x2,vl⟩ with
 |false=>
  rw[hr]at N2
  rw[if_neg Bool.false_ne_true]
  clear hf hr hfp
  go_enter Tryz.func81,Tryz.ntmps81
  go_wp2_with fail
  rw[HW.out]
  refine N1.out.mono ?_
  rintro e w1 ⟨rfl,b1⟩
  have B1:=HBB.out.later b1
  have q0:=B1.cell (i:=0) rfl
  have q1:=B1.cell (i:=1) rfl
  have q2:=B1.cell (i:=2) rfl
  have q3:=B1.cell (i:=3) rfl
  have bb:=below_on HB0.out b1
  clear N1 b1 B1
  go_wp2_with fail
  refine(N2.out _).mono ?_
  rintro e w2 ⟨rfl,b2⟩
  have BB:=Hd (below_on bb b2)
  clear N2 bb b2 q0 q1 q2 q3
  go_wp2
  go_ret2
  exact⟨none,0,[],rfl,rfl,OwnC.nil _ _,BB.out⟩
 |true=>
  rw[if_pos rfl]
  rw[hr]at N2
  obtain⟨r0,r1,hl256,hused,hfits⟩:=hfp
  have hx256:=(Ca.right_obj hr).2.2
  dsimp only at hx256
  have hfl:=Ca.forget_len (L.map Bc.b) x0
  have hfu:=Ca.forget_used (L.map Bc.b) x0
  obtain⟨F,hF⟩:∃F,Ca.forget (L.map Bc.b) x0=F:=⟨_,rfl⟩
  rw[List.length_map]at hfl
  have HFF:=Hd hF
  have HFITS:=Hd hfits
  rw[hF]at hfl hfu ⊢
  obtain⟨uL,huL⟩:∃u,Ca.used (L.map Bc.b)=u:=⟨_,rfl⟩
  rw[huL]at hused hfu
  clear hf hr hF huL hfits
  go_enter Tryz.func81,Tryz.ntmps81
  go_wp2_with fail
  rw[HW.out]
  refine N1.out.mono ?_
  rintro e w1 ⟨rfl,b1⟩
  have B1:=HBB.out.later b1
  have q0:=B1.cell (i:=0) rfl
  have q1:=B1.cell (i:=1) rfl
  have q2:=B1.cell (i:=2) rfl
  have q3:=B1.cell (i:=3) rfl
  have bb:=below_on HB0.out b1
  clear N1 b1
  go_wp2_with fail
  refine(N2.out _).mono ?_
  rintro e W ⟨rfl,b2⟩
  have B2:=B1.later b2
  have bbW:=below_on bb b2
  have hzW:=bbW.size
  have HX:=Hd (show W.cell? ⟨w.heap.size,0,none⟩=some (.int .i64 x0)∧W.cell? ⟨w.heap.size,1,none⟩=some (.int .i64 x1)∧W.cell? ⟨w.heap.size,2,none⟩=some (.int .i64 x2)∧W.cell? ⟨w.heap.size,3,none⟩=some (.slice X vl.length d) from⟨B2.cell rfl,B2.cell rfl,B2.cell rfl,B2.cell rfl⟩)
  have BBW:=Hd bbW
  have NF:=Hd (fun w' (hb:Below W.heap.size W w')=>show Calls Tryz.prog 145 #[.slice A L.length cc,.int .i64 x0] w' (fun e w''=>∃v M,e = .returned v∧List.map Bc.b M=F∧OwnRC w'' w'.heap.size 49 5 v M∧Below w'.heap.size w' w'') from by rw[←HFF.out];exact cforget_any A cc L x0 w' (HL.out.later (below_on bbW hb)) HFITS.out)
  have NB:=Hd (fun w' (hb:Below W.heap.size W w')=>show Calls Tryz.prog 72 #[.agg #[.int .i64 x0,.int .i64 x1,.int .i64 x2,.slice X vl.length d]] w' (GivesBd ⟨x0,x1,x2,vl⟩ w') from cbody_any X d ⟨x0,x1,x2,vl⟩ w' (show vl.length≤140737488355328 by omega) (HV.out.later (below_on bbW hb)))
  clear N2 bb b2 q0 q1 q2 q3 B1 B2 bbW
  go_upto_region 3 with (fail)
  refine wp_region_facts 7 (by kernel_rfl) (by kernel_rfl)
   (fun v=>{ tmps:=#[.slice A L.length cc,.int .i64 room,.agg #[.int .i64 x0,.int .i64 x1,.int .i64 x2,.slice X vl.length d],undef,undef,.pointer (some ⟨w.heap.size,0,none⟩),.slice none 0 0,.int .i64 0,undef,.slice A L.length cc,.int .i64 room,.bool true,.bool false,.bool false,.agg #[.int .i64 x0,.int .i64 x1,.int .i64 x2,.slice X vl.length d],.bool true,.bool false,.bool false,v 0,v 1,v 2,v 3,v 4,v 5,v 6,undef,undef,undef,undef,undef,undef,undef,undef],defers:=[] }) (fun _=>undef)
   (fun i x wx=>match i with
    |0=>x = .slice A L.length cc
    |1=>x = .pointer (some ⟨w.heap.size,0,none⟩)
    |2=>x = .int .i64 x0
    |3=>∃VA e M,x = .slice VA (List.length M) e∧List.map Bc.b M=F∧OwnRC wx W.heap.size 49 5 (.slice VA (List.length M) e) M
    |4=>x = .agg #[.int .i64 x0,.int .i64 x1,.int .i64 x2,.slice X vl.length d]
    |5=>∃Y e,x = .agg #[.int .i64 x0,.int .i64 x1,.int .i64 x2,.slice Y vl.length e]∧wx.ownsRow W.heap.size 5 1 (.slice Y vl.length e) vl.length (bCells vl)
    |6=>∃g Y e,x = .slice (some ⟨g,0,none⟩) 1 1∧Blk wx g 49 #[.int .i64 x0,.int .i64 x1,.int .i64 x2,.slice Y vl.length e]∧wx.ownsRow W.heap.size 5 1 (.slice Y vl.length e) vl.length (bCells vl)
    |_=>True)
   (fun w1 w2=>Below w1.heap.size w1 w2) (fun h1 h2=>below_on h1 h2) (fun _=>Below.refl _ _) (Below.drew (Below.refl _ _)) ?stab ?step ?done
  case stab=>
   rintro i x w1 w2 h hb
   match i,h with
   |0,h=>exact h
   |1,h=>exact h
   |2,h=>exact h
   |3,h=>obtain⟨VA,e,M,h1,h2,h3⟩:=h;exact⟨VA,e,M,h1,h2,h3.later hb⟩
   |4,h=>exact h
   |5,h=>obtain⟨Y,e,h1,h2⟩:=h;exact⟨Y,e,h1,own_later h2 hb⟩
   |6,h=>obtain⟨g,Y,e,h1,h2,h3⟩:=h;exact⟨g,Y,e,h1,h2.later hb,own_later h3 hb⟩
   |i+7,_=>trivial
  case step=>
   intro i hi v w' hb hd
   match i,hi with
   |0,_=>
    refine wpOp_oneH rfl fun KK HKK =>?_
    clear hd
    go_wp2
    exact HKK.out _ _ ⟨_,(by simp[upd];done),Below.refl _ _,rfl⟩
   |1,_=>
    refine wpOp_oneH rfl fun KK HKK =>?_
    clear hd
    go_wp2
    exact HKK.out _ _ ⟨_,(by simp[upd];done),Below.refl _ _,rfl⟩
   |2,_=>
    have h1:v 1=_:=hdx hd 1 (by kernel_rfl)
    refine wpOp_oneH rfl fun KK HKK =>?_
    clear hd
    rw[h1]
    have q0:=cell_later hb HX.out.1
    go_wp2
    exact HKK.out _ _ ⟨_,(by simp[upd,h1];done),Below.refl _ _,rfl⟩
   |3,_=>
    have h0:v 0=_:=hdx hd 0 (by kernel_rfl)
    have h2:v 2=_:=hdx hd 2 (by kernel_rfl)
    refine wpOp_oneH rfl fun KK HKK =>?_
    clear hd
    rw[h0,h2]
    have hsz:=hb.size
    go_wp2_with fail
    refine(NF.out _ hb).mono ?_
    rintro e w'' ⟨u,M,rfl,hm,ho,b⟩
    obtain⟨VA,ey,hu,-⟩:=ho.form
    subst hu
    have HO:=Hd (ho.lower hsz)
    have HM:=Hd hm
    clear ho hm
    go_wp2
    exact HKK.out _ _ ⟨_,(by simp[upd,h0,h2];done),b,VA,ey,M,rfl,HM.out,HO.out⟩
   |4,_=>
    refine wpOp_oneH rfl fun KK HKK =>?_
    clear hd
    have q0:=cell_later hb HX.out.1
    have q1:=cell_later hb HX.out.2.1
    have q2:=cell_later hb HX.out.2.2.1
    have q3:=cell_later hb HX.out.2.2.2
    go_wp2
    exact HKK.out _ _ ⟨_,(by simp[upd];done),Below.refl _ _,rfl⟩
   |5,_=>
    have h4:v 4=_:=hdx hd 4 (by kernel_rfl)
    refine wpOp_oneH rfl fun KK HKK =>?_
    clear hd
    rw[h4]
    have hsz:=hb.size
    go_wp2_with fail
    refine(NB.out _ hb).mono ?_
    rintro e w'' ⟨Y,ey,rfl,ho,b⟩
    have HO:=Hd (own_base ho hsz)
    clear ho
    unfold bdCells
    go_wp2
    exact HKK.out _ _ ⟨_,(by simp[upd,h4];done),b,Y,ey,rfl,HO.out⟩
   |6,_=>
    obtain⟨Y5,e5,h5,o5⟩:=hd 5 (List.elem_iff.1 (by kernel_rfl))
    refine wpOp_oneH rfl fun KK HKK =>?_
    clear hd
    rw[h5]
    have bn:=below_new (Below.refl w'.heap.size w') (.cells #[.int .i64 x0,.int .i64 x1,.int .i64 x2,.slice Y5 vl.length e5] 49)
    have HO:=Hd (own_later o5 bn)
    have HBN:=Hd (Blk.new w' 49 #[.int .i64 x0,.int .i64 x1,.int .i64 x2,.slice Y5 vl.length e5])
    clear o5
    go_wp2
    exact HKK.out _ _ ⟨_,(by simp[upd,h5];done),bn,_,Y5,e5,rfl,HBN.out,HO.out⟩
   |k+7,hk=>exact absurd hk (by omega)
  case done=>
   intro v w5 hb hf
   obtain⟨Y3,e3,M3,h3,m3,o3⟩:=hf 3 (by decide)
   obtain⟨g6,Y6,e6,h6,b6,o6⟩:=hf 6 (by decide)
   clear hf
   rw[h3,h6]
   simp only[List.drop_succ_cons,List.drop_zero]
   have hsz:=hb.size
   have hml:M3.length=F.length:=by have:=congrArg List.length m3;simpa using this
   have hrow:=o3.row
   have hyL:Lies w5 (some ⟨g6,0,none⟩) (Ca.cell ⟨Y6,e6,⟨x0,x1,x2,vl⟩⟩):=fun _=>⟨g6,0,rfl,fun j u hu=>by
    rw[Nat.zero_add]
    exact b6.cell (by simpa[Ca.cell] using hu)⟩
   have HM3:=Hd m3
   have HO3:=Hd o3
   have HO6:=Hd o6
   have HBW:=Hd hb
   have hm1:M3.length≤256:=by omega
   clear hb m3 o3 o6 b6 NF NB HX hml
   go_wp2_with (at_builtin;refine Go.Proofs.YtjlfehpockfkdaaGreat.wpList_append_lies _ rfl _ _ 25 rfl W.heap.size 49 i0 (.agg #[.int .i64 0,.int .i64 0,.int .i64 0,.slice none 0 0]) 4 48 Tryz.underlying25 hI hZ0 hZ1 hZ2 rfl (by decide) _ M3.length (Ca.cells M3) rfl hrow (some ⟨g6,0,none⟩) 1 1 (fun h=>by cases h) (Ca.cell ⟨Y6,e6,⟨x0,x1,x2,vl⟩⟩) rfl rfl hyL (by intro u hu;simp[Ca.cell]at hu;rcases hu with rfl|rfl|rfl|rfl<;>rfl) ?h63 ?hbytes hsz ?_)
   case h63=>unfold maxLen;omega
   case hbytes=>omega
   intro v' wz hownz hgz _
   have bwz:Below W.heap.size W wz:=HBW.out.grown hgz hsz (fun r e=>own_ge hrow r e)
   have hRz:=HO3.out.snoc (by decide) hgz ⟨Y6,e6,⟨x0,x1,x2,vl⟩⟩ HO6.out HV.out.byte hownz
   obtain⟨VZ,cz,hvz,hOz⟩:=hRz.form
   subst hvz
   obtain⟨Z,hZ⟩:∃Z,M3++[(⟨Y6,e6,⟨x0,x1,x2,vl⟩⟩:Bc)]=Z:=⟨_,rfl⟩
   have hZm:Z.map Bc.b=F++[⟨x0,x1,x2,vl⟩]:=by rw[←hZ,List.map_append,HM3.out];rfl
   have hZu:Ca.used (Z.map Bc.b)≤16777472:=by
    rw[hZm,Ca.used_append]
    simp only[Ca.used]
    omega
   rw[hZ]at hOz
   have hZl:M3.length+1=Z.length:=by rw[←hZ,List.length_append];rfl
   rw[hZ]
   have HO:=Hd (hOz.lower hzW)
   have HBZ:=Hd (below_on BBW.out bwz)
   have HZM:=Hd hZm
   clear hownz hgz hrow hyL bwz hRz hOz HM3 HO3 HO6 HBW hZ hZm hZl hsz
   go_wp2_with fail
   go_loopw [8] (fun s8 wr=>∃(AZ:Option Addr) (c8:Nat) (M:List Bc),s8 = .slice AZ M.length c8∧OwnC wr w.heap.size AZ c8 M∧Ca.fit room (M.map Bc.b)=Ca.fit room (Z.map Bc.b)∧Ca.used (M.map Bc.b)≤16777472∧Below w.heap.size w wr) (fun s8 _=>match s8 with | .slice _ n _=>n|_=>0)
   case atStart=>exact⟨VZ,cz,Z,rfl,HO.out,rfl,hZu,HBZ.out⟩
   case round=>
    obtain⟨AZ,c8,M,rfl,hO,hfit,hMu,hbw⟩:=hrel
    have NU:=Hd (cused_any AZ c8 M wr hO.one (by omega))
    obtain⟨u,hu⟩:∃u,Ca.used (M.map Bc.b)=u:=⟨_,rfl⟩
    rw[hu]at NU hMu
    have HU:=Hd hu
    have HO:=Hd hO
    have HFIT:=Hd hfit
    have BW:=Hd hbw
    clear hO hfit hbw hu
    by_cases hroom:room<(u:Int)
    ·have hd:decide (room<(u:Int))=true:=decide_eq_true hroom
     have hne:M≠[]:=fun e=>by
      have:=HU.out
      rw[e]at this
      have h0:u=0:=this.symm
      omega
     cases M with
     |nil=>exact absurd rfl hne
     |cons z r=>
      obtain⟨b,off,hA,-⟩:=HO.out.one.at hne
      subst hA
      have hfg:=Ca.fit_gone room z.b (r.map Bc.b) (by have:=HU.out;rw[List.map_cons]at this;rw[this];exact hroom)
      have hru:Ca.used (r.map Bc.b)≤16777472:=by have:=HU.out;rw[List.map_cons]at this;simp only[Ca.used]at this;omega
      have HFG:=Hd (show Ca.fit room (r.map Bc.b)=Ca.fit room (Z.map Bc.b) from by rw[←HFIT.out,List.map_cons,hfg])
      have hle:=HO.out.one.le
      have hcap:=HO.out.one.cap
      unfold maxLen at hcap
      rw[List.length_cons]at hle ⊢
      rw[List.length_cons]at NU
      clear hfg hne HFIT hroom
      by_cases hc1:c8=1
      ·subst hc1
       obtain⟨hr0,hO2⟩:=HO.out.tail1
       subst hr0
       have HO2:=Hd hO2
       clear hO2 HO
       go_wp2_with fail
       refine NU.out.mono ?_
       rintro e w9 ⟨rfl,b9⟩
       have HO3:=Hd (HO2.out.later b9)
       have BB:=Hd (below_on BW.out b9)
       clear b9 NU
       go_wp2_with fail
       go_roundw
       case rel=>exact⟨some ⟨b,off,none⟩,0,[],by first|rfl|trivial|simp,HO3.out,HFG.out,hru,BB.out⟩
       case measure=>simp
      ·have HO2:=Hd (HO.out.tail)
       clear HO
       go_wp2_with fail
       refine NU.out.mono ?_
       rintro e w9 ⟨rfl,b9⟩
       have HO3:=Hd (HO2.out.later b9)
       have BB:=Hd (below_on BW.out b9)
       clear b9 NU
       go_wp2_with fail
       go_roundw
       case rel=>exact⟨some ⟨b,off+4,none⟩,c8-1,r,by first|rfl|trivial|simp,HO3.out,HFG.out,hru,BB.out⟩
       case measure=>simp
    ·have hd:decide (room<(u:Int))=false:=decide_eq_false hroom
     have hst:=Ca.fit_stay room (M.map Bc.b) (by rw[HU.out];exact hroom)
     have HST:=Hd (show M.map Bc.b=Ca.fit room (F++[⟨x0,x1,x2,vl⟩]) from by rw[←HZM.out,←HFIT.out,hst])
     clear hst hroom
     go_wp2_with fail
     refine NU.out.mono ?_
     rintro e w9 ⟨rfl,b9⟩
     have HO3:=Hd (HO.out.later b9)
     have BB:=Hd (below_on BW.out b9)
     clear b9 NU
     go_wp2
     go_ret2
     exact⟨AZ,c8,M,rfl,HST.out,HO3.out,BB.out⟩
set_option maxRecDepth 100000 in
set_option maxHeartbeats 6400000 in
theorem vreached_any(q:Vl)(y:Wr)(w:World)(h:VwAt w q):Calls Tryz.prog 58 #[.agg (vwCells q),.agg (Nt.wrArr y)] w (Says (.bool (Vw.has q.vw y)) w):=by
 obtain⟨t,ht⟩:∃t,Vw.has q.vw y=t:=⟨_,rfl⟩
 rw[ht]
 obtain⟨R,hR⟩:∃R,Tr.rchR (q.z.map Zc.zn) q.k y.2.2.1=R:=⟨_,rfl⟩
 have HT:=Hd (show hasOf R y.1 y.2.1=t from by rw[←hR];exact ht)
 have b0:=below_new (below_new (Below.refl w.heap.size w) (.cells (vwCells q) 27)) (.cells (Nt.wrArr y) 52)
 have V0:=(Blk.new w 27 (vwCells q)).alloc (.cells (Nt.wrArr y) 52)
 have Y0:=Blk.new (w.alloc (.cells (vwCells q) 27)) 52 (Nt.wrArr y)
 rw[World.size_alloc]at Y0
 obtain⟨W,hW⟩:∃W,(w.alloc (.cells (vwCells q) 27)).alloc (.cells (Nt.wrArr y) 52)=W:=⟨_,rfl⟩
 rw[hW]at b0 V0 Y0
 have HW:=Hd hW
 obtain⟨g,hg⟩:∃g,w.heap.size=g:=⟨_,rfl⟩
 rw[hg]at V0 Y0
 have NR:=Hd (fun w' (hb:Below W.heap.size W w')=>show Calls Tryz.prog 36 #[.slice q.Z q.z.length q.cz,.slice q.K q.k.length q.ck,.int .i64 y.2.2.1] w' (Gives R w') from by
  have h1:=(h.later b0).later hb
  rw[←hR]
  exact zreach_any q.Z q.K q.cz q.ck q.z q.k y.2.2.1 w' h1.z h1.k)
 have B0:=Hd b0
 have v0:W.cell? ⟨g,0,none⟩=some (.slice q.K q.k.length q.ck):=V0.cell (i:=0) rfl
 have v1:W.cell? ⟨g,1,none⟩=some (.slice q.Z q.z.length q.cz):=V0.cell (i:=1) rfl
 have y0:W.cell? ⟨g+1,0,none⟩=some (.int .i64 y.1):=Y0.cell (i:=0) rfl
 have y1:W.cell? ⟨g+1,1,none⟩=some (.int .i64 y.2.1):=Y0.cell (i:=1) rfl
 have y2:W.cell? ⟨g+1,2,none⟩=some (.int .i64 y.2.2.1):=Y0.cell (i:=2) rfl
 clear ht hR h b0 V0 Y0 hW
 go_enter Tryz.func58,Tryz.ntmps58
 go_upto_region 1 with (fail)
 rw[HW.out]
 clear HW
 refine wp_region_facts 10 (by kernel_rfl) (by kernel_rfl)
  (fun v=>{ tmps:=#[.agg (vwCells q),.agg (Nt.wrArr y),.pointer (some ⟨g,0,none⟩),.pointer (some ⟨g+1,0,none⟩),.bool false,v 0,v 1,v 2,v 3,v 4,v 5,v 6,v 7,v 8,v 9],defers:=[] }) (fun _=>undef)
  (fun i x wx=>match i with
   |0=>x = .pointer (some ⟨g,1,none⟩)
   |1=>x = .slice q.Z q.z.length q.cz
   |2=>x = .pointer (some ⟨g,0,none⟩)
   |3=>x = .slice q.K q.k.length q.ck
   |4=>x = .pointer (some ⟨g+1,2,none⟩)
   |5=>x = .int .i64 y.2.2.1
   |6=>∃A9 c9,x = .slice A9 R.length c9∧OneL wx A9 c9 R
   |7=>x = .pointer (some ⟨g+1,0,none⟩)
   |8=>x = .agg #[.int .i64 y.1,.int .i64 y.2.1]
   |9=>x = .bool t
   |_=>True)
  (fun w1 w2=>Below w1.heap.size w1 w2) (fun h1 h2=>below_on h1 h2) (fun _=>Below.refl _ _) (Below.drew (Below.refl _ _)) ?stabR ?stepR ?doneR
 case stabR=>
  rintro i x w1 w2 h hb
  match i,h with
  |0,h=>exact h
  |1,h=>exact h
  |2,h=>exact h
  |3,h=>exact h
  |4,h=>exact h
  |5,h=>exact h
  |6,h=>obtain⟨A9,c9,e9,h9⟩:=h;exact⟨A9,c9,e9,h9.later hb⟩
  |7,h=>exact h
  |8,h=>exact h
  |9,h=>exact h
  |i+10,_=>trivial
 case stepR=>
  intro i hi v w' hb hd
  match i,hi with
  |0,_=>
   refine wpOp_oneH rfl fun KK HKK =>?_
   clear hd
   go_wp2
   exact HKK.out _ _ ⟨_,(by simp[upd];done),Below.refl _ _,rfl⟩
  |1,_=>
   have h0:v 0=_:=hdx hd 0 (by kernel_rfl)
   refine wpOp_oneH rfl fun KK HKK =>?_
   clear hd
   rw[h0]
   have q0:=cell_later hb v1
   go_wp2
   exact HKK.out _ _ ⟨_,(by simp[upd,h0];done),Below.refl _ _,rfl⟩
  |2,_=>
   refine wpOp_oneH rfl fun KK HKK =>?_
   clear hd
   go_wp2
   exact HKK.out _ _ ⟨_,(by simp[upd];done),Below.refl _ _,rfl⟩
  |3,_=>
   have h2:v 2=_:=hdx hd 2 (by kernel_rfl)
   refine wpOp_oneH rfl fun KK HKK =>?_
   clear hd
   rw[h2]
   have q0:=cell_later hb v0
   go_wp2
   exact HKK.out _ _ ⟨_,(by simp[upd,h2];done),Below.refl _ _,rfl⟩
  |4,_=>
   refine wpOp_oneH rfl fun KK HKK =>?_
   clear hd
   go_wp2
   exact HKK.out _ _ ⟨_,(by simp[upd];done),Below.refl _ _,rfl⟩
  |5,_=>
   have h4:v 4=_:=hdx hd 4 (by kernel_rfl)
   refine wpOp_oneH rfl fun KK HKK =>?_
   clear hd
   rw[h4]
   have q0:=cell_later hb y2
   go_wp2
   exact HKK.out _ _ ⟨_,(by simp[upd,h4];done),Below.refl _ _,rfl⟩
  |6,_=>
   have h1:v 1=_:=hdx hd 1 (by kernel_rfl)
   have h3:v 3=_:=hdx hd 3 (by kernel_rfl)
   have h5:v 5=_:=hdx hd 5 (by kernel_rfl)
   refine wpOp_oneH rfl fun KK HKK =>?_
   clear hd
   rw[h1,h3,h5]
   go_wp2_with fail
   refine(NR.out _ hb).mono ?_
   rintro e w'' ⟨v6,rfl,ho6,b⟩
   obtain⟨A6,c6,rfl,hB6⟩:=OneL.of_own ho6
   go_wp2
   exact HKK.out _ _ ⟨_,(by simp[upd,h1,h3,h5];done),b,A6,c6,rfl,hB6⟩
  |7,_=>
   refine wpOp_oneH rfl fun KK HKK =>?_
   clear hd
   go_wp2
   exact HKK.out _ _ ⟨_,(by simp[upd];done),Below.refl _ _,rfl⟩
  |8,_=>
   have h7:v 7=_:=hdx hd 7 (by kernel_rfl)
   refine wpOp_oneH rfl fun KK HKK =>?_
   clear hd
   rw[h7]
   have q0:=cell_later hb y0
   have q1:=cell_later hb y1
   go_wp2
   exact HKK.out _ _ ⟨_,(by simp[upd,h7];done),Below.refl _ _,rfl⟩
  |9,_=>
   obtain⟨B6,d6,h6,hB6⟩:=hd 6 (List.elem_iff.1 (by kernel_rfl))
   have h8:v 8=_:=hdx hd 8 (by kernel_rfl)
   refine wpOp_oneH rfl fun KK HKK =>?_
   clear hd
   rw[h6,h8]
   have NH:=Hd (rhas_any B6 d6 R y.1 y.2.1 w' hB6.len hB6.stamps)
   go_wp2_with fail
   refine NH.out.mono ?_
   rintro e w'' ⟨rfl,b⟩
   rw[HT.out]
   go_wp2
   exact HKK.out _ _ ⟨_,(by simp[upd,h6,h8];done),b,rfl⟩
  |k+10,hk=>exact absurd hk (by omega)
 case doneR=>
  intro v w5 hb hf
  have h0:v 0=_:=hf 0 (by decide)
  have h1:v 1=_:=hf 1 (by decide)
  have h2:v 2=_:=hf 2 (by decide)
  have h3:v 3=_:=hf 3 (by decide)
  have h4:v 4=_:=hf 4 (by decide)
  have h5:v 5=_:=hf 5 (by decide)
  obtain⟨B6,d6,h6,hB6⟩:=hf 6 (by decide)
  have h7:v 7=_:=hf 7 (by decide)
  have h8:v 8=_:=hf 8 (by decide)
  have h9:v 9=_:=hf 9 (by decide)
  clear hf
  rw[h0,h1,h2,h3,h4,h5,h6,h7,h8,h9]
  have BB:=Hd (below_on B0.out hb)
  clear hb B0 hB6
  go_wp2
  go_ret
  exact⟨rfl,BB.out⟩
set_option maxRecDepth 100000 in
set_option maxHeartbeats 6400000 in
theorem vwanted_any(q:Vl)(X:Option Addr)(d:Nat)(x:Bd)(w:World)(h:VwAt w q):Calls Tryz.prog 59 #[.agg (vwCells q),.agg (bdCells X d x)] w (Says (.bool (Vw.wants q.vw x)) w):=by
 obtain⟨x0,x1,x2,vl⟩:=x
 obtain⟨t,ht⟩:∃t,Vw.wants q.vw ⟨x0,x1,x2,vl⟩=t:=⟨_,rfl⟩
 rw[ht]
 obtain⟨⟨⟨a0,a1,a2,a3⟩,ok⟩,hp⟩:∃p,Nt.at_ q.h x0=p:=⟨_,rfl⟩
 have hT:(ok&&(decide (a0=x1∧a1=x2) && !a3))=t:=(fun p (hp:Nt.at_ q.h x0=p)=>show(p.2&&(decide (p.1.1=x1∧p.1.2.1=x2) && !p.1.2.2.2))=t from by subst hp;exact ht) _ hp
 have b0:=below_new (below_new (Below.refl w.heap.size w) (.cells (vwCells q) 27)) (.cells (bdCells X d ⟨x0,x1,x2,vl⟩) 49)
 have V0:=(Blk.new w 27 (vwCells q)).alloc (.cells (bdCells X d ⟨x0,x1,x2,vl⟩) 49)
 have Y0:=Blk.new (w.alloc (.cells (vwCells q) 27)) 49 (bdCells X d ⟨x0,x1,x2,vl⟩)
 rw[World.size_alloc]at Y0
 obtain⟨W,hW⟩:∃W,(w.alloc (.cells (vwCells q) 27)).alloc (.cells (bdCells X d ⟨x0,x1,x2,vl⟩) 49)=W:=⟨_,rfl⟩
 rw[hW]at b0 V0 Y0
 have HW:=Hd hW
 obtain⟨g,hg⟩:∃g,w.heap.size=g:=⟨_,rfl⟩
 rw[hg]at V0 Y0
 have NA:=Hd (show Calls Tryz.prog 88 #[.slice q.H q.h.length q.ch,.int .i64 x0] W (Says (.tuple #[.agg #[.int .i64 a0,.int .i64 a1,.int .i64 a2,.bool a3],.bool ok]) W) from by
  have n:=nat_any q.H q.ch q.h x0 W (h.later b0).h
  rw[hp]at n
  exact n)
 have B0:=Hd b0
 have v2:W.cell? ⟨g,2,none⟩=some (.slice q.H q.h.length q.ch):=V0.cell (i:=2) rfl
 have y0:W.cell? ⟨g+1,0,none⟩=some (.int .i64 x0):=Y0.cell (i:=0) rfl
 have y1:W.cell? ⟨g+1,1,none⟩=some (.int .i64 x1):=Y0.cell (i:=1) rfl
 have y2:W.cell? ⟨g+1,2,none⟩=some (.int .i64 x2):=Y0.cell (i:=2) rfl
 have HT:=Hd hT
 clear ht hp h b0 V0 Y0 hW hT
 go_enter Tryz.func59,Tryz.ntmps59
 go_upto_region 1 with (fail)
 rw[HW.out]
 clear HW
 go_wp2_with fail
 refine NA.out.mono ?_
 rintro e w2 ⟨rfl,b2⟩
 have bz:=below_new (Below.refl w2.heap.size w2) (.cells #[.int .i64 a0,.int .i64 a1,.int .i64 a2,.bool a3] 52)
 have BB:=Hd (below_on B0.out (below_on b2 bz))
 have A0:=Blk.new w2 52 #[.int .i64 a0,.int .i64 a1,.int .i64 a2,.bool a3]
 have z1:=cell_later (below_on b2 bz) y1
 have z2:=cell_later (below_on b2 bz) y2
 have c0:=A0.cell (i:=0) rfl
 have c1:=A0.cell (i:=1) rfl
 have c3:=A0.cell (i:=3) rfl
 clear b2 bz A0 NA B0 v2 y0 y1 y2
 cases ok with
 |false=>
  obtain rfl:t=false:=HT.out.symm
  clear HT
  go_wp2
  go_ret
  exact⟨rfl,BB.out⟩
 |true=>
  by_cases e0:a0=x1
  ·by_cases e1:a1=x2
   ·have d0:(a0 == x1)=true:=beq_iff_eq.2 e0
    have d1:(a1 == x2)=true:=beq_iff_eq.2 e1
    obtain rfl:t = !a3:=by rw[←HT.out,decide_eq_true ⟨e0,e1⟩];rfl
    clear HT e0 e1
    go_wp2
    go_ret
    exact⟨rfl,BB.out⟩
   ·have d0:(a0 == x1)=true:=beq_iff_eq.2 e0
    have d1:(a1 == x2)=false:=beq_eq_false_iff_ne.2 e1
    obtain rfl:t=false:=by rw[←HT.out,decide_eq_false (fun h=>e1 h.2)];rfl
    clear HT e0 e1
    go_wp2
    go_ret
    exact⟨rfl,BB.out⟩
  ·have d0:(a0 == x1)=false:=beq_eq_false_iff_ne.2 e0
   obtain rfl:t=false:=by rw[←HT.out,decide_eq_false (fun h=>e0 h.1)];rfl
   clear HT e0
   go_wp2
   go_ret
   exact⟨rfl,BB.out⟩
set_option maxRecDepth 100000 in
set_option maxHeartbeats 12800000 in
theorem vformed_any(q:Vl)(w:World)(h:VwAt w q):Calls Tryz.prog 16 #[.agg (vwCells q)] w (Says (.bool (Vw.fmd q.vw)) w):=by
 have hF:Vw.fmd q.vw=((Ve.fmd q.k&&(Tr.fmd (q.z.map Zc.zn)&&(Sf.fmd q.h&&Ca.fmd (q.b.map Bc.b) q.r)))&&(q.z.all (fun z=>decide (Ve.stand (Ve.cnt z.l) (Ve.cnt q.k)=1))&&(q.h.all (Vw.has q.vw)&&q.b.all (fun z=>Vw.wants q.vw z.b)))):=by
  unfold Vw.fmd
  rw[show q.vw.z=q.z.map Zc.zn from rfl,show q.vw.b=q.b.map Bc.b from rfl,List.all_map,List.all_map]
  rfl
 have hZ:=fun wx (hb:Below w.heap.size w wx)=>(h.later hb).z
 have hVW:=fun wx (hb:Below w.heap.size w wx)=>h.later hb
 have c1:=fun wx (hb:Below w.heap.size w wx)=>rformed_any q.K q.ck q.k wx (h.later hb).k.len (h.later hb).k.stamps
 have c2:=fun wx (hb:Below w.heap.size w wx)=>zformed_any q.Z q.cz q.z wx (h.later hb).z
 have c3:=fun wx (hb:Below w.heap.size w wx)=>fformed_any q.H q.ch q.h wx (h.later hb).h
 have c4:=fun wx (hb:Below w.heap.size w wx)=>cformed_any q.B q.cb q.b q.r wx (h.later hb).b
 have c5:=fun wx (hb:Below w.heap.size w wx) y=>vreached_any q y wx (h.later hb)
 have c6:=fun wx (hb:Below w.heap.size w wx) X d x=>vwanted_any q X d x wx (h.later hb)
 have HP1:=Hd (fun (j:Nat) x (hx:q.z[j]?=some x) =>@Vw.all_at _ q.z (fun z=>decide (Ve.stand (Ve.cnt z.l) (Ve.cnt q.k)=1)) j x hx)
 have HY1:=Hd (Vw.all_to q.z (fun z=>decide (Ve.stand (Ve.cnt z.l) (Ve.cnt q.k)=1)))
 have HP2:=Hd (fun (j:Nat) x (hx:q.h[j]?=some x) =>@Vw.all_at _ q.h (Vw.has q.vw) j x hx)
 have HY2:=Hd (Vw.all_to q.h (Vw.has q.vw))
 have HP3:=Hd (fun (j:Nat) x (hx:q.b[j]?=some x) =>@Vw.all_at _ q.b (fun z=>Vw.wants q.vw z.b) j x hx)
 have HY3:=Hd (Vw.all_to q.b (fun z=>Vw.wants q.vw z.b))
 obtain⟨hv,hhv⟩:∃f,Vw.has q.vw=f:=⟨_,rfl⟩
 obtain⟨wa,hwa⟩:∃f,Vw.wants q.vw=f:=⟨_,rfl⟩
 rw[hhv]at hF c5 HP2 HY2
 rw[hwa]at hF c6 HP3 HY3
 obtain⟨t,ht⟩:∃t,Vw.fmd q.vw=t:=⟨_,rfl⟩
 rw[ht]at hF ⊢
 have HQ:=Hd hVW
 clear ht hhv hwa hZ hVW
 have hll:=(And.intro h.z.len (And.intro h.h.len h.b.len))
 clear h
 obtain⟨K,ck,kn,Z,cz,zs,H,ch,hs,B,cb,bs,room⟩:=q
 unfold vwCells at c5 c6 ⊢
 dsimp only at hF c1 c2 c3 c4 c5 c6 HP1 HY1 HP2 HY2 HP3 HY3 hll ⊢
 obtain⟨f1,hf1⟩:∃f,Ve.fmd kn=f:=⟨_,rfl⟩
 obtain⟨f2,hf2⟩:∃f,Tr.fmd (zs.map Zc.zn)=f:=⟨_,rfl⟩
 obtain⟨f3,hf3⟩:∃f,Sf.fmd hs=f:=⟨_,rfl⟩
 obtain⟨f4,hf4⟩:∃f,Ca.fmd (bs.map Bc.b) room=f:=⟨_,rfl⟩
 obtain⟨r1,hr1⟩:∃f,zs.all (fun z=>decide (Ve.stand (Ve.cnt z.l) (Ve.cnt kn)=1))=f:=⟨_,rfl⟩
 obtain⟨r2,hr2⟩:∃f,hs.all hv=f:=⟨_,rfl⟩
 obtain⟨r3,hr3⟩:∃f,bs.all (fun z=>wa z.b)=f:=⟨_,rfl⟩
 rw[hf1,hf2,hf3,hf4,hr1,hr2,hr3]at hF
 rw[hf1]at c1
 rw[hf2]at c2
 rw[hf3]at c3
 rw[hf4]at c4
 rw[hr1]at HP1 HY1
 rw[hr2]at HP2 HY2
 rw[hr3]at HP3 HY3
 have C1:=Hd c1
 have C2:=Hd c2
 have C3:=Hd c3
 have C4:=Hd c4
 have C5:=Hd c5
 have C6:=Hd c6
 have HT:=Hd hF
 have b0:=below_new (Below.refl w.heap.size w) (.cells #[.slice K kn.length ck,.slice Z zs.length cz,.slice H hs.length ch,.slice B bs.length cb,.int .i64 room] 27)
 have V0:=Blk.new w 27 #[.slice K kn.length ck,.slice Z zs.length cz,.slice H hs.length ch,.slice B bs.length cb,.int .i64 room]
 obtain⟨W,hW⟩:∃W,w.alloc (.cells #[.slice K kn.length ck,.slice Z zs.length cz,.slice H hs.length ch,.slice B bs.length cb,.int .i64 room] 27)=W:=⟨_,rfl⟩
 rw[hW]at b0 V0
 have HW:=Hd hW
 obtain⟨g,hg⟩:∃g,w.heap.size=g:=⟨_,rfl⟩
 rw[hg]at V0
 have HV:=Hd V0
 have B0:=Hd b0
 have hl1:=hll.1
 have hl2:=hll.2.1
 have hl3:=hll.2.2
 clear hll c1 c2 c3 c4 c5 c6 hF hf1 hf2 hf3 hf4 hr1 hr2 hr3 b0 V0 hW
 go_enter Tryz.func16,Tryz.ntmps16
 go_upto_region 1 with (fail)
 rw[HW.out]
 clear HW
 have v0:=HV.out.cell (i:=0) rfl
 go_wp2_with fail
 refine(C1.out W B0.out).mono ?_
 rintro e w1 ⟨rfl,b1⟩
 have B1:=Hd (below_on B0.out b1)
 have V1:=Hd (HV.out.later b1)
 have v1:=V1.out.cell (i:=1) rfl
 clear b1 v0 B0 HV C1
 cases f1 with
 |false=>
  obtain rfl:t=false:=HT.out
  go_wp2
  go_ret
  exact⟨rfl,B1.out⟩
 |true=>
 go_wp2_with fail
 refine(C2.out w1 B1.out).mono ?_
 rintro e w2 ⟨rfl,b2⟩
 have B2:=Hd (below_on B1.out b2)
 have V2:=Hd (V1.out.later b2)
 have v2:=V2.out.cell (i:=2) rfl
 clear b2 v1 B1 V1 C2
 cases f2 with
 |false=>
  obtain rfl:t=false:=HT.out
  go_wp2
  go_ret
  exact⟨rfl,B2.out⟩
 |true=>
 go_wp2_with fail
 refine(C3.out w2 B2.out).mono ?_
 rintro e w3 ⟨rfl,b3⟩
 have B3:=Hd (below_on B2.out b3)
 have V3:=Hd (V2.out.later b3)
 have v3:=V3.out.cell (i:=3) rfl
 have v4:=V3.out.cell (i:=4) rfl
 clear b3 v2 B2 V2 C3
 cases f3 with
 |false=>
  obtain rfl:t=false:=HT.out
  go_wp2
  go_ret
  exact⟨rfl,B3.out⟩
 |true=>
 go_wp2_with fail
 refine(C4.out w3 B3.out).mono ?_
 rintro e w4 ⟨rfl,b4⟩
 have B4:=Hd (below_on B3.out b4)
 have V4:=Hd (V3.out.later b4)
 clear b4 v3 v4 B3 V3 C4
 cases f4 with
 |false=>
  obtain rfl:t=false:=HT.out
  go_wp2
  go_ret
  exact⟨rfl,B4.out⟩
 |true=>
 have HT1:=Hd (show(r1&&(r2&&r3))=t from HT.out.symm)
 clear HT
 go_wp2_with fail
 go_loopw [3] (fun s3 wr=>∃k:Nat,k≤zs.length∧s3 = .int .i64 (k:Int)∧(∀(j:Nat) xe,j<k→zs[j]?=some xe→(decide (Ve.stand (Ve.cnt xe.l) (Ve.cnt kn)=1))=true)∧Below w4.heap.size w4 wr) (fun s3 _=>zs.length-(intOf s3).toNat)
 case atStart=>exact⟨0,Nat.zero_le _,rfl,(fun j xe hj=>by omega),Below.refl _ _⟩
 case round=>
  obtain⟨k,hk,rfl,hall,hbw⟩:=hrel
  have hv0:=V4.out.later hbw
  have v0:=hv0.cell (i:=0) rfl
  have v1:=hv0.cell (i:=1) rfl
  have hbb:=below_on B4.out hbw
  by_cases hlt:k<zs.length
  ·have hi0:(0:Int)≤(k:Int):=by omega
   have hi1:(k:Int)<(zs.length:Int):=by omega
   obtain⟨b,off,hA,hcs⟩:=(HQ.out wr hbb).z.at (fun e=>by rw[show zs=[] from e]at hlt;exact absurd hlt (Nat.not_lt_zero _))
   obtain⟨xe,hx⟩:∃xe,zs[k]?=some xe:=⟨_,List.getElem?_eq_getElem hlt⟩
   have HE:=Hd (hcs k xe hx)
   obtain⟨sd,hsd⟩:∃sd,Ve.stand (Ve.cnt xe.l) (Ve.cnt kn)=sd:=⟨_,rfl⟩
   have NC:=Hd (fun w' (hb:Below wr.heap.size wr w')=>show Calls Tryz.prog 57 #[.slice xe.X xe.l.length xe.c,.slice K kn.length ck] w' (Says (.int .i64 sd) w') from by
    have q1:OneL w' xe.X xe.c xe.l:=((HQ.out wr hbb).z.one hx).later hb
    have q2:OneL w' K ck kn:=(HQ.out w' (below_on hbb hb)).k
    rw[←hsd]
    exact rcompare2_any xe.X K xe.c ck xe.l kn w' q1.len q2.len q1.stamps q2.stamps)
   have hpp:=HP1.out k xe hx
   rw[hsd]at hpp
   have hqq:∀(j:Nat) y,j<k+1→zs[j]?=some y→sd=1→decide (Ve.stand (Ve.cnt y.l) (Ve.cnt kn)=1)=true:=fun j y hj hy h1=>by
    rcases Nat.lt_or_ge j k with h2|h2
    ·exact hall j y h2 hy
    ·obtain rfl:j=k:=by omega
     rw[hx]at hy
     injection hy with hy
     subst hy
     rw[hsd,h1]
     rfl
   have HPP:=Hd hpp
   have HQQ:=Hd hqq
   have BW:=Hd hbw
   have BB:=Hd hbb
   subst hA
   clear hv0 hbb hbw hall hcs hsd hpp hqq hx
   by_cases hs1:sd=1
   ·have HQ1:=Hd (fun j y h1 h2=>HQQ.out j y h1 h2 hs1)
    subst hs1
    clear HQQ HPP
    go_upto_region 6 with (fail)
    refine wp_region_facts 9 (by kernel_rfl) (by kernel_rfl)
     (fun v=>{ tmps:=#[.agg #[.slice K kn.length ck,.slice (some ⟨b,off,none⟩) zs.length cz,.slice H hs.length ch,.slice B bs.length cb,.int .i64 room],.pointer (some ⟨g,0,none⟩),u2,.int .i64 (k:Int),undef,undef,.pointer (some ⟨g,0,none⟩),.slice K kn.length ck,.bool true,.bool false,.bool false,.pointer (some ⟨g,1,none⟩),.slice (some ⟨b,off,none⟩) zs.length cz,.bool true,.bool false,.bool false,.bool false,.pointer (some ⟨g,2,none⟩),.slice H hs.length ch,.bool true,.bool false,.bool false,.bool false,.pointer (some ⟨g,3,none⟩),.slice B bs.length cb,.pointer (some ⟨g,4,none⟩),.int .i64 room,.bool true,.bool false,.bool false,.int .i64 (k:Int),.pointer (some ⟨g,1,none⟩),.slice (some ⟨b,off,none⟩) zs.length cz,.int .i64 (zs.length:Int),.bool true,u35,u36,v 0,v 1,v 2,v 3,v 4,v 5,v 6,v 7,v 8,u46,undef,undef,undef,undef,undef,undef,undef,undef,undef,undef,undef,undef,undef,undef,undef,undef,undef,undef,undef,undef,undef,undef,undef,undef,undef,undef,undef,undef,undef,undef],defers:=[] }) (fun i=>match i with|0=>u37|1=>u38|2=>u39|3=>u40|4=>u41|5=>u42|6=>u43|7=>u44|8=>u45|_=>undef)
     (fun i x wx=>match i with
      |0=>x = .pointer (some ⟨g,1,none⟩)
      |1=>x = .slice (some ⟨b,off,none⟩) zs.length cz
      |2=>x = .int .i64 (k:Int)
      |3=>x = .pointer (some ⟨b,off+k*3,none⟩)
      |4=>x = .pointer (some ⟨b,off+k*3+2,none⟩)
      |5=>x = .slice xe.X xe.l.length xe.c
      |6=>x = .pointer (some ⟨g,0,none⟩)
      |7=>x = .slice K kn.length ck
      |8=>x = .int .i64 1
      |_=>True)
     (fun w1 w2=>Below w1.heap.size w1 w2) (fun h1 h2=>below_on h1 h2) (fun _=>Below.refl _ _) (Below.drew (Below.refl _ _)) ?stabA ?stepA ?doneA
    case stabA=>
     rintro i x w1 w2 h hb
     match i,h with
     |0,h=>exact h
     |1,h=>exact h
     |2,h=>exact h
     |3,h=>exact h
     |4,h=>exact h
     |5,h=>exact h
     |6,h=>exact h
     |7,h=>exact h
     |8,h=>exact h
     |i+9,_=>trivial
    case stepA=>
     intro i hi v w' hb hd
     match i,hi with
     |0,_=>
      refine wpOp_oneH rfl fun KK HKK =>?_
      clear hd
      go_wp2
      exact HKK.out _ _ ⟨_,(by simp[upd];done),Below.refl _ _,rfl⟩
     |1,_=>
      have h0:v 0=_:=hdx hd 0 (by kernel_rfl)
      refine wpOp_oneH rfl fun KK HKK =>?_
      clear hd
      rw[h0]
      have q0:=cell_later hb v1
      go_wp2
      exact HKK.out _ _ ⟨_,(by simp[upd,h0];done),Below.refl _ _,rfl⟩
     |2,_=>
      refine wpOp_oneH rfl fun KK HKK =>?_
      clear hd
      go_wp2
      exact HKK.out _ _ ⟨_,(by simp[upd];done),Below.refl _ _,rfl⟩
     |3,_=>
      have h1:v 1=_:=hdx hd 1 (by kernel_rfl)
      have h2:v 2=_:=hdx hd 2 (by kernel_rfl)
      refine wpOp_oneH rfl fun KK HKK =>?_
      clear hd
      rw[h1,h2]
      go_wp2
      exact HKK.out _ _ ⟨_,(by simp[upd,h1,h2];done),Below.refl _ _,rfl⟩
     |4,_=>
      have h3:v 3=_:=hdx hd 3 (by kernel_rfl)
      refine wpOp_oneH rfl fun KK HKK =>?_
      clear hd
      rw[h3]
      go_wp2
      exact HKK.out _ _ ⟨_,(by simp[upd,h3];done),Below.refl _ _,rfl⟩
     |5,_=>
      have h4:v 4=_:=hdx hd 4 (by kernel_rfl)
      refine wpOp_oneH rfl fun KK HKK =>?_
      clear hd
      rw[h4]
      have q0:=cell_later hb HE.out.2.2
      go_wp2
      exact HKK.out _ _ ⟨_,(by simp[upd,h4];done),Below.refl _ _,rfl⟩
     |6,_=>
      refine wpOp_oneH rfl fun KK HKK =>?_
      clear hd
      go_wp2
      exact HKK.out _ _ ⟨_,(by simp[upd];done),Below.refl _ _,rfl⟩
     |7,_=>
      have h6:v 6=_:=hdx hd 6 (by kernel_rfl)
      refine wpOp_oneH rfl fun KK HKK =>?_
      clear hd
      rw[h6]
      have q0:=cell_later hb v0
      go_wp2
      exact HKK.out _ _ ⟨_,(by simp[upd,h6];done),Below.refl _ _,rfl⟩
     |8,_=>
      have h5:v 5=_:=hdx hd 5 (by kernel_rfl)
      have h7:v 7=_:=hdx hd 7 (by kernel_rfl)
      refine wpOp_oneH rfl fun KK HKK =>?_
      clear hd
      rw[h5,h7]
      go_wp2_with fail
      refine(NC.out _ hb).mono ?_
      rintro e w'' ⟨rfl,b⟩
      go_wp2
      exact HKK.out _ _ ⟨_,(by simp[upd,h5,h7];done),b,rfl⟩
     |k+9,hk=>exact absurd hk (by omega)
    case doneA=>
     intro v w5 hb hf
     have h8:v 8=_:=hf 8 (by decide)
     clear hf
     rw[h8]
     have BW2:=Hd (below_on BW.out hb)
     clear hb NC HE
     go_wp2_with fail
     go_roundw
     case rel=>exact⟨k+1,by omega,by go_num,HQ1.out,BW2.out⟩
     case measure=>simp[intOf];omega
   ·have hd1:(sd == 1)=false:=beq_eq_false_iff_ne.2 hs1
    have hd2:decide (sd=1)=false:=decide_eq_false hs1
    obtain rfl:r1=false:=HPP.out hd2
    obtain rfl:t=false:=HT1.out.symm
    clear HQQ HPP
    go_upto_region 6 with (fail)
    refine wp_region_facts 9 (by kernel_rfl) (by kernel_rfl)
     (fun v=>{ tmps:=#[.agg #[.slice K kn.length ck,.slice (some ⟨b,off,none⟩) zs.length cz,.slice H hs.length ch,.slice B bs.length cb,.int .i64 room],.pointer (some ⟨g,0,none⟩),u2,.int .i64 (k:Int),undef,undef,.pointer (some ⟨g,0,none⟩),.slice K kn.length ck,.bool true,.bool false,.bool false,.pointer (some ⟨g,1,none⟩),.slice (some ⟨b,off,none⟩) zs.length cz,.bool true,.bool false,.bool false,.bool false,.pointer (some ⟨g,2,none⟩),.slice H hs.length ch,.bool true,.bool false,.bool false,.bool false,.pointer (some ⟨g,3,none⟩),.slice B bs.length cb,.pointer (some ⟨g,4,none⟩),.int .i64 room,.bool true,.bool false,.bool false,.int .i64 (k:Int),.pointer (some ⟨g,1,none⟩),.slice (some ⟨b,off,none⟩) zs.length cz,.int .i64 (zs.length:Int),.bool true,u35,u36,v 0,v 1,v 2,v 3,v 4,v 5,v 6,v 7,v 8,u46,undef,undef,undef,undef,undef,undef,undef,undef,undef,undef,undef,undef,undef,undef,undef,undef,undef,undef,undef,undef,undef,undef,undef,undef,undef,undef,undef,undef,undef,undef],defers:=[] }) (fun i=>match i with|0=>u37|1=>u38|2=>u39|3=>u40|4=>u41|5=>u42|6=>u43|7=>u44|8=>u45|_=>undef)
     (fun i x wx=>match i with
      |0=>x = .pointer (some ⟨g,1,none⟩)
      |1=>x = .slice (some ⟨b,off,none⟩) zs.length cz
      |2=>x = .int .i64 (k:Int)
      |3=>x = .pointer (some ⟨b,off+k*3,none⟩)
      |4=>x = .pointer (some ⟨b,off+k*3+2,none⟩)
      |5=>x = .slice xe.X xe.l.length xe.c
      |6=>x = .pointer (some ⟨g,0,none⟩)
      |7=>x = .slice K kn.length ck
      |8=>x = .int .i64 sd
      |_=>True)
     (fun w1 w2=>Below w1.heap.size w1 w2) (fun h1 h2=>below_on h1 h2) (fun _=>Below.refl _ _) (Below.drew (Below.refl _ _)) ?stabB ?stepB ?doneB
    case stabB=>
     rintro i x w1 w2 h hb
     match i,h with
     |0,h=>exact h
     |1,h=>exact h
     |2,h=>exact h
     |3,h=>exact h
     |4,h=>exact h
     |5,h=>exact h
     |6,h=>exact h
     |7,h=>exact h
     |8,h=>exact h
     |i+9,_=>trivial
    case stepB=>
     intro i hi v w' hb hd
     match i,hi with
     |0,_=>
      refine wpOp_oneH rfl fun KK HKK =>?_
      clear hd
      go_wp2
      exact HKK.out _ _ ⟨_,(by simp[upd];done),Below.refl _ _,rfl⟩
     |1,_=>
      have h0:v 0=_:=hdx hd 0 (by kernel_rfl)
      refine wpOp_oneH rfl fun KK HKK =>?_
      clear hd
      rw[h0]
      have q0:=cell_later hb v1
      go_wp2
      exact HKK.out _ _ ⟨_,(by simp[upd,h0];done),Below.refl _ _,rfl⟩
     |2,_=>
      refine wpOp_oneH rfl fun KK HKK =>?_
      clear hd
      go_wp2
      exact HKK.out _ _ ⟨_,(by simp[upd];done),Below.refl _ _,rfl⟩
     |3,_=>
      have h1:v 1=_:=hdx hd 1 (by kernel_rfl)
      have h2:v 2=_:=hdx hd 2 (by kernel_rfl)
      refine wpOp_oneH rfl fun KK HKK =>?_
      clear hd
      rw[h1,h2]
      go_wp2
      exact HKK.out _ _ ⟨_,(by simp[upd,h1,h2];done),Below.refl _ _,rfl⟩
     |4,_=>
      have h3:v 3=_:=hdx hd 3 (by kernel_rfl)
      refine wpOp_oneH rfl fun KK HKK =>?_
      clear hd
      rw[h3]
      go_wp2
      exact HKK.out _ _ ⟨_,(by simp[upd,h3];done),Below.refl _ _,rfl⟩
     |5,_=>
      have h4:v 4=_:=hdx hd 4 (by kernel_rfl)
      refine wpOp_oneH rfl fun KK HKK =>?_
      clear hd
      rw[h4]
      have q0:=cell_later hb HE.out.2.2
      go_wp2
      exact HKK.out _ _ ⟨_,(by simp[upd,h4];done),Below.refl _ _,rfl⟩
     |6,_=>
      refine wpOp_oneH rfl fun KK HKK =>?_
      clear hd
      go_wp2
      exact HKK.out _ _ ⟨_,(by simp[upd];done),Below.refl _ _,rfl⟩
     |7,_=>
      have h6:v 6=_:=hdx hd 6 (by kernel_rfl)
      refine wpOp_oneH rfl fun KK HKK =>?_
      clear hd
      rw[h6]
      have q0:=cell_later hb v0
      go_wp2
      exact HKK.out _ _ ⟨_,(by simp[upd,h6];done),Below.refl _ _,rfl⟩
     |8,_=>
      have h5:v 5=_:=hdx hd 5 (by kernel_rfl)
      have h7:v 7=_:=hdx hd 7 (by kernel_rfl)
      refine wpOp_oneH rfl fun KK HKK =>?_
      clear hd
      rw[h5,h7]
      go_wp2_with fail
      refine(NC.out _ hb).mono ?_
      rintro e w'' ⟨rfl,b⟩
      go_wp2
      exact HKK.out _ _ ⟨_,(by simp[upd,h5,h7];done),b,rfl⟩
     |k+9,hk=>exact absurd hk (by omega)
    case doneB=>
     intro v w5 hb hf
     have h8:v 8=_:=hf 8 (by decide)
     clear hf
     rw[h8]
     have BB2:=Hd (below_on BB.out hb)
     clear hb NC HE
     go_wp2
     go_ret
     exact⟨rfl,BB2.out⟩
  obtain rfl:k=zs.length:=by omega
  have hd0:decide ((zs.length:Int)<(zs.length:Int))=false:=decide_eq_false (by omega)
  obtain rfl:r1=true:=HY1.out (fun j xe hx=>hall j xe (by have:=(List.getElem?_eq_some_iff.1 hx).1;omega) hx)
  have B5:=Hd hbb
  have V5:=Hd hv0
  have HT2:=Hd (show(r2&&r3)=t from HT1.out)
  clear HT1
  have HT1:=HT2
  clear HT2 hall hbw hbb hv0 B4 V4 HY1 HP1
  rename World=>w5
  go_wp2_with fail
  clear v0 v1 hd0 hlt hk
  go_loopw [4] (fun s4 wr=>∃k:Nat,k≤hs.length∧s4 = .int .i64 (k:Int)∧(∀(j:Nat) xe,j<k→hs[j]?=some xe→(hv xe)=true)∧Below w5.heap.size w5 wr) (fun s4 _=>hs.length-(intOf s4).toNat)
  case atStart=>exact⟨0,Nat.zero_le _,rfl,(fun j xe hj=>by omega),Below.refl _ _⟩
  case round=>
   obtain⟨k,hk,rfl,hall,hbw⟩:=hrel
   have hv0:=V5.out.later hbw
   have v0:=hv0.cell (i:=0) rfl
   have v1:=hv0.cell (i:=1) rfl
   have v2:=hv0.cell (i:=2) rfl
   have v3:=hv0.cell (i:=3) rfl
   have v4:=hv0.cell (i:=4) rfl
   have hbb:=below_on B5.out hbw
   by_cases hlt:k<hs.length
   ·have hi0:(0:Int)≤(k:Int):=by omega
    have hi1:(k:Int)<(hs.length:Int):=by omega
    obtain⟨b,off,hA,hcs⟩:=(HQ.out wr hbb).h.at (fun e=>by rw[show hs=[] from e]at hlt;exact absurd hlt (Nat.not_lt_zero _))
    obtain⟨xe,hxx⟩:∃xe,hs.getD k Nt.zeroW=xe:=⟨_,rfl⟩
    have hx:hs[k]?=some xe:=by
     rw[←hxx,List.getD_eq_getElem?_getD,List.getElem?_eq_getElem hlt]
     rfl
    have hcx:=hcs k hlt
    dsimp only at hcx
    rw[hxx]at hcx
    have HE:=Hd hcx
    obtain⟨sd,hsd⟩:∃sd,hv xe=sd:=⟨_,rfl⟩
    have NC:=Hd (fun w' (hb:Below wr.heap.size wr w')=>show Calls Tryz.prog 58 #[.agg #[.slice K kn.length ck,.slice Z zs.length cz,.slice H hs.length ch,.slice B bs.length cb,.int .i64 room],.agg #[.int .i64 xe.1,.int .i64 xe.2.1,.int .i64 xe.2.2.1,.bool xe.2.2.2]] w' (Says (.bool sd) w') from by
     rw[←hsd]
     exact C5.out w' (below_on hbb hb) xe)
    have hpp:=HP2.out k xe hx
    rw[show(hv xe)=sd from hsd]at hpp
    have hqq:∀(j:Nat) y,j<k+1→hs[j]?=some y→sd=true→(hv y)=true:=fun j y hj hy h1=>by
     rcases Nat.lt_or_ge j k with h2|h2
     ·exact hall j y h2 hy
     ·obtain rfl:j=k:=by omega
      rw[hx]at hy
      injection hy with hy
      subst hy
      exact hsd.trans h1
    have HPP:=Hd hpp
    have HQQ:=Hd hqq
    have BW:=Hd hbw
    have BB:=Hd hbb
    subst hA
    clear hv0 hbb hbw hall hcs hcx hxx hsd hpp hqq hx
    cases sd with
    |true=>
     have HQ1:=Hd (fun j y h1 h2=>HQQ.out j y h1 h2 rfl)
     clear HQQ HPP
     go_upto_region 11 with (fail)
     refine wp_region_facts 7 (by kernel_rfl) (by kernel_rfl)
      (fun v=>{ tmps:=#[.agg #[.slice K kn.length ck,.slice Z zs.length cz,.slice (some ⟨b,off,none⟩) hs.length ch,.slice B bs.length cb,.int .i64 room],.pointer (some ⟨g,0,none⟩),u2,.int .i64 (zs.length:Int),.int .i64 (k:Int),undef,.pointer (some ⟨g,0,none⟩),.slice K kn.length ck,.bool true,.bool false,.bool false,.pointer (some ⟨g,1,none⟩),.slice Z zs.length cz,.bool true,.bool false,.bool false,.bool false,.pointer (some ⟨g,2,none⟩),.slice (some ⟨b,off,none⟩) hs.length ch,.bool true,.bool false,.bool false,.bool false,.pointer (some ⟨g,3,none⟩),.slice B bs.length cb,.pointer (some ⟨g,4,none⟩),.int .i64 room,.bool true,.bool false,.bool false,.int .i64 (zs.length:Int),.pointer (some ⟨g,1,none⟩),.slice Z zs.length cz,.int .i64 (zs.length:Int),.bool false,u35,u36,u37,u38,u39,u40,u41,u42,u43,u44,u45,u46,.int .i64 (k:Int),.pointer (some ⟨g,2,none⟩),.slice (some ⟨b,off,none⟩) hs.length ch,.int .i64 (hs.length:Int),.bool true,u52,u53,v 0,v 1,v 2,v 3,v 4,v 5,v 6,u61,undef,undef,undef,undef,undef,undef,undef,undef,undef,undef,undef,undef,undef,undef,undef],defers:=[] }) (fun i=>match i with|0=>u54|1=>u55|2=>u56|3=>u57|4=>u58|5=>u59|6=>u60|_=>undef)
      (fun i x wx=>match i with
       |0=>x = .agg #[.slice K kn.length ck,.slice Z zs.length cz,.slice (some ⟨b,off,none⟩) hs.length ch,.slice B bs.length cb,.int .i64 room]
       |1=>x = .pointer (some ⟨g,2,none⟩)
       |2=>x = .slice (some ⟨b,off,none⟩) hs.length ch
       |3=>x = .int .i64 (k:Int)
       |4=>x = .pointer (some ⟨b,off+k*4,none⟩)
       |5=>x = .agg #[.int .i64 xe.1,.int .i64 xe.2.1,.int .i64 xe.2.2.1,.bool xe.2.2.2]
       |6=>x = .bool true
       |_=>True)
      (fun w1 w2=>Below w1.heap.size w1 w2) (fun h1 h2=>below_on h1 h2) (fun _=>Below.refl _ _) (Below.drew (Below.refl _ _)) ?stabC ?stepC ?doneC
     case stabC=>
      rintro i x w1 w2 h hb
      match i,h with
      |0,h=>exact h
      |1,h=>exact h
      |2,h=>exact h
      |3,h=>exact h
      |4,h=>exact h
      |5,h=>exact h
      |6,h=>exact h
      |i+7,_=>trivial
     case stepC=>
      intro i hi v w' hb hd
      match i,hi with
      |0,_=>
       refine wpOp_oneH rfl fun KK HKK =>?_
       clear hd
       have q0:=cell_later hb v0
       have q1:=cell_later hb v1
       have q2:=cell_later hb v2
       have q3:=cell_later hb v3
       have q4:=cell_later hb v4
       go_wp2
       exact HKK.out _ _ ⟨_,(by simp[upd];done),Below.refl _ _,rfl⟩
      |1,_=>
       refine wpOp_oneH rfl fun KK HKK =>?_
       clear hd
       go_wp2
       exact HKK.out _ _ ⟨_,(by simp[upd];done),Below.refl _ _,rfl⟩
      |2,_=>
       have h1:v 1=_:=hdx hd 1 (by kernel_rfl)
       refine wpOp_oneH rfl fun KK HKK =>?_
       clear hd
       rw[h1]
       have q0:=cell_later hb v2
       go_wp2
       exact HKK.out _ _ ⟨_,(by simp[upd,h1];done),Below.refl _ _,rfl⟩
      |3,_=>
       refine wpOp_oneH rfl fun KK HKK =>?_
       clear hd
       go_wp2
       exact HKK.out _ _ ⟨_,(by simp[upd];done),Below.refl _ _,rfl⟩
      |4,_=>
       have h2:v 2=_:=hdx hd 2 (by kernel_rfl)
       have h3:v 3=_:=hdx hd 3 (by kernel_rfl)
       refine wpOp_oneH rfl fun KK HKK =>?_
       clear hd
       rw[h2,h3]
       go_wp2
       exact HKK.out _ _ ⟨_,(by simp[upd,h2,h3];done),Below.refl _ _,rfl⟩
      |5,_=>
       have h4:v 4=_:=hdx hd 4 (by kernel_rfl)
       refine wpOp_oneH rfl fun KK HKK =>?_
       clear hd
       rw[h4]
       have q0:=cell_later hb HE.out.1
       have q1:=cell_later hb HE.out.2.1
       have q2:=cell_later hb HE.out.2.2.1
       have q3:=cell_later hb HE.out.2.2.2
       go_wp2
       exact HKK.out _ _ ⟨_,(by simp[upd,h4];done),Below.refl _ _,rfl⟩
      |6,_=>
       have h0:v 0=_:=hdx hd 0 (by kernel_rfl)
       have h5:v 5=_:=hdx hd 5 (by kernel_rfl)
       refine wpOp_oneH rfl fun KK HKK =>?_
       clear hd
       rw[h0,h5]
       go_wp2_with fail
       refine(NC.out _ hb).mono ?_
       rintro e w'' ⟨rfl,b⟩
       go_wp2
       exact HKK.out _ _ ⟨_,(by simp[upd,h0,h5];done),b,rfl⟩
      |k+7,hk=>exact absurd hk (by omega)
     case doneC=>
      intro v w5 hb hf
      have h6:v 6=_:=hf 6 (by decide)
      clear hf
      rw[h6]
      have BW2:=Hd (below_on BW.out hb)
      clear hb NC HE
      go_wp2_with fail
      go_roundw
      case rel=>exact⟨k+1,by omega,by go_num,HQ1.out,BW2.out⟩
      case measure=>simp[intOf];omega
    |false=>
     obtain rfl:r2=false:=HPP.out rfl
     obtain rfl:t=false:=HT1.out.symm
     clear HQQ HPP
     go_upto_region 11 with (fail)
     refine wp_region_facts 7 (by kernel_rfl) (by kernel_rfl)
      (fun v=>{ tmps:=#[.agg #[.slice K kn.length ck,.slice Z zs.length cz,.slice (some ⟨b,off,none⟩) hs.length ch,.slice B bs.length cb,.int .i64 room],.pointer (some ⟨g,0,none⟩),u2,.int .i64 (zs.length:Int),.int .i64 (k:Int),undef,.pointer (some ⟨g,0,none⟩),.slice K kn.length ck,.bool true,.bool false,.bool false,.pointer (some ⟨g,1,none⟩),.slice Z zs.length cz,.bool true,.bool false,.bool false,.bool false,.pointer (some ⟨g,2,none⟩),.slice (some ⟨b,off,none⟩) hs.length ch,.bool true,.bool false,.bool false,.bool false,.pointer (some ⟨g,3,none⟩),.slice B bs.length cb,.pointer (some ⟨g,4,none⟩),.int .i64 room,.bool true,.bool false,.bool false,.int .i64 (zs.length:Int),.pointer (some ⟨g,1,none⟩),.slice Z zs.length cz,.int .i64 (zs.length:Int),.bool false,u35,u36,u37,u38,u39,u40,u41,u42,u43,u44,u45,u46,.int .i64 (k:Int),.pointer (some ⟨g,2,none⟩),.slice (some ⟨b,off,none⟩) hs.length ch,.int .i64 (hs.length:Int),.bool true,u52,u53,v 0,v 1,v 2,v 3,v 4,v 5,v 6,u61,undef,undef,undef,undef,undef,undef,undef,undef,undef,undef,undef,undef,undef,undef,undef],defers:=[] }) (fun i=>match i with|0=>u54|1=>u55|2=>u56|3=>u57|4=>u58|5=>u59|6=>u60|_=>undef)
      (fun i x wx=>match i with
       |0=>x = .agg #[.slice K kn.length ck,.slice Z zs.length cz,.slice (some ⟨b,off,none⟩) hs.length ch,.slice B bs.length cb,.int .i64 room]
       |1=>x = .pointer (some ⟨g,2,none⟩)
       |2=>x = .slice (some ⟨b,off,none⟩) hs.length ch
       |3=>x = .int .i64 (k:Int)
       |4=>x = .pointer (some ⟨b,off+k*4,none⟩)
       |5=>x = .agg #[.int .i64 xe.1,.int .i64 xe.2.1,.int .i64 xe.2.2.1,.bool xe.2.2.2]
       |6=>x = .bool false
       |_=>True)
      (fun w1 w2=>Below w1.heap.size w1 w2) (fun h1 h2=>below_on h1 h2) (fun _=>Below.refl _ _) (Below.drew (Below.refl _ _)) ?stabD ?stepD ?doneD
     case stabD=>
      rintro i x w1 w2 h hb
      match i,h with
      |0,h=>exact h
      |1,h=>exact h
      |2,h=>exact h
      |3,h=>exact h
      |4,h=>exact h
      |5,h=>exact h
      |6,h=>exact h
      |i+7,_=>trivial
     case stepD=>
      intro i hi v w' hb hd
      match i,hi with
      |0,_=>
       refine wpOp_oneH rfl fun KK HKK =>?_
       clear hd
       have q0:=cell_later hb v0
       have q1:=cell_later hb v1
       have q2:=cell_later hb v2
       have q3:=cell_later hb v3
       have q4:=cell_later hb v4
       go_wp2
       exact HKK.out _ _ ⟨_,(by simp[upd];done),Below.refl _ _,rfl⟩
      |1,_=>
       refine wpOp_oneH rfl fun KK HKK =>?_
       clear hd
       go_wp2
       exact HKK.out _ _ ⟨_,(by simp[upd];done),Below.refl _ _,rfl⟩
      |2,_=>
       have h1:v 1=_:=hdx hd 1 (by kernel_rfl)
       refine wpOp_oneH rfl fun KK HKK =>?_
       clear hd
       rw[h1]
       have q0:=cell_later hb v2
       go_wp2
       exact HKK.out _ _ ⟨_,(by simp[upd,h1];done),Below.refl _ _,rfl⟩
      |3,_=>
       refine wpOp_oneH rfl fun KK HKK =>?_
       clear hd
       go_wp2
       exact HKK.out _ _ ⟨_,(by simp[upd];done),Below.refl _ _,rfl⟩
      |4,_=>
       have h2:v 2=_:=hdx hd 2 (by kernel_rfl)
       have h3:v 3=_:=hdx hd 3 (by kernel_rfl)
       refine wpOp_oneH rfl fun KK HKK =>?_
       clear hd
       rw[h2,h3]
       go_wp2
       exact HKK.out _ _ ⟨_,(by simp[upd,h2,h3];done),Below.refl _ _,rfl⟩
      |5,_=>
       have h4:v 4=_:=hdx hd 4 (by kernel_rfl)
       refine wpOp_oneH rfl fun KK HKK =>?_
       clear hd
       rw[h4]
       have q0:=cell_later hb HE.out.1
       have q1:=cell_later hb HE.out.2.1
       have q2:=cell_later hb HE.out.2.2.1
       have q3:=cell_later hb HE.out.2.2.2
       go_wp2
       exact HKK.out _ _ ⟨_,(by simp[upd,h4];done),Below.refl _ _,rfl⟩
      |6,_=>
       have h0:v 0=_:=hdx hd 0 (by kernel_rfl)
       have h5:v 5=_:=hdx hd 5 (by kernel_rfl)
       refine wpOp_oneH rfl fun KK HKK =>?_
       clear hd
       rw[h0,h5]
       go_wp2_with fail
       refine(NC.out _ hb).mono ?_
       rintro e w'' ⟨rfl,b⟩
       go_wp2
       exact HKK.out _ _ ⟨_,(by simp[upd,h0,h5];done),b,rfl⟩
      |k+7,hk=>exact absurd hk (by omega)
     case doneD=>
      intro v w5 hb hf
      have h6:v 6=_:=hf 6 (by decide)
      clear hf
      rw[h6]
      have BB2:=Hd (below_on BB.out hb)
      clear hb NC HE
      go_wp2
      go_ret
      exact⟨rfl,BB2.out⟩
   obtain rfl:k=hs.length:=by omega
   have hd0:decide ((hs.length:Int)<(hs.length:Int))=false:=decide_eq_false (by omega)
   obtain rfl:r2=true:=HY2.out (fun j xe hx=>hall j xe (by have:=(List.getElem?_eq_some_iff.1 hx).1;omega) hx)
   have B6:=Hd hbb
   have V6:=Hd hv0
   have HT2:=Hd (show(r3)=t from HT1.out)
   clear HT1
   have HT1:=HT2
   clear HT2 hall hbw hbb hv0 B5 V5 HY2 HP2
   rename World=>w6
   go_wp2_with fail
   clear v0 v1 v2 v3 v4 hd0 hlt hk
   go_loopw [5] (fun s5 wr=>∃k:Nat,k≤bs.length∧s5 = .int .i64 (k:Int)∧(∀(j:Nat) xe,j<k→bs[j]?=some xe→(wa xe.b)=true)∧Below w6.heap.size w6 wr) (fun s5 _=>bs.length-(intOf s5).toNat)
   case atStart=>exact⟨0,Nat.zero_le _,rfl,(fun j xe hj=>by omega),Below.refl _ _⟩
   case round=>
    obtain⟨k,hk,rfl,hall,hbw⟩:=hrel
    have hv0:=V6.out.later hbw
    have v0:=hv0.cell (i:=0) rfl
    have v1:=hv0.cell (i:=1) rfl
    have v2:=hv0.cell (i:=2) rfl
    have v3:=hv0.cell (i:=3) rfl
    have v4:=hv0.cell (i:=4) rfl
    have hbb:=below_on B6.out hbw
    by_cases hlt:k<bs.length
    ·have hi0:(0:Int)≤(k:Int):=by omega
     have hi1:(k:Int)<(bs.length:Int):=by omega
     obtain⟨b,off,hA,hcs⟩:=(HQ.out wr hbb).b.at (fun e=>by rw[show bs=[] from e]at hlt;exact absurd hlt (Nat.not_lt_zero _))
     obtain⟨xe,hxx⟩:∃xe,bs.getD k Bc.zero=xe:=⟨_,rfl⟩
     have hx:bs[k]?=some xe:=by
      rw[←hxx,List.getD_eq_getElem?_getD,List.getElem?_eq_getElem hlt]
      rfl
     have hcx:=hcs k hlt
     dsimp only at hcx
     rw[hxx]at hcx
     have HE:=Hd hcx
     obtain⟨sd,hsd⟩:∃sd,wa xe.b=sd:=⟨_,rfl⟩
     have NC:=Hd (fun w' (hb:Below wr.heap.size wr w')=>show Calls Tryz.prog 59 #[.agg #[.slice K kn.length ck,.slice Z zs.length cz,.slice H hs.length ch,.slice B bs.length cb,.int .i64 room],.agg #[.int .i64 xe.b.o,.int .i64 xe.b.c,.int .i64 xe.b.n,.slice xe.X xe.b.v.length xe.d]] w' (Says (.bool sd) w') from by
      rw[←hsd]
      exact C6.out w' (below_on hbb hb) xe.X xe.d xe.b)
     have hpp:=HP3.out k xe hx
     rw[show(wa xe.b)=sd from hsd]at hpp
     have hqq:∀(j:Nat) y,j<k+1→bs[j]?=some y→sd=true→(wa y.b)=true:=fun j y hj hy h1=>by
      rcases Nat.lt_or_ge j k with h2|h2
      ·exact hall j y h2 hy
      ·obtain rfl:j=k:=by omega
       rw[hx]at hy
       injection hy with hy
       subst hy
       exact hsd.trans h1
     have HPP:=Hd hpp
     have HQQ:=Hd hqq
     have BW:=Hd hbw
     have BB:=Hd hbb
     subst hA
     clear hv0 hbb hbw hall hcs hcx hxx hsd hpp hqq hx
     cases sd with
     |true=>
      have HQ1:=Hd (fun j y h1 h2=>HQQ.out j y h1 h2 rfl)
      clear HQQ HPP
      go_upto_region 16 with (fail)
      refine wp_region_facts 7 (by kernel_rfl) (by kernel_rfl)
       (fun v=>{ tmps:=#[.agg #[.slice K kn.length ck,.slice Z zs.length cz,.slice H hs.length ch,.slice (some ⟨b,off,none⟩) bs.length cb,.int .i64 room],.pointer (some ⟨g,0,none⟩),u2,.int .i64 (zs.length:Int),.int .i64 (hs.length:Int),.int .i64 (k:Int),.pointer (some ⟨g,0,none⟩),.slice K kn.length ck,.bool true,.bool false,.bool false,.pointer (some ⟨g,1,none⟩),.slice Z zs.length cz,.bool true,.bool false,.bool false,.bool false,.pointer (some ⟨g,2,none⟩),.slice H hs.length ch,.bool true,.bool false,.bool false,.bool false,.pointer (some ⟨g,3,none⟩),.slice (some ⟨b,off,none⟩) bs.length cb,.pointer (some ⟨g,4,none⟩),.int .i64 room,.bool true,.bool false,.bool false,.int .i64 (zs.length:Int),.pointer (some ⟨g,1,none⟩),.slice Z zs.length cz,.int .i64 (zs.length:Int),.bool false,u35,u36,u37,u38,u39,u40,u41,u42,u43,u44,u45,u46,.int .i64 (hs.length:Int),.pointer (some ⟨g,2,none⟩),.slice H hs.length ch,.int .i64 (hs.length:Int),.bool false,u52,u53,u54,u55,u56,u57,u58,u59,u60,u61,.int .i64 (k:Int),.pointer (some ⟨g,3,none⟩),.slice (some ⟨b,off,none⟩) bs.length cb,.int .i64 (bs.length:Int),.bool true,u67,u68,v 0,v 1,v 2,v 3,v 4,v 5,v 6,u76],defers:=[] }) (fun i=>match i with|0=>u69|1=>u70|2=>u71|3=>u72|4=>u73|5=>u74|6=>u75|_=>undef)
       (fun i x wx=>match i with
        |0=>x = .agg #[.slice K kn.length ck,.slice Z zs.length cz,.slice H hs.length ch,.slice (some ⟨b,off,none⟩) bs.length cb,.int .i64 room]
        |1=>x = .pointer (some ⟨g,3,none⟩)
        |2=>x = .slice (some ⟨b,off,none⟩) bs.length cb
        |3=>x = .int .i64 (k:Int)
        |4=>x = .pointer (some ⟨b,off+k*4,none⟩)
        |5=>x = .agg #[.int .i64 xe.b.o,.int .i64 xe.b.c,.int .i64 xe.b.n,.slice xe.X xe.b.v.length xe.d]
        |6=>x = .bool true
        |_=>True)
       (fun w1 w2=>Below w1.heap.size w1 w2) (fun h1 h2=>below_on h1 h2) (fun _=>Below.refl _ _) (Below.drew (Below.refl _ _)) ?stabE ?stepE ?doneE
      case stabE=>
       rintro i x w1 w2 h hb
       match i,h with
       |0,h=>exact h
       |1,h=>exact h
       |2,h=>exact h
       |3,h=>exact h
       |4,h=>exact h
       |5,h=>exact h
       |6,h=>exact h
       |i+7,_=>trivial
      case stepE=>
       intro i hi v w' hb hd
       match i,hi with
       |0,_=>
        refine wpOp_oneH rfl fun KK HKK =>?_
        clear hd
        have q0:=cell_later hb v0
        have q1:=cell_later hb v1
        have q2:=cell_later hb v2
        have q3:=cell_later hb v3
        have q4:=cell_later hb v4
        go_wp2
        exact HKK.out _ _ ⟨_,(by simp[upd];done),Below.refl _ _,rfl⟩
       |1,_=>
        refine wpOp_oneH rfl fun KK HKK =>?_
        clear hd
        go_wp2
        exact HKK.out _ _ ⟨_,(by simp[upd];done),Below.refl _ _,rfl⟩
       |2,_=>
        have h1:v 1=_:=hdx hd 1 (by kernel_rfl)
        refine wpOp_oneH rfl fun KK HKK =>?_
        clear hd
        rw[h1]
        have q0:=cell_later hb v3
        go_wp2
        exact HKK.out _ _ ⟨_,(by simp[upd,h1];done),Below.refl _ _,rfl⟩
       |3,_=>
        refine wpOp_oneH rfl fun KK HKK =>?_
        clear hd
        go_wp2
        exact HKK.out _ _ ⟨_,(by simp[upd];done),Below.refl _ _,rfl⟩
       |4,_=>
        have h2:v 2=_:=hdx hd 2 (by kernel_rfl)
        have h3:v 3=_:=hdx hd 3 (by kernel_rfl)
        refine wpOp_oneH rfl fun KK HKK =>?_
        clear hd
        rw[h2,h3]
        go_wp2
        exact HKK.out _ _ ⟨_,(by simp[upd,h2,h3];done),Below.refl _ _,rfl⟩
       |5,_=>
        have h4:v 4=_:=hdx hd 4 (by kernel_rfl)
        refine wpOp_oneH rfl fun KK HKK =>?_
        clear hd
        rw[h4]
        have q0:=cell_later hb HE.out.1
        have q1:=cell_later hb HE.out.2.1
        have q2:=cell_later hb HE.out.2.2.1
        have q3:=cell_later hb HE.out.2.2.2
        go_wp2
        exact HKK.out _ _ ⟨_,(by simp[upd,h4];done),Below.refl _ _,rfl⟩
       |6,_=>
        have h0:v 0=_:=hdx hd 0 (by kernel_rfl)
        have h5:v 5=_:=hdx hd 5 (by kernel_rfl)
        refine wpOp_oneH rfl fun KK HKK =>?_
        clear hd
        rw[h0,h5]
        go_wp2_with fail
        refine(NC.out _ hb).mono ?_
        rintro e w'' ⟨rfl,b⟩
        go_wp2
        exact HKK.out _ _ ⟨_,(by simp[upd,h0,h5];done),b,rfl⟩
       |k+7,hk=>exact absurd hk (by omega)
      case doneE=>
       intro v w5 hb hf
       have h6:v 6=_:=hf 6 (by decide)
       clear hf
       rw[h6]
       have BW2:=Hd (below_on BW.out hb)
       clear hb NC HE
       go_wp2_with fail
       go_roundw
       case rel=>exact⟨k+1,by omega,by go_num,HQ1.out,BW2.out⟩
       case measure=>simp[intOf];omega
     |false=>
      obtain rfl:r3=false:=HPP.out rfl
      obtain rfl:t=false:=HT1.out.symm
      clear HQQ HPP
      go_upto_region 16 with (fail)
      refine wp_region_facts 7 (by kernel_rfl) (by kernel_rfl)
       (fun v=>{ tmps:=#[.agg #[.slice K kn.length ck,.slice Z zs.length cz,.slice H hs.length ch,.slice (some ⟨b,off,none⟩) bs.length cb,.int .i64 room],.pointer (some ⟨g,0,none⟩),u2,.int .i64 (zs.length:Int),.int .i64 (hs.length:Int),.int .i64 (k:Int),.pointer (some ⟨g,0,none⟩),.slice K kn.length ck,.bool true,.bool false,.bool false,.pointer (some ⟨g,1,none⟩),.slice Z zs.length cz,.bool true,.bool false,.bool false,.bool false,.pointer (some ⟨g,2,none⟩),.slice H hs.length ch,.bool true,.bool false,.bool false,.bool false,.pointer (some ⟨g,3,none⟩),.slice (some ⟨b,off,none⟩) bs.length cb,.pointer (some ⟨g,4,none⟩),.int .i64 room,.bool true,.bool false,.bool false,.int .i64 (zs.length:Int),.pointer (some ⟨g,1,none⟩),.slice Z zs.length cz,.int .i64 (zs.length:Int),.bool false,u35,u36,u37,u38,u39,u40,u41,u42,u43,u44,u45,u46,.int .i64 (hs.length:Int),.pointer (some ⟨g,2,none⟩),.slice H hs.length ch,.int .i64 (hs.length:Int),.bool false,u52,u53,u54,u55,u56,u57,u58,u59,u60,u61,.int .i64 (k:Int),.pointer (some ⟨g,3,none⟩),.slice (some ⟨b,off,none⟩) bs.length cb,.int .i64 (bs.length:Int),.bool true,u67,u68,v 0,v 1,v 2,v 3,v 4,v 5,v 6,u76],defers:=[] }) (fun i=>match i with|0=>u69|1=>u70|2=>u71|3=>u72|4=>u73|5=>u74|6=>u75|_=>undef)
       (fun i x wx=>match i with
        |0=>x = .agg #[.slice K kn.length ck,.slice Z zs.length cz,.slice H hs.length ch,.slice (some ⟨b,off,none⟩) bs.length cb,.int .i64 room]
        |1=>x = .pointer (some ⟨g,3,none⟩)
        |2=>x = .slice (some ⟨b,off,none⟩) bs.length cb
        |3=>x = .int .i64 (k:Int)
        |4=>x = .pointer (some ⟨b,off+k*4,none⟩)
        |5=>x = .agg #[.int .i64 xe.b.o,.int .i64 xe.b.c,.int .i64 xe.b.n,.slice xe.X xe.b.v.length xe.d]
        |6=>x = .bool false
        |_=>True)
       (fun w1 w2=>Below w1.heap.size w1 w2) (fun h1 h2=>below_on h1 h2) (fun _=>Below.refl _ _) (Below.drew (Below.refl _ _)) ?stabF ?stepF ?doneF
      case stabF=>
       rintro i x w1 w2 h hb
       match i,h with
       |0,h=>exact h
       |1,h=>exact h
       |2,h=>exact h
       |3,h=>exact h
       |4,h=>exact h
       |5,h=>exact h
       |6,h=>exact h
       |i+7,_=>trivial
      case stepF=>
       intro i hi v w' hb hd
       match i,hi with
       |0,_=>
        refine wpOp_oneH rfl fun KK HKK =>?_
        clear hd
        have q0:=cell_later hb v0
        have q1:=cell_later hb v1
        have q2:=cell_later hb v2
        have q3:=cell_later hb v3
        have q4:=cell_later hb v4
        go_wp2
        exact HKK.out _ _ ⟨_,(by simp[upd];done),Below.refl _ _,rfl⟩
       |1,_=>
        refine wpOp_oneH rfl fun KK HKK =>?_
        clear hd
        go_wp2
        exact HKK.out _ _ ⟨_,(by simp[upd];done),Below.refl _ _,rfl⟩
       |2,_=>
        have h1:v 1=_:=hdx hd 1 (by kernel_rfl)
        refine wpOp_oneH rfl fun KK HKK =>?_
        clear hd
        rw[h1]
        have q0:=cell_later hb v3
        go_wp2
        exact HKK.out _ _ ⟨_,(by simp[upd,h1];done),Below.refl _ _,rfl⟩
       |3,_=>
        refine wpOp_oneH rfl fun KK HKK =>?_
        clear hd
        go_wp2
        exact HKK.out _ _ ⟨_,(by simp[upd];done),Below.refl _ _,rfl⟩
       |4,_=>
        have h2:v 2=_:=hdx hd 2 (by kernel_rfl)
        have h3:v 3=_:=hdx hd 3 (by kernel_rfl)
        refine wpOp_oneH rfl fun KK HKK =>?_
        clear hd
        rw[h2,h3]
        go_wp2
        exact HKK.out _ _ ⟨_,(by simp[upd,h2,h3];done),Below.refl _ _,rfl⟩
       |5,_=>
        have h4:v 4=_:=hdx hd 4 (by kernel_rfl)
        refine wpOp_oneH rfl fun KK HKK =>?_
        clear hd
        rw[h4]
        have q0:=cell_later hb HE.out.1
        have q1:=cell_later hb HE.out.2.1
        have q2:=cell_later hb HE.out.2.2.1
        have q3:=cell_later hb HE.out.2.2.2
        go_wp2
        exact HKK.out _ _ ⟨_,(by simp[upd,h4];done),Below.refl _ _,rfl⟩
       |6,_=>
        have h0:v 0=_:=hdx hd 0 (by kernel_rfl)
        have h5:v 5=_:=hdx hd 5 (by kernel_rfl)
        refine wpOp_oneH rfl fun KK HKK =>?_
        clear hd
        rw[h0,h5]
        go_wp2_with fail
        refine(NC.out _ hb).mono ?_
        rintro e w'' ⟨rfl,b⟩
        go_wp2
        exact HKK.out _ _ ⟨_,(by simp[upd,h0,h5];done),b,rfl⟩
       |k+7,hk=>exact absurd hk (by omega)
      case doneF=>
       intro v w5 hb hf
       have h6:v 6=_:=hf 6 (by decide)
       clear hf
       rw[h6]
       have BB2:=Hd (below_on BB.out hb)
       clear hb NC HE
       go_wp2
       go_ret
       exact⟨rfl,BB2.out⟩
    obtain rfl:k=bs.length:=by omega
    have hd0:decide ((bs.length:Int)<(bs.length:Int))=false:=decide_eq_false (by omega)
    obtain rfl:r3=true:=HY3.out (fun j xe hx=>hall j xe (by have:=(List.getElem?_eq_some_iff.1 hx).1;omega) hx)
    obtain rfl:t=true:=HT1.out.symm
    have BB:=Hd hbb
    clear hall hbw hbb hv0
    go_wp2
    go_ret
    exact⟨rfl,BB.out⟩
set_option maxRecDepth 100000 in
set_option maxHeartbeats 6400000 in
theorem vread_any(q:Vl)(o:Int)(w:World)(h:VwAt w q):Calls Tryz.prog 28 #[.agg (vwCells q),.int .i64 o] w (GivesRd (Vw.readR q.vw o).1 (Vw.readR q.vw o).2.1 (Vw.readR q.vw o).2.2 w):=by
 have hR:Vw.readR q.vw o=if Vw.fmd q.vw=true∧0≤o∧o≤255 then
  (if (Tr.at_ (q.z.map Zc.zn) o).isSome=true then ([],Nt.zeroW,9)
   else if (Nt.at_ q.h o).2=false then ([],Nt.zeroW,8)
   else if (Nt.at_ q.h o).1.2.2.2=true then ([],(Nt.at_ q.h o).1,0)
   else ((Ca.getR (q.b.map Bc.b) o (Nt.at_ q.h o).1.1 (Nt.at_ q.h o).1.2.1).1,(Nt.at_ q.h o).1,(Ca.getR (q.b.map Bc.b) o (Nt.at_ q.h o).1.1 (Nt.at_ q.h o).1.2.1).2))
  else ([],Nt.zeroW,1):=rfl
 have hby:=getR_byte (l:=q.b.map Bc.b) (by
  intro x hx
  obtain⟨z,hz,rfl⟩:=List.mem_map.1 hx
  exact(h.b.each z hz).byte) o (Nt.at_ q.h o).1.1 (Nt.at_ q.h o).1.2.1
 have hF:=fun wx (hb:Below w.heap.size w wx)=>vformed_any q wx (h.later hb)
 have hB:=fun wx (hb:Below w.heap.size w wx)=>zblurred_any q.Z q.cz q.z wx (h.later hb).z
 have hI:=fun (hf:Vw.fmd q.vw=true) (ho:0≤o∧o≤255)=>show inOf (Tr.blr (q.z.map Zc.zn)) o=(Tr.at_ (q.z.map Zc.zn) o).isSome from Vw.blr_is hf ho
 have hN:=fun wx (hb:Below w.heap.size w wx)=>nat_any q.H q.ch q.h o wx (h.later hb).h
 have hG:=fun (hf:Vw.fmd q.vw=true) wx (hb:Below w.heap.size w wx)=>cget_any q.B q.cb q.b o (Nt.at_ q.h o).1.1 (Nt.at_ q.h o).1.2.1 wx (h.later hb).b (fmd_fits (Vw.fmd_b hf))
 obtain⟨⟨rb,rw_,re⟩,hRR⟩:∃p,Vw.readR q.vw o=p:=⟨_,rfl⟩
 rw[hRR]
 rw[hRR]at hR
 clear hRR h
 obtain⟨⟨⟨a0,a1,a2,a3⟩,ok⟩,hp⟩:∃p,Nt.at_ q.h o=p:=⟨_,rfl⟩
 rw[hp]at hN hG hby hR
 obtain⟨fm,hfm⟩:∃f,Vw.fmd q.vw=f:=⟨_,rfl⟩
 rw[hfm]at hF hG hR hI
 obtain⟨ib,hib⟩:∃f,(Tr.at_ (q.z.map Zc.zn) o).isSome=f:=⟨_,rfl⟩
 rw[hib]at hI hR
 dsimp only at hN hG hby hR
 obtain⟨⟨gv,ge⟩,hgg⟩:∃p,Ca.getR (q.b.map Bc.b) o a0 a1=p:=⟨_,rfl⟩
 rw[hgg]at hG hby hR
 dsimp only at hG hby hR
 dsimp only
 have HBY:=Hd hby
 have HA:=Hd hR.symm
 obtain⟨K,ck,kn,Z,cz,zs,H,ch,hs,B,cb,bs,room⟩:=q
 unfold vwCells at hF ⊢
 dsimp only at hF hN hG hB hI ⊢
 have C1:=Hd hF
 have NA:=Hd (fun wx hb=>show Calls Tryz.prog 88 #[.slice H hs.length ch,.int .i64 o] wx (Says (.tuple #[.agg #[.int .i64 a0,.int .i64 a1,.int .i64 a2,.bool a3],.bool ok]) wx) from hN wx hb)
 have NG:=Hd hG
 have NB:=Hd hB
 have HIB:=Hd hI
 clear hF hN hG hby hp hfm hgg hR hB hI hib
 have hb0:=below_new (below_new (Below.refl w.heap.size w) (.cells #[.slice K kn.length ck,.slice Z zs.length cz,.slice H hs.length ch,.slice B bs.length cb,.int .i64 room] 27)) (.cells #[.int .i64 0,.int .i64 0,.int .i64 0,.bool false] 52)
 have hV:=(Blk.new w 27 #[.slice K kn.length ck,.slice Z zs.length cz,.slice H hs.length ch,.slice B bs.length cb,.int .i64 room]).alloc (.cells #[.int .i64 0,.int .i64 0,.int .i64 0,.bool false] 52)
 have hR:=Blk.new (w.alloc (.cells #[.slice K kn.length ck,.slice Z zs.length cz,.slice H hs.length ch,.slice B bs.length cb,.int .i64 room] 27)) 52 #[.int .i64 0,.int .i64 0,.int .i64 0,.bool false]
 simp only[World.size_alloc]at hR
 obtain⟨W,hW⟩:∃W,(w.alloc (.cells #[.slice K kn.length ck,.slice Z zs.length cz,.slice H hs.length ch,.slice B bs.length cb,.int .i64 room] 27)).alloc (.cells #[.int .i64 0,.int .i64 0,.int .i64 0,.bool false] 52)=W:=⟨_,rfl⟩
 rw[hW]at hb0 hV hR
 have HW:=Hd hW
 obtain⟨g,hgg⟩:∃g,w.heap.size=g:=⟨_,rfl⟩
 rw[hgg]at hV hR
 have HV:=Hd (show Blk W (g) 27 #[.slice K kn.length ck,.slice Z zs.length cz,.slice H hs.length ch,.slice B bs.length cb,.int .i64 room] from hV)
 have HR:=Hd (show Blk W (g+1) 52 #[.int .i64 0,.int .i64 0,.int .i64 0,.bool false] from hR)
 have HB0:=Hd hb0
 clear hW hb0 hV hR
 go_enter Tryz.func28,Tryz.ntmps28
 go_upto_region 1 with (fail)
 rw[HW.out]
 clear HW
 have V_0:=HV.out.cell (i:=0) rfl
 have V_1:=HV.out.cell (i:=1) rfl
 have V_2:=HV.out.cell (i:=2) rfl
 have V_3:=HV.out.cell (i:=3) rfl
 have V_4:=HV.out.cell (i:=4) rfl
 go_wp2_with fail
 refine(C1.out W HB0.out).mono ?_
 rintro e w1 ⟨rfl,b1⟩
 clear V_0 V_1 V_2 V_3 V_4
 replace HV:=Hd (HV.out.later b1)
 replace HR:=Hd (HR.out.later b1)
 have HB1:=Hd (below_on HB0.out b1)
 clear HB0
 clear b1 C1
 cases fm with
 |false=>
  have hr:=HA.out
  simp[]at hr
  obtain⟨rfl,rfl,rfl⟩:=hr
  have R_0:=HR.out.cell (i:=0) rfl
  have R_1:=HR.out.cell (i:=1) rfl
  have R_2:=HR.out.cell (i:=2) rfl
  have R_3:=HR.out.cell (i:=3) rfl
  have R_f0:=HR.out.free 0
  have R_f1:=HR.out.free 1
  have R_f2:=HR.out.free 2
  have R_f3:=HR.out.free 3
  have hh:w.heap.size≤g+1:=by omega
  have HP:=Hd ((((HR.out.put 0 (.int .i64 0)).put 1 (.int .i64 0)).put 2 (.int .i64 0)).put 3 (.bool false))
  have HQ:=Hd ((((HB1.out.setCell (p:=⟨g+1,0,none⟩) hh (.int .i64 0)).setCell (p:=⟨g+1,1,none⟩) hh (.int .i64 0)).setCell (p:=⟨g+1,2,none⟩) hh (.int .i64 0)).setCell (p:=⟨g+1,3,none⟩) hh (.bool false))
  clear hh
  go_wp2
  exact bodyPost_ret (results_tmp_cell_tmp (t1:=4) (p:=5) (t2:=6) (ty:=52) rfl _ _ (g+1) 52 #[.int .i64 0,.int .i64 0,.int .i64 0,.bool false] _ rfl HP.out Tryz.underlying52 rfl infoWrz) rfl ⟨none,0,rfl,OneB.nil,HQ.out⟩
 |true=>
 by_cases c0:o<0
 ·have d0:decide (o<0)=true:=decide_eq_true c0
  have hr:=HA.out
  simp[show ¬(0≤o∧o≤255) by omega]at hr
  obtain⟨rfl,rfl,rfl⟩:=hr
  have R_0:=HR.out.cell (i:=0) rfl
  have R_1:=HR.out.cell (i:=1) rfl
  have R_2:=HR.out.cell (i:=2) rfl
  have R_3:=HR.out.cell (i:=3) rfl
  have R_f0:=HR.out.free 0
  have R_f1:=HR.out.free 1
  have R_f2:=HR.out.free 2
  have R_f3:=HR.out.free 3
  have hh:w.heap.size≤g+1:=by omega
  have HP:=Hd ((((HR.out.put 0 (.int .i64 0)).put 1 (.int .i64 0)).put 2 (.int .i64 0)).put 3 (.bool false))
  have HQ:=Hd ((((HB1.out.setCell (p:=⟨g+1,0,none⟩) hh (.int .i64 0)).setCell (p:=⟨g+1,1,none⟩) hh (.int .i64 0)).setCell (p:=⟨g+1,2,none⟩) hh (.int .i64 0)).setCell (p:=⟨g+1,3,none⟩) hh (.bool false))
  clear hh
  go_wp2
  exact bodyPost_ret (results_tmp_cell_tmp (t1:=4) (p:=5) (t2:=6) (ty:=52) rfl _ _ (g+1) 52 #[.int .i64 0,.int .i64 0,.int .i64 0,.bool false] _ rfl HP.out Tryz.underlying52 rfl infoWrz) rfl ⟨none,0,rfl,OneB.nil,HQ.out⟩
 by_cases c1:255<o
 ·have d0:decide (o<0)=false:=decide_eq_false c0
  have d1:decide (255<o)=true:=decide_eq_true c1
  have hr:=HA.out
  simp[show ¬(0≤o∧o≤255) by omega]at hr
  obtain⟨rfl,rfl,rfl⟩:=hr
  have R_0:=HR.out.cell (i:=0) rfl
  have R_1:=HR.out.cell (i:=1) rfl
  have R_2:=HR.out.cell (i:=2) rfl
  have R_3:=HR.out.cell (i:=3) rfl
  have R_f0:=HR.out.free 0
  have R_f1:=HR.out.free 1
  have R_f2:=HR.out.free 2
  have R_f3:=HR.out.free 3
  have hh:w.heap.size≤g+1:=by omega
  have HP:=Hd ((((HR.out.put 0 (.int .i64 0)).put 1 (.int .i64 0)).put 2 (.int .i64 0)).put 3 (.bool false))
  have HQ:=Hd ((((HB1.out.setCell (p:=⟨g+1,0,none⟩) hh (.int .i64 0)).setCell (p:=⟨g+1,1,none⟩) hh (.int .i64 0)).setCell (p:=⟨g+1,2,none⟩) hh (.int .i64 0)).setCell (p:=⟨g+1,3,none⟩) hh (.bool false))
  clear hh
  go_wp2
  exact bodyPost_ret (results_tmp_cell_tmp (t1:=4) (p:=5) (t2:=6) (ty:=52) rfl _ _ (g+1) 52 #[.int .i64 0,.int .i64 0,.int .i64 0,.bool false] _ rfl HP.out Tryz.underlying52 rfl infoWrz) rfl ⟨none,0,rfl,OneB.nil,HQ.out⟩
 have d0:decide (o<0)=false:=decide_eq_false c0
 have d1:decide (255<o)=false:=decide_eq_false c1
 have hoo:0≤o∧o≤255:=by omega
 have V_1:=HV.out.cell (i:=1) rfl
 go_wp2_with fail
 refine(NB.out _ HB1.out).mono ?_
 rintro e w2 ⟨vb,rfl,hob,b2⟩
 clear V_1
 replace HV:=Hd (HV.out.later b2)
 replace HR:=Hd (HR.out.later b2)
 have HB2:=Hd (below_on HB1.out b2)
 clear HB1
 clear b2 NB
 obtain⟨SA,sc,rfl,hS⟩:=OneL.of_own hob
 have NH:=Hd (show Calls Tryz.prog 41 #[.slice SA (Tr.blr (zs.map Zc.zn)).length sc,.int .i64 o] w2 (Says (.bool ib) w2) from by have:=shas_any SA sc (Tr.blr (zs.map Zc.zn)) o w2 hS;rw[HIB.out (by first|rfl|trivial) hoo]at this;exact this)
 obtain⟨sl,hsl⟩:∃sl,(Tr.blr (zs.map Zc.zn)).length=sl:=⟨_,rfl⟩
 rw[hsl]at NH ⊢
 clear hob hS hsl HIB
 go_wp2_with fail
 refine(NH.out).mono ?_
 rintro e w3 ⟨rfl,b3⟩
 replace HV:=Hd (HV.out.later b3)
 replace HR:=Hd (HR.out.later b3)
 have HB3:=Hd (below_on HB2.out b3)
 clear HB2
 clear b3 NH
 cases ib with
 |true=>
  have hr:=HA.out
  simp[hoo]at hr
  obtain⟨rfl,rfl,rfl⟩:=hr
  have R_0:=HR.out.cell (i:=0) rfl
  have R_1:=HR.out.cell (i:=1) rfl
  have R_2:=HR.out.cell (i:=2) rfl
  have R_3:=HR.out.cell (i:=3) rfl
  have R_f0:=HR.out.free 0
  have R_f1:=HR.out.free 1
  have R_f2:=HR.out.free 2
  have R_f3:=HR.out.free 3
  have hh:w.heap.size≤g+1:=by omega
  have HP:=Hd ((((HR.out.put 0 (.int .i64 0)).put 1 (.int .i64 0)).put 2 (.int .i64 0)).put 3 (.bool false))
  have HQ:=Hd ((((HB3.out.setCell (p:=⟨g+1,0,none⟩) hh (.int .i64 0)).setCell (p:=⟨g+1,1,none⟩) hh (.int .i64 0)).setCell (p:=⟨g+1,2,none⟩) hh (.int .i64 0)).setCell (p:=⟨g+1,3,none⟩) hh (.bool false))
  clear hh
  go_wp2
  exact bodyPost_ret (results_tmp_cell_tmp (t1:=4) (p:=5) (t2:=6) (ty:=52) rfl _ _ (g+1) 52 #[.int .i64 0,.int .i64 0,.int .i64 0,.bool false] _ rfl HP.out Tryz.underlying52 rfl infoWrz) rfl ⟨none,0,rfl,OneB.nil,HQ.out⟩
 |false=>
 have V_2:=HV.out.cell (i:=2) rfl
 go_wp2_with fail
 refine(NA.out _ HB3.out).mono ?_
 rintro e w4 ⟨rfl,b4⟩
 clear V_2
 replace HV:=Hd (HV.out.later b4)
 replace HR:=Hd (HR.out.later b4)
 have HB4:=Hd (below_on HB3.out b4)
 clear HB3
 clear b4 NA
 obtain⟨gw,hggw⟩:∃gw,w4.heap.size=gw:=⟨_,rfl⟩
 have lt_V_gw:g<gw:=by have:=HV.out.lt;rw[hggw]at this;exact this
 have lt_R_gw:g+1<gw:=by have:=HR.out.lt;rw[hggw]at this;exact this
 cases ok with
 |false=>
  go_upto_region 6 with (fail)
  have b5:=below_new (Below.refl w4.heap.size w4) (.cells #[.int .i64 a0,.int .i64 a1,.int .i64 a2,.bool a3] 52)
  have hY:=Blk.new w4 52 #[.int .i64 a0,.int .i64 a1,.int .i64 a2,.bool a3]
  obtain⟨w5,hw5⟩:∃x,w4.alloc (.cells #[.int .i64 a0,.int .i64 a1,.int .i64 a2,.bool a3] 52)=x:=⟨_,rfl⟩
  rw[hw5]at b5 hY
  rw[hw5]
  replace HV:=Hd (HV.out.later b5)
  replace HR:=Hd (HR.out.later b5)
  have HB5:=Hd (below_on HB4.out b5)
  clear HB4
  rw[hggw]at hY
  have HY:=Hd hY
  clear b5 hw5 hY
  have hr:=HA.out
  simp[hoo]at hr
  obtain⟨rfl,rfl,rfl⟩:=hr
  have R_0:=HR.out.cell (i:=0) rfl
  have R_1:=HR.out.cell (i:=1) rfl
  have R_2:=HR.out.cell (i:=2) rfl
  have R_3:=HR.out.cell (i:=3) rfl
  have R_f0:=HR.out.free 0
  have R_f1:=HR.out.free 1
  have R_f2:=HR.out.free 2
  have R_f3:=HR.out.free 3
  have hh:w.heap.size≤g+1:=by omega
  have HP:=Hd ((((HR.out.put 0 (.int .i64 0)).put 1 (.int .i64 0)).put 2 (.int .i64 0)).put 3 (.bool false))
  have HQ:=Hd ((((HB5.out.setCell (p:=⟨g+1,0,none⟩) hh (.int .i64 0)).setCell (p:=⟨g+1,1,none⟩) hh (.int .i64 0)).setCell (p:=⟨g+1,2,none⟩) hh (.int .i64 0)).setCell (p:=⟨g+1,3,none⟩) hh (.bool false))
  clear hh
  go_wp2
  exact bodyPost_ret (results_tmp_cell_tmp (t1:=4) (p:=5) (t2:=6) (ty:=52) rfl _ _ (g+1) 52 #[.int .i64 0,.int .i64 0,.int .i64 0,.bool false] _ rfl HP.out Tryz.underlying52 rfl infoWrz) rfl ⟨none,0,rfl,OneB.nil,HQ.out⟩
 |true=>
 go_upto_region 6 with (fail)
 have b5:=below_new (Below.refl w4.heap.size w4) (.cells #[.int .i64 a0,.int .i64 a1,.int .i64 a2,.bool a3] 52)
 have hY:=Blk.new w4 52 #[.int .i64 a0,.int .i64 a1,.int .i64 a2,.bool a3]
 obtain⟨w5,hw5⟩:∃x,w4.alloc (.cells #[.int .i64 a0,.int .i64 a1,.int .i64 a2,.bool a3] 52)=x:=⟨_,rfl⟩
 rw[hw5]at b5 hY
 rw[hw5]
 replace HV:=Hd (HV.out.later b5)
 replace HR:=Hd (HR.out.later b5)
 have HB5:=Hd (below_on HB4.out b5)
 clear HB4
 rw[hggw]at hY
 have HY:=Hd hY
 clear b5 hw5 hY
 have Y_0:=HY.out.cell (i:=0) rfl
 have Y_1:=HY.out.cell (i:=1) rfl
 have Y_2:=HY.out.cell (i:=2) rfl
 have Y_3:=HY.out.cell (i:=3) rfl
 cases a3 with
 |true=>
  have hr:=HA.out
  simp[hoo]at hr
  obtain⟨rfl,rfl,rfl⟩:=hr
  have R_0:=HR.out.cell (i:=0) rfl
  have R_1:=HR.out.cell (i:=1) rfl
  have R_2:=HR.out.cell (i:=2) rfl
  have R_3:=HR.out.cell (i:=3) rfl
  have R_f0:=HR.out.free 0
  have R_f1:=HR.out.free 1
  have R_f2:=HR.out.free 2
  have R_f3:=HR.out.free 3
  have hh:w.heap.size≤g+1:=by omega
  have HP:=Hd (Blk.drew ((((HR.out.put 0 (.int .i64 a0)).put 1 (.int .i64 a1)).put 2 (.int .i64 a2)).put 3 (.bool true)))
  have HQ:=Hd (Below.drew ((((HB5.out.setCell (p:=⟨g+1,0,none⟩) hh (.int .i64 a0)).setCell (p:=⟨g+1,1,none⟩) hh (.int .i64 a1)).setCell (p:=⟨g+1,2,none⟩) hh (.int .i64 a2)).setCell (p:=⟨g+1,3,none⟩) hh (.bool true)))
  clear hh
  go_wp2_with fail
  go_region
  all_goals
    go_wp2
    exact bodyPost_ret (results_tmp_cell_tmp (t1:=4) (p:=5) (t2:=6) (ty:=52) rfl _ _ (g+1) 52 #[.int .i64 a0,.int .i64 a1,.int .i64 a2,.bool true] _ rfl HP.out Tryz.underlying52 rfl infoWrz) rfl ⟨none,0,rfl,OneB.nil,HQ.out⟩
 |false=>
 have V_3:=HV.out.cell (i:=3) rfl
 go_wp2_with fail
 refine(NG.out (by first|rfl|trivial) _ HB5.out).mono ?_
 rintro e w6 ⟨v,rfl,ho,b6⟩
 clear Y_0 Y_1 Y_2 Y_3 V_3
 replace HV:=Hd (HV.out.later b6)
 replace HR:=Hd (HR.out.later b6)
 replace HY:=Hd (HY.out.later b6)
 have HB6:=Hd (below_on HB5.out b6)
 clear HB5
 clear b6 NG
 obtain⟨VA,vc,rfl,hB⟩:=OneB.of_own ho HBY.out
 have HG:=Hd hB
 clear ho hB
 have Y_0:=HY.out.cell (i:=0) rfl
 have Y_1:=HY.out.cell (i:=1) rfl
 have Y_2:=HY.out.cell (i:=2) rfl
 have Y_3:=HY.out.cell (i:=3) rfl
 have hr:=HA.out
 simp[hoo]at hr
 obtain⟨rfl,rfl,rfl⟩:=hr
 have R_0:=HR.out.cell (i:=0) rfl
 have R_1:=HR.out.cell (i:=1) rfl
 have R_2:=HR.out.cell (i:=2) rfl
 have R_3:=HR.out.cell (i:=3) rfl
 have R_f0:=HR.out.free 0
 have R_f1:=HR.out.free 1
 have R_f2:=HR.out.free 2
 have R_f3:=HR.out.free 3
 have hh:w.heap.size≤g+1:=by omega
 have HP:=Hd (Blk.drew ((((HR.out.put 0 (.int .i64 a0)).put 1 (.int .i64 a1)).put 2 (.int .i64 a2)).put 3 (.bool false)))
 have HQ:=Hd (Below.drew ((((HB6.out.setCell (p:=⟨g+1,0,none⟩) hh (.int .i64 a0)).setCell (p:=⟨g+1,1,none⟩) hh (.int .i64 a1)).setCell (p:=⟨g+1,2,none⟩) hh (.int .i64 a2)).setCell (p:=⟨g+1,3,none⟩) hh (.bool false)))
 have FHG:=Hd (((((HG.out.near (show Blk _ (g+1) 52 #[.int .i64 0,.int .i64 0,.int .i64 0,.bool false] from HR.out) rfl 0 (.int .i64 a0)).near (show Blk _ (g+1) 52 #[.int .i64 a0,.int .i64 0,.int .i64 0,.bool false] from(HR.out.put 0 (.int .i64 a0))) rfl 1 (.int .i64 a1)).near (show Blk _ (g+1) 52 #[.int .i64 a0,.int .i64 a1,.int .i64 0,.bool false] from((HR.out.put 0 (.int .i64 a0)).put 1 (.int .i64 a1))) rfl 2 (.int .i64 a2)).near (show Blk _ (g+1) 52 #[.int .i64 a0,.int .i64 a1,.int .i64 a2,.bool false] from(((HR.out.put 0 (.int .i64 a0)).put 1 (.int .i64 a1)).put 2 (.int .i64 a2))) rfl 3 (.bool false)).later (Below.drew (Below.refl _ _)))
 clear hh
 go_wp2_with fail
 go_region
 all_goals
  go_wp2
  exact bodyPost_ret (results_tmp_cell_tmp (t1:=4) (p:=5) (t2:=6) (ty:=52) rfl _ _ (g+1) 52 #[.int .i64 a0,.int .i64 a1,.int .i64 a2,.bool false] _ rfl HP.out Tryz.underlying52 rfl infoWrz) rfl ⟨VA,vc,rfl,FHG.out,HQ.out⟩
structure VwFit (q:Vl):Prop where
 k:q.k.length*16≤140737488355328
 z:q.z.length*40≤140737488355328
 e:∀z∈q.z,z.l.length*16≤140737488355328
 h:q.h.length*32≤140737488355328
 b:Fits q.b
set_option maxRecDepth 100000 in
set_option maxHeartbeats 6400000 in
theorem vcopy_any(q:Vl)(w:World)(h:VwAt w q)(hft:VwFit q):Calls Tryz.prog 12 #[.agg (vwCells q)] w (GivesV q.vw w):=by
 obtain⟨i0,hI,hz0,hz1,hz2⟩:=info_parts infoWr
 obtain⟨K,ck,kn,Z,cz,zs,H,ch,hs,B,cb,bs,room⟩:=q
 have HFT:=Hd hft
 unfold vwCells
 unfold Vl.vw
 dsimp only
 have hV:=fun wx (hb:Below w.heap.size w wx)=>h.later hb
 have hk:=fun wx (hb:Below w.heap.size w wx)=>rcopy_any K ck kn wx hft.k (hV wx hb).k.2.2.1 (hV wx hb).k.2.2.2
 have hz:=fun wx (hb:Below w.heap.size w wx)=>zcopy_any Z cz zs wx (hV wx hb).z hft.z hft.e
 have hc:=fun wx (hb:Below w.heap.size w wx)=>ccopy_any B cb bs wx (hV wx hb).b hft.b
 have HVW:=Hd hV
 have NK:=Hd hk
 have NZ:=Hd hz
 have NB:=Hd hc
 clear hV hk hz hc h hft
 have hb0:=below_new (below_new (Below.refl w.heap.size w) (.cells #[.slice K kn.length ck,.slice Z zs.length cz,.slice H hs.length ch,.slice B bs.length cb,.int .i64 room] 27)) (.cells #[.slice none 0 0,.slice none 0 0,.slice none 0 0,.slice none 0 0,.int .i64 0] 27)
 have hV:=(Blk.new w 27 #[.slice K kn.length ck,.slice Z zs.length cz,.slice H hs.length ch,.slice B bs.length cb,.int .i64 room]).alloc (.cells #[.slice none 0 0,.slice none 0 0,.slice none 0 0,.slice none 0 0,.int .i64 0] 27)
 have hR:=Blk.new (w.alloc (.cells #[.slice K kn.length ck,.slice Z zs.length cz,.slice H hs.length ch,.slice B bs.length cb,.int .i64 room] 27)) 27 #[.slice none 0 0,.slice none 0 0,.slice none 0 0,.slice none 0 0,.int .i64 0]
 simp only[World.size_alloc]at hR
 obtain⟨W,hW⟩:∃W,(w.alloc (.cells #[.slice K kn.length ck,.slice Z zs.length cz,.slice H hs.length ch,.slice B bs.length cb,.int .i64 room] 27)).alloc (.cells #[.slice none 0 0,.slice none 0 0,.slice none 0 0,.slice none 0 0,.int .i64 0] 27)=W:=⟨_,rfl⟩
 rw[hW]at hb0 hV hR
 have HW:=Hd hW
 obtain⟨g,hgg⟩:∃g,w.heap.size=g:=⟨_,rfl⟩
 rw[hgg]at hV hR
 have HV:=Hd (show Blk W (g) 27 #[.slice K kn.length ck,.slice Z zs.length cz,.slice H hs.length ch,.slice B bs.length cb,.int .i64 room] from hV)
 have HR:=Hd (show Blk W (g+1) 27 #[.slice none 0 0,.slice none 0 0,.slice none 0 0,.slice none 0 0,.int .i64 0] from hR)
 have HB0:=Hd hb0
 clear hW hb0 hV hR
 go_enter Tryz.func12,Tryz.ntmps12
 go_upto_region 1 with (fail)
 rw[HW.out]
 clear HW
 have V_0:=HV.out.cell (i:=0) rfl
 have V_1:=HV.out.cell (i:=1) rfl
 have V_2:=HV.out.cell (i:=2) rfl
 have V_3:=HV.out.cell (i:=3) rfl
 have V_4:=HV.out.cell (i:=4) rfl
 refine wp_region_facts 15 (by kernel_rfl) (by kernel_rfl)
  (fun v=>{ tmps:=#[.agg #[.slice K kn.length ck,.slice Z zs.length cz,.slice H hs.length ch,.slice B bs.length cb,.int .i64 room],.pointer (some ⟨g,0,none⟩),.pointer (some ⟨g+1,0,none⟩),v 0,v 1,v 2,v 3,v 4,v 5,v 6,v 7,v 8,v 9,v 10,v 11,v 12,v 13,v 14,undef],defers:=[] }) (fun _=>undef)
  (fun i x wx=>match i with
   |0=>x = .pointer (some ⟨g,0,none⟩)
   |1=>x = .slice K kn.length ck
   |2=>∃A9 c9,x = .slice A9 kn.length c9∧OneL wx A9 c9 kn
   |3=>x = .pointer (some ⟨g,1,none⟩)
   |4=>x = .slice Z zs.length cz
   |5=>∃A9 c9 L9,x = .slice A9 (List.length L9) c9∧OneZ wx A9 c9 L9∧L9.map Zc.zn=zs.map Zc.zn
   |6=>∃g9,x = .slice (some ⟨g9,0,none⟩) 0 0∧Blk wx g9 52 #[]∧W.heap.size≤g9
   |7=>x = .pointer (some ⟨g,2,none⟩)
   |8=>x = .slice H hs.length ch
   |9=>∃A9 c9,x = .slice A9 hs.length c9∧OneW wx A9 c9 hs
   |10=>x = .pointer (some ⟨g,3,none⟩)
   |11=>x = .slice B bs.length cb
   |12=>∃A9 c9 L9,x = .slice A9 (List.length L9) c9∧OneC wx A9 c9 L9∧L9.map Bc.b=bs.map Bc.b
   |13=>x = .pointer (some ⟨g,4,none⟩)
   |14=>x = .int .i64 room
   |_=>True)
  (fun w1 w2=>Below w1.heap.size w1 w2) (fun h1 h2=>below_on h1 h2) (fun _=>Below.refl _ _) (Below.drew (Below.refl _ _)) ?stabC ?stepC ?doneC
 case stabC=>
  rintro i x w1 w2 h hb
  match i,h with
  |0,h=>exact h
  |1,h=>exact h
  |2,h=>obtain⟨A9,c9,e9,h9⟩:=h;exact⟨A9,c9,e9,h9.later hb⟩
  |3,h=>exact h
  |4,h=>exact h
  |5,h=>obtain⟨A9,c9,L9,e9,h9,m9⟩:=h;exact⟨A9,c9,L9,e9,h9.later hb,m9⟩
  |6,h=>obtain⟨g9,e9,h9,m9⟩:=h;exact⟨g9,e9,h9.later hb,m9⟩
  |7,h=>exact h
  |8,h=>exact h
  |9,h=>obtain⟨A9,c9,e9,h9⟩:=h;exact⟨A9,c9,e9,h9.later hb⟩
  |10,h=>exact h
  |11,h=>exact h
  |12,h=>obtain⟨A9,c9,L9,e9,h9,m9⟩:=h;exact⟨A9,c9,L9,e9,h9.later hb,m9⟩
  |13,h=>exact h
  |14,h=>exact h
  |i+15,_=>trivial
 case stepC=>
  intro i hi v w' hb hd
  match i,hi with
  |0,_=>
   refine wpOp_oneH rfl fun KK HKK =>?_
   clear hd
   go_wp2
   exact HKK.out _ _ ⟨_,(by simp[upd];done),Below.refl _ _,rfl⟩
  |1,_=>
   have h0:v 0=_:=hdx hd 0 (by kernel_rfl)
   refine wpOp_oneH rfl fun KK HKK =>?_
   clear hd
   rw[h0]
   have q0:=cell_later hb V_0
   go_wp2
   exact HKK.out _ _ ⟨_,(by simp[upd,h0];done),Below.refl _ _,rfl⟩
  |2,_=>
   have h1:v 1=_:=hdx hd 1 (by kernel_rfl)
   refine wpOp_oneH rfl fun KK HKK =>?_
   clear hd
   rw[h1]
   go_wp2_with fail
   refine(NK.out _ (below_on HB0.out hb)).mono ?_
   rintro e w'' ⟨u,rfl,ho,b⟩
   obtain⟨A9,c9,rfl,hB⟩:=OneL.of_own ho
   go_wp2
   exact HKK.out _ _ ⟨_,(by simp[upd,h1];done),b,A9,c9,rfl,hB⟩
  |3,_=>
   refine wpOp_oneH rfl fun KK HKK =>?_
   clear hd
   go_wp2
   exact HKK.out _ _ ⟨_,(by simp[upd];done),Below.refl _ _,rfl⟩
  |4,_=>
   have h3:v 3=_:=hdx hd 3 (by kernel_rfl)
   refine wpOp_oneH rfl fun KK HKK =>?_
   clear hd
   rw[h3]
   have q0:=cell_later hb V_1
   go_wp2
   exact HKK.out _ _ ⟨_,(by simp[upd,h3];done),Below.refl _ _,rfl⟩
  |5,_=>
   have h4:v 4=_:=hdx hd 4 (by kernel_rfl)
   refine wpOp_oneH rfl fun KK HKK =>?_
   clear hd
   rw[h4]
   go_wp2_with fail
   refine(NZ.out _ (below_on HB0.out hb)).mono ?_
   rintro e w'' ⟨A9,c9,L9,rfl,hO,hM,b⟩
   go_wp2
   exact HKK.out _ _ ⟨_,(by simp[upd,h4];done),b,A9,c9,L9,rfl,hO,hM⟩
  |6,_=>
   refine wpOp_oneH rfl fun KK HKK =>?_
   clear hd
   have bn:=below_new (Below.refl w'.heap.size w') (.cells #[] 52)
   have BN:=Blk.new w' 52 #[]
   have hz:=hb.size
   go_wp2
   exact HKK.out _ _ ⟨_,(by simp[upd];done),bn,_,rfl,BN,hz⟩
  |7,_=>
   refine wpOp_oneH rfl fun KK HKK =>?_
   clear hd
   go_wp2
   exact HKK.out _ _ ⟨_,(by simp[upd];done),Below.refl _ _,rfl⟩
  |8,_=>
   have h7:v 7=_:=hdx hd 7 (by kernel_rfl)
   refine wpOp_oneH rfl fun KK HKK =>?_
   clear hd
   rw[h7]
   have q0:=cell_later hb V_2
   go_wp2
   exact HKK.out _ _ ⟨_,(by simp[upd,h7];done),Below.refl _ _,rfl⟩
  |9,_=>
   obtain⟨g6,h6,o6,m6⟩:=hd 6 (List.elem_iff.1 (by kernel_rfl))
   have h8:v 8=_:=hdx hd 8 (by kernel_rfl)
   refine wpOp_oneH rfl fun KK HKK =>?_
   clear hd
   rw[h6,h8]
   have HH:=Hd (HVW.out w' (below_on HB0.out hb)).h
   refine Go.Proofs.YtjlfehpockfkdaaGreat.wpList_append_fresh _ rfl _ _ 24 rfl W.heap.size g6 52 i0 (.agg #[.int .i64 0,.int .i64 0,.int .i64 0,.bool false]) 4 32 Tryz.underlying24 hI hz0 hz1 hz2 rfl (by decide) rfl o6 m6 H hs.length ch HH.out.2.2.1 (Nt.wrCells hs) rfl (Nt.wrCells_length hs) HH.out.2.2.2 (Nt.wrCells_one hs) ?c3 ?c4 ?_
   case c3=>exact Nat.le_trans HH.out.1 HH.out.2.1
   case c4=>exact HFT.out.h
   intro v' w'' hown b
   obtain⟨A9,c9,rfl,ho⟩:=OneW.of_own hown
   clear hown
   go_wp2
   exact HKK.out _ _ ⟨_,(by simp[upd,h6,h8];done),b,A9,c9,rfl,ho⟩
  |10,_=>
   refine wpOp_oneH rfl fun KK HKK =>?_
   clear hd
   go_wp2
   exact HKK.out _ _ ⟨_,(by simp[upd];done),Below.refl _ _,rfl⟩
  |11,_=>
   have h10:v 10=_:=hdx hd 10 (by kernel_rfl)
   refine wpOp_oneH rfl fun KK HKK =>?_
   clear hd
   rw[h10]
   have q0:=cell_later hb V_3
   go_wp2
   exact HKK.out _ _ ⟨_,(by simp[upd,h10];done),Below.refl _ _,rfl⟩
  |12,_=>
   have h11:v 11=_:=hdx hd 11 (by kernel_rfl)
   refine wpOp_oneH rfl fun KK HKK =>?_
   clear hd
   rw[h11]
   go_wp2_with fail
   refine(NB.out _ (below_on HB0.out hb)).mono ?_
   rintro e w'' ⟨A9,c9,L9,rfl,hM,hO,b⟩
   go_wp2
   exact HKK.out _ _ ⟨_,(by simp[upd,h11];done),b,A9,c9,L9,rfl,hO.one,hM⟩
  |13,_=>
   refine wpOp_oneH rfl fun KK HKK =>?_
   clear hd
   go_wp2
   exact HKK.out _ _ ⟨_,(by simp[upd];done),Below.refl _ _,rfl⟩
  |14,_=>
   have h13:v 13=_:=hdx hd 13 (by kernel_rfl)
   refine wpOp_oneH rfl fun KK HKK =>?_
   clear hd
   rw[h13]
   have q0:=cell_later hb V_4
   go_wp2
   exact HKK.out _ _ ⟨_,(by simp[upd,h13];done),Below.refl _ _,rfl⟩
  |k+15,hk=>exact absurd hk (by omega)
 case doneC=>
  intro v w5 hb hf
  obtain⟨A2,c2,h2,o2⟩:=hf 2 (by decide)
  obtain⟨A5,c5,L5,h5,o5,m5⟩:=hf 5 (by decide)
  obtain⟨A9,c9,h9,o9⟩:=hf 9 (by decide)
  obtain⟨A12,c12,L12,h12,o12,m12⟩:=hf 12 (by decide)
  have h14:v 14=_:=hf 14 (by decide)
  clear hf
  rw[h2,h5,h9,h12,h14]
  clear V_0 V_1 V_2 V_3 V_4
  replace HV:=Hd (HV.out.later hb)
  replace HR:=Hd (HR.out.later hb)
  have HB1:=Hd (below_on HB0.out hb)
  clear HB0
  clear hb
  have X2:=Hd o2
  have X5:=Hd o5
  have X9:=Hd o9
  have X12:=Hd o12
  have M5:=Hd m5
  have M12:=Hd m12
  clear o2 o5 o9 o12 m5 m12 NK NZ NB
  have R_0:=HR.out.cell (i:=0) rfl
  have R_1:=HR.out.cell (i:=1) rfl
  have R_2:=HR.out.cell (i:=2) rfl
  have R_3:=HR.out.cell (i:=3) rfl
  have R_4:=HR.out.cell (i:=4) rfl
  have R_f0:=HR.out.free 0
  have R_f1:=HR.out.free 1
  have R_f2:=HR.out.free 2
  have R_f3:=HR.out.free 3
  have R_f4:=HR.out.free 4
  have hh:w.heap.size≤g+1:=by omega
  have HP:=Hd (((((HR.out.put 0 (.slice A2 kn.length c2)).put 1 (.slice A5 L5.length c5)).put 2 (.slice A9 hs.length c9)).put 3 (.slice A12 L12.length c12)).put 4 (.int .i64 room))
  have HQ:=Hd (((((HB1.out.setCell (p:=⟨g+1,0,none⟩) hh (.slice A2 kn.length c2)).setCell (p:=⟨g+1,1,none⟩) hh (.slice A5 L5.length c5)).setCell (p:=⟨g+1,2,none⟩) hh (.slice A9 hs.length c9)).setCell (p:=⟨g+1,3,none⟩) hh (.slice A12 L12.length c12)).setCell (p:=⟨g+1,4,none⟩) hh (.int .i64 room))
  have FX2:=Hd (((((X2.out.far (show Blk _ (g+1) 27 #[.slice none 0 0,.slice none 0 0,.slice none 0 0,.slice none 0 0,.int .i64 0] from HR.out) rfl 0 (.slice A2 kn.length c2)).far (show Blk _ (g+1) 27 #[.slice A2 kn.length c2,.slice none 0 0,.slice none 0 0,.slice none 0 0,.int .i64 0] from(HR.out.put 0 (.slice A2 kn.length c2))) rfl 1 (.slice A5 L5.length c5)).far (show Blk _ (g+1) 27 #[.slice A2 kn.length c2,.slice A5 L5.length c5,.slice none 0 0,.slice none 0 0,.int .i64 0] from((HR.out.put 0 (.slice A2 kn.length c2)).put 1 (.slice A5 L5.length c5))) rfl 2 (.slice A9 hs.length c9)).far (show Blk _ (g+1) 27 #[.slice A2 kn.length c2,.slice A5 L5.length c5,.slice A9 hs.length c9,.slice none 0 0,.int .i64 0] from(((HR.out.put 0 (.slice A2 kn.length c2)).put 1 (.slice A5 L5.length c5)).put 2 (.slice A9 hs.length c9))) rfl 3 (.slice A12 L12.length c12)).far (show Blk _ (g+1) 27 #[.slice A2 kn.length c2,.slice A5 L5.length c5,.slice A9 hs.length c9,.slice A12 L12.length c12,.int .i64 0] from((((HR.out.put 0 (.slice A2 kn.length c2)).put 1 (.slice A5 L5.length c5)).put 2 (.slice A9 hs.length c9)).put 3 (.slice A12 L12.length c12))) rfl 4 (.int .i64 room))
  have FX5:=Hd (((((X5.out.far (show Blk _ (g+1) 27 #[.slice none 0 0,.slice none 0 0,.slice none 0 0,.slice none 0 0,.int .i64 0] from HR.out) rfl 0 (.slice A2 kn.length c2)).far (show Blk _ (g+1) 27 #[.slice A2 kn.length c2,.slice none 0 0,.slice none 0 0,.slice none 0 0,.int .i64 0] from(HR.out.put 0 (.slice A2 kn.length c2))) rfl 1 (.slice A5 L5.length c5)).far (show Blk _ (g+1) 27 #[.slice A2 kn.length c2,.slice A5 L5.length c5,.slice none 0 0,.slice none 0 0,.int .i64 0] from((HR.out.put 0 (.slice A2 kn.length c2)).put 1 (.slice A5 L5.length c5))) rfl 2 (.slice A9 hs.length c9)).far (show Blk _ (g+1) 27 #[.slice A2 kn.length c2,.slice A5 L5.length c5,.slice A9 hs.length c9,.slice none 0 0,.int .i64 0] from(((HR.out.put 0 (.slice A2 kn.length c2)).put 1 (.slice A5 L5.length c5)).put 2 (.slice A9 hs.length c9))) rfl 3 (.slice A12 L12.length c12)).far (show Blk _ (g+1) 27 #[.slice A2 kn.length c2,.slice A5 L5.length c5,.slice A9 hs.length c9,.slice A12 L12.length c12,.int .i64 0] from((((HR.out.put 0 (.slice A2 kn.length c2)).put 1 (.slice A5 L5.length c5)).put 2 (.slice A9 hs.length c9)).put 3 (.slice A12 L12.length c12))) rfl 4 (.int .i64 room))
  have FX9:=Hd (((((X9.out.far (show Blk _ (g+1) 27 #[.slice none 0 0,.slice none 0 0,.slice none 0 0,.slice none 0 0,.int .i64 0] from HR.out) rfl 0 (.slice A2 kn.length c2)).far (show Blk _ (g+1) 27 #[.slice A2 kn.length c2,.slice none 0 0,.slice none 0 0,.slice none 0 0,.int .i64 0] from(HR.out.put 0 (.slice A2 kn.length c2))) rfl 1 (.slice A5 L5.length c5)).far (show Blk _ (g+1) 27 #[.slice A2 kn.length c2,.slice A5 L5.length c5,.slice none 0 0,.slice none 0 0,.int .i64 0] from((HR.out.put 0 (.slice A2 kn.length c2)).put 1 (.slice A5 L5.length c5))) rfl 2 (.slice A9 hs.length c9)).far (show Blk _ (g+1) 27 #[.slice A2 kn.length c2,.slice A5 L5.length c5,.slice A9 hs.length c9,.slice none 0 0,.int .i64 0] from(((HR.out.put 0 (.slice A2 kn.length c2)).put 1 (.slice A5 L5.length c5)).put 2 (.slice A9 hs.length c9))) rfl 3 (.slice A12 L12.length c12)).far (show Blk _ (g+1) 27 #[.slice A2 kn.length c2,.slice A5 L5.length c5,.slice A9 hs.length c9,.slice A12 L12.length c12,.int .i64 0] from((((HR.out.put 0 (.slice A2 kn.length c2)).put 1 (.slice A5 L5.length c5)).put 2 (.slice A9 hs.length c9)).put 3 (.slice A12 L12.length c12))) rfl 4 (.int .i64 room))
  have FX12:=Hd (((((X12.out.far (show Blk _ (g+1) 27 #[.slice none 0 0,.slice none 0 0,.slice none 0 0,.slice none 0 0,.int .i64 0] from HR.out) rfl 0 (.slice A2 kn.length c2)).far (show Blk _ (g+1) 27 #[.slice A2 kn.length c2,.slice none 0 0,.slice none 0 0,.slice none 0 0,.int .i64 0] from(HR.out.put 0 (.slice A2 kn.length c2))) rfl 1 (.slice A5 L5.length c5)).far (show Blk _ (g+1) 27 #[.slice A2 kn.length c2,.slice A5 L5.length c5,.slice none 0 0,.slice none 0 0,.int .i64 0] from((HR.out.put 0 (.slice A2 kn.length c2)).put 1 (.slice A5 L5.length c5))) rfl 2 (.slice A9 hs.length c9)).far (show Blk _ (g+1) 27 #[.slice A2 kn.length c2,.slice A5 L5.length c5,.slice A9 hs.length c9,.slice none 0 0,.int .i64 0] from(((HR.out.put 0 (.slice A2 kn.length c2)).put 1 (.slice A5 L5.length c5)).put 2 (.slice A9 hs.length c9))) rfl 3 (.slice A12 L12.length c12)).far (show Blk _ (g+1) 27 #[.slice A2 kn.length c2,.slice A5 L5.length c5,.slice A9 hs.length c9,.slice A12 L12.length c12,.int .i64 0] from((((HR.out.put 0 (.slice A2 kn.length c2)).put 1 (.slice A5 L5.length c5)).put 2 (.slice A9 hs.length c9)).put 3 (.slice A12 L12.length c12))) rfl 4 (.int .i64 room))
  clear hh
  go_wp2
  exact bodyPost_ret (v :=.agg #[.slice A2 kn.length c2,.slice A5 L5.length c5,.slice A9 hs.length c9,.slice A12 L12.length c12,.int .i64 room]) (results_cell_row rfl _ _ (g+1) 27 #[.slice A2 kn.length c2,.slice A5 L5.length c5,.slice A9 hs.length c9,.slice A12 L12.length c12,.int .i64 room] (0,0) _ rfl HP.out Tryz.underlying27 rfl infoVw) rfl ⟨⟨A2,c2,kn,A5,c5,L5,A9,c9,hs,A12,c12,L12,room⟩,rfl,(by show(⟨kn,L5.map Zc.zn,hs,L12.map Bc.b,room⟩:Vw)=⟨kn,zs.map Zc.zn,hs,bs.map Bc.b,room⟩;rw[M5.out,M12.out]),⟨FX2.out,FX5.out,FX9.out,FX12.out⟩,HQ.out⟩
end Go.Proofs.YtjlfehpockfkdaaGreat
namespace Go.Proofs.YtjlfehpockfkdaaGreat
open Go.RowKit
namespace Vw
theorem z_each{zs:List Zn}(h:Tr.fmd zs=true){z:Zn}(hz:z∈zs):(0≤z.1∧z.1≤z.2.1∧z.2.1≤255)∧Ve.fmd z.2.2=true:=by
 obtain⟨j,hj,rfl⟩:=List.mem_iff_getElem.1 hz
 have h1:=(Tr.fmd_iff zs).1 h j hj
 unfold Tr.okAt at h1
 rw[List.getD_eq_getElem?_getD,List.getElem?_eq_getElem hj]at h1
 exact⟨h1.1,h1.2.1⟩
theorem z_len{zs:List Zn}(h:Tr.fmd zs=true):zs.length≤256:=by
 have h1:=(Tr.fmd_iff zs).1 h
 have h2:∀j,j<zs.length→(j:Int)≤(zs.getD j (0,0,[])).1∧(zs.getD j (0,0,[])).1≤255:=by
  intro j
  induction j with
  |zero=>
   intro hj
   have h3:=(h1 0 hj).1
   omega
  |succ j ih=>
   intro hj
   have h3:=h1 (j+1) hj
   have h5:=ih (by omega)
   have h6:=(h3.2.2 (by omega)).1
   rw[Nat.add_sub_cancel]at h6
   have h8:=(h1 j (by omega)).1
   have h7:=h3.1
   omega
 by_cases h0:zs.length=0
 ·omega
 ·have:=h2 (zs.length-1) (by omega)
  omega
end Vw
end Go.Proofs.YtjlfehpockfkdaaGreat
namespace Go.Proofs.YtjlfehpockfkdaaGreat
open Go.RowKit Fb
theorem fmd_fit{q:Vl}(h:Vw.fmd q.vw=true):VwFit q:=by
 obtain⟨h1,h2,h3,h4⟩:=Vw.fmd_all h
 have lk:q.k.length≤64:=Vw.k_len h1
 refine⟨by omega,?_,fun z hz =>?_,?_,fmd_fits h4⟩
 ·have:(q.z.map Zc.zn).length≤256:=Vw.z_len h2
  rw[List.length_map]at this
  omega
 ·have h5:z.l.length≤64:=Vw.k_len (Vw.z_each h2 (z:=z.zn) (List.mem_map_of_mem hz)).2
  omega
 ·have:q.h.length≤256:=Sf.fmd_len h3
  omega
set_option maxRecDepth 100000 in
set_option maxHeartbeats 6400000 in
theorem vbody_any(q:Vl)(X:Option Addr)(d:Nat)(x:Bd)(w:World)(h:VwAt w q)(hx:OneB w X d x.v):Calls Tryz.prog 26 #[.agg (vwCells q),.agg (bdCells X d x)] w (GivesVwE (Vw.bodyR q.vw x).1 (Vw.bodyR q.vw x).2 w):=by
 have hR:Vw.bodyR q.vw x=if Vw.fmd q.vw=true∧Wi.bright x=true then (if Vw.wants q.vw x=true then (⟨q.k,q.z.map Zc.zn,q.h,(Ca.putR (q.b.map Bc.b) q.r x).1,q.r⟩,0) else (Vw.zero,13)) else (Vw.zero,1):=rfl
 obtain⟨⟨rb,re⟩,hRR⟩:∃p,Vw.bodyR q.vw x=p:=⟨_,rfl⟩
 rw[hRR]
 rw[hRR]at hR
 have c1:=fun wx (hb:Below w.heap.size w wx)=>vformed_any q wx (h.later hb)
 have c2:=fun wx=>bright_any X d x wx
 have c3:=fun wx (hb:Below w.heap.size w wx)=>vwanted_any q X d x wx (h.later hb)
 have c4:=fun (hf:Vw.fmd q.vw=true) wx (hb:Below w.heap.size w wx)=>vcopy_any q wx (h.later hb) (fmd_fit hf)
 have c5:=fun wx (hb:Below w.heap.size w wx)=>cput_any q.B X q.cb d q.b q.r x wx (h.later hb).b (hx.later hb)
 clear hRR h hx
 obtain⟨fm,hfm⟩:∃f,Vw.fmd q.vw=f:=⟨_,rfl⟩
 rw[hfm]at c1 c4 hR
 obtain⟨br,hbr⟩:∃f,Wi.bright x=f:=⟨_,rfl⟩
 rw[hbr]at c2 hR
 obtain⟨wa,hwa⟩:∃f,Vw.wants q.vw x=f:=⟨_,rfl⟩
 rw[hwa]at c3 hR
 obtain⟨⟨pl,pe⟩,hpp⟩:∃p,Ca.putR (q.b.map Bc.b) q.r x=p:=⟨_,rfl⟩
 rw[hpp]at c5 hR
 obtain⟨K,ck,kn,Z,cz,zs,H,ch,hs,B,cb,bs,room⟩:=q
 obtain⟨x0,x1,x2,vl⟩:=x
 unfold vwCells at c1 c3 c4 ⊢
 unfold bdCells at c2 c3 c5 ⊢
 unfold Vl.vw at c4
 dsimp only at c1 c2 c3 c4 c5 hR ⊢
 have HA:=Hd hR.symm
 have C1:=Hd c1
 have C2:=Hd c2
 have C3:=Hd c3
 have C4:=Hd c4
 have C5:=Hd c5
 clear c1 c2 c3 c4 c5 hR hfm hbr hwa hpp
 have hb0:=below_new (below_new (below_new (Below.refl w.heap.size w) (.cells #[.slice K kn.length ck,.slice Z zs.length cz,.slice H hs.length ch,.slice B bs.length cb,.int .i64 room] 27)) (.cells #[.int .i64 x0,.int .i64 x1,.int .i64 x2,.slice X vl.length d] 49)) (.cells #[.slice none 0 0,.slice none 0 0,.slice none 0 0,.slice none 0 0,.int .i64 0] 27)
 have hV:=((Blk.new w 27 #[.slice K kn.length ck,.slice Z zs.length cz,.slice H hs.length ch,.slice B bs.length cb,.int .i64 room]).alloc (.cells #[.int .i64 x0,.int .i64 x1,.int .i64 x2,.slice X vl.length d] 49)).alloc (.cells #[.slice none 0 0,.slice none 0 0,.slice none 0 0,.slice none 0 0,.int .i64 0] 27)
 have hX:=(Blk.new (w.alloc (.cells #[.slice K kn.length ck,.slice Z zs.length cz,.slice H hs.length ch,.slice B bs.length cb,.int .i64 room] 27)) 49 #[.int .i64 x0,.int .i64 x1,.int .i64 x2,.slice X vl.length d]).alloc (.cells #[.slice none 0 0,.slice none 0 0,.slice none 0 0,.slice none 0 0,.int .i64 0] 27)
 simp only[World.size_alloc]at hX
 have hR:=Blk.new ((w.alloc (.cells #[.slice K kn.length ck,.slice Z zs.length cz,.slice H hs.length ch,.slice B bs.length cb,.int .i64 room] 27)).alloc (.cells #[.int .i64 x0,.int .i64 x1,.int .i64 x2,.slice X vl.length d] 49)) 27 #[.slice none 0 0,.slice none 0 0,.slice none 0 0,.slice none 0 0,.int .i64 0]
 simp only[World.size_alloc]at hR
 obtain⟨W,hW⟩:∃W,((w.alloc (.cells #[.slice K kn.length ck,.slice Z zs.length cz,.slice H hs.length ch,.slice B bs.length cb,.int .i64 room] 27)).alloc (.cells #[.int .i64 x0,.int .i64 x1,.int .i64 x2,.slice X vl.length d] 49)).alloc (.cells #[.slice none 0 0,.slice none 0 0,.slice none 0 0,.slice none 0 0,.int .i64 0] 27)=W:=⟨_,rfl⟩
 rw[hW]at hb0 hV hX hR
 have HW:=Hd hW
 obtain⟨g,hgg⟩:∃g,w.heap.size=g:=⟨_,rfl⟩
 rw[hgg]at hV hX hR
 have HV:=Hd (show Blk W (g) 27 #[.slice K kn.length ck,.slice Z zs.length cz,.slice H hs.length ch,.slice B bs.length cb,.int .i64 room] from hV)
 have HX:=Hd (show Blk W (g+1) 49 #[.int .i64 x0,.int .i64 x1,.int .i64 x2,.slice X vl.length d] from hX)
 have HR:=Hd (show Blk W (g+2) 27 #[.slice none 0 0,.slice none 0 0,.slice none 0 0,.slice none 0 0,.int .i64 0] from hR)
 have HB0:=Hd hb0
 clear hW hb0 hV hX hR
 go_enter Tryz.func26,Tryz.ntmps26
 go_upto_region 1 with (fail)
 rw[HW.out]
 clear HW
 have V_0:=HV.out.cell (i:=0) rfl
 have V_1:=HV.out.cell (i:=1) rfl
 have V_2:=HV.out.cell (i:=2) rfl
 have V_3:=HV.out.cell (i:=3) rfl
 have V_4:=HV.out.cell (i:=4) rfl
 go_wp2_with fail
 refine(C1.out W HB0.out).mono ?_
 rintro e w1 ⟨rfl,b1⟩
 clear V_0 V_1 V_2 V_3 V_4
 replace HV:=Hd (HV.out.later b1)
 replace HX:=Hd (HX.out.later b1)
 replace HR:=Hd (HR.out.later b1)
 have HB1:=Hd (below_on HB0.out b1)
 clear HB0
 clear b1 C1
 cases fm with
 |false=>
  have hr:=HA.out
  simp[]at hr
  obtain⟨rfl,rfl⟩:=hr
  have R_0:=HR.out.cell (i:=0) rfl
  have R_1:=HR.out.cell (i:=1) rfl
  have R_2:=HR.out.cell (i:=2) rfl
  have R_3:=HR.out.cell (i:=3) rfl
  have R_4:=HR.out.cell (i:=4) rfl
  have R_f0:=HR.out.free 0
  have R_f1:=HR.out.free 1
  have R_f2:=HR.out.free 2
  have R_f3:=HR.out.free 3
  have R_f4:=HR.out.free 4
  have hh:w.heap.size≤g+2:=by omega
  have HP:=Hd (((((HR.out.put 0 (.slice none 0 0)).put 1 (.slice none 0 0)).put 2 (.slice none 0 0)).put 3 (.slice none 0 0)).put 4 (.int .i64 0))
  have HQ:=Hd (((((HB1.out.setCell (p:=⟨g+2,0,none⟩) hh (.slice none 0 0)).setCell (p:=⟨g+2,1,none⟩) hh (.slice none 0 0)).setCell (p:=⟨g+2,2,none⟩) hh (.slice none 0 0)).setCell (p:=⟨g+2,3,none⟩) hh (.slice none 0 0)).setCell (p:=⟨g+2,4,none⟩) hh (.int .i64 0))
  clear hh
  go_wp2
  exact bodyPost_ret (results_cell_tmp (p:=4) (t1:=5) (ty:=27) rfl _ _ (g+2) 27 #[.slice none 0 0,.slice none 0 0,.slice none 0 0,.slice none 0 0,.int .i64 0] _ rfl HP.out Tryz.underlying27 rfl infoVw) rfl ⟨Vl.none,rfl,rfl,VwAt.none _,HQ.out⟩
 |true=>
 have X_0:=HX.out.cell (i:=0) rfl
 have X_1:=HX.out.cell (i:=1) rfl
 have X_2:=HX.out.cell (i:=2) rfl
 have X_3:=HX.out.cell (i:=3) rfl
 go_wp2_with fail
 refine(C2.out _).mono ?_
 rintro e w2 ⟨rfl,b2⟩
 clear X_0 X_1 X_2 X_3
 replace HV:=Hd (HV.out.later b2)
 replace HX:=Hd (HX.out.later b2)
 replace HR:=Hd (HR.out.later b2)
 have HB2:=Hd (below_on HB1.out b2)
 clear HB1
 clear b2 C2
 cases br with
 |false=>
  have hr:=HA.out
  simp[]at hr
  obtain⟨rfl,rfl⟩:=hr
  have R_0:=HR.out.cell (i:=0) rfl
  have R_1:=HR.out.cell (i:=1) rfl
  have R_2:=HR.out.cell (i:=2) rfl
  have R_3:=HR.out.cell (i:=3) rfl
  have R_4:=HR.out.cell (i:=4) rfl
  have R_f0:=HR.out.free 0
  have R_f1:=HR.out.free 1
  have R_f2:=HR.out.free 2
  have R_f3:=HR.out.free 3
  have R_f4:=HR.out.free 4
  have hh:w.heap.size≤g+2:=by omega
  have HP:=Hd (((((HR.out.put 0 (.slice none 0 0)).put 1 (.slice none 0 0)).put 2 (.slice none 0 0)).put 3 (.slice none 0 0)).put 4 (.int .i64 0))
  have HQ:=Hd (((((HB2.out.setCell (p:=⟨g+2,0,none⟩) hh (.slice none 0 0)).setCell (p:=⟨g+2,1,none⟩) hh (.slice none 0 0)).setCell (p:=⟨g+2,2,none⟩) hh (.slice none 0 0)).setCell (p:=⟨g+2,3,none⟩) hh (.slice none 0 0)).setCell (p:=⟨g+2,4,none⟩) hh (.int .i64 0))
  clear hh
  go_wp2
  exact bodyPost_ret (results_cell_tmp (p:=4) (t1:=5) (ty:=27) rfl _ _ (g+2) 27 #[.slice none 0 0,.slice none 0 0,.slice none 0 0,.slice none 0 0,.int .i64 0] _ rfl HP.out Tryz.underlying27 rfl infoVw) rfl ⟨Vl.none,rfl,rfl,VwAt.none _,HQ.out⟩
 |true=>
 have V_0:=HV.out.cell (i:=0) rfl
 have V_1:=HV.out.cell (i:=1) rfl
 have V_2:=HV.out.cell (i:=2) rfl
 have V_3:=HV.out.cell (i:=3) rfl
 have V_4:=HV.out.cell (i:=4) rfl
 have X_0:=HX.out.cell (i:=0) rfl
 have X_1:=HX.out.cell (i:=1) rfl
 have X_2:=HX.out.cell (i:=2) rfl
 have X_3:=HX.out.cell (i:=3) rfl
 go_wp2_with fail
 refine(C3.out _ HB2.out).mono ?_
 rintro e w3 ⟨rfl,b3⟩
 clear V_0 V_1 V_2 V_3 V_4 X_0 X_1 X_2 X_3
 replace HV:=Hd (HV.out.later b3)
 replace HX:=Hd (HX.out.later b3)
 replace HR:=Hd (HR.out.later b3)
 have HB3:=Hd (below_on HB2.out b3)
 clear HB2
 clear b3 C3
 cases wa with
 |false=>
  have hr:=HA.out
  simp[]at hr
  obtain⟨rfl,rfl⟩:=hr
  have R_0:=HR.out.cell (i:=0) rfl
  have R_1:=HR.out.cell (i:=1) rfl
  have R_2:=HR.out.cell (i:=2) rfl
  have R_3:=HR.out.cell (i:=3) rfl
  have R_4:=HR.out.cell (i:=4) rfl
  have R_f0:=HR.out.free 0
  have R_f1:=HR.out.free 1
  have R_f2:=HR.out.free 2
  have R_f3:=HR.out.free 3
  have R_f4:=HR.out.free 4
  have hh:w.heap.size≤g+2:=by omega
  have HP:=Hd (((((HR.out.put 0 (.slice none 0 0)).put 1 (.slice none 0 0)).put 2 (.slice none 0 0)).put 3 (.slice none 0 0)).put 4 (.int .i64 0))
  have HQ:=Hd (((((HB3.out.setCell (p:=⟨g+2,0,none⟩) hh (.slice none 0 0)).setCell (p:=⟨g+2,1,none⟩) hh (.slice none 0 0)).setCell (p:=⟨g+2,2,none⟩) hh (.slice none 0 0)).setCell (p:=⟨g+2,3,none⟩) hh (.slice none 0 0)).setCell (p:=⟨g+2,4,none⟩) hh (.int .i64 0))
  clear hh
  go_wp2
  exact bodyPost_ret (results_cell_tmp (p:=4) (t1:=5) (ty:=27) rfl _ _ (g+2) 27 #[.slice none 0 0,.slice none 0 0,.slice none 0 0,.slice none 0 0,.int .i64 0] _ rfl HP.out Tryz.underlying27 rfl infoVw) rfl ⟨Vl.none,rfl,rfl,VwAt.none _,HQ.out⟩
 |true=>
 have V_0:=HV.out.cell (i:=0) rfl
 have V_1:=HV.out.cell (i:=1) rfl
 have V_2:=HV.out.cell (i:=2) rfl
 have V_3:=HV.out.cell (i:=3) rfl
 have V_4:=HV.out.cell (i:=4) rfl
 go_wp2_with fail
 refine(C4.out (by first|rfl|trivial) _ HB3.out).mono ?_
 rintro e w4 ⟨q2,rfl,hq2,hV2,b4⟩
 clear V_0 V_1 V_2 V_3 V_4
 replace HV:=Hd (HV.out.later b4)
 replace HX:=Hd (HX.out.later b4)
 replace HR:=Hd (HR.out.later b4)
 have HB4:=Hd (below_on HB3.out b4)
 clear HB3
 clear b4 C4
 obtain⟨K2,ck2,kn2,Z2,cz2,zs2,H2,ch2,hs2,B2,cb2,bs2,room2⟩:=q2
 have HV2:=Hd hV2
 have HQ2:=Hd hq2
 clear hV2 hq2
 unfold vwCells
 dsimp only
 obtain⟨go,hggo⟩:∃go,w4.heap.size=go:=⟨_,rfl⟩
 have lt_V_go:g<go:=by have:=HV.out.lt;rw[hggo]at this;exact this
 have lt_X_go:g+1<go:=by have:=HX.out.lt;rw[hggo]at this;exact this
 have lt_R_go:g+2<go:=by have:=HR.out.lt;rw[hggo]at this;exact this
 go_upto_region 6 with (fail)
 have b5:=below_new (Below.refl w4.heap.size w4) (.cells #[.slice K2 kn2.length ck2,.slice Z2 zs2.length cz2,.slice H2 hs2.length ch2,.slice B2 bs2.length cb2,.int .i64 room2] 27)
 have hO:=Blk.new w4 27 #[.slice K2 kn2.length ck2,.slice Z2 zs2.length cz2,.slice H2 hs2.length ch2,.slice B2 bs2.length cb2,.int .i64 room2]
 obtain⟨w5,hw5⟩:∃x,w4.alloc (.cells #[.slice K2 kn2.length ck2,.slice Z2 zs2.length cz2,.slice H2 hs2.length ch2,.slice B2 bs2.length cb2,.int .i64 room2] 27)=x:=⟨_,rfl⟩
 rw[hw5]at b5 hO
 rw[hw5]
 replace HV:=Hd (HV.out.later b5)
 replace HX:=Hd (HX.out.later b5)
 replace HR:=Hd (HR.out.later b5)
 have HB5:=Hd (below_on HB4.out b5)
 clear HB4
 replace HV2:=Hd (HV2.out.later b5)
 rw[hggo]at hO
 have HO:=Hd hO
 clear b5 hw5 hO
 have V_3:=HV.out.cell (i:=3) rfl
 have V_4:=HV.out.cell (i:=4) rfl
 have X_0:=HX.out.cell (i:=0) rfl
 have X_1:=HX.out.cell (i:=1) rfl
 have X_2:=HX.out.cell (i:=2) rfl
 have X_3:=HX.out.cell (i:=3) rfl
 go_wp2_with fail
 refine(C5.out _ HB5.out).mono ?_
 rintro e w6 ⟨A3,c3,L3,rfl,hm3,hO3,b6⟩
 clear V_3 V_4 X_0 X_1 X_2 X_3
 replace HV:=Hd (HV.out.later b6)
 replace HX:=Hd (HX.out.later b6)
 replace HR:=Hd (HR.out.later b6)
 replace HO:=Hd (HO.out.later b6)
 have HB6:=Hd (below_on HB5.out b6)
 clear HB5
 replace HV2:=Hd (HV2.out.later b6)
 clear b6 C5
 have X3:=Hd hO3.one
 have M3:=Hd hm3
 clear hO3 hm3
 have O_3:=HO.out.cell (i:=3) rfl
 have O_f3:=HO.out.free 3
 go_upto_region 7 with (fail)
 clear O_3 O_f3
 obtain⟨w7,hw7⟩:∃x,w6.setCell ⟨go,3,none⟩ (.slice A3 L3.length c3)=x:=⟨_,rfl⟩
 have t_HV2:=HV2.out.far HO.out rfl 3 (.slice A3 L3.length c3)
 have t_X3:=X3.out.far HO.out rfl 3 (.slice A3 L3.length c3)
 have t_HV:=HV.out.far (p:=⟨go,3,none⟩) (by show g≠go;omega) (.slice A3 L3.length c3)
 have t_HX:=HX.out.far (p:=⟨go,3,none⟩) (by show g+1≠go;omega) (.slice A3 L3.length c3)
 have t_HR:=HR.out.far (p:=⟨go,3,none⟩) (by show g+2≠go;omega) (.slice A3 L3.length c3)
 have t_HO:Blk (w6.setCell ⟨go,3,none⟩ (.slice A3 L3.length c3)) (go) 27 #[.slice K2 kn2.length ck2,.slice Z2 zs2.length cz2,.slice H2 hs2.length ch2,.slice A3 L3.length c3,.int .i64 room2]:=HO.out.put 3 (.slice A3 L3.length c3)
 have t_HB7:=HB6.out.setCell (p:=⟨go,3,none⟩) (by show w.heap.size≤go;omega) (.slice A3 L3.length c3)
 rw[hw7]at t_HV2 t_X3 t_HV t_HX t_HR t_HO t_HB7
 rw[hw7]
 replace HV2:=Hd t_HV2
 replace X3:=Hd t_X3
 replace HV:=Hd t_HV
 replace HX:=Hd t_HX
 replace HR:=Hd t_HR
 replace HO:=Hd t_HO
 have HB7:=Hd t_HB7
 clear t_HV2 t_X3 t_HV t_HX t_HR t_HO t_HB7 hw7 HB6
 have O_0:=HO.out.cell (i:=0) rfl
 have O_1:=HO.out.cell (i:=1) rfl
 have O_2:=HO.out.cell (i:=2) rfl
 have O_3:=HO.out.cell (i:=3) rfl
 have O_4:=HO.out.cell (i:=4) rfl
 have hr:=HA.out
 simp[]at hr
 obtain⟨rfl,rfl⟩:=hr
 have R_0:=HR.out.cell (i:=0) rfl
 have R_1:=HR.out.cell (i:=1) rfl
 have R_2:=HR.out.cell (i:=2) rfl
 have R_3:=HR.out.cell (i:=3) rfl
 have R_4:=HR.out.cell (i:=4) rfl
 have R_f0:=HR.out.free 0
 have R_f1:=HR.out.free 1
 have R_f2:=HR.out.free 2
 have R_f3:=HR.out.free 3
 have R_f4:=HR.out.free 4
 have hh:w.heap.size≤g+2:=by omega
 have HP:=Hd (((((HR.out.put 0 (.slice K2 kn2.length ck2)).put 1 (.slice Z2 zs2.length cz2)).put 2 (.slice H2 hs2.length ch2)).put 3 (.slice A3 L3.length c3)).put 4 (.int .i64 room2))
 have HQ:=Hd (((((HB7.out.setCell (p:=⟨g+2,0,none⟩) hh (.slice K2 kn2.length ck2)).setCell (p:=⟨g+2,1,none⟩) hh (.slice Z2 zs2.length cz2)).setCell (p:=⟨g+2,2,none⟩) hh (.slice H2 hs2.length ch2)).setCell (p:=⟨g+2,3,none⟩) hh (.slice A3 L3.length c3)).setCell (p:=⟨g+2,4,none⟩) hh (.int .i64 room2))
 have FHV2:=Hd (((((HV2.out.far (show Blk _ (g+2) 27 #[.slice none 0 0,.slice none 0 0,.slice none 0 0,.slice none 0 0,.int .i64 0] from HR.out) rfl 0 (.slice K2 kn2.length ck2)).far (show Blk _ (g+2) 27 #[.slice K2 kn2.length ck2,.slice none 0 0,.slice none 0 0,.slice none 0 0,.int .i64 0] from(HR.out.put 0 (.slice K2 kn2.length ck2))) rfl 1 (.slice Z2 zs2.length cz2)).far (show Blk _ (g+2) 27 #[.slice K2 kn2.length ck2,.slice Z2 zs2.length cz2,.slice none 0 0,.slice none 0 0,.int .i64 0] from((HR.out.put 0 (.slice K2 kn2.length ck2)).put 1 (.slice Z2 zs2.length cz2))) rfl 2 (.slice H2 hs2.length ch2)).far (show Blk _ (g+2) 27 #[.slice K2 kn2.length ck2,.slice Z2 zs2.length cz2,.slice H2 hs2.length ch2,.slice none 0 0,.int .i64 0] from(((HR.out.put 0 (.slice K2 kn2.length ck2)).put 1 (.slice Z2 zs2.length cz2)).put 2 (.slice H2 hs2.length ch2))) rfl 3 (.slice A3 L3.length c3)).far (show Blk _ (g+2) 27 #[.slice K2 kn2.length ck2,.slice Z2 zs2.length cz2,.slice H2 hs2.length ch2,.slice A3 L3.length c3,.int .i64 0] from((((HR.out.put 0 (.slice K2 kn2.length ck2)).put 1 (.slice Z2 zs2.length cz2)).put 2 (.slice H2 hs2.length ch2)).put 3 (.slice A3 L3.length c3))) rfl 4 (.int .i64 room2))
 have FX3:=Hd (((((X3.out.far (show Blk _ (g+2) 27 #[.slice none 0 0,.slice none 0 0,.slice none 0 0,.slice none 0 0,.int .i64 0] from HR.out) rfl 0 (.slice K2 kn2.length ck2)).far (show Blk _ (g+2) 27 #[.slice K2 kn2.length ck2,.slice none 0 0,.slice none 0 0,.slice none 0 0,.int .i64 0] from(HR.out.put 0 (.slice K2 kn2.length ck2))) rfl 1 (.slice Z2 zs2.length cz2)).far (show Blk _ (g+2) 27 #[.slice K2 kn2.length ck2,.slice Z2 zs2.length cz2,.slice none 0 0,.slice none 0 0,.int .i64 0] from((HR.out.put 0 (.slice K2 kn2.length ck2)).put 1 (.slice Z2 zs2.length cz2))) rfl 2 (.slice H2 hs2.length ch2)).far (show Blk _ (g+2) 27 #[.slice K2 kn2.length ck2,.slice Z2 zs2.length cz2,.slice H2 hs2.length ch2,.slice none 0 0,.int .i64 0] from(((HR.out.put 0 (.slice K2 kn2.length ck2)).put 1 (.slice Z2 zs2.length cz2)).put 2 (.slice H2 hs2.length ch2))) rfl 3 (.slice A3 L3.length c3)).far (show Blk _ (g+2) 27 #[.slice K2 kn2.length ck2,.slice Z2 zs2.length cz2,.slice H2 hs2.length ch2,.slice A3 L3.length c3,.int .i64 0] from((((HR.out.put 0 (.slice K2 kn2.length ck2)).put 1 (.slice Z2 zs2.length cz2)).put 2 (.slice H2 hs2.length ch2)).put 3 (.slice A3 L3.length c3))) rfl 4 (.int .i64 room2))
 clear hh
 go_wp2
 exact bodyPost_ret (results_cell_tmp (p:=4) (t1:=5) (ty:=27) rfl _ _ (g+2) 27 #[.slice K2 kn2.length ck2,.slice Z2 zs2.length cz2,.slice H2 hs2.length ch2,.slice A3 L3.length c3,.int .i64 room2] _ rfl HP.out Tryz.underlying27 rfl infoVw) rfl ⟨⟨K2,ck2,kn2,Z2,cz2,zs2,H2,ch2,hs2,A3,c3,L3,room2⟩,rfl,(by show(⟨kn2,zs2.map Zc.zn,hs2,L3.map Bc.b,room2⟩:Vw)=_;rw[M3.out];injection HQ2.out with e1 e2 e3 e4 e5;exact congr (congr (congrArg (fun a b c=>Vw.mk a b c pl room2) e1) e2) e3 |>.trans (by rw[show room2=room from e5])),⟨FHV2.out.k,FHV2.out.z,FHV2.out.h,FX3.out⟩,HQ.out⟩
theorem Vw.eq_is(x y:Vw):decide (x=y)=(decide (x.k=y.k)&&(decide (x.z=y.z)&&(decide (x.h=y.h)&&(decide (x.b=y.b)&&decide (x.r=y.r))))):=by
 cases x
 cases y
 simp[Bool.decide_and]
set_option maxRecDepth 100000 in
set_option maxHeartbeats 6400000 in
theorem vsame_any(q p:Vl)(w:World)(h:VwAt w q)(h2:VwAt w p):Calls Tryz.prog 17 #[.agg (vwCells q),.agg (vwCells p)] w (Says (.bool (decide (q.vw=p.vw))) w):=by
 obtain⟨t,ht⟩:∃t,decide (q.vw=p.vw)=t:=⟨_,rfl⟩
 rw[ht]
 rw[Vw.eq_is]at ht
 have c1:=fun wx (hb:Below w.heap.size w wx)=>rsame_any q.K p.K q.ck p.ck q.k p.k wx (h.later hb).k.len (h.later hb).k.stamps (h2.later hb).k.stamps
 have c2:=fun wx (hb:Below w.heap.size w wx)=>zsame_any q.Z p.Z q.cz p.cz q.z p.z wx (h.later hb).z (h2.later hb).z
 have c3:=fun wx (hb:Below w.heap.size w wx)=>nwrites_any q.H p.H q.ch p.ch q.h p.h wx (h.later hb).h (h2.later hb).h
 have c4:=fun wx (hb:Below w.heap.size w wx)=>csame_any q.B p.B q.cb p.cb q.b p.b wx (h.later hb).b (h2.later hb).b
 clear h h2
 obtain⟨b1,h1⟩:∃f,decide (q.k=p.k)=f:=⟨_,rfl⟩
 obtain⟨b2,h2⟩:∃f,decide (q.z.map Zc.zn=p.z.map Zc.zn)=f:=⟨_,rfl⟩
 obtain⟨b3,h3⟩:∃f,decide (q.h=p.h)=f:=⟨_,rfl⟩
 obtain⟨b4,h4⟩:∃f,decide (q.b.map Bc.b=p.b.map Bc.b)=f:=⟨_,rfl⟩
 obtain⟨b5,h5⟩:∃f,decide (q.r=p.r)=f:=⟨_,rfl⟩
 rw[h1]at c1
 rw[h2]at c2
 rw[h3]at c3
 rw[h4]at c4
 have HA:=Hd (show(b1&&(b2&&(b3&&(b4&&b5))))=t from by rw[←h1,←h2,←h3,←h4,←h5];exact ht)
 obtain⟨K,ck,kn,Z,cz,zs,H,ch,hs,B,cb,bs,room⟩:=q
 obtain⟨K',ck',kp,Z',cz',zp,H',ch',hp,B',cb',bp,room'⟩:=p
 unfold vwCells
 dsimp only at c1 c2 c3 c4 h5 ⊢
 have C1:=Hd c1
 have C2:=Hd c2
 have C3:=Hd c3
 have C4:=Hd c4
 have H5:=Hd h5
 clear c1 c2 c3 c4 ht h1 h2 h3 h4 h5
 have hb0:=below_new (below_new (Below.refl w.heap.size w) (.cells #[.slice K kn.length ck,.slice Z zs.length cz,.slice H hs.length ch,.slice B bs.length cb,.int .i64 room] 27)) (.cells #[.slice K' kp.length ck',.slice Z' zp.length cz',.slice H' hp.length ch',.slice B' bp.length cb',.int .i64 room'] 27)
 have hV:=(Blk.new w 27 #[.slice K kn.length ck,.slice Z zs.length cz,.slice H hs.length ch,.slice B bs.length cb,.int .i64 room]).alloc (.cells #[.slice K' kp.length ck',.slice Z' zp.length cz',.slice H' hp.length ch',.slice B' bp.length cb',.int .i64 room'] 27)
 have hP:=Blk.new (w.alloc (.cells #[.slice K kn.length ck,.slice Z zs.length cz,.slice H hs.length ch,.slice B bs.length cb,.int .i64 room] 27)) 27 #[.slice K' kp.length ck',.slice Z' zp.length cz',.slice H' hp.length ch',.slice B' bp.length cb',.int .i64 room']
 simp only[World.size_alloc]at hP
 obtain⟨W,hW⟩:∃W,(w.alloc (.cells #[.slice K kn.length ck,.slice Z zs.length cz,.slice H hs.length ch,.slice B bs.length cb,.int .i64 room] 27)).alloc (.cells #[.slice K' kp.length ck',.slice Z' zp.length cz',.slice H' hp.length ch',.slice B' bp.length cb',.int .i64 room'] 27)=W:=⟨_,rfl⟩
 rw[hW]at hb0 hV hP
 have HW:=Hd hW
 obtain⟨g,hgg⟩:∃g,w.heap.size=g:=⟨_,rfl⟩
 rw[hgg]at hV hP
 have HV:=Hd (show Blk W (g) 27 #[.slice K kn.length ck,.slice Z zs.length cz,.slice H hs.length ch,.slice B bs.length cb,.int .i64 room] from hV)
 have HP:=Hd (show Blk W (g+1) 27 #[.slice K' kp.length ck',.slice Z' zp.length cz',.slice H' hp.length ch',.slice B' bp.length cb',.int .i64 room'] from hP)
 have HB0:=Hd hb0
 clear hW hb0 hV hP
 go_enter Tryz.func17,Tryz.ntmps17
 go_upto_region 1 with (fail)
 rw[HW.out]
 clear HW
 have V_0:=HV.out.cell (i:=0) rfl
 have P_0:=HP.out.cell (i:=0) rfl
 go_wp2_with fail
 refine(C1.out _ HB0.out).mono ?_
 rintro e w1 ⟨rfl,b1⟩
 clear V_0 P_0
 replace HV:=Hd (HV.out.later b1)
 replace HP:=Hd (HP.out.later b1)
 have HB1:=Hd (below_on HB0.out b1)
 clear HB0
 clear b1 C1
 cases b1 with
 |false=>
  obtain rfl:=HA.out
  have HQ:=Hd HB1.out
  clear HA
  go_wp2
  go_ret
  exact⟨rfl,HQ.out⟩
 |true=>
 have V_1:=HV.out.cell (i:=1) rfl
 have P_1:=HP.out.cell (i:=1) rfl
 go_wp2_with fail
 refine(C2.out _ HB1.out).mono ?_
 rintro e w2 ⟨rfl,b2⟩
 clear V_1 P_1
 replace HV:=Hd (HV.out.later b2)
 replace HP:=Hd (HP.out.later b2)
 have HB2:=Hd (below_on HB1.out b2)
 clear HB1
 clear b2 C2
 cases b2 with
 |false=>
  obtain rfl:=HA.out
  have HQ:=Hd HB2.out
  clear HA
  go_wp2
  go_ret
  exact⟨rfl,HQ.out⟩
 |true=>
 have V_2:=HV.out.cell (i:=2) rfl
 have P_2:=HP.out.cell (i:=2) rfl
 go_wp2_with fail
 refine(C3.out _ HB2.out).mono ?_
 rintro e w3 ⟨rfl,b3⟩
 clear V_2 P_2
 replace HV:=Hd (HV.out.later b3)
 replace HP:=Hd (HP.out.later b3)
 have HB3:=Hd (below_on HB2.out b3)
 clear HB2
 clear b3 C3
 cases b3 with
 |false=>
  obtain rfl:=HA.out
  have HQ:=Hd HB3.out
  clear HA
  go_wp2
  go_ret
  exact⟨rfl,HQ.out⟩
 |true=>
 have V_3:=HV.out.cell (i:=3) rfl
 have P_3:=HP.out.cell (i:=3) rfl
 go_wp2_with fail
 refine(C4.out _ HB3.out).mono ?_
 rintro e w4 ⟨rfl,b4⟩
 clear V_3 P_3
 replace HV:=Hd (HV.out.later b4)
 replace HP:=Hd (HP.out.later b4)
 have HB4:=Hd (below_on HB3.out b4)
 clear HB3
 clear b4 C4
 cases b4 with
 |false=>
  obtain rfl:=HA.out
  have HQ:=Hd HB4.out
  clear HA
  go_wp2
  go_ret
  exact⟨rfl,HQ.out⟩
 |true=>
 have V_4:=HV.out.cell (i:=4) rfl
 have P_4:=HP.out.cell (i:=4) rfl
 cases b5 with
 |false=>
  have d9:(room == room')=false:=beq_eq_false_iff_ne.2 (of_decide_eq_false H5.out)
  clear H5
  obtain rfl:=HA.out
  have HQ:=Hd HB4.out
  clear HA
  go_wp2
  go_ret
  exact⟨rfl,HQ.out⟩
 |true=>
  have d9:(room == room')=true:=beq_iff_eq.2 (of_decide_eq_true H5.out)
  clear H5
  obtain rfl:=HA.out
  have HQ:=Hd HB4.out
  clear HA
  go_wp2
  go_ret
  exact⟨rfl,HQ.out⟩
end Go.Proofs.YtjlfehpockfkdaaGreat
namespace Go.Proofs.YtjlfehpockfkdaaGreat
open Go.RowKit
namespace Vw
theorem body_ok{v:Vw}{x:Bd}(h:(bodyR v x).2=0):Ok (bodyR v x).1:=by
 by_cases h1:fmd v=true∧Wi.bright x=true
 ·by_cases h2:wants v x=true
  ·have hv:=(ok_iff v).1 h1.1
   have hb:bodyR v x=(⟨v.k,v.z,v.h,(Ca.putR v.b v.r x).1,v.r⟩,0):=by unfold bodyR;rw[if_pos h1,if_pos h2]
   rw[hb]
   obtain⟨-,q2,q3⟩:=Ca.put_fmd hv.b h1.2
   refine⟨hv.k,hv.z,hv.h,q2,hv.below,hv.has,fun y hy =>?_⟩
   rcases q3 y hy with rfl|⟨h3,-⟩
   ·exact h2
   ·exact hv.wants y h3
  ·unfold bodyR at h;rw[if_pos h1,if_neg h2]at h;cases h
 ·unfold bodyR at h;rw[if_neg h1]at h;cases h
end Vw
end Go.Proofs.YtjlfehpockfkdaaGreat
namespace Go.Proofs.YtjlfehpockfkdaaGreat
open Go.ChangeShapes Go.WideShapes Go.RowKit
section
variable {H:Type} {enc:TypeId × Value→H} {P:Program}
theorem args_stay(hl:laidOutB P=true){W W':World}{sp:Nat→Bool}(hb:Below W.heap.size W W') :
  ∀{ts:List TypeId} {vs:List Value} {ds:List (DataW H)} {ps:List MemPlace},(∀t∈ts,P.readableRec t=true∧t<P.types.size) →
   DataW.TrodAll enc P W 0 (fun _=>true) true ts vs ds ps→(∀x∈ps,x.block<W.heap.size)→(∀x∈ps,sp x.block=true) →
   DataW.TrodAll enc P W' 0 sp true ts vs ds ps
 | [],_,_,_,_,h,_,_=>by
  obtain⟨rfl,rfl,rfl⟩:=trodAll_nil h
  exact trodAll_mk0
 |t::ts,_,_,_,ht,h,hlt,hsp=>by
  obtain⟨v,vs1,d,ds1,a,b,rfl,rfl,rfl,h1,h2⟩:=trodAll_cons h
  have htt:=ht t (List.mem_cons_self ..)
  refine⟨a,b,?_,?_,rfl⟩
  ·exact WideElems.Trod_stays hl htt.1 htt.2 h1 (fun x hx=>hb.same (hlt x (List.mem_append_left _ hx))) (fun x hx=>hsp x (List.mem_append_left _ hx))
  ·exact args_stay hl hb (fun t' h'=>ht t' (List.mem_cons_of_mem _ h')) h2 (fun x hx=>hlt x (List.mem_append_right _ hx)) (fun x hx=>hsp x (List.mem_append_right _ hx))
theorem law_post(hl:laidOutB P=true){f:Func}{s:ChangeSpec}{W W':World}{args:Array Value}{ds gs:List (DataW H)}{before:List MemPlace}{tb:TypeId}
  (hW:DataW.Whole enc P f.params.toList s.vars false W args.toList ds gs before)
  (hvars:s.vars=[])(hfn:s.fn H (ds++gs)={ results:=[.lit (.bool true)],args:=ds })
  (hres:f.resultTypes=#[tb])(htb:P.underlying tb=some .bool)
  (hts:∀t∈f.params.toList,P.readableRec t=true∧t<P.types.size)(hb:Below W.heap.size W W') :
  s.post enc P f false true false false W args (.bool true) W':=by
 have hlt:∀x∈before,x.block<W.heap.size:=fun x hx=>hW.lt x hx
 have hW0:=hW
 obtain⟨p,q,hA,hV,hpq,_,_⟩:=hW0
 rw[hvars]at hV
 obtain⟨rfl,rfl⟩:=trodVars_none hV
 obtain rfl:before=p:=by rw[hpq,List.append_nil]
 refine⟨ds,[],before,[],before,[],hW,?_,?_,?_,?_,fun h=>by cases h⟩
 ·rw[hfn,hres]
  exact trodAll_mk1 (shut_bool htb _)
 ·rw[hfn]
  exact args_stay hl hb hts hA hlt (fun x hx=>by simpa using hlt x hx)
 ·rw[hvars,hfn]
  rfl
 ·exact World.keptBut_mono (fun x hx=>hx.elim) (hb.frame (fun _=>False))
theorem stamp_cells{w:World}{base:Nat}{spare:Nat→Bool}{held:Bool}{fuel:Nat}{t ti:TypeId}{f0 f1:Field}{cs:List Value}{x:DataW H × List MemPlace}
  (hs:P.underlying t=some (.struct #[f0,f1]))(hone:Deep.oneCellFields P #[f0,f1]=true)(hC:P.cellsOf t=2)(hi0:f0.type=ti)(hi1:f1.type=ti)(hi:P.underlying ti=some (.int .i64))
  (h:DataW.trod enc P w base spare held fuel t cs=some x) :
  ∃c n:Int,cs=[.int .i64 c,.int .i64 n]∧x.2=[] ∧ -9223372036854775808≤c∧c≤9223372036854775807 ∧ -9223372036854775808≤n∧n≤9223372036854775807:=by
 obtain⟨y0,y1,m,rfl,hl,hy0,hy1⟩:=trod_struct2 hs h
 obtain⟨o0,k0⟩:=Deep.hone_of hone 0 f0 rfl
 obtain⟨o1,k1⟩:=Deep.hone_of hone 1 f1 rfl
 rw[hC]at hl
 obtain⟨a0,a1,rfl⟩:∃a0 a1,cs=[a0,a1]:=by
  match cs,hl with
  | [a0,a1],_=>exact⟨a0,a1,rfl⟩
 rw[o0,k0,hi0]at hy0
 rw[o1,k1,hi1]at hy1
 obtain⟨a,e0,rfl,wa⟩:=DataW.trod_int hi hy0
 obtain⟨b,e1,rfl,wb⟩:=DataW.trod_int hi hy1
 simp at e0 e1
 subst e0 e1
 exact⟨a,b,rfl,rfl,(bounds_i64 wa).1,(bounds_i64 wa).2,(bounds_i64 wb).1,(bounds_i64 wb).2⟩
end
end Go.Proofs.YtjlfehpockfkdaaGreat
namespace Go.Proofs.YtjlfehpockfkdaaGreat
open Go.ChangeShapes Go.WideShapes Go.RowKit Go.Deep
theorem pick{α:Type}(z:α){n:Nat}{p:Nat→α→Prop}(h:∀i,i<n→∃s,p i s):∃f:Nat→α,∀i,i<n→p i (f i):=by
 refine⟨fun i=>if hi:i<n then Classical.choose (h i hi) else z,fun i hi =>?_⟩
 simp only[hi,dite_true]
 exact Classical.choose_spec (h i hi)
theorem flat_get{α:Type}{size:Nat}(f:α→List Value)(hf:∀a,(f a).length=size):∀(l:List α) (j:Nat) (u:Value),(l.flatMap f)[j]?=some u →
  ∃i r a,l[i]?=some a∧r<size∧j=i*size+r∧(f a)[r]?=some u
 | [],j,u,h=>by simp at h
 |a::l,j,u,h=>by
  rw[List.flatMap_cons]at h
  by_cases hj:j<size
  ·rw[List.getElem?_append_left (by rw[hf];exact hj)]at h
   exact⟨0,j,a,rfl,hj,by omega,h⟩
  ·rw[List.getElem?_append_right (by rw[hf];omega),hf]at h
   obtain⟨i,r,b,h1,h2,h3,h4⟩:=flat_get f hf l (j-size) u h
   refine⟨i+1,r,b,by simpa using h1,h2,?_,h4⟩
   rw[Nat.add_mul]
   omega
set_option maxRecDepth 100000
theorem list3{cs:List Value}(h:cs.length=3):∃a0 a1 a2,cs=[a0,a1,a2]:=by
 match cs,h with
 | [a0,a1,a2],_=>exact⟨a0,a1,a2,rfl⟩
theorem list2{cs:List Value}(h:cs.length=2):∃a0 a1,cs=[a0,a1]:=by
 match cs,h with
 | [a0,a1],_=>exact⟨a0,a1,rfl⟩
section
variable {H:Type} {enc:TypeId × Value→H} {w:World}
def LenG(d:DataW H)(k:Nat):Prop:=k=0∨∃elems spare,d = .slice elems spare∧elems.length=k
theorem open_list_with{P:Program}{α:Type}(z:α)(f:α→List Value)(good:α→DataW H→Prop){size:Nat}(hf:∀a,(f a).length=size){t e:TypeId}{fuel0:Nat}{cs0:List Value}{y:DataW H × List MemPlace}
  (ht:P.underlying t=some (.slice e))(hC:P.cellsOf e=size)(hsz:0<size)
  (helem:∀(fuel:Nat) (cs:List Value) (x:DataW H × List MemPlace),DataW.trod enc P w 0 (fun _=>true) true fuel e cs=some x→∃a,cs=f a∧good a x.1)
  (hfu:DataW.trod enc P w 0 (fun _=>true) true fuel0 t cs0=some y) :
  ∃(A:Option Addr) (cap:Nat) (l:List α),cs0=[.slice A l.length cap]∧l.length≤cap∧cap≤maxLen∧(A=none→l.length=0∧cap=0)∧Lies w A (l.flatMap f) ∧
   (l=[]∨∃elems spare,y.1 = .slice elems spare∧elems.length=l.length∧∀a∈l,∃d∈elems,good a d):=by
 rcases open_slice ht hfu with ⟨hcs,hx⟩|⟨a,len,cap,m,n,D,Pl,hcs,_,hl,hm,hmm,hx,hi⟩
 ·subst hcs hx
  exact⟨none,0,[],rfl,Nat.le_refl _,Nat.zero_le _,fun _=>⟨rfl,rfl⟩,Lies.nil,.inl rfl⟩
 ·simp at hmm
  subst hmm
  obtain⟨g,hg⟩:=pick (n:=len) (p:=fun i s=>good s (D i)∧∀j,j<size→w.cell? (a.add (i*size+j))=(f s)[j]?) z (fun i hi'=>by
   obtain⟨cs',hc,ht'⟩:=hi i (by omega)
   rw[hC]at hc
   obtain⟨s,rfl,hs⟩:=helem _ _ _ ht'
   obtain⟨_,_,hcell⟩:=World.cells?_some hc
   refine⟨s,hs,fun j hj =>?_⟩
   rw[←hcell j hj,Go.Deep.add_add])
  refine⟨some a,m,(List.range len).map g,by simpa using hcs,by simpa using hl,hm,(fun h=>by cases h),(fun hne =>?_),.inr ⟨_,_,by rw[hx],by simp,fun s hs =>?_⟩⟩
  ·have hpos:0<len:=by
    rcases Nat.eq_zero_or_pos len with h0|h0
    ·subst h0;simp at hne
    ·exact h0
   obtain⟨b,off,spot⟩:=a
   have h00:=(hg 0 hpos).2 0 hsz
   have hspot:spot=none:=by
    have hlen:=hf (g 0)
    rw[List.getElem?_eq_getElem (by omega)]at h00
    simpa[Addr.add] using World.cell?_spot h00
   subst hspot
   refine⟨b,off,rfl,fun j u hu =>?_⟩
   obtain⟨i,r,s,h1,h2,h3,h4⟩:=flat_get f hf _ j u hu
   have hil:i<len:=by
    have:=(List.getElem?_eq_some_iff.1 h1).1
    simpa using this
   simp[hil]at h1
   subst h1
   rw[←Go.WideShapes.add_plain,h3,(hg i hil).2 r h2]
   exact h4
  ·simp at hs
   obtain⟨i,hil,rfl⟩:=hs
   exact⟨D i,List.mem_map.2 ⟨i,List.mem_range.2 hil,rfl⟩,(hg i hil).1⟩
theorem dk_weightsAll(P:Program)(e:TypeId):∀l:List (DataW H),DataW.weightsAll P e l=l.flatMap (DataW.weights P e)
 | []=>rfl
 |d::r=>by rw[List.flatMap_cons,←dk_weightsAll P e r];rfl
end
end Go.Proofs.YtjlfehpockfkdaaGreat
namespace Go.Proofs.YtjlfehpockfkdaaGreat
open Go.ChangeShapes Go.WideShapes Go.RowKit Go.Deep
set_option maxRecDepth 100000
section
variable {H:Type} {enc:TypeId × Value→H} {w:World}
theorem znInt:Tryz.prog.cellsOf 3=1:=by kernel_rfl
theorem znSt:Tryz.prog.cellsOf 46=2:=by kernel_rfl
theorem znSp:Tryz.prog.cellsOf 97=2:=by kernel_rfl
theorem znLS:Tryz.prog.cellsOf 22=1:=by kernel_rfl
theorem znZn:Tryz.prog.cellsOf 99=3:=by kernel_rfl
theorem znLZ:Tryz.prog.cellsOf 23=1:=by kernel_rfl
theorem znBytesS:Tryz.prog.bytesOf 46=16:=by kernel_rfl
theorem znBytesZ:Tryz.prog.bytesOf 99=40:=by kernel_rfl
theorem zn_stampE(fuel:Nat)(cs:List Value)(x:DataW H × List MemPlace)(h:DataW.trod enc Tryz.prog w 0 (fun _=>true) true fuel 46 cs=some x):∃a:Int × Int,cs=stCells [a]:=by
 obtain⟨y0,y1,m,hx,hl,q0,q1⟩:=trod_struct2 Tryz.underlying46 h
 rw[znSt]at hl
 obtain⟨a0,a1,rfl⟩:=list2 hl
 dsimp only at q0 q1
 rw[znInt]at q0 q1
 obtain⟨n,e0,_,_⟩:=DataW.trod_int Tryz.underlying3 q0
 obtain⟨s,e1,_,_⟩:=DataW.trod_int Tryz.underlying3 q1
 simp at e0 e1
 subst e0 e1
 exact⟨(n,s),rfl⟩
theorem zn_flat(l:List (Int × Int)):l.flatMap (fun n=>stCells [n])=stCells l:=by
 induction l with
 |nil=>rfl
 |cons s r ih=>
  rw[List.flatMap_cons,ih]
  rfl
theorem zn_vecE{fuel:Nat}{cs:List Value}{x:DataW H × List MemPlace}(h:DataW.trod enc Tryz.prog w 0 (fun _=>true) true fuel 22 cs=some x):∃A c l,cs=[.slice A (List.length l) c]∧OneL w A c l∧LenG x.1 l.length:=by
 obtain⟨A,c,l,h1,h2,h3,h4,h5,h6⟩:=open_list_with ((0,0):Int × Int) (fun n=>stCells [n]) (fun _ _=>True) (size:=2) (fun _=>rfl) Tryz.underlying22 znSt (by decide) (fun fuel cs x h=>(zn_stampE fuel cs x h).imp fun _ h=>⟨h,trivial⟩) h
 rw[zn_flat]at h5
 refine⟨A,c,l,h1,⟨h2,h3,h4,h5⟩,?_⟩
 rcases h6 with rfl|⟨el,sp,h7,h8,_⟩
 ·exact .inl rfl
 ·exact .inr ⟨el,sp,h7,h8⟩
def ZoneG(w:World)(z:Zc)(d:DataW H):Prop:=OneL w z.X z.c z.l∧∃d0 d1,d = .agg [d0,d1]∧LenG d1 z.l.length
def Zc.zero:Zc:=⟨0,0,Option.none,0,[]⟩
theorem zn_zoneE(fuel:Nat)(cs:List Value)(x:DataW H × List MemPlace)(h:DataW.trod enc Tryz.prog w 0 (fun _=>true) true fuel 99 cs=some x):∃z:Zc,cs=zCells [z]∧ZoneG w z x.1:=by
 obtain⟨y0,y1,m,hx,hl,q0,q1⟩:=trod_struct2 Tryz.underlying99 h
 rw[znZn]at hl
 obtain⟨a0,a1,a2,rfl⟩:=list3 hl
 dsimp only at q0 q1
 rw[znSp]at q0
 rw[znLS]at q1
 obtain⟨z0,z1,m2,hx2,hl2,r0,r1⟩:=trod_struct2 Tryz.underlying97 q0
 dsimp only at r0 r1
 rw[znInt]at r0 r1
 obtain⟨n,e0,_,_⟩:=DataW.trod_int Tryz.underlying3 r0
 obtain⟨s,e1,_,_⟩:=DataW.trod_int Tryz.underlying3 r1
 obtain⟨X,c,l,e2,o1,g1⟩:=zn_vecE q1
 simp at e0 e1 e2
 subst e0 e1 e2
 exact⟨⟨n,s,X,c,l⟩,rfl,o1,_,_,congrArg Prod.fst hx,g1⟩
theorem zCells_flat(l:List Zc):l.flatMap (fun f=>zCells [f])=zCells l:=by
 induction l with
 |nil=>rfl
 |cons s r ih=>
  rw[List.flatMap_cons,ih]
  rfl
theorem fit_zones{ts:List TypeId}{ds:List (DataW H)}(h:(DataW.weightsEach Tryz.prog ts ds).all (· ≤ reachBytes)=true){j:Nat}{d:DataW H}{L:List Zc}(ht:ts[j]?=some 23)(hd:ds[j]?=some d)
  (h6:L=[]∨∃elems spare,d = .slice elems spare∧elems.length=L.length∧∀f∈L,∃x∈elems,ZoneG w f x):L.length*40≤140737488355328∧∀z∈L,z.l.length*16≤140737488355328:=by
 rcases h6 with rfl|⟨elems,spare,rfl,hl,h7⟩
 ·exact⟨by simp,fun _ h=>by cases h⟩
 ·have top:∀k,k∈DataW.weights Tryz.prog 23 (.slice elems spare)→k≤reachBytes:=fun k hk=>by
   simpa using List.all_eq_true.1 h _ (DataW.weights_mem_each ht hd _ hk)
  refine⟨?_,fun f hf =>?_⟩
  ·have h1:=top ((elems.length+spare.length)*Tryz.prog.bytesOf 99) (by unfold DataW.weights;rw[Tryz.underlying23];exact List.mem_cons_self ..)
   rw[znBytesZ]at h1
   simp only[reachBytes]at h1
   omega
  ·obtain⟨x,hx,-,q0,q1,rfl,z⟩:=h7 f hf
   rcases z with z|⟨el,sp,rfl,z⟩
   ·omega
   ·have h1:=top ((el.length+sp.length)*Tryz.prog.bytesOf 46) (by
     unfold DataW.weights
     rw[Tryz.underlying23]
     refine List.mem_cons_of_mem _ (List.mem_append_left _ ?_)
     rw[dk_weightsAll]
     refine List.mem_flatMap.2 ⟨_,hx,?_⟩
     unfold DataW.weights
     rw[Tryz.underlying99]
     refine DataW.weights_mem_each (j:=1) rfl rfl _ ?_
     unfold DataW.weights
     rw[Tryz.underlying22]
     exact List.mem_cons_self ..)
    rw[znBytesS]at h1
    simp only[reachBytes]at h1
    omega
end
end Go.Proofs.YtjlfehpockfkdaaGreat
