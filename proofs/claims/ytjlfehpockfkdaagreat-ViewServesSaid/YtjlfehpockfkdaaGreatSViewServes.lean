/-
  For any view, any number and any list of spans, the law ViewServes returns true and leaves its arguments as they were. No condition.
-/
import Derived.Test.YtjlfehpockfkdaaGreatB01
import Derived.Lib.SlBytesConst
import Derived.ProofKit
import Derived.Below
import Derived.WideKeyArgs
import Derived.OpenShut
import Derived.Lib.SmallJoins
import Derived.Deep.Slices
import Derived.Test.YtjlfehpockfkdaaGreatRows
import Derived.WalkKit
import Derived.SizedLaws
import Derived.Test.YtjlfehpockfkdaaGreatSViewServesA
import Derived.Test.YtjlfehpockfkdaaGreatB02
import Derived.Test.YtjlfehpockfkdaaGreatB04
import Derived.Test.YtjlfehpockfkdaaGreatB03
import Derived.Test.YtjlfehpockfkdaaGreatB05
import Derived.Test.YtjlfehpockfkdaaGreatB07
import Derived.Test.YtjlfehpockfkdaaGreatB06
namespace Go.Proofs.YtjlfehpockfkdaaGreat
open Go.RowKit Fb
set_option maxRecDepth 100000 in
set_option maxHeartbeats 6400000 in
theorem vnew_any(room:Int)(w:World):Calls Tryz.prog 14 #[.int .i64 room] w (GivesVwE (Vw.newR room).1 (Vw.newR room).2 w):=by
 by_cases c0:room<0
 ·have d0:decide (room<0)=true:=decide_eq_true c0
  rw[show Vw.newR room=(Vw.zero,1) from by unfold Vw.newR;rw[if_neg (by omega)]]
  clear c0
  have hb0:=below_new (Below.refl w.heap.size w) (.cells #[.slice none 0 0,.slice none 0 0,.slice none 0 0,.slice none 0 0,.int .i64 0] 27)
  have hR:=Blk.new w 27 #[.slice none 0 0,.slice none 0 0,.slice none 0 0,.slice none 0 0,.int .i64 0]
  obtain⟨W,hW⟩:∃W,w.alloc (.cells #[.slice none 0 0,.slice none 0 0,.slice none 0 0,.slice none 0 0,.int .i64 0] 27)=W:=⟨_,rfl⟩
  rw[hW]at hb0 hR
  have HW:=Hd hW
  obtain⟨g,hgg⟩:∃g,w.heap.size=g:=⟨_,rfl⟩
  rw[hgg]at hR
  have HR:=Hd (show Blk W (g) 27 #[.slice none 0 0,.slice none 0 0,.slice none 0 0,.slice none 0 0,.int .i64 0] from hR)
  have HB0:=Hd hb0
  clear hW hb0 hR
  go_enter Tryz.func14,Tryz.ntmps14
  go_upto_region 1 with (fail)
  rw[HW.out]
  clear HW
  have R_0:=HR.out.cell (i:=0) rfl
  have R_1:=HR.out.cell (i:=1) rfl
  have R_2:=HR.out.cell (i:=2) rfl
  have R_3:=HR.out.cell (i:=3) rfl
  have R_4:=HR.out.cell (i:=4) rfl
  have R_f0:=HR.out.free 0
  have R_f1:=HR.out.free 1
  have R_f2:=HR.out.free 2
  have R_f3:=HR.out.free 3
  have R_f4:=HR.out.free 4
  have hh:w.heap.size≤g:=by omega
  have HP:=Hd (((((HR.out.put 0 (.slice none 0 0)).put 1 (.slice none 0 0)).put 2 (.slice none 0 0)).put 3 (.slice none 0 0)).put 4 (.int .i64 0))
  have HQ:=Hd (((((HB0.out.setCell (p:=⟨g,0,none⟩) hh (.slice none 0 0)).setCell (p:=⟨g,1,none⟩) hh (.slice none 0 0)).setCell (p:=⟨g,2,none⟩) hh (.slice none 0 0)).setCell (p:=⟨g,3,none⟩) hh (.slice none 0 0)).setCell (p:=⟨g,4,none⟩) hh (.int .i64 0))
  clear hh
  go_wp2
  exact bodyPost_ret (results_cell_tmp (p:=2) (t1:=3) (ty:=27) rfl _ _ (g) 27 #[.slice none 0 0,.slice none 0 0,.slice none 0 0,.slice none 0 0,.int .i64 0] _ rfl HP.out Tryz.underlying27 rfl infoVw) rfl ⟨Vl.none,rfl,rfl,VwAt.none _,HQ.out⟩
 by_cases c1:16777216<room
 ·have d0:decide (room<0)=false:=decide_eq_false c0
  have d1:decide (16777216<room)=true:=decide_eq_true c1
  rw[show Vw.newR room=(Vw.zero,1) from by unfold Vw.newR;rw[if_neg (by omega)]]
  clear c0 c1
  have hb0:=below_new (Below.refl w.heap.size w) (.cells #[.slice none 0 0,.slice none 0 0,.slice none 0 0,.slice none 0 0,.int .i64 0] 27)
  have hR:=Blk.new w 27 #[.slice none 0 0,.slice none 0 0,.slice none 0 0,.slice none 0 0,.int .i64 0]
  obtain⟨W,hW⟩:∃W,w.alloc (.cells #[.slice none 0 0,.slice none 0 0,.slice none 0 0,.slice none 0 0,.int .i64 0] 27)=W:=⟨_,rfl⟩
  rw[hW]at hb0 hR
  have HW:=Hd hW
  obtain⟨g,hgg⟩:∃g,w.heap.size=g:=⟨_,rfl⟩
  rw[hgg]at hR
  have HR:=Hd (show Blk W (g) 27 #[.slice none 0 0,.slice none 0 0,.slice none 0 0,.slice none 0 0,.int .i64 0] from hR)
  have HB0:=Hd hb0
  clear hW hb0 hR
  go_enter Tryz.func14,Tryz.ntmps14
  go_upto_region 1 with (fail)
  rw[HW.out]
  clear HW
  have R_0:=HR.out.cell (i:=0) rfl
  have R_1:=HR.out.cell (i:=1) rfl
  have R_2:=HR.out.cell (i:=2) rfl
  have R_3:=HR.out.cell (i:=3) rfl
  have R_4:=HR.out.cell (i:=4) rfl
  have R_f0:=HR.out.free 0
  have R_f1:=HR.out.free 1
  have R_f2:=HR.out.free 2
  have R_f3:=HR.out.free 3
  have R_f4:=HR.out.free 4
  have hh:w.heap.size≤g:=by omega
  have HP:=Hd (((((HR.out.put 0 (.slice none 0 0)).put 1 (.slice none 0 0)).put 2 (.slice none 0 0)).put 3 (.slice none 0 0)).put 4 (.int .i64 0))
  have HQ:=Hd (((((HB0.out.setCell (p:=⟨g,0,none⟩) hh (.slice none 0 0)).setCell (p:=⟨g,1,none⟩) hh (.slice none 0 0)).setCell (p:=⟨g,2,none⟩) hh (.slice none 0 0)).setCell (p:=⟨g,3,none⟩) hh (.slice none 0 0)).setCell (p:=⟨g,4,none⟩) hh (.int .i64 0))
  clear hh
  go_wp2
  exact bodyPost_ret (results_cell_tmp (p:=2) (t1:=3) (ty:=27) rfl _ _ (g) 27 #[.slice none 0 0,.slice none 0 0,.slice none 0 0,.slice none 0 0,.int .i64 0] _ rfl HP.out Tryz.underlying27 rfl infoVw) rfl ⟨Vl.none,rfl,rfl,VwAt.none _,HQ.out⟩
 ·have d0:decide (room<0)=false:=decide_eq_false c0
  have d1:decide (16777216<room)=false:=decide_eq_false c1
  rw[show Vw.newR room=(⟨[],[],[],[],room⟩,0) from by unfold Vw.newR;rw[if_pos (by omega)]]
  clear c0 c1
  have hb0:=below_new (Below.refl w.heap.size w) (.cells #[.slice none 0 0,.slice none 0 0,.slice none 0 0,.slice none 0 0,.int .i64 0] 27)
  have hR:=Blk.new w 27 #[.slice none 0 0,.slice none 0 0,.slice none 0 0,.slice none 0 0,.int .i64 0]
  obtain⟨W,hW⟩:∃W,w.alloc (.cells #[.slice none 0 0,.slice none 0 0,.slice none 0 0,.slice none 0 0,.int .i64 0] 27)=W:=⟨_,rfl⟩
  rw[hW]at hb0 hR
  have HW:=Hd hW
  obtain⟨g,hgg⟩:∃g,w.heap.size=g:=⟨_,rfl⟩
  rw[hgg]at hR
  have HR:=Hd (show Blk W (g) 27 #[.slice none 0 0,.slice none 0 0,.slice none 0 0,.slice none 0 0,.int .i64 0] from hR)
  have HB0:=Hd hb0
  clear hW hb0 hR
  go_enter Tryz.func14,Tryz.ntmps14
  go_upto_region 1 with (fail)
  rw[HW.out]
  clear HW
  have R_0:=HR.out.cell (i:=0) rfl
  have R_1:=HR.out.cell (i:=1) rfl
  have R_2:=HR.out.cell (i:=2) rfl
  have R_3:=HR.out.cell (i:=3) rfl
  have R_4:=HR.out.cell (i:=4) rfl
  have R_f0:=HR.out.free 0
  have R_f1:=HR.out.free 1
  have R_f2:=HR.out.free 2
  have R_f3:=HR.out.free 3
  have R_f4:=HR.out.free 4
  have hh:w.heap.size≤g:=by omega
  have HP:=Hd (((((HR.out.put 0 (.slice none 0 0)).put 1 (.slice none 0 0)).put 2 (.slice none 0 0)).put 3 (.slice none 0 0)).put 4 (.int .i64 room))
  have HQ:=Hd (((((HB0.out.setCell (p:=⟨g,0,none⟩) hh (.slice none 0 0)).setCell (p:=⟨g,1,none⟩) hh (.slice none 0 0)).setCell (p:=⟨g,2,none⟩) hh (.slice none 0 0)).setCell (p:=⟨g,3,none⟩) hh (.slice none 0 0)).setCell (p:=⟨g,4,none⟩) hh (.int .i64 room))
  clear hh
  go_wp2
  exact bodyPost_ret (results_cell_tmp (p:=2) (t1:=3) (ty:=27) rfl _ _ (g) 27 #[.slice none 0 0,.slice none 0 0,.slice none 0 0,.slice none 0 0,.int .i64 room] _ rfl HP.out Tryz.underlying27 rfl infoVw) rfl ⟨⟨none,0,[],none,0,[],none,0,[],none,0,[],room⟩,rfl,rfl,⟨OneL.nil,OneZ.nil _,OneW.nil,OneC.nil _⟩,HQ.out⟩
def GivesBdE(x:Bd)(k:Int)(w:World)(e:Ending)(w':World):Prop:=∃(Y:Option Addr) (d:Nat),e = .returned (.tuple #[.agg (bdCells Y d x),.int .i64 k])∧OneB w' Y d x.v∧Below w.heap.size w w'
set_option maxRecDepth 100000 in
set_option maxHeartbeats 6400000 in
theorem vserve_any(q:Vl)(o:Int)(w:World)(h:VwAt w q):Calls Tryz.prog 43 #[.agg (vwCells q),.int .i64 o] w (GivesBdE (Vw.serveR q.vw o).1 (Vw.serveR q.vw o).2 w):=by
 have hR:Vw.serveR q.vw o=if Vw.fmd q.vw=true∧0≤o∧o≤255 then
  (if (Nt.at_ q.h o).2=false then (Bd.zero,8)
   else if (Nt.at_ q.h o).1.2.2.2=true then (Bd.zero,13)
   else if (Ca.getR (q.b.map Bc.b) o (Nt.at_ q.h o).1.1 (Nt.at_ q.h o).1.2.1).2=0 then (⟨o,(Nt.at_ q.h o).1.1,(Nt.at_ q.h o).1.2.1,(Ca.getR (q.b.map Bc.b) o (Nt.at_ q.h o).1.1 (Nt.at_ q.h o).1.2.1).1⟩,0)
   else (Bd.zero,(Ca.getR (q.b.map Bc.b) o (Nt.at_ q.h o).1.1 (Nt.at_ q.h o).1.2.1).2))
  else (Bd.zero,1):=rfl
 have hby:=getR_byte (l:=q.b.map Bc.b) (by
  intro x hx
  obtain⟨z,hz,rfl⟩:=List.mem_map.1 hx
  exact(h.b.each z hz).byte) o (Nt.at_ q.h o).1.1 (Nt.at_ q.h o).1.2.1
 have hF:=fun wx (hb:Below w.heap.size w wx)=>vformed_any q wx (h.later hb)
 have hN:=fun wx (hb:Below w.heap.size w wx)=>nat_any q.H q.ch q.h o wx (h.later hb).h
 have hG:=fun (hf:Vw.fmd q.vw=true) wx (hb:Below w.heap.size w wx)=>cget_any q.B q.cb q.b o (Nt.at_ q.h o).1.1 (Nt.at_ q.h o).1.2.1 wx (h.later hb).b (fmd_fits (Vw.fmd_b hf))
 obtain⟨⟨rb,re⟩,hRR⟩:∃p,Vw.serveR q.vw o=p:=⟨_,rfl⟩
 rw[hRR]
 rw[hRR]at hR
 clear hRR h
 obtain⟨⟨⟨a0,a1,a2,a3⟩,ok⟩,hp⟩:∃p,Nt.at_ q.h o=p:=⟨_,rfl⟩
 rw[hp]at hN hG hby hR
 obtain⟨fm,hfm⟩:∃f,Vw.fmd q.vw=f:=⟨_,rfl⟩
 rw[hfm]at hF hG hR
 dsimp only at hN hG hby hR
 obtain⟨⟨gv,ge⟩,hgg⟩:∃p,Ca.getR (q.b.map Bc.b) o a0 a1=p:=⟨_,rfl⟩
 rw[hgg]at hG hby hR
 dsimp only at hG hby hR
 dsimp only
 have HBY:=Hd hby
 have HA:=Hd hR.symm
 obtain⟨K,ck,kn,Z,cz,zs,H,ch,hs,B,cb,bs,room⟩:=q
 unfold vwCells at hF ⊢
 dsimp only at hF hN hG ⊢
 have C1:=Hd hF
 have NA:=Hd (fun wx hb=>show Calls Tryz.prog 88 #[.slice H hs.length ch,.int .i64 o] wx (Says (.tuple #[.agg #[.int .i64 a0,.int .i64 a1,.int .i64 a2,.bool a3],.bool ok]) wx) from hN wx hb)
 have NG:=Hd (hG)
 clear hF hN hG hby hp hfm hgg hR
 have hb0:=below_new (below_new (Below.refl w.heap.size w) (.cells #[.slice K kn.length ck,.slice Z zs.length cz,.slice H hs.length ch,.slice B bs.length cb,.int .i64 room] 27)) (.cells #[.int .i64 0,.int .i64 0,.int .i64 0,.slice none 0 0] 49)
 have hV:=(Blk.new w 27 #[.slice K kn.length ck,.slice Z zs.length cz,.slice H hs.length ch,.slice B bs.length cb,.int .i64 room]).alloc (.cells #[.int .i64 0,.int .i64 0,.int .i64 0,.slice none 0 0] 49)
 have hR:=Blk.new (w.alloc (.cells #[.slice K kn.length ck,.slice Z zs.length cz,.slice H hs.length ch,.slice B bs.length cb,.int .i64 room] 27)) 49 #[.int .i64 0,.int .i64 0,.int .i64 0,.slice none 0 0]
 simp only[World.size_alloc]at hR
 obtain⟨W,hW⟩:∃W,(w.alloc (.cells #[.slice K kn.length ck,.slice Z zs.length cz,.slice H hs.length ch,.slice B bs.length cb,.int .i64 room] 27)).alloc (.cells #[.int .i64 0,.int .i64 0,.int .i64 0,.slice none 0 0] 49)=W:=⟨_,rfl⟩
 rw[hW]at hb0 hV hR
 have HW:=Hd hW
 obtain⟨g,hgg⟩:∃g,w.heap.size=g:=⟨_,rfl⟩
 rw[hgg]at hV hR
 have HV:=Hd (show Blk W (g) 27 #[.slice K kn.length ck,.slice Z zs.length cz,.slice H hs.length ch,.slice B bs.length cb,.int .i64 room] from hV)
 have HR:=Hd (show Blk W (g+1) 49 #[.int .i64 0,.int .i64 0,.int .i64 0,.slice none 0 0] from hR)
 have HB0:=Hd hb0
 clear hW hb0 hV hR
 go_enter Tryz.func43,Tryz.ntmps43
 go_upto_region 1 with (fail)
 rw[HW.out]
 clear HW
 have V_0:=HV.out.cell (i:=0) rfl
 have V_1:=HV.out.cell (i:=1) rfl
 have V_2:=HV.out.cell (i:=2) rfl
 have V_3:=HV.out.cell (i:=3) rfl
 have V_4:=HV.out.cell (i:=4) rfl
 go_wp2_with fail
 refine(C1.out W HB0.out).mono ?_
 rintro e w1 ⟨rfl,b1⟩
 clear V_0 V_1 V_2 V_3 V_4
 replace HV:=Hd (HV.out.later b1)
 replace HR:=Hd (HR.out.later b1)
 have HB1:=Hd (below_on HB0.out b1)
 clear HB0
 clear b1 C1
 cases fm with
 |false=>
  have hr:=HA.out
  simp[]at hr
  obtain⟨rfl,rfl⟩:=hr
  have R_0:=HR.out.cell (i:=0) rfl
  have R_1:=HR.out.cell (i:=1) rfl
  have R_2:=HR.out.cell (i:=2) rfl
  have R_3:=HR.out.cell (i:=3) rfl
  have R_f0:=HR.out.free 0
  have R_f1:=HR.out.free 1
  have R_f2:=HR.out.free 2
  have R_f3:=HR.out.free 3
  have hh:w.heap.size≤g+1:=by omega
  have HP:=Hd ((((HR.out.put 0 (.int .i64 0)).put 1 (.int .i64 0)).put 2 (.int .i64 0)).put 3 (.slice none 0 0))
  have HQ:=Hd ((((HB1.out.setCell (p:=⟨g+1,0,none⟩) hh (.int .i64 0)).setCell (p:=⟨g+1,1,none⟩) hh (.int .i64 0)).setCell (p:=⟨g+1,2,none⟩) hh (.int .i64 0)).setCell (p:=⟨g+1,3,none⟩) hh (.slice none 0 0))
  clear hh
  go_wp2
  exact bodyPost_ret (results_cell_tmp (p:=4) (t1:=5) (ty:=49) rfl _ _ (g+1) 49 #[.int .i64 0,.int .i64 0,.int .i64 0,.slice none 0 0] _ rfl HP.out Tryz.underlying49 rfl infoBdz) rfl ⟨none,0,rfl,OneB.nil,HQ.out⟩
 |true=>
 by_cases c0:o<0
 ·have d0:decide (o<0)=true:=decide_eq_true c0
  have hr:=HA.out
  simp[show ¬(0≤o∧o≤255) by omega]at hr
  obtain⟨rfl,rfl⟩:=hr
  have R_0:=HR.out.cell (i:=0) rfl
  have R_1:=HR.out.cell (i:=1) rfl
  have R_2:=HR.out.cell (i:=2) rfl
  have R_3:=HR.out.cell (i:=3) rfl
  have R_f0:=HR.out.free 0
  have R_f1:=HR.out.free 1
  have R_f2:=HR.out.free 2
  have R_f3:=HR.out.free 3
  have hh:w.heap.size≤g+1:=by omega
  have HP:=Hd ((((HR.out.put 0 (.int .i64 0)).put 1 (.int .i64 0)).put 2 (.int .i64 0)).put 3 (.slice none 0 0))
  have HQ:=Hd ((((HB1.out.setCell (p:=⟨g+1,0,none⟩) hh (.int .i64 0)).setCell (p:=⟨g+1,1,none⟩) hh (.int .i64 0)).setCell (p:=⟨g+1,2,none⟩) hh (.int .i64 0)).setCell (p:=⟨g+1,3,none⟩) hh (.slice none 0 0))
  clear hh
  go_wp2
  exact bodyPost_ret (results_cell_tmp (p:=4) (t1:=5) (ty:=49) rfl _ _ (g+1) 49 #[.int .i64 0,.int .i64 0,.int .i64 0,.slice none 0 0] _ rfl HP.out Tryz.underlying49 rfl infoBdz) rfl ⟨none,0,rfl,OneB.nil,HQ.out⟩
 by_cases c1:255<o
 ·have d0:decide (o<0)=false:=decide_eq_false c0
  have d1:decide (255<o)=true:=decide_eq_true c1
  have hr:=HA.out
  simp[show ¬(0≤o∧o≤255) by omega]at hr
  obtain⟨rfl,rfl⟩:=hr
  have R_0:=HR.out.cell (i:=0) rfl
  have R_1:=HR.out.cell (i:=1) rfl
  have R_2:=HR.out.cell (i:=2) rfl
  have R_3:=HR.out.cell (i:=3) rfl
  have R_f0:=HR.out.free 0
  have R_f1:=HR.out.free 1
  have R_f2:=HR.out.free 2
  have R_f3:=HR.out.free 3
  have hh:w.heap.size≤g+1:=by omega
  have HP:=Hd ((((HR.out.put 0 (.int .i64 0)).put 1 (.int .i64 0)).put 2 (.int .i64 0)).put 3 (.slice none 0 0))
  have HQ:=Hd ((((HB1.out.setCell (p:=⟨g+1,0,none⟩) hh (.int .i64 0)).setCell (p:=⟨g+1,1,none⟩) hh (.int .i64 0)).setCell (p:=⟨g+1,2,none⟩) hh (.int .i64 0)).setCell (p:=⟨g+1,3,none⟩) hh (.slice none 0 0))
  clear hh
  go_wp2
  exact bodyPost_ret (results_cell_tmp (p:=4) (t1:=5) (ty:=49) rfl _ _ (g+1) 49 #[.int .i64 0,.int .i64 0,.int .i64 0,.slice none 0 0] _ rfl HP.out Tryz.underlying49 rfl infoBdz) rfl ⟨none,0,rfl,OneB.nil,HQ.out⟩
 have d0:decide (o<0)=false:=decide_eq_false c0
 have d1:decide (255<o)=false:=decide_eq_false c1
 have hoo:0≤o∧o≤255:=by omega
 have V_2:=HV.out.cell (i:=2) rfl
 go_wp2_with fail
 refine(NA.out _ HB1.out).mono ?_
 rintro e w2 ⟨rfl,b2⟩
 clear V_2
 replace HV:=Hd (HV.out.later b2)
 replace HR:=Hd (HR.out.later b2)
 have HB2:=Hd (below_on HB1.out b2)
 clear HB1
 clear b2 NA
 obtain⟨gw,hggw⟩:∃gw,w2.heap.size=gw:=⟨_,rfl⟩
 have lt_V_gw:g<gw:=by have:=HV.out.lt;rw[hggw]at this;exact this
 have lt_R_gw:g+1<gw:=by have:=HR.out.lt;rw[hggw]at this;exact this
 cases ok with
 |false=>
  go_upto_region 4 with (fail)
  have b3:=below_new (Below.refl w2.heap.size w2) (.cells #[.int .i64 a0,.int .i64 a1,.int .i64 a2,.bool a3] 52)
  have hY:=Blk.new w2 52 #[.int .i64 a0,.int .i64 a1,.int .i64 a2,.bool a3]
  obtain⟨w3,hw3⟩:∃x,w2.alloc (.cells #[.int .i64 a0,.int .i64 a1,.int .i64 a2,.bool a3] 52)=x:=⟨_,rfl⟩
  rw[hw3]at b3 hY
  rw[hw3]
  replace HV:=Hd (HV.out.later b3)
  replace HR:=Hd (HR.out.later b3)
  have HB3:=Hd (below_on HB2.out b3)
  clear HB2
  rw[hggw]at hY
  have HY:=Hd hY
  clear b3 hw3 hY
  have hr:=HA.out
  simp[hoo]at hr
  obtain⟨rfl,rfl⟩:=hr
  have R_0:=HR.out.cell (i:=0) rfl
  have R_1:=HR.out.cell (i:=1) rfl
  have R_2:=HR.out.cell (i:=2) rfl
  have R_3:=HR.out.cell (i:=3) rfl
  have R_f0:=HR.out.free 0
  have R_f1:=HR.out.free 1
  have R_f2:=HR.out.free 2
  have R_f3:=HR.out.free 3
  have hh:w.heap.size≤g+1:=by omega
  have HP:=Hd ((((HR.out.put 0 (.int .i64 0)).put 1 (.int .i64 0)).put 2 (.int .i64 0)).put 3 (.slice none 0 0))
  have HQ:=Hd ((((HB3.out.setCell (p:=⟨g+1,0,none⟩) hh (.int .i64 0)).setCell (p:=⟨g+1,1,none⟩) hh (.int .i64 0)).setCell (p:=⟨g+1,2,none⟩) hh (.int .i64 0)).setCell (p:=⟨g+1,3,none⟩) hh (.slice none 0 0))
  clear hh
  go_wp2
  exact bodyPost_ret (results_cell_tmp (p:=4) (t1:=5) (ty:=49) rfl _ _ (g+1) 49 #[.int .i64 0,.int .i64 0,.int .i64 0,.slice none 0 0] _ rfl HP.out Tryz.underlying49 rfl infoBdz) rfl ⟨none,0,rfl,OneB.nil,HQ.out⟩
 |true=>
 go_upto_region 4 with (fail)
 have b3:=below_new (Below.refl w2.heap.size w2) (.cells #[.int .i64 a0,.int .i64 a1,.int .i64 a2,.bool a3] 52)
 have hY:=Blk.new w2 52 #[.int .i64 a0,.int .i64 a1,.int .i64 a2,.bool a3]
 obtain⟨w3,hw3⟩:∃x,w2.alloc (.cells #[.int .i64 a0,.int .i64 a1,.int .i64 a2,.bool a3] 52)=x:=⟨_,rfl⟩
 rw[hw3]at b3 hY
 rw[hw3]
 replace HV:=Hd (HV.out.later b3)
 replace HR:=Hd (HR.out.later b3)
 have HB3:=Hd (below_on HB2.out b3)
 clear HB2
 rw[hggw]at hY
 have HY:=Hd hY
 clear b3 hw3 hY
 have Y_0:=HY.out.cell (i:=0) rfl
 have Y_1:=HY.out.cell (i:=1) rfl
 have Y_2:=HY.out.cell (i:=2) rfl
 have Y_3:=HY.out.cell (i:=3) rfl
 cases a3 with
 |true=>
  have hr:=HA.out
  simp[hoo]at hr
  obtain⟨rfl,rfl⟩:=hr
  have R_0:=HR.out.cell (i:=0) rfl
  have R_1:=HR.out.cell (i:=1) rfl
  have R_2:=HR.out.cell (i:=2) rfl
  have R_3:=HR.out.cell (i:=3) rfl
  have R_f0:=HR.out.free 0
  have R_f1:=HR.out.free 1
  have R_f2:=HR.out.free 2
  have R_f3:=HR.out.free 3
  have hh:w.heap.size≤g+1:=by omega
  have HP:=Hd ((((HR.out.put 0 (.int .i64 0)).put 1 (.int .i64 0)).put 2 (.int .i64 0)).put 3 (.slice none 0 0))
  have HQ:=Hd ((((HB3.out.setCell (p:=⟨g+1,0,none⟩) hh (.int .i64 0)).setCell (p:=⟨g+1,1,none⟩) hh (.int .i64 0)).setCell (p:=⟨g+1,2,none⟩) hh (.int .i64 0)).setCell (p:=⟨g+1,3,none⟩) hh (.slice none 0 0))
  clear hh
  go_wp2
  exact bodyPost_ret (results_cell_tmp (p:=4) (t1:=5) (ty:=49) rfl _ _ (g+1) 49 #[.int .i64 0,.int .i64 0,.int .i64 0,.slice none 0 0] _ rfl HP.out Tryz.underlying49 rfl infoBdz) rfl ⟨none,0,rfl,OneB.nil,HQ.out⟩
 |false=>
 have V_3:=HV.out.cell (i:=3) rfl
 go_wp2_with fail
 refine(NG.out (by first|rfl|trivial) _ HB3.out).mono ?_
 rintro e w4 ⟨v,rfl,ho,b4⟩
 clear Y_0 Y_1 Y_2 Y_3 V_3
 replace HV:=Hd (HV.out.later b4)
 replace HR:=Hd (HR.out.later b4)
 replace HY:=Hd (HY.out.later b4)
 have HB4:=Hd (below_on HB3.out b4)
 clear HB3
 clear b4 NG
 obtain⟨VA,vc,rfl,hB⟩:=OneB.of_own ho HBY.out
 have HG:=Hd hB
 clear ho hB
 have Y_0:=HY.out.cell (i:=0) rfl
 have Y_1:=HY.out.cell (i:=1) rfl
 have Y_2:=HY.out.cell (i:=2) rfl
 have Y_3:=HY.out.cell (i:=3) rfl
 by_cases c2:ge=0
 ·
  subst c2
  have hr:=HA.out
  simp[hoo]at hr
  obtain⟨rfl,rfl⟩:=hr
  have R_0:=HR.out.cell (i:=0) rfl
  have R_1:=HR.out.cell (i:=1) rfl
  have R_2:=HR.out.cell (i:=2) rfl
  have R_3:=HR.out.cell (i:=3) rfl
  have R_f0:=HR.out.free 0
  have R_f1:=HR.out.free 1
  have R_f2:=HR.out.free 2
  have R_f3:=HR.out.free 3
  have hh:w.heap.size≤g+1:=by omega
  have HP:=Hd ((((HR.out.put 0 (.int .i64 o)).put 1 (.int .i64 a0)).put 2 (.int .i64 a1)).put 3 (.slice VA gv.length vc))
  have HQ:=Hd ((((HB4.out.setCell (p:=⟨g+1,0,none⟩) hh (.int .i64 o)).setCell (p:=⟨g+1,1,none⟩) hh (.int .i64 a0)).setCell (p:=⟨g+1,2,none⟩) hh (.int .i64 a1)).setCell (p:=⟨g+1,3,none⟩) hh (.slice VA gv.length vc))
  have FHG:=Hd ((((HG.out.near (show Blk _ (g+1) 49 #[.int .i64 0,.int .i64 0,.int .i64 0,.slice none 0 0] from HR.out) rfl 0 (.int .i64 o)).near (show Blk _ (g+1) 49 #[.int .i64 o,.int .i64 0,.int .i64 0,.slice none 0 0] from(HR.out.put 0 (.int .i64 o))) rfl 1 (.int .i64 a0)).near (show Blk _ (g+1) 49 #[.int .i64 o,.int .i64 a0,.int .i64 0,.slice none 0 0] from((HR.out.put 0 (.int .i64 o)).put 1 (.int .i64 a0))) rfl 2 (.int .i64 a1)).near (show Blk _ (g+1) 49 #[.int .i64 o,.int .i64 a0,.int .i64 a1,.slice none 0 0] from(((HR.out.put 0 (.int .i64 o)).put 1 (.int .i64 a0)).put 2 (.int .i64 a1))) rfl 3 (.slice VA gv.length vc))
  clear hh
  go_wp2
  exact bodyPost_ret (results_cell_tmp (p:=4) (t1:=5) (ty:=49) rfl _ _ (g+1) 49 #[.int .i64 o,.int .i64 a0,.int .i64 a1,.slice VA gv.length vc] _ rfl HP.out Tryz.underlying49 rfl infoBdz) rfl ⟨VA,vc,rfl,FHG.out,HQ.out⟩
 ·
  have d3:(ge != 0)=true:=by rw[bne_iff_ne];exact c2
  have hr:=HA.out
  simp[hoo,c2]at hr
  obtain⟨rfl,rfl⟩:=hr
  have R_0:=HR.out.cell (i:=0) rfl
  have R_1:=HR.out.cell (i:=1) rfl
  have R_2:=HR.out.cell (i:=2) rfl
  have R_3:=HR.out.cell (i:=3) rfl
  have R_f0:=HR.out.free 0
  have R_f1:=HR.out.free 1
  have R_f2:=HR.out.free 2
  have R_f3:=HR.out.free 3
  have hh:w.heap.size≤g+1:=by omega
  have HP:=Hd ((((HR.out.put 0 (.int .i64 0)).put 1 (.int .i64 0)).put 2 (.int .i64 0)).put 3 (.slice none 0 0))
  have HQ:=Hd ((((HB4.out.setCell (p:=⟨g+1,0,none⟩) hh (.int .i64 0)).setCell (p:=⟨g+1,1,none⟩) hh (.int .i64 0)).setCell (p:=⟨g+1,2,none⟩) hh (.int .i64 0)).setCell (p:=⟨g+1,3,none⟩) hh (.slice none 0 0))
  clear hh
  go_wp2
  exact bodyPost_ret (results_cell_tmp (p:=4) (t1:=5) (ty:=49) rfl _ _ (g+1) 49 #[.int .i64 0,.int .i64 0,.int .i64 0,.slice none 0 0] _ rfl HP.out Tryz.underlying49 rfl infoBdz) rfl ⟨none,0,rfl,OneB.nil,HQ.out⟩
theorem infoInt:(Tryz.prog.info? 3).map (fun i=>(i.zero,i.size,i.bytes))=some (some (.int .i64 0),1,8):=by kernel_rfl
structure OneI (w:World) (A:Option Addr) (c:Nat) (l:List Nat):Prop where
 le:l.length≤c
 cap:c≤maxLen
 noA:A=none→l.length=0∧c=0
 lies:Lies w A (l.map fun n:Nat=>Value.int .i64 (n:Int))
theorem OneI.later{w w':World}{A:Option Addr}{c:Nat}{l:List Nat}(h:OneI w A c l)(hb:Below w.heap.size w w'):OneI w' A c l:=⟨h.le,h.cap,h.noA,h.lies.later hb⟩
theorem OneI.nil{w:World}:OneI w none 0 []:=⟨Nat.le_refl _,Nat.zero_le _,fun _=>⟨rfl,rfl⟩,Lies.nil⟩
def GivesIE(l:List Nat)(k:Int)(w:World)(e:Ending)(w':World):Prop:=∃(A:Option Addr) (c:Nat),e = .returned (.tuple #[.slice A l.length c,.int .i64 k])∧OneI w' A c l∧Below w.heap.size w w'
theorem Vw.lackTo_succ(v:Vw)(it:List (Int × Int))(k:Nat):Vw.lackTo v it (k+1)=if (Sp.inL it k&&decide ((Vw.serveR v (k:Int)).2=10))=true then Vw.lackTo v it k++[k] else Vw.lackTo v it k:=by
 unfold Vw.lackTo
 rw[List.range_succ,List.filter_append,List.filter_cons]
 split<;>simp
theorem Vw.lackTo_len(v:Vw)(it:List (Int × Int))(k:Nat):(Vw.lackTo v it k).length≤k:=by
 have:=List.length_filter_le (fun o=>Sp.inL it o&&decide ((Vw.serveR v (o:Int)).2=10)) (List.range k)
 rwa [List.length_range]at this
set_option maxRecDepth 100000 in
set_option maxHeartbeats 6400000 in
theorem vlacks_any(q:Vl)(I:Option Addr)(ci:Nat)(it:List (Int × Int))(w:World)(h:VwAt w q)(hi:OneL w I ci it) :
  Calls Tryz.prog 45 #[.agg (vwCells q),.slice I it.length ci] w (GivesIE (Vw.lackR q.vw it).1 (Vw.lackR q.vw it).2 w):=by
 obtain⟨i0,hI,hz0,hz1,hz2⟩:=info_parts infoInt
 have hR:Vw.lackR q.vw it=if Vw.fmd q.vw=true then (Vw.lackTo q.vw it 256,0) else ([],1):=rfl
 obtain⟨⟨rb,re⟩,hRR⟩:∃p,Vw.lackR q.vw it=p:=⟨_,rfl⟩
 rw[hRR]
 rw[hRR]at hR
 have c1:=fun wx (hb:Below w.heap.size w wx)=>vformed_any q wx (h.later hb)
 have c2:=fun wx (hb:Below w.heap.size w wx)=>set_any I ci it wx (hi.later hb).len (hi.later hb).stamps
 have c3:=fun (k:Nat) wx (hb:Below w.heap.size w wx)=>vserve_any q (k:Int) wx (h.later hb)
 have st:=Vw.lackTo_succ q.vw it
 have ll:=Vw.lackTo_len q.vw it
 have l0:Vw.lackTo q.vw it 0=[]:=rfl
 clear hRR h hi
 obtain⟨fm,hfm⟩:∃f,Vw.fmd q.vw=f:=⟨_,rfl⟩
 rw[hfm]at c1 hR
 obtain⟨SV,hSV⟩:∃f,(fun k:Nat=>Vw.serveR q.vw (k:Int))=f:=⟨_,rfl⟩
 replace c3:=fun (k:Nat) wx (hb:Below w.heap.size w wx)=>show Calls Tryz.prog 43 #[.agg (vwCells q),.int .i64 (k:Int)] wx (GivesBdE (SV k).1 (SV k).2 wx) from by rw[←hSV];exact c3 k wx hb
 obtain⟨LT,hLT⟩:∃f,Vw.lackTo q.vw it=f:=⟨_,rfl⟩
 obtain⟨fi,hfi⟩:∃f,Sp.inL it=f:=⟨_,rfl⟩
 replace st:=fun k=>show LT (k+1)=if (fi k&&decide ((SV k).2=10))=true then LT k++[k] else LT k from by rw[←hLT,←hSV,←hfi];exact st k
 rw[hLT]at ll l0 hR
 rw[hfi]at c2
 obtain⟨K,ck,kn,Z,cz,zs,H,ch,hs,B,cb,bs,room⟩:=q
 unfold vwCells at c1 c3 ⊢
 dsimp only at c1 c2 c3 ⊢
 have HA:=Hd hR.symm
 have C1:=Hd c1
 have C2:=Hd c2
 have C3:=Hd c3
 have HST:=Hd st
 have HLN:=Hd ll
 have HL0:=Hd l0
 clear c1 c2 c3 hR hfm st ll l0 hSV hLT hfi
 have hb0:=below_new (Below.refl w.heap.size w) (.cells #[.slice K kn.length ck,.slice Z zs.length cz,.slice H hs.length ch,.slice B bs.length cb,.int .i64 room] 27)
 have hV:=Blk.new w 27 #[.slice K kn.length ck,.slice Z zs.length cz,.slice H hs.length ch,.slice B bs.length cb,.int .i64 room]
 obtain⟨W,hW⟩:∃W,w.alloc (.cells #[.slice K kn.length ck,.slice Z zs.length cz,.slice H hs.length ch,.slice B bs.length cb,.int .i64 room] 27)=W:=⟨_,rfl⟩
 rw[hW]at hb0 hV
 have HW:=Hd hW
 obtain⟨g,hgg⟩:∃g,w.heap.size=g:=⟨_,rfl⟩
 rw[hgg]at hV
 have HV:=Hd (show Blk W (g) 27 #[.slice K kn.length ck,.slice Z zs.length cz,.slice H hs.length ch,.slice B bs.length cb,.int .i64 room] from hV)
 have HB0:=Hd hb0
 clear hW hb0 hV
 go_enter Tryz.func45,Tryz.ntmps45
 go_upto_region 1 with (fail)
 rw[HW.out]
 clear HW
 have V_0:=HV.out.cell (i:=0) rfl
 have V_1:=HV.out.cell (i:=1) rfl
 have V_2:=HV.out.cell (i:=2) rfl
 have V_3:=HV.out.cell (i:=3) rfl
 have V_4:=HV.out.cell (i:=4) rfl
 go_wp2_with fail
 refine(C1.out W HB0.out).mono ?_
 rintro e w1 ⟨rfl,b1⟩
 clear V_0 V_1 V_2 V_3 V_4
 replace HV:=Hd (HV.out.later b1)
 have HB1:=Hd (below_on HB0.out b1)
 clear HB0
 clear b1 C1
 cases fm with
 |false=>
  have hr:=HA.out
  simp[]at hr
  obtain⟨rfl,rfl⟩:=hr
  have HQ:=Hd HB1.out
  go_wp2
  go_ret2
  exact⟨none,0,rfl,OneI.nil,HQ.out⟩
 |true=>
 go_wp2_with fail
 refine(C2.out _ HB1.out).mono ?_
 rintro e w2 ⟨rfl,b2⟩
 replace HV:=Hd (HV.out.later b2)
 have HB2:=Hd (below_on HB1.out b2)
 clear HB1
 clear b2 C2
 obtain⟨gf,hggf⟩:∃gf,w2.heap.size=gf:=⟨_,rfl⟩
 have lt_V_gf:g<gf:=by have:=HV.out.lt;rw[hggf]at this;exact this
 have b3:=below_new (Below.refl w2.heap.size w2) (.cells Tryz.zeroCells138 138)
 have hF:=Blk.new w2 138 Tryz.zeroCells138
 obtain⟨wa3,hwa3⟩:∃x,w2.alloc (.cells Tryz.zeroCells138 138)=x:=⟨_,rfl⟩
 rw[hwa3]at b3 hF
 rw[marks_zero,hggf]at hF
 have ZF:=Hd hF
 go_wp2_with (first|(refine wpList_store_row rfl 138 _ _ rfl gf _ rfl rfl 138 _ ZF.out (by rw[Sp.arr_size];exact info256) (by rw[Sp.arr_size,Sp.arr_size]) (one_marks _) ?_))
 obtain⟨w3,hw3⟩:∃x,wa3.setRow gf (Sp.arr fi)=x:=⟨_,rfl⟩
 rw[hw3]
 have bb3:Below w2.heap.size w2 w3:=by rw[←hw3];exact below_setRow b3 (by omega) _
 have hF2:Blk w3 gf 138 (Sp.arr fi):=by rw[←hw3];exact hF.row (Sp.arr fi)
 replace HV:=Hd (HV.out.later bb3)
 have HB3:=Hd (below_on HB2.out bb3)
 clear HB2
 have HF:=Hd hF2
 clear b3 hF hF2 bb3 hw3 hwa3 ZF
 have hlg:w.heap.size≤gf+1:=by have:=lt_V_gf;omega
 go_loopw [7,8] (fun s7 s8 wr=>∃k:Nat,k≤256∧s8 = .int .i64 (k:Int)∧wr.ownsRow w3.heap.size 3 1 s7 (LT k).length ((LT k).map fun n:Nat=>Value.int .i64 (n:Int))∧Below w3.heap.size w3 wr) (fun _ s8 _=>256-(intOf s8).toNat)
 case atStart=>exact⟨0,Nat.zero_le _,rfl,by rw[HL0.out];exact World.ownsRow_nil _ _ _ _,Below.refl _ _⟩
 case round=>
  obtain⟨k,hk,rfl,hrow,hbw⟩:=hrel
  replace HV:=Hd (HV.out.later hbw)
  replace HF:=Hd (HF.out.later hbw)
  have HB4:=Hd (below_on HB3.out hbw)
  clear HB3
  by_cases hlt:k<256
  ·
   have hi0:(0:Int)≤(k:Int):=by omega
   have hi1:(k:Int)<256:=by omega
   obtain⟨VA,vc,hvv,-,-,-,-⟩:=own_form hrow
   subst hvv
   have HLL:=Hd (HLN.out k)
   have HROW:=Hd hrow
   have BW:=Hd hbw
   obtain⟨⟨sb,se⟩,hse⟩:∃p,SV k=p:=⟨_,rfl⟩
   have NS:=C3.out k
   have hst:=HST.out k
   rw[hse]at NS hst
   have NS:=Hd NS
   have HST1:=Hd hst
   have HF0:=Hd (HF.out.marks_cell k hlt)
   clear hrow hbw hse hst
   have V_0:=HV.out.cell (i:=0) rfl
   have V_1:=HV.out.cell (i:=1) rfl
   have V_2:=HV.out.cell (i:=2) rfl
   have V_3:=HV.out.cell (i:=3) rfl
   have V_4:=HV.out.cell (i:=4) rfl
   go_wp2_with fail
   refine(NS.out _ HB4.out).mono ?_
   rintro e w5 ⟨YA,yd,rfl,hB,b5⟩
   clear V_0 V_1 V_2 V_3 V_4
   replace HV:=Hd (HV.out.later b5)
   replace HF:=Hd (HF.out.later b5)
   have HB5:=Hd (below_on HB4.out b5)
   clear HB4
   replace HROW:=Hd (own_later HROW.out b5)
   replace BW:=Hd (below_on BW.out b5)
   clear b5 NS hB
   unfold bdCells
   dsimp only
   obtain⟨gy,hggy⟩:∃gy,w5.heap.size=gy:=⟨_,rfl⟩
   have lt_V_gy:g<gy:=by have:=HV.out.lt;rw[hggy]at this;exact this
   have lt_F_gy:gf<gy:=by have:=HF.out.lt;rw[hggy]at this;exact this
   go_upto_region 9 with (fail)
   have b6:=below_new (Below.refl w5.heap.size w5) (.cells #[.int .i64 sb.o,.int .i64 sb.c,.int .i64 sb.n,.slice YA sb.v.length yd] 49)
   have hY:=Blk.new w5 49 #[.int .i64 sb.o,.int .i64 sb.c,.int .i64 sb.n,.slice YA sb.v.length yd]
   obtain⟨w6,hw6⟩:∃x,w5.alloc (.cells #[.int .i64 sb.o,.int .i64 sb.c,.int .i64 sb.n,.slice YA sb.v.length yd] 49)=x:=⟨_,rfl⟩
   rw[hw6]at b6 hY
   rw[hw6]
   replace HV:=Hd (HV.out.later b6)
   replace HF:=Hd (HF.out.later b6)
   have HB6:=Hd (below_on HB5.out b6)
   clear HB5
   replace HROW:=Hd (own_later HROW.out b6)
   replace BW:=Hd (below_on BW.out b6)
   rw[hggy]at hY
   have HY:=Hd hY
   clear b6 hw6 hY
   have m0:=HF.out.marks_cell k hlt
   obtain⟨fk,hfk⟩:∃b,fi k=b:=⟨_,rfl⟩
   rw[hfk]at m0 HST1
   cases fk with
   |false=>
    have hL:=HST1.out
    rw[Bool.false_and,if_neg Bool.false_ne_true]at hL
    have HL:=Hd hL
    clear hL
    go_wp2_with fail
    go_roundw
    case rel=>exact⟨k+1,by omega,by go_num,by rw[HL.out];exact HROW.out,BW.out⟩
    case measure=>simp[intOf];omega
   |true=>
   by_cases h10:se=10
   ·
    have hL:=HST1.out
    rw[h10,Bool.true_and,if_pos (by rfl)]at hL
    have HL:=Hd hL
    subst h10
    clear hL
    have hrow:=HROW.out
    have hlen:=HLL.out
    have bn:=below_new (Below.refl w6.heap.size w6) (.cells #[.int .i64 (k:Int)] 3)
    have hrow2:=own_later hrow bn
    have HNL:=Hd (show Lies (w6.alloc (.cells #[.int .i64 (k:Int)] 3)) (some ⟨w6.heap.size,0,none⟩) [.int .i64 (k:Int)] from fun _=>⟨w6.heap.size,0,rfl,fun j u hu=>by rw[Nat.zero_add];exact(Blk.new w6 3 #[.int .i64 (k:Int)]).cell (by simpa using hu)⟩)
    have BB:=Hd (below_on BW.out bn)
    have hszw:w3.heap.size≤(w6.alloc (.cells #[.int .i64 (k:Int)] 3)).heap.size:=BB.out.size
    clear bn hrow
    go_wp2_with (at_builtin;refine Go.Proofs.YtjlfehpockfkdaaGreat.wpList_append_lies _ rfl _ _ 85 rfl w3.heap.size 3 i0 (.int .i64 0) 1 8 Tryz.underlying85 hI hz0 hz1 hz2 rfl (by decide) _ (LT k).length ((LT k).map fun n:Nat=>Value.int .i64 (n:Int)) rfl hrow2 (some ⟨w6.heap.size,0,none⟩) 1 1 (fun h=>by cases h) ([.int .i64 (k:Int)]) rfl rfl HNL.out (by intro u hu;simp at hu;rcases hu with rfl;rfl) ?h63 ?hbytes hszw ?_)
    case h63=>unfold maxLen;omega
    case hbytes=>omega
    intro v' wz hownz hgz _
    obtain⟨gv,capv,rfl⟩:=ownsRow_succ hownz
    have HRZ:=Hd (show wz.ownsRow w3.heap.size 3 1 (.slice (some ⟨gv,0,none⟩) ((LT k).length+1) capv) (LT (k+1)).length ((LT (k+1)).map fun n:Nat=>Value.int .i64 (n:Int)) from by rw[HL.out,List.length_append,List.map_append];exact hownz)
    have BWZ:=Hd (BB.out.grown hgz (by have:=BB.out.size;omega) (fun r e=>own_ge hrow2 r e))
    clear hownz hgz hrow2 hszw hlen
    go_wp2_with fail
    go_roundw
    case rel=>exact⟨k+1,by omega,by go_num,by exact HRZ.out,BWZ.out⟩
    case measure=>simp[intOf];omega
   ·
    have d10:(se == 10)=false:=beq_eq_false_iff_ne.2 h10
    have hL:=HST1.out
    rw[Bool.true_and,if_neg (by rw[decide_eq_true_iff];exact h10)]at hL
    have HL:=Hd hL
    clear hL h10
    go_wp2_with fail
    go_roundw
    case rel=>exact⟨k+1,by omega,by go_num,by rw[HL.out];exact HROW.out,BW.out⟩
    case measure=>simp[intOf];omega
  ·
   obtain rfl:k=256:=by omega
   have hd0:decide ((256:Int)<256)=false:=by decide
   obtain⟨VA,vc,hvv,q1,q2,q3,q4⟩:=own_form hrow
   subst hvv
   have HO:=Hd (show OneI wr VA vc (LT 256) from⟨q1,q2,q3,q4⟩)
   have HQ:=Hd HB4.out
   have hr:=HA.out
   simp at hr
   obtain⟨rfl,rfl⟩:=hr
   clear hrow hbw q1 q2 q3 q4
   go_wp2
   go_ret2
   exact⟨VA,vc,rfl,HO.out,HQ.out⟩
structure ViewServe:Prop extends ViewSpec where
 serve:∀(q:Vl) (o:Int) (w:World),VwAt w q→Calls Tryz.prog 42 #[.agg (vwCells q),.int .i64 o] w (GivesBdE (Vw.serveR q.vw o).1 (Vw.serveR q.vw o).2 w)
 lacks:∀(q:Vl) (I:Option Addr) (ci:Nat) (it:List (Int × Int)) (w:World),VwAt w q→OneL w I ci it→Calls Tryz.prog 44 #[.agg (vwCells q),.slice I it.length ci] w (GivesIE (Vw.lackR q.vw it).1 (Vw.lackR q.vw it).2 w)
end Go.Proofs.YtjlfehpockfkdaaGreat
namespace Go.Proofs.YtjlfehpockfkdaaGreat
open Go.RowKit
namespace Vd
theorem sorted_ext:∀(l r:List Nat),l.Pairwise (· < ·)→r.Pairwise (· < ·)→(∀x,x∈l↔x∈r)→l=r
 | [],[],_,_,_=>rfl
 | [],b::r,_,_,h=>absurd ((h b).2 List.mem_cons_self) (by simp)
 |a::l,[],_,_,h=>absurd ((h a).1 List.mem_cons_self) (by simp)
 |a::l,b::r,hl,hr,h=>by
  have hl2:=List.pairwise_cons.1 hl
  have hr2:=List.pairwise_cons.1 hr
  have hab:a=b:=by
   rcases List.mem_cons.1 ((h a).1 List.mem_cons_self) with e|e
   ·exact e
   ·rcases List.mem_cons.1 ((h b).2 List.mem_cons_self) with e2|e2
    ·exact e2.symm
    ·have:=hl2.1 b e2
     have:=hr2.1 a e
     omega
  subst hab
  congr 1
  refine sorted_ext l r hl2.2 hr2.2 fun x=>⟨fun hx =>?_,fun hx =>?_⟩
  ·rcases List.mem_cons.1 ((h x).1 (List.mem_cons_of_mem _ hx)) with e|e
   ·have:=hl2.1 x hx
    omega
   ·exact e
  ·rcases List.mem_cons.1 ((h x).2 (List.mem_cons_of_mem _ hx)) with e|e
   ·have:=hr2.1 x hx
    omega
   ·exact e
end Vd
end Go.Proofs.YtjlfehpockfkdaaGreat
namespace Go.Proofs.YtjlfehpockfkdaaGreat
open Go.RowKit Go.Shelf Fb
attribute [local go_sem] Oper.semAt_some
set_option maxRecDepth 100000 in
set_option maxHeartbeats 3200000 in
theorem spless_any(A B:Option Addr)(c d:Nat)(l r:List (Int × Int))(w:World)(h1:OneL w A c l)(h2:OneL w B d r) :
  Calls Tryz.prog 92 #[.slice A l.length c,.slice B r.length d] w (GivesS (Sp.lessS l r) w):=by
 have n0:=fun t=>setOf_one h1 t
 have n1:=fun wx (hx:OneL wx B d r)=>spAll_any B d r wx hx
 have hsq:=fun n₀ B bc dc D wx hx h1 h2=>walkO_stops (Sp.inL r) n₀ B bc dc D wx hx h1 h2
 have hall:=Sp.hasF_all (Sp.inL r)
 unfold Sp.lessS
 obtain⟨J,hJ⟩:∃J,Sp.comesO Sp.objF (Sp.inL r) 256=J:=⟨_,rfl⟩
 obtain⟨L,hL⟩:∃L,Sp.ofL (Sp.inL r)=L:=⟨_,rfl⟩
 obtain⟨f,hf⟩:∃f,Sp.inL l=f:=⟨_,rfl⟩
 obtain⟨g,hg⟩:∃g,Sp.inL r=g:=⟨_,rfl⟩
 rw[hJ]at hsq hall
 rw[hL]at n1 hsq
 rw[hg]at hall ⊢
 rw[hf]at n0 ⊢
 have SQ:=Hd hsq
 have N0:=Hd n0
 have N1:=Hd n1
 have H2:=Hd h2
 have HALL:=Hd hall
 clear n0 n1 h1 h2 hJ hL hf hg hsq hall
 refine(callsIn_wide (n:=3)).1 ?_
 refine callsIn_of_wp_marks Tryz.func92 rfl trivial ?_ rfl
 simp only[Tryz.ntmps92,List.size_toArray,List.length_cons,List.length_nil,Nat.reduceAdd,Nat.reduceSub,Array.replicate_succ,Array.replicate_zero,List.push_toArray,List.append_toArray,List.nil_append,List.cons_append]
 gi_wp2_with fail
 refine⟨trivial,(callsIn_wide.2 (N0.out _)).mono ?_⟩
 rintro e w1 ⟨rfl,b1⟩
 have E5:=Blk.new w1 178 (Sp.arr fun _=>false)
 have F5:=E5.row (Sp.arr f)
 have b3:=below_setRow (below_new b1 (.cells (Sp.arr fun _=>false) 178)) b1.size (Sp.arr f)
 have z3:((w1.alloc (.cells (Sp.arr fun _=>false) 178)).setRow w1.heap.size (Sp.arr f)).heap.size=w1.heap.size+1:=by simp
 rw[←set_zero]at E5
 gi_wp2_with (refine in_store_row rfl 178 _ _ rfl w1.heap.size _ rfl rfl 178 _ E5 (by rw[Sp.arr_size];exact infoSet) (by rw[set_zero,Sp.arr_size,Sp.arr_size]) (one_marks _) ?_)
 rw[set_zero]
 obtain⟨W3,hW3⟩:∃W3,(w1.alloc (.cells (Sp.arr fun _=>false) 178)).setRow w1.heap.size (Sp.arr f)=W3:=⟨_,rfl⟩
 rw[hW3]at F5 b3 z3 ⊢
 have hz1:=b1.size
 clear hW3 E5 N0
 refine⟨trivial,(callsIn_wide.2 (N1.out _ (H2.out.later b3))).mono ?_⟩
 rintro e w4 ⟨bc,D,dc,rfl,hc,hfar,b4⟩
 have bb4:=below_on b3 b4
 have G5:=F5.later b4
 have z4:=b4.size
 clear F5 N1 H2
 gi_wp2_with fail
 refine wpIn_rangeFunc_ownF rfl (by omega) (gf:=172) (lb:=#[.pointer (some ⟨bc,0,none⟩)]) rfl trivial enters_eachO (SQ.out w.heap.size W3.heap.size bc dc D w4 b4.size hc hfar) KeepC.trans (fun W l' o o' _ h1 h2 _=>KeepC.mark W l' o o' h1 h2) (Below.refl _ _) (fun _=>rfl)
  (fun pre W=>Blk W w1.heap.size 178 (Sp.arr fun j=>f j && !Sp.hasF pre j)∧Below w.heap.size w W)
  (fun _ _ _=>False) ?hI (fun _ _ _ _ _ h _ _=>h) ⟨G5.marks_same (fun i _=>by show f i=(f i && !false);cases f i<;>rfl),bb4⟩
  (fun x=>{ tmps:=#[.slice A l.length c,.slice B r.length d,undef,undef,.slice none 0 0,.pointer (some ⟨w1.heap.size,0,none⟩),.int .i64 (x.val:Int),.slice A l.length c,.slice (some ⟨w.heap.size,0,none⟩) 1 1,.agg (Sp.arr f),.slice B r.length d,.func (.func 172) #[] #[.pointer (some ⟨bc,0,none⟩)],.int .i64 (x.val:Int),undef,undef,undef,undef],defers:=[] }) ?assign ?body ?done ?stop
 case hI=>exact OwnFrom.and (Own.from (blk_own _ _ fun pre=>Sp.arr fun j=>f j && !Sp.hasF pre j) _) (ownFrom_below (Nat.le_refl _) bb4.size)
 case assign=>
  intro l' x W K hK
  unfold tellO
  gi_wp2
  exact hK
 case body=>
  rintro l' pre x W ⟨hB5,hBw⟩ _
  have c2:=hB5.marks_cell x.val x.isLt
  have c3:=hB5.free x.val
  have hx0:(0:Int)≤(x.val:Int):=by omega
  have hx1:(x.val:Int)<256:=by have:=x.isLt;omega
  have hst:∀i,i<256→(if i=x.val then false else (f i && !Sp.hasF pre i))=(f i && !Sp.hasF (pre++[x]) i):=fun i _=>by
   rw[Sp.hasF_snoc]
   by_cases hi:i=x.val
   ·rw[if_pos hi,decide_eq_true hi.symm,Bool.or_true,Bool.not_true,Bool.and_false]
   ·rw[if_neg hi,decide_eq_false (fun h=>hi h.symm),Bool.or_false]
  have B5:=(hB5.marks_put x.val x.isLt false).marks_same hst
  have hbs:=hBw.setCell (p:=⟨w1.heap.size,x.val,none⟩) hz1 (.bool false)
  have HB5:=Hd B5
  clear hst hB5 B5
  gi_wp2
  exact⟨KeepsOthers.setCell _ _ _,KeepC.set _ _ _ hz1 (by show w1.heap.size<W3.heap.size;omega),HB5.out,hbs⟩
 case done=>
  rintro DD ys W hD hys ⟨hB5,hBw⟩ hK
  rw[hys]at hB5
  have hN2:=hB5.marks_same (f':=fun j=>f j && !g j) (fun i hi=>by rw[HALL.out i hi])
  have hDl:=(Array.getElem?_eq_some_iff.1 hK).1
  have HN:=Hd hN2
  clear hB5 hN2 G5
  gi_wp2_with (refine in_load_row rfl 178 _ rfl w1.heap.size rfl 178 _ _ HN.out Tryz.underlying178 rfl (by rw[Sp.arr_size];exact infoSet) ?_)
  refine⟨trivial,(callsIn_wide.2 (spans_any _ _)).mono ?_⟩
  rintro e w5 ⟨v,rfl,ho,b5⟩
  have hK5:=(b5.block DD hDl).trans hK
  have hb5:=below_on hBw b5
  have HO:=Hd ho
  clear ho HN
  gi_wp2
  refine⟨by simp,.inl ⟨_,_,rfl,run_takeDeferred hK5,?_⟩⟩
  exact⟨_,results_tmp rfl _ _ _,v,rfl,ownsRow_putObj (own_base HO.out hBw.size) _ hK5 rfl,hb5.trans (belowK_b (w:=w) (Nat.le_refl _) w5 DD _ _ (by have:=bb4.size;omega) hK5 rfl rfl)⟩
 case stop=>
  rintro DD c pre W _ _ h _
  exact h.elim
end Go.Proofs.YtjlfehpockfkdaaGreat
namespace Go.Proofs.YtjlfehpockfkdaaGreat
open Go.RowKit Go.Shelf Fb
attribute [local go_sem] Oper.semAt_some
structure Vd.Stay (p:Nat) (w1 X:World):Prop where
 size:w1.heap.size≤X.heap.size
 same:∀k,k<w1.heap.size→k≠p→X.heap[k]?=w1.heap[k]?
namespace Vd
variable {p:Nat} {w1 X Y:World}
theorem Stay.refl(p:Nat)(w1:World):Stay p w1 w1:=⟨Nat.le_refl _,fun _ _ _=>rfl⟩
theorem Stay.later(h:Stay p w1 X)(hb:Below X.heap.size X Y):Stay p w1 Y:=⟨Nat.le_trans h.size hb.size,fun k hk hp=>(hb.block k (Nat.lt_of_lt_of_le hk h.size)).trans (h.same k hk hp)⟩
theorem Stay.set(h:Stay p w1 X)(i:Nat)(v:Value):Stay p w1 (X.setCell ⟨p,i,none⟩ v):=⟨Nat.le_trans h.size (KeepsOthers.setCell X _ v).size,fun k hk hp=>(Below.heap_setCell X ⟨p,i,none⟩ v k hp).trans (h.same k hk hp)⟩
theorem Stay.grown(h:Stay p w1 X){row:Option Nat}(hg:X.grownBy Y row)(hr:∀r,row=some r→w1.heap.size≤r):Stay p w1 Y:=⟨Nat.le_trans h.size hg.size,fun k hk hp=>(hg.block k (Nat.lt_of_lt_of_le hk h.size) (fun e=>by have:=hr k e.symm;omega)).trans (h.same k hk hp)⟩
theorem Stay.own{β:Type}{B:Nat}(hB:w1.heap.size≤B):OwnFrom B (fun (_:β) X=>Stay p w1 X):=fun _ _ _ _ h hg hr=>h.grown hg (fun r e=>Nat.le_trans hB (hr r e).1)
theorem Stay.blk(h:Stay p w1 X){k:Nat}{t:TypeId}{cs:Array Value}(hB:Blk w1 k t cs)(hk:k≠p):Blk X k t cs:=(h.same k hB.lt hk).trans hB
theorem Stay.cell(h:Stay p w1 X){a:Addr}{v:Value}(hc:w1.cell? a=some v)(ha:a.block≠p):X.cell? a=some v:=by
 obtain⟨o,ho,-⟩:=cells_of_cell hc
 exact(World.cell?_of_block (h.same _ (Array.getElem?_eq_some_iff.1 ho).1 ha)).trans hc
theorem Stay.oneW(h:Stay p w1 X){A:Option Addr}{c:Nat}{l:List Wr}(hl:OneW w1 A c l)(hA:∀b off,l≠[]→A=some ⟨b,off,none⟩→b≠p):OneW X A c l:=
 ⟨hl.1,hl.2.1,hl.2.2.1,fun hne=>by
  obtain⟨b,off,e,hc⟩:=hl.2.2.2 hne
  exact⟨b,off,e,fun j u hu=>h.cell (hc j u hu) (hA b off (fun e=>hne (Nt.wrCells_nil.2 e)) e)⟩⟩
end Vd
set_option maxRecDepth 100000 in
set_option maxHeartbeats 3200000 in
theorem sdall_list(A:Option Addr)(c:Nat)(l:List Wr)(w0 w:World)(h:OneW w0 A c l)(hb:Below w0.heap.size w0 w)(hf:Sf.fmd l=true)(xs:List Sf.RW)(hxs:xs.map Subtype.val=l) :
  Calls Tryz.prog 110 #[.slice A l.length c] w fun e w1=>∃gf lb VA vc,e = .returned (.func (.func gf) #[] lb)∧Below w.heap.size w w1∧(∀args w,(callFunc gf args).run Tryz.prog w = .ok (.enter gf args) w) ∧
   OneW w1 VA vc l∧(∀b off,l≠[]→VA=some ⟨b,off,none⟩→w.heap.size≤b)∧SeqStopsK Fence.wide 2 Tryz.prog gf lb (fun x:Sf.RW=>toldW x.val) (KeepL VA vc l) (· = xs) (· <+: xs) l.length w1:=by
 have N1:=Hd (sdformed_any A c l w (h.later hb))
 have HL:=Hd h
 have HB:=Hd hb
 have fin:∀(A':Option Addr) (c' bl:Nat) (w1:World),OneW w1 A' c' l→w1.cell? ⟨bl,0,none⟩=some (.slice A' l.length c')→SeqStopsK Fence.wide 2 Tryz.prog 171 #[.pointer (some ⟨bl,0,none⟩)] (fun x:Sf.RW=>toldW x.val) (KeepL A' c' l) (· = xs) (· <+: xs) l.length w1:=
  fun A' c' bl w1 h1 h3=>eachW_stops Subtype.val xs l hxs 2 (by omega) bl c' A' w1 h1 h3
 have FIN:=Hd fin
 clear h hb fin hxs
 rw[hf]at N1
 have hl:=Sf.fmd_len hf
 clear hf
 go_enter Tryz.func110,Tryz.ntmps110
 go_wp2_with fail
 refine N1.out.mono ?_
 rintro e w1 ⟨rfl,b1⟩
 have NC:=Hd (cloneW_any A c l w1 (by omega) (HL.out.later (below_on HB.out b1)))
 have B1:=Hd b1
 clear N1 b1
 go_wp2_with fail
 refine NC.out.mono ?_
 rintro e w2 ⟨v,rfl,ho,b2⟩
 have hfar:∀b off c',l≠[]→v = .slice (some ⟨b,off,none⟩) l.length c'→w.heap.size≤b:=fun b off c' hne e=>by
  obtain⟨g,cap,hv⟩:=own_len ho (List.length_pos_iff.2 hne)
  rw[hv]at e
  injection e with e
  injection e with e
  injection e with e
  have:=own_ge ho g (by rw[hv];rfl)
  have:=B1.out.size
  omega
 obtain⟨VA,vc,rfl,hO⟩:=OneW.of_own ho
 have HO:=Hd hO
 have HF:=Hd hfar
 have B2:=Hd (below_on B1.out b2)
 have NE:=Hd (each_any VA vc l w2)
 clear NC ho hO hfar b2 B1
 go_wp2_with fail
 refine NE.out.mono ?_
 rintro e w3 ⟨bl,rfl,hbl,b3⟩
 have BB:=Hd (below_on B2.out b3)
 have HC:=Hd hbl
 have H3:=Hd (HO.out.later b3)
 clear NE b3 hbl HO B2
 go_wp2
 go_ret
 exact⟨_,_,VA,vc,rfl,BB.out,enters_eachW,H3.out,(fun b off hne e=>HF.out b off vc hne (by rw[e])),FIN.out VA vc bl w3 H3.out HC.out⟩
theorem Vd.in_ofL(f:Nat→Bool){o:Nat}(ho:o<256):inOf (Sp.ofL f) (o:Int)=f o:=by
 unfold inOf
 rw[decide_eq_true (by omega),Bool.true_and,Int.toNat_natCast,Sp.inL_ofL f o ho]
end Go.Proofs.YtjlfehpockfkdaaGreat
namespace Go.Proofs.YtjlfehpockfkdaaGreat
open Go.RowKit Go.Shelf Fb
attribute [local go_sem] Oper.semAt_some
namespace Vd
def lkP(f:Nat→Bool)(x:Wr):Bool :=!x.2.2.2&&f x.2.2.1.toNat
def lkL(f:Nat→Bool)(l:List Wr):List Nat:=(l.filter (lkP f)).map fun x=>x.2.2.1.toNat
theorem lk_snoc(f:Nat→Bool)(l:List Wr)(x:Wr):lkL f (l++[x])=lkL f l++(if lkP f x=true then [x.2.2.1.toNat] else []):=by
 unfold lkL
 rw[List.filter_append,List.map_append,List.filter_cons]
 split<;>rfl
theorem lk_len(f:Nat→Bool)(l:List Wr):(lkL f l).length≤l.length:=by
 unfold lkL
 rw[List.length_map]
 exact List.length_filter_le _ _
def want(v:Vw)(it:List (Int × Int)):Nat→Bool:=fun o=>Sp.inL it o && !Sp.someOf (v.b.map fun x=>x.o) o
theorem lack_is{v:Vw}(hf:Vw.fmd v=true)(it:List (Int × Int)):lkL (want v it) v.h=Vw.lackTo v it 256:=by
 have hv:=(Vw.ok_iff v).1 hf
 obtain⟨hr,hp⟩:=(Sf.fmd_list v.h).1 hv.h
 refine sorted_ext _ _ ?_ (List.pairwise_lt_range.filter _) fun o =>?_
 ·unfold lkL
  rw[List.pairwise_map]
  refine(hp.filter _).imp_of_mem fun {x y} hx hy hxy =>?_
  have h1:=(Sf.right_iff x).1 (hr x (List.mem_filter.1 hx).1)
  have h2:=(Sf.right_iff y).1 (hr y (List.mem_filter.1 hy).1)
  omega
 ·unfold lkL Vw.lackTo
  rw[List.mem_map,List.mem_filter,List.mem_range]
  have key:∀x∈v.h,(x.2.2.1=(o:Int))→Nt.at_ v.h (o:Int)=(x,true):=fun x hx hxo=>by
   obtain⟨j,hj,rfl⟩:=List.mem_iff_getElem.1 hx
   have hg:v.h.getD j Nt.zeroW=v.h[j]:=by rw[List.getD_eq_getElem?_getD,List.getElem?_eq_getElem hj];rfl
   have hob:Nt.obj v.h j=(o:Int):=by unfold Nt.obj;rw[hg];exact hxo
   rw[←hg]
   refine Nt.at_some hj hob fun i hi =>?_
   have hlt:=List.pairwise_iff_getElem.1 hp i j (by omega) hj hi
   unfold Nt.obj
   rw[List.getD_eq_getElem?_getD,List.getElem?_eq_getElem (by omega),Option.getD_some]
   omega
  have gets:∀c n,((Ca.getR v.b (o:Int) c n).2=10↔∀b∈v.b,¬(b.o=(o:Int)∧b.c=c∧b.n=n)):=fun c n=>by
   unfold Ca.getR Ca.find
   cases hfd:v.b.find? (fun x=>decide (x.o=(o:Int)∧x.c=c∧x.n=n)) with
   |none=>
    rw[List.find?_eq_none]at hfd
    exact⟨fun _ b hb h=>hfd b hb (decide_eq_true h),fun _=>rfl⟩
   |some b=>
    exact⟨(fun h=>by cases h),fun h=>absurd (of_decide_eq_true (by simpa using List.find?_some hfd:decide (b.o=(o:Int)∧b.c=c∧b.n=n)=true)) (h b (List.mem_of_find?_eq_some hfd))⟩
  constructor
  ·rintro ⟨x,hx,rfl⟩
   obtain⟨hm,hq⟩:=List.mem_filter.1 hx
   have hxr:=(Sf.right_iff x).1 (hr x hm)
   have hxo:x.2.2.1=((x.2.2.1.toNat:Nat):Int):=by omega
   unfold lkP want at hq
   simp only[Bool.and_eq_true,Bool.not_eq_true']at hq
   obtain⟨q1,q2,q3⟩:=hq
   have ha:=key x hm hxo
   refine⟨by omega,?_⟩
   rw[q2,Bool.true_and]
   unfold Vw.serveR
   rw[if_pos ⟨hf,by omega,by omega⟩,ha]
   dsimp only
   rw[if_neg (by simp),if_neg (by rw[q1];exact Bool.false_ne_true)]
   have hg:(Ca.getR v.b ((x.2.2.1.toNat:Nat):Int) x.1 x.2.1).2=10:=(gets _ _).2 fun b hb h=>by
    have:Sp.someOf (v.b.map fun x=>x.o) x.2.2.1.toNat=true:=by
     unfold Sp.someOf
     rw[List.any_eq_true]
     exact⟨b.o,List.mem_map.2 ⟨b,hb,rfl⟩,decide_eq_true h.1⟩
    rw[q3]at this
    cases this
   rw[if_neg (by rw[hg];decide)]
   exact decide_eq_true hg
  ·rintro ⟨ho,hq⟩
   rw[Bool.and_eq_true]at hq
   obtain⟨q1,q2⟩:=hq
   have q2:=of_decide_eq_true q2
   unfold Vw.serveR at q2
   rw[if_pos ⟨hf,by omega,by omega⟩]at q2
   cases ha:(Nt.at_ v.h (o:Int)).2 with
   |false=>rw[ha,if_pos rfl]at q2;cases q2
   |true=>
   rw[ha,if_neg (by simp)]at q2
   cases hg:(Nt.at_ v.h (o:Int)).1.2.2.2 with
   |true=>rw[hg,if_pos rfl]at q2;cases q2
   |false=>
   rw[hg,if_neg (by simp)]at q2
   have q3:(Ca.getR v.b (o:Int) (Nt.at_ v.h (o:Int)).1.1 (Nt.at_ v.h (o:Int)).1.2.1).2=10:=by
    by_cases c:(Ca.getR v.b (o:Int) (Nt.at_ v.h (o:Int)).1.1 (Nt.at_ v.h (o:Int)).1.2.1).2=0
    ·rw[if_pos c]at q2;cases q2
    ·rw[if_neg c]at q2;exact q2
   obtain⟨-,h2⟩:=val_at hr hp o
   obtain⟨y,hy,hyo⟩:=h2 ha
   have hk:=key y hy hyo
   have h1:y.2.2.1.toNat=o:=by omega
   refine⟨y,List.mem_filter.2 ⟨hy,?_⟩,h1⟩
   rw[hk]at hg q3
   unfold lkP want
   rw[hg,h1,q1]
   have hn:Sp.someOf (v.b.map fun x=>x.o) o=false:=by
    cases hs:Sp.someOf (v.b.map fun x=>x.o) o with
    |false=>rfl
    |true=>
     exfalso
     unfold Sp.someOf at hs
     rw[List.any_eq_true]at hs
     obtain⟨z,hz,hzo⟩:=hs
     obtain⟨b,hb,rfl⟩:=List.mem_map.1 hz
     have hzo:=of_decide_eq_true hzo
     have hw:=hv.wants b hb
     unfold Vw.wants at hw
     rw[hzo,hk]at hw
     simp only[Bool.and_eq_true,decide_eq_true_eq]at hw
     exact(gets _ _).1 q3 b hb ⟨hzo,hw.2.1.1.symm,hw.2.1.2.symm⟩
   rw[hn]
   rfl
end Vd
set_option maxRecDepth 100000 in
set_option maxHeartbeats 6400000 in
theorem vdlacks_any(q:Vl)(I:Option Addr)(ci:Nat)(it:List (Int × Int))(w:World)(h:VwAt w q)(hi:OneL w I ci it) :
  Calls Tryz.prog 44 #[.agg (vwCells q),.slice I it.length ci] w (GivesIE (Vw.lackR q.vw it).1 (Vw.lackR q.vw it).2 w):=by
 obtain⟨i0,hI,hZ0,hZ1,hZ2⟩:=info_parts infoInt
 have c1:=fun wx (hb:Below w.heap.size w wx)=>vdformed_any q wx (h.later hb)
 cases hf:Vw.fmd q.vw with
 |false=>
  have hR:Vw.lackR q.vw it=([],1):=by unfold Vw.lackR;rw[if_neg (by rw[hf];exact Bool.false_ne_true)]
  rw[hR]
  rw[hf]at c1
  clear hR hf h hi
  obtain⟨K,ck,kn,Z,cz,zs,H,ch,hs,B,cb,bs,room⟩:=q
  unfold vwCells at c1 ⊢
  try dsimp only at c1 ⊢
  have hb0:=below_new (Below.refl w.heap.size w) (.cells #[.slice K kn.length ck,.slice Z zs.length cz,.slice H hs.length ch,.slice B bs.length cb,.int .i64 room] 27)
  have C1:=Hd (c1 _ hb0)
  have V0:=Blk.new w 27 #[.slice K kn.length ck,.slice Z zs.length cz,.slice H hs.length ch,.slice B bs.length cb,.int .i64 room]
  have HB:=Hd hb0
  obtain⟨W,hW⟩:∃W,w.alloc (.cells #[.slice K kn.length ck,.slice Z zs.length cz,.slice H hs.length ch,.slice B bs.length cb,.int .i64 room] 27)=W:=⟨_,rfl⟩
  rw[hW]at C1 V0 HB
  have HW:=Hd hW
  have v0:=V0.cell (i:=0) rfl
  have v1:=V0.cell (i:=1) rfl
  have v2:=V0.cell (i:=2) rfl
  have v3:=V0.cell (i:=3) rfl
  have v4:=V0.cell (i:=4) rfl
  clear c1 hb0 V0 hW
  refine(callsIn_wide (n:=3)).1 ?_
  refine callsIn_of_wp_marks Tryz.func44 rfl trivial ?_ rfl
  simp only[Tryz.ntmps44,List.size_toArray,List.length_cons,List.length_nil,Nat.reduceAdd,Nat.reduceSub,Array.replicate_succ,Array.replicate_zero,List.push_toArray,List.append_toArray,List.nil_append,List.cons_append]
  have k0:(w.alloc (.cells #[.slice K kn.length ck,.slice Z zs.length cz,.slice H hs.length ch,.slice B bs.length cb,.int .i64 room] 27)).cell? ⟨w.heap.size,0,none⟩=_:=(Blk.new w 27 #[.slice K kn.length ck,.slice Z zs.length cz,.slice H hs.length ch,.slice B bs.length cb,.int .i64 room]).cell (i:=0) rfl
  have k1:(w.alloc (.cells #[.slice K kn.length ck,.slice Z zs.length cz,.slice H hs.length ch,.slice B bs.length cb,.int .i64 room] 27)).cell? ⟨w.heap.size,1,none⟩=_:=(Blk.new w 27 #[.slice K kn.length ck,.slice Z zs.length cz,.slice H hs.length ch,.slice B bs.length cb,.int .i64 room]).cell (i:=1) rfl
  have k2:(w.alloc (.cells #[.slice K kn.length ck,.slice Z zs.length cz,.slice H hs.length ch,.slice B bs.length cb,.int .i64 room] 27)).cell? ⟨w.heap.size,2,none⟩=_:=(Blk.new w 27 #[.slice K kn.length ck,.slice Z zs.length cz,.slice H hs.length ch,.slice B bs.length cb,.int .i64 room]).cell (i:=2) rfl
  have k3:(w.alloc (.cells #[.slice K kn.length ck,.slice Z zs.length cz,.slice H hs.length ch,.slice B bs.length cb,.int .i64 room] 27)).cell? ⟨w.heap.size,3,none⟩=_:=(Blk.new w 27 #[.slice K kn.length ck,.slice Z zs.length cz,.slice H hs.length ch,.slice B bs.length cb,.int .i64 room]).cell (i:=3) rfl
  have k4:(w.alloc (.cells #[.slice K kn.length ck,.slice Z zs.length cz,.slice H hs.length ch,.slice B bs.length cb,.int .i64 room] 27)).cell? ⟨w.heap.size,4,none⟩=_:=(Blk.new w 27 #[.slice K kn.length ck,.slice Z zs.length cz,.slice H hs.length ch,.slice B bs.length cb,.int .i64 room]).cell (i:=4) rfl
  gi_wp2_with fail
  rw[HW.out]
  refine⟨trivial,(callsIn_wide.2 C1.out).mono ?_⟩
  rintro e w1 ⟨rfl,b1⟩
  have BB:=Hd (below_on HB.out b1)
  clear b1 v0 v1 v2 v3 v4 k0 k1 k2 k3 k4
  gi_wp2
  exact⟨.tuple #[.slice none 0 0,.int .i64 1],by simp[results,Tryz.f44,go_sem],none,0,rfl,OneI.nil,BB.out⟩
 |true=>
 obtain⟨-,-,hhf,hbf⟩:=Vw.fmd_all hf
 have hhf:Sf.fmd q.h=true:=hhf
 obtain⟨xs,hxs⟩:=Sf.rights q.h ((Sf.fmd_list q.h).1 hhf).1
 have hlen:=Sf.fmd_len hhf
 have hbl:q.b.length≤256:=by
  have:=(Ca.fmd_parts hbf).2.2.1
  first
   |exact this
   |rwa [show q.vw.b=q.b.map Bc.b from rfl,List.length_map]at this
 have hR:Vw.lackR q.vw it=(Vd.lkL (Vd.want q.vw it) q.h,0):=by unfold Vw.lackR;rw[if_pos hf,←Vd.lack_is hf it];rfl
 rw[hR]
 rw[hf]at c1
 obtain⟨wf,hwf⟩:∃wf,Vd.want q.vw it=wf:=⟨_,rfl⟩
 have hwd:∀o,o<256→wf o=(Sp.inL it o && !Sp.someOf (q.b.map fun (x:Bc)=>x.b.o) o):=fun o _=>by rw[←hwf];unfold Vd.want;rw[show q.vw.b=q.b.map Bc.b from rfl,List.map_map];rfl
 rw[hwf]
 obtain⟨TL,hTL⟩:∃TL,Vd.lkL wf q.h=TL:=⟨_,rfl⟩
 rw[hTL]
 clear hR hf hwf hbf
 obtain⟨K,ck,kn,Z,cz,zs,H,ch,hs,B,cb,bs,room⟩:=q
 unfold vwCells at c1 ⊢
 dsimp only at c1 hxs hlen hbl hhf hwd hTL ⊢
 have HTL:=Hd hTL
 have hb0:=below_new (Below.refl w.heap.size w) (.cells #[.slice K kn.length ck,.slice Z zs.length cz,.slice H hs.length ch,.slice B bs.length cb,.int .i64 room] 27)
 have C1:=Hd (c1 _ hb0)
 have V0:=Blk.new w 27 #[.slice K kn.length ck,.slice Z zs.length cz,.slice H hs.length ch,.slice B bs.length cb,.int .i64 room]
 have HB:=Hd hb0
 obtain⟨W,hW⟩:∃W,w.alloc (.cells #[.slice K kn.length ck,.slice Z zs.length cz,.slice H hs.length ch,.slice B bs.length cb,.int .i64 room] 27)=W:=⟨_,rfl⟩
 have k0:(w.alloc (.cells #[.slice K kn.length ck,.slice Z zs.length cz,.slice H hs.length ch,.slice B bs.length cb,.int .i64 room] 27)).cell? ⟨w.heap.size,0,none⟩=_:=V0.cell (i:=0) rfl
 have k1:(w.alloc (.cells #[.slice K kn.length ck,.slice Z zs.length cz,.slice H hs.length ch,.slice B bs.length cb,.int .i64 room] 27)).cell? ⟨w.heap.size,1,none⟩=_:=V0.cell (i:=1) rfl
 have k2:(w.alloc (.cells #[.slice K kn.length ck,.slice Z zs.length cz,.slice H hs.length ch,.slice B bs.length cb,.int .i64 room] 27)).cell? ⟨w.heap.size,2,none⟩=_:=V0.cell (i:=2) rfl
 have k3:(w.alloc (.cells #[.slice K kn.length ck,.slice Z zs.length cz,.slice H hs.length ch,.slice B bs.length cb,.int .i64 room] 27)).cell? ⟨w.heap.size,3,none⟩=_:=V0.cell (i:=3) rfl
 have k4:(w.alloc (.cells #[.slice K kn.length ck,.slice Z zs.length cz,.slice H hs.length ch,.slice B bs.length cb,.int .i64 room] 27)).cell? ⟨w.heap.size,4,none⟩=_:=V0.cell (i:=4) rfl
 rw[hW]at C1 V0 HB
 have HW:=Hd hW
 have HV0:=Hd V0
 have HI:=Hd hi
 have HC:=Hd h.b
 have HH:=Hd h.h
 have HXS:=Hd hxs
 have HWD:=Hd hwd
 have HHF:=Hd hhf
 clear c1 hb0 V0 hW h hi hxs hwd hhf hTL
 refine(callsIn_wide (n:=3)).1 ?_
 refine callsIn_of_wp_marks Tryz.func44 rfl trivial ?_ rfl
 simp only[Tryz.ntmps44,List.size_toArray,List.length_cons,List.length_nil,Nat.reduceAdd,Nat.reduceSub,Array.replicate_succ,Array.replicate_zero,List.push_toArray,List.append_toArray,List.nil_append,List.cons_append]
 gi_wp2_with fail
 rw[HW.out]
 refine⟨trivial,(callsIn_wide.2 C1.out).mono ?_⟩
 rintro e w1 ⟨rfl,b1⟩
 have BB1:=Hd (below_on HB.out b1)
 have HV1:=Hd (HV0.out.later b1)
 obtain⟨g,hg⟩:∃g,w.heap.size=g:=⟨_,rfl⟩
 have hgp:g<w1.heap.size:=by rw[←hg];exact HV1.out.lt
 rw[hg]at HV1
 have y3:=HV1.out.cell (i:=3) rfl
 clear b1 k0 k1 k2 k3 k4 HV0 HB HW C1
 gi_wp2_with fail
 gi_loopw [6,19] (fun s6 s19 wr=>∃k:Nat,k≤bs.length∧s19 = .int .i64 (k:Int)∧wr.ownsRow w1.heap.size 3 1 s6 k ((bs.map fun (x:Bc)=>Value.int .i64 x.b.o).take k)∧Below w1.heap.size w1 wr) (fun _ s19 _=>bs.length-(intOf s19).toNat)
 case atStart=>exact⟨0,Nat.zero_le _,rfl,⟨rfl,.inl ⟨rfl,rfl⟩⟩,Below.refl _ _⟩
 case round=>
  obtain⟨k,hk,rfl,hown,hbw⟩:=hrel
  by_cases hlt:k<bs.length
  ·have hne:bs≠[]:=fun e=>by subst e;simp at hlt
   have hbb:=below_on BB1.out hbw
   obtain⟨b,off,hA,hcs⟩:=(HC.out.later hbb).at hne
   obtain⟨e0,e1,e2,e3⟩:=hcs k hlt
   have hsn:(bs.map fun (x:Bc)=>Value.int .i64 x.b.o).take (k+1)=(bs.map fun (x:Bc)=>Value.int .i64 x.b.o).take k++[.int .i64 (bs.getD k Bc.zero).b.o]:=by
    rw[List.take_succ_eq_append_getElem (by rw[List.length_map];exact hlt),List.getElem_map,List.getD_eq_getElem?_getD,List.getElem?_eq_getElem hlt]
    rfl
   have HC':=HC
   subst hA
   have hi0:(0:Int)≤(k:Int):=by omega
   have hi1:(k:Int)<(bs.length:Int):=by omega
   obtain⟨x,hx⟩:∃x,bs.getD k Bc.zero=x:=⟨_,rfl⟩
   rw[hx]at e0 e1 e2 e3 hsn
   obtain⟨X,d,⟨x0,x1,x2,v⟩⟩:=x
   dsimp only at e0 e1 e2 e3 hsn
   have bx:=below_new (Below.refl wr.heap.size wr) (.cells #[.int .i64 x0,.int .i64 x1,.int .i64 x2,.slice X v.length d] 49)
   have bn:=below_new bx (.cells #[.int .i64 x0] 3)
   have hrow:=own_later hown bn
   have hbn:=below_on hbw bn
   have hszn:=hbn.size
   have p0:=(Blk.new wr 49 #[.int .i64 x0,.int .i64 x1,.int .i64 x2,.slice X v.length d]).cell (i:=0) rfl
   have hnew:=Blk.new (wr.alloc (.cells #[.int .i64 x0,.int .i64 x1,.int .i64 x2,.slice X v.length d] 49)) 3 #[.int .i64 x0]
   have HNL:=Hd (show Lies ((wr.alloc (.cells #[.int .i64 x0,.int .i64 x1,.int .i64 x2,.slice X v.length d] 49)).alloc (.cells #[.int .i64 x0] 3)) (some ⟨wr.heap.size+1,0,none⟩) [.int .i64 x0] from fun _=>⟨wr.heap.size+1,0,rfl,fun j u hu=>by
    rw[World.size_alloc]at hnew
    rw[Nat.zero_add]
    exact hnew.cell (by simpa using hu)⟩)
   have HSN:=Hd hsn
   have HBN:=Hd hbn
   clear hcs hx hown hbw hbb bx bn hbn hsn hnew hne
   gi_wp2_with (gi_at_builtin;refine Go.Proofs.YtjlfehpockfkdaaGreat.wpListIn_append_lies _ rfl _ _ 85 rfl w1.heap.size 3 i0 (.int .i64 0) 1 8 Tryz.underlying85 hI hZ0 hZ1 hZ2 rfl (by decide) _ k ((bs.map fun (x:Bc)=>Value.int .i64 x.b.o).take k) rfl hrow (some ⟨wr.heap.size+1,0,none⟩) 1 1 (fun h=>by cases h) [.int .i64 x0] rfl rfl ?c1 (by intro u hu;simp at hu;rcases hu with rfl;rfl) ?c3 ?c4 ?c5 ?_)
   case c1=>exact HNL.out
   case c5=>exact hszn
   case c3=>unfold maxLen;omega
   case c4=>omega
   intro v' wz hownz hgz _
   have hbz:=HBN.out.grown hgz HBN.out.size (fun r e=>own_ge hrow r e)
   rw[←HSN.out]at hownz
   obtain⟨gv,capv,rfl⟩:=ownsRow_succ hownz
   have HQ:=Hd (And.intro hownz hbz)
   clear hownz hgz hrow hbz p0 HNL HBN
   gi_wp2_with fail
   go_roundw
   case rel=>exact⟨k+1,by omega,by go_num,HQ.out.1,HQ.out.2⟩
   case measure=>simp[intOf];omega
  ·obtain rfl:k=bs.length:=by omega
   rw[List.take_of_length_le (by rw[List.length_map];exact Nat.le_refl _)]at hown
   obtain⟨VB,vb,hvv,-,-,-,hTl⟩:=own_form hown
   subst hvv
   have hTl2:Lies wr VB ((bs.map fun (x:Bc)=>x.b.o).map (Value.int .i64)):=by rw[List.map_map];exact hTl
   have n1:=spof_any VB vb (bs.map fun (x:Bc)=>x.b.o) wr (by rw[List.length_map];omega) hTl2
   rw[List.length_map]at n1
   have NO:=Hd n1
   have BB2:=Hd (below_on BB1.out hbw)
   have HV2:=Hd (HV1.out.later hbw)
   clear hown hbw hTl hTl2 n1 HV1 y3 BB1
   gi_wp2_with fail
   refine⟨trivial,(callsIn_wide.2 NO.out).mono ?_⟩
   rintro e w2 hgs
   obtain⟨OA,oc,rfl,hO,b2⟩:=hgs.one
   have BB3:=Hd (below_on BB2.out b2)
   have n2:=(spless_any I OA ci oc it (Sp.ofL (Sp.someOf (bs.map fun (x:Bc)=>x.b.o))) w2 (HI.out.later BB3.out) hO).mono fun _ _ hg=>hg.one
   rw[show Sp.lessS it (Sp.ofL (Sp.someOf (bs.map fun (x:Bc)=>x.b.o)))=Sp.ofL wf from Sp.ofL_ext (fun o ho=>by rw[Sp.inL_ofL _ o ho,HWD.out o ho])]at n2
   have NL:=Hd n2
   have HV3:=Hd (HV2.out.later b2)
   obtain⟨ol,hol⟩:∃ol,(Sp.ofL (Sp.someOf (bs.map fun (x:Bc)=>x.b.o))).length=ol:=⟨_,rfl⟩
   rw[hol]at NL ⊢
   clear hgs hO b2 n2 NO HV2 BB2 hol
   gi_wp2_with fail
   refine⟨trivial,(callsIn_wide.2 NL.out).mono ?_⟩
   rintro e w3 ⟨DA,dc,rfl,hD,b3⟩
   have b4:=below_new (below_new (Below.refl w3.heap.size w3) (.cells #[.slice DA (Sp.ofL wf).length dc] 28)) (.cells #[.slice none 0 0] 85)
   have D4:=(Blk.new w3 28 #[.slice DA (Sp.ofL wf).length dc]).alloc (.cells #[.slice none 0 0] 85)
   have R4:=Blk.new (w3.alloc (.cells #[.slice DA (Sp.ofL wf).length dc] 28)) 85 #[.slice none 0 0]
   rw[World.size_alloc]at R4
   have HV4:=Hd ((HV3.out.later b3).later b4)
   have v2:=HV4.out.cell (i:=2) rfl
   obtain⟨w4,hw4⟩:∃w4,(w3.alloc (.cells #[.slice DA (Sp.ofL wf).length dc] 28)).alloc (.cells #[.slice none 0 0] 85)=w4:=⟨_,rfl⟩
   have hz4:w3.heap.size+2=w4.heap.size:=by rw[←hw4];simp
   have BB4:=below_on (below_on BB3.out b3) b4
   rw[hw4]at D4 R4 HV4 BB4 b4
   have NA:=Hd (sdall_list H ch hs w w4 HH.out BB4 HHF.out xs HXS.out)
   have HW4:=Hd hw4
   have HD4:=Hd (hD.later b4)
   have hdo:∀b off,stCells (Sp.ofL wf)≠[]→DA=some ⟨b,off,none⟩→b<w3.heap.size:=fun b off hne e=>by
    obtain⟨b2,off2,e2,hc2⟩:=hD.2.2.2 hne
    rw[e]at e2
    cases e2
    obtain⟨u,hu⟩:∃u,(stCells (Sp.ofL wf))[0]?=some u:=⟨_,List.getElem?_eq_getElem (List.length_pos_iff.2 hne)⟩
    obtain⟨ob,hob,-⟩:=cells_of_cell (hc2 0 u hu)
    exact(Array.getElem?_eq_some_iff.1 hob).1
   have hz3:w.heap.size≤w3.heap.size:=(below_on BB3.out b3).size
   clear hD b3 b4 hw4 NL HV3 BB3
   gi_wp2_with fail
   rw[HW4.out]
   refine⟨trivial,(callsIn_wide.2 NA.out).mono ?_⟩
   rintro e w5 ⟨gf,lb,CA,cc,rfl,b5,hent,hCO,hfar,hseq⟩
   obtain⟨gd,hgd⟩:∃gd,w3.heap.size=gd:=⟨_,rfl⟩
   rw[hgd]at D4 R4 hz4 hz3 hdo
   have HDO:=Hd hdo
   have HD5:=Hd (D4.later b5)
   have R5:=R4.later b5
   have bb5:=below_on BB4 b5
   have hz5:=b5.size
   have HDL:=Hd (HD4.out.later b5)
   have HCO:=Hd hCO
   have hcp:∀b off,hs≠[]→CA=some ⟨b,off,none⟩→b≠gd+1:=fun b off hne e=>by have:=hfar b off hne e;omega
   have HCP:=Hd hcp
   have HDW:=Hd (fun (X:World) (hst:Vd.Stay (gd+1) w5 X)=>(⟨HDL.out.1,HDL.out.2.1,HDL.out.2.2.1,fun hne=>by
    obtain⟨b,off,e,hc⟩:=HDL.out.2.2.2 hne
    refine⟨b,off,e,fun j u hu =>?_⟩
    have hlt:=HDO.out b off hne e
    exact hst.cell (hc j u hu) (show b≠gd+1 by omega)⟩:OneL X DA dc (Sp.ofL wf)))
   clear D4 R4 b5 v2 hdo hfar hcp hCO NA HW4 HV4 BB4
   gi_wp2_with fail
   try simp only[Nat.add_assoc,Nat.reduceAdd]
   refine wpIn_rangeFunc_ownH rfl (by omega) (gf:=gf) (lb:=lb) rfl trivial hent hseq KeepL.trans (fun W l' o o' _ h1 h2 _=>KeepL.put W l' o o' h1 h2) (Below.refl _ _) (fun _=>rfl)
    (fun pre X=>((∃v,Boxed X (gd+1) 85 v∧X.ownsRow w5.heap.size 3 1 v (Vd.lkL wf (pre.map Subtype.val)).length ((Vd.lkL wf (pre.map Subtype.val)).map fun n:Nat=>Value.int .i64 (n:Int))∧True)∧Vd.Stay (gd+1) w5 X)∧Below w.heap.size w X)
    (fun _ _ _=>False)
    ?hI (fun _ _ _ _ _ h _ _=>h) ⟨⟨⟨.slice none 0 0,R5,⟨rfl,.inl ⟨rfl,rfl⟩⟩,trivial⟩,Vd.Stay.refl _ _⟩,bb5⟩
    (fun x a' X=>∃Bx,w5.heap.size≤Bx∧Blk X Bx 52 (Nt.wrArr x.val)∧a'={ tmps:=#[.agg #[.slice K kn.length ck,.slice Z zs.length cz,.slice H hs.length ch,.slice B bs.length cb,.int .i64 room],.slice I it.length ci,.pointer (some ⟨g,0,none⟩),undef,.slice none 0 0,.int .i64 0,.slice VB bs.length vb,undef,u8,.pointer (some ⟨gd,0,none⟩),.pointer (some ⟨gd+1,0,none⟩),.int .i64 x.val.2.2.1,.pointer (some ⟨Bx,0,none⟩),.agg #[.slice K kn.length ck,.slice Z zs.length cz,.slice H hs.length ch,.slice B bs.length cb,.int .i64 room],.bool true,.bool false,.pointer (some ⟨g,3,none⟩),.slice B bs.length cb,.int .i64 (bs.length:Int),.int .i64 (bs.length:Int),.bool false,u21,u22,u23,u24,u25,u26,u27,u28,.slice I it.length ci,.slice VB bs.length vb,.slice OA ol oc,.slice DA (Sp.ofL wf).length dc,.pointer (some ⟨g,2,none⟩),.slice H hs.length ch,.func (Fn.func gf) #[] lb,.int .i64 x.val.2.2.1,Nt.wrV x.val,undef,undef,undef,undef,undef,undef,undef,undef,undef,undef,undef,undef,undef],defers:=[] })
    ?hAx ?assign ?body ?done (fun _ _ _ _ _ _ h _=>h.elim)
   case hI=>exact OwnFrom.and (OwnFrom.and (Own.from (holdsRow_own w5.heap.size (gd+1) 85 3 1 (fun (pre:List Sf.RW)=>(Vd.lkL wf (pre.map Subtype.val)).length) (fun pre=>(Vd.lkL wf (pre.map Subtype.val)).map fun n:Nat=>Value.int .i64 (n:Int)) (fun _ _=>True)) _) (Vd.Stay.own (Nat.le_refl _))) (ownFrom_below (Nat.le_refl _) (by omega))
   case hAx=>exact fun x a' _ X Y row ⟨Bx,h0,h1,h2⟩ hg hr=>⟨Bx,h0,blk_own _ _ (fun (_:Unit)=>Nt.wrArr x.val) () X Y row h1 hg (fun r e=>(hr r e).2),h2⟩
   case assign=>
    rintro l' pre ⟨x,hx⟩ X K ⟨⟨⟨v,i0,i1,-⟩,i2⟩,i3⟩ hK
    obtain⟨x0,x1,x2,x3⟩:=x
    unfold toldW Nt.wrV
    unfold Nt.wrV Nt.wrArr at hK
    dsimp only at hK ⊢
    have bN:=below_new (Below.refl X.heap.size X) (.cells #[.int .i64 x0,.int .i64 x1,.int .i64 x2,.bool x3] 52)
    have HK:=Hd hK
    have F0:=Hd (Blk.later i0 bN)
    have F1:=Hd (own_later i1 bN)
    have F2:=Hd (i2.later bN)
    have F3:=Hd (below_on i3 bN)
    have F4:=Hd (Blk.new X 52 #[.int .i64 x0,.int .i64 x1,.int .i64 x2,.bool x3])
    have F5:=Hd bN
    have F6:=Hd i2.size
    clear hK i0 i1 i2 i3 bN hseq R5
    gi_wp2
    exact HK.out _ _ (keepsF_below F5.out) (fun h=>h.later F5.out) ⟨⟨⟨_,F0.out,F1.out,trivial⟩,F2.out⟩,F3.out⟩ ⟨_,F6.out,F4.out,rfl⟩
   case body=>
    rintro l' pre ⟨x,hx⟩ a' X hl _ ⟨⟨⟨v8,hv,hrow,-⟩,i2⟩,i3⟩ ⟨Bx,hBx,hX,rfl⟩ hlt
    have hsn:Vd.lkL wf ((pre++[(⟨x,hx⟩:Sf.RW)]).map Subtype.val)=Vd.lkL wf (pre.map Subtype.val)++(if Vd.lkP wf x=true then [x.2.2.1.toNat] else []):=by rw[List.map_append];exact Vd.lk_snoc wf _ x
    have hfl:(Vd.lkL wf (pre.map Subtype.val)).length≤256:=Nat.le_trans (Vd.lk_len _ _) (by rw[List.length_map];omega)
    have hob:=(Sf.right_iff x).1 hx
    obtain⟨M,hM⟩:∃M,Vd.lkL wf (pre.map Subtype.val)=M:=⟨_,rfl⟩
    rw[hM]at hsn hrow hfl
    obtain⟨VA,vc,hvv,-,-,-,-⟩:=own_form hrow
    subst hvv
    obtain⟨x0,x1,x2,x3⟩:=x
    dsimp only at hX hob hsn ⊢
    unfold Nt.wrV
    unfold Nt.wrArr at hX
    unfold Vd.lkP at hsn
    dsimp only at hX hsn ⊢
    obtain⟨o,rfl⟩:∃o:Nat,x2=(o:Int):=⟨x2.toNat,by omega⟩
    rw[Int.toNat_natCast]at hsn
    have ho:o<256:=by omega
    have u0:=(i2.blk HD5.out (by omega)).cell (i:=0) rfl
    have g3:=hX.cell (i:=3) rfl
    have n1:=sphas_any DA dc (Sp.ofL wf) (o:Int) X (HDW.out X i2)
    rw[Vd.in_ofL wf ho]at n1
    have N1:=Hd n1
    have HX:=Hd hX
    have HV:=Hd hv
    have HROW:=Hd hrow
    have I2:=Hd i2
    have I3:=Hd i3
    have hz6:=i3.size
    have hz7:=i2.size
    have hgq:gd+1<w5.heap.size:=R5.lt
    cases x3 with
    |true=>
     rw[if_neg (by simp),List.append_nil]at hsn
     have HSN:=Hd hsn
     have FIN:=Hd (show KeepsFrom w5.heap.size X X∧KeepL CA cc hs X X∧((∃v,Boxed X (gd+1) 85 v∧X.ownsRow w5.heap.size 3 1 v (Vd.lkL wf ((pre++[(⟨(x0,x1,(o:Int),true),hx⟩:Sf.RW)]).map Subtype.val)).length ((Vd.lkL wf ((pre++[(⟨(x0,x1,(o:Int),true),hx⟩:Sf.RW)]).map Subtype.val)).map fun n:Nat=>Value.int .i64 (n:Int))∧True)∧Vd.Stay (gd+1) w5 X)∧Below w.heap.size w X from
      ⟨KeepsFrom.refl _ _,fun h=>h,⟨⟨_,HV.out,by rw[HSN.out];exact HROW.out,trivial⟩,I2.out⟩,I3.out⟩)
     clear hX hv hrow i2 i3 hsn hseq R5 hl hM hfl hob n1 HV HROW HX N1 u0
     gi_wp2_with fail
     refine⟨trivial,?_⟩
     gi_wp2
     exact FIN.out
    |false=>
    cases hq:wf o with
    |false=>
     rw[hq,if_neg (by simp),List.append_nil]at hsn
     rw[hq]at N1
     have HSN:=Hd hsn
     clear hX hv hrow i2 i3 hsn hq hseq R5 hl hM hfl hob n1
     gi_wp2_with fail
     refine⟨trivial,(CallsIn.inRound l' (callsIn_wide.2 N1.out)).mono ?_⟩
     rintro e w6 ⟨rfl,b6⟩
     have FIN:=Hd (show KeepsFrom w5.heap.size X w6∧KeepL CA cc hs X w6∧((∃v,Boxed w6 (gd+1) 85 v∧w6.ownsRow w5.heap.size 3 1 v (Vd.lkL wf ((pre++[(⟨(x0,x1,(o:Int),false),hx⟩:Sf.RW)]).map Subtype.val)).length ((Vd.lkL wf ((pre++[(⟨(x0,x1,(o:Int),false),hx⟩:Sf.RW)]).map Subtype.val)).map fun n:Nat=>Value.int .i64 (n:Int))∧True)∧Vd.Stay (gd+1) w5 w6)∧Below w.heap.size w w6 from
      ⟨keepsF_below b6,fun h=>h.later b6,⟨⟨_,Blk.later HV.out b6,by rw[HSN.out];exact own_later HROW.out b6,trivial⟩,I2.out.later b6⟩,below_on I3.out b6⟩)
     clear b6 HV HROW HX g3
     gi_wp2
     exact FIN.out
    |true=>
     rw[hq,if_pos (by simp)]at hsn
     rw[hq]at N1
     have HSN:=Hd hsn
     clear hX hv hrow i2 i3 hsn hq hseq hl hM hob n1 R5
     gi_wp2_with fail
     refine⟨trivial,(CallsIn.inRound l' (callsIn_wide.2 N1.out)).mono ?_⟩
     rintro e w6 ⟨rfl,b6⟩
     have hv6:Boxed w6 (gd+1) 85 (.slice VA M.length vc):=Blk.later HV.out b6
     have hc6:=hv6.cell
     have hrow6:=own_later HROW.out b6
     have hrowL:=own_base hrow6 (show w.heap.size≤w5.heap.size by omega)
     have hlt6:=hv6.lt
     have hbw6:=below_on I3.out b6
     have hst6:=I2.out.later b6
     have hsz6:=hst6.size
     have hszL:=hbw6.size
     have HBW6:=Hd hbw6
     have HST6:=Hd hst6
     have B6:=Hd b6
     clear b6 hbw6 hst6 N1 u0 g3
     gi_wp2_with (gi_at_builtin;refine Go.Proofs.YtjlfehpockfkdaaGreat.wpListIn_append_lies _ rfl _ _ 85 rfl w5.heap.size 3 i0 (.int .i64 0) 1 8 Tryz.underlying85 hI hZ0 hZ1 hZ2 rfl (by decide) _ M.length (M.map fun n:Nat=>Value.int .i64 (n:Int)) rfl (hrow6.alloc _) (some ⟨w6.heap.size,0,none⟩) 1 1 (fun h=>by cases h) [.int .i64 (o:Int)] rfl rfl ?c1 (by intro u hu;simp at hu;rcases hu with rfl;rfl) ?c3 ?c4 ?c5 ?_)
     case c1=>
      intro _
      refine⟨w6.heap.size,0,rfl,fun j u hu =>?_⟩
      rw[Nat.zero_add]
      exact(Blk.new w6 3 #[.int .i64 (o:Int)]).cell (by simpa using hu)
     case c3=>unfold maxLen;omega
     case c4=>omega
     case c5=>simp;omega
     intro v' w7 hown1 hg1 hm1
     obtain⟨g',cap',rfl⟩:=ownsRow_succ hown1
     obtain⟨hv1,hv2,-,hk2,hb2⟩:=hv6.appended (by decide) hrowL hszL (by omega) (own_base hown1 (show w.heap.size≤w5.heap.size by omega)) hg1
     have hr2:=hown1.kept (grownBy_setCell' w7 (gd+1) (.slice (some ⟨g',0,none⟩) (M.length+1) cap')) (.inr (hv1.not_row (by decide) hown1).symm)
     have hst7:=((HST6.out.later (below_new (Below.refl w6.heap.size w6) (.cells #[.int .i64 (o:Int)] 3))).grown hg1 (fun r e=>own_ge hrow6 r e)).set 0 (.slice (some ⟨g',0,none⟩) (M.length+1) cap')
     have hc1:=hv1.cell
     have hf1:=hv1.frozen
     have HV2:=Hd hv2
     have HR2:=Hd hr2
     have HST7:=Hd hst7
     have KF:=Hd (KeepsFrom.trans (keepsF_below (n0:=w5.heap.size) B6.out) (hk2.from _))
     have FB:=Hd (HBW6.out.trans hb2)
     clear hv2 hr2 hown1 hg1 hrow6 hrowL hv6 hv1 hk2 hb2 hc6 hst7
     gi_wp2
     exact⟨KF.out,fun _=>HST7.out.oneW HCO.out HCP.out,⟨⟨_,HV2.out,by rw[HSN.out,List.map_append,List.length_append];exact HR2.out,trivial⟩,HST7.out⟩,FB.out⟩
   case done=>
    rintro DD ys X hDD hys ⟨⟨⟨v,hv,hrow,-⟩,i2⟩,i3⟩ hK
    subst hys
    rw[HXS.out,HTL.out]at hrow
    obtain⟨VA,vc,hvv,-,-,-,-⟩:=own_form hrow
    subst hvv
    have hc:=hv.cell
    have HROW:=Hd hrow
    have I3:=Hd i3
    clear hseq hv hrow i2 i3 R5
    gi_wp2
    refine⟨by simp,.inl ⟨_,_,rfl,run_takeDeferred hK,?_⟩⟩
    have QR:=own_row w5.heap.size 3 1 TL.length (.slice VA TL.length vc) (TL.map fun n:Nat=>Value.int .i64 (n:Int)) () _ _ (some DD) HROW.out (grownBy_putObj' _ DD (.deferred none)) (fun r e=>by cases e;exact⟨_,hK,rfl⟩)
    obtain⟨QA,qc,hqv,q1,q2,q3,q4⟩:=own_form QR
    injection hqv with hq1 _ hq2
    subst hq1 hq2
    exact⟨.tuple #[.slice VA TL.length vc,.int .i64 0],by simp[results,Tryz.f44,go_sem],VA,vc,rfl,⟨q1,q2,q3,q4⟩,I3.out.trans (belowK_b (w:=w) (Nat.le_refl _) _ DD _ _ (by omega) hK rfl rfl)⟩
end Go.Proofs.YtjlfehpockfkdaaGreat
namespace Go.Proofs.YtjlfehpockfkdaaGreat
open Go.RowKit Fb
set_option maxRecDepth 100000 in
set_option maxHeartbeats 6400000 in
theorem vdserve_any(q:Vl)(o:Int)(w:World)(h:VwAt w q):Calls Tryz.prog 42 #[.agg (vwCells q),.int .i64 o] w (GivesBdE (Vw.serveR q.vw o).1 (Vw.serveR q.vw o).2 w):=by
 have hR:Vw.serveR q.vw o=if Vw.fmd q.vw=true∧0≤o∧o≤255 then
  (if (Nt.at_ q.h o).2=false then (Bd.zero,8)
   else if (Nt.at_ q.h o).1.2.2.2=true then (Bd.zero,13)
   else if (Ca.getR (q.b.map Bc.b) o (Nt.at_ q.h o).1.1 (Nt.at_ q.h o).1.2.1).2=0 then (⟨o,(Nt.at_ q.h o).1.1,(Nt.at_ q.h o).1.2.1,(Ca.getR (q.b.map Bc.b) o (Nt.at_ q.h o).1.1 (Nt.at_ q.h o).1.2.1).1⟩,0)
   else (Bd.zero,(Ca.getR (q.b.map Bc.b) o (Nt.at_ q.h o).1.1 (Nt.at_ q.h o).1.2.1).2))
  else (Bd.zero,1):=rfl
 have hby:=getR_byte (l:=q.b.map Bc.b) (by
  intro x hx
  obtain⟨z,hz,rfl⟩:=List.mem_map.1 hx
  exact(h.b.each z hz).byte) o (Nt.at_ q.h o).1.1 (Nt.at_ q.h o).1.2.1
 have hF:=fun wx (hb:Below w.heap.size w wx)=>vdformed_any q wx (h.later hb)
 have hN:=fun (hf:Vw.fmd q.vw=true) wx (hb:Below w.heap.size w wx)=>(by
  have hq:=sdget_any q.H q.ch q.h o wx (h.later hb).h
  unfold Sf.getR at hq
  rw[if_pos (show Sf.fmd q.h=true from(Vw.fmd_all hf).2.2.1)]at hq
  exact hq:Calls Tryz.prog 85 #[.slice q.H q.h.length q.ch,.int .i64 o] wx (Says (.tuple #[Nt.wrV (if (Nt.at_ q.h o).2=true then ((Nt.at_ q.h o).1,(0:Int)) else (Nt.zeroW,8)).1,.int .i64 (if (Nt.at_ q.h o).2=true then ((Nt.at_ q.h o).1,(0:Int)) else (Nt.zeroW,8)).2]) wx))
 have hG:=fun (hf:Vw.fmd q.vw=true) wx (hb:Below w.heap.size w wx)=>cdget_any q.B q.cb q.b o (Nt.at_ q.h o).1.1 (Nt.at_ q.h o).1.2.1 wx (h.later hb).b (fmd_fits (Vw.fmd_b hf))
 obtain⟨⟨rb,re⟩,hRR⟩:∃p,Vw.serveR q.vw o=p:=⟨_,rfl⟩
 rw[hRR]
 rw[hRR]at hR
 clear hRR h
 obtain⟨⟨⟨a0,a1,a2,a3⟩,ok⟩,hp⟩:∃p,Nt.at_ q.h o=p:=⟨_,rfl⟩
 rw[hp]at hN hG hby hR
 obtain⟨fm,hfm⟩:∃f,Vw.fmd q.vw=f:=⟨_,rfl⟩
 rw[hfm]at hF hG hR hN
 dsimp only at hN hG hby hR
 obtain⟨⟨gv,ge⟩,hgg⟩:∃p,Ca.getR (q.b.map Bc.b) o a0 a1=p:=⟨_,rfl⟩
 rw[hgg]at hG hby hR
 dsimp only at hG hby hR
 dsimp only
 have HBY:=Hd hby
 have HA:=Hd hR.symm
 obtain⟨K,ck,kn,Z,cz,zs,H,ch,hs,B,cb,bs,room⟩:=q
 unfold vwCells at hF ⊢
 dsimp only at hF hN hG ⊢
 have C1:=Hd hF
 have NA0:=Hd (fun (hk:ok=false) (hf:fm=true) wx hb=>show Calls Tryz.prog 85 #[.slice H hs.length ch,.int .i64 o] wx (Says (.tuple #[.agg #[.int .i64 0,.int .i64 0,.int .i64 0,.bool false],.int .i64 8]) wx) from by have hq:=hN hf wx hb;rw[if_neg (by rw[hk];exact Bool.false_ne_true)]at hq;exact hq)
 have NA1:=Hd (fun (hk:ok=true) (hf:fm=true) wx hb=>show Calls Tryz.prog 85 #[.slice H hs.length ch,.int .i64 o] wx (Says (.tuple #[.agg #[.int .i64 a0,.int .i64 a1,.int .i64 a2,.bool a3],.int .i64 0]) wx) from by have hq:=hN hf wx hb;rw[if_pos hk]at hq;exact hq)
 have NO:=Hd (fun wx=>vdisObject_says o wx)
 have NG:=Hd hG
 clear hF hN hG hby hp hfm hgg hR
 have hb0:=below_new (below_new (Below.refl w.heap.size w) (.cells #[.slice K kn.length ck,.slice Z zs.length cz,.slice H hs.length ch,.slice B bs.length cb,.int .i64 room] 27)) (.cells #[.int .i64 0,.int .i64 0,.int .i64 0,.slice none 0 0] 49)
 have hV:=(Blk.new w 27 #[.slice K kn.length ck,.slice Z zs.length cz,.slice H hs.length ch,.slice B bs.length cb,.int .i64 room]).alloc (.cells #[.int .i64 0,.int .i64 0,.int .i64 0,.slice none 0 0] 49)
 have hR:=Blk.new (w.alloc (.cells #[.slice K kn.length ck,.slice Z zs.length cz,.slice H hs.length ch,.slice B bs.length cb,.int .i64 room] 27)) 49 #[.int .i64 0,.int .i64 0,.int .i64 0,.slice none 0 0]
 simp only[World.size_alloc]at hR
 obtain⟨W,hW⟩:∃W,(w.alloc (.cells #[.slice K kn.length ck,.slice Z zs.length cz,.slice H hs.length ch,.slice B bs.length cb,.int .i64 room] 27)).alloc (.cells #[.int .i64 0,.int .i64 0,.int .i64 0,.slice none 0 0] 49)=W:=⟨_,rfl⟩
 rw[hW]at hb0 hV hR
 have HW:=Hd hW
 obtain⟨g,hgg⟩:∃g,w.heap.size=g:=⟨_,rfl⟩
 rw[hgg]at hV hR
 have HV:=Hd (show Blk W (g) 27 #[.slice K kn.length ck,.slice Z zs.length cz,.slice H hs.length ch,.slice B bs.length cb,.int .i64 room] from hV)
 have HR:=Hd (show Blk W (g+1) 49 #[.int .i64 0,.int .i64 0,.int .i64 0,.slice none 0 0] from hR)
 have HB0:=Hd hb0
 clear hW hb0 hV hR
 go_enter Tryz.func42,Tryz.ntmps42
 go_upto_region 1 with (fail)
 rw[HW.out]
 clear HW
 have V_0:=HV.out.cell (i:=0) rfl
 have V_1:=HV.out.cell (i:=1) rfl
 have V_2:=HV.out.cell (i:=2) rfl
 have V_3:=HV.out.cell (i:=3) rfl
 have V_4:=HV.out.cell (i:=4) rfl
 go_wp2_with fail
 refine(C1.out W HB0.out).mono ?_
 rintro e w1 ⟨rfl,b1⟩
 clear V_0 V_1 V_2 V_3 V_4
 replace HV:=Hd (HV.out.later b1)
 replace HR:=Hd (HR.out.later b1)
 have HB1:=Hd (below_on HB0.out b1)
 clear HB0
 clear b1 C1
 cases fm with
 |false=>
  have hr:=HA.out
  simp[]at hr
  obtain⟨rfl,rfl⟩:=hr
  have R_0:=HR.out.cell (i:=0) rfl
  have R_1:=HR.out.cell (i:=1) rfl
  have R_2:=HR.out.cell (i:=2) rfl
  have R_3:=HR.out.cell (i:=3) rfl
  have R_f0:=HR.out.free 0
  have R_f1:=HR.out.free 1
  have R_f2:=HR.out.free 2
  have R_f3:=HR.out.free 3
  have hh:w.heap.size≤g+1:=by omega
  have HP:=Hd ((((HR.out.put 0 (.int .i64 0)).put 1 (.int .i64 0)).put 2 (.int .i64 0)).put 3 (.slice none 0 0))
  have HQ:=Hd ((((HB1.out.setCell (p:=⟨g+1,0,none⟩) hh (.int .i64 0)).setCell (p:=⟨g+1,1,none⟩) hh (.int .i64 0)).setCell (p:=⟨g+1,2,none⟩) hh (.int .i64 0)).setCell (p:=⟨g+1,3,none⟩) hh (.slice none 0 0))
  clear hh
  go_wp2
  exact bodyPost_ret (results_cell_tmp (p:=4) (t1:=5) (ty:=49) rfl _ _ (g+1) 49 #[.int .i64 0,.int .i64 0,.int .i64 0,.slice none 0 0] _ rfl HP.out Tryz.underlying49 rfl infoBdz) rfl ⟨none,0,rfl,OneB.nil,HQ.out⟩
 |true=>
 go_wp2_with fail
 refine(NO.out _).mono ?_
 rintro e w2 ⟨rfl,b2⟩
 replace HV:=Hd (HV.out.later b2)
 replace HR:=Hd (HR.out.later b2)
 have HB2:=Hd (below_on HB1.out b2)
 clear HB1
 clear b2 NO
 by_cases hoo:0≤o∧o≤255
 rotate_left
 ·
  rw[decide_eq_false hoo]
  have hr:=HA.out
  simp[hoo]at hr
  obtain⟨rfl,rfl⟩:=hr
  have R_0:=HR.out.cell (i:=0) rfl
  have R_1:=HR.out.cell (i:=1) rfl
  have R_2:=HR.out.cell (i:=2) rfl
  have R_3:=HR.out.cell (i:=3) rfl
  have R_f0:=HR.out.free 0
  have R_f1:=HR.out.free 1
  have R_f2:=HR.out.free 2
  have R_f3:=HR.out.free 3
  have hh:w.heap.size≤g+1:=by omega
  have HP:=Hd ((((HR.out.put 0 (.int .i64 0)).put 1 (.int .i64 0)).put 2 (.int .i64 0)).put 3 (.slice none 0 0))
  have HQ:=Hd ((((HB2.out.setCell (p:=⟨g+1,0,none⟩) hh (.int .i64 0)).setCell (p:=⟨g+1,1,none⟩) hh (.int .i64 0)).setCell (p:=⟨g+1,2,none⟩) hh (.int .i64 0)).setCell (p:=⟨g+1,3,none⟩) hh (.slice none 0 0))
  clear hh
  go_wp2
  exact bodyPost_ret (results_cell_tmp (p:=4) (t1:=5) (ty:=49) rfl _ _ (g+1) 49 #[.int .i64 0,.int .i64 0,.int .i64 0,.slice none 0 0] _ rfl HP.out Tryz.underlying49 rfl infoBdz) rfl ⟨none,0,rfl,OneB.nil,HQ.out⟩
 rw[decide_eq_true hoo]
 cases ok with
 |false=>
  have V_2:=HV.out.cell (i:=2) rfl
  go_wp2_with fail
  refine(NA0.out (by first|rfl|trivial) (by first|rfl|trivial) _ HB2.out).mono ?_
  rintro e w3 ⟨rfl,b3⟩
  clear V_2
  replace HV:=Hd (HV.out.later b3)
  replace HR:=Hd (HR.out.later b3)
  have HB3:=Hd (below_on HB2.out b3)
  clear HB2
  clear b3 NA0 NA1 NG
  obtain⟨gw,hggw⟩:∃gw,w3.heap.size=gw:=⟨_,rfl⟩
  have lt_V_gw:g<gw:=by have:=HV.out.lt;rw[hggw]at this;exact this
  have lt_R_gw:g+1<gw:=by have:=HR.out.lt;rw[hggw]at this;exact this
  have le_gw:w.heap.size≤gw:=by have:=HB3.out.size;rw[hggw]at this;exact this
  go_upto_region 4 with (fail)
  have b4:=below_new (Below.refl w3.heap.size w3) (.cells #[.int .i64 0,.int .i64 0,.int .i64 0,.bool false] 52)
  have hY:=Blk.new w3 52 #[.int .i64 0,.int .i64 0,.int .i64 0,.bool false]
  obtain⟨w4,hw4⟩:∃x,w3.alloc (.cells #[.int .i64 0,.int .i64 0,.int .i64 0,.bool false] 52)=x:=⟨_,rfl⟩
  rw[hw4]at b4 hY
  rw[hw4]
  replace HV:=Hd (HV.out.later b4)
  replace HR:=Hd (HR.out.later b4)
  have HB4:=Hd (below_on HB3.out b4)
  clear HB3
  rw[hggw]at hY
  have HY:=Hd hY
  clear b4 hw4 hY
  have hr:=HA.out
  simp[hoo]at hr
  obtain⟨rfl,rfl⟩:=hr
  have R_0:=HR.out.cell (i:=0) rfl
  have R_1:=HR.out.cell (i:=1) rfl
  have R_2:=HR.out.cell (i:=2) rfl
  have R_3:=HR.out.cell (i:=3) rfl
  have R_f0:=HR.out.free 0
  have R_f1:=HR.out.free 1
  have R_f2:=HR.out.free 2
  have R_f3:=HR.out.free 3
  have hh:w.heap.size≤g+1:=by omega
  have HP:=Hd ((((HR.out.put 0 (.int .i64 0)).put 1 (.int .i64 0)).put 2 (.int .i64 0)).put 3 (.slice none 0 0))
  have HQ:=Hd ((((HB4.out.setCell (p:=⟨g+1,0,none⟩) hh (.int .i64 0)).setCell (p:=⟨g+1,1,none⟩) hh (.int .i64 0)).setCell (p:=⟨g+1,2,none⟩) hh (.int .i64 0)).setCell (p:=⟨g+1,3,none⟩) hh (.slice none 0 0))
  clear hh
  go_wp2
  exact bodyPost_ret (results_cell_tmp (p:=4) (t1:=5) (ty:=49) rfl _ _ (g+1) 49 #[.int .i64 0,.int .i64 0,.int .i64 0,.slice none 0 0] _ rfl HP.out Tryz.underlying49 rfl infoBdz) rfl ⟨none,0,rfl,OneB.nil,HQ.out⟩
 |true=>
 have V_2:=HV.out.cell (i:=2) rfl
 go_wp2_with fail
 refine(NA1.out (by first|rfl|trivial) (by first|rfl|trivial) _ HB2.out).mono ?_
 rintro e w3 ⟨rfl,b3⟩
 clear V_2
 replace HV:=Hd (HV.out.later b3)
 replace HR:=Hd (HR.out.later b3)
 have HB3:=Hd (below_on HB2.out b3)
 clear HB2
 clear b3 NA0 NA1
 obtain⟨gw,hggw⟩:∃gw,w3.heap.size=gw:=⟨_,rfl⟩
 have lt_V_gw:g<gw:=by have:=HV.out.lt;rw[hggw]at this;exact this
 have lt_R_gw:g+1<gw:=by have:=HR.out.lt;rw[hggw]at this;exact this
 have le_gw:w.heap.size≤gw:=by have:=HB3.out.size;rw[hggw]at this;exact this
 go_upto_region 4 with (fail)
 have b4:=below_new (Below.refl w3.heap.size w3) (.cells #[.int .i64 a0,.int .i64 a1,.int .i64 a2,.bool a3] 52)
 have hY:=Blk.new w3 52 #[.int .i64 a0,.int .i64 a1,.int .i64 a2,.bool a3]
 obtain⟨w4,hw4⟩:∃x,w3.alloc (.cells #[.int .i64 a0,.int .i64 a1,.int .i64 a2,.bool a3] 52)=x:=⟨_,rfl⟩
 rw[hw4]at b4 hY
 rw[hw4]
 replace HV:=Hd (HV.out.later b4)
 replace HR:=Hd (HR.out.later b4)
 have HB4:=Hd (below_on HB3.out b4)
 clear HB3
 rw[hggw]at hY
 have HY:=Hd hY
 clear b4 hw4 hY
 have Y_0:=HY.out.cell (i:=0) rfl
 have Y_1:=HY.out.cell (i:=1) rfl
 have Y_2:=HY.out.cell (i:=2) rfl
 have Y_3:=HY.out.cell (i:=3) rfl
 cases a3 with
 |true=>
  clear NG
  have hr:=HA.out
  simp[hoo]at hr
  obtain⟨rfl,rfl⟩:=hr
  have R_0:=HR.out.cell (i:=0) rfl
  have R_1:=HR.out.cell (i:=1) rfl
  have R_2:=HR.out.cell (i:=2) rfl
  have R_3:=HR.out.cell (i:=3) rfl
  have R_f0:=HR.out.free 0
  have R_f1:=HR.out.free 1
  have R_f2:=HR.out.free 2
  have R_f3:=HR.out.free 3
  have hh:w.heap.size≤g+1:=by omega
  have HP:=Hd ((((HR.out.put 0 (.int .i64 0)).put 1 (.int .i64 0)).put 2 (.int .i64 0)).put 3 (.slice none 0 0))
  have HQ:=Hd ((((HB4.out.setCell (p:=⟨g+1,0,none⟩) hh (.int .i64 0)).setCell (p:=⟨g+1,1,none⟩) hh (.int .i64 0)).setCell (p:=⟨g+1,2,none⟩) hh (.int .i64 0)).setCell (p:=⟨g+1,3,none⟩) hh (.slice none 0 0))
  clear hh
  go_wp2
  exact bodyPost_ret (results_cell_tmp (p:=4) (t1:=5) (ty:=49) rfl _ _ (g+1) 49 #[.int .i64 0,.int .i64 0,.int .i64 0,.slice none 0 0] _ rfl HP.out Tryz.underlying49 rfl infoBdz) rfl ⟨none,0,rfl,OneB.nil,HQ.out⟩
 |false=>
 have V_3:=HV.out.cell (i:=3) rfl
 go_wp2_with fail
 refine(NG.out (by first|rfl|trivial) _ HB4.out).mono ?_
 rintro e w5 ⟨v,rfl,ho,b5⟩
 clear Y_0 Y_1 Y_2 Y_3 V_3
 replace HV:=Hd (HV.out.later b5)
 replace HR:=Hd (HR.out.later b5)
 replace HY:=Hd (HY.out.later b5)
 have HB5:=Hd (below_on HB4.out b5)
 clear HB4
 clear b5 NG
 obtain⟨VA,vc,rfl,hB⟩:=OneB.of_own ho HBY.out
 have HG:=Hd hB
 clear ho hB
 have Y_0:=HY.out.cell (i:=0) rfl
 have Y_1:=HY.out.cell (i:=1) rfl
 have Y_2:=HY.out.cell (i:=2) rfl
 have Y_3:=HY.out.cell (i:=3) rfl
 by_cases c2:ge=0
 ·
  subst c2
  have hr:=HA.out
  simp[hoo]at hr
  obtain⟨rfl,rfl⟩:=hr
  have R_0:=HR.out.cell (i:=0) rfl
  have R_1:=HR.out.cell (i:=1) rfl
  have R_2:=HR.out.cell (i:=2) rfl
  have R_3:=HR.out.cell (i:=3) rfl
  have R_f0:=HR.out.free 0
  have R_f1:=HR.out.free 1
  have R_f2:=HR.out.free 2
  have R_f3:=HR.out.free 3
  have hh:w.heap.size≤g+1:=by omega
  have HP:=Hd ((((HR.out.put 0 (.int .i64 o)).put 1 (.int .i64 a0)).put 2 (.int .i64 a1)).put 3 (.slice VA gv.length vc))
  have HQ:=Hd ((((HB5.out.setCell (p:=⟨g+1,0,none⟩) hh (.int .i64 o)).setCell (p:=⟨g+1,1,none⟩) hh (.int .i64 a0)).setCell (p:=⟨g+1,2,none⟩) hh (.int .i64 a1)).setCell (p:=⟨g+1,3,none⟩) hh (.slice VA gv.length vc))
  have FHG:=Hd ((((HG.out.near (show Blk _ (g+1) 49 #[.int .i64 0,.int .i64 0,.int .i64 0,.slice none 0 0] from HR.out) rfl 0 (.int .i64 o)).near (show Blk _ (g+1) 49 #[.int .i64 o,.int .i64 0,.int .i64 0,.slice none 0 0] from(HR.out.put 0 (.int .i64 o))) rfl 1 (.int .i64 a0)).near (show Blk _ (g+1) 49 #[.int .i64 o,.int .i64 a0,.int .i64 0,.slice none 0 0] from((HR.out.put 0 (.int .i64 o)).put 1 (.int .i64 a0))) rfl 2 (.int .i64 a1)).near (show Blk _ (g+1) 49 #[.int .i64 o,.int .i64 a0,.int .i64 a1,.slice none 0 0] from(((HR.out.put 0 (.int .i64 o)).put 1 (.int .i64 a0)).put 2 (.int .i64 a1))) rfl 3 (.slice VA gv.length vc))
  clear hh
  go_wp2
  exact bodyPost_ret (results_cell_tmp (p:=4) (t1:=5) (ty:=49) rfl _ _ (g+1) 49 #[.int .i64 o,.int .i64 a0,.int .i64 a1,.slice VA gv.length vc] _ rfl HP.out Tryz.underlying49 rfl infoBdz) rfl ⟨VA,vc,rfl,FHG.out,HQ.out⟩
 ·
  have d3:(ge != 0)=true:=by rw[bne_iff_ne];exact c2
  clear HG
  have hr:=HA.out
  simp[hoo,c2]at hr
  obtain⟨rfl,rfl⟩:=hr
  have R_0:=HR.out.cell (i:=0) rfl
  have R_1:=HR.out.cell (i:=1) rfl
  have R_2:=HR.out.cell (i:=2) rfl
  have R_3:=HR.out.cell (i:=3) rfl
  have R_f0:=HR.out.free 0
  have R_f1:=HR.out.free 1
  have R_f2:=HR.out.free 2
  have R_f3:=HR.out.free 3
  have hh:w.heap.size≤g+1:=by omega
  have HP:=Hd ((((HR.out.put 0 (.int .i64 0)).put 1 (.int .i64 0)).put 2 (.int .i64 0)).put 3 (.slice none 0 0))
  have HQ:=Hd ((((HB5.out.setCell (p:=⟨g+1,0,none⟩) hh (.int .i64 0)).setCell (p:=⟨g+1,1,none⟩) hh (.int .i64 0)).setCell (p:=⟨g+1,2,none⟩) hh (.int .i64 0)).setCell (p:=⟨g+1,3,none⟩) hh (.slice none 0 0))
  clear hh
  go_wp2
  exact bodyPost_ret (results_cell_tmp (p:=4) (t1:=5) (ty:=49) rfl _ _ (g+1) 49 #[.int .i64 0,.int .i64 0,.int .i64 0,.slice none 0 0] _ rfl HP.out Tryz.underlying49 rfl infoBdz) rfl ⟨none,0,rfl,OneB.nil,HQ.out⟩
end Go.Proofs.YtjlfehpockfkdaaGreat
namespace Go.Proofs.YtjlfehpockfkdaaGreat
open Go.RowKit
theorem viewServe:ViewServe:={ viewSpec with serve:=vdserve_any,lacks:=vdlacks_any }
end Go.Proofs.YtjlfehpockfkdaaGreat
namespace Go.Proofs.YtjlfehpockfkdaaGreat
open Go.ChangeShapes Go.WideShapes Go.RowKit
section
variable {H:Type} {enc:TypeId × Value→H} {P:Program}
theorem args_stay(hl:laidOutB P=true){W W':World}{sp:Nat→Bool}(hb:Below W.heap.size W W') :
  ∀{ts:List TypeId} {vs:List Value} {ds:List (DataW H)} {ps:List MemPlace},(∀t∈ts,P.readableRec t=true∧t<P.types.size) →
   DataW.TrodAll enc P W 0 (fun _=>true) true ts vs ds ps→(∀x∈ps,x.block<W.heap.size)→(∀x∈ps,sp x.block=true) →
   DataW.TrodAll enc P W' 0 sp true ts vs ds ps
 | [],_,_,_,_,h,_,_=>by
  obtain⟨rfl,rfl,rfl⟩:=trodAll_nil h
  exact trodAll_mk0
 |t::ts,_,_,_,ht,h,hlt,hsp=>by
  obtain⟨v,vs1,d,ds1,a,b,rfl,rfl,rfl,h1,h2⟩:=trodAll_cons h
  have htt:=ht t (List.mem_cons_self ..)
  refine⟨a,b,?_,?_,rfl⟩
  ·exact WideElems.Trod_stays hl htt.1 htt.2 h1 (fun x hx=>hb.same (hlt x (List.mem_append_left _ hx))) (fun x hx=>hsp x (List.mem_append_left _ hx))
  ·exact args_stay hl hb (fun t' h'=>ht t' (List.mem_cons_of_mem _ h')) h2 (fun x hx=>hlt x (List.mem_append_right _ hx)) (fun x hx=>hsp x (List.mem_append_right _ hx))
theorem law_post(hl:laidOutB P=true){f:Func}{s:ChangeSpec}{W W':World}{args:Array Value}{ds gs:List (DataW H)}{before:List MemPlace}{tb:TypeId}
  (hW:DataW.Whole enc P f.params.toList s.vars false W args.toList ds gs before)
  (hvars:s.vars=[])(hfn:s.fn H (ds++gs)={ results:=[.lit (.bool true)],args:=ds })
  (hres:f.resultTypes=#[tb])(htb:P.underlying tb=some .bool)
  (hts:∀t∈f.params.toList,P.readableRec t=true∧t<P.types.size)(hb:Below W.heap.size W W') :
  s.post enc P f false true false false W args (.bool true) W':=by
 have hlt:∀x∈before,x.block<W.heap.size:=fun x hx=>hW.lt x hx
 have hW0:=hW
 obtain⟨p,q,hA,hV,hpq,_,_⟩:=hW0
 rw[hvars]at hV
 obtain⟨rfl,rfl⟩:=trodVars_none hV
 obtain rfl:before=p:=by rw[hpq,List.append_nil]
 refine⟨ds,[],before,[],before,[],hW,?_,?_,?_,?_,fun h=>by cases h⟩
 ·rw[hfn,hres]
  exact trodAll_mk1 (shut_bool htb _)
 ·rw[hfn]
  exact args_stay hl hb hts hA hlt (fun x hx=>by simpa using hlt x hx)
 ·rw[hvars,hfn]
  rfl
 ·exact World.keptBut_mono (fun x hx=>hx.elim) (hb.frame (fun _=>False))
theorem stamp_cells{w:World}{base:Nat}{spare:Nat→Bool}{held:Bool}{fuel:Nat}{t ti:TypeId}{f0 f1:Field}{cs:List Value}{x:DataW H × List MemPlace}
  (hs:P.underlying t=some (.struct #[f0,f1]))(hone:Deep.oneCellFields P #[f0,f1]=true)(hC:P.cellsOf t=2)(hi0:f0.type=ti)(hi1:f1.type=ti)(hi:P.underlying ti=some (.int .i64))
  (h:DataW.trod enc P w base spare held fuel t cs=some x) :
  ∃c n:Int,cs=[.int .i64 c,.int .i64 n]∧x.2=[] ∧ -9223372036854775808≤c∧c≤9223372036854775807 ∧ -9223372036854775808≤n∧n≤9223372036854775807:=by
 obtain⟨y0,y1,m,rfl,hl,hy0,hy1⟩:=trod_struct2 hs h
 obtain⟨o0,k0⟩:=Deep.hone_of hone 0 f0 rfl
 obtain⟨o1,k1⟩:=Deep.hone_of hone 1 f1 rfl
 rw[hC]at hl
 obtain⟨a0,a1,rfl⟩:∃a0 a1,cs=[a0,a1]:=by
  match cs,hl with
  | [a0,a1],_=>exact⟨a0,a1,rfl⟩
 rw[o0,k0,hi0]at hy0
 rw[o1,k1,hi1]at hy1
 obtain⟨a,e0,rfl,wa⟩:=DataW.trod_int hi hy0
 obtain⟨b,e1,rfl,wb⟩:=DataW.trod_int hi hy1
 simp at e0 e1
 subst e0 e1
 exact⟨a,b,rfl,rfl,(bounds_i64 wa).1,(bounds_i64 wa).2,(bounds_i64 wb).1,(bounds_i64 wb).2⟩
end
end Go.Proofs.YtjlfehpockfkdaaGreat
namespace Go.Proofs.YtjlfehpockfkdaaGreat
open Go.ChangeShapes Go.WideShapes Go.RowKit Go.Deep
theorem pick{α:Type}(z:α){n:Nat}{p:Nat→α→Prop}(h:∀i,i<n→∃s,p i s):∃f:Nat→α,∀i,i<n→p i (f i):=by
 refine⟨fun i=>if hi:i<n then Classical.choose (h i hi) else z,fun i hi =>?_⟩
 simp only[hi,dite_true]
 exact Classical.choose_spec (h i hi)
theorem flat_get{α:Type}{size:Nat}(f:α→List Value)(hf:∀a,(f a).length=size):∀(l:List α) (j:Nat) (u:Value),(l.flatMap f)[j]?=some u →
  ∃i r a,l[i]?=some a∧r<size∧j=i*size+r∧(f a)[r]?=some u
 | [],j,u,h=>by simp at h
 |a::l,j,u,h=>by
  rw[List.flatMap_cons]at h
  by_cases hj:j<size
  ·rw[List.getElem?_append_left (by rw[hf];exact hj)]at h
   exact⟨0,j,a,rfl,hj,by omega,h⟩
  ·rw[List.getElem?_append_right (by rw[hf];omega),hf]at h
   obtain⟨i,r,b,h1,h2,h3,h4⟩:=flat_get f hf l (j-size) u h
   refine⟨i+1,r,b,by simpa using h1,h2,?_,h4⟩
   rw[Nat.add_mul]
   omega
section
variable {H:Type} {enc:TypeId × Value→H} {P:Program} {w:World}
theorem open_list{α:Type}(z:α)(f:α→List Value)(good:α→Prop){size:Nat}(hf:∀a,(f a).length=size){r:Reach}{b0:Nat}{t e:TypeId}{v:Value}{d:DataW H}{p:List MemPlace}
  (ht:P.underlying t=some (.slice e))(hC:P.cellsOf e=size)(hsz:0<size)
  (helem:∀(fuel:Nat) (cs:List Value) (x:DataW H × List MemPlace),DataW.trod enc P w 0 (fun _=>true) true fuel e cs=some x→∃a,cs=f a∧good a)
  (hv:Value.okWide P w r b0 t v)(h:DataW.Trod enc P w 0 (fun _=>true) true t v d p) :
  ∃(A:Option Addr) (cap:Nat) (l:List α),v = .slice A l.length cap∧l.length≤cap∧cap≤maxLen∧(A=none→l.length=0∧cap=0)∧Lies w A (l.flatMap f)∧(∀a∈l,good a) ∧
   ((d = .nil∧l.length=0∧cap=0)∨∃elems spare,d = .slice elems spare∧elems.length=l.length∧elems.length+spare.length=cap):=by
 obtain⟨a0,len0,cap0,rfl⟩:=okWide_slice ht hv
 obtain⟨fuel,hfu⟩:=h
 rcases open_slice ht hfu with ⟨hcs,hx⟩|⟨a,len,cap,m,n,D,Pl,hcs,_,hl,hm,hmm,hx,hi⟩
 ·simp[Value.cells]at hcs hx
  obtain⟨rfl,rfl,rfl⟩:=hcs
  exact⟨none,0,[],rfl,Nat.le_refl _,Nat.zero_le _,fun _=>⟨rfl,rfl⟩,Lies.nil,by simp,.inl ⟨hx.1,rfl,rfl⟩⟩
 ·simp[Value.cells]at hcs hx hmm
  obtain⟨rfl,rfl,rfl⟩:=hcs
  subst hmm
  obtain⟨g,hg⟩:=pick (n:=len0) (p:=fun i s=>good s∧∀j,j<size→w.cell? (a.add (i*size+j))=(f s)[j]?) z (fun i hi'=>by
   obtain⟨cs',hc,ht'⟩:=hi i (by omega)
   rw[hC]at hc
   obtain⟨s,rfl,hs⟩:=helem _ _ _ ht'
   obtain⟨_,_,hcell⟩:=World.cells?_some hc
   refine⟨s,hs,fun j hj =>?_⟩
   rw[←hcell j hj,Go.Deep.add_add])
  refine⟨some a,m,(List.range len0).map g,by simp,by simpa using hl,hm,(fun h=>by cases h),(fun hne =>?_),?_,.inr ⟨_,_,hx.1,by simp,by simp;omega⟩⟩
  ·have hpos:0<len0:=by
    rcases Nat.eq_zero_or_pos len0 with h0|h0
    ·subst h0;simp at hne
    ·exact h0
   obtain⟨b,off,spot⟩:=a
   have h00:=(hg 0 hpos).2 0 hsz
   have hspot:spot=none:=by
    have hlen:=hf (g 0)
    rw[List.getElem?_eq_getElem (by omega)]at h00
    simpa[Addr.add] using World.cell?_spot h00
   subst hspot
   refine⟨b,off,rfl,fun j u hu =>?_⟩
   obtain⟨i,r,s,h1,h2,h3,h4⟩:=flat_get f hf _ j u hu
   have hil:i<len0:=by
    have:=(List.getElem?_eq_some_iff.1 h1).1
    simpa using this
   simp[hil]at h1
   subst h1
   rw[←Go.WideShapes.add_plain,h3,(hg i hil).2 r h2]
   exact h4
  ·intro s hs
   simp at hs
   obtain⟨i,hil,rfl⟩:=hs
   exact(hg i hil).1
def stCell(s:Int × Int):List Value:=[.int .i64 s.1,.int .i64 s.2]
theorem stCells_flat(l:List (Int × Int)):l.flatMap stCell=stCells l:=by
 induction l with
 |nil=>rfl
 |cons s r ih=>simp[stCells,stCell,ih]
theorem open_stamps{r:Reach}{b0:Nat}{t e ti:TypeId}{f0 f1:Field}{v:Value}{d:DataW H}{p:List MemPlace}
  (ht:P.underlying t=some (.slice e))(hs:P.underlying e=some (.struct #[f0,f1]))(hone:Deep.oneCellFields P #[f0,f1]=true)(hC:P.cellsOf e=2)(hi0:f0.type=ti)(hi1:f1.type=ti)(hi:P.underlying ti=some (.int .i64))
  (hv:Value.okWide P w r b0 t v)(h:DataW.Trod enc P w 0 (fun _=>true) true t v d p) :
  ∃(A:Option Addr) (cap:Nat) (l:List (Int × Int)),v = .slice A l.length cap∧l.length≤cap∧cap≤maxLen∧(A=none→l.length=0∧cap=0)∧Lies w A (stCells l) ∧
   (∀s∈l,-9223372036854775808≤s.1∧s.1≤9223372036854775807 ∧ -9223372036854775808≤s.2∧s.2≤9223372036854775807) ∧
   ((d = .nil∧l.length=0∧cap=0)∨∃elems spare,d = .slice elems spare∧elems.length=l.length∧elems.length+spare.length=cap):=by
 have:=open_list (0,0) stCell (fun s=> -9223372036854775808≤s.1∧s.1≤9223372036854775807 ∧ -9223372036854775808≤s.2∧s.2≤9223372036854775807) (size:=2) (fun _=>rfl) ht hC (by decide)
  (fun fuel cs x hx=>by
   obtain⟨c,n,rfl,_,h1,h2,h3,h4⟩:=stamp_cells hs hone hC hi0 hi1 hi hx
   exact⟨(c,n),rfl,h1,h2,h3,h4⟩) hv h
 obtain⟨A,cap,l,h1,h2,h3,h4,h5,h6,h7⟩:=this
 rw[stCells_flat]at h5
 exact⟨A,cap,l,h1,h2,h3,h4,h5,h6,h7⟩
end
set_option maxRecDepth 100000
theorem list3{cs:List Value}(h:cs.length=3):∃a0 a1 a2,cs=[a0,a1,a2]:=by
 match cs,h with
 | [a0,a1,a2],_=>exact⟨a0,a1,a2,rfl⟩
theorem list2{cs:List Value}(h:cs.length=2):∃a0 a1,cs=[a0,a1]:=by
 match cs,h with
 | [a0,a1],_=>exact⟨a0,a1,rfl⟩
section
variable {H:Type} {enc:TypeId × Value→H} {w:World}
def LenG(d:DataW H)(k:Nat):Prop:=k=0∨∃elems spare,d = .slice elems spare∧elems.length=k
theorem open_list_with{P:Program}{α:Type}(z:α)(f:α→List Value)(good:α→DataW H→Prop){size:Nat}(hf:∀a,(f a).length=size){t e:TypeId}{fuel0:Nat}{cs0:List Value}{y:DataW H × List MemPlace}
  (ht:P.underlying t=some (.slice e))(hC:P.cellsOf e=size)(hsz:0<size)
  (helem:∀(fuel:Nat) (cs:List Value) (x:DataW H × List MemPlace),DataW.trod enc P w 0 (fun _=>true) true fuel e cs=some x→∃a,cs=f a∧good a x.1)
  (hfu:DataW.trod enc P w 0 (fun _=>true) true fuel0 t cs0=some y) :
  ∃(A:Option Addr) (cap:Nat) (l:List α),cs0=[.slice A l.length cap]∧l.length≤cap∧cap≤maxLen∧(A=none→l.length=0∧cap=0)∧Lies w A (l.flatMap f) ∧
   (l=[]∨∃elems spare,y.1 = .slice elems spare∧elems.length=l.length∧∀a∈l,∃d∈elems,good a d):=by
 rcases open_slice ht hfu with ⟨hcs,hx⟩|⟨a,len,cap,m,n,D,Pl,hcs,_,hl,hm,hmm,hx,hi⟩
 ·subst hcs hx
  exact⟨none,0,[],rfl,Nat.le_refl _,Nat.zero_le _,fun _=>⟨rfl,rfl⟩,Lies.nil,.inl rfl⟩
 ·simp at hmm
  subst hmm
  obtain⟨g,hg⟩:=pick (n:=len) (p:=fun i s=>good s (D i)∧∀j,j<size→w.cell? (a.add (i*size+j))=(f s)[j]?) z (fun i hi'=>by
   obtain⟨cs',hc,ht'⟩:=hi i (by omega)
   rw[hC]at hc
   obtain⟨s,rfl,hs⟩:=helem _ _ _ ht'
   obtain⟨_,_,hcell⟩:=World.cells?_some hc
   refine⟨s,hs,fun j hj =>?_⟩
   rw[←hcell j hj,Go.Deep.add_add])
  refine⟨some a,m,(List.range len).map g,by simpa using hcs,by simpa using hl,hm,(fun h=>by cases h),(fun hne =>?_),.inr ⟨_,_,by rw[hx],by simp,fun s hs =>?_⟩⟩
  ·have hpos:0<len:=by
    rcases Nat.eq_zero_or_pos len with h0|h0
    ·subst h0;simp at hne
    ·exact h0
   obtain⟨b,off,spot⟩:=a
   have h00:=(hg 0 hpos).2 0 hsz
   have hspot:spot=none:=by
    have hlen:=hf (g 0)
    rw[List.getElem?_eq_getElem (by omega)]at h00
    simpa[Addr.add] using World.cell?_spot h00
   subst hspot
   refine⟨b,off,rfl,fun j u hu =>?_⟩
   obtain⟨i,r,s,h1,h2,h3,h4⟩:=flat_get f hf _ j u hu
   have hil:i<len:=by
    have:=(List.getElem?_eq_some_iff.1 h1).1
    simpa using this
   simp[hil]at h1
   subst h1
   rw[←Go.WideShapes.add_plain,h3,(hg i hil).2 r h2]
   exact h4
  ·simp at hs
   obtain⟨i,hil,rfl⟩:=hs
   exact⟨D i,List.mem_map.2 ⟨i,List.mem_range.2 hil,rfl⟩,(hg i hil).1⟩
end
end Go.Proofs.YtjlfehpockfkdaaGreat
namespace Go.Proofs.YtjlfehpockfkdaaGreat
open Go.ChangeShapes Go.WideShapes Go.RowKit Go.Deep
set_option maxRecDepth 100000
section
variable {H:Type} {enc:TypeId × Value→H} {w:World}
theorem znInt:Tryz.prog.cellsOf 3=1:=by kernel_rfl
theorem znSt:Tryz.prog.cellsOf 46=2:=by kernel_rfl
theorem znSp:Tryz.prog.cellsOf 97=2:=by kernel_rfl
theorem znLS:Tryz.prog.cellsOf 22=1:=by kernel_rfl
theorem znZn:Tryz.prog.cellsOf 99=3:=by kernel_rfl
theorem znLZ:Tryz.prog.cellsOf 23=1:=by kernel_rfl
theorem zn_stampE(fuel:Nat)(cs:List Value)(x:DataW H × List MemPlace)(h:DataW.trod enc Tryz.prog w 0 (fun _=>true) true fuel 46 cs=some x):∃a:Int × Int,cs=stCells [a]:=by
 obtain⟨y0,y1,m,hx,hl,q0,q1⟩:=trod_struct2 Tryz.underlying46 h
 rw[znSt]at hl
 obtain⟨a0,a1,rfl⟩:=list2 hl
 dsimp only at q0 q1
 rw[znInt]at q0 q1
 obtain⟨n,e0,_,_⟩:=DataW.trod_int Tryz.underlying3 q0
 obtain⟨s,e1,_,_⟩:=DataW.trod_int Tryz.underlying3 q1
 simp at e0 e1
 subst e0 e1
 exact⟨(n,s),rfl⟩
theorem zn_flat(l:List (Int × Int)):l.flatMap (fun n=>stCells [n])=stCells l:=by
 induction l with
 |nil=>rfl
 |cons s r ih=>
  rw[List.flatMap_cons,ih]
  rfl
theorem zn_vecE{fuel:Nat}{cs:List Value}{x:DataW H × List MemPlace}(h:DataW.trod enc Tryz.prog w 0 (fun _=>true) true fuel 22 cs=some x):∃A c l,cs=[.slice A (List.length l) c]∧OneL w A c l∧LenG x.1 l.length:=by
 obtain⟨A,c,l,h1,h2,h3,h4,h5,h6⟩:=open_list_with ((0,0):Int × Int) (fun n=>stCells [n]) (fun _ _=>True) (size:=2) (fun _=>rfl) Tryz.underlying22 znSt (by decide) (fun fuel cs x h=>(zn_stampE fuel cs x h).imp fun _ h=>⟨h,trivial⟩) h
 rw[zn_flat]at h5
 refine⟨A,c,l,h1,⟨h2,h3,h4,h5⟩,?_⟩
 rcases h6 with rfl|⟨el,sp,h7,h8,_⟩
 ·exact .inl rfl
 ·exact .inr ⟨el,sp,h7,h8⟩
def ZoneG(w:World)(z:Zc)(d:DataW H):Prop:=OneL w z.X z.c z.l∧∃d0 d1,d = .agg [d0,d1]∧LenG d1 z.l.length
def Zc.zero:Zc:=⟨0,0,Option.none,0,[]⟩
theorem zn_zoneE(fuel:Nat)(cs:List Value)(x:DataW H × List MemPlace)(h:DataW.trod enc Tryz.prog w 0 (fun _=>true) true fuel 99 cs=some x):∃z:Zc,cs=zCells [z]∧ZoneG w z x.1:=by
 obtain⟨y0,y1,m,hx,hl,q0,q1⟩:=trod_struct2 Tryz.underlying99 h
 rw[znZn]at hl
 obtain⟨a0,a1,a2,rfl⟩:=list3 hl
 dsimp only at q0 q1
 rw[znSp]at q0
 rw[znLS]at q1
 obtain⟨z0,z1,m2,hx2,hl2,r0,r1⟩:=trod_struct2 Tryz.underlying97 q0
 dsimp only at r0 r1
 rw[znInt]at r0 r1
 obtain⟨n,e0,_,_⟩:=DataW.trod_int Tryz.underlying3 r0
 obtain⟨s,e1,_,_⟩:=DataW.trod_int Tryz.underlying3 r1
 obtain⟨X,c,l,e2,o1,g1⟩:=zn_vecE q1
 simp at e0 e1 e2
 subst e0 e1 e2
 exact⟨⟨n,s,X,c,l⟩,rfl,o1,_,_,congrArg Prod.fst hx,g1⟩
theorem zCells_flat(l:List Zc):l.flatMap (fun f=>zCells [f])=zCells l:=by
 induction l with
 |nil=>rfl
 |cons s r ih=>
  rw[List.flatMap_cons,ih]
  rfl
end
end Go.Proofs.YtjlfehpockfkdaaGreat
namespace Go.Proofs.YtjlfehpockfkdaaGreat
open Go.ChangeShapes Go.WideShapes Go.RowKit Go.Deep
set_option maxRecDepth 100000
theorem ca_list4{cs:List Value}(h:cs.length=4):∃a0 a1 a2 a3,cs=[a0,a1,a2,a3]:=by
 match cs,h with
 | [a0,a1,a2,a3],_=>exact⟨a0,a1,a2,a3,rfl⟩
section
variable {H:Type} {enc:TypeId × Value→H} {w:World}
theorem caInt:Tryz.prog.cellsOf 3=1:=by kernel_rfl
theorem caB:Tryz.prog.cellsOf 5=1:=by kernel_rfl
theorem caLB:Tryz.prog.cellsOf 47=1:=by kernel_rfl
theorem caSt:Tryz.prog.cellsOf 46=2:=by kernel_rfl
theorem caBd:Tryz.prog.cellsOf 49=4:=by kernel_rfl
theorem ca_byteE(fuel:Nat)(cs:List Value)(x:DataW H × List MemPlace)(h:DataW.trod enc Tryz.prog w 0 (fun _=>true) true fuel 5 cs=some x):∃a:Int,cs=[.int .u8 a]∧isB a:=by
 obtain⟨a,e0,rfl,wa⟩:=DataW.trod_int Tryz.underlying5 h
 refine⟨a,e0,?_⟩
 have hb:IntKind.u8.min≤a∧a≤IntKind.u8.max:=by simpa[Lit.wf] using wa
 have e1:IntKind.u8.min=0:=by decide
 have e2:IntKind.u8.max=255:=by decide
 rw[e1,e2]at hb
 exact⟨hb.1,by omega⟩
theorem ca_flat(l:List Int):l.flatMap (fun n=>[Value.int .u8 n])=bCells l:=by
 induction l with
 |nil=>rfl
 |cons s r ih=>
  rw[List.flatMap_cons,ih]
  rfl
theorem ca_bytesE{fuel:Nat}{cs:List Value}{x:DataW H × List MemPlace}(h:DataW.trod enc Tryz.prog w 0 (fun _=>true) true fuel 47 cs=some x):∃A c l,cs=[.slice A (List.length l) c]∧OneB w A c l∧LenG x.1 l.length:=by
 obtain⟨A,c,l,h1,h2,h3,h4,h5,h6⟩:=open_list_with (0:Int) (fun n=>[Value.int .u8 n]) (fun a _=>isB a) (size:=1) (fun _=>rfl) Tryz.underlying47 caB (by decide) (fun fuel cs x h=>ca_byteE fuel cs x h) h
 rw[ca_flat]at h5
 refine⟨A,c,l,h1,⟨h2,h3,h4,h5,fun x hx =>?_⟩,?_⟩
 ·rcases h6 with rfl|⟨_,_,_,_,h7⟩
  ·cases hx
  ·obtain⟨_,_,h8⟩:=h7 x hx
   exact h8
 ·rcases h6 with rfl|⟨el,sp,h7,h8,_⟩
  ·exact .inl rfl
  ·exact .inr ⟨el,sp,h7,h8⟩
def BodyG(w:World)(f:Bc)(d:DataW H):Prop:=OneB w f.X f.d f.b.v∧∃d0 d1 d2,d = .agg [d0,d1,d2]∧LenG d2 f.b.v.length
theorem ca_bodyE(fuel:Nat)(cs:List Value)(x:DataW H × List MemPlace)(h:DataW.trod enc Tryz.prog w 0 (fun _=>true) true fuel 49 cs=some x):∃f:Bc,cs=Ca.cell f∧BodyG w f x.1:=by
 obtain⟨y0,y1,y2,m,hx,hl,q0,q1,q2⟩:=trod_struct3 Tryz.underlying49 h
 rw[caBd]at hl
 obtain⟨a0,a1,a2,a3,rfl⟩:=ca_list4 hl
 dsimp only at q0 q1 q2
 rw[caInt]at q0
 rw[caSt]at q1
 rw[caLB]at q2
 obtain⟨o,e0,_,_⟩:=DataW.trod_int Tryz.underlying3 q0
 obtain⟨c,n,e1,_,_,_,_⟩:=stamp_cells Tryz.underlying46 (by kernel_rfl) (by kernel_rfl) rfl rfl Tryz.underlying3 q1
 obtain⟨X,d,l,e2,o2,z2⟩:=ca_bytesE q2
 simp at e0 e1 e2
 obtain⟨rfl,rfl⟩:=e1
 subst e0 e2
 exact⟨⟨X,d,⟨o,c,n,l⟩⟩,rfl,o2,_,_,_,congrArg Prod.fst hx,z2⟩
theorem ca_cells_flat(l:List Bc):l.flatMap Ca.cell=Ca.cells l:=by
 induction l with
 |nil=>rfl
 |cons s r ih=>
  rw[List.flatMap_cons,ih]
  rfl
def BodiesG(w:World)(L:List Bc)(d:DataW H):Prop:=L=[]∨∃elems spare,d = .slice elems spare∧elems.length=L.length∧∀z∈L,∃x∈elems,BodyG w z x
end
end Go.Proofs.YtjlfehpockfkdaaGreat
namespace Go.Proofs.YtjlfehpockfkdaaGreat
open Go.ChangeShapes Go.WideShapes Go.RowKit Go.Deep
section
variable {H:Type} {enc:TypeId × Value→H} {P:Program} {w:World}
theorem write_cells{base:Nat}{spare:Nat→Bool}{held:Bool}{fuel:Nat}{t ti:TypeId}{g0 g1 g2 s0 s1:Field}{cs:List Value}{x:DataW H × List MemPlace}
  (hs:P.underlying t=some (.struct #[g0,g1,g2]))(hC:P.cellsOf t=4)(k0:P.cellsOf g0.type=2)(o0:g0.offset=0)(k1:P.cellsOf g1.type=1)(o1:g1.offset=2)(k2:P.cellsOf g2.type=1)(o2:g2.offset=3)
  (hss:P.underlying g0.type=some (.struct #[s0,s1]))(hone:Deep.oneCellFields P #[s0,s1]=true)(hi0:s0.type=ti)(hi1:s1.type=ti)(hi:P.underlying ti=some (.int .i64))(h1:P.underlying g1.type=some (.int .i64))(hb:P.underlying g2.type=some .bool)
  (h:DataW.trod enc P w base spare held fuel t cs=some x):∃y:Wr,cs=Nt.wrCell y:=by
 obtain⟨y0,y1,y2,m,rfl,hl,q0,q1,q2⟩:=trod_struct3 hs h
 rw[hC]at hl
 obtain⟨a0,a1,a2,a3,rfl⟩:∃a0 a1 a2 a3,cs=[a0,a1,a2,a3]:=by
  match cs,hl with
  | [a0,a1,a2,a3],_=>exact⟨a0,a1,a2,a3,rfl⟩
 rw[o0,k0]at q0
 rw[o1,k1]at q1
 rw[o2,k2]at q2
 obtain⟨c,n,e0,_⟩:=stamp_cells hss hone k0 hi0 hi1 hi q0
 obtain⟨o,e1,_,_⟩:=DataW.trod_int h1 q1
 obtain⟨g,e2,_⟩:=DataW.trod_bool hb q2
 simp at e0 e1 e2
 obtain⟨rfl,rfl⟩:=e0
 subst e1 e2
 exact⟨(c,n,o,g),rfl⟩
end
set_option maxRecDepth 100000
section
variable {H:Type} {enc:TypeId × Value→H} {w:World}
theorem trod_struct5{P:Program}{base:Nat}{spare:Nat→Bool}{held:Bool}{t:TypeId}{f0 f1 f2 f3 f4:Field}{fuel:Nat}{cs:List Value}{x:DataW H × List MemPlace}(ht:P.underlying t=some (.struct #[f0,f1,f2,f3,f4]))(h:DataW.trod enc P w base spare held fuel t cs=some x) :
  ∃y0 y1 y2 y3 y4 n,x=(.agg [y0.1,y1.1,y2.1,y3.1,y4.1],y0.2++(y1.2++(y2.2++(y3.2++y4.2))))∧cs.length=P.cellsOf t∧DataW.trod enc P w base spare held n f0.type ((cs.drop f0.offset).take (P.cellsOf f0.type))=some y0 ∧
   DataW.trod enc P w base spare held n f1.type ((cs.drop f1.offset).take (P.cellsOf f1.type))=some y1∧DataW.trod enc P w base spare held n f2.type ((cs.drop f2.offset).take (P.cellsOf f2.type))=some y2 ∧
   DataW.trod enc P w base spare held n f3.type ((cs.drop f3.offset).take (P.cellsOf f3.type))=some y3∧DataW.trod enc P w base spare held n f4.type ((cs.drop f4.offset).take (P.cellsOf f4.type))=some y4:=by
 obtain⟨xs,n,_,rfl,hl,hlen,hf⟩:=DataW.trod_struct ht h
 match xs,hlen with
 | [y0,y1,y2,y3,y4],_=>exact⟨y0,y1,y2,y3,y4,n,by simp,hl,by simpa using hf 0 f0 rfl,by simpa using hf 1 f1 rfl,by simpa using hf 2 f2 rfl,by simpa using hf 3 f3 rfl,by simpa using hf 4 f4 rfl⟩
theorem vw_list5{cs:List Value}(h:cs.length=5):∃a0 a1 a2 a3 a4,cs=[a0,a1,a2,a3,a4]:=by
 match cs,h with
 | [a0,a1,a2,a3,a4],_=>exact⟨a0,a1,a2,a3,a4,rfl⟩
theorem vwWr:Tryz.prog.cellsOf 52=4:=by kernel_rfl
theorem vwLW:Tryz.prog.cellsOf 24=1:=by kernel_rfl
theorem vwLB:Tryz.prog.cellsOf 25=1:=by kernel_rfl
theorem vwVw:Tryz.prog.cellsOf 27=5:=by kernel_rfl
theorem vw_writeE(fuel:Nat)(cs:List Value)(x:DataW H × List MemPlace)(h:DataW.trod enc Tryz.prog w 0 (fun _=>true) true fuel 52 cs=some x):∃a,cs=Nt.wrCell a:=
 write_cells Tryz.underlying52 (by kernel_rfl) (by kernel_rfl) rfl (by kernel_rfl) rfl (by kernel_rfl) rfl Tryz.underlying46 (by kernel_rfl) rfl rfl Tryz.underlying3 Tryz.underlying3 Tryz.underlying4 h
theorem vw_writesE{fuel:Nat}{cs:List Value}{x:DataW H × List MemPlace}(h:DataW.trod enc Tryz.prog w 0 (fun _=>true) true fuel 24 cs=some x):∃A c l,cs=[.slice A (List.length l) c]∧OneW w A c l∧LenG x.1 l.length:=by
 obtain⟨A,c,l,h1,h2,h3,h4,h5,h6⟩:=open_list_with Nt.zeroW Nt.wrCell (fun _ _=>True) (size:=4) (fun _=>rfl) Tryz.underlying24 vwWr (by decide) (fun fuel cs x h=>(vw_writeE fuel cs x h).imp fun _ h=>⟨h,trivial⟩) h
 refine⟨A,c,l,h1,⟨h2,h3,h4,h5⟩,?_⟩
 rcases h6 with rfl|⟨el,sp,h7,h8,_⟩
 ·exact .inl rfl
 ·exact .inr ⟨el,sp,h7,h8⟩
def ZonesG(w:World)(L:List Zc)(d:DataW H):Prop:=L=[]∨∃elems spare,d = .slice elems spare∧elems.length=L.length∧∀f∈L,∃x∈elems,ZoneG w f x
theorem vw_zonesE{fuel:Nat}{cs:List Value}{x:DataW H × List MemPlace}(h:DataW.trod enc Tryz.prog w 0 (fun _=>true) true fuel 23 cs=some x):∃A c L,cs=[.slice A (List.length L) c]∧OneZ w A c L∧ZonesG w L x.1:=by
 obtain⟨A,c,L,e1,h2,h3,h4,h5,h6⟩:=open_list_with Zc.zero (fun f=>zCells [f]) (fun f d=>ZoneG w f d) (size:=3) (fun _=>rfl) Tryz.underlying23 znZn (by decide) (fun fuel cs x h=>zn_zoneE fuel cs x h) h
 rw[zCells_flat]at h5
 refine⟨A,c,L,e1,⟨h2,h3,h4,h5,fun f hf2 =>?_⟩,h6⟩
 rcases h6 with rfl|⟨_,_,_,_,h7⟩
 ·cases hf2
 ·obtain⟨_,_,h8⟩:=h7 f hf2
  exact h8.1
theorem vw_bodiesE{fuel:Nat}{cs:List Value}{x:DataW H × List MemPlace}(h:DataW.trod enc Tryz.prog w 0 (fun _=>true) true fuel 25 cs=some x):∃A c L,cs=[.slice A (List.length L) c]∧OneC w A c L∧BodiesG w L x.1:=by
 obtain⟨A,c,L,h1,h2,h3,h4,h5,h6⟩:=open_list_with Bc.zero Ca.cell (fun z d=>BodyG w z d) (size:=4) (fun _=>rfl) Tryz.underlying25 caBd (by decide) (fun fuel cs x h=>ca_bodyE fuel cs x h) h
 rw[ca_cells_flat]at h5
 refine⟨A,c,L,h1,⟨h2,h3,h4,h5,fun z hz =>?_⟩,h6⟩
 rcases h6 with rfl|⟨_,_,_,_,h7⟩
 ·cases hz
 ·obtain⟨_,_,h8⟩:=h7 z hz
  exact h8.1
def ViewG(w:World)(q:Vl)(d:DataW H):Prop:=∃d0 d1 d2 d3 d4,d = .agg [d0,d1,d2,d3,d4]∧LenG d0 q.k.length∧ZonesG w q.z d1∧LenG d2 q.h.length∧BodiesG w q.b d3
theorem open_view{r:Reach}{b0:Nat}{v:Value}{d:DataW H}{p:List MemPlace}(hv:Value.okWide Tryz.prog w r b0 27 v)(h:DataW.Trod enc Tryz.prog w 0 (fun _=>true) true 27 v d p) :
  ∃q:Vl,v = .agg (vwCells q)∧VwAt w q∧ViewG w q d:=by
 obtain⟨cs,rfl,_⟩:=okWide_struct Tryz.underlying27 hv
 obtain⟨fuel,hf⟩:=h
 obtain⟨y0,y1,y2,y3,y4,m,hx,hl,q0,q1,q2,q3,q4⟩:=trod_struct5 Tryz.underlying27 hf
 have hcc:(Value.agg cs).cells.toList=cs.toList:=rfl
 rw[hcc]at hl q0 q1 q2 q3 q4
 rw[vwVw]at hl
 obtain⟨a0,a1,a2,a3,a4,hcl⟩:=vw_list5 hl
 rw[hcl]at q0 q1 q2 q3 q4
 dsimp only at q0 q1 q2 q3 q4
 rw[znLS]at q0
 rw[znLZ]at q1
 rw[vwLW]at q2
 rw[vwLB]at q3
 rw[znInt]at q4
 obtain⟨K,ck,k,e0,o0,g0⟩:=zn_vecE q0
 obtain⟨Z,cz,z,e1,o1,g1⟩:=vw_zonesE q1
 obtain⟨A,ch,hh,e2,o2,g2⟩:=vw_writesE q2
 obtain⟨B,cb,b,e3,o3,g3⟩:=vw_bodiesE q3
 obtain⟨n,e4,_,_⟩:=DataW.trod_int Tryz.underlying3 q4
 simp at e0 e1 e2 e3 e4
 subst e0 e1 e2 e3 e4
 exact⟨⟨K,ck,k,Z,cz,z,A,ch,hh,B,cb,b,n⟩,congrArg Value.agg (Array.toList_inj.1 hcl),⟨o0,o1,o2,o3⟩,_,_,_,_,_,congrArg Prod.fst hx,g0,g1,g2,g3⟩
end
end Go.Proofs.YtjlfehpockfkdaaGreat
namespace Go.Proofs.YtjlfehpockfkdaaGreat
open Go.RowKit Fb
theorem OneI.at{w:World}{A:Option Addr}{c:Nat}{l:List Nat}(h:OneI w A c l){k:Nat}(hk:k<l.length):∃b off,A=some ⟨b,off,none⟩∧w.cell? ⟨b,off+k,none⟩=some (.int .i64 ((l.getD k 0:Nat):Int)):=by
 obtain⟨b,off,hA,hc⟩:=h.lies (fun e=>by rw[List.map_eq_nil_iff]at e;subst e;simp at hk)
 refine⟨b,off,hA,hc k _ ?_⟩
 rw[List.getElem?_map,List.getElem?_eq_getElem hk,List.getD_eq_getElem?_getD,List.getElem?_eq_getElem hk]
 rfl
set_option maxRecDepth 100000 in
set_option maxHeartbeats 6400000 in
theorem lawVServes_any(S:ViewServe)(q:Vl)(o:Int)(I:Option Addr)(ci:Nat)(it:List (Int × Int))(w:World)(h:VwAt w q)(hi:OneL w I ci it) :
  Calls Tryz.prog 10 #[.agg (vwCells q),.int .i64 o,.slice I it.length ci] w (Says (.bool true) w):=by
 have SS:=Hd S
 have AL:=Hd (fun wx=>valive_any S.toViewSpec wx)
 have hvw:=fun wx (hb:Below w.heap.size w wx)=>h.later hb
 have hI:=fun wx (hb:Below w.heap.size w wx)=>hi.later hb
 obtain⟨⟨⟨b0,b1,b2,bv⟩,se⟩,hsv⟩:∃p,Vw.serveR q.vw o=p:=⟨_,rfl⟩
 obtain⟨⟨ll,le⟩,hlc⟩:∃p,Vw.lackR q.vw it=p:=⟨_,rfl⟩
 clear S h hi
 obtain⟨K,ck,kn,Z,cz,zs,H,ch,hs,B,cb,bs,room⟩:=q
 unfold vwCells
 dsimp only
 have HSV:=Hd hsv
 have HLC:=Hd hlc
 have HVW:=Hd hvw
 have HI:=Hd hI
 clear hvw hI hsv hlc
 have hb0:=below_new (Below.refl w.heap.size w) (.cells #[.slice K kn.length ck,.slice Z zs.length cz,.slice H hs.length ch,.slice B bs.length cb,.int .i64 room] 27)
 have hV:=Blk.new w 27 #[.slice K kn.length ck,.slice Z zs.length cz,.slice H hs.length ch,.slice B bs.length cb,.int .i64 room]
 obtain⟨W,hW⟩:∃W,w.alloc (.cells #[.slice K kn.length ck,.slice Z zs.length cz,.slice H hs.length ch,.slice B bs.length cb,.int .i64 room] 27)=W:=⟨_,rfl⟩
 rw[hW]at hb0 hV
 have HW:=Hd hW
 obtain⟨g,hgg⟩:∃g,w.heap.size=g:=⟨_,rfl⟩
 rw[hgg]at hV
 have HV:=Hd (show Blk W (g) 27 #[.slice K kn.length ck,.slice Z zs.length cz,.slice H hs.length ch,.slice B bs.length cb,.int .i64 room] from hV)
 have HB0:=Hd hb0
 clear hW hb0 hV
 go_enter Tryz.func10,Tryz.ntmps10
 go_upto_region 1 with (fail)
 rw[HW.out]
 clear HW
 go_wp2_with fail
 refine(AL.out _).mono ?_
 rintro e w1 ⟨rfl,b1⟩
 replace HV:=Hd (HV.out.later b1)
 have HB1:=Hd (below_on HB0.out b1)
 clear HB0
 clear b1 AL
 have V_0:=HV.out.cell (i:=0) rfl
 have V_1:=HV.out.cell (i:=1) rfl
 have V_2:=HV.out.cell (i:=2) rfl
 have V_3:=HV.out.cell (i:=3) rfl
 have V_4:=HV.out.cell (i:=4) rfl
 go_wp2_with fail
 refine((show Calls Tryz.prog 42 #[.agg #[.slice K kn.length ck,.slice Z zs.length cz,.slice H hs.length ch,.slice B bs.length cb,.int .i64 room],.int .i64 o] w1 (GivesBdE ⟨b0,b1,b2,bv⟩ se w1) from by have n:=SS.out.serve ⟨K,ck,kn,Z,cz,zs,H,ch,hs,B,cb,bs,room⟩ o w1 (HVW.out _ HB1.out);rw[HSV.out]at n;exact n)).mono ?_
 rintro e w2 ⟨D3,d3,rfl,hB3,b2⟩
 clear V_0 V_1 V_2 V_3 V_4
 replace HV:=Hd (HV.out.later b2)
 have HB2:=Hd (below_on HB1.out b2)
 clear HB1
 clear b2
 have XB3:=Hd hB3
 clear hB3
 unfold bdCells
 dsimp only
 obtain⟨g3,hgg3⟩:∃g3,w2.heap.size=g3:=⟨_,rfl⟩
 have lt_V_g3:g<g3:=by have:=HV.out.lt;rw[hgg3]at this;exact this
 have le_g3:w.heap.size≤g3:=by have:=HB2.out.size;rw[hgg3]at this;exact this
 go_upto_region 4 with (fail)
 have b3:=below_new (Below.refl w2.heap.size w2) (.cells #[.int .i64 b0,.int .i64 b1,.int .i64 b2,.slice D3 bv.length d3] 49)
 have hP:=Blk.new w2 49 #[.int .i64 b0,.int .i64 b1,.int .i64 b2,.slice D3 bv.length d3]
 obtain⟨w3,hw3⟩:∃x,w2.alloc (.cells #[.int .i64 b0,.int .i64 b1,.int .i64 b2,.slice D3 bv.length d3] 49)=x:=⟨_,rfl⟩
 rw[hw3]at b3 hP
 rw[hw3]
 replace HV:=Hd (HV.out.later b3)
 have HB3:=Hd (below_on HB2.out b3)
 clear HB2
 replace XB3:=Hd (XB3.out.later b3)
 rw[hgg3]at hP
 have HP:=Hd hP
 clear b3 hw3 hP
 have V_0:=HV.out.cell (i:=0) rfl
 have V_1:=HV.out.cell (i:=1) rfl
 have V_2:=HV.out.cell (i:=2) rfl
 have V_3:=HV.out.cell (i:=3) rfl
 have V_4:=HV.out.cell (i:=4) rfl
 go_wp2_with fail
 refine((show Calls Tryz.prog 43 #[.agg #[.slice K kn.length ck,.slice Z zs.length cz,.slice H hs.length ch,.slice B bs.length cb,.int .i64 room],.int .i64 o] w3 (GivesBdE ⟨b0,b1,b2,bv⟩ se w3) from by have n:=vserve_any ⟨K,ck,kn,Z,cz,zs,H,ch,hs,B,cb,bs,room⟩ o w3 (HVW.out _ HB3.out);rw[HSV.out]at n;exact n)).mono ?_
 rintro e w4 ⟨D4,d4,rfl,hB4,b4⟩
 clear V_0 V_1 V_2 V_3 V_4
 replace HV:=Hd (HV.out.later b4)
 replace HP:=Hd (HP.out.later b4)
 have HB4:=Hd (below_on HB3.out b4)
 clear HB3
 replace XB3:=Hd (XB3.out.later b4)
 clear b4
 have XB4:=Hd hB4
 clear hB4
 unfold bdCells
 dsimp only
 obtain⟨g4,hgg4⟩:∃g4,w4.heap.size=g4:=⟨_,rfl⟩
 have lt_V_g4:g<g4:=by have:=HV.out.lt;rw[hgg4]at this;exact this
 have lt_P_g4:g3<g4:=by have:=HP.out.lt;rw[hgg4]at this;exact this
 have le_g4:w.heap.size≤g4:=by have:=HB4.out.size;rw[hgg4]at this;exact this
 go_upto_region 5 with (fail)
 have b5:=below_new (Below.refl w4.heap.size w4) (.cells #[.int .i64 b0,.int .i64 b1,.int .i64 b2,.slice D4 bv.length d4] 49)
 have hQ:=Blk.new w4 49 #[.int .i64 b0,.int .i64 b1,.int .i64 b2,.slice D4 bv.length d4]
 obtain⟨w5,hw5⟩:∃x,w4.alloc (.cells #[.int .i64 b0,.int .i64 b1,.int .i64 b2,.slice D4 bv.length d4] 49)=x:=⟨_,rfl⟩
 rw[hw5]at b5 hQ
 rw[hw5]
 replace HV:=Hd (HV.out.later b5)
 replace HP:=Hd (HP.out.later b5)
 have HB5:=Hd (below_on HB4.out b5)
 clear HB4
 replace XB3:=Hd (XB3.out.later b5)
 replace XB4:=Hd (XB4.out.later b5)
 rw[hgg4]at hQ
 have HQ:=Hd hQ
 clear b5 hw5 hQ
 have V_0:=HV.out.cell (i:=0) rfl
 have V_1:=HV.out.cell (i:=1) rfl
 have V_2:=HV.out.cell (i:=2) rfl
 have V_3:=HV.out.cell (i:=3) rfl
 have V_4:=HV.out.cell (i:=4) rfl
 go_wp2_with fail
 refine((show Calls Tryz.prog 44 #[.agg #[.slice K kn.length ck,.slice Z zs.length cz,.slice H hs.length ch,.slice B bs.length cb,.int .i64 room],.slice I it.length ci] w5 (GivesIE ll le w5) from by have n:=SS.out.lacks ⟨K,ck,kn,Z,cz,zs,H,ch,hs,B,cb,bs,room⟩ I ci it w5 (HVW.out _ HB5.out) (HI.out _ HB5.out);rw[HLC.out]at n;exact n)).mono ?_
 rintro e w6 ⟨LA,lc,rfl,hL5,b6⟩
 clear V_0 V_1 V_2 V_3 V_4
 replace HV:=Hd (HV.out.later b6)
 replace HP:=Hd (HP.out.later b6)
 replace HQ:=Hd (HQ.out.later b6)
 have HB6:=Hd (below_on HB5.out b6)
 clear HB5
 replace XB3:=Hd (XB3.out.later b6)
 replace XB4:=Hd (XB4.out.later b6)
 clear b6
 have XL5:=Hd hL5
 clear hL5
 have V_0:=HV.out.cell (i:=0) rfl
 have V_1:=HV.out.cell (i:=1) rfl
 have V_2:=HV.out.cell (i:=2) rfl
 have V_3:=HV.out.cell (i:=3) rfl
 have V_4:=HV.out.cell (i:=4) rfl
 go_wp2_with fail
 refine((show Calls Tryz.prog 45 #[.agg #[.slice K kn.length ck,.slice Z zs.length cz,.slice H hs.length ch,.slice B bs.length cb,.int .i64 room],.slice I it.length ci] w6 (GivesIE ll le w6) from by have n:=vlacks_any ⟨K,ck,kn,Z,cz,zs,H,ch,hs,B,cb,bs,room⟩ I ci it w6 (HVW.out _ HB6.out) (HI.out _ HB6.out);rw[HLC.out]at n;exact n)).mono ?_
 rintro e w7 ⟨LB,ld,rfl,hL6,b7⟩
 clear V_0 V_1 V_2 V_3 V_4
 replace HV:=Hd (HV.out.later b7)
 replace HP:=Hd (HP.out.later b7)
 replace HQ:=Hd (HQ.out.later b7)
 have HB7:=Hd (below_on HB6.out b7)
 clear HB6
 replace XB3:=Hd (XB3.out.later b7)
 replace XB4:=Hd (XB4.out.later b7)
 replace XL5:=Hd (XL5.out.later b7)
 clear b7
 have XL6:=Hd hL6
 clear hL6
 have P_0:=HP.out.cell (i:=0) rfl
 have P_1:=HP.out.cell (i:=1) rfl
 have P_2:=HP.out.cell (i:=2) rfl
 have P_3:=HP.out.cell (i:=3) rfl
 have Q_0:=HQ.out.cell (i:=0) rfl
 have Q_1:=HQ.out.cell (i:=1) rfl
 have Q_2:=HQ.out.cell (i:=2) rfl
 have Q_3:=HQ.out.cell (i:=3) rfl
 go_wp2_with fail
 refine((show Calls Tryz.prog 39 #[.agg #[.int .i64 b0,.int .i64 b1,.int .i64 b2,.slice D3 bv.length d3],.agg #[.int .i64 b0,.int .i64 b1,.int .i64 b2,.slice D4 bv.length d4]] w7 (Says (.bool true) w7) from by have n:=bsamebody_any D3 D4 d3 d4 ⟨b0,b1,b2,bv⟩ ⟨b0,b1,b2,bv⟩ w7 XB3.out XB4.out;rw[(Wi.bsame_iff _ _).2 rfl]at n;exact n)).mono ?_
 rintro e w8 ⟨rfl,b8⟩
 clear P_0 P_1 P_2 P_3 Q_0 Q_1 Q_2 Q_3
 replace HV:=Hd (HV.out.later b8)
 replace HP:=Hd (HP.out.later b8)
 replace HQ:=Hd (HQ.out.later b8)
 have HB8:=Hd (below_on HB7.out b8)
 clear HB7
 replace XB3:=Hd (XB3.out.later b8)
 replace XB4:=Hd (XB4.out.later b8)
 replace XL5:=Hd (XL5.out.later b8)
 replace XL6:=Hd (XL6.out.later b8)
 clear b8 XB3 XB4
 obtain⟨n9,hn9⟩:∃n,ll.length=n:=⟨_,rfl⟩
 have HN9:=Hd hn9
 have hlen:ll.length≤9223372036854775807:=by have h1:=XL5.out.le;have h2:=XL5.out.cap;unfold maxLen at h2;omega
 clear hn9
 go_wp2_with fail
 go_loopw [15] (fun s15 wr=>∃k:Nat,k≤ll.length∧s15 = .int .i64 (k:Int)∧Below w8.heap.size w8 wr) (fun s15 _=>ll.length-(intOf s15).toNat)
 case atStart=>exact⟨0,Nat.zero_le _,rfl,Below.refl _ _⟩
 case round=>
  obtain⟨k,hk,rfl,hbw⟩:=hrel
  by_cases hlt:k<ll.length
  ·
   have hi0:(0:Int)≤(k:Int):=by omega
   have hi1:(k:Int)<(ll.length:Int):=by omega
   obtain⟨b,off,hA,e0⟩:=(XL5.out.later hbw).at hlt
   obtain⟨b',off',hA',f0⟩:=(XL6.out.later hbw).at hlt
   obtain⟨x0,hx0⟩:∃x,((ll.getD k 0:Nat):Int)=x:=⟨_,rfl⟩
   rw[hx0]at e0 f0
   clear hx0
   have e0':=fun w2 (hb:Below wr.heap.size wr w2)=>cell_later hb e0
   have f0':=fun w2 (hb:Below wr.heap.size wr w2)=>cell_later hb f0
   have BW:=Hd hbw
   subst hA hA'
   clear hbw e0' f0'
   go_wp2_with fail
   go_quiet (fail)
   go_wp2_with fail
   go_roundw
   case rel=>exact⟨k+1,by omega,by go_num,below_drewN BW.out _⟩
   case measure=>simp[intOf];omega
  obtain rfl:k=ll.length:=by omega
  have hd0:decide ((ll.length:Int)<(ll.length:Int))=false:=decide_eq_false (by omega)
  have HZ:=Hd (below_on HB8.out hbw)
  clear hbw
  go_wp2
  go_ret
  exact⟨rfl,HZ.out⟩
end Go.Proofs.YtjlfehpockfkdaaGreat
namespace Go.Proofs.YtjlfehpockfkdaaGreat.viewServes
open Go.ChangeShapes Go.WideShapes Go.ChangeAt Go.RowKit
theorem cellsStamp:Tryz.prog.cellsOf 46=2:=by kernel_rfl
theorem bytesStamp:Tryz.prog.bytesOf 46=16:=by kernel_rfl
theorem cellsSpan:Tryz.prog.cellsOf 97=2:=by kernel_rfl
theorem bytesSpan:Tryz.prog.bytesOf 97=16:=by kernel_rfl
theorem cellsWrite:Tryz.prog.cellsOf 52=4:=by kernel_rfl
theorem bytesWrite:Tryz.prog.bytesOf 52=32:=by kernel_rfl
theorem own:ownKnob Tryz.prog.godebug=none:=by kernel_rfl
theorem laidOut:laidOutB Tryz.prog=true:=by kernel_rfl
theorem reads:∀t∈Tryz.f10.params.toList,Tryz.prog.readableRec t=true∧t<Tryz.prog.types.size:=by
 intro t ht
 rw[Tryz.params10]at ht
 have:t=27∨t=3∨t=28:=by simpa using ht
 rcases this with rfl|rfl|rfl<;>exact⟨by kernel_rfl,of_decide_eq_true (by kernel_rfl)⟩
set_option maxRecDepth 100000 in
theorem lifted(os:Os)(started:os.Started)(H:Type)(enc:TypeId × Value→H) :
  ReturnsInHanded {} Tryz.checked os 10 .any (Rows.viewServesSpec.pre6 enc Tryz.prog Tryz.f10 Rows.viewServesRow.domain false) (Rows.viewServesSpec.post enc Tryz.prog Tryz.f10 false true false false):=by
 refine returnsInHanded_of_change (C:=Tryz.checked) own started (by kernel_rfl) Tryz.func10
  (ChangeSpec.witness6 (enc:=enc) (C:=Tryz.checked) false ⟨#[],#[.agg #[.slice none 0 0,.slice none 0 0,.slice none 0 0,.slice none 0 0,.int .i64 0],.int .i64 0,.slice none 0 0],[]⟩ 8 (by kernel_rfl) (by kernel_rfl) (by kernel_rfl) (by kernel_rfl)) ?_
 intro W base args ds gs before hval0 hW _ _
 have hval:∀(j:Nat) t v,Tryz.f10.params[j]?=some t→args[j]?=some v→Value.okWide Tryz.prog W .any base t v:=hval0
 have hW':=hW
 obtain⟨p,q,hA0,hV,rfl,hfz,hnd⟩:=hW
 have hA:DataW.TrodAll enc Tryz.prog W 0 (fun _=>true) true Tryz.f10.params.toList args.toList ds p:=hA0
 rw[Tryz.params10]at hA hval
 obtain⟨v0,vs0,d0,ds0,p0,q0,hargs,rfl,rfl,h0,r0⟩:=trodAll_cons hA
 obtain⟨v1,vs1,d1,ds1,p1,q1,rfl,rfl,rfl,h1,r1⟩:=trodAll_cons r0
 obtain⟨v2,vs2,d2,ds2,p2,q2,rfl,rfl,rfl,h2,r2⟩:=trodAll_cons r1
 obtain⟨rfl,rfl,rfl⟩:=trodAll_nil r2
 obtain rfl:args=#[v0,v1,v2]:=by cases args;simp_all
 obtain⟨rfl,rfl⟩:=trodVars_none hV
 obtain⟨q0,rfl,o0,g0⟩:=open_view (hval 0 27 v0 rfl rfl) h0
 obtain⟨a1,rfl,rfl,rfl,w1⟩:=open_int Tryz.underlying3 (hval 1 3 v1 rfl rfl) h1
 obtain⟨A2,cap2,l2,rfl,hc2,hm2,hn2,hl2,_,hd2⟩:=open_stamps Tryz.underlying28 Tryz.underlying97 (by kernel_rfl) cellsSpan rfl rfl Tryz.underlying3 (hval 2 28 v2 rfl rfl) h2
 have o2:OneL W A2 cap2 l2:=⟨hc2,hm2,hn2,hl2⟩
 clear hA0 hval0
 refine(lawVServes_any viewServe q0 a1 A2 cap2 l2 W o0 o2).mono fun e W' ⟨he,hg⟩ =>?_
 subst he
 exact⟨_,rfl,law_post laidOut hW' rfl rfl (by kernel_rfl) Tryz.underlying4 reads hg⟩
theorem over:Rows.viewServesRow.holds Tryz.pinned (OpenSpec.ofChange Rows.viewServesSpec):=
 OpenClaim.holds_of_wide 10 Tryz.f10 rfl rfl rfl rfl rfl rfl rfl ⟨rfl,rfl,rfl,rfl,rfl⟩ rfl rfl rfl rfl rfl (by kernel_rfl) Tryz.func10 (by kernel_rfl)
  (of_decide_eq_true (by kernel_rfl)) (by unfold Func.isWrapper;first|(rw[if_pos (by decide +kernel)];kernel_rfl)|(rw[if_neg (by decide +kernel)];exact⟨rfl,rfl⟩))
  (fun os started H enc _=>lifted os started H enc)
theorem proved:Rows.ViewServesSaid:=
 over
end Go.Proofs.YtjlfehpockfkdaaGreat.viewServes
