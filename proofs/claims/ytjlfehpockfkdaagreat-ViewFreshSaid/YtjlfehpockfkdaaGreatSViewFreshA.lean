/-
  What the row of this claim stands on: StampPlain, VecPlain, Many, SpMore, NotePlain, SpRefSet, OwnPut, SpRefSmall, SpRefMore, RefRight, RefCounts, RefOf, RefVec, RefLists, RefFormed, RefJoin, RefTwo, NtAt, TrPlain, SfPlain, VwPlain, WrBody, ByRef, CaRefA, VwFar, TrForm, TrReach, SfMath, SfRef, CaRefB, VwRefA.
-/
import Derived.Test.YtjlfehpockfkdaaGreatB01
import Derived.Below
import Derived.Laws.OwnMore
import Derived.Deep.Draws
import Derived.Laws.Rows
import Derived.Test.YtjlfehpockfkdaaGreatProg
import Derived.Tactics
import Derived.Tactics2
import Derived.WalkKit
import Derived.WalkSpells
import Derived.OwnWalk
import Derived.Deep.QuietTactic
import Derived.BigQuiet
import Derived.Deep.RegionHeld3
import Derived.KernelRfl
import Derived.Lib.Hide
import Derived.Laws.Tables
import Derived.Laws.CopyOwn
import Derived.Laws.ResultCell
import Derived.Deep.DeepCutAuto
import Derived.RegionTactic
import Derived.BigRegion
import Derived.RangeFuncBox
import Derived.WalkSmall
import Derived.Lib.QuietBelow
namespace Go.Proofs.YtjlfehpockfkdaaGreat
open Go.RowKit in
open Go.RowKit in
open Go.RowKit in
open Go.RowKit in
section
variable {w w':World} {g:Nat} {t:TypeId} {cs:Array Value}
theorem Blk.drewN(h:Blk w g t cs)(n:Nat):Blk (w.drewN n) g t cs:=h
end
namespace St
theorem cmpI_zero{a b:Int}:cmpI a b=0↔a=b:=by unfold cmpI;split<;>(try split)<;>omega
theorem cmpS_zero{c n c' n':Int}:cmpS c n c' n'=0↔c=c'∧n=n':=by
 have :=@cmpI_zero n n'
 unfold cmpS;split<;>(try split)<;>omega
theorem cmpS_trans{c n c' n' c'' n'':Int}(h:cmpS c n c' n'≤0)(h':cmpS c' n' c'' n''≤0):cmpS c n c'' n''≤0:=by
 unfold cmpS cmpI at *;(repeat' split)<;>(repeat' (split at h))<;>(repeat' (split at h'))<;>omega
end St
end Go.Proofs.YtjlfehpockfkdaaGreat
namespace Go.Proofs.YtjlfehpockfkdaaGreat
namespace Ve
theorem cnt_drop(l:List (Int × Int))(k:Nat)(h:k<l.length)(n:Nat):cnt (l.drop k) n=if St.rgt l[k].1 l[k].2=true∧l[k].2=(n:Int) then l[k].1 else cnt (l.drop (k+1)) n:=by
 rw[List.drop_eq_getElem_cons h]
 rfl
end Ve
end Go.Proofs.YtjlfehpockfkdaaGreat
namespace Go.Proofs.YtjlfehpockfkdaaGreat
open Go.RowKit
theorem Rows.later{w w':World}{A:Option Addr}{ls:List (List (Int × Int))}(h:Rows w A ls)(hb:Below w.heap.size w w'):Rows w' A ls:=fun hne=>by
 obtain⟨b,off,hA,hc⟩:=h hne
 refine⟨b,off,hA,fun k hk =>?_⟩
 obtain⟨A',c',h1,h2⟩:=hc k hk
 exact⟨A',c',(hb.cell (World.block_lt_of_cell? w _ h1)).trans h1,h2.later hb⟩
theorem Rows.len{w:World}{A:Option Addr}{ls:List (List (Int × Int))}(h:Rows w A ls):∀k,k<ls.length→(ls.getD k []).length≤9223372036854775807:=fun k hk=>by
 obtain⟨_,_,_,hc⟩:=h (fun e=>by subst e;simp at hk)
 obtain⟨_,_,_,h2⟩:=hc k hk
 exact h2.len
end Go.Proofs.YtjlfehpockfkdaaGreat
namespace Go.Proofs.YtjlfehpockfkdaaGreat
namespace Sp
theorem fmd_ofL(f:Nat→Bool):fmd (ofL f)=true:=(fmd_iff _).2 (good_ofL f)
def touch(f g:Nat→Bool):Bool:=decide (∃o:Fin 256,f o.val=true∧g o.val=true)
theorem touch_iff(f g:Nat→Bool):touch f g=true↔∃o,o<256∧f o=true∧g o=true:=by
 unfold touch
 rw[decide_eq_true_iff]
 exact⟨fun⟨o,h⟩=>⟨o.val,o.isLt,h⟩,fun⟨o,ho,h⟩=>⟨⟨o,ho⟩,h⟩⟩
theorem ofL_nil(f:Nat→Bool):(ofL f).length=0↔∀o,o<256→f o=false:=by
 constructor
 ·intro h o ho
  rw[←inL_ofL f o ho,List.eq_nil_of_length_eq_zero h]
  rfl
 ·intro h
  have:ofL f=[]:=good_uniq (good_ofL f) (good_nil _) fun o ho=>by rw[inL_ofL f o ho,h o ho];rfl
  rw[this]
  rfl
theorem touch_ref(f g:Nat→Bool):touch f g=decide (0<(ofL fun o=>f o&&g o).length):=by
 rw[Bool.eq_iff_iff,touch_iff,decide_eq_true_eq,Nat.pos_iff_ne_zero,Ne,ofL_nil]
 constructor
 ·rintro ⟨o,ho,h1,h2⟩ h
  have:=h o ho
  simp_all
 ·intro h
  refine Classical.byContradiction fun hn=>h fun o ho =>?_
  cases hf:f o<;>cases hg:g o<;>simp
  exact hn ⟨o,ho,hf,hg⟩
end Sp
end Go.Proofs.YtjlfehpockfkdaaGreat
namespace Go.Proofs.YtjlfehpockfkdaaGreat
open Go.RowKit
def AnsN(n:Note)(w:World)(e:Ending)(w':World):Prop:=∃S E B V cs ce cb cv,e = .returned (.agg (noteCells S E B V cs ce cb cv n))∧NoteAt w' S E B V cs ce cb cv n∧Below w.heap.size w w'
theorem info256:(Tryz.prog.info? 138).map (·.size)=some 256:=by kernel_rfl
set_option maxRecDepth 100000 in
set_option maxHeartbeats 3200000 in
theorem set_any(A:Option Addr)(cap:Nat)(l:List (Int × Int))(w:World)(hl:l.length≤9223372036854775807)(h:Stamps w A l) :
  Calls Tryz.prog 97 #[.slice A l.length cap] w fun e w'=>e = .returned (.agg (Sp.arr (Sp.inL l)))∧Below w.heap.size w w':=by
 have HS:=Hd h
 clear h
 go_enter Tryz.func97,Tryz.ntmps97
 go_wp2_with fail
 rw[marks_zero]
 go_loopw [4] (fun s4 wr=>∃k:Nat,k≤l.length∧s4 = .int .i64 (k:Int)∧Blk wr (w.heap.size+1) 138 (Sp.arr (Sp.inL (l.take k)))∧Blk wr w.heap.size 138 (Sp.arr fun _=>false)∧Below w.heap.size w wr) (fun s4 _=>l.length-(intOf s4).toNat)
 case atStart=>
  have hb:=Blk.new (w.alloc (.cells (Sp.arr fun _=>false) 138)) 138 (Sp.arr fun _=>false)
  rw[show(w.alloc (.cells (Sp.arr fun _=>false) 138)).heap.size=w.heap.size+1 from by simp]at hb
  exact⟨0,Nat.zero_le _,rfl,hb,(Blk.new _ _ _).alloc _,below_new (below_new (Below.refl _ _) _) _⟩
 case round=>
  obtain⟨k,hk,rfl,hB1,hB0,hbw⟩:=hrel
  by_cases hlt:k<l.length
  ·have hne:l≠[]:=fun e=>by subst e;simp at hlt
   obtain⟨b,off,hA,hc⟩:=HS.out hne
   subst hA
   obtain⟨e0,e1⟩:=hc k hlt
   have hb0:b<w.heap.size:=World.block_lt_of_cell? _ _ e0
   rw[List.getD_eq_getElem?_getD,List.getElem?_eq_getElem hlt,Option.getD_some]at e0 e1
   have hit:=Sp.inL_take l k hlt
   obtain⟨x,hx⟩:∃x,l[k].1=x:=⟨_,rfl⟩
   obtain⟨y,hy⟩:∃y,l[k].2=y:=⟨_,rfl⟩
   rw[hx]at e0 hit
   rw[hy]at e1 hit
   have F0:=Hd (fun wx (hq:Below w.heap.size w wx)=>(hq.cell (p:=⟨b,_,none⟩) hb0).trans e0)
   have F1:=Hd (fun wx (hq:Below w.heap.size w wx)=>(hq.cell (p:=⟨b,_,none⟩) hb0).trans e1)
   have f0:=F0.out wr hbw
   obtain⟨p,hp1,hp2⟩:∃p:Nat,x≤(p:Int)∧((p=0∧x≤0)∨((p:Int)=x∧0<x)):=by
    by_cases h0:0<x
    ·exact⟨x.toNat,by omega,.inr ⟨by omega,h0⟩⟩
    ·exact⟨0,by omega,.inl ⟨rfl,by omega⟩⟩
   have hfin:∀o:Nat,p≤o→(o=p∨((o:Int)≤y+1∧o≤256))→((y<255∧y<(o:Int))∨(255≤y∧255<(o:Int)))→∀j,j<256→(Sp.inL (l.take k) j||decide (p≤j∧j<o))=Sp.inL (l.take (k+1)) j:=fun o h1 h2 h3 j hj=>by
    rw[hit j]
    congr 1
    rw[Bool.eq_iff_iff,decide_eq_true_eq,decide_eq_true_eq]
    omega
   have hbeg:∀j,j<256→Sp.inL (l.take k) j=(Sp.inL (l.take k) j||decide (p≤j∧j<p)):=fun j _=>by
    rw[decide_eq_false (by omega),Bool.or_false]
   obtain⟨f,hf⟩:∃f,Sp.inL (l.take k)=f:=⟨_,rfl⟩
   rw[hf]at hB1 hfin hbeg
   have FIN:=Hd hfin
   have HB1:=Hd (hB1.marks_same hbeg)
   have HB0:=Hd hB0
   clear hit hc hfin hB1 hB0 hbeg hf e0 e1 hx hy
   have hi0:(0:Int)≤(k:Int):=by omega
   have hi1:(k:Int)<(l.length:Int):=by omega
   have hstart:∀v,(v=Value.int .i64 0∧p=0)∨v = .int .i64 (p:Int)→v = .int .i64 (p:Int):=fun v h=>by
    rcases h with ⟨rfl,rfl⟩|h
    ·rfl
    ·exact h
   have hnext:∀o:Nat,p≤o→∀j,j<256→(if j=o then true else (f j||decide (p≤j∧j<o)))=(f j||decide (p≤j∧j<o+1)):=fun o ho j _=>by
    by_cases e:j=o
    ·rw[if_pos e,decide_eq_true (by omega),Bool.or_true]
    ·rw[if_neg e]
     congr 1
     rw[Bool.eq_iff_iff,decide_eq_true_eq,decide_eq_true_eq]
     omega
   have HST:=Hd hstart
   have HNX:=Hd hnext
   clear hstart hnext
   rcases hp2 with ⟨hp0,hx0⟩|⟨rfl,hx0⟩
   all_goals
    go_wp2_with fail
    go_loopw [5] (fun s5 wq=>∃o:Nat,p≤o∧(o=p∨((o:Int)≤y+1∧o≤256))∧s5 = .int .i64 (o:Int)∧Blk wq (w.heap.size+1) 138 (Sp.arr fun j=>f j||decide (p≤j∧j<o))∧Blk wq w.heap.size 138 (Sp.arr fun _=>false)∧Below w.heap.size w wq) (fun s5 _=>256-(intOf s5).toNat)
    case atStart=>exact⟨p,Nat.le_refl _,.inl rfl,HST.out _ (by first|exact .inr rfl|exact .inl ⟨rfl,hp0⟩),HB1.out,HB0.out,hbw⟩
    case round=>
     obtain⟨o,hpo,hoo,rfl,hC,hD,hbq⟩:=hrel
     have f1:=F1.out _ hbq
     have HC:=Hd hC
     have HD:=Hd hD
     have HOO:=Hd hoo
     clear hC hD hoo
     rcases Int.lt_or_le y 255 with hy|hy
     ·by_cases ho:(o:Int)≤y
      ·have ho2:o<256:=by omega
       have x1:=HC.out.marks_cell o ho2
       have x2:=HC.out.free o
       have hj0:(0:Int)≤(o:Int):=by omega
       have hj1:(o:Int)<256:=by omega
       have B7:=Hd ((HC.out.marks_put o ho2 true).marks_same (HNX.out o hpo))
       have B8:=Hd (HD.out.far (p:=⟨w.heap.size+1,o,none⟩) (by simp) (.bool true))
       have hbz:=hbq.setCell (p:=⟨w.heap.size+1,o,none⟩) (by simp) (.bool true)
       go_wp2_with fail
       go_roundw
       case rel=>exact⟨o+1,by omega,.inr ⟨by omega,by omega⟩,by go_num,B7.out,B8.out,hbz⟩
       case measure=>simp[intOf];omega
      ·have hno:y<(o:Int):=by omega
       have B7:=Hd (HC.out.marks_same (FIN.out o hpo HOO.out (.inl ⟨hy,hno⟩)))
       go_wp2_with fail
       go_roundw
       case rel=>exact⟨k+1,by omega,by go_num,B7.out,HD.out,hbq⟩
       case measure=>simp[intOf];omega
     ·by_cases ho:(o:Int)≤255
      ·have ho2:o<256:=by omega
       have x1:=HC.out.marks_cell o ho2
       have x2:=HC.out.free o
       have hj0:(0:Int)≤(o:Int):=by omega
       have hj1:(o:Int)<256:=by omega
       have B7:=Hd ((HC.out.marks_put o ho2 true).marks_same (HNX.out o hpo))
       have B8:=Hd (HD.out.far (p:=⟨w.heap.size+1,o,none⟩) (by simp) (.bool true))
       have hbz:=hbq.setCell (p:=⟨w.heap.size+1,o,none⟩) (by simp) (.bool true)
       go_wp2_with fail
       go_roundw
       case rel=>exact⟨o+1,by omega,.inr ⟨by omega,by omega⟩,by go_num,B7.out,B8.out,hbz⟩
       case measure=>simp[intOf];omega
      ·have hno:255<(o:Int):=by omega
       have B7:=Hd (HC.out.marks_same (FIN.out o hpo HOO.out (.inr ⟨hy,hno⟩)))
       go_wp2_with fail
       go_roundw
       case rel=>exact⟨k+1,by omega,by go_num,B7.out,HD.out,hbq⟩
       case measure=>simp[intOf];omega
  ·have hkl:k=l.length:=by omega
   subst hkl
   rw[List.take_length]at hB1
   go_wp2_with (first|(refine wpList_load_row rfl 138 _ rfl (w.heap.size+1) rfl 138 _ (0,0) _ hB1 Tryz.underlying138 rfl (by rw[Sp.arr_size];exact info256) ?_)|(refine wpList_store_row rfl 138 _ _ rfl w.heap.size _ rfl rfl 138 _ hB0 (by rw[Sp.arr_size];exact info256) (by rw[Sp.arr_size,Sp.arr_size]) (one_marks _) ?_))
   refine bodyPost_ret (v :=.agg (Sp.arr (Sp.inL l))) (results_cell_row rfl _ _ w.heap.size 138 (Sp.arr (Sp.inL l)) (0,0) _ rfl (setRow_heap _ _ _ _ _ _ hB0) Tryz.underlying138 rfl (by rw[Sp.arr_size];exact info256)) rfl ⟨rfl,below_setRow hbw (Nat.le_refl _) _⟩
theorem Blk.rowFar{w:World}{g g':Nat}{t:TypeId}{cs:Array Value}(h:Blk w g t cs)(hne:g≠g')(cs':Array Value):Blk (w.setRow g' cs') g t cs:=(setRow_other _ _ _ _ hne).trans h
theorem GivesS.one{l:List (Int × Int)}{w w':World}{e:Ending}(h:GivesS l w e w'):∃A c,e = .returned (.slice A l.length c)∧OneL w' A c l∧Below w.heap.size w w':=by
 obtain⟨v,rfl,ho,hb⟩:=h
 obtain⟨A,c,rfl,h1⟩:=OneL.of_own ho
 exact⟨A,c,rfl,h1,hb⟩
theorem index_marks(f:Nat→Bool)(k:Nat)(hk:k<256)(w:World):(Instr.index 138 (.agg (Sp.arr f)) (.int .i64 (k:Int))).run Tryz.prog w = .ok (.bool (f k)) w:=by
 have h1:=Sp.arr_get f k hk
 simp[Instr.index,asIntOf,run_underlying Tryz.underlying138,part,Tryz.isAgg4,Tryz.sizeOf4,h1]
 intro h
 exact absurd h (by omega)
set_option maxHeartbeats 800000 in
theorem shas_any(A:Option Addr)(c:Nat)(l:List (Int × Int))(o:Int)(w:World)(h1:OneL w A c l) :
  Calls Tryz.prog 41 #[.slice A l.length c,.int .i64 o] w fun e w'=>e = .returned (.bool (inOf l o))∧Below w.heap.size w w':=by
 have n1:=set_any A c l w h1.len h1.stamps
 by_cases h0:0≤o
 ·have hd:decide (0≤o)=true:=decide_eq_true h0
  by_cases h2:o≤255
  ·obtain⟨k,rfl⟩:∃k:Nat,o=(k:Int):=⟨o.toNat,by omega⟩
   have hd2:decide ((k:Int)≤255)=true:=decide_eq_true h2
   have hk:k<256:=by omega
   have hi:inOf l (k:Int)=Sp.inL l k:=by unfold inOf;rw[decide_eq_true ⟨h0,h2⟩];rfl
   have HI:=Hd hi
   have hix:=fun w=>index_marks (Sp.inL l) k hk w
   have N1:=Hd n1
   clear n1 hi
   go_enter Tryz.func41,Tryz.ntmps41
   go_wp2_with fail
   refine N1.out.mono ?_
   rintro e w1 ⟨rfl,b1⟩
   go_wp2
   go_ret
   exact⟨by rw[HI.out];rfl,b1⟩
  ·have hd2:decide (o≤255)=false:=decide_eq_false h2
   have hi:inOf l o=false:=by unfold inOf;rw[decide_eq_false (fun h=>h2 h.2)];rfl
   have HI:=Hd hi
   clear n1 hi
   go_enter Tryz.func41,Tryz.ntmps41
   go_wp2
   go_ret
   exact⟨by rw[HI.out];rfl,Below.refl _ _⟩
 ·have hd:decide (0≤o)=false:=decide_eq_false h0
  have hi:inOf l o=false:=by unfold inOf;rw[decide_eq_false (fun h=>h0 h.1)];rfl
  have HI:=Hd hi
  clear n1 hi
  go_enter Tryz.func41,Tryz.ntmps41
  go_wp2
  go_ret
  exact⟨by rw[HI.out];rfl,Below.refl _ _⟩
namespace Sp
def lessS(l r:List (Int × Int)):List (Int × Int):=ofL fun o=>inL l o && !inL r o
end Sp
theorem rright_c(c n:Int)(w:World)(h:c<1) :
  Calls Tryz.prog 102 #[.agg #[.int .i64 c,.int .i64 n]] w fun e w'=>e = .returned (.bool (St.rgt c n))∧Below w.heap.size w w':=by
 have h0:St.rgt c n=false:=by unfold St.rgt;simp;omega
 have H0:=Hd h0;clear h0
 have hd0:decide (1≤c)=false:=decide_eq_false (by omega)
 go_enter Tryz.func102,Tryz.ntmps102
 go_wp2
 go_ret
 rw[H0.out]
 exact⟨rfl,by repeat (first|exact Below.refl _ _|exact Nat.le_refl _|(apply Below.drew)|(refine Below.alloc ?_ ?_ _)|(refine Below.setCell ?_ ?_ _)|(simp;done)|(simp;omega))⟩
theorem rright_n(c n:Int)(w:World)(h:1≤c)(hn:n<0) :
  Calls Tryz.prog 102 #[.agg #[.int .i64 c,.int .i64 n]] w fun e w'=>e = .returned (.bool (St.rgt c n))∧Below w.heap.size w w':=by
 have h0:St.rgt c n=false:=by unfold St.rgt;simp;omega
 have H0:=Hd h0;clear h0
 have hd0:decide (1≤c)=true:=decide_eq_true (by omega)
 have hd1:decide (0≤n)=false:=decide_eq_false (by omega)
 go_enter Tryz.func102,Tryz.ntmps102
 go_wp2
 go_ret
 rw[H0.out]
 exact⟨rfl,by repeat (first|exact Below.refl _ _|exact Nat.le_refl _|(apply Below.drew)|(refine Below.alloc ?_ ?_ _)|(refine Below.setCell ?_ ?_ _)|(simp;done)|(simp;omega))⟩
theorem rright_m(c n:Int)(w:World)(h:1≤c)(hn:63<n) :
  Calls Tryz.prog 102 #[.agg #[.int .i64 c,.int .i64 n]] w fun e w'=>e = .returned (.bool (St.rgt c n))∧Below w.heap.size w w':=by
 have h0:St.rgt c n=false:=by unfold St.rgt;simp;omega
 have H0:=Hd h0;clear h0
 have hd0:decide (1≤c)=true:=decide_eq_true (by omega)
 have hd1:decide (0≤n)=true:=decide_eq_true (by omega)
 have hd2:decide (n≤63)=false:=decide_eq_false (by omega)
 go_enter Tryz.func102,Tryz.ntmps102
 go_wp2
 go_ret
 rw[H0.out]
 exact⟨rfl,by repeat (first|exact Below.refl _ _|exact Nat.le_refl _|(apply Below.drew)|(refine Below.alloc ?_ ?_ _)|(refine Below.setCell ?_ ?_ _)|(simp;done)|(simp;omega))⟩
theorem rright_y(c n:Int)(w:World)(h:1≤c)(hn:0≤n)(hm:n≤63) :
  Calls Tryz.prog 102 #[.agg #[.int .i64 c,.int .i64 n]] w fun e w'=>e = .returned (.bool (St.rgt c n))∧Below w.heap.size w w':=by
 have h0:St.rgt c n=true:=by unfold St.rgt;simp;omega
 have H0:=Hd h0;clear h0
 have hd0:decide (1≤c)=true:=decide_eq_true (by omega)
 have hd1:decide (0≤n)=true:=decide_eq_true (by omega)
 have hd2:decide (n≤63)=true:=decide_eq_true (by omega)
 go_enter Tryz.func102,Tryz.ntmps102
 go_wp2
 go_ret
 rw[H0.out]
 exact⟨rfl,by repeat (first|exact Below.refl _ _|exact Nat.le_refl _|(apply Below.drew)|(refine Below.alloc ?_ ?_ _)|(refine Below.setCell ?_ ?_ _)|(simp;done)|(simp;omega))⟩
theorem rright_any(c n:Int)(w:World) :
  Calls Tryz.prog 102 #[.agg #[.int .i64 c,.int .i64 n]] w fun e w'=>e = .returned (.bool (St.rgt c n))∧Below w.heap.size w w':=by
 by_cases h:c<1
 ·exact rright_c c n w h
 by_cases h1:n<0
 ·exact rright_n c n w (by omega) h1
 by_cases h2:63<n
 ·exact rright_m c n w (by omega) h2
 ·exact rright_y c n w (by omega) (by omega) (by omega)
theorem info64:(Tryz.prog.info? 185).map (·.size)=some 64:=by kernel_rfl
set_option maxRecDepth 100000 in
set_option maxHeartbeats 1600000 in
theorem counts_any(A:Option Addr)(cap:Nat)(l:List (Int × Int))(w:World)(hl:l.length≤9223372036854775807)(h:Stamps w A l) :
  Calls Tryz.prog 157 #[.slice A l.length cap] w fun e w'=>e = .returned (.agg (Ve.arr (Ve.cnt l)))∧Below w.heap.size w w':=by
 have HS:=Hd h
 clear h
 go_enter Tryz.func157,Tryz.ntmps157
 go_wp2_with fail
 rw[←Ve.arr_zero]
 go_loopw [4] (fun s4 wr=>((s4 = .int .i64 (-1)∧Blk wr (w.heap.size+1) 185 (Ve.arr (Ve.cnt l)))∨(∃m:Nat,m<l.length∧s4 = .int .i64 (m:Int)∧Blk wr (w.heap.size+1) 185 (Ve.arr (Ve.cnt (l.drop (m+1)))))) ∧
   Blk wr w.heap.size 185 (Ve.arr fun _=>0)∧Below w.heap.size w wr) (fun s4 _=>(intOf s4+1).toNat)
 case atStart=>
  refine⟨?_,(Blk.new _ _ _).alloc _,below_new (below_new (Below.refl _ _) _) _⟩
  have hb:=Blk.new (w.alloc (.cells (Ve.arr fun _=>0) 185)) 185 (Ve.arr fun _=>0)
  rw[show(w.alloc (.cells (Ve.arr fun _=>0) 185)).heap.size=w.heap.size+1 from by simp]at hb
  cases hc:l.length with
  |zero=>
   have hln:l=[]:=List.eq_nil_of_length_eq_zero hc
   subst hln
   exact .inl ⟨rfl,hb⟩
  |succ m=>
   refine .inr ⟨m,by omega,by go_num,?_⟩
   rw[List.drop_of_length_le (by omega)]
   exact hb
 case round=>
  obtain⟨hm,hB0,hbw⟩:=hrel
  rcases hm with ⟨rfl,hB1⟩|⟨m,hml,rfl,hB1⟩
  ·go_wp2_with (first|(refine wpList_load_row rfl 185 _ rfl (w.heap.size+1) rfl 185 _ (0,0) _ hB1 Tryz.underlying185 rfl (by rw[Ve.arr_size];exact info64) ?_)|(refine wpList_store_row rfl 185 _ _ rfl w.heap.size _ rfl rfl 185 _ hB0 (by rw[Ve.arr_size];exact info64) (by rw[Ve.arr_size,Ve.arr_size]) (one_arr _) ?_))
   refine bodyPost_ret (v :=.agg (Ve.arr (Ve.cnt l))) (results_cell_row rfl _ _ w.heap.size 185 (Ve.arr (Ve.cnt l)) (0,0) _ rfl (setRow_heap _ _ _ _ _ _ hB0) Tryz.underlying185 rfl (by rw[Ve.arr_size];exact info64)) rfl ⟨rfl,below_setRow hbw (Nat.le_refl _) _⟩
  ·have hne:l≠[]:=fun e=>by subst e;simp at hml
   obtain⟨b,off,hA,hc⟩:=HS.out hne
   subst hA
   obtain⟨e0,e1⟩:=hc m hml
   have hb0:b<w.heap.size:=World.block_lt_of_cell? _ _ e0
   rw[List.getD_eq_getElem?_getD,List.getElem?_eq_getElem hml,Option.getD_some]at e0 e1
   have f0:=(hbw.cell (p:=⟨b,_,none⟩) hb0).trans e0
   have f1:=(hbw.cell (p:=⟨b,_,none⟩) hb0).trans e1
   have hcd:=Ve.cnt_drop l m hml
   have HCD:=Hd hcd
   have HB1:=Hd hB1
   have HB0:=Hd hB0
   clear e0 e1 hc hcd hB1 hB0
   have hi0:(0:Int)≤(m:Int):=by omega
   have hi1:(m:Int)<(l.length:Int):=by omega
   have fin:∀wx,Blk wx (w.heap.size+1) 185 (Ve.arr (Ve.cnt (l.drop m)))→Blk wx w.heap.size 185 (Ve.arr fun _=>0)→Below w.heap.size w wx →
     (((Value.int .i64 ((m:Int)-1) = .int .i64 (-1)∧Blk wx (w.heap.size+1) 185 (Ve.arr (Ve.cnt l)))∨(∃m':Nat,m'<l.length∧Value.int .i64 ((m:Int)-1) = .int .i64 (m':Int)∧Blk wx (w.heap.size+1) 185 (Ve.arr (Ve.cnt (l.drop (m'+1)))))) ∧
      Blk wx w.heap.size 185 (Ve.arr fun _=>0)∧Below w.heap.size w wx):=by
    intro wx h1 h2 h3
    refine⟨?_,h2,h3⟩
    cases m with
    |zero=>exact .inl ⟨by simp,by simpa using h1⟩
    |succ m=>exact .inr ⟨m,by omega,by rw[show((m+1:Nat):Int)-1=(m:Int) from by omega],h1⟩
   have FIN:=Hd fin
   clear fin
   go_wp2_with fail
   refine(rright_any _ _ _).mono ?_
   rintro e w1 ⟨rfl,hb1⟩
   have hbx:=below_on hbw hb1
   have B1:=HB1.out.later hb1
   have B0:=HB0.out.later hb1
   cases hr:St.rgt l[m].1 l[m].2
   ·have hs:∀i,i<64→Ve.cnt (l.drop (m+1)) i=Ve.cnt (l.drop m) i:=fun i _=>by rw[HCD.out i,if_neg (by rw[hr];simp)]
    have B2:=Hd (B1.same hs)
    have B3:=Hd B0
    clear B1 B0 hr hs
    go_wp2_with fail
    go_roundw
    case rel=>exact FIN.out _ B2.out B3.out hbx
    case measure=>simp[intOf]
   ·have hrr:1≤l[m].1∧0≤l[m].2∧l[m].2≤63:=by unfold St.rgt at hr;exact of_decide_eq_true hr
    obtain⟨nn,hnn⟩:∃nn:Nat,l[m].2=(nn:Int):=⟨l[m].2.toNat,by omega⟩
    have hn64:nn<64:=by omega
    have hs:∀i,i<64→(if i=nn then l[m].1 else Ve.cnt (l.drop (m+1)) i)=Ve.cnt (l.drop m) i:=fun i _=>by
     rw[HCD.out i,hr,hnn]
     by_cases hi:i=nn
     ·rw[if_pos hi,if_pos ⟨rfl,by rw[hi]⟩]
     ·rw[if_neg hi,if_neg (fun h=>hi (by have:=h.2;omega))]
    have g0:=cell_later hb1 f0
    have g1:=cell_later hb1 f1
    rw[hnn]at g1
    have c1:=B1.arr_cell nn hn64
    have c2:=B1.free nn
    have B2:=Hd ((B1.arr_put nn hn64 l[m].1).same hs)
    have B3:=Hd (B0.far (p:=⟨w.heap.size+1,nn,none⟩) (by simp) (.int .i64 l[m].1))
    have hj0:(0:Int)≤(nn:Int):=by omega
    have hj1:(nn:Int)<64:=by omega
    clear B1 B0 hr hs hrr hnn f0 f1
    go_wp2_with fail
    go_region
    go_wp2_with fail
    go_roundw
    case rel=>exact FIN.out _ B2.out.drew B3.out.drew (hbx.setCell (by simp) _).drew
    case measure=>simp[intOf]
set_option maxRecDepth 100000 in
set_option maxHeartbeats 1600000 in
theorem of_any(f:Nat→Int)(w:World):Calls Tryz.prog 160 #[.agg (Ve.arr f)] w (Gives (Ve.ofL f) w):=by
 obtain⟨i0,hi,hz0,hz1,hz2⟩:=info_parts infoSt
 go_enter Tryz.func160,Tryz.ntmps160
 go_wp2_with fail
 go_loopw [3,4] (fun s3 s4 wr=>∃k:Nat,k≤64∧s4 = .int .i64 (k:Int)∧wr.ownsRow (w.heap.size+1) 46 2 s3 (Ve.ofTo f k).length (stCells (Ve.ofTo f k))∧Blk wr w.heap.size 185 (Ve.arr f)∧Below w.heap.size w wr) (fun _ s4 _=>64-(intOf s4).toNat)
 case atStart=>exact⟨0,by omega,rfl,⟨rfl,.inl ⟨rfl,rfl⟩⟩,Blk.new _ _ _,below_new (Below.refl _ _) _⟩
 case round=>
  obtain⟨k,hk,rfl,hown,hB,hbw⟩:=hrel
  by_cases hlt:k<64
  ·have c0:=hB.arr_cell k hlt
   have hi0:(0:Int)≤(k:Int):=by omega
   have hi1:(k:Int)<64:=by omega
   have hln:=Ve.ofTo_len f k
   have hsz:=hbw.size
   have HB:=Hd hB
   clear hB
   by_cases hp:0<f k
   ·have hd:decide (0<f k)=true:=decide_eq_true hp
    have hst:Ve.ofTo f (k+1)=Ve.ofTo f k++[(f k,(k:Int))]:=by rw[Ve.ofTo,if_pos hp]
    have HST:=Hd hst
    clear hst
    go_wp2_with (at_builtin;refine wpList_append_lies _ rfl _ _ 22 rfl (w.heap.size+1) 46 i0 (.agg #[.int .i64 0,.int .i64 0]) 2 16 Tryz.underlying22 hi hz0 hz1 hz2 rfl (by decide) _ (Ve.ofTo f k).length (stCells (Ve.ofTo f k)) rfl (hown.alloc _) (some ⟨wr.heap.size,0,none⟩) 1 1 (fun h=>by cases h) (stCells [(f k,(k:Int))]) rfl rfl ?c1 (stCells_one _) ?c3 ?c4 ?c5 ?_)
    case c1=>
     intro _
     refine⟨wr.heap.size,0,rfl,fun j u hu =>?_⟩
     rw[Nat.zero_add]
     exact(Blk.new wr 46 #[.int .i64 (f k),.int .i64 (k:Int)]).cell (by simpa[stCells] using hu)
    case c3=>unfold maxLen;omega
    case c4=>omega
    case c5=>have:=HB.out.lt;simp;omega
    intro v' w1 hown1 hg1 _
    have hB1:Blk w1 w.heap.size 185 (Ve.arr f):=(hg1.block w.heap.size (by have:=HB.out.lt;simp;omega) (fun e=>by have:=own_ge hown _ e.symm;omega)).trans (HB.out.alloc _)
    have hb1:Below w.heap.size w w1:=(below_new hbw _).grown hg1 (by simp;omega) (fun k' hk'=>by have:=own_ge hown _ hk';omega)
    rw[←stCells_append,show(Ve.ofTo f k).length+1=(Ve.ofTo f k++[(f k,(k:Int))]).length from by simp,←HST.out]at hown1
    have HO:=Hd hown1
    have HB1:=Hd hB1
    clear hown1 hB1 hown hg1
    go_wp2_with fail
    go_roundw
    case rel=>exact⟨k+1,by omega,by go_num,HO.out,HB1.out,hb1⟩
    case measure=>simp[intOf];omega
   ·have hd:decide (0<f k)=false:=decide_eq_false hp
    have hst:Ve.ofTo f (k+1)=Ve.ofTo f k:=by rw[Ve.ofTo,if_neg hp,List.append_nil]
    have HST:=Hd hst
    clear hst
    have HO:=Hd hown
    clear hown
    go_wp2_with fail
    go_roundw
    case rel=>exact⟨k+1,by omega,by go_num,by rw[HST.out];exact HO.out,HB.out,hbw⟩
    case measure=>simp[intOf];omega
  ·have hk64:k=64:=by omega
   subst hk64
   have HO:=Hd hown
   clear hown
   go_wp2
   go_ret
   exact⟨_,rfl,own_base HO.out (by omega),hbw⟩
set_option maxRecDepth 100000 in
set_option maxHeartbeats 1600000 in
theorem rcovers_any(A B:Option Addr)(c1 c2:Nat)(l r:List (Int × Int))(w:World)(hl:l.length≤9223372036854775807)(hr:r.length≤9223372036854775807)(h1:Stamps w A l)(h2:Stamps w B r) :
  Calls Tryz.prog 118 #[.slice A l.length c1,.slice B r.length c2] w fun e w'=>e = .returned (.bool (Ve.cov (Ve.cnt l) (Ve.cnt r)))∧Below w.heap.size w w':=by
 have H1:=Hd h1
 have H2:=Hd h2
 clear h1 h2
 have n1:=fun w h=>counts_any A c1 l w hl h
 have n2:=fun w h=>counts_any B c2 r w hr h
 obtain⟨f,hf⟩:∃f,Ve.cnt l=f:=⟨_,rfl⟩
 obtain⟨g,hg⟩:∃g,Ve.cnt r=g:=⟨_,rfl⟩
 have hfg:Ve.cov (Ve.cnt l) (Ve.cnt r)=Ve.cov f g:=by rw[hf,hg]
 rw[hf]at n1
 rw[hg]at n2
 have HFG:=Hd hfg
 have N1:=Hd n1
 have N2:=Hd n2
 clear hf hg hfg n1 n2
 go_enter Tryz.func118,Tryz.ntmps118
 go_wp2_with fail
 refine(N1.out _ H1.out).mono ?_
 rintro e w1 ⟨rfl,hb1⟩
 go_wp2_with fail
 refine(N2.out _ (H2.out.later hb1)).mono ?_
 rintro e w2 ⟨rfl,hb2⟩
 have hbx:=below_on (below_on (Below.refl _ _) hb1) hb2
 clear H1 H2 hl hr hb1 hb2 N1 N2
 go_wp2_with (first|(refine wpList_store_row rfl 185 _ _ rfl w2.heap.size (Ve.arr f) rfl rfl 185 (Ve.arr fun _=>0) ?s1 (by rw[Ve.arr_size];exact info64) (by rw[Ve.arr_size,Ve.arr_size]) (one_arr _) ?_)|(refine wpList_store_row rfl 185 _ _ rfl (w2.heap.size+1) (Ve.arr g) rfl rfl 185 (Ve.arr fun _=>0) ?s2 (by rw[Ve.arr_size];exact info64) (by rw[Ve.arr_size,Ve.arr_size]) (one_arr _) ?_))
 case s1=>
  rw[←Ve.arr_zero]
  exact(Blk.new w2 _ _).alloc _
 case s2=>
  rw[←Ve.arr_zero]
  have hb:=Blk.new (w2.alloc (.cells (Ve.arr fun _=>0) 185)) 185 (Ve.arr fun _=>0)
  rw[show(w2.alloc (.cells (Ve.arr fun _=>0) 185)).heap.size=w2.heap.size+1 from by simp]at hb
  exact hb.rowFar (by omega) _
 rw[←Ve.arr_zero]
 have hb:=Blk.new (w2.alloc (.cells (Ve.arr fun _=>0) 185)) 185 (Ve.arr fun _=>0)
 rw[show(w2.alloc (.cells (Ve.arr fun _=>0) 185)).heap.size=w2.heap.size+1 from by simp]at hb
 have B5:=(((Blk.new w2 185 (Ve.arr fun _=>0)).alloc (.cells (Ve.arr fun _=>0) 185)).row (Ve.arr f)).rowFar (g':=w2.heap.size+1) (by omega) (Ve.arr g)
 have B6:=(hb.rowFar (g':=w2.heap.size) (by omega) (Ve.arr f)).row (Ve.arr g)
 have hz:=hbx.size
 have b6:=below_setRow (below_setRow (below_new (below_new hbx (.cells (Ve.arr fun _=>0) 185)) (.cells (Ve.arr fun _=>0) 185)) (g:=w2.heap.size) hz (Ve.arr f)) (g:=w2.heap.size+1) (by omega) (Ve.arr g)
 clear hb
 go_loopw [7] (fun s7 wr=>∃k:Nat,k≤64∧s7 = .int .i64 (k:Int)∧Ve.covTo f g k∧Blk wr w2.heap.size 185 (Ve.arr f)∧Blk wr (w2.heap.size+1) 185 (Ve.arr g)∧Below w.heap.size w wr) (fun s7 _=>64-(intOf s7).toNat)
 case atStart=>exact⟨0,by omega,rfl,fun n hn=>by omega,B5,B6,b6⟩
 case round=>
  obtain⟨k,hk,rfl,hcv,hB5,hB6,hbw⟩:=hrel
  have HCV:=Hd hcv
  clear B5 B6 b6 hcv
  by_cases hlt:k<64
  ·have x0:=hB5.arr_cell k hlt
   have y0:=hB6.arr_cell k hlt
   have HB5:=Hd hB5
   have HB6:=Hd hB6
   clear hB5 hB6
   have hi0:(0:Int)≤(k:Int):=by omega
   have hi1:(k:Int)<64:=by omega
   by_cases hgt:f k<g k
   ·have hd:decide (f k<g k)=true:=decide_eq_true hgt
    have hno:=Ve.cov_no k hlt hgt
    have HNO:=Hd hno
    clear hno
    go_wp2_with fail
    go_quiet (fail)
    go_wp2
    go_ret
    exact⟨by rw[HFG.out,HNO.out];rfl,below_drewN hbw _⟩
   ·have hd:decide (f k<g k)=false:=decide_eq_false hgt
    have hd2:g k≤f k:=by omega
    go_wp2_with fail
    go_quiet (fail)
    go_wp2_with fail
    go_roundw
    case rel=>
     refine⟨k+1,by omega,by go_num,?_,HB5.out.drewN _,HB6.out.drewN _,below_drewN hbw _⟩
     intro n hn
     by_cases e:n=k
     ·subst e;exact hd2
     ·exact HCV.out n (by omega)
    case measure=>simp[intOf];omega
  ·have hk64:k=64:=by omega
   subst hk64
   have hyes:=(Ve.cov_iff f g).2 HCV.out
   have HY:=Hd hyes
   clear hyes hB5 hB6
   go_wp2
   go_ret
   exact⟨by rw[HFG.out,HY.out];rfl,hbw⟩
set_option maxHeartbeats 800000 in
theorem rcompare2_any(A B:Option Addr)(c1 c2:Nat)(l r:List (Int × Int))(w:World)(hl:l.length≤9223372036854775807)(hr:r.length≤9223372036854775807)(h1:Stamps w A l)(h2:Stamps w B r) :
  Calls Tryz.prog 57 #[.slice A l.length c1,.slice B r.length c2] w fun e w'=>e = .returned (.int .i64 (Ve.stand (Ve.cnt l) (Ve.cnt r)))∧Below w.heap.size w w':=by
 have H1:=Hd h1
 have H2:=Hd h2
 clear h1 h2
 cases hx:Ve.cov (Ve.cnt l) (Ve.cnt r)<;>cases hy:Ve.cov (Ve.cnt r) (Ve.cnt l)
 all_goals
  have hs:=Ve.stand_eq (Ve.cnt l) (Ve.cnt r)
  rw[hx,hy]at hs
  simp only[Bool.false_eq_true,if_true,if_false]at hs
  have HS:=Hd hs
  have HX:=Hd hx
  have HY:=Hd hy
  clear hs hx hy
  go_enter Tryz.func57,Tryz.ntmps57
  go_wp2_with fail
  refine(rcovers_any _ _ _ _ _ _ _ hl hr H1.out H2.out).mono ?_
  rintro e w1 ⟨rfl,hb1⟩
  rw[HX.out]
  go_wp2_with fail
  refine(rcovers_any _ _ _ _ _ _ _ hr hl (H2.out.later hb1) (H1.out.later hb1)).mono ?_
  rintro e w2 ⟨rfl,hb2⟩
  rw[HY.out]
  go_wp2
  go_ret
  exact⟨by rw[HS.out];rfl,below_on hb1 hb2⟩
theorem index_arr(f:Nat→Int)(k:Nat)(hk:k<64)(w:World):(Instr.index 185 (.agg (Ve.arr f)) (.int .i64 (k:Int))).run Tryz.prog w = .ok (.int .i64 (f k)) w:=by
 have h1:=Ve.arr_get f k hk
 simp[Instr.index,asIntOf,run_underlying Tryz.underlying185,part,Tryz.isAgg3,Tryz.sizeOf3,h1]
 intro h
 exact absurd h (by omega)
set_option maxHeartbeats 800000 in
theorem rcount_any(A:Option Addr)(c1:Nat)(l:List (Int × Int))(n:Int)(w:World)(hl:l.length≤9223372036854775807)(h1:Stamps w A l) :
  Calls Tryz.prog 103 #[.slice A l.length c1,.int .i64 n] w fun e w'=>e = .returned (.int .i64 (countOf l n))∧Below w.heap.size w w':=by
 have H1:=Hd h1
 clear h1
 by_cases h0:n<0
 ·have hc:countOf l n=0:=by unfold countOf;rw[if_neg (by omega)]
  have HC:=Hd hc
  clear hc
  have hd:decide (n<0)=true:=decide_eq_true h0
  go_enter Tryz.func103,Tryz.ntmps103
  go_wp2
  go_ret
  exact⟨by rw[HC.out];rfl,Below.refl _ _⟩
 ·have hd:decide (n<0)=false:=decide_eq_false h0
  by_cases h2:63<n
  ·have hc:countOf l n=0:=by unfold countOf;rw[if_neg (by omega)]
   have HC:=Hd hc
   clear hc
   have hd2:decide (63<n)=true:=decide_eq_true h2
   go_enter Tryz.func103,Tryz.ntmps103
   go_wp2
   go_ret
   exact⟨by rw[HC.out];rfl,Below.refl _ _⟩
  ·obtain⟨k,rfl⟩:∃k:Nat,n=(k:Int):=⟨n.toNat,by omega⟩
   have hk:k<64:=by omega
   have hc:countOf l (k:Int)=Ve.cnt l k:=by unfold countOf;rw[if_pos (by omega)];rfl
   have HC:=Hd hc
   have hd2:decide (63<(k:Int))=false:=decide_eq_false h2
   have n1:=fun w h=>counts_any A c1 l w hl h
   have N1:=Hd n1
   clear hc n1
   have hix:=fun w=>index_arr (Ve.cnt l) k hk w
   go_enter Tryz.func103,Tryz.ntmps103
   go_wp2_with fail
   refine(N1.out _ H1.out).mono ?_
   rintro e w2 ⟨rfl,hb2⟩
   go_wp2
   go_ret
   exact⟨by rw[HC.out];rfl,hb2⟩
set_option maxHeartbeats 1600000 in
theorem rhas_any(A:Option Addr)(c1:Nat)(l:List (Int × Int))(c n:Int)(w:World)(hl:l.length≤9223372036854775807)(h1:Stamps w A l) :
  Calls Tryz.prog 35 #[.slice A l.length c1,.agg #[.int .i64 c,.int .i64 n]] w fun e w'=>e = .returned (.bool (hasOf l c n))∧Below w.heap.size w w':=by
 have hb0:=below_new (Below.refl w.heap.size w) (.cells #[.int .i64 c,.int .i64 n] 46)
 have hB:=Blk.new w 46 #[.int .i64 c,.int .i64 n]
 have h1':=h1.later hb0
 clear h1
 obtain⟨W,hW⟩:∃W,w.alloc (.cells #[.int .i64 c,.int .i64 n] 46)=W:=⟨_,rfl⟩
 rw[hW]at hb0 hB h1'
 have HW:=Hd hW
 clear hW
 have k0:∀d os,(Sort.grow (redrawn W d) os).cell? ⟨w.heap.size,0,none⟩=some (.int .i64 c):=cell_regrown (hB.cell rfl)
 have k1:∀d os,(Sort.grow (redrawn W d) os).cell? ⟨w.heap.size,1,none⟩=some (.int .i64 n):=cell_regrown (hB.cell rfl)
 clear hB
 cases hr:St.rgt c n
 all_goals
  have hh:hasOf l c n=(St.rgt c n&&decide (c≤countOf l n)):=rfl
  rw[hr]at hh
  have HH:=Hd hh
  have cR:∀d os,Calls Tryz.prog 102 #[.agg #[.int .i64 c,.int .i64 n]] (Sort.grow (redrawn W d) os) fun e w''=>e = .returned (.bool (St.rgt c n))∧∃p:Regrown,w''=Sort.grow (redrawn W p.d) p.os:=fun d os=>Calls.regrown_of (rright_any c n _)
  have cC:∀d os,Calls Tryz.prog 103 #[.slice A l.length c1,.int .i64 n] (Sort.grow (redrawn W d) os) fun e w''=>e = .returned (.int .i64 (countOf l n))∧∃p:Regrown,w''=Sort.grow (redrawn W p.d) p.os:=fun d os=>Calls.regrown_of (rcount_any A c1 l n _ hl (h1'.later (below_regrown W d os)))
  rw[hr]at cR
  have CR:=Hd cR
  have CC:=Hd cC
  clear hh hr cR cC
  go_enter Tryz.func35,Tryz.ntmps35
  go_wp2_with fail
  rw[HW.out]
  refine wp_region_quiet_below (by kernel_rfl) (by kernel_rfl) ?_
  repeat (first|go_big_quiet_step (first|exact CR.out _ _|exact CC.out _ _)|quiet_step (first|exact CR.out _ _|exact CC.out _ _))
  refine wpQuiet_nil ?_
  intro _ hw'
  obtain⟨⟨dq,osq⟩,hw''⟩:=hw'
  subst hw''
  go_wp2
  go_ret
  exact⟨by rw[HH.out];rfl,below_on hb0 (below_regrown W dq osq)⟩
set_option maxHeartbeats 1600000 in
theorem rsame_any(A B:Option Addr)(c1 c2:Nat)(l r:List (Int × Int))(w:World)(hl:l.length≤9223372036854775807)(h1:Stamps w A l)(h2:Stamps w B r) :
  Calls Tryz.prog 18 #[.slice A l.length c1,.slice B r.length c2] w fun e w'=>e = .returned (.bool (decide (l=r)))∧Below w.heap.size w w':=by
 have H1:=Hd h1
 have H2:=Hd h2
 clear h1 h2
 by_cases hlen:l.length=r.length
 ·have hd0:((l.length:Int) != (r.length:Int))=false:=by rw[bne_eq_false_iff_eq];omega
  have HLEN:=Hd hlen
  have hr1:r.length≤l.length:=by omega
  have hr2:l.length≤r.length:=by omega
  clear hlen
  go_enter Tryz.func18,Tryz.ntmps18
  go_wp2_with fail
  go_loopw [5] (fun s5 wr=>∃k:Nat,k≤l.length∧s5 = .int .i64 (k:Int)∧(∀j,j<k→l.getD j (0,0)=r.getD j (0,0))∧Below w.heap.size w wr) (fun s5 _=>l.length-(intOf s5).toNat)
  case atStart=>exact⟨0,Nat.zero_le _,rfl,fun j hj=>by omega,Below.refl _ _⟩
  case round=>
   obtain⟨k,hk,rfl,heq,hbw⟩:=hrel
   have HEQ:=Hd heq
   clear heq
   by_cases hlt:k<l.length
   ·have hne:l≠[]:=fun e=>by subst e;simp at hlt
    have hne2:r≠[]:=fun e=>by have:=HLEN.out;subst e;simp at this;exact hne this
    obtain⟨b,off,hA,hcA⟩:=(H1.out.later hbw) hne
    obtain⟨b',off',hB,hcB⟩:=(H2.out.later hbw) hne2
    obtain⟨e0,e1⟩:=hcA k hlt
    obtain⟨f0,f1⟩:=hcB k (by omega)
    have H1':=H1
    have H2':=H2
    subst hA hB
    clear hcA hcB
    have hi0:(0:Int)≤(k:Int):=by omega
    have hi1:(k:Int)<(l.length:Int):=by omega
    have hi2:(k:Int)<(r.length:Int):=by omega
    obtain⟨x,hx⟩:∃x,l.getD k (0,0)=x:=⟨_,rfl⟩
    obtain⟨y,hy⟩:∃y,r.getD k (0,0)=y:=⟨_,rfl⟩
    rw[hx]at e0 e1
    rw[hy]at f0 f1
    have HX:=Hd hx
    have HY:=Hd hy
    clear hx hy
    by_cases hxy:x=y
    ·subst hxy
     go_wp2_with fail
     go_quiet (fail)
     go_wp2_with fail
     go_roundw
     case rel=>
      refine⟨k+1,by omega,by go_num,?_,below_drewN hbw _⟩
      intro j hj
      by_cases e:j=k
      ·subst e;rw[HX.out,HY.out]
      ·exact HEQ.out j (by omega)
     case measure=>simp[intOf];omega
    ·have hno:decide (l=r)=false:=decide_eq_false (fun e=>hxy (by rw[←HX.out,←HY.out,e]))
     have HNO:=Hd hno
     clear hno
     obtain⟨x1,x2⟩:=x
     obtain⟨y1,y2⟩:=y
     by_cases h1:x1=y1
     ·subst h1
      have h2:(x2 == y2)=false:=beq_eq_false_iff_ne.2 (fun e=>hxy (by rw[e]))
      clear hxy
      go_wp2_with fail
      go_quiet (fail)
      go_wp2
      go_ret
      exact⟨by rw[HNO.out];rfl,below_drewN hbw _⟩
     ·have h1b:(x1 == y1)=false:=beq_eq_false_iff_ne.2 h1
      clear hxy h1
      go_wp2_with fail
      go_quiet (fail)
      go_wp2
      go_ret
      exact⟨by rw[HNO.out];rfl,below_drewN hbw _⟩
   ·have hyes:decide (l=r)=true:=decide_eq_true (take_ext HLEN.out (fun j hj=>HEQ.out j (by omega)))
    have HY:=Hd hyes
    clear hyes
    go_wp2
    go_ret
    exact⟨by rw[HY.out];rfl,hbw⟩
 ·have hd0:((l.length:Int) != (r.length:Int))=true:=by rw[bne_iff_ne];omega
  have hno:decide (l=r)=false:=decide_eq_false (fun e=>hlen (by rw[e]))
  have HNO:=Hd hno
  clear hno
  go_enter Tryz.func18,Tryz.ntmps18
  go_wp2
  go_ret
  exact⟨by rw[HNO.out];rfl,Below.refl _ _⟩
set_option maxHeartbeats 800000 in
theorem rcopy_any(A:Option Addr)(c1:Nat)(l:List (Int × Int))(w:World)(hl:l.length*16≤140737488355328)(hA:A=none→l.length=0∧c1=0)(h1:Lies w A (stCells l)) :
  Calls Tryz.prog 46 #[.slice A l.length c1] w (Gives l w):=by
 obtain⟨i0,hi,hz0,hz1,hz2⟩:=info_parts infoSt
 have hown:(w.alloc (.cells #[] 46)).ownsRow w.heap.size 46 2 (.slice (some ⟨w.heap.size,0,none⟩) 0 0) 0 []:=
  ⟨rfl,.inr ⟨w.heap.size,0,#[],rfl,Nat.le_refl _,heap_alloc_new w _,Nat.le_refl _,Nat.zero_le _,rfl,rfl⟩⟩
 have HA:=Hd hA
 clear hA
 go_enter Tryz.func46,Tryz.ntmps46
 go_wp2_with (at_builtin;refine wpList_append_lies _ rfl _ _ 22 rfl w.heap.size 46 i0 (.agg #[.int .i64 0,.int .i64 0]) 2 16 Tryz.underlying22 hi hz0 hz1 hz2 rfl (by decide) _ 0 [] rfl hown A l.length c1 HA.out (stCells l) rfl (stCells_length l) (h1.alloc _) (stCells_one l) ?c3 ?c4 ?c5 ?_)
 case c3=>unfold maxLen;omega
 case c4=>omega
 case c5=>simp
 intro v' w1 hown1 hg1 _
 have hbw:Below w.heap.size w w1:=(below_new (Below.refl _ _) (.cells #[] 46)).grown hg1 (by simp) (by intro k hk;simp[Value.ownBlock]at hk;omega)
 try simp only[Nat.zero_add,List.nil_append]at hown1
 have HO:=Hd hown1
 clear hown hown1 hg1
 go_wp2
 go_ret
 exact⟨_,rfl,HO.out,hbw⟩
set_option maxHeartbeats 1600000 in
theorem rformed_any(A:Option Addr)(c1:Nat)(l:List (Int × Int))(w:World)(hl:l.length≤9223372036854775807)(h1:Stamps w A l) :
  Calls Tryz.prog 53 #[.slice A l.length c1] w fun e w'=>e = .returned (.bool (Ve.fmd l))∧Below w.heap.size w w':=by
 have H1:=Hd h1
 clear h1
 go_enter Tryz.func53,Tryz.ntmps53
 go_wp2_with fail
 go_loopw [3] (fun s3 wr=>∃k:Nat,k≤l.length∧s3 = .int .i64 (k:Int)∧Ve.fmTo l k∧Below w.heap.size w wr) (fun s3 _=>l.length-(intOf s3).toNat)
 case atStart=>exact⟨0,Nat.zero_le _,rfl,fun j hj=>by omega,Below.refl _ _⟩
 case round=>
  obtain⟨k,hk,rfl,heq,hbw⟩:=hrel
  have HEQ:=Hd heq
  clear heq
  by_cases hlt:k<l.length
  ·have hne:l≠[]:=fun e=>by subst e;simp at hlt
   obtain⟨b,off,hA,hcA⟩:=(H1.out.later hbw) hne
   subst hA
   obtain⟨e0,e1⟩:=hcA k hlt
   have hi0:(0:Int)≤(k:Int):=by omega
   have hi1:(k:Int)<(l.length:Int):=by omega
   obtain⟨x,hx⟩:∃x,l.getD k (0,0)=x:=⟨_,rfl⟩
   rw[hx]at e0 e1
   have k0:∀d os,(Sort.grow (redrawn wr d) os).cell? ⟨b,off+k*2,none⟩=some (.int .i64 x.1):=cell_regrown e0
   have k1:∀d os,(Sort.grow (redrawn wr d) os).cell? ⟨b,off+k*2+1,none⟩=some (.int .i64 x.2):=cell_regrown e1
   have cR:∀d os,Calls Tryz.prog 102 #[.agg #[.int .i64 x.1,.int .i64 x.2]] (Sort.grow (redrawn wr d) os) fun e w''=>e = .returned (.bool (St.rgt x.1 x.2))∧∃p:Regrown,w''=Sort.grow (redrawn wr p.d) p.os:=fun d os=>Calls.regrown_of (rright_any x.1 x.2 _)
   clear e0 e1
   cases hr:St.rgt x.1 x.2
   ·rw[hr]at cR
    have hno:Ve.fmd l=false:=Ve.fmd_no k hlt (fun h=>by rw[hx,hr]at h;exact absurd h.1 (by simp))
    have HNO:=Hd hno
    have CR:=Hd cR
    have HX:=Hd hx
    clear hno cR hx hcA hr
    go_wp2_with fail
    refine wp_region_quiet_below (by kernel_rfl) (by kernel_rfl) ?_
    repeat (first|go_big_quiet_step (exact CR.out _ _)|quiet_step (exact CR.out _ _))
    refine wpQuiet_nil ?_
    intro _ hw'
    obtain⟨⟨dq,osq⟩,hw''⟩:=hw'
    subst hw''
    go_wp2
    go_ret
    exact⟨by rw[HNO.out];rfl,below_on hbw (below_regrown wr dq osq)⟩
   ·rw[hr]at cR
    cases k with
    |zero=>
     simp only[Nat.zero_mul,Nat.add_zero]at k0 k1
     have HX:=Hd hx
     have HR:=Hd hr
     have CR:=Hd cR
     clear cR hx hcA hr
     go_wp2_with fail
     refine wp_region_quiet_below (by kernel_rfl) (by kernel_rfl) ?_
     repeat (first|go_big_quiet_step (exact CR.out _ _)|quiet_step (exact CR.out _ _))
     refine wpQuiet_nil ?_
     intro _ hw'
     obtain⟨⟨dq,osq⟩,hw''⟩:=hw'
     subst hw''
     go_wp2_with fail
     go_roundw
     case rel=>
      refine⟨1,by omega,by go_num,?_,below_on hbw (below_regrown wr dq osq)⟩
      intro j hj
      have hj0:j=0:=by omega
      subst hj0
      exact⟨by rw[HX.out];exact HR.out,fun h=>absurd h (by omega)⟩
     case measure=>simp[intOf];omega
    |succ m=>
     obtain⟨_,f1⟩:=hcA m (by omega)
     obtain⟨y,hy⟩:∃y,l.getD m (0,0)=y:=⟨_,rfl⟩
     rw[hy]at f1
     have k2:∀d os,(Sort.grow (redrawn wr d) os).cell? ⟨b,off+m*2+1,none⟩=some (.int .i64 y.2):=cell_regrown f1
     clear f1
     have hm1:((m+1:Nat):Int)-1=(m:Int):=by omega
     have hj0:(0:Int)≤(m:Int):=by omega
     have hj1:(m:Int)<(l.length:Int):=by omega
     have hg:decide (((m+1:Nat):Int)>0)=true:=decide_eq_true (by omega)
     by_cases hge:y.2<x.2
     ·have hd:decide (y.2<x.2)=true:=decide_eq_true hge
      have HX:=Hd hx
      have HY:=Hd hy
      have HR:=Hd hr
      have CR:=Hd cR
      clear cR hx hcA hr hy
      go_wp2_with fail
      refine wp_region_quiet_below (by kernel_rfl) (by kernel_rfl) ?_
      repeat (first|go_big_quiet_step (exact CR.out _ _)|quiet_step (exact CR.out _ _))
      refine wpQuiet_nil ?_
      intro _ hw'
      obtain⟨⟨dq,osq⟩,hw''⟩:=hw'
      subst hw''
      go_wp2_with fail
      go_roundw
      case rel=>
       refine⟨m+1+1,by omega,by go_num,?_,below_on hbw (below_regrown wr dq osq)⟩
       intro j hj
       by_cases e:j=m+1
       ·subst e
        exact⟨by rw[HX.out];exact HR.out,fun _=>by rw[show m+1-1=m from rfl,HX.out,HY.out];exact hge⟩
       ·exact HEQ.out j (by omega)
      case measure=>simp[intOf];omega
     ·have hd:decide (y.2<x.2)=false:=decide_eq_false hge
      have hno:Ve.fmd l=false:=Ve.fmd_no (m+1) hlt (fun h=>hge (by have:=h.2 (by omega);rw[show m+1-1=m from rfl,hx,hy]at this;exact this))
      have HNO:=Hd hno
      have HX:=Hd hx
      have HY:=Hd hy
      have CR:=Hd cR
      clear hno cR hx hcA hr hy
      go_wp2_with fail
      refine wp_region_quiet_below (by kernel_rfl) (by kernel_rfl) ?_
      repeat (first|go_big_quiet_step (exact CR.out _ _)|quiet_step (exact CR.out _ _))
      refine wpQuiet_nil ?_
      intro _ hw'
      obtain⟨⟨dq,osq⟩,hw''⟩:=hw'
      subst hw''
      go_wp2
      go_ret
      exact⟨by rw[HNO.out];rfl,below_on hbw (below_regrown wr dq osq)⟩
  ·have hkl:k=l.length:=by omega
   subst hkl
   have hyes:Ve.fmd l=true:=(Ve.fmd_iff l).2 HEQ.out
   have HY:=Hd hyes
   clear hyes
   go_wp2
   go_ret
   exact⟨by rw[HY.out];rfl,hbw⟩
set_option maxRecDepth 100000 in
set_option maxHeartbeats 1600000 in
theorem rjoin_any(A:Option Addr)(c1:Nat)(ls:List (List (Int × Int)))(w:World)(hl:ls.length≤9223372036854775807)(h1:Rows w A ls) :
  Calls Tryz.prog 108 #[.slice A ls.length c1] w (Gives (Ve.joinL ls) w):=by
 have hls:=h1.len
 have H1:=Hd h1
 clear h1
 go_enter Tryz.func108,Tryz.ntmps108
 go_wp2_with fail
 rw[←Ve.arr_zero]
 go_loopw [4] (fun s4 wr=>∃k:Nat,k≤ls.length∧s4 = .int .i64 (k:Int)∧Blk wr w.heap.size 185 (Ve.arr (Ve.jnTo ls k))∧Below w.heap.size w wr) (fun s4 _=>ls.length-(intOf s4).toNat)
 case atStart=>exact⟨0,Nat.zero_le _,rfl,Blk.new _ _ _,below_new (Below.refl _ _) _⟩
 case round=>
  obtain⟨k,hk,rfl,hB,hbw⟩:=hrel
  by_cases hlt:k<ls.length
  ·have hne:ls≠[]:=fun e=>by subst e;simp at hlt
   obtain⟨b,off,hA,hcA⟩:=(H1.out.later hbw) hne
   obtain⟨A',c',e0,hL⟩:=hcA k hlt
   have hlen:=hls k hlt
   have hS:=hL.stamps
   have H1':=H1
   subst hA
   have hi0:(0:Int)≤(k:Int):=by omega
   have hi1:(k:Int)<(ls.length:Int):=by omega
   have hjs:∀n,Ve.jnTo ls (k+1) n=Ve.mxTo (Ve.jnTo ls k) (Ve.cnt (ls.getD k [])) 64 n∨64≤n:=fun n=>by
    by_cases hn:n<64
    ·left
     unfold Ve.mxTo
     rw[if_pos hn]
     rfl
    ·right;omega
   have n1:=fun w h=>counts_any A' c' (ls.getD k []) w hlen h
   obtain⟨f,hf⟩:∃f,Ve.jnTo ls k=f:=⟨_,rfl⟩
   obtain⟨g,hg⟩:∃g,Ve.cnt (ls.getD k [])=g:=⟨_,rfl⟩
   obtain⟨m,hm⟩:∃m,(ls.getD k []).length=m:=⟨_,rfl⟩
   rw[hg]at n1
   rw[hf,hg]at hjs
   rw[hf]at hB
   rw[hm]at e0 n1
   have HJS:=Hd hjs
   have N1:=Hd n1
   have HS:=Hd hS
   have HB:=Hd hB
   clear hjs n1 hS hB hcA hf hg hm hL
   go_wp2_with fail
   refine(N1.out _ HS.out).mono ?_
   rintro e w2 ⟨rfl,hb2⟩
   have hbx:=below_on hbw hb2
   have B1:=HB.out.later hb2
   have hz:=hbx.size
   have hlt1:=B1.lt
   clear N1 HS HB hb2
   go_wp2_with (refine wpList_store_row rfl 185 _ _ rfl w2.heap.size (Ve.arr g) rfl rfl 185 (Ve.arr fun _=>0) ?s1 (by rw[Ve.arr_size];exact info64) (by rw[Ve.arr_size,Ve.arr_size]) (one_arr _) ?_)
   case s1=>
    rw[←Ve.arr_zero]
    exact Blk.new w2 _ _
   rw[←Ve.arr_zero]
   have B5:=(Blk.new w2 185 (Ve.arr fun _=>0)).row (Ve.arr g)
   have B4:=(B1.alloc (.cells (Ve.arr fun _=>0) 185)).rowFar (g':=w2.heap.size) (by omega) (Ve.arr g)
   have b6:=below_setRow (below_new hbx (.cells (Ve.arr fun _=>0) 185)) (g:=w2.heap.size) hz (Ve.arr g)
   go_loopw [6] (fun s6 wq=>∃n:Nat,n≤64∧s6 = .int .i64 (n:Int)∧Blk wq w.heap.size 185 (Ve.arr (Ve.mxTo f g n))∧Blk wq w2.heap.size 185 (Ve.arr g)∧Below w.heap.size w wq) (fun s6 _=>64-(intOf s6).toNat)
   case atStart=>exact⟨0,by omega,rfl,B4.same (fun i _=>by unfold Ve.mxTo;rw[if_neg (by omega)]),B5,b6⟩
   case round=>
    obtain⟨n,hn,rfl,hC,hD,hbq⟩:=hrel
    clear B5 B4 b6 B1
    by_cases hlt2:n<64
    ·have x0:=hC.arr_cell n hlt2
     have x1:=hC.free n
     have y0:=hD.arr_cell n hlt2
     rw[show Ve.mxTo f g n n=f n from by unfold Ve.mxTo;rw[if_neg (by omega)]]at x0
     have hj0:(0:Int)≤(n:Int):=by omega
     have hj1:(n:Int)<64:=by omega
     by_cases hgt:f n<g n
     ·have B7:=(hC.arr_put n hlt2 (g n)).same (f':=Ve.mxTo f g (n+1)) (fun i _=>Ve.mx_step f g n _ (if_pos hgt).symm i)
      have B8:=hD.far (p:=⟨w.heap.size,n,none⟩) (by show w2.heap.size≠w.heap.size;omega) (.int .i64 (g n))
      have HB7:=Hd B7
      have HB8:=Hd B8
      have hbz:=hbq.setCell (p:=⟨w.heap.size,n,none⟩) (Nat.le_refl _) (.int .i64 (g n))
      clear hC hD B7 B8
      go_wp2_with fail
      go_region
      go_wp2_with fail
      go_roundw
      case rel=>exact⟨n+1,by omega,by go_num,HB7.out.drew,HB8.out.drew,hbz.drew⟩
      case measure=>simp[intOf];omega
     ·have hle:g n≤f n:=by omega
      have B7:=(hC.arr_put n hlt2 (f n)).same (f':=Ve.mxTo f g (n+1)) (fun i _=>Ve.mx_step f g n _ (if_neg hgt).symm i)
      have B8:=hD.far (p:=⟨w.heap.size,n,none⟩) (by show w2.heap.size≠w.heap.size;omega) (.int .i64 (f n))
      have HB7:=Hd B7
      have HB8:=Hd B8
      have hbz:=hbq.setCell (p:=⟨w.heap.size,n,none⟩) (Nat.le_refl _) (.int .i64 (f n))
      clear hC hD B7 B8
      go_wp2_with fail
      go_region
      go_wp2_with fail
      go_roundw
      case rel=>exact⟨n+1,by omega,by go_num,HB7.out.drew,HB8.out.drew,hbz.drew⟩
      case measure=>simp[intOf];omega
    ·have hn64:n=64:=by omega
     subst hn64
     have B9:=hC.same (f':=Ve.jnTo ls (k+1)) (fun i hi=>by
      rcases HJS.out i with h|h
      ·exact h.symm
      ·omega)
     have HB9:=Hd B9
     clear hC hD B9
     go_wp2_with fail
     go_roundw
     case rel=>exact⟨k+1,by omega,by go_num,HB9.out,hbq⟩
     case measure=>simp[intOf];omega
  ·have hkl:k=ls.length:=by omega
   subst hkl
   have HB:=Hd hB
   clear hB
   go_wp2_with (refine wpList_load_row rfl 185 _ rfl w.heap.size rfl 185 _ (0,0) _ HB.out Tryz.underlying185 rfl (by rw[Ve.arr_size];exact info64) ?_)
   refine(of_any _ _).mono ?_
   rintro e w3 ⟨v,rfl,ho,hb3⟩
   have HO:=Hd ho
   have hz:=hbw.size
   clear ho
   go_wp2
   go_ret
   exact⟨_,rfl,own_base HO.out hz,below_on hbw hb3⟩
set_option maxHeartbeats 1600000 in
theorem rtwo_any(A B:Option Addr)(c1 c2:Nat)(l r:List (Int × Int))(w:World)(h1:OneL w A c1 l)(h2:OneL w B c2 r) :
  Calls Tryz.prog 40 #[.slice A l.length c1,.slice B r.length c2] w (Gives (Ve.joinL [l,r]) w):=by
 have hb0:=below_new (Below.refl w.heap.size w) (.cells #[.slice A l.length c1,.slice B r.length c2] 22)
 have hB:=Blk.new w 22 #[.slice A l.length c1,.slice B r.length c2]
 have hR:Rows (w.alloc (.cells #[.slice A l.length c1,.slice B r.length c2] 22)) (some ⟨w.heap.size,0,none⟩) [l,r]:=fun _=>⟨w.heap.size,0,rfl,fun k hk=>by
  have hk2:k=0∨k=1:=by simp at hk;omega
  rcases hk2 with rfl|rfl
  ·exact⟨A,c1,hB.cell rfl,h1.later hb0⟩
  ·exact⟨B,c2,hB.cell rfl,h2.later hb0⟩⟩
 have hj:=rjoin_any (some ⟨w.heap.size,0,none⟩) 2 [l,r] (w.alloc (.cells #[.slice A l.length c1,.slice B r.length c2] 22)) (by simp) hR
 have HJ:=Hd hj
 clear hj hR hB h1 h2
 go_enter Tryz.func40,Tryz.ntmps40
 go_wp2_with fail
 refine HJ.out.mono ?_
 rintro e w1 ⟨v,rfl,ho,hb1⟩
 have HO:=Hd ho
 clear ho
 go_wp2
 go_ret
 exact⟨_,rfl,own_base HO.out (by simp),below_on hb0 hb1⟩
namespace Nt
theorem at_some{l:List Wr}{o:Int}{k:Nat}(hk:k<l.length)(h:obj l k=o)(hb:∀j,j<k→obj l j≠o):at_ l o=(l.getD k zeroW,true):=by
 have:l.find? (fun x=>decide (x.2.2.1=o))=some (l.getD k zeroW):=by
  rw[List.find?_eq_some_iff_getElem]
  have e:l.getD k zeroW=l[k]:=by rw[List.getD_eq_getElem?_getD,List.getElem?_eq_getElem hk];rfl
  refine⟨decide_eq_true h,k,hk,e.symm,fun j hj =>?_⟩
  have h2:=hb j hj
  unfold obj at h2
  rw[List.getD_eq_getElem?_getD,List.getElem?_eq_getElem (by omega)]at h2
  simpa using h2
 unfold at_
 rw[this]
theorem at_none{l:List Wr}{o:Int}(hb:∀j,j<l.length→obj l j≠o):at_ l o=(zeroW,false):=by
 have:l.find? (fun x=>decide (x.2.2.1=o))=none:=by
  rw[List.find?_eq_none]
  intro x hx
  obtain⟨j,hj,rfl⟩:=List.mem_iff_getElem.1 hx
  have h2:=hb j hj
  unfold obj at h2
  rw[List.getD_eq_getElem?_getD,List.getElem?_eq_getElem hj]at h2
  simpa using h2
 unfold at_
 rw[this]
end Nt
theorem infoW4:(Tryz.prog.info? 52).map (·.size)=some 4:=by kernel_rfl
set_option maxHeartbeats 1600000 in
theorem nat_any(A:Option Addr)(c:Nat)(l:List Wr)(o:Int)(w:World)(h:OneW w A c l) :
  Calls Tryz.prog 88 #[.slice A l.length c,.int .i64 o] w (Says (.tuple #[Nt.wrV (Nt.at_ l o).1,.bool (Nt.at_ l o).2]) w):=by
 have hl:=h.len
 have H1:=Hd h
 clear h
 go_enter Tryz.func88,Tryz.ntmps88
 go_wp2_with fail
 go_loopw [6] (fun s6 wr=>∃k:Nat,k≤l.length∧s6 = .int .i64 (k:Int)∧(∀j,j<k→Nt.obj l j≠o)∧Blk wr w.heap.size 52 (Nt.wrArr Nt.zeroW)∧Below w.heap.size w wr) (fun s6 _=>l.length-(intOf s6).toNat)
 case atStart=>exact⟨0,Nat.zero_le _,rfl,(fun j hj=>by omega),Blk.new _ _ _,below_new (Below.refl _ _) _⟩
 case round=>
  obtain⟨k,hk,rfl,hall,hB,hbw⟩:=hrel
  have HALL:=Hd hall
  clear hall
  have z0:=hB.cell (i:=0) rfl
  have z1:=hB.cell (i:=1) rfl
  have z2:=hB.cell (i:=2) rfl
  have z3:=hB.cell (i:=3) rfl
  have y0:=hB.free 0
  have y1:=hB.free 1
  have y2:=hB.free 2
  have y3:=hB.free 3
  have HB:=Hd hB
  clear hB
  by_cases hlt:k<l.length
  ·have hne:l≠[]:=fun e=>by subst e;simp at hlt
   obtain⟨b,off,hA,hcA⟩:=(H1.out.later hbw).at hne
   have H1':=H1
   subst hA
   obtain⟨e0,e1,e2,e3⟩:=hcA k hlt
   clear hcA
   have hi0:(0:Int)≤(k:Int):=by omega
   have hi1:(k:Int)<(l.length:Int):=by omega
   have hob:(l.getD k Nt.zeroW).2.2.1=Nt.obj l k:=rfl
   by_cases heq:Nt.obj l k=o
   ·have hd:(Nt.obj l k == o)=true:=beq_iff_eq.2 heq
    have hat:=Nt.at_some hlt heq HALL.out
    obtain⟨x,hx⟩:∃x,l.getD k Nt.zeroW=x:=⟨_,rfl⟩
    rw[hx]at e0 e1 e2 e3 hob hat
    rw[←hob]at hd
    have HAT:=Hd hat
    have hbf:b≠w.heap.size:=fun e=>by
     have hq:=World.cell?_of_block (w:=wr) (w':=wr) (a:=⟨b,off+k*4,none⟩) rfl
     have h0:=H1.out.2.2.2
     have hne2:Nt.wrCells l≠[]:=fun e2=>hne (Nt.wrCells_nil.1 e2)
     obtain⟨b',off',hA',hc'⟩:=h0 hne2
     injection hA' with hA'
     injection hA' with hA1 hA2
     obtain⟨q1,_⟩:=Nt.wrCells_get l k hlt
     have:=World.block_lt_of_cell? _ _ (hc' _ _ q1)
     simp at this
     omega
    clear hat hx hob heq
    go_wp2
    have hB4:Blk ((((wr.setCell ⟨w.heap.size,0,none⟩ (.int .i64 x.1)).setCell ⟨w.heap.size,1,none⟩ (.int .i64 x.2.1)).setCell ⟨w.heap.size,2,none⟩ (.int .i64 x.2.2.1)).setCell ⟨w.heap.size,3,none⟩ (.bool x.2.2.2)) w.heap.size 52 (Nt.wrArr x):=(((HB.out.put 0 _).put 1 _).put 2 _).put 3 _
    exact bodyPost_ret (v :=.tuple #[Nt.wrV x,.bool true]) (results_cell_tmp (p:=4) (t1:=5) (ty:=52) rfl _ _ w.heap.size 52 (Nt.wrArr x) _ rfl hB4 Tryz.underlying52 rfl infoW4) rfl ⟨by rw[HAT.out],(((hbw.setCell (p:=⟨w.heap.size,0,none⟩) (Nat.le_refl _) _).setCell (p:=⟨w.heap.size,1,none⟩) (Nat.le_refl _) _).setCell (p:=⟨w.heap.size,2,none⟩) (Nat.le_refl _) _).setCell (p:=⟨w.heap.size,3,none⟩) (Nat.le_refl _) _⟩
   ·have hd:(Nt.obj l k == o)=false:=beq_eq_false_iff_ne.2 heq
    have HT:=Hd (show ∀j,j<k+1→Nt.obj l j≠o from fun j hj=>by
     by_cases e:j=k
     ·subst e;exact heq
     ·exact HALL.out j (by omega))
    obtain⟨x,hx⟩:∃x,l.getD k Nt.zeroW=x:=⟨_,rfl⟩
    rw[hx]at e0 e1 e2 e3 hob
    rw[←hob]at hd
    clear hob heq hx
    go_wp2_with fail
    go_roundw
    case rel=>exact⟨k+1,by omega,by go_num,HT.out,HB.out,hbw⟩
    case measure=>simp[intOf];omega
  ·have hkl:k=l.length:=by omega
   have hat:=Nt.at_none (l:=l) (o:=o) (fun j hj=>HALL.out j (by omega))
   have HAT:=Hd hat
   clear hat
   subst hkl
   go_wp2
   have hB4:Blk ((((wr.setCell ⟨w.heap.size,0,none⟩ (.int .i64 0)).setCell ⟨w.heap.size,1,none⟩ (.int .i64 0)).setCell ⟨w.heap.size,2,none⟩ (.int .i64 0)).setCell ⟨w.heap.size,3,none⟩ (.bool false)) w.heap.size 52 (Nt.wrArr Nt.zeroW):=(((HB.out.put 0 _).put 1 _).put 2 _).put 3 _
   exact bodyPost_ret (v :=.tuple #[Nt.wrV Nt.zeroW,.bool false]) (results_cell_tmp (p:=4) (t1:=5) (ty:=52) rfl _ _ w.heap.size 52 (Nt.wrArr Nt.zeroW) _ rfl hB4 Tryz.underlying52 rfl infoW4) rfl ⟨by rw[HAT.out],(((hbw.setCell (p:=⟨w.heap.size,0,none⟩) (Nat.le_refl _) _).setCell (p:=⟨w.heap.size,1,none⟩) (Nat.le_refl _) _).setCell (p:=⟨w.heap.size,2,none⟩) (Nat.le_refl _) _).setCell (p:=⟨w.heap.size,3,none⟩) (Nat.le_refl _) _⟩
namespace Tr
theorem atI_none{zs:List Zn}{o:Int}(h:∀j,j<zs.length→holds (zs.getD j (0,0,[])) o=false):atI zs o = -1:=by
 rcases at_ways zs o with ⟨h1,-,-⟩|⟨k,h1,-,-,h4,-⟩
 ·exact h1
 ·rw[h k h1]at h4;cases h4
theorem atI_some{zs:List Zn}{o:Int}{k:Nat}(hk:k<zs.length)(h:holds (zs.getD k (0,0,[])) o=true)(hb:∀j,j<k→holds (zs.getD j (0,0,[])) o=false):atI zs o=(k:Int):=by
 rcases at_ways zs o with ⟨-,-,h1⟩|⟨i,h1,h2,-,h4,h5⟩
 ·rw[h1 k hk]at h;cases h
 ·rcases Nat.lt_trichotomy i k with hl|rfl|hl
  ·rw[hb i hl]at h4;cases h4
  ·exact h2
  ·rw[h5 k hl]at h;cases h
end Tr
namespace Sf
theorem fmd_no{l:List Wr}(k:Nat)(hk:k<l.length)(h:¬ok l k):fmd l=false:=by
 cases hc:fmd l with
 |false=>rfl
 |true=>exact absurd ((fmd_iff l).1 hc k hk) h
end Sf
namespace Vw
def part(v:Vw)(reach:List (Int × Int))(f:Nat→Bool):Note:=⟨[],reach,Sp.ofL (fun o =>!f o),v.h.filter fun x=>f x.2.2.1.toNat⟩
def isB(v:Vw)(o:Nat):Bool:=(Tr.at_ v.z (o:Int)).isSome
def like(v:Vw)(it:List (Int × Int))(o:Nat):Nat→Bool:=fun p=>Sp.inL it p&&(isB v p&&decide (Tr.rch v.z v.k (p:Int)=Tr.rch v.z v.k (o:Int)))
def first(v:Vw)(it:List (Int × Int))(o:Nat):Bool:=Sp.inL it o&&(isB v o&&(List.range o).all fun p =>!like v it o p)
def sumR(v:Vw)(it:List (Int × Int)):List Note × Int:=
 if fmd v=true then
  (part v v.k (fun o=>Sp.inL it o && !isB v o)::((List.range 256).filter (first v it)).map (fun (o:Nat)=>part v (Tr.rch v.z v.k (o:Int)) (like v it o)),0)
 else ([],1)
end Vw
set_option maxHeartbeats 3200000 in
theorem bright_any(D:Option Addr)(d:Nat)(x:Bd)(w:World) :
  Calls Tryz.prog 80 #[.agg (bdCells D d x)] w (Says (.bool (Wi.bright x)) w):=by
 obtain⟨o,c,n,l⟩:=x
 unfold bdCells
 simp only
 obtain⟨W,hW⟩:∃W,w.alloc (.cells #[.int .i64 o,.int .i64 c,.int .i64 n,.slice D l.length d] 49)=W:=⟨_,rfl⟩
 have hb0:Below w.heap.size w W:=by rw[←hW];exact below_new (Below.refl _ _) _
 have hB0:Blk W w.heap.size 49 #[.int .i64 o,.int .i64 c,.int .i64 n,.slice D l.length d]:=by rw[←hW];exact Blk.new w _ _
 have c0:=hB0.cell (i:=0) rfl
 have c1:=hB0.cell (i:=1) rfl
 have c2:=hB0.cell (i:=2) rfl
 have c3:=hB0.cell (i:=3) rfl
 have hR:=Hd (show Wi.bright ⟨o,c,n,l⟩=(decide (0≤o)&&(decide (o≤255)&&(St.rgt c n&&decide (l.length≤256)))) from rfl)
 have HW:=Hd hW
 have NR:=Hd (rright_any c n W)
 obtain⟨rg,hrg⟩:∃rg,St.rgt c n=rg:=⟨_,rfl⟩
 rw[hrg]at hR NR
 clear hW hrg
 by_cases h1:0≤o
 ·have d1:decide (0≤o)=true:=decide_eq_true h1
  by_cases h2:o≤255
  ·have d2:decide (o≤255)=true:=decide_eq_true h2
   cases rg with
   |true=>
    go_enter Tryz.func80,Tryz.ntmps80
    go_wp2_with fail
    rw[HW.out]
    refine NR.out.mono ?_
    rintro e w1 ⟨rfl,b1⟩
    have e3:=cell_later b1 c3
    clear c0 c1 c2 c3
    by_cases h3:l.length≤256
    ·have d3:decide ((l.length:Int)≤256)=true:=decide_eq_true (by omega)
     go_wp2
     go_ret
     exact⟨by rw[hR.out,d1,d2,decide_eq_true h3];first|rfl|simp,below_on hb0 b1⟩
    ·have d3:decide ((l.length:Int)≤256)=false:=decide_eq_false (by omega)
     go_wp2
     go_ret
     exact⟨by rw[hR.out,d1,d2,decide_eq_false h3];first|rfl|simp,below_on hb0 b1⟩
   |false=>
    go_enter Tryz.func80,Tryz.ntmps80
    go_wp2_with fail
    rw[HW.out]
    refine NR.out.mono ?_
    rintro e w1 ⟨rfl,b1⟩
    go_wp2
    go_ret
    exact⟨by rw[hR.out,d1,d2];first|rfl|simp,below_on hb0 b1⟩
  ·have d2:decide (o≤255)=false:=decide_eq_false h2
   go_enter Tryz.func80,Tryz.ntmps80
   go_wp2_with fail
   rw[HW.out]
   go_wp2
   go_ret
   exact⟨by rw[hR.out,d1,d2];first|rfl|simp,hb0⟩
 ·have d1:decide (0≤o)=false:=decide_eq_false h1
  go_enter Tryz.func80,Tryz.ntmps80
  go_wp2_with fail
  rw[HW.out]
  go_wp2
  go_ret
  exact⟨by rw[hR.out,d1];first|rfl|simp,hb0⟩
set_option maxHeartbeats 800000 in
theorem bcopy_any(A:Option Addr)(c1:Nat)(l:List Int)(w:World)(hl:l.length≤140737488355328)(h1:OneB w A c1 l) :
  Calls Tryz.prog 139 #[.slice A l.length c1] w (GivesB l w):=by
 obtain⟨i0,hi,hz0,hz1,hz2⟩:=info_parts infoBy
 have hown:(w.alloc (.cells #[] 5)).ownsRow w.heap.size 5 1 (.slice (some ⟨w.heap.size,0,none⟩) 0 0) 0 []:=
  ⟨rfl,.inr ⟨w.heap.size,0,#[],rfl,Nat.le_refl _,heap_alloc_new w _,Nat.le_refl _,Nat.zero_le _,rfl,rfl⟩⟩
 have HA:=Hd h1.noA
 go_enter Tryz.func139,Tryz.ntmps139
 go_wp2_with (at_builtin;refine wpList_append_lies _ rfl _ _ 47 rfl w.heap.size 5 i0 (.int .u8 0) 1 1 Tryz.underlying47 hi hz0 hz1 hz2 rfl (by decide) _ 0 [] rfl hown A l.length c1 HA.out (bCells l) rfl (by rw[bCells_length,Nat.mul_one]) (h1.lies.alloc _) (bCells_one l) ?c3 ?c4 ?c5 ?_)
 case c3=>unfold maxLen;omega
 case c4=>omega
 case c5=>simp
 intro v' w1 hown1 hg1 _
 have hbw:Below w.heap.size w w1:=(below_new (Below.refl _ _) (.cells #[] 5)).grown hg1 (by simp) (by intro k hk;simp[Value.ownBlock]at hk;omega)
 try simp only[Nat.zero_add,List.nil_append]at hown1
 have HO:=Hd hown1
 clear hown hown1 hg1
 go_wp2
 go_ret
 exact⟨_,rfl,HO.out,hbw⟩
set_option maxHeartbeats 1600000 in
theorem cused_any(A:Option Addr)(c:Nat)(L:List Bc)(w:World)(h:OneC w A c L)(hu:Ca.used (L.map Bc.b)≤4611686018427387904) :
  Calls Tryz.prog 117 #[.slice A L.length c] w (Says (.int .i64 (Ca.used (L.map Bc.b):Int)) w):=by
 have hlen:=h.len
 have HL:=Hd h
 have HU:=Hd (fun k=>Ca.usedTo_le L k)
 have HA:=Hd (Ca.usedTo_all L)
 have HS:=Hd (fun k hk=>Ca.usedTo_succ (L:=L) (k:=k) hk)
 obtain⟨U,hUU⟩:∃U,Ca.used (L.map Bc.b)=U:=⟨_,rfl⟩
 rw[hUU]at hu HU HA ⊢
 clear h hUU
 go_enter Tryz.func117,Tryz.ntmps117
 go_wp2_with fail
 go_loopw [3,4] (fun s3 s4 wr=>∃k:Nat,k≤L.length∧s4 = .int .i64 (k:Int)∧s3 = .int .i64 (Ca.usedTo L k:Int)∧Below w.heap.size w wr) (fun _ s4 _=>L.length-(intOf s4).toNat)
 case atStart=>exact⟨0,Nat.zero_le _,rfl,rfl,Below.refl _ _⟩
 case round=>
  obtain⟨k,hk,rfl,rfl,hbw⟩:=hrel
  by_cases hlt:k<L.length
  ·have hne:L≠[]:=fun e=>by subst e;simp at hlt
   obtain⟨b,off,hA,hcs⟩:=(HL.out.later hbw).at hne
   obtain⟨e0,e1,e2,e3⟩:=hcs k hlt
   subst hA
   have hi0:(0:Int)≤(k:Int):=by omega
   have hi1:(k:Int)<(L.length:Int):=by omega
   have hsu:=HS.out k hlt
   have hul:=HU.out (k+1)
   obtain⟨x,hx⟩:∃x,L.getD k Bc.zero=x:=⟨_,rfl⟩
   rw[hx]at e3 hsu
   obtain⟨uk,huk⟩:∃uk,Ca.usedTo L k=uk:=⟨_,rfl⟩
   rw[huk]at hsu ⊢
   obtain⟨n,hn⟩:∃n,x.b.v.length=n:=⟨_,rfl⟩
   rw[hn]at e3 hsu
   have hw1:IntKind.i64.wrap ((uk:Int)+(n:Int))=(uk:Int)+(n:Int):=IntWalk.i64_in _ (by omega)
   have HSU:=Hd hsu
   clear hcs e0 e1 e2 hx huk hn hsu
   go_wp2_with fail
   go_roundw
   case rel=>exact⟨k+1,by omega,by go_num,by rw[HSU.out];simp,hbw⟩
   case measure=>simp[intOf];omega
  ·obtain rfl:k=L.length:=by omega
   rw[HA.out]
   have HB:=Hd hbw
   clear hbw
   go_wp2
   go_ret
   exact⟨rfl,HB.out⟩
theorem int_slice(a:Option Addr)(n c:Nat):intAt (.slice a n c)=false:=rfl
theorem byte_slice(a:Option Addr)(n c:Nat):byteAt (.slice a n c)=false:=rfl
theorem int_i64(x:Int):intAt (.int .i64 x)=true:=rfl
theorem byte_i64(x:Int):byteAt (.int .i64 x)=false:=rfl
section
variable {w:World} {g:Nat} {t:TypeId} {cs:Array Value}
theorem VwAt.puts{q p:Vl}(h:VwAt w q)(hB:Blk w g t (vwCells p)){x0 x1 x2 x3 x4:Value}(hd:dull #[x0,x1,x2,x3,x4]=true)(h0:intAt x0=false∧intAt x1=false∧intAt x2=false∧intAt x3=false∧byteAt x4=false) :
  VwAt (((((w.setCell ⟨g,0,Option.none⟩ x0).setCell ⟨g,1,Option.none⟩ x1).setCell ⟨g,2,Option.none⟩ x2).setCell ⟨g,3,Option.none⟩ x3).setCell ⟨g,4,Option.none⟩ x4) q:=by
 obtain⟨a0,a1,a2,a3,a4⟩:=h0
 have hd2:=hd
 simp only[dull,dullL,headInt,a0,a1,a2,a3,Bool.false_and,Bool.not_false,Bool.true_and,Bool.and_true,Bool.and_eq_true,Bool.not_eq_true']at hd2
 obtain⟨e0,e1,e2,e3,e4⟩:=hd2
 have B1:=hB.put 0 x0
 have B2:=B1.put 1 x1
 have B3:=B2.put 2 x2
 have B4:=B3.put 3 x3
 refine((((h.far hB ?_ 0 x0).far B1 ?_ 1 x1).far B2 ?_ 2 x2).far B3 ?_ 3 x3).far B4 ?_ 4 x4
 all_goals simp[dull,dullL,headInt,int_slice,byte_slice,int_i64,byte_i64,vwCells,a0,a1,a2,a3,e0,e1,e2,e3]
end
set_option maxRecDepth 100000 in
set_option maxHeartbeats 1600000 in
theorem zat_any(A:Option Addr)(c:Nat)(L:List Zc)(o:Int)(w:World)(h:OneZ w A c L) :
  Calls Tryz.prog 104 #[.slice A L.length c,.int .i64 o] w (Says (.int .i64 (Tr.atI (L.map Zc.zn) o)) w):=by
 have hlen:=h.len
 have HD:=Hd h
 obtain⟨r,hr⟩:∃r,Tr.atI (L.map Zc.zn) o=r:=⟨_,rfl⟩
 rw[hr]
 have HR:=Hd hr
 clear h hr
 go_enter Tryz.func104,Tryz.ntmps104
 go_wp2_with fail
 go_loopw [5] (fun s5 wr=>∃(k:Nat),k≤L.length∧s5 = .int .i64 (k:Int)∧(∀(u:Nat),u<k→Tr.holds ((L.map Zc.zn).getD u (0,0,[])) o=false)∧Below w.heap.size w wr) (fun s5 _=>L.length-(intOf s5).toNat)
 case atStart=>exact⟨0,Nat.zero_le _,rfl,fun u hu=>by omega,Below.refl _ _⟩
 case round=>
  obtain⟨k,hk,rfl,hno,hbw⟩:=hrel
  have HNO:=Hd hno
  clear hno
  by_cases hlt:k<L.length
  ·have hne:L≠[]:=fun e=>by subst e;simp at hlt
   obtain⟨b,off,hA,hc⟩:=(HD.out.later hbw).at hne
   subst hA
   obtain⟨x,hx⟩:∃x,L[k]?=some x:=⟨L[k],List.getElem?_eq_getElem hlt⟩
   obtain⟨e0,e1,-⟩:=hc k x hx
   have hg:=zn_getD hx
   have hi0:(0:Int)≤(k:Int):=by omega
   have hi1:(k:Int)<(L.length:Int):=by omega
   obtain⟨lo,hi,X,cx,l⟩:=x
   dsimp only at e0 e1
   have hh:Tr.holds ((L.map Zc.zn).getD k (0,0,[])) o=decide (lo≤o∧o≤hi):=by rw[hg];rfl
   have HH:=Hd hh
   clear hx hc hne hg hh
   have hnext:¬(lo≤o∧o≤hi)→∀(u:Nat),u<k+1→Tr.holds ((L.map Zc.zn).getD u (0,0,[])) o=false:=fun hn u hu=>by
    by_cases e:u=k
    ·subst e
     rw[HH.out,decide_eq_false hn]
    ·exact HNO.out u (by omega)
   have HNX:=Hd hnext
   clear hnext
   by_cases t1:lo≤o
   ·have d1:decide (lo≤o)=true:=decide_eq_true t1
    by_cases t2:o≤hi
    ·have d2:decide (o≤hi)=true:=decide_eq_true t2
     have hrk:r=(k:Int):=by
      rw[←HR.out]
      exact Tr.atI_some (by rw[List.length_map];exact hlt) (by rw[HH.out,decide_eq_true (⟨t1,t2⟩:lo≤o∧o≤hi)]) HNO.out
     subst hrk
     clear t1 t2
     go_wp2
     go_ret
     exact⟨rfl,hbw⟩
    ·have d2:decide (o≤hi)=false:=decide_eq_false t2
     have NX:=Hd (HNX.out (fun h=>t2 h.2))
     clear t1 t2
     go_wp2_with fail
     go_roundw
     case rel=>exact⟨k+1,by omega,by first|rfl|go_num,NX.out,hbw⟩
     case measure=>simp[intOf];omega
   ·have d1:decide (lo≤o)=false:=decide_eq_false t1
    have NX:=Hd (HNX.out (fun h=>t1 h.1))
    clear t1
    go_wp2_with fail
    go_roundw
    case rel=>exact⟨k+1,by omega,by first|rfl|go_num,NX.out,hbw⟩
    case measure=>simp[intOf];omega
  ·have hd:decide ((k:Int)<(L.length:Int))=false:=decide_eq_false (by omega)
   have hrk:r = -1:=by
    rw[←HR.out]
    exact Tr.atI_none (fun j hj=>HNO.out j (by rw[List.length_map]at hj;omega))
   subst hrk
   go_wp2
   go_ret
   exact⟨rfl,hbw⟩
set_option maxRecDepth 100000 in
set_option maxHeartbeats 6400000 in
theorem zformed_any(A:Option Addr)(c:Nat)(L:List Zc)(w:World)(h:OneZ w A c L) :
  Calls Tryz.prog 54 #[.slice A L.length c] w (Says (.bool (Tr.fmd (L.map Zc.zn))) w):=by
 have hlen:=h.len
 have HD:=Hd h
 obtain⟨q,hq⟩:∃q,Tr.fmd (L.map Zc.zn)=q:=⟨_,rfl⟩
 rw[hq]
 have HQ:=Hd hq
 clear h hq
 go_enter Tryz.func54,Tryz.ntmps54
 go_wp2_with fail
 go_loopw [3] (fun s3 wr=>∃(k:Nat),k≤L.length∧s3 = .int .i64 (k:Int)∧Tr.fmTo (L.map Zc.zn) k∧Below w.heap.size w wr) (fun s3 _=>L.length-(intOf s3).toNat)
 case atStart=>exact⟨0,Nat.zero_le _,rfl,fun u hu=>by omega,Below.refl _ _⟩
 case round=>
  obtain⟨k,hk,rfl,hall,hbw⟩:=hrel
  have HALL:=Hd hall
  clear hall
  by_cases hlt:k<L.length
  ·have hne:L≠[]:=fun e=>by subst e;simp at hlt
   have HO:=Hd (HD.out.later hbw)
   obtain⟨b,off,hA,hc⟩:=HO.out.at hne
   subst hA
   obtain⟨x,hx⟩:∃x,L[k]?=some x:=⟨L[k],List.getElem?_eq_getElem hlt⟩
   obtain⟨e0,e1,e2⟩:=hc k x hx
   have hg:=zn_getD hx
   have hi0:(0:Int)≤(k:Int):=by omega
   have hi1:(k:Int)<(L.length:Int):=by omega
   have hxo:=HO.out.one hx
   have HC:=Hd hc
   obtain⟨lo,hi,X,cx,l⟩:=x
   dsimp only at e0 e1 e2 hxo
   have hok:Tr.okAt (L.map Zc.zn) k↔((0≤lo∧lo≤hi∧hi≤255)∧Ve.fmd l=true∧(0<k→((L.map Zc.zn).getD (k-1) (0,0,[])).2.1<lo∧(((L.map Zc.zn).getD (k-1) (0,0,[])).2.1=lo-1→((L.map Zc.zn).getD (k-1) (0,0,[])).2.2≠l))):=by
    unfold Tr.okAt
    rw[hg]
    rfl
   have NO:=Hd (fun (hn:¬((0≤lo∧lo≤hi∧hi≤255)∧Ve.fmd l=true∧(0<k→((L.map Zc.zn).getD (k-1) (0,0,[])).2.1<lo∧(((L.map Zc.zn).getD (k-1) (0,0,[])).2.1=lo-1→((L.map Zc.zn).getD (k-1) (0,0,[])).2.2≠l))))=>(show q=false from by
    rw[←HQ.out]
    exact Tr.fmd_no k (by rw[List.length_map];exact hlt) (fun hh=>hn (hok.1 hh))))
   have NX:=Hd (fun (hn:((0≤lo∧lo≤hi∧hi≤255)∧Ve.fmd l=true∧(0<k→((L.map Zc.zn).getD (k-1) (0,0,[])).2.1<lo∧(((L.map Zc.zn).getD (k-1) (0,0,[])).2.1=lo-1→((L.map Zc.zn).getD (k-1) (0,0,[])).2.2≠l))))=>(show Tr.fmTo (L.map Zc.zn) (k+1) from fun u hu=>by
    by_cases e:u=k
    ·subst e;exact hok.2 hn
    ·exact HALL.out u (by omega)))
   obtain⟨W1,hW1⟩:∃W1,wr.alloc (.cells #[.int .i64 lo,.int .i64 hi] 97)=W1:=⟨_,rfl⟩
   have hb1:Below wr.heap.size wr W1:=by rw[←hW1];exact below_new (Below.refl _ _) _
   have XB:Blk W1 wr.heap.size 97 #[.int .i64 lo,.int .i64 hi]:=by rw[←hW1];exact Blk.new wr _ _
   have hx1:=hxo.later hb1
   have RF:=rformed_any X cx l W1 hx1.len hx1.stamps
   obtain⟨f,hf⟩:∃f,Ve.fmd l=f:=⟨_,rfl⟩
   rw[hf]at RF
   have NF:=Hd RF
   have HF:=Hd hf
   have BN:=Hd (below_on hbw hb1)
   have HB1:=Hd hb1
   have HXB:=Hd XB
   have HX1:=Hd hx1
   have HX:=Hd hx
   have k0:=XB.cell (i:=0) rfl
   have k1:=XB.cell (i:=1) rfl
   have HE2:=Hd e2
   have g2:=cell_later hb1 e2
   clear hg hok hc hne hxo hx hb1 XB hx1 RF hf e2
   go_upto_region 5 with (fail)
   try rw[hW1]
   clear hW1 e0 e1
   by_cases t1:lo<0
   ·have d1:decide (lo<0)=true:=decide_eq_true t1
    have hqf:=NO.out (fun h=>by omega)
    subst hqf
    go_wp2
    go_ret
    exact⟨rfl,BN.out⟩
   have d1:decide (lo<0)=false:=decide_eq_false t1
   by_cases t2:hi<lo
   ·have d2:decide (hi<lo)=true:=decide_eq_true t2
    have hqf:=NO.out (fun h=>by omega)
    subst hqf
    go_wp2
    go_ret
    exact⟨rfl,BN.out⟩
   have d2:decide (hi<lo)=false:=decide_eq_false t2
   by_cases t3:255<hi
   ·have d3:decide (255<hi)=true:=decide_eq_true t3
    have hqf:=NO.out (fun h=>by omega)
    subst hqf
    go_wp2
    go_ret
    exact⟨rfl,BN.out⟩
   have d3:decide (255<hi)=false:=decide_eq_false t3
   have T:=Hd (⟨by omega,by omega,by omega⟩:0≤lo∧lo≤hi∧hi≤255)
   cases f with
   |false=>
    have hqf:=NO.out (fun h=>by have:=h.2.1;rw[HF.out]at this;cases this)
    subst hqf
    clear t1 t2 t3
    go_wp2_with fail
    refine NF.out.mono ?_
    rintro e w2 ⟨rfl,b2⟩
    have BB:=Hd (below_on BN.out b2)
    clear b2 g2 k0 k1
    go_wp2
    go_ret
    exact⟨rfl,BB.out⟩
   |true=>
   clear t1 t2 t3
   go_wp2_with fail
   refine NF.out.mono ?_
   rintro e w2 ⟨rfl,b2⟩
   have hb2:=below_on HB1.out b2
   have BB:=Hd (below_on BN.out b2)
   have m0:∀d os,(Sort.grow (redrawn w2 d) os).cell? ⟨wr.heap.size,0,none⟩=some (.int .i64 lo):=cell_regrown ((HXB.out.later b2).cell rfl)
   have m2:∀d os,(Sort.grow (redrawn w2 d) os).cell? ⟨b,off+k*3+2,none⟩=some (.slice X l.length cx):=cell_regrown (cell_later hb2 HE2.out)
   have HX2:=Hd (HX1.out.later b2)
   clear NF k0 k1 g2 HX1 HXB
   cases k with
   |zero=>
    simp only[Nat.zero_mul,Nat.add_zero]at m2
    have HT:=Hd (NX.out ⟨T.out,HF.out,fun h=>absurd h (by omega)⟩)
    go_wp2_with fail
    refine wp_region_quiet_below (by kernel_rfl) (by kernel_rfl) ?_
    repeat (first|go_big_quiet_step (fail)|quiet_step (fail))
    refine wpQuiet_nil ?_
    intro _ hw'
    obtain⟨⟨dq,osq⟩,hw''⟩:=hw'
    subst hw''
    go_wp2_with fail
    go_roundw
    case rel=>exact⟨_,by omega,by first|rfl|go_num,HT.out,below_on BB.out (below_regrown w2 dq osq)⟩
    case measure=>simp[intOf];omega
   |succ m=>
    obtain⟨y,hy⟩:∃y,L[m]?=some y:=⟨L[m],List.getElem?_eq_getElem (by omega)⟩
    have hgy:(L.map Zc.zn).getD (m+1-1) (0,0,[])=y.zn:=zn_getD hy
    have hyo:=(HO.out.one hy).later hb2
    obtain⟨-,f1,f2⟩:=HC.out m y hy
    obtain⟨ylo,yhi,Y,cy,yl⟩:=y
    dsimp only at f1 f2 hyo
    have hg2:((L.map Zc.zn).getD (m+1-1) (0,0,[])).2.1=yhi:=by rw[hgy];rfl
    have hg3:((L.map Zc.zn).getD (m+1-1) (0,0,[])).2.2=yl:=by rw[hgy];rfl
    rw[hg2,hg3]at NO NX
    have m1:∀d os,(Sort.grow (redrawn w2 d) os).cell? ⟨b,off+m*3+1,none⟩=some (.int .i64 yhi):=cell_regrown (cell_later hb2 f1)
    have m3:∀d os,(Sort.grow (redrawn w2 d) os).cell? ⟨b,off+m*3+2,none⟩=some (.slice Y yl.length cy):=cell_regrown (cell_later hb2 f2)
    have hm1:((m+1:Nat):Int)-1=(m:Int):=by omega
    have hj0:(0:Int)≤(m:Int):=by omega
    have hj1:(m:Int)<(L.length:Int):=by omega
    have hgt:decide ((0:Int)<((m+1:Nat):Int))=true:=decide_eq_true (by omega)
    obtain⟨sm,hsm⟩:∃sm,decide (yl=l)=sm:=⟨_,rfl⟩
    have CS:=Hd (fun d os=>(show Calls Tryz.prog 18 #[.slice Y yl.length cy,.slice X l.length cx] (Sort.grow (redrawn w2 d) os) (fun e w''=>e = .returned (.bool sm)∧∃p:Regrown,w''=Sort.grow (redrawn w2 p.d) p.os) from by
     rw[←hsm]
     have h1:=hyo.later (below_regrown w2 d os)
     have h2:=HX2.out.later (below_regrown w2 d os)
     exact Calls.regrown_of (rsame_any Y X cy cx yl l _ h1.len h1.stamps h2.stamps)))
    have HSM:=Hd hsm
    clear hy hgy hg2 hg3 f1 f2 hyo hsm
    by_cases t4:lo≤yhi
    ·have d4:decide (lo≤yhi)=true:=decide_eq_true t4
     have hqf:=NO.out (fun h=>by have:=(h.2.2 (by omega)).1;omega)
     subst hqf
     clear t4
     go_wp2_with fail
     refine wp_region_quiet_below (by kernel_rfl) (by kernel_rfl) ?_
     repeat (first|go_big_quiet_step (exact CS.out _ _)|quiet_step (exact CS.out _ _))
     refine wpQuiet_nil ?_
     intro _ hw'
     obtain⟨⟨dq,osq⟩,hw''⟩:=hw'
     subst hw''
     go_wp2
     go_ret
     exact⟨rfl,below_on BB.out (below_regrown w2 dq osq)⟩
    ·have d4:decide (lo≤yhi)=false:=decide_eq_false t4
     have T4:=Hd t4
     by_cases t5:yhi=lo-1
     ·have d5:(yhi == lo-1)=true:=by rw[beq_iff_eq];exact t5
      have d5':decide (yhi=lo-1)=true:=decide_eq_true t5
      have lw:IntKind.i64.wrap (lo-1)=lo-1:=IntWalk.i64_in _ (by have:=T.out;omega)
      have T5:=Hd t5
      clear t4 t5
      cases sm with
      |true=>
       have hqf:=NO.out (fun h=>(h.2.2 (by omega)).2 T5.out (of_decide_eq_true HSM.out))
       subst hqf
       have T0:=T.out
       go_wp2_with fail
       refine wp_region_quiet_below (by kernel_rfl) (by kernel_rfl) ?_
       repeat (first|go_big_quiet_step (exact CS.out _ _)|quiet_step (exact CS.out _ _))
       refine wpQuiet_nil ?_
       intro _ hw'
       obtain⟨⟨dq,osq⟩,hw''⟩:=hw'
       subst hw''
       go_wp2
       go_ret
       exact⟨rfl,below_on BB.out (below_regrown w2 dq osq)⟩
      |false=>
       have HT:=Hd (NX.out ⟨T.out,HF.out,fun _=>⟨by have:=T4.out;omega,fun _=>of_decide_eq_false HSM.out⟩⟩)
       have T0:=T.out
       go_wp2_with fail
       refine wp_region_quiet_below (by kernel_rfl) (by kernel_rfl) ?_
       repeat (first|go_big_quiet_step (exact CS.out _ _)|quiet_step (exact CS.out _ _))
       refine wpQuiet_nil ?_
       intro _ hw'
       obtain⟨⟨dq,osq⟩,hw''⟩:=hw'
       subst hw''
       go_wp2_with fail
       go_roundw
       case rel=>exact⟨_,by omega,by first|rfl|go_num,HT.out,below_on BB.out (below_regrown w2 dq osq)⟩
       case measure=>simp[intOf];omega
     ·have d5:(yhi == lo-1)=false:=by rw[beq_eq_false_iff_ne];exact t5
      have d5':decide (yhi=lo-1)=false:=decide_eq_false t5
      have lw:IntKind.i64.wrap (lo-1)=lo-1:=IntWalk.i64_in _ (by have:=T.out;omega)
      have HT:=Hd (NX.out ⟨T.out,HF.out,fun _=>⟨by omega,fun h=>absurd h t5⟩⟩)
      have T0:=T.out
      clear t4 t5
      go_wp2_with fail
      refine wp_region_quiet_below (by kernel_rfl) (by kernel_rfl) ?_
      repeat (first|go_big_quiet_step (exact CS.out _ _)|quiet_step (exact CS.out _ _))
      refine wpQuiet_nil ?_
      intro _ hw'
      obtain⟨⟨dq,osq⟩,hw''⟩:=hw'
      subst hw''
      go_wp2_with fail
      go_roundw
      case rel=>exact⟨_,by omega,by first|rfl|go_num,HT.out,below_on BB.out (below_regrown w2 dq osq)⟩
      case measure=>simp[intOf];omega
  ·have hd:decide ((k:Int)<(L.length:Int))=false:=decide_eq_false (by omega)
   have hkl:k=L.length:=by omega
   have hqt:q=true:=by
    rw[←HQ.out]
    exact(Tr.fmd_iff _).2 (by rw[List.length_map,←hkl];exact HALL.out)
   subst hqt
   clear hkl
   go_wp2
   go_ret
   exact⟨rfl,hbw⟩
end Go.Proofs.YtjlfehpockfkdaaGreat
namespace Go.Proofs.YtjlfehpockfkdaaGreat
open Go.RowKit Fb
theorem Gives.none{w w':World}(hb:Below w.heap.size w w'):Gives [] w (.returned (.slice none 0 0)) w':=⟨_,rfl,⟨rfl,.inl ⟨rfl,rfl⟩⟩,hb⟩
set_option maxRecDepth 100000 in
set_option maxHeartbeats 3200000 in
theorem zreach_any(A B:Option Addr)(c cb:Nat)(L:List Zc)(kn:List (Int × Int))(o:Int)(w:World)(h:OneZ w A c L)(hb:OneL w B cb kn) :
  Calls Tryz.prog 36 #[.slice A L.length c,.slice B kn.length cb,.int .i64 o] w (Gives (Tr.rchR (L.map Zc.zn) kn o) w):=by
 have hlen:=h.len
 have N:=zformed_any A c L w h
 have HD:=Hd h
 have HK:=Hd hb
 clear h hb
 cases hq:Tr.fmd (L.map Zc.zn) with
 |false=>
  have hR:Tr.rchR (L.map Zc.zn) kn o=[]:=by unfold Tr.rchR;rw[if_neg (fun h=>by rw[hq]at h;exact absurd h.1 Bool.false_ne_true)]
  rw[hR]
  rw[hq]at N
  have NN:=Hd N
  clear N hq hR
  go_enter Tryz.func36,Tryz.ntmps36
  go_wp2_with fail
  refine NN.out.mono ?_
  rintro e w1 ⟨rfl,b1⟩
  have FIN:=Hd (Gives.none b1)
  clear b1
  go_wp2
  go_ret
  exact FIN.out
 |true=>
  rw[hq]at N
  have NN:=Hd N
  have HQ:=Hd hq
  have KF:=Hd (fun (w1:World) (b1:Below w.heap.size w w1)=>rformed_any B cb kn w1 (HK.out.later b1).len (HK.out.later b1).stamps)
  clear N hq
  cases hk:Ve.fmd kn with
  |false=>
   have hR:Tr.rchR (L.map Zc.zn) kn o=[]:=by unfold Tr.rchR;rw[if_neg (fun h=>by rw[hk]at h;exact absurd h.2.1 Bool.false_ne_true)]
   rw[hR]
   rw[hk]at KF
   clear hk hR
   go_enter Tryz.func36,Tryz.ntmps36
   go_wp2_with fail
   refine NN.out.mono ?_
   rintro e w1 ⟨rfl,b1⟩
   have KF1:=Hd (KF.out w1 b1)
   have B1:=Hd b1
   clear b1 KF
   go_wp2_with fail
   refine KF1.out.mono ?_
   rintro e w2 ⟨rfl,b2⟩
   have FIN:=Hd (Gives.none (below_on B1.out b2))
   clear b2
   go_wp2
   go_ret
   exact FIN.out
  |true=>
   rw[hk]at KF
   have HKF:=Hd hk
   clear hk
   by_cases ho:0≤o∧o≤255
   ·obtain⟨ho0,ho1⟩:=ho
    have d0:decide (o<0)=false:=decide_eq_false (by omega)
    have d1:decide (255<o)=false:=decide_eq_false (by omega)
    have hR:Tr.rchR (L.map Zc.zn) kn o=Tr.rch (L.map Zc.zn) kn o:=by unfold Tr.rchR;rw[if_pos ⟨HQ.out,HKF.out,ho0,ho1⟩]
    rw[hR]
    clear hR ho0 ho1
    rcases Tr.at_ways (L.map Zc.zn) o with ⟨h1,h2,-⟩|⟨k,h0,h1,h2,-,-⟩
    ·have hR:Tr.rch (L.map Zc.zn) kn o=kn:=by unfold Tr.rch;rw[h2];rfl
     rw[hR]
     have ZA:=Hd (fun (w1:World) (b1:Below w.heap.size w w1)=>(show Calls Tryz.prog 104 #[.slice A L.length c,.int .i64 o] w1 (Says (.int .i64 (-1)) w1) from by
      have:=zat_any A c L o w1 (HD.out.later b1)
      rw[h1]at this
      exact this))
     have CP:=Hd (fun (w1:World) (b1:Below w.heap.size w w1)=>rcopy_any B cb kn w1 (by have:=Tr.short HKF.out;omega) (HK.out.later b1).2.2.1 (HK.out.later b1).2.2.2)
     clear h1 h2 hR
     go_enter Tryz.func36,Tryz.ntmps36
     go_wp2_with fail
     refine NN.out.mono ?_
     rintro e w1 ⟨rfl,b1⟩
     have KF1:=Hd (KF.out w1 b1)
     have B1:=Hd b1
     clear b1 KF NN
     go_wp2_with fail
     refine KF1.out.mono ?_
     rintro e w2 ⟨rfl,b2⟩
     have B2:=Hd (below_on B1.out b2)
     have ZA2:=Hd (ZA.out w2 B2.out)
     clear b2 ZA KF1
     go_wp2_with fail
     refine ZA2.out.mono ?_
     rintro e w3 ⟨rfl,b3⟩
     have B3:=Hd (below_on B2.out b3)
     clear b3 ZA2
     have CP3:=Hd (CP.out w3 B3.out)
     clear CP
     go_wp2_with fail
     refine CP3.out.mono ?_
     rintro e w4 ⟨v,rfl,ho,b4⟩
     have HO:=Hd (own_base ho B3.out.size)
     have FB:=Hd (below_on B3.out b4)
     clear ho b4
     go_wp2
     go_ret
     exact⟨_,rfl,HO.out,FB.out⟩
    ·rw[List.length_map]at h0
     obtain⟨x,hx⟩:∃x,L[k]?=some x:=⟨L[k],List.getElem?_eq_getElem h0⟩
     have hg:=zn_getD hx
     rw[hg]at h2
     have hR:Tr.rch (L.map Zc.zn) kn o=x.l:=by unfold Tr.rch;rw[h2];rfl
     rw[hR]
     have hxf:Ve.fmd x.l=true:=by
      have:=Tr.vec_fmd HQ.out (k:=k) (by rw[List.length_map];exact h0)
      rw[hg]at this
      exact this
     have ZA:=Hd (fun (w1:World) (b1:Below w.heap.size w w1)=>(show Calls Tryz.prog 104 #[.slice A L.length c,.int .i64 o] w1 (Says (.int .i64 (k:Int)) w1) from by
      have:=zat_any A c L o w1 (HD.out.later b1)
      rw[h1]at this
      exact this))
     have HXO:=Hd (HD.out.one hx)
     have CP:=Hd (fun (w1:World) (b1:Below w.heap.size w w1)=>rcopy_any x.X x.c x.l w1 (by have:=Tr.short hxf;omega) (HXO.out.later b1).2.2.1 (HXO.out.later b1).2.2.2)
     obtain⟨b,off,hA,hc⟩:=HD.out.at (fun e=>by subst e;simp at h0)
     obtain⟨-,-,e2⟩:=hc k x hx
     subst hA
     have E2:=Hd e2
     have hi0:(0:Int)≤(k:Int):=by omega
     have hi1:(k:Int)<(L.length:Int):=by omega
     have hdk:decide ((0:Int)≤(k:Int))=true:=decide_eq_true hi0
     clear h1 h2 hR hx hg hxf hc e2
     go_enter Tryz.func36,Tryz.ntmps36
     go_wp2_with fail
     refine NN.out.mono ?_
     rintro e w1 ⟨rfl,b1⟩
     have KF1:=Hd (KF.out w1 b1)
     have B1:=Hd b1
     clear b1 KF NN
     go_wp2_with fail
     refine KF1.out.mono ?_
     rintro e w2 ⟨rfl,b2⟩
     have B2:=Hd (below_on B1.out b2)
     have ZA2:=Hd (ZA.out w2 B2.out)
     clear b2 ZA KF1
     go_wp2_with fail
     refine ZA2.out.mono ?_
     rintro e w3 ⟨rfl,b3⟩
     have B3:=Hd (below_on B2.out b3)
     clear b3 ZA2
     have CP3:=Hd (CP.out w3 B3.out)
     have e2:=cell_later B3.out E2.out
     clear CP
     go_wp2_with fail
     refine CP3.out.mono ?_
     rintro e w4 ⟨v,rfl,ho,b4⟩
     have HO:=Hd (own_base ho B3.out.size)
     have FB:=Hd (below_on B3.out b4)
     clear ho b4 e2
     go_wp2
     go_ret
     exact⟨_,rfl,HO.out,FB.out⟩
   ·have hR:Tr.rchR (L.map Zc.zn) kn o=[]:=by unfold Tr.rchR;rw[if_neg (fun h=>ho h.2.2)]
    rw[hR]
    clear hR
    by_cases ho0:o<0
    ·have d0:decide (o<0)=true:=decide_eq_true ho0
     clear ho ho0
     go_enter Tryz.func36,Tryz.ntmps36
     go_wp2_with fail
     refine NN.out.mono ?_
     rintro e w1 ⟨rfl,b1⟩
     have KF1:=Hd (KF.out w1 b1)
     have B1:=Hd b1
     clear b1 KF NN
     go_wp2_with fail
     refine KF1.out.mono ?_
     rintro e w2 ⟨rfl,b2⟩
     have FIN:=Hd (Gives.none (below_on B1.out b2))
     clear b2
     go_wp2
     go_ret
     exact FIN.out
    ·have d0:decide (o<0)=false:=decide_eq_false ho0
     have d1:decide (255<o)=true:=decide_eq_true (by omega)
     clear ho ho0
     go_enter Tryz.func36,Tryz.ntmps36
     go_wp2_with fail
     refine NN.out.mono ?_
     rintro e w1 ⟨rfl,b1⟩
     have KF1:=Hd (KF.out w1 b1)
     have B1:=Hd b1
     clear b1 KF NN
     go_wp2_with fail
     refine KF1.out.mono ?_
     rintro e w2 ⟨rfl,b2⟩
     have FIN:=Hd (Gives.none (below_on B1.out b2))
     clear b2
     go_wp2
     go_ret
     exact FIN.out
end Go.Proofs.YtjlfehpockfkdaaGreat
namespace Go.Proofs.YtjlfehpockfkdaaGreat
open Go.RowKit
namespace Sf
theorem of_out{f:Mp}(h:Keyed f):of (outTo f 256)=f:=by
 funext j
 have hi:=of_iff (fmd_outTo h) j
 cases hf:f j with
 |some x=>exact(hi x).2 ⟨mem_outTo.2 ⟨j,(h j x hf).2.1,hf⟩,(h j x hf).1⟩
 |none=>
  cases ho:of (outTo f 256) j with
  |none=>rfl
  |some x=>
   obtain⟨h1,h2⟩:=(hi x).1 ho
   obtain⟨k,_,hk⟩:=mem_outTo.1 h1
   have:=(h k x hk).1
   have:k=j:=by omega
   subst this
   rw[hf]at hk
   cases hk
theorem at_out{f:Mp}(h:Keyed f)(o:Int):Nt.at_ (outTo f 256) o=(match (if 0≤o then f o.toNat else none) with|some x=>(x,true)|none=>(Nt.zeroW,false)):=by
 unfold Nt.at_
 cases hq:(outTo f 256).find? (fun x=>decide (x.2.2.1=o)) with
 |some x=>
  have h1:=List.find?_some hq
  have h2:=List.mem_of_find?_eq_some hq
  simp at h1
  obtain⟨j,_,hj⟩:=mem_outTo.1 h2
  have h3:=(h j x hj).1
  rw[if_pos (show 0≤o by omega),show o.toNat=j by omega,hj]
 |none=>
  rw[List.find?_eq_none]at hq
  by_cases h0:0≤o
  ·rw[if_pos h0]
   cases hf:f o.toNat with
   |none=>rfl
   |some x=>
    have h1:=h _ x hf
    have h2:=hq x (mem_outTo.2 ⟨_,h1.2.1,hf⟩)
    simp at h2
    omega
  ·rw[if_neg h0]
def Best(f:Mp)(l:List Wr):Prop:=∀j:Nat,(∀y,f j=some y→y∈l∧y.2.2.1=(j:Int)∧∀p∈l,p.2.2.1=(j:Int)→St.cmpS p.1 p.2.1 y.1 y.2.1≤0)∧(f j=none→∀p∈l,p.2.2.1≠(j:Int))
theorem cmp_self(x:Wr):St.cmpS x.1 x.2.1 x.1 x.2.1=0:=St.cmpS_zero.2 ⟨rfl,rfl⟩
theorem Best.put{f:Mp}{l:List Wr}(h:Best f l)(x:Wr):Best (put1 f x) (l++[x]):=fun j=>by
 obtain⟨h1,h2⟩:=h j
 unfold put1
 by_cases e:(j:Int)=x.2.2.1
 ·rw[if_pos e]
  refine⟨fun y hy =>?_,fun hn=>by cases hn⟩
  injection hy with hy
  cases hf:f j with
  |none=>
   rw[hf]at hy
   have hy:x=y:=hy
   subst hy
   refine⟨by simp,e.symm,fun p hp ho =>?_⟩
   rcases List.mem_append.1 hp with hp|hp
   ·exact absurd ho (h2 hf p hp)
   ·obtain rfl:p=x:=by simpa using hp
    rw[cmp_self]
    omega
  |some z=>
   obtain⟨q1,q2,q3⟩:=h1 z hf
   rw[hf]at hy
   have hy:(if St.cmpS z.1 z.2.1 x.1 x.2.1<0 then x else z)=y:=hy
   by_cases c:St.cmpS z.1 z.2.1 x.1 x.2.1<0
   ·rw[if_pos c]at hy
    subst hy
    refine⟨by simp,e.symm,fun p hp ho =>?_⟩
    rcases List.mem_append.1 hp with hp|hp
    ·exact St.cmpS_trans (q3 p hp ho) (by omega)
    ·obtain rfl:p=x:=by simpa using hp
     rw[cmp_self]
     omega
   ·rw[if_neg c]at hy
    subst hy
    refine⟨by simp[q1],q2,fun p hp ho =>?_⟩
    rcases List.mem_append.1 hp with hp|hp
    ·exact q3 p hp ho
    ·obtain rfl:p=x:=by simpa using hp
     have:=St.cmpS_neg z.1 z.2.1 p.1 p.2.1
     omega
 ·rw[if_neg e]
  refine⟨fun y hy =>?_,fun hn p hp =>?_⟩
  ·obtain⟨q1,q2,q3⟩:=h1 y hy
   refine⟨by simp[q1],q2,fun p hp ho =>?_⟩
   rcases List.mem_append.1 hp with hp|hp
   ·exact q3 p hp ho
   ·obtain rfl:p=x:=by simpa using hp
    exact absurd ho.symm e
  ·rcases List.mem_append.1 hp with hp|hp
   ·exact h2 hn p hp
   ·obtain rfl:p=x:=by simpa using hp
    exact fun q=>e q.symm
theorem Best.puts{f:Mp}:∀(r l:List Wr),Best f l→Best (Sf.puts f r) (l++r)
 | [],l,h=>by rw[List.append_nil];exact h
 |x::r,l,h=>by
  have:=Best.puts (f:=put1 f x) r (l++[x]) (h.put x)
  rwa [List.append_assoc]at this
end Sf
set_option maxHeartbeats 1600000 in
theorem fright_any(x:Wr)(w:World):Calls Tryz.prog 116 #[Nt.wrV x] w (Says (.bool (Sf.right x)) w):=by
 obtain⟨c,n,o,g⟩:=x
 show Calls Tryz.prog 116 #[.agg #[.int .i64 c,.int .i64 n,.int .i64 o,.bool g]] w (Says (.bool (Sf.right (c,n,o,g))) w)
 have hb0:=below_new (Below.refl w.heap.size w) (.cells #[.int .i64 c,.int .i64 n,.int .i64 o,.bool g] 52)
 by_cases h0:0≤o
 ·have hd0:decide (0≤o)=true:=decide_eq_true h0
  by_cases h1:o≤255
  ·have hd1:decide (o≤255)=true:=decide_eq_true h1
   have HR:=Hd (show Sf.right (c,n,o,g)=St.rgt c n by unfold Sf.right;simp[h0,h1])
   go_enter Tryz.func116,Tryz.ntmps116
   go_wp2_with fail
   refine(rright_any c n _).mono ?_
   rintro e w1 ⟨rfl,b1⟩
   go_wp2
   go_ret
   exact⟨by rw[HR.out];rfl,below_on hb0 b1⟩
  ·have hd1:decide (o≤255)=false:=decide_eq_false h1
   have HR:=Hd (show Sf.right (c,n,o,g)=false by unfold Sf.right;simp[h1])
   go_enter Tryz.func116,Tryz.ntmps116
   go_wp2
   go_ret
   exact⟨by rw[HR.out];rfl,hb0⟩
 ·have hd0:decide (0≤o)=false:=decide_eq_false h0
  have HR:=Hd (show Sf.right (c,n,o,g)=false by unfold Sf.right;simp[h0])
  go_enter Tryz.func116,Tryz.ntmps116
  go_wp2
  go_ret
  exact⟨by rw[HR.out];rfl,hb0⟩
set_option maxRecDepth 100000 in
set_option maxHeartbeats 3200000 in
theorem fformed_any(A:Option Addr)(c:Nat)(l:List Wr)(w:World)(h:OneW w A c l) :
  Calls Tryz.prog 55 #[.slice A l.length c] w (Says (.bool (Sf.fmd l)) w):=by
 have hl:=h.len
 have H1:=Hd h
 have NO:=Hd (fun k hk hn=>Sf.fmd_no (l:=l) k hk hn)
 have YES:=Hd (fun hn=>(Sf.fmd_iff l).2 hn)
 obtain⟨q,hq⟩:∃q,Sf.fmd l=q:=⟨_,rfl⟩
 rw[hq]at NO YES ⊢
 clear h hq
 go_enter Tryz.func55,Tryz.ntmps55
 go_wp2_with fail
 go_loopw [3] (fun s3 wr=>∃k:Nat,k≤l.length∧s3 = .int .i64 (k:Int)∧(∀j,j<k→Sf.ok l j)∧Below w.heap.size w wr) (fun s3 _=>l.length-(intOf s3).toNat)
 case atStart=>exact⟨0,Nat.zero_le _,rfl,(fun j hj=>by omega),Below.refl _ _⟩
 case round=>
  obtain⟨k,hk,rfl,hall,hbw⟩:=hrel
  have HALL:=Hd hall
  clear hall
  by_cases hlt:k<l.length
  ·have hne:l≠[]:=fun e=>by subst e;simp at hlt
   obtain⟨b,off,hA,hcA⟩:=(H1.out.later hbw).at hne
   have H1':=H1
   subst hA
   obtain⟨e0,e1,e2,e3⟩:=hcA k hlt
   have hi0:(0:Int)≤(k:Int):=by omega
   have hi1:(k:Int)<(l.length:Int):=by omega
   have hob:(l.getD k Nt.zeroW).2.2.1=Nt.obj l k:=rfl
   have hrt:Sf.right (l.getD k Nt.zeroW)=Sf.right (l.getD k Nt.zeroW):=rfl
   have nOk:¬Sf.ok l k→q=false:=NO.out k hlt
   have yOk:(Sf.right (l.getD k Nt.zeroW)=true∧(0<k→Nt.obj l (k-1)<Nt.obj l k))→∀j,j<k+1→Sf.ok l j:=fun hh j hj=>by
    by_cases e:j=k
    ·subst e;exact hh
    ·exact HALL.out j (by omega)
   have nOk2:¬(Sf.right (l.getD k Nt.zeroW)=true∧(0<k→Nt.obj l (k-1)<Nt.obj l k))→q=false:=nOk
   obtain⟨x,hx⟩:∃x,l.getD k Nt.zeroW=x:=⟨_,rfl⟩
   rw[hx]at e0 e1 e2 e3 nOk2 yOk hob
   obtain⟨r,hr⟩:∃r,Sf.right x=r:=⟨_,rfl⟩
   have cR:∀d os,Calls Tryz.prog 116 #[.agg #[.int .i64 x.1,.int .i64 x.2.1,.int .i64 x.2.2.1,.bool x.2.2.2]] (Sort.grow (redrawn wr d) os) fun e w''=>e = .returned (.bool r)∧∃p:Regrown,w''=Sort.grow (redrawn wr p.d) p.os:=fun d os=>by
    rw[←hr]
    exact Calls.regrown_of (fright_any x _)
   rw[hr]at nOk2 yOk
   have CR:=Hd cR
   have k0:=cell_regrown e0
   have k1:=cell_regrown e1
   have k2:=cell_regrown e2
   have k3:=cell_regrown e3
   have NK:=Hd nOk2
   have YK:=Hd yOk
   have BW:=Hd hbw
   cases k with
   |zero=>
    have hgt:decide ((0:Int)<((0:Nat):Int))=false:=rfl
    clear nOk nOk2 yOk hx hr cR hob hrt hcA e0 e1 e2 e3 hbw
    simp only[Nat.zero_mul,Nat.add_zero]at k0 k1 k2 k3
    cases r with
    |true=>
     have HT:=Hd (YK.out ⟨rfl,fun hh=>by omega⟩)
     go_wp2_with fail
     refine wp_region_quiet_below (by kernel_rfl) (by kernel_rfl) ?_
     repeat (first|go_big_quiet_step (exact CR.out _ _)|quiet_step (exact CR.out _ _))
     refine wpQuiet_nil ?_
     intro _ hw'
     obtain⟨⟨dq,osq⟩,hw''⟩:=hw'
     subst hw''
     go_wp2_with fail
     go_roundw
     case rel=>exact⟨1,by omega,by first|rfl|go_num,HT.out,below_on BW.out (below_regrown wr dq osq)⟩
     case measure=>simp[intOf];omega
    |false=>
     have hqf:=NK.out (fun hh=>by cases hh.1)
     subst hqf
     go_wp2_with fail
     refine wp_region_quiet_below (by kernel_rfl) (by kernel_rfl) ?_
     repeat (first|go_big_quiet_step (exact CR.out _ _)|quiet_step (exact CR.out _ _))
     refine wpQuiet_nil ?_
     intro _ hw'
     obtain⟨⟨dq,osq⟩,hw''⟩:=hw'
     subst hw''
     go_wp2
     go_ret
     exact⟨rfl,below_on BW.out (below_regrown wr dq osq)⟩
   |succ m=>
    obtain⟨-,-,f2,-⟩:=hcA m (by omega)
    have hgt:decide ((0:Int)<((m+1:Nat):Int))=true:=decide_eq_true (by omega)
    have hm1:((m+1:Nat):Int)-1=(m:Int):=by omega
    have hj0:(0:Int)≤(m:Int):=by omega
    have hj1:(m:Int)<(l.length:Int):=by omega
    have m2:∀d os,(Sort.grow (redrawn wr d) os).cell? ⟨b,off+m*4+2,none⟩=some (.int .i64 (Nt.obj l m)):=cell_regrown f2
    have hob1:Nt.obj l (m+1)=x.2.2.1:=hob.symm
    rw[hob1,show m+1-1=m from rfl]at NK YK
    obtain⟨y,hy⟩:∃y,Nt.obj l m=y:=⟨_,rfl⟩
    rw[hy]at m2 NK YK
    clear nOk nOk2 yOk hx hr cR hob hob1 hrt hcA e0 e1 e2 e3 f2 hbw hy
    cases r with
    |false=>
     have hqf:=NK.out (fun hh=>by cases hh.1)
     subst hqf
     go_wp2_with fail
     refine wp_region_quiet_below (by kernel_rfl) (by kernel_rfl) ?_
     repeat (first|go_big_quiet_step (exact CR.out _ _)|quiet_step (exact CR.out _ _))
     refine wpQuiet_nil ?_
     intro _ hw'
     obtain⟨⟨dq,osq⟩,hw''⟩:=hw'
     subst hw''
     go_wp2
     go_ret
     exact⟨rfl,below_on BW.out (below_regrown wr dq osq)⟩
    |true=>
     by_cases hge:x.2.2.1≤y
     ·have hd:decide (x.2.2.1≤y)=true:=decide_eq_true hge
      have hqf:=NK.out (fun hh=>by have:=hh.2 (by omega);omega)
      subst hqf
      go_wp2_with fail
      refine wp_region_quiet_below (by kernel_rfl) (by kernel_rfl) ?_
      repeat (first|go_big_quiet_step (exact CR.out _ _)|quiet_step (exact CR.out _ _))
      refine wpQuiet_nil ?_
      intro _ hw'
      obtain⟨⟨dq,osq⟩,hw''⟩:=hw'
      subst hw''
      go_wp2
      go_ret
      exact⟨rfl,below_on BW.out (below_regrown wr dq osq)⟩
     ·have hd:decide (x.2.2.1≤y)=false:=decide_eq_false hge
      have HT:=Hd (YK.out ⟨rfl,fun _=>by omega⟩)
      go_wp2_with fail
      refine wp_region_quiet_below (by kernel_rfl) (by kernel_rfl) ?_
      repeat (first|go_big_quiet_step (exact CR.out _ _)|quiet_step (exact CR.out _ _))
      refine wpQuiet_nil ?_
      intro _ hw'
      obtain⟨⟨dq,osq⟩,hw''⟩:=hw'
      subst hw''
      go_wp2_with fail
      go_roundw
      case rel=>exact⟨m+1+1,by omega,by first|rfl|go_num,HT.out,below_on BW.out (below_regrown wr dq osq)⟩
      case measure=>simp[intOf];omega
  ·have hkl:k=l.length:=by omega
   subst hkl
   have hqt:=YES.out HALL.out
   subst hqt
   go_wp2
   go_ret
   exact⟨rfl,hbw⟩
end Go.Proofs.YtjlfehpockfkdaaGreat
namespace Go.Proofs.YtjlfehpockfkdaaGreat
open Go.RowKit Fb
namespace Ca
def seen(L:List Bc)(k j:Nat):Bool:=(L.take k).any fun z=>decide (z.b.o=(j:Int))
theorem seen_succ{L:List Bc}{k:Nat}(h:k<L.length)(j:Nat):seen L (k+1) j=(seen L k j||decide ((L.getD k Bc.zero).b.o=(j:Int))):=by
 unfold seen
 rw[List.take_succ_eq_append_getElem h,List.any_append,getD_lt h]
 simp
theorem ok_seen{L:List Bc}{k:Nat}(h:k<L.length)(o:Nat)(ho:(L.getD k Bc.zero).b.o=(o:Int)):ok (L.map Bc.b) k↔(Wi.bright (L.getD k Bc.zero).b=true∧seen L k o=false):=by
 unfold ok seen
 rw[map_getD,List.any_eq_false]
 constructor
 ·rintro ⟨h1,h2⟩
  refine⟨h1,fun z hz e =>?_⟩
  obtain⟨i,hi,rfl⟩:=List.mem_iff_getElem.1 hz
  rw[List.length_take]at hi
  have h3:=h2 i (by omega)
  rw[map_getD,getD_lt (show i<L.length by omega)]at h3
  rw[List.getElem_take]at e
  exact h3 ((of_decide_eq_true e).trans ho.symm)
 ·rintro ⟨h1,h2⟩
  refine⟨h1,fun i hi e =>?_⟩
  have h4:i<(L.take k).length:=by rw[List.length_take];omega
  refine h2 _ (List.getElem_mem h4) ?_
  rw[List.getElem_take]
  rw[map_getD,getD_lt (show i<L.length by omega)]at e
  exact decide_eq_true (e.trans ho)
end Ca
set_option maxRecDepth 100000 in
set_option maxHeartbeats 3200000 in
theorem cget_any(A:Option Addr)(c:Nat)(L:List Bc)(o sc sn:Int)(w:World)(h:OneC w A c L)(hf:Fits L) :
  Calls Tryz.prog 89 #[.slice A L.length c,.int .i64 o,.agg #[.int .i64 sc,.int .i64 sn]] w (GivesVE (Ca.getR (L.map Bc.b) o sc sn).1 (Ca.getR (L.map Bc.b) o sc sn).2 w):=by
 have hn:=hf.n
 have HL:=Hd h
 have HZ:=Hd hf.each
 have HY:=Hd (fun k hk hb hx=>Ca.get_yes (L:=L) (k:=k) (o:=o) (c:=sc) (n:=sn) hk hb hx)
 have HN:=Hd (fun hb=>Ca.get_no (L:=L) (o:=o) (c:=sc) (n:=sn) hb)
 obtain⟨R,hR⟩:∃R,Ca.getR (L.map Bc.b) o sc sn=R:=⟨_,rfl⟩
 rw[hR]at HY HN ⊢
 have b0:=below_new (Below.refl w.heap.size w) (.cells #[.int .i64 sc,.int .i64 sn] 46)
 have B0:=Blk.new w 46 #[.int .i64 sc,.int .i64 sn]
 obtain⟨W,hW⟩:∃W,w.alloc (.cells #[.int .i64 sc,.int .i64 sn] 46)=W:=⟨_,rfl⟩
 rw[hW]at b0 B0
 have HW:=Hd hW
 have HB:=Hd b0
 have HS:=Hd B0
 clear h hf hR hW b0 B0
 go_enter Tryz.func89,Tryz.ntmps89
 go_wp2_with fail
 rw[HW.out]
 go_loopw [8] (fun s8 wr=>∃k:Nat,k≤L.length∧s8 = .int .i64 (k:Int)∧(∀j,j<k→¬Ca.isAt (L.getD j Bc.zero).b o sc sn)∧Below W.heap.size W wr) (fun s8 _=>L.length-(intOf s8).toNat)
 case atStart=>exact⟨0,Nat.zero_le _,rfl,fun j hj=>by omega,Below.refl _ _⟩
 case round=>
  obtain⟨k,hk,rfl,hno,hbw⟩:=hrel
  by_cases hlt:k<L.length
  ·have hne:L≠[]:=fun e=>by subst e;simp at hlt
   have hbb:=below_on HB.out hbw
   obtain⟨b,off,hA,hcs⟩:=(HL.out.later hbb).at hne
   obtain⟨e0,e1,e2,e3⟩:=hcs k hlt
   have hxb:=(HL.out.later hbb).each _ (Ca.getD_mem hlt)
   have hxz:=HZ.out _ (Ca.getD_mem hlt)
   have hy:=HY.out k hlt hno
   have HL':=HL
   subst hA
   have hi0:(0:Int)≤(k:Int):=by omega
   have hi1:(k:Int)<(L.length:Int):=by omega
   have hS:=HS.out.later hbw
   have s0:=hS.cell (i:=0) rfl
   have s1:=hS.cell (i:=1) rfl
   obtain⟨x,hx⟩:∃x,L.getD k Bc.zero=x:=⟨_,rfl⟩
   rw[hx]at e0 e1 e2 e3 hxb hxz hy
   obtain⟨X,d,⟨x0,x1,x2,v⟩⟩:=x
   dsimp only at e0 e1 e2 e3 hxb hxz hy
   have HX:=Hd hx
   have HNO:=Hd hno
   have BW:=Hd hbw
   have BB:=Hd hbb
   have XB:=Hd hxb
   have hnext:¬Ca.isAt ⟨x0,x1,x2,v⟩ o sc sn→∀j,j<k+1→¬Ca.isAt (L.getD j Bc.zero).b o sc sn:=fun h1 j hj=>by
    by_cases e:j=k
    ·subst e;rw[hx];exact h1
    ·exact hno j (by omega)
   have HNX:=Hd hnext
   have HYY:=Hd hy
   clear hcs hx hno hbw hbb hxb hy hnext hS
   by_cases q0:x0=o
   ·by_cases q1:x1=sc
    ·by_cases q2:x2=sn
     ·have d0:(x0 == o)=true:=beq_iff_eq.2 q0
      have d1:(x1 == sc)=true:=beq_iff_eq.2 q1
      have d2:(x2 == sn)=true:=beq_iff_eq.2 q2
      have HR:=Hd (HYY.out ⟨q0,q1,q2⟩)
      clear q0 q1 q2
      go_wp2_with fail
      go_quiet (fail)
      have NC:=Hd (fun n=>bcopy_any X d v (wr.drewN n) hxz (XB.out.later (below_drewN (Below.refl _ _) n)))
      have BB2:=Hd (fun n=>below_drewN BB.out n)
      clear BB
      go_wp2_with fail
      refine(NC.out _).mono ?_
      rintro e w3 ⟨u,rfl,ho,b3⟩
      have HO:=Hd (own_base ho (BB2.out _).size)
      have BB3:=Hd (below_on (BB2.out _) b3)
      clear ho b3
      go_wp2
      go_ret2
      rw[HR.out]
      exact⟨_,rfl,HO.out,BB3.out⟩
     ·have d0:(x0 == o)=true:=beq_iff_eq.2 q0
      have d1:(x1 == sc)=true:=beq_iff_eq.2 q1
      have d2:(x2 == sn)=false:=beq_eq_false_iff_ne.2 q2
      have HX2:=Hd (HNX.out (fun h=>q2 h.2.2))
      clear q0 q1 q2
      go_wp2_with fail
      go_quiet (fail)
      go_wp2_with fail
      go_roundw
      case rel=>exact⟨k+1,by omega,by go_num,HX2.out,below_drewN BW.out _⟩
      case measure=>simp[intOf];omega
    ·have d0:(x0 == o)=true:=beq_iff_eq.2 q0
     have d1:(x1 == sc)=false:=beq_eq_false_iff_ne.2 q1
     have HX2:=Hd (HNX.out (fun h=>q1 h.2.1))
     clear q0 q1
     go_wp2_with fail
     go_quiet (fail)
     go_wp2_with fail
     go_roundw
     case rel=>exact⟨k+1,by omega,by go_num,HX2.out,below_drewN BW.out _⟩
     case measure=>simp[intOf];omega
   ·have d0:(x0 == o)=false:=beq_eq_false_iff_ne.2 q0
    have HX2:=Hd (HNX.out (fun h=>q0 h.1))
    clear q0
    go_wp2_with fail
    go_quiet (fail)
    go_wp2_with fail
    go_roundw
    case rel=>exact⟨k+1,by omega,by go_num,HX2.out,below_drewN BW.out _⟩
    case measure=>simp[intOf];omega
  ·obtain rfl:k=L.length:=by omega
   have hR:=HN.out hno
   subst hR
   have BB:=Hd (below_on HB.out hbw)
   clear hno hbw
   go_wp2
   go_ret2
   exact⟨_,rfl,⟨rfl,.inl ⟨rfl,rfl⟩⟩,BB.out⟩
set_option maxRecDepth 100000 in
set_option maxHeartbeats 3200000 in
theorem cformed_any(A:Option Addr)(c:Nat)(L:List Bc)(room:Int)(w:World)(h:OneC w A c L) :
  Calls Tryz.prog 56 #[.slice A L.length c,.int .i64 room] w (Says (.bool (Ca.fmd (L.map Bc.b) room)) w):=by
 have hF:Ca.fmd (L.map Bc.b) room=(decide (0≤room∧room≤16777216∧L.length≤256)&&(Ca.oks (L.map Bc.b)&&decide ((Ca.used (L.map Bc.b):Int)≤room))):=by unfold Ca.fmd;rw[List.length_map]
 have HL:=Hd h
 have hlen:=h.len
 by_cases c0:room<0
 ·have d0:decide (room<0)=true:=decide_eq_true c0
  rw[decide_eq_false (show ¬(0≤room∧room≤16777216∧L.length≤256) by omega),Bool.false_and]at hF
  rw[hF]
  clear hF h
  go_enter Tryz.func56,Tryz.ntmps56
  go_wp2
  go_ret
  exact⟨rfl,Below.refl _ _⟩
 by_cases c1:16777216<room
 ·have d0:decide (room<0)=false:=decide_eq_false c0
  have d1:decide (16777216<room)=true:=decide_eq_true c1
  rw[decide_eq_false (show ¬(0≤room∧room≤16777216∧L.length≤256) by omega),Bool.false_and]at hF
  rw[hF]
  clear hF h
  go_enter Tryz.func56,Tryz.ntmps56
  go_wp2
  go_ret
  exact⟨rfl,Below.refl _ _⟩
 by_cases c2:256<L.length
 ·have d0:decide (room<0)=false:=decide_eq_false c0
  have d1:decide (16777216<room)=false:=decide_eq_false c1
  have d2:decide ((256:Int)<(L.length:Int))=true:=decide_eq_true (by omega)
  rw[decide_eq_false (show ¬(0≤room∧room≤16777216∧L.length≤256) by omega),Bool.false_and]at hF
  rw[hF]
  clear hF h
  go_enter Tryz.func56,Tryz.ntmps56
  go_wp2
  go_ret
  exact⟨rfl,Below.refl _ _⟩
 have d0:decide (room<0)=false:=decide_eq_false c0
 have d1:decide (16777216<room)=false:=decide_eq_false c1
 have d2:decide ((256:Int)<(L.length:Int))=false:=decide_eq_false (by omega)
 rw[decide_eq_true (show 0≤room∧room≤16777216∧L.length≤256 by omega),Bool.true_and]at hF
 rw[hF]
 have hOK:=Hd (fun k hk o ho=>Ca.ok_seen (L:=L) (k:=k) hk o ho)
 have hNO:=Hd (fun k hk hx=>Ca.oks_no (l:=L.map Bc.b) k hk hx)
 have hYES:=Hd (Ca.oks_iff (L.map Bc.b)).2
 have hSU:=Hd (fun k hk j=>Ca.seen_succ (L:=L) (k:=k) hk j)
 have hUO:=Hd (fun hx=>Ca.used_oks (L:=L) hx)
 obtain⟨OK,hok⟩:∃q,Ca.oks (L.map Bc.b)=q:=⟨_,rfl⟩
 obtain⟨ok,hokk⟩:∃f,(fun k=>Ca.ok (L.map Bc.b) k)=f:=⟨_,rfl⟩
 rw[hok]at hNO hYES ⊢
 have B5:=Blk.new w 138 (Sp.arr fun _=>false)
 rw[←marks_zero]at B5
 have b5:=below_new (Below.refl w.heap.size w) (.cells Tryz.zeroCells138 138)
 obtain⟨W,hW⟩:∃W,w.alloc (.cells Tryz.zeroCells138 138)=W:=⟨_,rfl⟩
 rw[hW,marks_zero]at B5
 rw[hW]at b5
 have HW:=Hd hW
 have HB5:=Hd B5
 have Hb5:=Hd b5
 clear hF h hok hokk ok B5 b5 hW c0 c1
 go_enter Tryz.func56,Tryz.ntmps56
 go_wp2_with fail
 rw[HW.out]
 go_loopw [6] (fun s6 wr=>∃k:Nat,k≤L.length∧s6 = .int .i64 (k:Int)∧(∀j,j<k→Ca.ok (L.map Bc.b) j)∧Blk wr w.heap.size 138 (Sp.arr (Ca.seen L k))∧Below w.heap.size w wr) (fun s6 _=>L.length-(intOf s6).toNat)
 case atStart=>exact⟨0,Nat.zero_le _,rfl,fun j hj=>by omega,HB5.out,Hb5.out⟩
 case round=>
  obtain⟨k,hk,rfl,hall,hB,hbw⟩:=hrel
  by_cases hlt:k<L.length
  ·have hne:L≠[]:=fun e=>by subst e;simp at hlt
   obtain⟨b,off,hA,hcs⟩:=(HL.out.later hbw).at hne
   obtain⟨e0,e1,e2,e3⟩:=hcs k hlt
   have HL':=HL
   subst hA
   have hi0:(0:Int)≤(k:Int):=by omega
   have hi1:(k:Int)<(L.length:Int):=by omega
   have hok:=hOK.out k hlt
   have hno:=hNO.out k (by rw[List.length_map];exact hlt)
   have hsu:=hSU.out k hlt
   have hbx:Ca.ok (L.map Bc.b) k→Wi.bright (L.getD k Bc.zero).b=true:=fun h=>by have:=h.1;rwa [Ca.map_getD]at this
   obtain⟨x,hx⟩:∃x,L.getD k Bc.zero=x:=⟨_,rfl⟩
   rw[hx]at e0 e1 e2 e3 hok hsu hbx
   obtain⟨X,d,⟨x0,x1,x2,v⟩⟩:=x
   dsimp only at e0 e1 e2 e3 hok hsu hbx
   obtain⟨q,hq⟩:∃q,Wi.bright ⟨x0,x1,x2,v⟩=q:=⟨_,rfl⟩
   have NR:=Hd (show Calls Tryz.prog 80 #[.agg #[.int .i64 x0,.int .i64 x1,.int .i64 x2,.slice X v.length d]] wr (Says (.bool q) wr) from by rw[←hq];exact bright_any X d ⟨x0,x1,x2,v⟩ wr)
   cases q with
   |false=>
    have hR:OK=false:=hno (fun h=>by have:=hbx h;rw[hq]at this;cases this)
    subst hR
    have BW:=Hd hbw
    clear hcs hx hbw hok hno hsu hbx hq hall hB
    go_wp2_with fail
    refine NR.out.mono ?_
    rintro e w3 ⟨rfl,b3⟩
    have BB:=Hd (below_on BW.out b3)
    clear b3 NR BW
    go_wp2
    go_ret
    exact⟨rfl,BB.out⟩
   |true=>
    obtain⟨o1,o2,o3⟩:=Ca.right_obj hq
    dsimp only at o1 o2 o3
    obtain⟨o,rfl⟩:∃o:Nat,x0=(o:Int):=⟨x0.toNat,by omega⟩
    have ho:o<256:=by omega
    have ho0:(0:Int)≤(o:Int):=by omega
    have ho1:(o:Int)<256:=by omega
    have hoks:=hok o rfl
    rw[hq]at hoks
    have hm:=hB.marks_cell o ho
    have hst:=hB.marks_put o ho true
    have hst2:=hst.marks_same (f':=Ca.seen L (k+1)) (fun i _=>by
     rw[hsu i]
     by_cases e:i=o
     ·subst e;simp
     ·rw[if_neg e,decide_eq_false (by omega),Bool.or_false])
    have hmf:=hB.free o
    have HST:=Hd hst2
    have BW:=Hd hbw
    have HALL:=Hd hall
    have HB:=Hd hB
    have HOKS:=Hd hoks
    have HSU:=Hd hsu
    have Hno:=Hd hno
    clear hcs hx hbw hok hno hsu hbx hq hall hB hst hst2 hoks
    cases hs:Ca.seen L k o with
    |true=>
     have hR:OK=false:=Hno.out (fun h=>by have:=(HOKS.out.1 h).2;rw[hs]at this;cases this)
     subst hR
     rw[hs]at hm
     clear hs HST
     go_wp2_with fail
     refine NR.out.mono ?_
     rintro e w3 ⟨rfl,b3⟩
     have hm3:=cell_later b3 hm
     have e03:=cell_later b3 e0
     have BB:=Hd (below_on BW.out b3)
     clear b3 NR BW hm e0 e1 e2 e3
     go_wp2
     go_ret
     exact⟨rfl,BB.out⟩
    |false=>
     have hok:=HOKS.out.2 ⟨rfl,hs⟩
     have HOK:=Hd hok
     rw[hs]at hm
     clear hs hok HST
     go_wp2_with fail
     refine NR.out.mono ?_
     rintro e w3 ⟨rfl,b3⟩
     have hm3:=cell_later b3 hm
     have e03:=cell_later b3 e0
     have hB3:=HB.out.later b3
     have hmf3:=hB3.free o
     have hst2:=(hB3.marks_put o ho true).marks_same (f':=Ca.seen L (k+1)) (fun i _=>by
      rw[HSU.out i]
      by_cases e:i=o
      ·subst e;simp
      ·rw[if_neg e,decide_eq_false (by omega),Bool.or_false])
     have HST:=Hd hst2
     have BB:=Hd ((below_on BW.out b3).setCell (p:=⟨w.heap.size,o,none⟩) (Nat.le_refl _) (.bool true))
     clear b3 NR BW hm e0 e1 e2 e3 hst2 hB3 hmf
     go_wp2_with fail
     go_roundw
     case rel=>
      refine⟨k+1,by omega,by go_num,fun j hj =>?_,HST.out,BB.out⟩
      by_cases e:j=k
      ·subst e;exact HOK.out
      ·exact HALL.out j (by omega)
     case measure=>simp[intOf];omega
  ·obtain rfl:k=L.length:=by omega
   have hR:OK=true:=hYES.out (fun j hj=>hall j (by rw[List.length_map]at hj;exact hj))
   have hu:=hUO.out hall
   subst hR
   have NU:=Hd (cused_any A c L wr (HL.out.later hbw) (by omega))
   obtain⟨U,hU⟩:∃U,Ca.used (L.map Bc.b)=U:=⟨_,rfl⟩
   rw[hU]at NU ⊢
   have BW:=Hd hbw
   have HU:=Hd hU
   clear hall hB hbw hu hU hYES
   go_wp2_with fail
   refine NU.out.mono ?_
   rintro e w3 ⟨rfl,b3⟩
   have BB:=Hd (below_on BW.out b3)
   clear b3 NU BW
   go_wp2
   go_ret
   exact⟨by rw[HU.out];simp,BB.out⟩
set_option maxRecDepth 100000 in
set_option maxHeartbeats 6400000 in
theorem vreached_any(q:Vl)(y:Wr)(w:World)(h:VwAt w q):Calls Tryz.prog 58 #[.agg (vwCells q),.agg (Nt.wrArr y)] w (Says (.bool (Vw.has q.vw y)) w):=by
 obtain⟨t,ht⟩:∃t,Vw.has q.vw y=t:=⟨_,rfl⟩
 rw[ht]
 obtain⟨R,hR⟩:∃R,Tr.rchR (q.z.map Zc.zn) q.k y.2.2.1=R:=⟨_,rfl⟩
 have HT:=Hd (show hasOf R y.1 y.2.1=t from by rw[←hR];exact ht)
 have b0:=below_new (below_new (Below.refl w.heap.size w) (.cells (vwCells q) 27)) (.cells (Nt.wrArr y) 52)
 have V0:=(Blk.new w 27 (vwCells q)).alloc (.cells (Nt.wrArr y) 52)
 have Y0:=Blk.new (w.alloc (.cells (vwCells q) 27)) 52 (Nt.wrArr y)
 rw[World.size_alloc]at Y0
 obtain⟨W,hW⟩:∃W,(w.alloc (.cells (vwCells q) 27)).alloc (.cells (Nt.wrArr y) 52)=W:=⟨_,rfl⟩
 rw[hW]at b0 V0 Y0
 have HW:=Hd hW
 obtain⟨g,hg⟩:∃g,w.heap.size=g:=⟨_,rfl⟩
 rw[hg]at V0 Y0
 have NR:=Hd (fun w' (hb:Below W.heap.size W w')=>show Calls Tryz.prog 36 #[.slice q.Z q.z.length q.cz,.slice q.K q.k.length q.ck,.int .i64 y.2.2.1] w' (Gives R w') from by
  have h1:=(h.later b0).later hb
  rw[←hR]
  exact zreach_any q.Z q.K q.cz q.ck q.z q.k y.2.2.1 w' h1.z h1.k)
 have B0:=Hd b0
 have v0:W.cell? ⟨g,0,none⟩=some (.slice q.K q.k.length q.ck):=V0.cell (i:=0) rfl
 have v1:W.cell? ⟨g,1,none⟩=some (.slice q.Z q.z.length q.cz):=V0.cell (i:=1) rfl
 have y0:W.cell? ⟨g+1,0,none⟩=some (.int .i64 y.1):=Y0.cell (i:=0) rfl
 have y1:W.cell? ⟨g+1,1,none⟩=some (.int .i64 y.2.1):=Y0.cell (i:=1) rfl
 have y2:W.cell? ⟨g+1,2,none⟩=some (.int .i64 y.2.2.1):=Y0.cell (i:=2) rfl
 clear ht hR h b0 V0 Y0 hW
 go_enter Tryz.func58,Tryz.ntmps58
 go_upto_region 1 with (fail)
 rw[HW.out]
 clear HW
 refine wp_region_facts 10 (by kernel_rfl) (by kernel_rfl)
  (fun v=>{ tmps:=#[.agg (vwCells q),.agg (Nt.wrArr y),.pointer (some ⟨g,0,none⟩),.pointer (some ⟨g+1,0,none⟩),.bool false,v 0,v 1,v 2,v 3,v 4,v 5,v 6,v 7,v 8,v 9],defers:=[] }) (fun _=>undef)
  (fun i x wx=>match i with
   |0=>x = .pointer (some ⟨g,1,none⟩)
   |1=>x = .slice q.Z q.z.length q.cz
   |2=>x = .pointer (some ⟨g,0,none⟩)
   |3=>x = .slice q.K q.k.length q.ck
   |4=>x = .pointer (some ⟨g+1,2,none⟩)
   |5=>x = .int .i64 y.2.2.1
   |6=>∃A9 c9,x = .slice A9 R.length c9∧OneL wx A9 c9 R
   |7=>x = .pointer (some ⟨g+1,0,none⟩)
   |8=>x = .agg #[.int .i64 y.1,.int .i64 y.2.1]
   |9=>x = .bool t
   |_=>True)
  (fun w1 w2=>Below w1.heap.size w1 w2) (fun h1 h2=>below_on h1 h2) (fun _=>Below.refl _ _) (Below.drew (Below.refl _ _)) ?stabR ?stepR ?doneR
 case stabR=>
  rintro i x w1 w2 h hb
  match i,h with
  |0,h=>exact h
  |1,h=>exact h
  |2,h=>exact h
  |3,h=>exact h
  |4,h=>exact h
  |5,h=>exact h
  |6,h=>obtain⟨A9,c9,e9,h9⟩:=h;exact⟨A9,c9,e9,h9.later hb⟩
  |7,h=>exact h
  |8,h=>exact h
  |9,h=>exact h
  |i+10,_=>trivial
 case stepR=>
  intro i hi v w' hb hd
  match i,hi with
  |0,_=>
   refine wpOp_oneH rfl fun KK HKK =>?_
   clear hd
   go_wp2
   exact HKK.out _ _ ⟨_,(by simp[upd];done),Below.refl _ _,rfl⟩
  |1,_=>
   have h0:v 0=_:=hdx hd 0 (by kernel_rfl)
   refine wpOp_oneH rfl fun KK HKK =>?_
   clear hd
   rw[h0]
   have q0:=cell_later hb v1
   go_wp2
   exact HKK.out _ _ ⟨_,(by simp[upd,h0];done),Below.refl _ _,rfl⟩
  |2,_=>
   refine wpOp_oneH rfl fun KK HKK =>?_
   clear hd
   go_wp2
   exact HKK.out _ _ ⟨_,(by simp[upd];done),Below.refl _ _,rfl⟩
  |3,_=>
   have h2:v 2=_:=hdx hd 2 (by kernel_rfl)
   refine wpOp_oneH rfl fun KK HKK =>?_
   clear hd
   rw[h2]
   have q0:=cell_later hb v0
   go_wp2
   exact HKK.out _ _ ⟨_,(by simp[upd,h2];done),Below.refl _ _,rfl⟩
  |4,_=>
   refine wpOp_oneH rfl fun KK HKK =>?_
   clear hd
   go_wp2
   exact HKK.out _ _ ⟨_,(by simp[upd];done),Below.refl _ _,rfl⟩
  |5,_=>
   have h4:v 4=_:=hdx hd 4 (by kernel_rfl)
   refine wpOp_oneH rfl fun KK HKK =>?_
   clear hd
   rw[h4]
   have q0:=cell_later hb y2
   go_wp2
   exact HKK.out _ _ ⟨_,(by simp[upd,h4];done),Below.refl _ _,rfl⟩
  |6,_=>
   have h1:v 1=_:=hdx hd 1 (by kernel_rfl)
   have h3:v 3=_:=hdx hd 3 (by kernel_rfl)
   have h5:v 5=_:=hdx hd 5 (by kernel_rfl)
   refine wpOp_oneH rfl fun KK HKK =>?_
   clear hd
   rw[h1,h3,h5]
   go_wp2_with fail
   refine(NR.out _ hb).mono ?_
   rintro e w'' ⟨v6,rfl,ho6,b⟩
   obtain⟨A6,c6,rfl,hB6⟩:=OneL.of_own ho6
   go_wp2
   exact HKK.out _ _ ⟨_,(by simp[upd,h1,h3,h5];done),b,A6,c6,rfl,hB6⟩
  |7,_=>
   refine wpOp_oneH rfl fun KK HKK =>?_
   clear hd
   go_wp2
   exact HKK.out _ _ ⟨_,(by simp[upd];done),Below.refl _ _,rfl⟩
  |8,_=>
   have h7:v 7=_:=hdx hd 7 (by kernel_rfl)
   refine wpOp_oneH rfl fun KK HKK =>?_
   clear hd
   rw[h7]
   have q0:=cell_later hb y0
   have q1:=cell_later hb y1
   go_wp2
   exact HKK.out _ _ ⟨_,(by simp[upd,h7];done),Below.refl _ _,rfl⟩
  |9,_=>
   obtain⟨B6,d6,h6,hB6⟩:=hd 6 (List.elem_iff.1 (by kernel_rfl))
   have h8:v 8=_:=hdx hd 8 (by kernel_rfl)
   refine wpOp_oneH rfl fun KK HKK =>?_
   clear hd
   rw[h6,h8]
   have NH:=Hd (rhas_any B6 d6 R y.1 y.2.1 w' hB6.len hB6.stamps)
   go_wp2_with fail
   refine NH.out.mono ?_
   rintro e w'' ⟨rfl,b⟩
   rw[HT.out]
   go_wp2
   exact HKK.out _ _ ⟨_,(by simp[upd,h6,h8];done),b,rfl⟩
  |k+10,hk=>exact absurd hk (by omega)
 case doneR=>
  intro v w5 hb hf
  have h0:v 0=_:=hf 0 (by decide)
  have h1:v 1=_:=hf 1 (by decide)
  have h2:v 2=_:=hf 2 (by decide)
  have h3:v 3=_:=hf 3 (by decide)
  have h4:v 4=_:=hf 4 (by decide)
  have h5:v 5=_:=hf 5 (by decide)
  obtain⟨B6,d6,h6,hB6⟩:=hf 6 (by decide)
  have h7:v 7=_:=hf 7 (by decide)
  have h8:v 8=_:=hf 8 (by decide)
  have h9:v 9=_:=hf 9 (by decide)
  clear hf
  rw[h0,h1,h2,h3,h4,h5,h6,h7,h8,h9]
  have BB:=Hd (below_on B0.out hb)
  clear hb B0 hB6
  go_wp2
  go_ret
  exact⟨rfl,BB.out⟩
set_option maxRecDepth 100000 in
set_option maxHeartbeats 6400000 in
theorem vwanted_any(q:Vl)(X:Option Addr)(d:Nat)(x:Bd)(w:World)(h:VwAt w q):Calls Tryz.prog 59 #[.agg (vwCells q),.agg (bdCells X d x)] w (Says (.bool (Vw.wants q.vw x)) w):=by
 obtain⟨x0,x1,x2,vl⟩:=x
 obtain⟨t,ht⟩:∃t,Vw.wants q.vw ⟨x0,x1,x2,vl⟩=t:=⟨_,rfl⟩
 rw[ht]
 obtain⟨⟨⟨a0,a1,a2,a3⟩,ok⟩,hp⟩:∃p,Nt.at_ q.h x0=p:=⟨_,rfl⟩
 have hT:(ok&&(decide (a0=x1∧a1=x2) && !a3))=t:=(fun p (hp:Nt.at_ q.h x0=p)=>show(p.2&&(decide (p.1.1=x1∧p.1.2.1=x2) && !p.1.2.2.2))=t from by subst hp;exact ht) _ hp
 have b0:=below_new (below_new (Below.refl w.heap.size w) (.cells (vwCells q) 27)) (.cells (bdCells X d ⟨x0,x1,x2,vl⟩) 49)
 have V0:=(Blk.new w 27 (vwCells q)).alloc (.cells (bdCells X d ⟨x0,x1,x2,vl⟩) 49)
 have Y0:=Blk.new (w.alloc (.cells (vwCells q) 27)) 49 (bdCells X d ⟨x0,x1,x2,vl⟩)
 rw[World.size_alloc]at Y0
 obtain⟨W,hW⟩:∃W,(w.alloc (.cells (vwCells q) 27)).alloc (.cells (bdCells X d ⟨x0,x1,x2,vl⟩) 49)=W:=⟨_,rfl⟩
 rw[hW]at b0 V0 Y0
 have HW:=Hd hW
 obtain⟨g,hg⟩:∃g,w.heap.size=g:=⟨_,rfl⟩
 rw[hg]at V0 Y0
 have NA:=Hd (show Calls Tryz.prog 88 #[.slice q.H q.h.length q.ch,.int .i64 x0] W (Says (.tuple #[.agg #[.int .i64 a0,.int .i64 a1,.int .i64 a2,.bool a3],.bool ok]) W) from by
  have n:=nat_any q.H q.ch q.h x0 W (h.later b0).h
  rw[hp]at n
  exact n)
 have B0:=Hd b0
 have v2:W.cell? ⟨g,2,none⟩=some (.slice q.H q.h.length q.ch):=V0.cell (i:=2) rfl
 have y0:W.cell? ⟨g+1,0,none⟩=some (.int .i64 x0):=Y0.cell (i:=0) rfl
 have y1:W.cell? ⟨g+1,1,none⟩=some (.int .i64 x1):=Y0.cell (i:=1) rfl
 have y2:W.cell? ⟨g+1,2,none⟩=some (.int .i64 x2):=Y0.cell (i:=2) rfl
 have HT:=Hd hT
 clear ht hp h b0 V0 Y0 hW hT
 go_enter Tryz.func59,Tryz.ntmps59
 go_upto_region 1 with (fail)
 rw[HW.out]
 clear HW
 go_wp2_with fail
 refine NA.out.mono ?_
 rintro e w2 ⟨rfl,b2⟩
 have bz:=below_new (Below.refl w2.heap.size w2) (.cells #[.int .i64 a0,.int .i64 a1,.int .i64 a2,.bool a3] 52)
 have BB:=Hd (below_on B0.out (below_on b2 bz))
 have A0:=Blk.new w2 52 #[.int .i64 a0,.int .i64 a1,.int .i64 a2,.bool a3]
 have z1:=cell_later (below_on b2 bz) y1
 have z2:=cell_later (below_on b2 bz) y2
 have c0:=A0.cell (i:=0) rfl
 have c1:=A0.cell (i:=1) rfl
 have c3:=A0.cell (i:=3) rfl
 clear b2 bz A0 NA B0 v2 y0 y1 y2
 cases ok with
 |false=>
  obtain rfl:t=false:=HT.out.symm
  clear HT
  go_wp2
  go_ret
  exact⟨rfl,BB.out⟩
 |true=>
  by_cases e0:a0=x1
  ·by_cases e1:a1=x2
   ·have d0:(a0 == x1)=true:=beq_iff_eq.2 e0
    have d1:(a1 == x2)=true:=beq_iff_eq.2 e1
    obtain rfl:t = !a3:=by rw[←HT.out,decide_eq_true ⟨e0,e1⟩];rfl
    clear HT e0 e1
    go_wp2
    go_ret
    exact⟨rfl,BB.out⟩
   ·have d0:(a0 == x1)=true:=beq_iff_eq.2 e0
    have d1:(a1 == x2)=false:=beq_eq_false_iff_ne.2 e1
    obtain rfl:t=false:=by rw[←HT.out,decide_eq_false (fun h=>e1 h.2)];rfl
    clear HT e0 e1
    go_wp2
    go_ret
    exact⟨rfl,BB.out⟩
  ·have d0:(a0 == x1)=false:=beq_eq_false_iff_ne.2 e0
   obtain rfl:t=false:=by rw[←HT.out,decide_eq_false (fun h=>e0 h.1)];rfl
   clear HT e0
   go_wp2
   go_ret
   exact⟨rfl,BB.out⟩
end Go.Proofs.YtjlfehpockfkdaaGreat
