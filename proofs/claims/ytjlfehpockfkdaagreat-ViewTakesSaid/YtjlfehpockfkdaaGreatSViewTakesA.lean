/-
  What the row of this claim stands on: StampPlain, VecPlain, Many, NotePlain, SpRefSet, OwnPut, SpRefOf, SpRefLists, SpRefSmall, RefRight, RefCounts, RefOf, RefVec, RefLists, RefFormed, RefJoin, RefTwo, NtCopy, NtSame, NtFormed, NtAt, TrPlain, SfPlain, ByPlain, CaPlain, WrBody, ByRef, WrBody2, CaRefA, VwFar, TrForm.
-/
import Derived.Test.YtjlfehpockfkdaaGreatB01
import Derived.Below
import Derived.Laws.OwnMore
import Derived.Deep.Draws
import Derived.Laws.Rows
import Derived.Test.YtjlfehpockfkdaaGreatProg
import Derived.Tactics
import Derived.Tactics2
import Derived.WalkKit
import Derived.WalkSpells
import Derived.OwnWalk
import Derived.Deep.QuietTactic
import Derived.BigQuiet
import Derived.Deep.RegionHeld3
import Derived.KernelRfl
import Derived.Lib.Hide
import Derived.Laws.Tables
import Derived.Laws.CopyOwn
import Derived.Laws.ResultCell
import Derived.Deep.DeepCutAuto
import Derived.RegionTactic
import Derived.BigRegion
import Derived.RangeFuncBox
import Derived.WalkSmall
import Derived.Lib.QuietBelow
import Derived.Laws.BytesArg
import Derived.Laws.StructEq
import Derived.MapKept
set_option maxRecDepth 100000
set_option maxHeartbeats 102400000
namespace Go.Proofs.YtjlfehpockfkdaaGreat
open Go.RowKit in
open Go.RowKit in
open Go.RowKit in
open Go.RowKit in
section
variable {w w':World} {g:Nat} {t:TypeId} {cs:Array Value}
theorem Blk.drewN(h:Blk w g t cs)(n:Nat):Blk (w.drewN n) g t cs:=h
end
end Go.Proofs.YtjlfehpockfkdaaGreat
namespace Go.Proofs.YtjlfehpockfkdaaGreat
namespace Ve
theorem cnt_drop(l:List (Int × Int))(k:Nat)(h:k<l.length)(n:Nat):cnt (l.drop k) n=if St.rgt l[k].1 l[k].2=true∧l[k].2=(n:Int) then l[k].1 else cnt (l.drop (k+1)) n:=by
 rw[List.drop_eq_getElem_cons h];rfl
end Ve
end Go.Proofs.YtjlfehpockfkdaaGreat
namespace Go.Proofs.YtjlfehpockfkdaaGreat
open Go.RowKit
theorem Rows.later{w w':World}{A:Option Addr}{ls:List (List (Int × Int))}(h:Rows w A ls)(hb:Below w.heap.size w w'):Rows w' A ls:=fun hne=>by
 obtain⟨b,off,hA,hc⟩:=h hne;refine⟨b,off,hA,fun k hk =>?_⟩
 obtain⟨A',c',h1,h2⟩:=hc k hk;exact⟨A',c',(hb.cell (World.block_lt_of_cell? w _ h1)).trans h1,h2.later hb⟩
theorem Rows.len{w:World}{A:Option Addr}{ls:List (List (Int × Int))}(h:Rows w A ls):∀k,k<ls.length→(ls.getD k []).length≤9223372036854775807:=fun k hk=>by
 obtain⟨_,_,_,hc⟩:=h (fun e=>by subst e;simp at hk)
 obtain⟨_,_,_,h2⟩:=hc k hk;exact h2.len
def AnsN(n:Note)(w:World)(e:Ending)(w':World):Prop:=∃S E B V cs ce cb cv,e = .returned (.agg (noteCells S E B V cs ce cb cv n))∧NoteAt w' S E B V cs ce cb cv n∧Below w.heap.size w w'
theorem info256:(Tryz.prog.info? 138).map (·.size)=some 256:=by kernel_rfl
theorem set_any(A:Option Addr)(cap:Nat)(l:List (Int × Int))(w:World)(hl:l.length≤9223372036854775807)(h:Stamps w A l) :
  Calls Tryz.prog 97 #[.slice A l.length cap] w fun e w'=>e = .returned (.agg (Sp.arr (Sp.inL l)))∧Below w.heap.size w w':=by
 have HS:=Hd h;clear h
 go_enter Tryz.func97,Tryz.ntmps97
 go_wp2_with fail;rw[marks_zero]
 go_loopw [4] (fun s4 wr=>∃k:Nat,k≤l.length∧s4 = .int .i64 (k:Int)∧Blk wr (w.heap.size+1) 138 (Sp.arr (Sp.inL (l.take k)))∧Blk wr w.heap.size 138 (Sp.arr fun _=>false)∧Below w.heap.size w wr) (fun s4 _=>l.length-(intOf s4).toNat)
 case atStart=>
  have hb:=Blk.new (w.alloc (.cells (Sp.arr fun _=>false) 138)) 138 (Sp.arr fun _=>false)
  rw[show(w.alloc (.cells (Sp.arr fun _=>false) 138)).heap.size=w.heap.size+1 from by simp]at hb
  exact⟨0,Nat.zero_le _,rfl,hb,(Blk.new _ _ _).alloc _,below_new (below_new (Below.refl _ _) _) _⟩
 case round=>
  obtain⟨k,hk,rfl,hB1,hB0,hbw⟩:=hrel
  by_cases hlt:k<l.length
  ·have hne:l≠[]:=fun e=>by subst e;simp at hlt
   obtain⟨b,off,hA,hc⟩:=HS.out hne;subst hA;obtain⟨e0,e1⟩:=hc k hlt;have hb0:b<w.heap.size:=World.block_lt_of_cell? _ _ e0;rw[List.getD_eq_getElem?_getD,List.getElem?_eq_getElem hlt,Option.getD_some]at e0 e1;have hit:=Sp.inL_take l k hlt;obtain⟨x,hx⟩:∃x,l[k].1=x:=⟨_,rfl⟩;obtain⟨y,hy⟩:∃y,l[k].2=y:=⟨_,rfl⟩;rw[hx]at e0 hit;rw[hy]at e1 hit;have F0:=Hd (fun wx (hq:Below w.heap.size w wx)=>(hq.cell (p:=⟨b,_,none⟩) hb0).trans e0)
   have F1:=Hd (fun wx (hq:Below w.heap.size w wx)=>(hq.cell (p:=⟨b,_,none⟩) hb0).trans e1)
   have f0:=F0.out wr hbw
   obtain⟨p,hp1,hp2⟩:∃p:Nat,x≤(p:Int)∧((p=0∧x≤0)∨((p:Int)=x∧0<x)):=by
    by_cases h0:0<x
    ·exact⟨x.toNat,by omega,.inr ⟨by omega,h0⟩⟩
    ·exact⟨0,by omega,.inl ⟨rfl,by omega⟩⟩
   have hfin:∀o:Nat,p≤o→(o=p∨((o:Int)≤y+1∧o≤256))→((y<255∧y<(o:Int))∨(255≤y∧255<(o:Int)))→∀j,j<256→(Sp.inL (l.take k) j||decide (p≤j∧j<o))=Sp.inL (l.take (k+1)) j:=fun o h1 h2 h3 j hj=>by
    rw[hit j]
    congr 1
    rw[Bool.eq_iff_iff,decide_eq_true_eq,decide_eq_true_eq];omega
   have hbeg:∀j,j<256→Sp.inL (l.take k) j=(Sp.inL (l.take k) j||decide (p≤j∧j<p)):=fun j _=>by
    rw[decide_eq_false (by omega),Bool.or_false]
   obtain⟨f,hf⟩:∃f,Sp.inL (l.take k)=f:=⟨_,rfl⟩;rw[hf]at hB1 hfin hbeg;have FIN:=Hd hfin;have HB1:=Hd (hB1.marks_same hbeg);have HB0:=Hd hB0;clear hit hc hfin hB1 hB0 hbeg hf e0 e1 hx hy;have hi0:(0:Int)≤(k:Int):=by omega
   have hi1:(k:Int)<(l.length:Int):=by omega
   have hstart:∀v,(v=Value.int .i64 0∧p=0)∨v = .int .i64 (p:Int)→v = .int .i64 (p:Int):=fun v h=>by
    rcases h with ⟨rfl,rfl⟩|h
    ·rfl
    ·exact h
   have hnext:∀o:Nat,p≤o→∀j,j<256→(if j=o then true else (f j||decide (p≤j∧j<o)))=(f j||decide (p≤j∧j<o+1)):=fun o ho j _=>by
    by_cases e:j=o
    ·rw[if_pos e,decide_eq_true (by omega),Bool.or_true]
    ·rw[if_neg e]
     congr 1
     rw[Bool.eq_iff_iff,decide_eq_true_eq,decide_eq_true_eq];omega
   have HST:=Hd hstart;have HNX:=Hd hnext;clear hstart hnext;rcases hp2 with ⟨hp0,hx0⟩|⟨rfl,hx0⟩
   all_goals
    go_wp2_with fail
    go_loopw [5] (fun s5 wq=>∃o:Nat,p≤o∧(o=p∨((o:Int)≤y+1∧o≤256))∧s5 = .int .i64 (o:Int)∧Blk wq (w.heap.size+1) 138 (Sp.arr fun j=>f j||decide (p≤j∧j<o))∧Blk wq w.heap.size 138 (Sp.arr fun _=>false)∧Below w.heap.size w wq) (fun s5 _=>256-(intOf s5).toNat)
    case atStart=>exact⟨p,Nat.le_refl _,.inl rfl,HST.out _ (by first|exact .inr rfl|exact .inl ⟨rfl,hp0⟩),HB1.out,HB0.out,hbw⟩
    case round=>
     obtain⟨o,hpo,hoo,rfl,hC,hD,hbq⟩:=hrel;have f1:=F1.out _ hbq;have HC:=Hd hC;have HD:=Hd hD;have HOO:=Hd hoo;clear hC hD hoo;rcases Int.lt_or_le y 255 with hy|hy
     ·by_cases ho:(o:Int)≤y
      ·have ho2:o<256:=by omega
       have x1:=HC.out.marks_cell o ho2;have x2:=HC.out.free o;have hj0:(0:Int)≤(o:Int):=by omega
       have hj1:(o:Int)<256:=by omega
       have B7:=Hd ((HC.out.marks_put o ho2 true).marks_same (HNX.out o hpo));have B8:=Hd (HD.out.far (p:=⟨w.heap.size+1,o,none⟩) (by simp) (.bool true))
       have hbz:=hbq.setCell (p:=⟨w.heap.size+1,o,none⟩) (by simp) (.bool true)
       go_wp2_with fail
       go_roundw
       case rel=>exact⟨o+1,by omega,.inr ⟨by omega,by omega⟩,by go_num,B7.out,B8.out,hbz⟩
       case measure=>simp[intOf];omega
      ·have hno:y<(o:Int):=by omega
       have B7:=Hd (HC.out.marks_same (FIN.out o hpo HOO.out (.inl ⟨hy,hno⟩)));go_wp2_with fail
       go_roundw
       case rel=>exact⟨k+1,by omega,by go_num,B7.out,HD.out,hbq⟩
       case measure=>simp[intOf];omega
     ·by_cases ho:(o:Int)≤255
      ·have ho2:o<256:=by omega
       have x1:=HC.out.marks_cell o ho2;have x2:=HC.out.free o;have hj0:(0:Int)≤(o:Int):=by omega
       have hj1:(o:Int)<256:=by omega
       have B7:=Hd ((HC.out.marks_put o ho2 true).marks_same (HNX.out o hpo));have B8:=Hd (HD.out.far (p:=⟨w.heap.size+1,o,none⟩) (by simp) (.bool true))
       have hbz:=hbq.setCell (p:=⟨w.heap.size+1,o,none⟩) (by simp) (.bool true)
       go_wp2_with fail
       go_roundw
       case rel=>exact⟨o+1,by omega,.inr ⟨by omega,by omega⟩,by go_num,B7.out,B8.out,hbz⟩
       case measure=>simp[intOf];omega
      ·have hno:255<(o:Int):=by omega
       have B7:=Hd (HC.out.marks_same (FIN.out o hpo HOO.out (.inr ⟨hy,hno⟩)));go_wp2_with fail
       go_roundw
       case rel=>exact⟨k+1,by omega,by go_num,B7.out,HD.out,hbq⟩
       case measure=>simp[intOf];omega
  ·have hkl:k=l.length:=by omega
   subst hkl;rw[List.take_length]at hB1
   go_wp2_with (first|(refine wpList_load_row rfl 138 _ rfl (w.heap.size+1) rfl 138 _ (0,0) _ hB1 Tryz.underlying138 rfl (by rw[Sp.arr_size];exact info256) ?_)|(refine wpList_store_row rfl 138 _ _ rfl w.heap.size _ rfl rfl 138 _ hB0 (by rw[Sp.arr_size];exact info256) (by rw[Sp.arr_size,Sp.arr_size]) (one_marks _) ?_))
   refine bodyPost_ret (v :=.agg (Sp.arr (Sp.inL l))) (results_cell_row rfl _ _ w.heap.size 138 (Sp.arr (Sp.inL l)) (0,0) _ rfl (setRow_heap _ _ _ _ _ _ hB0) Tryz.underlying138 rfl (by rw[Sp.arr_size];exact info256)) rfl ⟨rfl,below_setRow hbw (Nat.le_refl _) _⟩
theorem Blk.rowFar{w:World}{g g':Nat}{t:TypeId}{cs:Array Value}(h:Blk w g t cs)(hne:g≠g')(cs':Array Value):Blk (w.setRow g' cs') g t cs:=(setRow_other _ _ _ _ hne).trans h
theorem ofS_any(f:Nat→Bool)(w:World):Calls Tryz.prog 148 #[.agg (Sp.arr f)] w (GivesS (Sp.ofL f) w):=by
 obtain⟨i0,hi,hz0,hz1,hz2⟩:=info_parts infoSp
 go_enter Tryz.func148,Tryz.ntmps148
 go_wp2_with fail
 go_loopw [3,4] (fun s3 s4 wr=>∃k:Nat,k≤256∧s4 = .int .i64 (k:Int)∧wr.ownsRow (w.heap.size+1) 97 2 s3 (Sp.ofTo f k).length (stCells (Sp.ofTo f k))∧Blk wr w.heap.size 138 (Sp.arr f)∧Below w.heap.size w wr) (fun _ s4 _=>256-(intOf s4).toNat)
 case atStart=>exact⟨0,by omega,rfl,⟨rfl,.inl ⟨rfl,rfl⟩⟩,Blk.new _ _ _,below_new (Below.refl _ _) _⟩
 case round=>
  obtain⟨k,hk,rfl,hown,hB,hbw⟩:=hrel
  by_cases hlt:k<256
  ·have c0:=hB.marks_cell k hlt
   have hi0:(0:Int)≤(k:Int):=by omega
   have hi1:(k:Int)<256:=by omega
   have hln:(Sp.ofTo f k).length≤256:=by have:=Sp.ofTo_short f k;omega
   have hsz:=hbw.size;have HB:=Hd hB;have hst:=Sp.ofTo.eq_2 f k;have his:=(Sp.ofTo_is f k).2.2.1;cases hp:f k
   ·rw[hp]at c0 hst
    have HST:=Hd (hst.trans (if_neg (by simp)))
    have HO:=Hd hown;clear hown hst hp hB his;go_wp2_with fail
    go_roundw
    case rel=>exact⟨k+1,by omega,by go_num,by rw[HST.out];exact HO.out,HB.out,hbw⟩
    case measure=>simp[intOf];omega
   ·rw[hp]at c0 hst
    rw[if_pos rfl]at hst
    by_cases hq:0<k∧f (k-1)=true
    ·rw[if_pos hq]at hst
     obtain⟨hl0,_⟩:=his hq.1 hq.2;obtain⟨m,rfl⟩:∃m,k=m+1:=⟨k-1,by omega⟩
     have c1:=hB.marks_cell m (by omega)
     have hfm:f m=true:=hq.2;rw[hfm]at c1;have hm1:((m+1:Nat):Int)-1=(m:Int):=by omega
     have hm0:(0:Int)≤(m:Int):=by omega
     have hm2:(m:Int)<256:=by omega
     have hg:decide (((m+1:Nat):Int)>0)=true:=decide_eq_true (by omega)
     obtain⟨g,cap,rfl⟩:=own_len hown hl0;obtain⟨hg1,hg2⟩:=own_base_le hown;have hrc:=reach_cells _ hl0 ((m+1:Nat):Int);have hrl:=Sp.reach_len _ ((m+1:Nat):Int) hl0;obtain⟨L,hL⟩:∃L,Sp.ofTo f (m+1)=L:=⟨_,rfl⟩;rw[hL]at hown hrc hrl hst hl0 hln;obtain⟨q,hq1⟩:∃q,L.length=q+1:=⟨L.length-1,by omega⟩
     have hcl:=own_cell_at hown (i:=q*2+1) (stCells_get L q (by omega)).2
     have hfr:=own_free_at hown (q*2+1);have hpt:=own_put hown (q*2+1) (.int .i64 ((m+1:Nat):Int));rw[hq1,show q+1-1=q from rfl]at hrc;rw[hrc]at hpt;rw[←hst]at hpt hrl;rw[←hrl]at hpt;have hq2:((q+1:Nat):Int)-1=(q:Int):=by omega
     have hq3:(0:Int)≤(q:Int):=by omega
     have hq4:(q:Int)<((q+1:Nat):Int):=by omega
     have hB2:=Hd (HB.out.far (p:=⟨g,q*2+1,none⟩) (by show w.heap.size≠g;omega) (.int .i64 ((m+1:Nat):Int)))
     have hb2:=hbw.setCell (p:=⟨g,q*2+1,none⟩) (by show w.heap.size≤g;omega) (.int .i64 ((m+1:Nat):Int))
     rw[hrl,hq1]at hpt;rw[hL,hq1];have HPT:=Hd hpt;have HRL:=Hd (hrl.trans hq1);clear hpt hrc hst hown hB hq hp hfm hL his hl0;go_wp2_with fail
     go_roundw
     case rel=>exact⟨m+1+1,by omega,by go_num,by rw[HRL.out];exact HPT.out,hB2.out,hb2⟩
     case measure=>simp[intOf];omega
    ·have hgd:0<k→f (k-1)=false:=fun h0=>by
      cases hf:f (k-1) with
      |false=>rfl
      |true=>exact absurd ⟨h0,hf⟩ hq
     rw[if_neg hq]at hst;have HST:=Hd hst;cases k with
     |zero=>
      clear hst hq hp hB his
      go_wp2_with (at_builtin;refine wpList_append_lies _ rfl _ _ 28 rfl (w.heap.size+1) 97 i0 (.agg #[.int .i64 0,.int .i64 0]) 2 16 Tryz.underlying28 hi hz0 hz1 hz2 rfl (by decide) _ (Sp.ofTo f 0).length (stCells (Sp.ofTo f 0)) rfl (hown.alloc _) (some ⟨wr.heap.size,0,none⟩) 1 1 (fun h=>by cases h) (stCells [(0,0)]) rfl rfl ?c1 (stCells_one _) ?c3 ?c4 ?c5 ?_)
      case c1=>
       intro _;refine⟨wr.heap.size,0,rfl,fun j u hu =>?_⟩
       rw[Nat.zero_add];exact(Blk.new wr 97 #[.int .i64 0,.int .i64 0]).cell (by simpa[stCells] using hu)
      case c3=>unfold maxLen;omega
      case c4=>omega
      case c5=>have:=HB.out.lt;simp;omega
      intro v' w1 hown1 hg1 _;have hB1:Blk w1 w.heap.size 138 (Sp.arr f):=(hg1.block w.heap.size (by have:=HB.out.lt;simp;omega) (fun e=>by have:=own_ge hown _ e.symm;omega)).trans (HB.out.alloc _)
      have hb1:Below w.heap.size w w1:=(below_new hbw _).grown hg1 (by simp;omega) (fun k' hk'=>by have:=own_ge hown _ hk';omega)
      rw[←stCells_append,show(Sp.ofTo f 0).length+1=(Sp.ofTo f 0++[(((0:Nat):Int),((0:Nat):Int))]).length from by simp]at hown1
      have HO:=Hd (show w1.ownsRow _ _ _ v' _ (stCells (Sp.ofTo f 0++[(((0:Nat):Int),((0:Nat):Int))])) from hown1);have HB1:=Hd hB1;clear hown1 hB1 hown hg1;go_wp2_with fail
      go_roundw
      case rel=>exact⟨0+1,by omega,by go_num,by rw[HST.out];exact HO.out,HB1.out,hb1⟩
      case measure=>simp[intOf]
     |succ m=>
      have c1:=hB.marks_cell m (by omega)
      have hfm:f m=false:=hgd (by omega)
      rw[hfm]at c1;have hm1:((m+1:Nat):Int)-1=(m:Int):=by omega
      have hm0:(0:Int)≤(m:Int):=by omega
      have hm2:(m:Int)<256:=by omega
      have hg:decide (((m+1:Nat):Int)>0)=true:=decide_eq_true (by omega)
      clear hst hq hp hB his hgd hfm
      go_wp2_with (at_builtin;refine wpList_append_lies _ rfl _ _ 28 rfl (w.heap.size+1) 97 i0 (.agg #[.int .i64 0,.int .i64 0]) 2 16 Tryz.underlying28 hi hz0 hz1 hz2 rfl (by decide) _ (Sp.ofTo f (m+1)).length (stCells (Sp.ofTo f (m+1))) rfl (hown.alloc _) (some ⟨wr.heap.size,0,none⟩) 1 1 (fun h=>by cases h) (stCells [(((m+1:Nat):Int),((m+1:Nat):Int))]) rfl rfl ?c1 (stCells_one _) ?c3 ?c4 ?c5 ?_)
      case c1=>
       intro _;refine⟨wr.heap.size,0,rfl,fun j u hu =>?_⟩
       rw[Nat.zero_add];exact(Blk.new wr 97 #[.int .i64 ((m+1:Nat):Int),.int .i64 ((m+1:Nat):Int)]).cell (by simpa[stCells] using hu)
      case c3=>unfold maxLen;omega
      case c4=>omega
      case c5=>have:=HB.out.lt;simp;omega
      intro v' w1 hown1 hg1 _;have hB1:Blk w1 w.heap.size 138 (Sp.arr f):=(hg1.block w.heap.size (by have:=HB.out.lt;simp;omega) (fun e=>by have:=own_ge hown _ e.symm;omega)).trans (HB.out.alloc _)
      have hb1:Below w.heap.size w w1:=(below_new hbw _).grown hg1 (by simp;omega) (fun k' hk'=>by have:=own_ge hown _ hk';omega)
      rw[←stCells_append,show(Sp.ofTo f (m+1)).length+1=(Sp.ofTo f (m+1)++[(((m+1:Nat):Int),((m+1:Nat):Int))]).length from by simp]at hown1
      have HO:=Hd hown1;have HB1:=Hd hB1;clear hown1 hB1 hown hg1;go_wp2_with fail
      go_roundw
      case rel=>exact⟨m+1+1,by omega,by go_num,by rw[HST.out];exact HO.out,HB1.out,hb1⟩
      case measure=>simp[intOf];omega
  ·have hk64:k=256:=by omega
   subst hk64;have HO:=Hd hown;clear hown;go_wp2;go_ret;exact⟨_,rfl,own_base HO.out (by omega),hbw⟩
theorem ssame_any(A B:Option Addr)(c1 c2:Nat)(l r:List (Int × Int))(w:World)(hl:l.length≤9223372036854775807)(h1:Stamps w A l)(h2:Stamps w B r) :
  Calls Tryz.prog 73 #[.slice A l.length c1,.slice B r.length c2] w fun e w'=>e = .returned (.bool (decide (l=r)))∧Below w.heap.size w w':=by
 have H1:=Hd h1;have H2:=Hd h2;clear h1 h2
 by_cases hlen:l.length=r.length
 ·have hd0:((l.length:Int) != (r.length:Int))=false:=by rw[bne_eq_false_iff_eq];omega
  have HLEN:=Hd hlen;have hr1:r.length≤l.length:=by omega
  have hr2:l.length≤r.length:=by omega
  clear hlen
  go_enter Tryz.func73,Tryz.ntmps73
  go_wp2_with fail
  go_loopw [5] (fun s5 wr=>∃k:Nat,k≤l.length∧s5 = .int .i64 (k:Int)∧(∀j,j<k→l.getD j (0,0)=r.getD j (0,0))∧Below w.heap.size w wr) (fun s5 _=>l.length-(intOf s5).toNat)
  case atStart=>exact⟨0,Nat.zero_le _,rfl,fun j hj=>by omega,Below.refl _ _⟩
  case round=>
   obtain⟨k,hk,rfl,heq,hbw⟩:=hrel;have HEQ:=Hd heq;clear heq
   by_cases hlt:k<l.length
   ·have hne:l≠[]:=fun e=>by subst e;simp at hlt
    have hne2:r≠[]:=fun e=>by have:=HLEN.out;subst e;simp at this;exact hne this
    obtain⟨b,off,hA,hcA⟩:=(H1.out.later hbw) hne;obtain⟨b',off',hB,hcB⟩:=(H2.out.later hbw) hne2;obtain⟨e0,e1⟩:=hcA k hlt;obtain⟨f0,f1⟩:=hcB k (by omega)
    have H1':=H1;have H2':=H2;subst hA hB;clear hcA hcB;have hi0:(0:Int)≤(k:Int):=by omega
    have hi1:(k:Int)<(l.length:Int):=by omega
    have hi2:(k:Int)<(r.length:Int):=by omega
    obtain⟨x,hx⟩:∃x,l.getD k (0,0)=x:=⟨_,rfl⟩;obtain⟨y,hy⟩:∃y,r.getD k (0,0)=y:=⟨_,rfl⟩;rw[hx]at e0 e1;rw[hy]at f0 f1;have HX:=Hd hx;have HY:=Hd hy;clear hx hy
    by_cases hxy:x=y
    ·subst hxy
     go_wp2_with fail
     go_quiet (fail)
     go_wp2_with fail
     go_roundw
     case rel=>
      refine⟨k+1,by omega,by go_num,?_,below_drewN hbw _⟩
      intro j hj
      by_cases e:j=k
      ·subst e;rw[HX.out,HY.out]
      ·exact HEQ.out j (by omega)
     case measure=>simp[intOf];omega
    ·have hno:decide (l=r)=false:=decide_eq_false (fun e=>hxy (by rw[←HX.out,←HY.out,e]))
     have HNO:=Hd hno;clear hno;obtain⟨x1,x2⟩:=x;obtain⟨y1,y2⟩:=y
     by_cases h1:x1=y1
     ·subst h1
      have h2:(x2 == y2)=false:=beq_eq_false_iff_ne.2 (fun e=>hxy (by rw[e]))
      clear hxy;go_wp2_with fail
      go_quiet (fail)
      go_wp2;go_ret;exact⟨by rw[HNO.out];rfl,below_drewN hbw _⟩
     ·have h1b:(x1 == y1)=false:=beq_eq_false_iff_ne.2 h1
      clear hxy h1;go_wp2_with fail
      go_quiet (fail)
      go_wp2;go_ret;exact⟨by rw[HNO.out];rfl,below_drewN hbw _⟩
   ·have hyes:decide (l=r)=true:=decide_eq_true (take_ext HLEN.out (fun j hj=>HEQ.out j (by omega)))
    have HY:=Hd hyes;clear hyes;go_wp2;go_ret;exact⟨by rw[HY.out];rfl,hbw⟩
 ·have hd0:((l.length:Int) != (r.length:Int))=true:=by rw[bne_iff_ne];omega
  have hno:decide (l=r)=false:=decide_eq_false (fun e=>hlen (by rw[e]))
  have HNO:=Hd hno;clear hno
  go_enter Tryz.func73,Tryz.ntmps73
  go_wp2;go_ret;exact⟨by rw[HNO.out];rfl,Below.refl _ _⟩
theorem scopy_any(A:Option Addr)(c1:Nat)(l:List (Int × Int))(w:World)(hl:l.length*16≤140737488355328)(hA:A=none→l.length=0∧c1=0)(h1:Lies w A (stCells l)) :
  Calls Tryz.prog 65 #[.slice A l.length c1] w (GivesS l w):=by
 obtain⟨i0,hi,hz0,hz1,hz2⟩:=info_parts infoSp
 have hown:(w.alloc (.cells #[] 97)).ownsRow w.heap.size 97 2 (.slice (some ⟨w.heap.size,0,none⟩) 0 0) 0 []:=
  ⟨rfl,.inr ⟨w.heap.size,0,#[],rfl,Nat.le_refl _,heap_alloc_new w _,Nat.le_refl _,Nat.zero_le _,rfl,rfl⟩⟩
 have HA:=Hd hA;clear hA
 go_enter Tryz.func65,Tryz.ntmps65
 go_wp2_with (at_builtin;refine wpList_append_lies _ rfl _ _ 28 rfl w.heap.size 97 i0 (.agg #[.int .i64 0,.int .i64 0]) 2 16 Tryz.underlying28 hi hz0 hz1 hz2 rfl (by decide) _ 0 [] rfl hown A l.length c1 HA.out (stCells l) rfl (stCells_length l) (h1.alloc _) (stCells_one l) ?c3 ?c4 ?c5 ?_)
 case c3=>unfold maxLen;omega
 case c4=>omega
 case c5=>simp
 intro v' w1 hown1 hg1 _;have hbw:Below w.heap.size w w1:=(below_new (Below.refl _ _) (.cells #[] 97)).grown hg1 (by simp) (by intro k hk;simp[Value.ownBlock]at hk;omega)
 try simp only[Nat.zero_add,List.nil_append]at hown1
 have HO:=Hd hown1;clear hown hown1 hg1;go_wp2;go_ret;exact⟨_,rfl,HO.out,hbw⟩
theorem GivesS.one{l:List (Int × Int)}{w w':World}{e:Ending}(h:GivesS l w e w'):∃A c,e = .returned (.slice A l.length c)∧OneL w' A c l∧Below w.heap.size w w':=by
 obtain⟨v,rfl,ho,hb⟩:=h;obtain⟨A,c,rfl,h1⟩:=OneL.of_own ho;exact⟨A,c,rfl,h1,hb⟩
theorem sformed_any(A:Option Addr)(c:Nat)(l:List (Int × Int))(w:World)(h1:OneL w A c l) :
  Calls Tryz.prog 169 #[.slice A l.length c] w fun e w'=>e = .returned (.bool (Sp.fmd l))∧Below w.heap.size w w':=by
 have hl:=h1.len
 by_cases hle:l.length≤128
 ·have hd:decide ((l.length:Int)≤128)=true:=decide_eq_true (by omega)
  have hf:Sp.fmd l=decide (l=Sp.ofL (Sp.inL l)):=by
   unfold Sp.fmd;rw[Bool.eq_iff_iff,decide_eq_true_eq,decide_eq_true_eq];exact⟨fun h=>h.2,fun h=>⟨hle,h⟩⟩
  have hol:=Sp.ofL_len (Sp.inL l);have n1:=set_any A c l w hl h1.stamps;have n2:=fun wx=>ofS_any (Sp.inL l) wx
  obtain⟨m,hm⟩:∃m,Sp.ofL (Sp.inL l)=m:=⟨_,rfl⟩;obtain⟨f,hff⟩:∃f,Sp.inL l=f:=⟨_,rfl⟩;rw[hff]at n1;rw[hm]at n2 hf hol;rw[hff]at n2;have N1:=Hd n1;have N2:=Hd n2;have HF:=Hd hf;have H1:=Hd h1;clear n1 n2 hf h1 hm hff
  go_enter Tryz.func169,Tryz.ntmps169
  go_wp2_with fail;refine N1.out.mono ?_;rintro e w1 ⟨rfl,b1⟩;clear N1;go_wp2_with fail;refine(N2.out _).mono ?_;rintro e w2 hg;obtain⟨B,d,rfl,ho,b2⟩:=hg.one;have hbb:=below_on b1 b2;have hs:=ssame_any A B c d l m w2 hl (H1.out.later hbb).stamps ho.stamps;have HS:=Hd hs;clear hg ho hs N2 H1;go_wp2_with fail;refine HS.out.mono ?_;rintro e w3 ⟨rfl,b3⟩;go_wp2;go_ret;exact⟨by rw[HF.out];rfl,below_on hbb b3⟩
 ·have hd:decide ((l.length:Int)≤128)=false:=decide_eq_false (by omega)
  have hf:Sp.fmd l=false:=by
   unfold Sp.fmd;exact decide_eq_false (fun h=>hle h.1)
  have HF:=Hd hf;clear hf
  go_enter Tryz.func169,Tryz.ntmps169
  go_wp2;go_ret;exact⟨by rw[HF.out];rfl,Below.refl _ _⟩
theorem index_marks(f:Nat→Bool)(k:Nat)(hk:k<256)(w:World):(Instr.index 138 (.agg (Sp.arr f)) (.int .i64 (k:Int))).run Tryz.prog w = .ok (.bool (f k)) w:=by
 have h1:=Sp.arr_get f k hk;simp[Instr.index,asIntOf,run_underlying Tryz.underlying138,part,Tryz.isAgg4,Tryz.sizeOf4,h1];intro h;exact absurd h (by omega)
theorem shas_any(A:Option Addr)(c:Nat)(l:List (Int × Int))(o:Int)(w:World)(h1:OneL w A c l) :
  Calls Tryz.prog 41 #[.slice A l.length c,.int .i64 o] w fun e w'=>e = .returned (.bool (inOf l o))∧Below w.heap.size w w':=by
 have n1:=set_any A c l w h1.len h1.stamps
 by_cases h0:0≤o
 ·have hd:decide (0≤o)=true:=decide_eq_true h0
  by_cases h2:o≤255
  ·obtain⟨k,rfl⟩:∃k:Nat,o=(k:Int):=⟨o.toNat,by omega⟩
   have hd2:decide ((k:Int)≤255)=true:=decide_eq_true h2;have hk:k<256:=by omega
   have hi:inOf l (k:Int)=Sp.inL l k:=by unfold inOf;rw[decide_eq_true ⟨h0,h2⟩];rfl
   have HI:=Hd hi;have hix:=fun w=>index_marks (Sp.inL l) k hk w
   have N1:=Hd n1;clear n1 hi
   go_enter Tryz.func41,Tryz.ntmps41
   go_wp2_with fail;refine N1.out.mono ?_;rintro e w1 ⟨rfl,b1⟩;go_wp2;go_ret;exact⟨by rw[HI.out];rfl,b1⟩
  ·have hd2:decide (o≤255)=false:=decide_eq_false h2
   have hi:inOf l o=false:=by unfold inOf;rw[decide_eq_false (fun h=>h2 h.2)];rfl
   have HI:=Hd hi;clear n1 hi
   go_enter Tryz.func41,Tryz.ntmps41
   go_wp2;go_ret;exact⟨by rw[HI.out];rfl,Below.refl _ _⟩
 ·have hd:decide (0≤o)=false:=decide_eq_false h0
  have hi:inOf l o=false:=by unfold inOf;rw[decide_eq_false (fun h=>h0 h.1)];rfl
  have HI:=Hd hi;clear n1 hi
  go_enter Tryz.func41,Tryz.ntmps41
  go_wp2;go_ret;exact⟨by rw[HI.out];rfl,Below.refl _ _⟩
theorem rright_c(c n:Int)(w:World)(h:c<1) :
  Calls Tryz.prog 102 #[.agg #[.int .i64 c,.int .i64 n]] w fun e w'=>e = .returned (.bool (St.rgt c n))∧Below w.heap.size w w':=by
 have h0:St.rgt c n=false:=by unfold St.rgt;simp;omega
 have H0:=Hd h0;clear h0;have hd0:decide (1≤c)=false:=decide_eq_false (by omega)
 go_enter Tryz.func102,Tryz.ntmps102
 go_wp2;go_ret;rw[H0.out];exact⟨rfl,by repeat (first|exact Below.refl _ _|exact Nat.le_refl _|(apply Below.drew)|(refine Below.alloc ?_ ?_ _)|(refine Below.setCell ?_ ?_ _)|(simp)|(simp;omega))⟩
theorem rright_n(c n:Int)(w:World)(h:1≤c)(hn:n<0) :
  Calls Tryz.prog 102 #[.agg #[.int .i64 c,.int .i64 n]] w fun e w'=>e = .returned (.bool (St.rgt c n))∧Below w.heap.size w w':=by
 have h0:St.rgt c n=false:=by unfold St.rgt;simp;omega
 have H0:=Hd h0;clear h0;have hd0:decide (1≤c)=true:=decide_eq_true (by omega)
 have hd1:decide (0≤n)=false:=decide_eq_false (by omega)
 go_enter Tryz.func102,Tryz.ntmps102
 go_wp2;go_ret;rw[H0.out];exact⟨rfl,by repeat (first|exact Below.refl _ _|exact Nat.le_refl _|(apply Below.drew)|(refine Below.alloc ?_ ?_ _)|(refine Below.setCell ?_ ?_ _)|(simp)|(simp;omega))⟩
theorem rright_m(c n:Int)(w:World)(h:1≤c)(hn:63<n) :
  Calls Tryz.prog 102 #[.agg #[.int .i64 c,.int .i64 n]] w fun e w'=>e = .returned (.bool (St.rgt c n))∧Below w.heap.size w w':=by
 have h0:St.rgt c n=false:=by unfold St.rgt;simp;omega
 have H0:=Hd h0;clear h0;have hd0:decide (1≤c)=true:=decide_eq_true (by omega)
 have hd1:decide (0≤n)=true:=decide_eq_true (by omega)
 have hd2:decide (n≤63)=false:=decide_eq_false (by omega)
 go_enter Tryz.func102,Tryz.ntmps102
 go_wp2;go_ret;rw[H0.out];exact⟨rfl,by repeat (first|exact Below.refl _ _|exact Nat.le_refl _|(apply Below.drew)|(refine Below.alloc ?_ ?_ _)|(refine Below.setCell ?_ ?_ _)|(simp)|(simp;omega))⟩
theorem rright_y(c n:Int)(w:World)(h:1≤c)(hn:0≤n)(hm:n≤63) :
  Calls Tryz.prog 102 #[.agg #[.int .i64 c,.int .i64 n]] w fun e w'=>e = .returned (.bool (St.rgt c n))∧Below w.heap.size w w':=by
 have h0:St.rgt c n=true:=by unfold St.rgt;simp;omega
 have H0:=Hd h0;clear h0;have hd0:decide (1≤c)=true:=decide_eq_true (by omega)
 have hd1:decide (0≤n)=true:=decide_eq_true (by omega)
 have hd2:decide (n≤63)=true:=decide_eq_true (by omega)
 go_enter Tryz.func102,Tryz.ntmps102
 go_wp2;go_ret;rw[H0.out];exact⟨rfl,by repeat (first|exact Below.refl _ _|exact Nat.le_refl _|(apply Below.drew)|(refine Below.alloc ?_ ?_ _)|(refine Below.setCell ?_ ?_ _)|(simp)|(simp;omega))⟩
theorem rright_any(c n:Int)(w:World) :
  Calls Tryz.prog 102 #[.agg #[.int .i64 c,.int .i64 n]] w fun e w'=>e = .returned (.bool (St.rgt c n))∧Below w.heap.size w w':=by
 by_cases h:c<1
 ·exact rright_c c n w h
 by_cases h1:n<0
 ·exact rright_n c n w (by omega) h1
 by_cases h2:63<n
 ·exact rright_m c n w (by omega) h2
 ·exact rright_y c n w (by omega) (by omega) (by omega)
theorem info64:(Tryz.prog.info? 185).map (·.size)=some 64:=by kernel_rfl
theorem counts_any(A:Option Addr)(cap:Nat)(l:List (Int × Int))(w:World)(hl:l.length≤9223372036854775807)(h:Stamps w A l) :
  Calls Tryz.prog 157 #[.slice A l.length cap] w fun e w'=>e = .returned (.agg (Ve.arr (Ve.cnt l)))∧Below w.heap.size w w':=by
 have HS:=Hd h;clear h
 go_enter Tryz.func157,Tryz.ntmps157
 go_wp2_with fail;rw[←Ve.arr_zero]
 go_loopw [4] (fun s4 wr=>((s4 = .int .i64 (-1)∧Blk wr (w.heap.size+1) 185 (Ve.arr (Ve.cnt l)))∨(∃m:Nat,m<l.length∧s4 = .int .i64 (m:Int)∧Blk wr (w.heap.size+1) 185 (Ve.arr (Ve.cnt (l.drop (m+1)))))) ∧
   Blk wr w.heap.size 185 (Ve.arr fun _=>0)∧Below w.heap.size w wr) (fun s4 _=>(intOf s4+1).toNat)
 case atStart=>
  refine⟨?_,(Blk.new _ _ _).alloc _,below_new (below_new (Below.refl _ _) _) _⟩;have hb:=Blk.new (w.alloc (.cells (Ve.arr fun _=>0) 185)) 185 (Ve.arr fun _=>0)
  rw[show(w.alloc (.cells (Ve.arr fun _=>0) 185)).heap.size=w.heap.size+1 from by simp]at hb
  cases hc:l.length with
  |zero=>
   have hln:l=[]:=List.eq_nil_of_length_eq_zero hc;subst hln;exact .inl ⟨rfl,hb⟩
  |succ m=>
   refine .inr ⟨m,by omega,by go_num,?_⟩
   rw[List.drop_of_length_le (by omega)]
   exact hb
 case round=>
  obtain⟨hm,hB0,hbw⟩:=hrel;rcases hm with ⟨rfl,hB1⟩|⟨m,hml,rfl,hB1⟩
  ·go_wp2_with (first|(refine wpList_load_row rfl 185 _ rfl (w.heap.size+1) rfl 185 _ (0,0) _ hB1 Tryz.underlying185 rfl (by rw[Ve.arr_size];exact info64) ?_)|(refine wpList_store_row rfl 185 _ _ rfl w.heap.size _ rfl rfl 185 _ hB0 (by rw[Ve.arr_size];exact info64) (by rw[Ve.arr_size,Ve.arr_size]) (one_arr _) ?_))
   refine bodyPost_ret (v :=.agg (Ve.arr (Ve.cnt l))) (results_cell_row rfl _ _ w.heap.size 185 (Ve.arr (Ve.cnt l)) (0,0) _ rfl (setRow_heap _ _ _ _ _ _ hB0) Tryz.underlying185 rfl (by rw[Ve.arr_size];exact info64)) rfl ⟨rfl,below_setRow hbw (Nat.le_refl _) _⟩
  ·have hne:l≠[]:=fun e=>by subst e;simp at hml
   obtain⟨b,off,hA,hc⟩:=HS.out hne;subst hA;obtain⟨e0,e1⟩:=hc m hml;have hb0:b<w.heap.size:=World.block_lt_of_cell? _ _ e0;rw[List.getD_eq_getElem?_getD,List.getElem?_eq_getElem hml,Option.getD_some]at e0 e1;have f0:=(hbw.cell (p:=⟨b,_,none⟩) hb0).trans e0;have f1:=(hbw.cell (p:=⟨b,_,none⟩) hb0).trans e1;have hcd:=Ve.cnt_drop l m hml;have HCD:=Hd hcd;have HB1:=Hd hB1;have HB0:=Hd hB0;clear e0 e1 hc hcd hB1 hB0;have hi0:(0:Int)≤(m:Int):=by omega
   have hi1:(m:Int)<(l.length:Int):=by omega
   have fin:∀wx,Blk wx (w.heap.size+1) 185 (Ve.arr (Ve.cnt (l.drop m)))→Blk wx w.heap.size 185 (Ve.arr fun _=>0)→Below w.heap.size w wx →
     (((Value.int .i64 ((m:Int)-1) = .int .i64 (-1)∧Blk wx (w.heap.size+1) 185 (Ve.arr (Ve.cnt l)))∨(∃m':Nat,m'<l.length∧Value.int .i64 ((m:Int)-1) = .int .i64 (m':Int)∧Blk wx (w.heap.size+1) 185 (Ve.arr (Ve.cnt (l.drop (m'+1)))))) ∧
      Blk wx w.heap.size 185 (Ve.arr fun _=>0)∧Below w.heap.size w wx):=by
    intro wx h1 h2 h3;refine⟨?_,h2,h3⟩;cases m with
    |zero=>exact .inl ⟨by simp,by simpa using h1⟩
    |succ m=>exact .inr ⟨m,by omega,by rw[show((m+1:Nat):Int)-1=(m:Int) from by omega],h1⟩
   have FIN:=Hd fin;clear fin;go_wp2_with fail;refine(rright_any _ _ _).mono ?_;rintro e w1 ⟨rfl,hb1⟩;have hbx:=below_on hbw hb1;have B1:=HB1.out.later hb1;have B0:=HB0.out.later hb1;cases hr:St.rgt l[m].1 l[m].2
   ·have hs:∀i,i<64→Ve.cnt (l.drop (m+1)) i=Ve.cnt (l.drop m) i:=fun i _=>by rw[HCD.out i,if_neg (by rw[hr];simp)]
    have B2:=Hd (B1.same hs);have B3:=Hd B0;clear B1 B0 hr hs;go_wp2_with fail
    go_roundw
    case rel=>exact FIN.out _ B2.out B3.out hbx
    case measure=>simp[intOf]
   ·have hrr:1≤l[m].1∧0≤l[m].2∧l[m].2≤63:=by unfold St.rgt at hr;exact of_decide_eq_true hr
    obtain⟨nn,hnn⟩:∃nn:Nat,l[m].2=(nn:Int):=⟨l[m].2.toNat,by omega⟩
    have hn64:nn<64:=by omega
    have hs:∀i,i<64→(if i=nn then l[m].1 else Ve.cnt (l.drop (m+1)) i)=Ve.cnt (l.drop m) i:=fun i _=>by
     rw[HCD.out i,hr,hnn]
     by_cases hi:i=nn
     ·rw[if_pos hi,if_pos ⟨rfl,by rw[hi]⟩]
     ·rw[if_neg hi,if_neg (fun h=>hi (by have:=h.2;omega))]
    have g0:=cell_later hb1 f0;have g1:=cell_later hb1 f1;rw[hnn]at g1;have c1:=B1.arr_cell nn hn64;have c2:=B1.free nn;have B2:=Hd ((B1.arr_put nn hn64 l[m].1).same hs);have B3:=Hd (B0.far (p:=⟨w.heap.size+1,nn,none⟩) (by simp) (.int .i64 l[m].1))
    have hj0:(0:Int)≤(nn:Int):=by omega
    have hj1:(nn:Int)<64:=by omega
    clear B1 B0 hr hs hrr hnn f0 f1;go_wp2_with fail
    go_region
    go_wp2_with fail
    go_roundw
    case rel=>exact FIN.out _ B2.out.drew B3.out.drew (hbx.setCell (by simp) _).drew
    case measure=>simp[intOf]
theorem of_any(f:Nat→Int)(w:World):Calls Tryz.prog 160 #[.agg (Ve.arr f)] w (Gives (Ve.ofL f) w):=by
 obtain⟨i0,hi,hz0,hz1,hz2⟩:=info_parts infoSt
 go_enter Tryz.func160,Tryz.ntmps160
 go_wp2_with fail
 go_loopw [3,4] (fun s3 s4 wr=>∃k:Nat,k≤64∧s4 = .int .i64 (k:Int)∧wr.ownsRow (w.heap.size+1) 46 2 s3 (Ve.ofTo f k).length (stCells (Ve.ofTo f k))∧Blk wr w.heap.size 185 (Ve.arr f)∧Below w.heap.size w wr) (fun _ s4 _=>64-(intOf s4).toNat)
 case atStart=>exact⟨0,by omega,rfl,⟨rfl,.inl ⟨rfl,rfl⟩⟩,Blk.new _ _ _,below_new (Below.refl _ _) _⟩
 case round=>
  obtain⟨k,hk,rfl,hown,hB,hbw⟩:=hrel
  by_cases hlt:k<64
  ·have c0:=hB.arr_cell k hlt
   have hi0:(0:Int)≤(k:Int):=by omega
   have hi1:(k:Int)<64:=by omega
   have hln:=Ve.ofTo_len f k;have hsz:=hbw.size;have HB:=Hd hB;clear hB
   by_cases hp:0<f k
   ·have hd:decide (0<f k)=true:=decide_eq_true hp
    have hst:Ve.ofTo f (k+1)=Ve.ofTo f k++[(f k,(k:Int))]:=by rw[Ve.ofTo,if_pos hp]
    have HST:=Hd hst;clear hst
    go_wp2_with (at_builtin;refine wpList_append_lies _ rfl _ _ 22 rfl (w.heap.size+1) 46 i0 (.agg #[.int .i64 0,.int .i64 0]) 2 16 Tryz.underlying22 hi hz0 hz1 hz2 rfl (by decide) _ (Ve.ofTo f k).length (stCells (Ve.ofTo f k)) rfl (hown.alloc _) (some ⟨wr.heap.size,0,none⟩) 1 1 (fun h=>by cases h) (stCells [(f k,(k:Int))]) rfl rfl ?c1 (stCells_one _) ?c3 ?c4 ?c5 ?_)
    case c1=>
     intro _;refine⟨wr.heap.size,0,rfl,fun j u hu =>?_⟩
     rw[Nat.zero_add];exact(Blk.new wr 46 #[.int .i64 (f k),.int .i64 (k:Int)]).cell (by simpa[stCells] using hu)
    case c3=>unfold maxLen;omega
    case c4=>omega
    case c5=>have:=HB.out.lt;simp;omega
    intro v' w1 hown1 hg1 _;have hB1:Blk w1 w.heap.size 185 (Ve.arr f):=(hg1.block w.heap.size (by have:=HB.out.lt;simp;omega) (fun e=>by have:=own_ge hown _ e.symm;omega)).trans (HB.out.alloc _)
    have hb1:Below w.heap.size w w1:=(below_new hbw _).grown hg1 (by simp;omega) (fun k' hk'=>by have:=own_ge hown _ hk';omega)
    rw[←stCells_append,show(Ve.ofTo f k).length+1=(Ve.ofTo f k++[(f k,(k:Int))]).length from by simp,←HST.out]at hown1
    have HO:=Hd hown1;have HB1:=Hd hB1;clear hown1 hB1 hown hg1;go_wp2_with fail
    go_roundw
    case rel=>exact⟨k+1,by omega,by go_num,HO.out,HB1.out,hb1⟩
    case measure=>simp[intOf];omega
   ·have hd:decide (0<f k)=false:=decide_eq_false hp
    have hst:Ve.ofTo f (k+1)=Ve.ofTo f k:=by rw[Ve.ofTo,if_neg hp,List.append_nil]
    have HST:=Hd hst;clear hst;have HO:=Hd hown;clear hown;go_wp2_with fail
    go_roundw
    case rel=>exact⟨k+1,by omega,by go_num,by rw[HST.out];exact HO.out,HB.out,hbw⟩
    case measure=>simp[intOf];omega
  ·have hk64:k=64:=by omega
   subst hk64;have HO:=Hd hown;clear hown;go_wp2;go_ret;exact⟨_,rfl,own_base HO.out (by omega),hbw⟩
theorem rcovers_any(A B:Option Addr)(c1 c2:Nat)(l r:List (Int × Int))(w:World)(hl:l.length≤9223372036854775807)(hr:r.length≤9223372036854775807)(h1:Stamps w A l)(h2:Stamps w B r) :
  Calls Tryz.prog 118 #[.slice A l.length c1,.slice B r.length c2] w fun e w'=>e = .returned (.bool (Ve.cov (Ve.cnt l) (Ve.cnt r)))∧Below w.heap.size w w':=by
 have H1:=Hd h1;have H2:=Hd h2;clear h1 h2;have n1:=fun w h=>counts_any A c1 l w hl h
 have n2:=fun w h=>counts_any B c2 r w hr h
 obtain⟨f,hf⟩:∃f,Ve.cnt l=f:=⟨_,rfl⟩;obtain⟨g,hg⟩:∃g,Ve.cnt r=g:=⟨_,rfl⟩;have hfg:Ve.cov (Ve.cnt l) (Ve.cnt r)=Ve.cov f g:=by rw[hf,hg]
 rw[hf]at n1;rw[hg]at n2;have HFG:=Hd hfg;have N1:=Hd n1;have N2:=Hd n2;clear hf hg hfg n1 n2
 go_enter Tryz.func118,Tryz.ntmps118
 go_wp2_with fail;refine(N1.out _ H1.out).mono ?_;rintro e w1 ⟨rfl,hb1⟩;go_wp2_with fail;refine(N2.out _ (H2.out.later hb1)).mono ?_;rintro e w2 ⟨rfl,hb2⟩;have hbx:=below_on (below_on (Below.refl _ _) hb1) hb2;clear H1 H2 hl hr hb1 hb2 N1 N2
 go_wp2_with (first|(refine wpList_store_row rfl 185 _ _ rfl w2.heap.size (Ve.arr f) rfl rfl 185 (Ve.arr fun _=>0) ?s1 (by rw[Ve.arr_size];exact info64) (by rw[Ve.arr_size,Ve.arr_size]) (one_arr _) ?_)|(refine wpList_store_row rfl 185 _ _ rfl (w2.heap.size+1) (Ve.arr g) rfl rfl 185 (Ve.arr fun _=>0) ?s2 (by rw[Ve.arr_size];exact info64) (by rw[Ve.arr_size,Ve.arr_size]) (one_arr _) ?_))
 case s1=>
  rw[←Ve.arr_zero];exact(Blk.new w2 _ _).alloc _
 case s2=>
  rw[←Ve.arr_zero];have hb:=Blk.new (w2.alloc (.cells (Ve.arr fun _=>0) 185)) 185 (Ve.arr fun _=>0)
  rw[show(w2.alloc (.cells (Ve.arr fun _=>0) 185)).heap.size=w2.heap.size+1 from by simp]at hb
  exact hb.rowFar (by omega) _
 rw[←Ve.arr_zero];have hb:=Blk.new (w2.alloc (.cells (Ve.arr fun _=>0) 185)) 185 (Ve.arr fun _=>0)
 rw[show(w2.alloc (.cells (Ve.arr fun _=>0) 185)).heap.size=w2.heap.size+1 from by simp]at hb
 have B5:=(((Blk.new w2 185 (Ve.arr fun _=>0)).alloc (.cells (Ve.arr fun _=>0) 185)).row (Ve.arr f)).rowFar (g':=w2.heap.size+1) (by omega) (Ve.arr g)
 have B6:=(hb.rowFar (g':=w2.heap.size) (by omega) (Ve.arr f)).row (Ve.arr g)
 have hz:=hbx.size;have b6:=below_setRow (below_setRow (below_new (below_new hbx (.cells (Ve.arr fun _=>0) 185)) (.cells (Ve.arr fun _=>0) 185)) (g:=w2.heap.size) hz (Ve.arr f)) (g:=w2.heap.size+1) (by omega) (Ve.arr g)
 clear hb
 go_loopw [7] (fun s7 wr=>∃k:Nat,k≤64∧s7 = .int .i64 (k:Int)∧Ve.covTo f g k∧Blk wr w2.heap.size 185 (Ve.arr f)∧Blk wr (w2.heap.size+1) 185 (Ve.arr g)∧Below w.heap.size w wr) (fun s7 _=>64-(intOf s7).toNat)
 case atStart=>exact⟨0,by omega,rfl,fun n hn=>by omega,B5,B6,b6⟩
 case round=>
  obtain⟨k,hk,rfl,hcv,hB5,hB6,hbw⟩:=hrel;have HCV:=Hd hcv;clear B5 B6 b6 hcv
  by_cases hlt:k<64
  ·have x0:=hB5.arr_cell k hlt
   have y0:=hB6.arr_cell k hlt;have HB5:=Hd hB5;have HB6:=Hd hB6;clear hB5 hB6;have hi0:(0:Int)≤(k:Int):=by omega
   have hi1:(k:Int)<64:=by omega
   by_cases hgt:f k<g k
   ·have hd:decide (f k<g k)=true:=decide_eq_true hgt
    have hno:=Ve.cov_no k hlt hgt;have HNO:=Hd hno;clear hno;go_wp2_with fail
    go_quiet (fail)
    go_wp2;go_ret;exact⟨by rw[HFG.out,HNO.out];rfl,below_drewN hbw _⟩
   ·have hd:decide (f k<g k)=false:=decide_eq_false hgt
    have hd2:g k≤f k:=by omega
    go_wp2_with fail
    go_quiet (fail)
    go_wp2_with fail
    go_roundw
    case rel=>
     refine⟨k+1,by omega,by go_num,?_,HB5.out.drewN _,HB6.out.drewN _,below_drewN hbw _⟩
     intro n hn
     by_cases e:n=k
     ·subst e;exact hd2
     ·exact HCV.out n (by omega)
    case measure=>simp[intOf];omega
  ·have hk64:k=64:=by omega
   subst hk64;have hyes:=(Ve.cov_iff f g).2 HCV.out;have HY:=Hd hyes;clear hyes hB5 hB6;go_wp2;go_ret;exact⟨by rw[HFG.out,HY.out];rfl,hbw⟩
theorem rcompare2_any(A B:Option Addr)(c1 c2:Nat)(l r:List (Int × Int))(w:World)(hl:l.length≤9223372036854775807)(hr:r.length≤9223372036854775807)(h1:Stamps w A l)(h2:Stamps w B r) :
  Calls Tryz.prog 57 #[.slice A l.length c1,.slice B r.length c2] w fun e w'=>e = .returned (.int .i64 (Ve.stand (Ve.cnt l) (Ve.cnt r)))∧Below w.heap.size w w':=by
 have H1:=Hd h1;have H2:=Hd h2;clear h1 h2;cases hx:Ve.cov (Ve.cnt l) (Ve.cnt r)<;>cases hy:Ve.cov (Ve.cnt r) (Ve.cnt l)
 all_goals
  have hs:=Ve.stand_eq (Ve.cnt l) (Ve.cnt r);rw[hx,hy]at hs;simp only[Bool.false_eq_true,if_true,if_false]at hs;have HS:=Hd hs;have HX:=Hd hx;have HY:=Hd hy;clear hs hx hy
  go_enter Tryz.func57,Tryz.ntmps57
  go_wp2_with fail;refine(rcovers_any _ _ _ _ _ _ _ hl hr H1.out H2.out).mono ?_;rintro e w1 ⟨rfl,hb1⟩;rw[HX.out];go_wp2_with fail;refine(rcovers_any _ _ _ _ _ _ _ hr hl (H2.out.later hb1) (H1.out.later hb1)).mono ?_;rintro e w2 ⟨rfl,hb2⟩;rw[HY.out];go_wp2;go_ret;exact⟨by rw[HS.out];rfl,below_on hb1 hb2⟩
theorem index_arr(f:Nat→Int)(k:Nat)(hk:k<64)(w:World):(Instr.index 185 (.agg (Ve.arr f)) (.int .i64 (k:Int))).run Tryz.prog w = .ok (.int .i64 (f k)) w:=by
 have h1:=Ve.arr_get f k hk;simp[Instr.index,asIntOf,run_underlying Tryz.underlying185,part,Tryz.isAgg3,Tryz.sizeOf3,h1];intro h;exact absurd h (by omega)
theorem rcount_any(A:Option Addr)(c1:Nat)(l:List (Int × Int))(n:Int)(w:World)(hl:l.length≤9223372036854775807)(h1:Stamps w A l) :
  Calls Tryz.prog 103 #[.slice A l.length c1,.int .i64 n] w fun e w'=>e = .returned (.int .i64 (countOf l n))∧Below w.heap.size w w':=by
 have H1:=Hd h1;clear h1
 by_cases h0:n<0
 ·have hc:countOf l n=0:=by unfold countOf;rw[if_neg (by omega)]
  have HC:=Hd hc;clear hc;have hd:decide (n<0)=true:=decide_eq_true h0
  go_enter Tryz.func103,Tryz.ntmps103
  go_wp2;go_ret;exact⟨by rw[HC.out];rfl,Below.refl _ _⟩
 ·have hd:decide (n<0)=false:=decide_eq_false h0
  by_cases h2:63<n
  ·have hc:countOf l n=0:=by unfold countOf;rw[if_neg (by omega)]
   have HC:=Hd hc;clear hc;have hd2:decide (63<n)=true:=decide_eq_true h2
   go_enter Tryz.func103,Tryz.ntmps103
   go_wp2;go_ret;exact⟨by rw[HC.out];rfl,Below.refl _ _⟩
  ·obtain⟨k,rfl⟩:∃k:Nat,n=(k:Int):=⟨n.toNat,by omega⟩
   have hk:k<64:=by omega
   have hc:countOf l (k:Int)=Ve.cnt l k:=by unfold countOf;rw[if_pos (by omega)];rfl
   have HC:=Hd hc;have hd2:decide (63<(k:Int))=false:=decide_eq_false h2;have n1:=fun w h=>counts_any A c1 l w hl h
   have N1:=Hd n1;clear hc n1;have hix:=fun w=>index_arr (Ve.cnt l) k hk w
   go_enter Tryz.func103,Tryz.ntmps103
   go_wp2_with fail;refine(N1.out _ H1.out).mono ?_;rintro e w2 ⟨rfl,hb2⟩;go_wp2;go_ret;exact⟨by rw[HC.out];rfl,hb2⟩
theorem rhas_any(A:Option Addr)(c1:Nat)(l:List (Int × Int))(c n:Int)(w:World)(hl:l.length≤9223372036854775807)(h1:Stamps w A l) :
  Calls Tryz.prog 35 #[.slice A l.length c1,.agg #[.int .i64 c,.int .i64 n]] w fun e w'=>e = .returned (.bool (hasOf l c n))∧Below w.heap.size w w':=by
 have hb0:=below_new (Below.refl w.heap.size w) (.cells #[.int .i64 c,.int .i64 n] 46);have hB:=Blk.new w 46 #[.int .i64 c,.int .i64 n];have h1':=h1.later hb0;clear h1;obtain⟨W,hW⟩:∃W,w.alloc (.cells #[.int .i64 c,.int .i64 n] 46)=W:=⟨_,rfl⟩;rw[hW]at hb0 hB h1';have HW:=Hd hW;clear hW;have k0:∀d os,(Sort.grow (redrawn W d) os).cell? ⟨w.heap.size,0,none⟩=some (.int .i64 c):=cell_regrown (hB.cell rfl);have k1:∀d os,(Sort.grow (redrawn W d) os).cell? ⟨w.heap.size,1,none⟩=some (.int .i64 n):=cell_regrown (hB.cell rfl);clear hB;cases hr:St.rgt c n
 all_goals
  have hh:hasOf l c n=(St.rgt c n&&decide (c≤countOf l n)):=rfl;rw[hr]at hh;have HH:=Hd hh;have cR:∀d os,Calls Tryz.prog 102 #[.agg #[.int .i64 c,.int .i64 n]] (Sort.grow (redrawn W d) os) fun e w''=>e = .returned (.bool (St.rgt c n))∧∃p:Regrown,w''=Sort.grow (redrawn W p.d) p.os:=fun d os=>Calls.regrown_of (rright_any c n _)
  have cC:∀d os,Calls Tryz.prog 103 #[.slice A l.length c1,.int .i64 n] (Sort.grow (redrawn W d) os) fun e w''=>e = .returned (.int .i64 (countOf l n))∧∃p:Regrown,w''=Sort.grow (redrawn W p.d) p.os:=fun d os=>Calls.regrown_of (rcount_any A c1 l n _ hl (h1'.later (below_regrown W d os)))
  rw[hr]at cR;have CR:=Hd cR;have CC:=Hd cC;clear hh hr cR cC
  go_enter Tryz.func35,Tryz.ntmps35
  go_wp2_with fail;rw[HW.out];refine wp_region_quiet_below (by kernel_rfl) (by kernel_rfl) ?_
  repeat (first|go_big_quiet_step (first|exact CR.out _ _|exact CC.out _ _)|quiet_step (first|exact CR.out _ _|exact CC.out _ _))
  refine wpQuiet_nil ?_;intro _ hw';obtain⟨⟨dq,osq⟩,hw''⟩:=hw';subst hw'';go_wp2;go_ret;exact⟨by rw[HH.out];rfl,below_on hb0 (below_regrown W dq osq)⟩
theorem rsame_any(A B:Option Addr)(c1 c2:Nat)(l r:List (Int × Int))(w:World)(hl:l.length≤9223372036854775807)(h1:Stamps w A l)(h2:Stamps w B r) :
  Calls Tryz.prog 18 #[.slice A l.length c1,.slice B r.length c2] w fun e w'=>e = .returned (.bool (decide (l=r)))∧Below w.heap.size w w':=by
 have H1:=Hd h1;have H2:=Hd h2;clear h1 h2
 by_cases hlen:l.length=r.length
 ·have hd0:((l.length:Int) != (r.length:Int))=false:=by rw[bne_eq_false_iff_eq];omega
  have HLEN:=Hd hlen;have hr1:r.length≤l.length:=by omega
  have hr2:l.length≤r.length:=by omega
  clear hlen
  go_enter Tryz.func18,Tryz.ntmps18
  go_wp2_with fail
  go_loopw [5] (fun s5 wr=>∃k:Nat,k≤l.length∧s5 = .int .i64 (k:Int)∧(∀j,j<k→l.getD j (0,0)=r.getD j (0,0))∧Below w.heap.size w wr) (fun s5 _=>l.length-(intOf s5).toNat)
  case atStart=>exact⟨0,Nat.zero_le _,rfl,fun j hj=>by omega,Below.refl _ _⟩
  case round=>
   obtain⟨k,hk,rfl,heq,hbw⟩:=hrel;have HEQ:=Hd heq;clear heq
   by_cases hlt:k<l.length
   ·have hne:l≠[]:=fun e=>by subst e;simp at hlt
    have hne2:r≠[]:=fun e=>by have:=HLEN.out;subst e;simp at this;exact hne this
    obtain⟨b,off,hA,hcA⟩:=(H1.out.later hbw) hne;obtain⟨b',off',hB,hcB⟩:=(H2.out.later hbw) hne2;obtain⟨e0,e1⟩:=hcA k hlt;obtain⟨f0,f1⟩:=hcB k (by omega)
    have H1':=H1;have H2':=H2;subst hA hB;clear hcA hcB;have hi0:(0:Int)≤(k:Int):=by omega
    have hi1:(k:Int)<(l.length:Int):=by omega
    have hi2:(k:Int)<(r.length:Int):=by omega
    obtain⟨x,hx⟩:∃x,l.getD k (0,0)=x:=⟨_,rfl⟩;obtain⟨y,hy⟩:∃y,r.getD k (0,0)=y:=⟨_,rfl⟩;rw[hx]at e0 e1;rw[hy]at f0 f1;have HX:=Hd hx;have HY:=Hd hy;clear hx hy
    by_cases hxy:x=y
    ·subst hxy
     go_wp2_with fail
     go_quiet (fail)
     go_wp2_with fail
     go_roundw
     case rel=>
      refine⟨k+1,by omega,by go_num,?_,below_drewN hbw _⟩
      intro j hj
      by_cases e:j=k
      ·subst e;rw[HX.out,HY.out]
      ·exact HEQ.out j (by omega)
     case measure=>simp[intOf];omega
    ·have hno:decide (l=r)=false:=decide_eq_false (fun e=>hxy (by rw[←HX.out,←HY.out,e]))
     have HNO:=Hd hno;clear hno;obtain⟨x1,x2⟩:=x;obtain⟨y1,y2⟩:=y
     by_cases h1:x1=y1
     ·subst h1
      have h2:(x2 == y2)=false:=beq_eq_false_iff_ne.2 (fun e=>hxy (by rw[e]))
      clear hxy;go_wp2_with fail
      go_quiet (fail)
      go_wp2;go_ret;exact⟨by rw[HNO.out];rfl,below_drewN hbw _⟩
     ·have h1b:(x1 == y1)=false:=beq_eq_false_iff_ne.2 h1
      clear hxy h1;go_wp2_with fail
      go_quiet (fail)
      go_wp2;go_ret;exact⟨by rw[HNO.out];rfl,below_drewN hbw _⟩
   ·have hyes:decide (l=r)=true:=decide_eq_true (take_ext HLEN.out (fun j hj=>HEQ.out j (by omega)))
    have HY:=Hd hyes;clear hyes;go_wp2;go_ret;exact⟨by rw[HY.out];rfl,hbw⟩
 ·have hd0:((l.length:Int) != (r.length:Int))=true:=by rw[bne_iff_ne];omega
  have hno:decide (l=r)=false:=decide_eq_false (fun e=>hlen (by rw[e]))
  have HNO:=Hd hno;clear hno
  go_enter Tryz.func18,Tryz.ntmps18
  go_wp2;go_ret;exact⟨by rw[HNO.out];rfl,Below.refl _ _⟩
theorem rcopy_any(A:Option Addr)(c1:Nat)(l:List (Int × Int))(w:World)(hl:l.length*16≤140737488355328)(hA:A=none→l.length=0∧c1=0)(h1:Lies w A (stCells l)) :
  Calls Tryz.prog 46 #[.slice A l.length c1] w (Gives l w):=by
 obtain⟨i0,hi,hz0,hz1,hz2⟩:=info_parts infoSt
 have hown:(w.alloc (.cells #[] 46)).ownsRow w.heap.size 46 2 (.slice (some ⟨w.heap.size,0,none⟩) 0 0) 0 []:=
  ⟨rfl,.inr ⟨w.heap.size,0,#[],rfl,Nat.le_refl _,heap_alloc_new w _,Nat.le_refl _,Nat.zero_le _,rfl,rfl⟩⟩
 have HA:=Hd hA;clear hA
 go_enter Tryz.func46,Tryz.ntmps46
 go_wp2_with (at_builtin;refine wpList_append_lies _ rfl _ _ 22 rfl w.heap.size 46 i0 (.agg #[.int .i64 0,.int .i64 0]) 2 16 Tryz.underlying22 hi hz0 hz1 hz2 rfl (by decide) _ 0 [] rfl hown A l.length c1 HA.out (stCells l) rfl (stCells_length l) (h1.alloc _) (stCells_one l) ?c3 ?c4 ?c5 ?_)
 case c3=>unfold maxLen;omega
 case c4=>omega
 case c5=>simp
 intro v' w1 hown1 hg1 _;have hbw:Below w.heap.size w w1:=(below_new (Below.refl _ _) (.cells #[] 46)).grown hg1 (by simp) (by intro k hk;simp[Value.ownBlock]at hk;omega)
 try simp only[Nat.zero_add,List.nil_append]at hown1
 have HO:=Hd hown1;clear hown hown1 hg1;go_wp2;go_ret;exact⟨_,rfl,HO.out,hbw⟩
theorem rformed_any(A:Option Addr)(c1:Nat)(l:List (Int × Int))(w:World)(hl:l.length≤9223372036854775807)(h1:Stamps w A l) :
  Calls Tryz.prog 53 #[.slice A l.length c1] w fun e w'=>e = .returned (.bool (Ve.fmd l))∧Below w.heap.size w w':=by
 have H1:=Hd h1;clear h1
 go_enter Tryz.func53,Tryz.ntmps53
 go_wp2_with fail
 go_loopw [3] (fun s3 wr=>∃k:Nat,k≤l.length∧s3 = .int .i64 (k:Int)∧Ve.fmTo l k∧Below w.heap.size w wr) (fun s3 _=>l.length-(intOf s3).toNat)
 case atStart=>exact⟨0,Nat.zero_le _,rfl,fun j hj=>by omega,Below.refl _ _⟩
 case round=>
  obtain⟨k,hk,rfl,heq,hbw⟩:=hrel;have HEQ:=Hd heq;clear heq
  by_cases hlt:k<l.length
  ·have hne:l≠[]:=fun e=>by subst e;simp at hlt
   obtain⟨b,off,hA,hcA⟩:=(H1.out.later hbw) hne;subst hA;obtain⟨e0,e1⟩:=hcA k hlt;have hi0:(0:Int)≤(k:Int):=by omega
   have hi1:(k:Int)<(l.length:Int):=by omega
   obtain⟨x,hx⟩:∃x,l.getD k (0,0)=x:=⟨_,rfl⟩;rw[hx]at e0 e1;have k0:∀d os,(Sort.grow (redrawn wr d) os).cell? ⟨b,off+k*2,none⟩=some (.int .i64 x.1):=cell_regrown e0;have k1:∀d os,(Sort.grow (redrawn wr d) os).cell? ⟨b,off+k*2+1,none⟩=some (.int .i64 x.2):=cell_regrown e1;have cR:∀d os,Calls Tryz.prog 102 #[.agg #[.int .i64 x.1,.int .i64 x.2]] (Sort.grow (redrawn wr d) os) fun e w''=>e = .returned (.bool (St.rgt x.1 x.2))∧∃p:Regrown,w''=Sort.grow (redrawn wr p.d) p.os:=fun d os=>Calls.regrown_of (rright_any x.1 x.2 _)
   clear e0 e1;cases hr:St.rgt x.1 x.2
   ·rw[hr]at cR
    have hno:Ve.fmd l=false:=Ve.fmd_no k hlt (fun h=>by rw[hx,hr]at h;exact absurd h.1 (by simp))
    have HNO:=Hd hno;have CR:=Hd cR;have HX:=Hd hx;clear hno cR hx hcA hr;go_wp2_with fail;refine wp_region_quiet_below (by kernel_rfl) (by kernel_rfl) ?_
    repeat (first|go_big_quiet_step (exact CR.out _ _)|quiet_step (exact CR.out _ _))
    refine wpQuiet_nil ?_;intro _ hw';obtain⟨⟨dq,osq⟩,hw''⟩:=hw';subst hw'';go_wp2;go_ret;exact⟨by rw[HNO.out];rfl,below_on hbw (below_regrown wr dq osq)⟩
   ·rw[hr]at cR
    cases k with
    |zero=>
     simp only[Nat.zero_mul,Nat.add_zero]at k0 k1;have HX:=Hd hx;have HR:=Hd hr;have CR:=Hd cR;clear cR hx hcA hr;go_wp2_with fail;refine wp_region_quiet_below (by kernel_rfl) (by kernel_rfl) ?_
     repeat (first|go_big_quiet_step (exact CR.out _ _)|quiet_step (exact CR.out _ _))
     refine wpQuiet_nil ?_;intro _ hw';obtain⟨⟨dq,osq⟩,hw''⟩:=hw';subst hw'';go_wp2_with fail
     go_roundw
     case rel=>
      refine⟨1,by omega,by go_num,?_,below_on hbw (below_regrown wr dq osq)⟩
      intro j hj;have hj0:j=0:=by omega
      subst hj0;exact⟨by rw[HX.out];exact HR.out,fun h=>absurd h (by omega)⟩
     case measure=>simp[intOf];omega
    |succ m=>
     obtain⟨_,f1⟩:=hcA m (by omega)
     obtain⟨y,hy⟩:∃y,l.getD m (0,0)=y:=⟨_,rfl⟩;rw[hy]at f1;have k2:∀d os,(Sort.grow (redrawn wr d) os).cell? ⟨b,off+m*2+1,none⟩=some (.int .i64 y.2):=cell_regrown f1;clear f1;have hm1:((m+1:Nat):Int)-1=(m:Int):=by omega
     have hj0:(0:Int)≤(m:Int):=by omega
     have hj1:(m:Int)<(l.length:Int):=by omega
     have hg:decide (((m+1:Nat):Int)>0)=true:=decide_eq_true (by omega)
     by_cases hge:y.2<x.2
     ·have hd:decide (y.2<x.2)=true:=decide_eq_true hge
      have HX:=Hd hx;have HY:=Hd hy;have HR:=Hd hr;have CR:=Hd cR;clear cR hx hcA hr hy;go_wp2_with fail;refine wp_region_quiet_below (by kernel_rfl) (by kernel_rfl) ?_
      repeat (first|go_big_quiet_step (exact CR.out _ _)|quiet_step (exact CR.out _ _))
      refine wpQuiet_nil ?_;intro _ hw';obtain⟨⟨dq,osq⟩,hw''⟩:=hw';subst hw'';go_wp2_with fail
      go_roundw
      case rel=>
       refine⟨m+1+1,by omega,by go_num,?_,below_on hbw (below_regrown wr dq osq)⟩
       intro j hj
       by_cases e:j=m+1
       ·subst e
        exact⟨by rw[HX.out];exact HR.out,fun _=>by rw[show m+1-1=m from rfl,HX.out,HY.out];exact hge⟩
       ·exact HEQ.out j (by omega)
      case measure=>simp[intOf];omega
     ·have hd:decide (y.2<x.2)=false:=decide_eq_false hge
      have hno:Ve.fmd l=false:=Ve.fmd_no (m+1) hlt (fun h=>hge (by have:=h.2 (by omega);rw[show m+1-1=m from rfl,hx,hy]at this;exact this))
      have HNO:=Hd hno;have HX:=Hd hx;have HY:=Hd hy;have CR:=Hd cR;clear hno cR hx hcA hr hy;go_wp2_with fail;refine wp_region_quiet_below (by kernel_rfl) (by kernel_rfl) ?_
      repeat (first|go_big_quiet_step (exact CR.out _ _)|quiet_step (exact CR.out _ _))
      refine wpQuiet_nil ?_;intro _ hw';obtain⟨⟨dq,osq⟩,hw''⟩:=hw';subst hw'';go_wp2;go_ret;exact⟨by rw[HNO.out];rfl,below_on hbw (below_regrown wr dq osq)⟩
  ·have hkl:k=l.length:=by omega
   subst hkl;have hyes:Ve.fmd l=true:=(Ve.fmd_iff l).2 HEQ.out;have HY:=Hd hyes;clear hyes;go_wp2;go_ret;exact⟨by rw[HY.out];rfl,hbw⟩
theorem rjoin_any(A:Option Addr)(c1:Nat)(ls:List (List (Int × Int)))(w:World)(hl:ls.length≤9223372036854775807)(h1:Rows w A ls) :
  Calls Tryz.prog 108 #[.slice A ls.length c1] w (Gives (Ve.joinL ls) w):=by
 have hls:=h1.len;have H1:=Hd h1;clear h1
 go_enter Tryz.func108,Tryz.ntmps108
 go_wp2_with fail;rw[←Ve.arr_zero]
 go_loopw [4] (fun s4 wr=>∃k:Nat,k≤ls.length∧s4 = .int .i64 (k:Int)∧Blk wr w.heap.size 185 (Ve.arr (Ve.jnTo ls k))∧Below w.heap.size w wr) (fun s4 _=>ls.length-(intOf s4).toNat)
 case atStart=>exact⟨0,Nat.zero_le _,rfl,Blk.new _ _ _,below_new (Below.refl _ _) _⟩
 case round=>
  obtain⟨k,hk,rfl,hB,hbw⟩:=hrel
  by_cases hlt:k<ls.length
  ·have hne:ls≠[]:=fun e=>by subst e;simp at hlt
   obtain⟨b,off,hA,hcA⟩:=(H1.out.later hbw) hne;obtain⟨A',c',e0,hL⟩:=hcA k hlt;have hlen:=hls k hlt;have hS:=hL.stamps;have H1':=H1;subst hA;have hi0:(0:Int)≤(k:Int):=by omega
   have hi1:(k:Int)<(ls.length:Int):=by omega
   have hjs:∀n,Ve.jnTo ls (k+1) n=Ve.mxTo (Ve.jnTo ls k) (Ve.cnt (ls.getD k [])) 64 n∨64≤n:=fun n=>by
    by_cases hn:n<64
    ·left
     unfold Ve.mxTo;rw[if_pos hn];rfl
    ·right;omega
   have n1:=fun w h=>counts_any A' c' (ls.getD k []) w hlen h
   obtain⟨f,hf⟩:∃f,Ve.jnTo ls k=f:=⟨_,rfl⟩;obtain⟨g,hg⟩:∃g,Ve.cnt (ls.getD k [])=g:=⟨_,rfl⟩;obtain⟨m,hm⟩:∃m,(ls.getD k []).length=m:=⟨_,rfl⟩;rw[hg]at n1;rw[hf,hg]at hjs;rw[hf]at hB;rw[hm]at e0 n1;have HJS:=Hd hjs;have N1:=Hd n1;have HS:=Hd hS;have HB:=Hd hB;clear hjs n1 hS hB hcA hf hg hm hL;go_wp2_with fail;refine(N1.out _ HS.out).mono ?_;rintro e w2 ⟨rfl,hb2⟩;have hbx:=below_on hbw hb2;have B1:=HB.out.later hb2;have hz:=hbx.size;have hlt1:=B1.lt;clear N1 HS HB hb2
   go_wp2_with (refine wpList_store_row rfl 185 _ _ rfl w2.heap.size (Ve.arr g) rfl rfl 185 (Ve.arr fun _=>0) ?s1 (by rw[Ve.arr_size];exact info64) (by rw[Ve.arr_size,Ve.arr_size]) (one_arr _) ?_)
   case s1=>
    rw[←Ve.arr_zero];exact Blk.new w2 _ _
   rw[←Ve.arr_zero];have B5:=(Blk.new w2 185 (Ve.arr fun _=>0)).row (Ve.arr g)
   have B4:=(B1.alloc (.cells (Ve.arr fun _=>0) 185)).rowFar (g':=w2.heap.size) (by omega) (Ve.arr g)
   have b6:=below_setRow (below_new hbx (.cells (Ve.arr fun _=>0) 185)) (g:=w2.heap.size) hz (Ve.arr g)
   go_loopw [6] (fun s6 wq=>∃n:Nat,n≤64∧s6 = .int .i64 (n:Int)∧Blk wq w.heap.size 185 (Ve.arr (Ve.mxTo f g n))∧Blk wq w2.heap.size 185 (Ve.arr g)∧Below w.heap.size w wq) (fun s6 _=>64-(intOf s6).toNat)
   case atStart=>exact⟨0,by omega,rfl,B4.same (fun i _=>by unfold Ve.mxTo;rw[if_neg (by omega)]),B5,b6⟩
   case round=>
    obtain⟨n,hn,rfl,hC,hD,hbq⟩:=hrel;clear B5 B4 b6 B1
    by_cases hlt2:n<64
    ·have x0:=hC.arr_cell n hlt2
     have x1:=hC.free n;have y0:=hD.arr_cell n hlt2;rw[show Ve.mxTo f g n n=f n from by unfold Ve.mxTo;rw[if_neg (by omega)]]at x0
     have hj0:(0:Int)≤(n:Int):=by omega
     have hj1:(n:Int)<64:=by omega
     by_cases hgt:f n<g n
     ·have B7:=(hC.arr_put n hlt2 (g n)).same (f':=Ve.mxTo f g (n+1)) (fun i _=>Ve.mx_step f g n _ (if_pos hgt).symm i)
      have B8:=hD.far (p:=⟨w.heap.size,n,none⟩) (by show w2.heap.size≠w.heap.size;omega) (.int .i64 (g n))
      have HB7:=Hd B7;have HB8:=Hd B8;have hbz:=hbq.setCell (p:=⟨w.heap.size,n,none⟩) (Nat.le_refl _) (.int .i64 (g n));clear hC hD B7 B8;go_wp2_with fail
      go_region
      go_wp2_with fail
      go_roundw
      case rel=>exact⟨n+1,by omega,by go_num,HB7.out.drew,HB8.out.drew,hbz.drew⟩
      case measure=>simp[intOf];omega
     ·have hle:g n≤f n:=by omega
      have B7:=(hC.arr_put n hlt2 (f n)).same (f':=Ve.mxTo f g (n+1)) (fun i _=>Ve.mx_step f g n _ (if_neg hgt).symm i)
      have B8:=hD.far (p:=⟨w.heap.size,n,none⟩) (by show w2.heap.size≠w.heap.size;omega) (.int .i64 (f n))
      have HB7:=Hd B7;have HB8:=Hd B8;have hbz:=hbq.setCell (p:=⟨w.heap.size,n,none⟩) (Nat.le_refl _) (.int .i64 (f n));clear hC hD B7 B8;go_wp2_with fail
      go_region
      go_wp2_with fail
      go_roundw
      case rel=>exact⟨n+1,by omega,by go_num,HB7.out.drew,HB8.out.drew,hbz.drew⟩
      case measure=>simp[intOf];omega
    ·have hn64:n=64:=by omega
     subst hn64
     have B9:=hC.same (f':=Ve.jnTo ls (k+1)) (fun i hi=>by
      rcases HJS.out i with h|h
      ·exact h.symm
      ·omega)
     have HB9:=Hd B9;clear hC hD B9;go_wp2_with fail
     go_roundw
     case rel=>exact⟨k+1,by omega,by go_num,HB9.out,hbq⟩
     case measure=>simp[intOf];omega
  ·have hkl:k=ls.length:=by omega
   subst hkl;have HB:=Hd hB;clear hB
   go_wp2_with (refine wpList_load_row rfl 185 _ rfl w.heap.size rfl 185 _ (0,0) _ HB.out Tryz.underlying185 rfl (by rw[Ve.arr_size];exact info64) ?_)
   refine(of_any _ _).mono ?_;rintro e w3 ⟨v,rfl,ho,hb3⟩;have HO:=Hd ho;have hz:=hbw.size;clear ho;go_wp2;go_ret;exact⟨_,rfl,own_base HO.out hz,below_on hbw hb3⟩
theorem rtwo_any(A B:Option Addr)(c1 c2:Nat)(l r:List (Int × Int))(w:World)(h1:OneL w A c1 l)(h2:OneL w B c2 r) :
  Calls Tryz.prog 40 #[.slice A l.length c1,.slice B r.length c2] w (Gives (Ve.joinL [l,r]) w):=by
 have hb0:=below_new (Below.refl w.heap.size w) (.cells #[.slice A l.length c1,.slice B r.length c2] 22);have hB:=Blk.new w 22 #[.slice A l.length c1,.slice B r.length c2]
 have hR:Rows (w.alloc (.cells #[.slice A l.length c1,.slice B r.length c2] 22)) (some ⟨w.heap.size,0,none⟩) [l,r]:=fun _=>⟨w.heap.size,0,rfl,fun k hk=>by
  have hk2:k=0∨k=1:=by simp at hk;omega
  rcases hk2 with rfl|rfl
  ·exact⟨A,c1,hB.cell rfl,h1.later hb0⟩
  ·exact⟨B,c2,hB.cell rfl,h2.later hb0⟩⟩
 have hj:=rjoin_any (some ⟨w.heap.size,0,none⟩) 2 [l,r] (w.alloc (.cells #[.slice A l.length c1,.slice B r.length c2] 22)) (by simp) hR
 have HJ:=Hd hj;clear hj hR hB h1 h2
 go_enter Tryz.func40,Tryz.ntmps40
 go_wp2_with fail;refine HJ.out.mono ?_;rintro e w1 ⟨v,rfl,ho,hb1⟩;have HO:=Hd ho;clear ho;go_wp2;go_ret;exact⟨_,rfl,own_base HO.out (by simp),below_on hb0 hb1⟩
theorem ncopy_any(S E B V:Option Addr)(cs ce cb cv:Nat)(n:Note)(w:World)(hls:n.s.length*16≤140737488355328)(hle:n.e.length*16≤140737488355328)(hlb:n.b.length*16≤140737488355328)(hlw:n.ws.length*32≤140737488355328)
  (h:NoteAt w S E B V cs ce cb cv n):Calls Tryz.prog 21 #[.agg (noteCells S E B V cs ce cb cv n)] w (AnsN n w):=by
 obtain⟨i0,hI,hz0,hz1,hz2⟩:=info_parts infoWr;have hW0:Blk (w.alloc (.cells (noteCells S E B V cs ce cb cv n) 40)) w.heap.size 40 (noteCells S E B V cs ce cb cv n):=Blk.new w _ _
 go_enter Tryz.func21,Tryz.ntmps21
 go_wp2_with fail;obtain⟨W,hW⟩:∃W,(w.alloc (.cells (noteCells S E B V cs ce cb cv n) 40)).alloc (.cells #[.slice none 0 0,.slice none 0 0,.slice none 0 0,.slice none 0 0] 40)=W:=⟨_,rfl⟩;have hb0:Below w.heap.size w W:=by rw[←hW];exact below_new (below_new (Below.refl _ _) _) _
 have hB0:Blk W w.heap.size 40 (noteCells S E B V cs ce cb cv n):=by rw[←hW];exact hW0.alloc _
 have hB1:Blk W (w.heap.size+1) 40 #[.slice none 0 0,.slice none 0 0,.slice none 0 0,.slice none 0 0]:=by
  rw[←hW,show w.heap.size+1=(w.alloc (.cells (noteCells S E B V cs ce cb cv n) 40)).heap.size from by simp]
  exact Blk.new _ _ _
 rw[hW];have HN:=Hd (h.later hb0);have c0:W.cell? ⟨w.heap.size,0,none⟩=some (.slice S n.s.length cs):=hB0.cell rfl;have c1:W.cell? ⟨w.heap.size,1,none⟩=some (.slice E n.e.length ce):=hB0.cell rfl;have c2:W.cell? ⟨w.heap.size,2,none⟩=some (.slice B n.b.length cb):=hB0.cell rfl;have c3:W.cell? ⟨w.heap.size,3,none⟩=some (.slice V n.ws.length cv):=hB0.cell rfl;have hz:=hb0.size;have N0:=Hd (fun wx (hb:Below W.heap.size W wx)=>(rcopy_any S cs n.s wx hls (HN.out.hs.later hb).2.2.1 (HN.out.hs.later hb).2.2.2).mono fun _ _ hg=>hg.one)
 have N1:=Hd (fun wx (hb:Below W.heap.size W wx)=>(rcopy_any E ce n.e wx hle (HN.out.he.later hb).2.2.1 (HN.out.he.later hb).2.2.2).mono fun _ _ hg=>hg.one)
 have N2:=Hd (fun wx (hb:Below W.heap.size W wx)=>(scopy_any B cb n.b wx hlb (HN.out.hb.later hb).2.2.1 (HN.out.hb.later hb).2.2.2).mono fun _ _ hg=>hg.one)
 clear hW hW0 h
 refine wp_region_facts 13 (by kernel_rfl) (by kernel_rfl)
  (fun v=>{ tmps:=#[.agg (noteCells S E B V cs ce cb cv n),.pointer (some ⟨w.heap.size,0,none⟩),.pointer (some ⟨w.heap.size+1,0,none⟩),v 0,v 1,v 2,v 3,v 4,v 5,v 6,v 7,v 8,v 9,v 10,v 11,v 12,undef],defers:=[] }) (fun _=>undef)
  (fun i x wx=>match i with
   |0=>x = .pointer (some ⟨w.heap.size,0,none⟩)
   |1=>x = .slice S n.s.length cs
   |2=>∃A c,x = .slice A n.s.length c∧OneL wx A c n.s
   |3=>x = .pointer (some ⟨w.heap.size,1,none⟩)
   |4=>x = .slice E n.e.length ce
   |5=>∃A c,x = .slice A n.e.length c∧OneL wx A c n.e
   |6=>x = .pointer (some ⟨w.heap.size,2,none⟩)
   |7=>x = .slice B n.b.length cb
   |8=>∃A c,x = .slice A n.b.length c∧OneL wx A c n.b
   |9=>∃g,x = .slice (some ⟨g,0,none⟩) 0 0∧Blk wx g 52 #[]∧w.heap.size≤g
   |10=>x = .pointer (some ⟨w.heap.size,3,none⟩)
   |11=>x = .slice V n.ws.length cv
   |12=>∃A c,x = .slice A n.ws.length c∧OneW wx A c n.ws
   |_=>True)
  (fun w1 w2=>Below w1.heap.size w1 w2) (fun h1 h2=>below_on h1 h2) (fun _=>Below.refl _ _) (Below.drew (Below.refl _ _)) ?stab ?step ?done
 case stab=>
  rintro i x w1 w2 h hb
  match i,h with
  |0,h=>exact h
  |1,h=>exact h
  |2,h=>obtain⟨A,c,h1,h2⟩:=h;exact⟨A,c,h1,h2.later hb⟩
  |3,h=>exact h
  |4,h=>exact h
  |5,h=>obtain⟨A,c,h1,h2⟩:=h;exact⟨A,c,h1,h2.later hb⟩
  |6,h=>exact h
  |7,h=>exact h
  |8,h=>obtain⟨A,c,h1,h2⟩:=h;exact⟨A,c,h1,h2.later hb⟩
  |9,h=>obtain⟨g,h1,h2,h3⟩:=h;exact⟨g,h1,h2.later hb,h3⟩
  |10,h=>exact h
  |11,h=>exact h
  |12,h=>obtain⟨A,c,h1,h2⟩:=h;exact⟨A,c,h1,h2.later hb⟩
  |i+13,_=>trivial
 case step=>
  intro i hi v w' hb hd
  match i,hi with
  |0,_=>
   refine wpOp_one rfl ?_;clear hd;go_wp2;exact⟨_,by simp[upd];done,Below.refl _ _,rfl⟩
  |1,_=>
   have h0:v 0=_:=hdx hd 0 (by kernel_rfl)
   refine wpOp_one rfl ?_;clear hd;rw[h0];have q:=cell_later hb c0;go_wp2;exact⟨_,by simp[upd,h0];done,Below.refl _ _,rfl⟩
  |2,_=>
   have h1:v 1=_:=hdx hd 1 (by kernel_rfl)
   refine wpOp_one rfl ?_;clear hd;rw[h1];go_wp2_with fail;refine(N0.out _ hb).mono ?_;rintro e w'' hg;obtain⟨A,c,rfl,ho,b⟩:=hg;go_wp2;exact⟨_,by simp[upd,h1];done,b,A,c,rfl,ho⟩
  |3,_=>
   refine wpOp_one rfl ?_;clear hd;go_wp2;exact⟨_,by simp[upd];done,Below.refl _ _,rfl⟩
  |4,_=>
   have h3:v 3=_:=hdx hd 3 (by kernel_rfl)
   refine wpOp_one rfl ?_;clear hd;rw[h3];have q:=cell_later hb c1;go_wp2;exact⟨_,by simp[upd,h3];done,Below.refl _ _,rfl⟩
  |5,_=>
   have h4:v 4=_:=hdx hd 4 (by kernel_rfl)
   refine wpOp_one rfl ?_;clear hd;rw[h4];go_wp2_with fail;refine(N1.out _ hb).mono ?_;rintro e w'' hg;obtain⟨A,c,rfl,ho,b⟩:=hg;go_wp2;exact⟨_,by simp[upd,h4];done,b,A,c,rfl,ho⟩
  |6,_=>
   refine wpOp_one rfl ?_;clear hd;go_wp2;exact⟨_,by simp[upd];done,Below.refl _ _,rfl⟩
  |7,_=>
   have h6:v 6=_:=hdx hd 6 (by kernel_rfl)
   refine wpOp_one rfl ?_;clear hd;rw[h6];have q:=cell_later hb c2;go_wp2;exact⟨_,by simp[upd,h6];done,Below.refl _ _,rfl⟩
  |8,_=>
   have h7:v 7=_:=hdx hd 7 (by kernel_rfl)
   refine wpOp_one rfl ?_;clear hd;rw[h7];go_wp2_with fail;refine(N2.out _ hb).mono ?_;rintro e w'' hg;obtain⟨A,c,rfl,ho,b⟩:=hg;go_wp2;exact⟨_,by simp[upd,h7];done,b,A,c,rfl,ho⟩
  |9,_=>
   refine wpOp_one rfl ?_;clear hd;have hz:=hb.size;go_wp2;exact⟨_,by simp[upd];done,below_new (Below.refl _ _) _,w'.heap.size,rfl,Blk.new _ _ _,by omega⟩
  |10,_=>
   refine wpOp_one rfl ?_;clear hd;go_wp2;exact⟨_,by simp[upd];done,Below.refl _ _,rfl⟩
  |11,_=>
   have h10:v 10=_:=hdx hd 10 (by kernel_rfl)
   refine wpOp_one rfl ?_;clear hd;rw[h10];have q:=cell_later hb c3;go_wp2;exact⟨_,by simp[upd,h10];done,Below.refl _ _,rfl⟩
  |12,_=>
   obtain⟨g,h9,hg,hgb⟩:=hd 9 (List.elem_iff.1 (by kernel_rfl))
   have h11:v 11=_:=hdx hd 11 (by kernel_rfl)
   refine wpOp_one rfl ?_;clear hd;rw[h9,h11];have hv:=HN.out.hv.later hb;have HV:=Hd hv;clear hv;refine wpList_append_fresh _ rfl _ _ 24 rfl w.heap.size g 52 i0 (.agg #[.int .i64 0,.int .i64 0,.int .i64 0,.bool false]) 4 32 Tryz.underlying24 hI hz0 hz1 hz2 rfl (by decide) rfl hg hgb V n.ws.length cv HV.out.2.2.1 (Nt.wrCells n.ws) rfl (Nt.wrCells_length n.ws) HV.out.2.2.2 (Nt.wrCells_one n.ws) ?c3 ?c4 ?_
   case c3=>have:=HV.out.1;have:=HV.out.2.1;omega
   case c4=>exact hlw
   intro v' w'' hown b;obtain⟨A,c,rfl,ho⟩:=OneW.of_own hown;clear hown;go_wp2;exact⟨_,by simp[upd,h9,h11,Act.put];done,b,A,c,rfl,ho⟩
 case done=>
  intro v w' hb hf;obtain⟨A2,k2,h2,o2⟩:=hf 2 (by omega)
  obtain⟨A5,k5,h5,o5⟩:=hf 5 (by omega)
  obtain⟨A8,k8,h8,o8⟩:=hf 8 (by omega)
  obtain⟨A12,k12,h12,o12⟩:=hf 12 (by omega)
  have HO:=Hd (NoteAt.mk o2 o5 o8 o12);have hB:=hB1.later hb;have hbw:=below_on hb0 hb;clear o2 o5 o8 o12 hf;simp only[List.drop_succ_cons,List.drop_zero];rw[h2,h5,h8,h12];have d0:=hB.cell (i:=0) rfl;have d0f:=hB.free 0;have d1f:=hB.free 1;have d2f:=hB.free 2;have d3f:=hB.free 3;have d1:=hB.cell (i:=1) rfl;have d2:=hB.cell (i:=2) rfl;have d3:=hB.cell (i:=3) rfl;go_wp2;have hB4:Blk ((((w'.setCell ⟨w.heap.size+1,0,none⟩ (.slice A2 n.s.length k2)).setCell ⟨w.heap.size+1,1,none⟩ (.slice A5 n.e.length k5)).setCell ⟨w.heap.size+1,2,none⟩ (.slice A8 n.b.length k8)).setCell ⟨w.heap.size+1,3,none⟩ (.slice A12 n.ws.length k12)) (w.heap.size+1) 40 (noteCells A2 A5 A8 A12 k2 k5 k8 k12 n):=(((hB.put 0 _).put 1 _).put 2 _).put 3 _;have hb4:∀x0 x1 x2 x3,Below w.heap.size w ((((w'.setCell ⟨w.heap.size+1,0,none⟩ x0).setCell ⟨w.heap.size+1,1,none⟩ x1).setCell ⟨w.heap.size+1,2,none⟩ x2).setCell ⟨w.heap.size+1,3,none⟩ x3):=fun x0 x1 x2 x3=>(((hbw.setCell (p:=⟨w.heap.size+1,0,none⟩) (by simp) _).setCell (p:=⟨w.heap.size+1,1,none⟩) (by simp) _).setCell (p:=⟨w.heap.size+1,2,none⟩) (by simp) _).setCell (p:=⟨w.heap.size+1,3,none⟩) (by simp) _
  have hN4:=HO.out.puts hB ⟨rfl,rfl,rfl,rfl⟩ (.slice A2 n.s.length k2) (.slice A5 n.e.length k5) (.slice A8 n.b.length k8) (.slice A12 n.ws.length k12) ⟨rfl,rfl,rfl⟩;exact bodyPost_ret (v :=.agg (noteCells A2 A5 A8 A12 k2 k5 k8 k12 n)) (results_cell_row rfl _ _ (w.heap.size+1) 40 (noteCells A2 A5 A8 A12 k2 k5 k8 k12 n) (0,0) _ rfl hB4 Tryz.underlying40 rfl infoNt) rfl ⟨_,_,_,_,_,_,_,_,rfl,hN4,hb4 _ _ _ _⟩
theorem wr_ext{l r:List Wr}(h:l.length=r.length)(hk:∀k,k<l.length→l.getD k Nt.zeroW=r.getD k Nt.zeroW):l=r:=by
 apply List.ext_getElem h;intro i h1 h2;have:=hk i h1;rw[List.getD_eq_getElem?_getD,List.getD_eq_getElem?_getD,List.getElem?_eq_getElem h1,List.getElem?_eq_getElem h2]at this
 simpa using this
theorem nwrites_any(A B:Option Addr)(c1 c2:Nat)(l r:List Wr)(w:World)(h1:OneW w A c1 l)(h2:OneW w B c2 r) :
  Calls Tryz.prog 61 #[.slice A l.length c1,.slice B r.length c2] w (Says (.bool (decide (l=r))) w):=by
 have hl:=h1.len;have H1:=Hd h1;have H2:=Hd h2;clear h1 h2
 by_cases hlen:l.length=r.length
 ·have hd0:((l.length:Int) != (r.length:Int))=false:=by rw[bne_eq_false_iff_eq];omega
  have HLEN:=Hd hlen;have hr1:r.length≤l.length:=by omega
  have hr2:l.length≤r.length:=by omega
  clear hlen
  go_enter Tryz.func61,Tryz.ntmps61
  go_wp2_with fail
  go_loopw [5] (fun s5 wr=>∃k:Nat,k≤l.length∧s5 = .int .i64 (k:Int)∧(∀j,j<k→l.getD j Nt.zeroW=r.getD j Nt.zeroW)∧Below w.heap.size w wr) (fun s5 _=>l.length-(intOf s5).toNat)
  case atStart=>exact⟨0,Nat.zero_le _,rfl,fun j hj=>by omega,Below.refl _ _⟩
  case round=>
   obtain⟨k,hk,rfl,heq,hbw⟩:=hrel;have HEQ:=Hd heq;clear heq
   by_cases hlt:k<l.length
   ·have hne:l≠[]:=fun e=>by subst e;simp at hlt
    have hne2:r≠[]:=fun e=>by have:=HLEN.out;subst e;simp at this;exact hne this
    obtain⟨b,off,hA,hcA⟩:=(H1.out.later hbw).at hne;obtain⟨b',off',hB,hcB⟩:=(H2.out.later hbw).at hne2;obtain⟨e0,e1,e2,e3⟩:=hcA k hlt;obtain⟨f0,f1,f2,f3⟩:=hcB k (by omega)
    have H1':=H1;have H2':=H2;subst hA hB;clear hcA hcB;have hi0:(0:Int)≤(k:Int):=by omega
    have hi1:(k:Int)<(l.length:Int):=by omega
    have hi2:(k:Int)<(r.length:Int):=by omega
    obtain⟨x,hx⟩:∃x,l.getD k Nt.zeroW=x:=⟨_,rfl⟩;obtain⟨y,hy⟩:∃y,r.getD k Nt.zeroW=y:=⟨_,rfl⟩;rw[hx]at e0 e1 e2 e3;rw[hy]at f0 f1 f2 f3;have HX:=Hd hx;have HY:=Hd hy;clear hx hy
    by_cases hxy:x=y
    ·subst hxy
     go_wp2_with fail
     go_quiet (fail)
     go_wp2_with fail
     go_roundw
     case rel=>
      refine⟨k+1,by omega,by go_num,?_,below_drewN hbw _⟩
      intro j hj
      by_cases e:j=k
      ·subst e;rw[HX.out,HY.out]
      ·exact HEQ.out j (by omega)
     case measure=>simp[intOf];omega
    ·have hno:decide (l=r)=false:=decide_eq_false (fun e=>hxy (by rw[←HX.out,←HY.out,e]))
     have HNO:=Hd hno;clear hno;obtain⟨x1,x2,x3,x4⟩:=x;obtain⟨y1,y2,y3,y4⟩:=y
     have hall:(x1 == y1)=false∨(x1=y1∧(x2 == y2)=false)∨(x1=y1∧x2=y2∧(x3 == y3)=false)∨(x1=y1∧x2=y2∧x3=y3∧(x4 == y4)=false):=by
      by_cases q1:x1=y1
      ·by_cases q2:x2=y2
       ·by_cases q3:x3=y3
        ·exact .inr (.inr (.inr ⟨q1,q2,q3,beq_eq_false_iff_ne.2 (fun e=>hxy (by rw[q1,q2,q3,e]))⟩))
        ·exact .inr (.inr (.inl ⟨q1,q2,beq_eq_false_iff_ne.2 q3⟩))
       ·exact .inr (.inl ⟨q1,beq_eq_false_iff_ne.2 q2⟩)
      ·exact .inl (beq_eq_false_iff_ne.2 q1)
     clear hxy;rcases hall with h1|⟨rfl,h1⟩|⟨rfl,rfl,h1⟩|⟨rfl,rfl,rfl,h1⟩
     all_goals
      go_wp2_with fail
      go_quiet (fail)
      go_wp2;go_ret;exact⟨by rw[HNO.out];rfl,below_drewN hbw _⟩
   ·have hyes:decide (l=r)=true:=decide_eq_true (wr_ext HLEN.out (fun j hj=>HEQ.out j (by omega)))
    have HY:=Hd hyes;clear hyes;go_wp2;go_ret;exact⟨by rw[HY.out];rfl,hbw⟩
 ·have hd0:((l.length:Int) != (r.length:Int))=true:=by rw[bne_iff_ne];omega
  have hno:decide (l=r)=false:=decide_eq_false (fun e=>hlen (by rw[e]))
  have HNO:=Hd hno;clear hno
  go_enter Tryz.func61,Tryz.ntmps61
  go_wp2;go_ret;exact⟨by rw[HNO.out];rfl,Below.refl _ _⟩
def sameN(a b:Note):Bool:=decide (a.s=b.s)&&(decide (a.e=b.e)&&(decide (a.b=b.b)&&decide (a.ws=b.ws)))
theorem sameN_iff(a b:Note):sameN a b=true↔a=b:=by
 unfold sameN;simp only[Bool.and_eq_true,decide_eq_true_eq];constructor
 ·rintro ⟨h1,h2,h3,h4⟩
  cases a;cases b
  simp_all
 ·rintro rfl
  exact⟨rfl,rfl,rfl,rfl⟩
theorem nsame_any(S E B V S' E' B' V':Option Addr)(cs ce cb cv cs' ce' cb' cv':Nat)(n m:Note)(w:World)(h1:NoteAt w S E B V cs ce cb cv n)(h2:NoteAt w S' E' B' V' cs' ce' cb' cv' m) :
  Calls Tryz.prog 24 #[.agg (noteCells S E B V cs ce cb cv n),.agg (noteCells S' E' B' V' cs' ce' cb' cv' m)] w (Says (.bool (sameN n m)) w):=by
 obtain⟨W,hW⟩:∃W,(w.alloc (.cells (noteCells S E B V cs ce cb cv n) 40)).alloc (.cells (noteCells S' E' B' V' cs' ce' cb' cv' m) 40)=W:=⟨_,rfl⟩;have hb0:Below w.heap.size w W:=by rw[←hW];exact below_new (below_new (Below.refl _ _) _) _
 have hB0:Blk W w.heap.size 40 (noteCells S E B V cs ce cb cv n):=by rw[←hW];exact(Blk.new w _ _).alloc _
 have hB1:Blk W (w.heap.size+1) 40 (noteCells S' E' B' V' cs' ce' cb' cv' m):=by
  rw[←hW,show w.heap.size+1=(w.alloc (.cells (noteCells S E B V cs ce cb cv n) 40)).heap.size from by simp]
  exact Blk.new _ _ _
 have HB0:=Hd hB0;have HB1:=Hd hB1;have HN:=Hd (h1.later hb0);have HM:=Hd (h2.later hb0);have N0:=Hd (fun wx (hb:Below W.heap.size W wx)=>rsame_any S S' cs cs' n.s m.s wx (HN.out.hs.later hb).len (HN.out.hs.later hb).stamps (HM.out.hs.later hb).stamps)
 have N1:=Hd (fun wx (hb:Below W.heap.size W wx)=>rsame_any E E' ce ce' n.e m.e wx (HN.out.he.later hb).len (HN.out.he.later hb).stamps (HM.out.he.later hb).stamps)
 have N2:=Hd (fun wx (hb:Below W.heap.size W wx)=>ssame_any B B' cb cb' n.b m.b wx (HN.out.hb.later hb).len (HN.out.hb.later hb).stamps (HM.out.hb.later hb).stamps)
 have N3:=Hd (fun wx (hb:Below W.heap.size W wx)=>nwrites_any V V' cv cv' n.ws m.ws wx (HN.out.hv.later hb) (HM.out.hv.later hb))
 have HR:=Hd (show sameN n m=(decide (n.s=m.s)&&(decide (n.e=m.e)&&(decide (n.b=m.b)&&decide (n.ws=m.ws)))) from rfl);obtain⟨x0,hx0⟩:∃x,decide (n.s=m.s)=x:=⟨_,rfl⟩;obtain⟨x1,hx1⟩:∃x,decide (n.e=m.e)=x:=⟨_,rfl⟩;obtain⟨x2,hx2⟩:∃x,decide (n.b=m.b)=x:=⟨_,rfl⟩;obtain⟨x3,hx3⟩:∃x,decide (n.ws=m.ws)=x:=⟨_,rfl⟩;rw[hx0]at N0 HR;rw[hx1]at N1 HR;rw[hx2]at N2 HR;rw[hx3]at N3 HR;have HW:=Hd hW;clear hW hB0 hB1 h1 h2 hx0 hx1 hx2 hx3 HN HM;obtain⟨c0,c1,c2,c3⟩:=note_cells HB0.out;obtain⟨d0,d1,d2,d3⟩:=note_cells HB1.out;have p0:=c0;have q0:=d0;rw[←HW.out]at p0 q0;have bb:=Below.refl W.heap.size W;cases x0 with
 |false=>
  go_enter Tryz.func24,Tryz.ntmps24
  go_wp2_with fail;rw[HW.out];refine(N0.out _ bb).mono ?_;rintro e w1 ⟨rfl,b1⟩;go_wp2;go_ret;exact⟨by rw[HR.out];rfl,below_on hb0 b1⟩
 |true=>
 cases x1 with
 |false=>
  go_enter Tryz.func24,Tryz.ntmps24
  go_wp2_with fail;rw[HW.out];refine(N0.out _ bb).mono ?_;rintro e w1 ⟨rfl,b1⟩;have c1':=cell_later b1 c1;have d1':=cell_later b1 d1;go_wp2_with fail;refine(N1.out _ b1).mono ?_;rintro e w2 ⟨rfl,b2⟩;go_wp2;go_ret;exact⟨by rw[HR.out];rfl,below_on (below_on hb0 b1) b2⟩
 |true=>
 cases x2 with
 |false=>
  go_enter Tryz.func24,Tryz.ntmps24
  go_wp2_with fail;rw[HW.out];refine(N0.out _ bb).mono ?_;rintro e w1 ⟨rfl,b1⟩;have c1':=cell_later b1 c1;have d1':=cell_later b1 d1;go_wp2_with fail;refine(N1.out _ b1).mono ?_;rintro e w2 ⟨rfl,b2⟩;have bb2:=below_on b1 b2;have c2':=cell_later bb2 c2;have d2':=cell_later bb2 d2;go_wp2_with fail;refine(N2.out _ bb2).mono ?_;rintro e w3 ⟨rfl,b3⟩;go_wp2;go_ret;exact⟨by rw[HR.out];rfl,below_on (below_on hb0 bb2) b3⟩
 |true=>
 go_enter Tryz.func24,Tryz.ntmps24
 go_wp2_with fail;rw[HW.out];refine(N0.out _ bb).mono ?_;rintro e w1 ⟨rfl,b1⟩;have c1':=cell_later b1 c1;have d1':=cell_later b1 d1;go_wp2_with fail;refine(N1.out _ b1).mono ?_;rintro e w2 ⟨rfl,b2⟩;have bb2:=below_on b1 b2;have c2':=cell_later bb2 c2;have d2':=cell_later bb2 d2;go_wp2_with fail;refine(N2.out _ bb2).mono ?_;rintro e w3 ⟨rfl,b3⟩;have bb3:=below_on bb2 b3;have c3':=cell_later bb3 c3;have d3':=cell_later bb3 d3;go_wp2_with fail;refine(N3.out _ bb3).mono ?_;rintro e w4 ⟨rfl,b4⟩;go_wp2;go_ret;exact⟨by rw[HR.out];rfl,below_on (below_on hb0 bb3) b4⟩
theorem nfits_any(S E B V A:Option Addr)(cs ce cb cv c:Nat)(n:Note)(l:List (Int × Int))(w:World)(h1:NoteAt w S E B V cs ce cb cv n)(h2:OneL w A c l) :
  Calls Tryz.prog 137 #[.agg (noteCells S E B V cs ce cb cv n),.slice A l.length c] w (Says (.bool (Ve.cov (Ve.cnt l) (Ve.cnt n.s))) w):=by
 obtain⟨W,hW⟩:∃W,w.alloc (.cells (noteCells S E B V cs ce cb cv n) 40)=W:=⟨_,rfl⟩;have hb0:Below w.heap.size w W:=by rw[←hW];exact below_new (Below.refl _ _) _
 have hB0:Blk W w.heap.size 40 (noteCells S E B V cs ce cb cv n):=by rw[←hW];exact Blk.new w _ _
 obtain⟨c0,c1,c2,c3⟩:=note_cells hB0;have hO:=h2.later hb0;have hS:=h1.hs.later hb0;have N0:=Hd (rcovers_any A S c cs l n.s W hO.len hS.len hO.stamps hS.stamps);have p0:=c0;rw[←hW]at p0;have HW:=Hd hW;clear hW hB0 h1 h2 hO hS
 go_enter Tryz.func137,Tryz.ntmps137
 go_wp2_with fail;rw[HW.out];refine N0.out.mono ?_;rintro e w1 ⟨rfl,b1⟩;go_wp2;go_ret;exact⟨rfl,below_on hb0 b1⟩
theorem nformed_any(S E B V:Option Addr)(cs ce cb cv:Nat)(n:Note)(w:World)(h1:NoteAt w S E B V cs ce cb cv n) :
  Calls Tryz.prog 136 #[.agg (noteCells S E B V cs ce cb cv n)] w (Says (.bool (Nt.fmd n)) w):=by
 obtain⟨W,hW⟩:∃W,w.alloc (.cells (noteCells S E B V cs ce cb cv n) 40)=W:=⟨_,rfl⟩;have hb0:Below w.heap.size w W:=by rw[←hW];exact below_new (Below.refl _ _) _
 have hB0:Blk W w.heap.size 40 (noteCells S E B V cs ce cb cv n):=by rw[←hW];exact Blk.new w _ _
 obtain⟨c0,c1,c2,c3⟩:=note_cells hB0;have p0:=c0;rw[←hW]at p0;have HN:=Hd (h1.later hb0);have HR:=Hd (show Nt.fmd n=(Ve.fmd n.s&&(Ve.fmd n.e&&(Ve.cov (Ve.cnt n.e) (Ve.cnt n.s)&&(Sp.fmd n.b&&Nt.wsOk n)))) from rfl);have N0:=Hd (fun wx (hb:Below W.heap.size W wx)=>rformed_any S cs n.s wx (HN.out.hs.later hb).len (HN.out.hs.later hb).stamps)
 have N1:=Hd (fun wx (hb:Below W.heap.size W wx)=>rformed_any E ce n.e wx (HN.out.he.later hb).len (HN.out.he.later hb).stamps)
 have N2:=Hd (fun wx (hb:Below W.heap.size W wx)=>rcovers_any E S ce cs n.e n.s wx (HN.out.he.later hb).len (HN.out.hs.later hb).len (HN.out.he.later hb).stamps (HN.out.hs.later hb).stamps)
 have N3:=Hd (fun wx (hb:Below W.heap.size W wx)=>sformed_any B cb n.b wx (HN.out.hb.later hb))
 obtain⟨x0,hx0⟩:∃x,Ve.fmd n.s=x:=⟨_,rfl⟩;obtain⟨x1,hx1⟩:∃x,Ve.fmd n.e=x:=⟨_,rfl⟩;obtain⟨x2,hx2⟩:∃x,Ve.cov (Ve.cnt n.e) (Ve.cnt n.s)=x:=⟨_,rfl⟩;obtain⟨x3,hx3⟩:∃x,Sp.fmd n.b=x:=⟨_,rfl⟩;rw[hx0]at N0 HR;rw[hx1]at N1 HR;rw[hx2]at N2 HR;rw[hx3]at N3 HR;have HW:=Hd hW;clear hW hx0 hx1 hx2 hx3;have bb0:=Below.refl W.heap.size W;cases x0 with
 |false=>
  go_enter Tryz.func136,Tryz.ntmps136
  go_wp2_with fail;rw[HW.out];refine(N0.out _ bb0).mono ?_;rintro e w1 ⟨rfl,b1⟩;have bb1:=below_on bb0 b1;go_wp2;go_ret;exact⟨by rw[HR.out];rfl,below_on hb0 bb1⟩
 |true=>
 cases x1 with
 |false=>
  go_enter Tryz.func136,Tryz.ntmps136
  go_wp2_with fail;rw[HW.out];refine(N0.out _ bb0).mono ?_;rintro e w1 ⟨rfl,b1⟩;have bb1:=below_on bb0 b1;have c1_1:=cell_later bb1 c1;go_wp2_with fail;refine(N1.out _ bb1).mono ?_;rintro e w2 ⟨rfl,b2⟩;have bb2:=below_on bb1 b2;go_wp2;go_ret;exact⟨by rw[HR.out];rfl,below_on hb0 bb2⟩
 |true=>
 cases x2 with
 |false=>
  go_enter Tryz.func136,Tryz.ntmps136
  go_wp2_with fail;rw[HW.out];refine(N0.out _ bb0).mono ?_;rintro e w1 ⟨rfl,b1⟩;have bb1:=below_on bb0 b1;have c1_1:=cell_later bb1 c1;go_wp2_with fail;refine(N1.out _ bb1).mono ?_;rintro e w2 ⟨rfl,b2⟩;have bb2:=below_on bb1 b2;have c0_2:=cell_later bb2 c0;have c1_2:=cell_later bb2 c1;go_wp2_with fail;refine(N2.out _ bb2).mono ?_;rintro e w3 ⟨rfl,b3⟩;have bb3:=below_on bb2 b3;go_wp2;go_ret;exact⟨by rw[HR.out];rfl,below_on hb0 bb3⟩
 |true=>
 cases x3 with
 |false=>
  go_enter Tryz.func136,Tryz.ntmps136
  go_wp2_with fail;rw[HW.out];refine(N0.out _ bb0).mono ?_;rintro e w1 ⟨rfl,b1⟩;have bb1:=below_on bb0 b1;have c1_1:=cell_later bb1 c1;go_wp2_with fail;refine(N1.out _ bb1).mono ?_;rintro e w2 ⟨rfl,b2⟩;have bb2:=below_on bb1 b2;have c0_2:=cell_later bb2 c0;have c1_2:=cell_later bb2 c1;go_wp2_with fail;refine(N2.out _ bb2).mono ?_;rintro e w3 ⟨rfl,b3⟩;have bb3:=below_on bb2 b3;have c2_3:=cell_later bb3 c2;go_wp2_with fail;refine(N3.out _ bb3).mono ?_;rintro e w4 ⟨rfl,b4⟩;have bb4:=below_on bb3 b4;go_wp2;go_ret;exact⟨by rw[HR.out];rfl,below_on hb0 bb4⟩
 |true=>
 go_enter Tryz.func136,Tryz.ntmps136
 go_wp2_with fail;rw[HW.out];refine(N0.out _ bb0).mono ?_;rintro e w1 ⟨rfl,b1⟩;have bb1:=below_on bb0 b1;have c1_1:=cell_later bb1 c1;go_wp2_with fail;refine(N1.out _ bb1).mono ?_;rintro e w2 ⟨rfl,b2⟩;have bb2:=below_on bb1 b2;have c0_2:=cell_later bb2 c0;have c1_2:=cell_later bb2 c1;go_wp2_with fail;refine(N2.out _ bb2).mono ?_;rintro e w3 ⟨rfl,b3⟩;have bb3:=below_on bb2 b3;have c2_3:=cell_later bb3 c2;go_wp2_with fail;refine(N3.out _ bb3).mono ?_;rintro e w4 ⟨rfl,b4⟩;have bb4:=below_on bb3 b4;have c3_4:=cell_later bb4 c3;go_wp2_with fail
 go_loopw [3] (fun s3 wr=>∃k:Nat,k≤n.ws.length∧s3 = .int .i64 (k:Int)∧Nt.wsTo n k∧Below W.heap.size W wr) (fun s3 _=>n.ws.length-(intOf s3).toNat)
 case atStart=>exact⟨0,Nat.zero_le _,rfl,fun j hj=>by omega,bb4⟩
 case round=>
  obtain⟨k,hk,rfl,hall,hbw⟩:=hrel;have HALL:=Hd hall;have hlenw:=HN.out.hv.len;have g1:=cell_later hbw c1;have g2:=cell_later hbw c2;have g3:=cell_later hbw c3;clear hall c1_1 c0_2 c1_2 c2_3 c3_4 p0
  by_cases hlt:k<n.ws.length
  ·have hne:n.ws≠[]:=fun e=>by rw[e]at hlt;simp at hlt
   obtain⟨b,off,hA,hcA⟩:=(HN.out.hv.later hbw).at hne;subst hA;obtain⟨e0,e1,e2,e3⟩:=hcA k hlt;have hi0:(0:Int)≤(k:Int):=by omega
   have hi1:(k:Int)<(n.ws.length:Int):=by omega
   have hno :=@Nt.wsOk_no n k hlt
   have hnx:hasOf n.e (n.ws.getD k Nt.zeroW).1 (n.ws.getD k Nt.zeroW).2.1=true→(0≤Nt.obj n.ws k∧Nt.obj n.ws k≤255)→inOf n.b (Nt.obj n.ws k)=false→(0<k→Nt.obj n.ws (k-1)<Nt.obj n.ws k)→Nt.wsTo n (k+1):=fun q1 q2 q3 q4 j hj=>by
    by_cases e:j=k
    ·subst e;exact⟨q1,q2,q3,q4⟩
    ·exact HALL.out j (by omega)
   have hprev:∀m,k=m+1→wr.cell? ⟨b,off+m*4+2,none⟩=some (.int .i64 (Nt.obj n.ws m)):=fun m e=>(hcA m (by omega)).2.2.1
   have hob:(n.ws.getD k Nt.zeroW).2.2.1=Nt.obj n.ws k:=rfl;rw[hob]at e2;obtain⟨x,hx⟩:∃x,(n.ws.getD k Nt.zeroW).1=x:=⟨_,rfl⟩;obtain⟨y,hy⟩:∃y,(n.ws.getD k Nt.zeroW).2.1=y:=⟨_,rfl⟩;obtain⟨gn,hgn⟩:∃gn,(n.ws.getD k Nt.zeroW).2.2.2=gn:=⟨_,rfl⟩;obtain⟨o,ho⟩:∃o,Nt.obj n.ws k=o:=⟨_,rfl⟩;rw[hx]at e0 hno hnx;rw[hy]at e1 hno hnx;rw[hgn]at e3;rw[ho]at e2 hno hnx;obtain⟨hs,hhs⟩:∃hs,hasOf n.e x y=hs:=⟨_,rfl⟩;obtain⟨ib,hib⟩:∃ib,inOf n.b o=ib:=⟨_,rfl⟩;obtain⟨W1,hW1⟩:∃W1,wr.alloc (.cells #[.int .i64 x,.int .i64 y,.int .i64 o,.bool gn] 52)=W1:=⟨_,rfl⟩;have hbn:Below wr.heap.size wr W1:=by rw[←hW1];exact below_new (Below.refl _ _) _
   have hB1:Blk W1 wr.heap.size 52 #[.int .i64 x,.int .i64 y,.int .i64 o,.bool gn]:=by rw[←hW1];exact Blk.new wr _ _
   have hbw1:=below_on hbw hbn;have k0:∀d os,(Sort.grow (redrawn W1 d) os).cell? ⟨wr.heap.size,0,none⟩=some (.int .i64 x):=cell_regrown (hB1.cell rfl);have k1:∀d os,(Sort.grow (redrawn W1 d) os).cell? ⟨wr.heap.size,1,none⟩=some (.int .i64 y):=cell_regrown (hB1.cell rfl);have k2:∀d os,(Sort.grow (redrawn W1 d) os).cell? ⟨wr.heap.size,2,none⟩=some (.int .i64 o):=cell_regrown (hB1.cell rfl);have k4:∀d os,(Sort.grow (redrawn W1 d) os).cell? ⟨w.heap.size,1,none⟩=some (.slice E n.e.length ce):=cell_regrown (cell_later hbn g1);have k5:∀d os,(Sort.grow (redrawn W1 d) os).cell? ⟨w.heap.size,2,none⟩=some (.slice B n.b.length cb):=cell_regrown (cell_later hbn g2);have k6:∀d os,(Sort.grow (redrawn W1 d) os).cell? ⟨w.heap.size,3,none⟩=some (.slice (some ⟨b,off,none⟩) n.ws.length cv):=cell_regrown (cell_later hbn g3)
   have cH:∀d os,Calls Tryz.prog 35 #[.slice E n.e.length ce,.agg #[.int .i64 x,.int .i64 y]] (Sort.grow (redrawn W1 d) os) fun e w''=>e = .returned (.bool hs)∧∃p:Regrown,w''=Sort.grow (redrawn W1 p.d) p.os:=fun d os=>by
    rw[←hhs];have hE:=(HN.out.he.later hbw1).later (below_regrown W1 d os);exact Calls.regrown_of (rhas_any E ce n.e x y _ hE.len hE.stamps)
   have cI:∀d os,Calls Tryz.prog 41 #[.slice B n.b.length cb,.int .i64 o] (Sort.grow (redrawn W1 d) os) fun e w''=>e = .returned (.bool ib)∧∃p:Regrown,w''=Sort.grow (redrawn W1 p.d) p.os:=fun d os=>by
    rw[←hib];exact Calls.regrown_of (shas_any B cb n.b o _ ((HN.out.hb.later hbw1).later (below_regrown W1 d os)))
   rw[hhs,hib]at hno hnx;have CH:=Hd cH;have CI:=Hd cI;have NO:=Hd hno;have NX:=Hd hnx;have PV:=Hd hprev;have HW1:=Hd hW1;clear hcA hno hnx hprev cH cI hW1 hB1 hob hx hy hgn ho hhs hib
   have hcs:(hs=false)∨(hs=true∧decide (o<0)=true∧o<0)∨(hs=true∧decide (o<0)=false∧0≤o∧decide (255<o)=true∧255<o)∨(hs=true∧decide (o<0)=false∧0≤o∧decide (255<o)=false∧o≤255∧ib=true)∨(hs=true∧decide (o<0)=false∧0≤o∧decide (255<o)=false∧o≤255∧ib=false):=by
    cases hs
    ·exact .inl rfl
    ·by_cases h1:o<0
     ·exact .inr (.inl ⟨rfl,decide_eq_true h1,h1⟩)
     ·by_cases h2:255<o
      ·exact .inr (.inr (.inl ⟨rfl,decide_eq_false h1,by omega,decide_eq_true h2,h2⟩))
      ·cases ib
       ·exact .inr (.inr (.inr (.inr ⟨rfl,decide_eq_false h1,by omega,decide_eq_false h2,by omega,rfl⟩)))
       ·exact .inr (.inr (.inr (.inl ⟨rfl,decide_eq_false h1,by omega,decide_eq_false h2,by omega,rfl⟩)))
   rcases hcs with rfl|⟨rfl,d1,d2⟩|⟨rfl,d1,d2,d3,d4⟩|⟨rfl,d1,d2,d3,d4,rfl⟩|⟨rfl,d1,d2,d3,d4,rfl⟩
   ·have HNO:=Hd (NO.out (fun h=>by have:=h.1;cases this))
    go_wp2_with fail;rw[HW1.out];refine wp_region_quiet_below (by kernel_rfl) (by kernel_rfl) ?_
    repeat (first|go_big_quiet_step (first|exact CH.out _ _|exact CI.out _ _)|quiet_step (first|exact CH.out _ _|exact CI.out _ _))
    refine wpQuiet_nil ?_;intro _ hw';obtain⟨⟨dq,osq⟩,hw''⟩:=hw';subst hw'';go_wp2;go_ret;exact⟨by rw[HR.out,HNO.out];rfl,below_on hb0 (below_on hbw1 (below_regrown W1 dq osq))⟩
   ·have HNO:=Hd (NO.out (fun h=>by have:=h.2.1.1;omega))
    go_wp2_with fail;rw[HW1.out];refine wp_region_quiet_below (by kernel_rfl) (by kernel_rfl) ?_
    repeat (first|go_big_quiet_step (first|exact CH.out _ _|exact CI.out _ _)|quiet_step (first|exact CH.out _ _|exact CI.out _ _))
    refine wpQuiet_nil ?_;intro _ hw';obtain⟨⟨dq,osq⟩,hw''⟩:=hw';subst hw'';go_wp2;go_ret;exact⟨by rw[HR.out,HNO.out];rfl,below_on hb0 (below_on hbw1 (below_regrown W1 dq osq))⟩
   ·have HNO:=Hd (NO.out (fun h=>by have:=h.2.1.2;omega))
    go_wp2_with fail;rw[HW1.out];refine wp_region_quiet_below (by kernel_rfl) (by kernel_rfl) ?_
    repeat (first|go_big_quiet_step (first|exact CH.out _ _|exact CI.out _ _)|quiet_step (first|exact CH.out _ _|exact CI.out _ _))
    refine wpQuiet_nil ?_;intro _ hw';obtain⟨⟨dq,osq⟩,hw''⟩:=hw';subst hw'';go_wp2;go_ret;exact⟨by rw[HR.out,HNO.out];rfl,below_on hb0 (below_on hbw1 (below_regrown W1 dq osq))⟩
   ·have HNO:=Hd (NO.out (fun h=>by have:=h.2.2.1;cases this))
    go_wp2_with fail;rw[HW1.out];refine wp_region_quiet_below (by kernel_rfl) (by kernel_rfl) ?_
    repeat (first|go_big_quiet_step (first|exact CH.out _ _|exact CI.out _ _)|quiet_step (first|exact CH.out _ _|exact CI.out _ _))
    refine wpQuiet_nil ?_;intro _ hw';obtain⟨⟨dq,osq⟩,hw''⟩:=hw';subst hw'';go_wp2;go_ret;exact⟨by rw[HR.out,HNO.out];rfl,below_on hb0 (below_on hbw1 (below_regrown W1 dq osq))⟩
   ·cases k with
    |zero=>
     simp only[Nat.zero_mul,Nat.add_zero]at e0 e1 e2 e3;have HT:=Hd (NX.out rfl ⟨d2,d4⟩ rfl (fun h=>by omega))
     go_wp2_with fail;rw[HW1.out];refine wp_region_quiet_below (by kernel_rfl) (by kernel_rfl) ?_
     repeat (first|go_big_quiet_step (first|exact CH.out _ _|exact CI.out _ _)|quiet_step (first|exact CH.out _ _|exact CI.out _ _))
     refine wpQuiet_nil ?_;intro _ hw';obtain⟨⟨dq,osq⟩,hw''⟩:=hw';subst hw'';go_wp2_with fail
     go_roundw
     case rel=>exact⟨_,by omega,by first|rfl|go_num,HT.out,below_on hbw1 (below_regrown W1 dq osq)⟩
     case measure=>simp[intOf];omega
    |succ m=>
     have hm1:((m+1:Nat):Int)-1=(m:Int):=by omega
     have hj0:(0:Int)≤(m:Int):=by omega
     have hj1:(m:Int)<(n.ws.length:Int):=by omega
     have hg:decide (((m+1:Nat):Int)>0)=true:=decide_eq_true (by omega)
     have f1:=PV.out m rfl;obtain⟨po,hpo⟩:∃po,Nt.obj n.ws m=po:=⟨_,rfl⟩;rw[hpo]at f1;have k7:∀d os,(Sort.grow (redrawn W1 d) os).cell? ⟨b,off+m*4+2,none⟩=some (.int .i64 po):=cell_regrown (cell_later hbn f1);have HPO:=Hd hpo;clear f1 hpo
     by_cases hge:o≤po
     ·have d5:decide (o≤po)=true:=decide_eq_true hge
      have HNO:=Hd (NO.out (fun h=>by have h2:=h.2.2.2 (by omega);rw[show m+1-1=m from rfl,HPO.out]at h2;omega))
      go_wp2_with fail;rw[HW1.out];refine wp_region_quiet_below (by kernel_rfl) (by kernel_rfl) ?_
      repeat (first|go_big_quiet_step (first|exact CH.out _ _|exact CI.out _ _)|quiet_step (first|exact CH.out _ _|exact CI.out _ _))
      refine wpQuiet_nil ?_;intro _ hw';obtain⟨⟨dq,osq⟩,hw''⟩:=hw';subst hw'';go_wp2;go_ret;exact⟨by rw[HR.out,HNO.out];rfl,below_on hb0 (below_on hbw1 (below_regrown W1 dq osq))⟩
     ·have d5:decide (o≤po)=false:=decide_eq_false hge
      have HT:=Hd (NX.out rfl ⟨d2,d4⟩ rfl (fun _=>by rw[show m+1-1=m from rfl,HPO.out];omega))
      go_wp2_with fail;rw[HW1.out];refine wp_region_quiet_below (by kernel_rfl) (by kernel_rfl) ?_
      repeat (first|go_big_quiet_step (first|exact CH.out _ _|exact CI.out _ _)|quiet_step (first|exact CH.out _ _|exact CI.out _ _))
      refine wpQuiet_nil ?_;intro _ hw';obtain⟨⟨dq,osq⟩,hw''⟩:=hw';subst hw'';go_wp2_with fail
      go_roundw
      case rel=>exact⟨_,by omega,by first|rfl|go_num,HT.out,below_on hbw1 (below_regrown W1 dq osq)⟩
      case measure=>simp[intOf];omega
  ·have hkl:k=n.ws.length:=by omega
   have hok:Nt.wsOk n=true:=(Nt.wsOk_iff n).2 (by rw[←hkl];exact HALL.out)
   have HOK:=Hd hok;clear hok;subst hkl;go_wp2;go_ret;exact⟨by rw[HR.out,HOK.out];rfl,below_on hb0 hbw⟩
namespace Nt
theorem at_some{l:List Wr}{o:Int}{k:Nat}(hk:k<l.length)(h:obj l k=o)(hb:∀j,j<k→obj l j≠o):at_ l o=(l.getD k zeroW,true):=by
 have:l.find? (fun x=>decide (x.2.2.1=o))=some (l.getD k zeroW):=by
  rw[List.find?_eq_some_iff_getElem];have e:l.getD k zeroW=l[k]:=by rw[List.getD_eq_getElem?_getD,List.getElem?_eq_getElem hk];rfl
  refine⟨decide_eq_true h,k,hk,e.symm,fun j hj =>?_⟩
  have h2:=hb j hj;unfold obj at h2;rw[List.getD_eq_getElem?_getD,List.getElem?_eq_getElem (by omega)]at h2
  simpa using h2
 unfold at_;rw[this]
theorem at_none{l:List Wr}{o:Int}(hb:∀j,j<l.length→obj l j≠o):at_ l o=(zeroW,false):=by
 have:l.find? (fun x=>decide (x.2.2.1=o))=none:=by
  rw[List.find?_eq_none];intro x hx;obtain⟨j,hj,rfl⟩:=List.mem_iff_getElem.1 hx;have h2:=hb j hj;unfold obj at h2;rw[List.getD_eq_getElem?_getD,List.getElem?_eq_getElem hj]at h2
  simpa using h2
 unfold at_;rw[this]
end Nt
theorem infoW4:(Tryz.prog.info? 52).map (·.size)=some 4:=by kernel_rfl
theorem nat_any(A:Option Addr)(c:Nat)(l:List Wr)(o:Int)(w:World)(h:OneW w A c l) :
  Calls Tryz.prog 88 #[.slice A l.length c,.int .i64 o] w (Says (.tuple #[Nt.wrV (Nt.at_ l o).1,.bool (Nt.at_ l o).2]) w):=by
 have hl:=h.len;have H1:=Hd h;clear h
 go_enter Tryz.func88,Tryz.ntmps88
 go_wp2_with fail
 go_loopw [6] (fun s6 wr=>∃k:Nat,k≤l.length∧s6 = .int .i64 (k:Int)∧(∀j,j<k→Nt.obj l j≠o)∧Blk wr w.heap.size 52 (Nt.wrArr Nt.zeroW)∧Below w.heap.size w wr) (fun s6 _=>l.length-(intOf s6).toNat)
 case atStart=>exact⟨0,Nat.zero_le _,rfl,(fun j hj=>by omega),Blk.new _ _ _,below_new (Below.refl _ _) _⟩
 case round=>
  obtain⟨k,hk,rfl,hall,hB,hbw⟩:=hrel;have HALL:=Hd hall;clear hall;have z0:=hB.cell (i:=0) rfl;have z1:=hB.cell (i:=1) rfl;have z2:=hB.cell (i:=2) rfl;have z3:=hB.cell (i:=3) rfl;have y0:=hB.free 0;have y1:=hB.free 1;have y2:=hB.free 2;have y3:=hB.free 3;have HB:=Hd hB;clear hB
  by_cases hlt:k<l.length
  ·have hne:l≠[]:=fun e=>by subst e;simp at hlt
   obtain⟨b,off,hA,hcA⟩:=(H1.out.later hbw).at hne;have H1':=H1;subst hA;obtain⟨e0,e1,e2,e3⟩:=hcA k hlt;clear hcA;have hi0:(0:Int)≤(k:Int):=by omega
   have hi1:(k:Int)<(l.length:Int):=by omega
   have hob:(l.getD k Nt.zeroW).2.2.1=Nt.obj l k:=rfl
   by_cases heq:Nt.obj l k=o
   ·have hd:(Nt.obj l k == o)=true:=beq_iff_eq.2 heq
    have hat:=Nt.at_some hlt heq HALL.out;obtain⟨x,hx⟩:∃x,l.getD k Nt.zeroW=x:=⟨_,rfl⟩;rw[hx]at e0 e1 e2 e3 hob hat;rw[←hob]at hd;have HAT:=Hd hat
    have hbf:b≠w.heap.size:=fun e=>by
     have hq:=World.cell?_of_block (w:=wr) (w':=wr) (a:=⟨b,off+k*4,none⟩) rfl;have h0:=H1.out.2.2.2;have hne2:Nt.wrCells l≠[]:=fun e2=>hne (Nt.wrCells_nil.1 e2)
     obtain⟨b',off',hA',hc'⟩:=h0 hne2;injection hA' with hA'
     injection hA' with hA1 hA2
     obtain⟨q1,_⟩:=Nt.wrCells_get l k hlt;have:=World.block_lt_of_cell? _ _ (hc' _ _ q1);simp at this;omega
    clear hat hx hob heq;go_wp2;have hB4:Blk ((((wr.setCell ⟨w.heap.size,0,none⟩ (.int .i64 x.1)).setCell ⟨w.heap.size,1,none⟩ (.int .i64 x.2.1)).setCell ⟨w.heap.size,2,none⟩ (.int .i64 x.2.2.1)).setCell ⟨w.heap.size,3,none⟩ (.bool x.2.2.2)) w.heap.size 52 (Nt.wrArr x):=(((HB.out.put 0 _).put 1 _).put 2 _).put 3 _;exact bodyPost_ret (v :=.tuple #[Nt.wrV x,.bool true]) (results_cell_tmp (p:=4) (t1:=5) (ty:=52) rfl _ _ w.heap.size 52 (Nt.wrArr x) _ rfl hB4 Tryz.underlying52 rfl infoW4) rfl ⟨by rw[HAT.out],(((hbw.setCell (p:=⟨w.heap.size,0,none⟩) (Nat.le_refl _) _).setCell (p:=⟨w.heap.size,1,none⟩) (Nat.le_refl _) _).setCell (p:=⟨w.heap.size,2,none⟩) (Nat.le_refl _) _).setCell (p:=⟨w.heap.size,3,none⟩) (Nat.le_refl _) _⟩
   ·have hd:(Nt.obj l k == o)=false:=beq_eq_false_iff_ne.2 heq
    have HT:=Hd (show ∀j,j<k+1→Nt.obj l j≠o from fun j hj=>by
     by_cases e:j=k
     ·subst e;exact heq
     ·exact HALL.out j (by omega))
    obtain⟨x,hx⟩:∃x,l.getD k Nt.zeroW=x:=⟨_,rfl⟩;rw[hx]at e0 e1 e2 e3 hob;rw[←hob]at hd;clear hob heq hx;go_wp2_with fail
    go_roundw
    case rel=>exact⟨k+1,by omega,by go_num,HT.out,HB.out,hbw⟩
    case measure=>simp[intOf];omega
  ·have hkl:k=l.length:=by omega
   have hat:=Nt.at_none (l:=l) (o:=o) (fun j hj=>HALL.out j (by omega))
   have HAT:=Hd hat;clear hat;subst hkl;go_wp2;have hB4:Blk ((((wr.setCell ⟨w.heap.size,0,none⟩ (.int .i64 0)).setCell ⟨w.heap.size,1,none⟩ (.int .i64 0)).setCell ⟨w.heap.size,2,none⟩ (.int .i64 0)).setCell ⟨w.heap.size,3,none⟩ (.bool false)) w.heap.size 52 (Nt.wrArr Nt.zeroW):=(((HB.out.put 0 _).put 1 _).put 2 _).put 3 _;exact bodyPost_ret (v :=.tuple #[Nt.wrV Nt.zeroW,.bool false]) (results_cell_tmp (p:=4) (t1:=5) (ty:=52) rfl _ _ w.heap.size 52 (Nt.wrArr Nt.zeroW) _ rfl hB4 Tryz.underlying52 rfl infoW4) rfl ⟨by rw[HAT.out],(((hbw.setCell (p:=⟨w.heap.size,0,none⟩) (Nat.le_refl _) _).setCell (p:=⟨w.heap.size,1,none⟩) (Nat.le_refl _) _).setCell (p:=⟨w.heap.size,2,none⟩) (Nat.le_refl _) _).setCell (p:=⟨w.heap.size,3,none⟩) (Nat.le_refl _) _⟩
namespace Tr
theorem atI_none{zs:List Zn}{o:Int}(h:∀j,j<zs.length→holds (zs.getD j (0,0,[])) o=false):atI zs o = -1:=by
 rcases at_ways zs o with ⟨h1,-,-⟩|⟨k,h1,-,-,h4,-⟩
 ·exact h1
 ·rw[h k h1]at h4;cases h4
theorem atI_some{zs:List Zn}{o:Int}{k:Nat}(hk:k<zs.length)(h:holds (zs.getD k (0,0,[])) o=true)(hb:∀j,j<k→holds (zs.getD j (0,0,[])) o=false):atI zs o=(k:Int):=by
 rcases at_ways zs o with ⟨-,-,h1⟩|⟨i,h1,h2,-,h4,h5⟩
 ·rw[h1 k hk]at h;cases h
 ·rcases Nat.lt_trichotomy i k with hl|rfl|hl
  ·rw[hb i hl]at h4;cases h4
  ·exact h2
  ·rw[h5 k hl]at h;cases h
end Tr
def GivesZ(zs:List Zn)(w:World)(e:Ending)(w':World):Prop:=∃A c L,e = .returned (.slice A (List.length L) c)∧OneZ w' A c L∧L.map Zc.zn=zs∧Below w.heap.size w w'
namespace Sf
theorem fmd_no{l:List Wr}(k:Nat)(hk:k<l.length)(h:¬ok l k):fmd l=false:=by
 cases hc:fmd l with
 |false=>rfl
 |true=>exact absurd ((fmd_iff l).1 hc k hk) h
theorem outTo_some{f:Mp}{k:Nat}{x:Wr}(h:f k=some x):outTo f (k+1)=outTo f k++[x]:=by
 unfold outTo;rw[List.range_succ,List.filterMap_append];simp[h]
theorem outTo_none{f:Mp}{k:Nat}(h:f k=none):outTo f (k+1)=outTo f k:=by
 unfold outTo;rw[List.range_succ,List.filterMap_append];simp[h]
theorem foldl_take{α β:Type}(g:β→α→β)(b:β)(l:List α)(k:Nat)(h:k<l.length):(l.take (k+1)).foldl g b=g ((l.take k).foldl g b) l[k]:=by
 rw[List.take_succ_eq_append_getElem h,List.foldl_append];rfl
theorem arr_ext{f g:Nat→Wr}(h:∀i,i<256→f i=g i):arr f=arr g:=by
 refine congrArg List.toArray (List.map_congr_left ?_);intro i hi;rw[h (i / 4) (by have:=List.mem_range.1 hi;omega)]
end Sf
theorem str_inj{l r:List Int}(hl:∀x∈l,isB x)(hr:∀x∈r,isB x)(h:strOfNums l=strOfNums r):l=r:=by
 have h1:(l.map fun n=>UInt8.ofNat n.toNat)=r.map fun n=>UInt8.ofNat n.toNat:=by
  have:=congrArg (fun s:ByteArray=>s.data.toList) h
  simpa[strOfNums_data] using this
 have back:∀m:List Int,(∀x∈m,isB x)→(m.map fun n=>UInt8.ofNat n.toNat).map (fun u:UInt8=>(u.toNat:Int))=m:=fun m hm=>by
  rw[List.map_map];refine(List.map_congr_left fun x hx =>?_).trans (List.map_id m)
  have hb:=hm x hx;show((UInt8.ofNat x.toNat).toNat:Int)=x;rw[UInt8.toNat_ofNat'];unfold isB at hb;omega
 rw[←back l hl,←back r hr,h1]
theorem str_eq{l r:List Int}(hl:∀x∈l,isB x)(hr:∀x∈r,isB x):((strOfNums l).toList == (strOfNums r).toList)=decide (l=r):=by
 rw[←beq_toListBytes,Bool.eq_iff_iff,decide_eq_true_eq];exact⟨fun h=>str_inj hl hr ((MapKept.bytes_beq _ _).1 h),fun h=>by rw[h];exact(MapKept.bytes_beq _ _).2 rfl⟩
def GivesC(l:List Bd)(w:World)(e:Ending)(w':World):Prop:=∃A c L,e = .returned (.slice A L.length c)∧L.map Bc.b=l∧OwnC w' w.heap.size A c L∧Below w.heap.size w w'
theorem bright_any(D:Option Addr)(d:Nat)(x:Bd)(w:World) :
  Calls Tryz.prog 80 #[.agg (bdCells D d x)] w (Says (.bool (Wi.bright x)) w):=by
 obtain⟨o,c,n,l⟩:=x;unfold bdCells;simp only;obtain⟨W,hW⟩:∃W,w.alloc (.cells #[.int .i64 o,.int .i64 c,.int .i64 n,.slice D l.length d] 49)=W:=⟨_,rfl⟩;have hb0:Below w.heap.size w W:=by rw[←hW];exact below_new (Below.refl _ _) _
 have hB0:Blk W w.heap.size 49 #[.int .i64 o,.int .i64 c,.int .i64 n,.slice D l.length d]:=by rw[←hW];exact Blk.new w _ _
 have c0:=hB0.cell (i:=0) rfl;have c1:=hB0.cell (i:=1) rfl;have c2:=hB0.cell (i:=2) rfl;have c3:=hB0.cell (i:=3) rfl;have hR:=Hd (show Wi.bright ⟨o,c,n,l⟩=(decide (0≤o)&&(decide (o≤255)&&(St.rgt c n&&decide (l.length≤256)))) from rfl);have HW:=Hd hW;have NR:=Hd (rright_any c n W);obtain⟨rg,hrg⟩:∃rg,St.rgt c n=rg:=⟨_,rfl⟩;rw[hrg]at hR NR;clear hW hrg
 by_cases h1:0≤o
 ·have d1:decide (0≤o)=true:=decide_eq_true h1
  by_cases h2:o≤255
  ·have d2:decide (o≤255)=true:=decide_eq_true h2
   cases rg with
   |true=>
    go_enter Tryz.func80,Tryz.ntmps80
    go_wp2_with fail;rw[HW.out];refine NR.out.mono ?_;rintro e w1 ⟨rfl,b1⟩;have e3:=cell_later b1 c3;clear c0 c1 c2 c3
    by_cases h3:l.length≤256
    ·have d3:decide ((l.length:Int)≤256)=true:=decide_eq_true (by omega)
     go_wp2;go_ret;exact⟨by rw[hR.out,d1,d2,decide_eq_true h3];first|rfl|simp,below_on hb0 b1⟩
    ·have d3:decide ((l.length:Int)≤256)=false:=decide_eq_false (by omega)
     go_wp2;go_ret;exact⟨by rw[hR.out,d1,d2,decide_eq_false h3];first|rfl|simp,below_on hb0 b1⟩
   |false=>
    go_enter Tryz.func80,Tryz.ntmps80
    go_wp2_with fail;rw[HW.out];refine NR.out.mono ?_;rintro e w1 ⟨rfl,b1⟩;go_wp2;go_ret;exact⟨by rw[hR.out,d1,d2];first|rfl|simp,below_on hb0 b1⟩
  ·have d2:decide (o≤255)=false:=decide_eq_false h2
   go_enter Tryz.func80,Tryz.ntmps80
   go_wp2_with fail;rw[HW.out];go_wp2;go_ret;exact⟨by rw[hR.out,d1,d2];first|rfl|simp,hb0⟩
 ·have d1:decide (0≤o)=false:=decide_eq_false h1
  go_enter Tryz.func80,Tryz.ntmps80
  go_wp2_with fail;rw[HW.out];go_wp2;go_ret;exact⟨by rw[hR.out,d1];first|rfl|simp,hb0⟩
theorem bcopy_any(A:Option Addr)(c1:Nat)(l:List Int)(w:World)(hl:l.length≤140737488355328)(h1:OneB w A c1 l) :
  Calls Tryz.prog 139 #[.slice A l.length c1] w (GivesB l w):=by
 obtain⟨i0,hi,hz0,hz1,hz2⟩:=info_parts infoBy
 have hown:(w.alloc (.cells #[] 5)).ownsRow w.heap.size 5 1 (.slice (some ⟨w.heap.size,0,none⟩) 0 0) 0 []:=
  ⟨rfl,.inr ⟨w.heap.size,0,#[],rfl,Nat.le_refl _,heap_alloc_new w _,Nat.le_refl _,Nat.zero_le _,rfl,rfl⟩⟩
 have HA:=Hd h1.noA
 go_enter Tryz.func139,Tryz.ntmps139
 go_wp2_with (at_builtin;refine wpList_append_lies _ rfl _ _ 47 rfl w.heap.size 5 i0 (.int .u8 0) 1 1 Tryz.underlying47 hi hz0 hz1 hz2 rfl (by decide) _ 0 [] rfl hown A l.length c1 HA.out (bCells l) rfl (by rw[bCells_length,Nat.mul_one]) (h1.lies.alloc _) (bCells_one l) ?c3 ?c4 ?c5 ?_)
 case c3=>unfold maxLen;omega
 case c4=>omega
 case c5=>simp
 intro v' w1 hown1 hg1 _;have hbw:Below w.heap.size w w1:=(below_new (Below.refl _ _) (.cells #[] 5)).grown hg1 (by simp) (by intro k hk;simp[Value.ownBlock]at hk;omega)
 try simp only[Nat.zero_add,List.nil_append]at hown1
 have HO:=Hd hown1;clear hown hown1 hg1;go_wp2;go_ret;exact⟨_,rfl,HO.out,hbw⟩
theorem bsame_any(A B:Option Addr)(c1 c2:Nat)(l r:List Int)(w:World)(h1:OneB w A c1 l)(h2:OneB w B c2 r) :
  Calls Tryz.prog 29 #[.slice A l.length c1,.slice B r.length c2] w fun e w'=>e = .returned (.bool (decide (l=r)))∧Below w.heap.size w w':=by
 have k1:=h1.text (P:=Tryz.prog) Tryz.underlying47 Tryz.underlying5 Tryz.underlying9;have k2:=h2.text (P:=Tryz.prog) Tryz.underlying47 Tryz.underlying5 Tryz.underlying9;have ke:=str_eq h1.byte h2.byte;obtain⟨q,hq⟩:∃q,decide (l=r)=q:=⟨_,rfl⟩;rw[hq]at ke ⊢;obtain⟨s,hs⟩:∃s,strOfNums l=s:=⟨_,rfl⟩;obtain⟨t,ht⟩:∃t,strOfNums r=t:=⟨_,rfl⟩;rw[hs]at k1 ke;rw[ht]at k2 ke;clear h1 h2 hq hs ht
 go_enter Tryz.func29,Tryz.ntmps29
 go_wp2;go_ret;exact⟨by first|rfl|(rw[←ke];rfl),Below.refl _ _⟩
theorem bsamebody_any(D D':Option Addr)(d d':Nat)(x y:Bd)(w:World)(hx:OneB w D d x.v)(hy:OneB w D' d' y.v) :
  Calls Tryz.prog 39 #[.agg (bdCells D d x),.agg (bdCells D' d' y)] w (Says (.bool (Wi.bsame x y)) w):=by
 obtain⟨o,c,n,l⟩:=x;obtain⟨o',c',n',l'⟩:=y;unfold bdCells;simp only at hx hy ⊢;obtain⟨W,hW⟩:∃W,(w.alloc (.cells #[.int .i64 o,.int .i64 c,.int .i64 n,.slice D l.length d] 49)).alloc (.cells #[.int .i64 o',.int .i64 c',.int .i64 n',.slice D' l'.length d'] 49)=W:=⟨_,rfl⟩;have b1:=below_new (Below.refl w.heap.size w) (.cells #[.int .i64 o,.int .i64 c,.int .i64 n,.slice D l.length d] 49);have hb0:Below w.heap.size w W:=by rw[←hW];exact below_new b1 _
 have NS:=Hd (bsame_any D D' d d' l l' W (hx.later hb0) (hy.later hb0));have hR:=Hd (show Wi.bsame ⟨o,c,n,l⟩ ⟨o',c',n',l'⟩=(decide (o=o')&&(decide (c=c'∧n=n')&&decide (l=l'))) from rfl);obtain⟨sm,hsm⟩:∃sm,decide (l=l')=sm:=⟨_,rfl⟩;rw[hsm]at NS hR;have HW:=Hd hW;clear hW hsm hx hy b1
 by_cases h0:o=o'
 ·subst h0
  by_cases h1:c=c'
  ·subst h1
   by_cases h2:n=n'
   ·subst h2
    go_enter Tryz.func39,Tryz.ntmps39
    go_wp2_with fail;rw[HW.out];refine NS.out.mono ?_;rintro e w1 ⟨rfl,b1⟩;go_wp2;go_ret;exact⟨by rw[hR.out];first|rfl|simp,below_on hb0 b1⟩
   ·have d1:decide (c=c∧n=n')=false:=decide_eq_false (fun h=>h2 h.2)
    rw[d1]at hR;have e2:(n == n')=false:=beq_eq_false_iff_ne.2 h2;clear d1
    go_enter Tryz.func39,Tryz.ntmps39
    go_wp2_with fail;rw[HW.out];go_wp2;go_ret;exact⟨by rw[hR.out];first|rfl|simp,hb0⟩
  ·have d1:decide (c=c'∧n=n')=false:=decide_eq_false (fun h=>h1 h.1)
   rw[d1]at hR;have e1:(c == c')=false:=beq_eq_false_iff_ne.2 h1;clear d1
   go_enter Tryz.func39,Tryz.ntmps39
   go_wp2_with fail;rw[HW.out];go_wp2;go_ret;exact⟨by rw[hR.out];first|rfl|simp,hb0⟩
 ·have d0:decide (o=o')=false:=decide_eq_false h0
  rw[d0]at hR;have e0:(o == o')=false:=beq_eq_false_iff_ne.2 h0;clear d0
  go_enter Tryz.func39,Tryz.ntmps39
  go_wp2_with fail;rw[HW.out];go_wp2;go_ret;exact⟨by rw[hR.out];first|rfl|simp,hb0⟩
namespace Ca
theorem map_ext{L M:List Bc}(hl:L.length=M.length)(h:∀k,k<L.length→(L.getD k Bc.zero).b=(M.getD k Bc.zero).b):L.map Bc.b=M.map Bc.b:=by
 apply List.ext_getElem
 ·simp[hl]
 ·intro i h1 h2
  simp at h1 h2;rw[List.getElem_map,List.getElem_map,←getD_lt h1,←getD_lt h2];exact h i h1
theorem map_at{L M:List Bc}(h:L.map Bc.b=M.map Bc.b)(k:Nat)(hk:k<L.length):(L.getD k Bc.zero).b=(M.getD k Bc.zero).b:=by
 have hl:L.length=M.length:=by have:=congrArg List.length h;simpa using this
 have h1:(L.map Bc.b)[k]?=(M.map Bc.b)[k]?:=by rw[h]
 rw[List.getElem?_map,List.getElem?_map,List.getElem?_eq_getElem hk,List.getElem?_eq_getElem (by omega)]at h1
 rw[getD_lt hk,getD_lt (by omega)]
 injection h1
end Ca
theorem cused_any(A:Option Addr)(c:Nat)(L:List Bc)(w:World)(h:OneC w A c L)(hu:Ca.used (L.map Bc.b)≤4611686018427387904) :
  Calls Tryz.prog 117 #[.slice A L.length c] w (Says (.int .i64 (Ca.used (L.map Bc.b):Int)) w):=by
 have hlen:=h.len;have HL:=Hd h;have HU:=Hd (fun k=>Ca.usedTo_le L k)
 have HA:=Hd (Ca.usedTo_all L);have HS:=Hd (fun k hk=>Ca.usedTo_succ (L:=L) (k:=k) hk)
 obtain⟨U,hUU⟩:∃U,Ca.used (L.map Bc.b)=U:=⟨_,rfl⟩;rw[hUU]at hu HU HA ⊢;clear h hUU
 go_enter Tryz.func117,Tryz.ntmps117
 go_wp2_with fail
 go_loopw [3,4] (fun s3 s4 wr=>∃k:Nat,k≤L.length∧s4 = .int .i64 (k:Int)∧s3 = .int .i64 (Ca.usedTo L k:Int)∧Below w.heap.size w wr) (fun _ s4 _=>L.length-(intOf s4).toNat)
 case atStart=>exact⟨0,Nat.zero_le _,rfl,rfl,Below.refl _ _⟩
 case round=>
  obtain⟨k,hk,rfl,rfl,hbw⟩:=hrel
  by_cases hlt:k<L.length
  ·have hne:L≠[]:=fun e=>by subst e;simp at hlt
   obtain⟨b,off,hA,hcs⟩:=(HL.out.later hbw).at hne;obtain⟨e0,e1,e2,e3⟩:=hcs k hlt;subst hA;have hi0:(0:Int)≤(k:Int):=by omega
   have hi1:(k:Int)<(L.length:Int):=by omega
   have hsu:=HS.out k hlt;have hul:=HU.out (k+1);obtain⟨x,hx⟩:∃x,L.getD k Bc.zero=x:=⟨_,rfl⟩;rw[hx]at e3 hsu;obtain⟨uk,huk⟩:∃uk,Ca.usedTo L k=uk:=⟨_,rfl⟩;rw[huk]at hsu ⊢;obtain⟨n,hn⟩:∃n,x.b.v.length=n:=⟨_,rfl⟩;rw[hn]at e3 hsu;have hw1:IntKind.i64.wrap ((uk:Int)+(n:Int))=(uk:Int)+(n:Int):=IntWalk.i64_in _ (by omega)
   have HSU:=Hd hsu;clear hcs e0 e1 e2 hx huk hn hsu;go_wp2_with fail
   go_roundw
   case rel=>exact⟨k+1,by omega,by go_num,by rw[HSU.out];simp,hbw⟩
   case measure=>simp[intOf];omega
  ·obtain rfl:k=L.length:=by omega
   rw[HA.out];have HB:=Hd hbw;clear hbw;go_wp2;go_ret;exact⟨rfl,HB.out⟩
theorem cbody_any(X:Option Addr)(d:Nat)(x:Bd)(w:World)(hz:x.v.length≤140737488355328)(h:OneB w X d x.v) :
  Calls Tryz.prog 72 #[.agg (bdCells X d x)] w (GivesBd x w):=by
 obtain⟨x0,x1,x2,vl⟩:=x;unfold bdCells;dsimp only at h hz ⊢;have b0:=below_new (below_new (Below.refl w.heap.size w) (.cells #[.int .i64 x0,.int .i64 x1,.int .i64 x2,.slice X vl.length d] 49)) (.cells #[.int .i64 0,.int .i64 0,.int .i64 0,.slice none 0 0] 49);have B0:=(Blk.new w 49 #[.int .i64 x0,.int .i64 x1,.int .i64 x2,.slice X vl.length d]).alloc (.cells #[.int .i64 0,.int .i64 0,.int .i64 0,.slice none 0 0] 49);have R0:=Blk.new (w.alloc (.cells #[.int .i64 x0,.int .i64 x1,.int .i64 x2,.slice X vl.length d] 49)) 49 #[.int .i64 0,.int .i64 0,.int .i64 0,.slice none 0 0];rw[World.size_alloc]at R0;obtain⟨W,hW⟩:∃W,(w.alloc (.cells #[.int .i64 x0,.int .i64 x1,.int .i64 x2,.slice X vl.length d] 49)).alloc (.cells #[.int .i64 0,.int .i64 0,.int .i64 0,.slice none 0 0] 49)=W:=⟨_,rfl⟩;rw[hW]at b0 B0 R0;have HX:=Hd (show W.cell? ⟨w.heap.size,0,none⟩=some (.int .i64 x0)∧W.cell? ⟨w.heap.size,1,none⟩=some (.int .i64 x1)∧W.cell? ⟨w.heap.size,2,none⟩=some (.int .i64 x2)∧W.cell? ⟨w.heap.size,3,none⟩=some (.slice X vl.length d) from⟨B0.cell rfl,B0.cell rfl,B0.cell rfl,B0.cell rfl⟩);have HW:=Hd hW;have HR:=Hd R0;have HB:=Hd b0;have NC:=Hd (fun w' (hb:Below W.heap.size W w')=>bcopy_any X d vl w' hz (h.later (below_on b0 hb)))
 have hzW:=b0.size;have hlt:=R0.lt;clear h hW B0 R0 b0
 go_enter Tryz.func72,Tryz.ntmps72
 go_upto_region 1 with (fail)
 rw[HW.out]
 refine wp_region_facts 8 (by kernel_rfl) (by kernel_rfl)
  (fun v=>{ tmps:=#[.agg #[.int .i64 x0,.int .i64 x1,.int .i64 x2,.slice X vl.length d],.pointer (some ⟨w.heap.size,0,none⟩),.pointer (some ⟨w.heap.size+1,0,none⟩),v 0,v 1,v 2,v 3,v 4,v 5,v 6,v 7],defers:=[] }) (fun _=>undef)
  (fun i x wx=>match i with
   |0=>x = .pointer (some ⟨w.heap.size,0,none⟩)
   |1=>x = .int .i64 x0
   |2=>x = .pointer (some ⟨w.heap.size,1,none⟩)
   |3=>x = .agg #[.int .i64 x1,.int .i64 x2]
   |4=>x = .pointer (some ⟨w.heap.size,3,none⟩)
   |5=>x = .slice X vl.length d
   |6=>∃Y e,x = .slice Y vl.length e∧wx.ownsRow W.heap.size 5 1 (.slice Y vl.length e) vl.length (bCells vl)
   |7=>∃Y e,x = .agg #[.int .i64 x0,.int .i64 x1,.int .i64 x2,.slice Y vl.length e]∧wx.ownsRow W.heap.size 5 1 (.slice Y vl.length e) vl.length (bCells vl)
   |_=>True)
  (fun w1 w2=>Below w1.heap.size w1 w2) (fun h1 h2=>below_on h1 h2) (fun _=>Below.refl _ _) (Below.drew (Below.refl _ _)) ?stab ?step ?done
 case stab=>
  rintro i x w1 w2 h hb
  match i,h with
  |0,h=>exact h
  |1,h=>exact h
  |2,h=>exact h
  |3,h=>exact h
  |4,h=>exact h
  |5,h=>exact h
  |6,h=>obtain⟨Y,e,h1,h2⟩:=h;exact⟨Y,e,h1,own_later h2 hb⟩
  |7,h=>obtain⟨Y,e,h1,h2⟩:=h;exact⟨Y,e,h1,own_later h2 hb⟩
  |i+8,_=>trivial
 case step=>
  intro i hi v w' hb hd
  match i,hi with
  |0,_=>
   refine wpOp_oneH rfl fun KK HKK =>?_
   clear hd;go_wp2;exact HKK.out _ _ ⟨_,(by simp[upd]),Below.refl _ _,rfl⟩
  |1,_=>
   have h0:v 0=_:=hdx hd 0 (by kernel_rfl)
   refine wpOp_oneH rfl fun KK HKK =>?_
   clear hd;rw[h0];have q0:=cell_later hb HX.out.1;go_wp2;exact HKK.out _ _ ⟨_,(by simp[upd,h0]),Below.refl _ _,rfl⟩
  |2,_=>
   refine wpOp_oneH rfl fun KK HKK =>?_
   clear hd;go_wp2;exact HKK.out _ _ ⟨_,(by simp[upd]),Below.refl _ _,rfl⟩
  |3,_=>
   have h2:v 2=_:=hdx hd 2 (by kernel_rfl)
   refine wpOp_oneH rfl fun KK HKK =>?_
   clear hd;rw[h2];have q0:=cell_later hb HX.out.2.1;have q1:=cell_later hb HX.out.2.2.1;go_wp2;exact HKK.out _ _ ⟨_,(by simp[upd,h2]),Below.refl _ _,rfl⟩
  |4,_=>
   refine wpOp_oneH rfl fun KK HKK =>?_
   clear hd;go_wp2;exact HKK.out _ _ ⟨_,(by simp[upd]),Below.refl _ _,rfl⟩
  |5,_=>
   have h4:v 4=_:=hdx hd 4 (by kernel_rfl)
   refine wpOp_oneH rfl fun KK HKK =>?_
   clear hd;rw[h4];have q0:=cell_later hb HX.out.2.2.2;go_wp2;exact HKK.out _ _ ⟨_,(by simp[upd,h4]),Below.refl _ _,rfl⟩
  |6,_=>
   have h5:v 5=_:=hdx hd 5 (by kernel_rfl)
   refine wpOp_oneH rfl fun KK HKK =>?_
   clear hd;rw[h5];have hsz:=hb.size;go_wp2_with fail;refine(NC.out _ hb).mono ?_;rintro e w'' ⟨u,rfl,ho,b⟩;obtain⟨Y,ey,rfl,-,-,-,-⟩:=own_form ho;have HO:=Hd (own_base ho hsz);clear ho;go_wp2;exact HKK.out _ _ ⟨_,(by simp[upd,h5]),b,Y,ey,rfl,HO.out⟩
  |7,_=>
   have h1:v 1=_:=hdx hd 1 (by kernel_rfl)
   have h3:v 3=_:=hdx hd 3 (by kernel_rfl)
   obtain⟨Y6,e6,h6,o6⟩:=hd 6 (List.elem_iff.1 (by kernel_rfl))
   refine wpOp_oneH rfl fun KK HKK =>?_
   clear hd;rw[h1,h3,h6];have HO:=Hd o6;clear o6;go_wp2;exact HKK.out _ _ ⟨_,(by simp[upd,h1,h3,h6]),Below.refl _ _,Y6,e6,rfl,HO.out⟩
  |k+8,hk=>exact absurd hk (by omega)
 case done=>
  intro v w5 hb hf;obtain⟨Y7,e7,h7,o7⟩:=hf 7 (by decide)
  clear hf;rw[h7];have HRR:=Hd (HR.out.later hb);have HBB:=Hd (below_on HB.out hb);have HO:=Hd o7;have r0:=HRR.out.cell (i:=0) rfl;have r1:=HRR.out.cell (i:=1) rfl;have r2:=HRR.out.cell (i:=2) rfl;have r3:=HRR.out.cell (i:=3) rfl;have f0:=HRR.out.free 0;have f1:=HRR.out.free 1;have f2:=HRR.out.free 2;have f3:=HRR.out.free 3;have hh:w.heap.size≤w.heap.size+1:=by omega
  have HP:=Hd ((((HRR.out.put 0 (.int .i64 x0)).put 1 (.int .i64 x1)).put 2 (.int .i64 x2)).put 3 (.slice Y7 vl.length e7));have HQ:=Hd ((((HBB.out.setCell (p:=⟨w.heap.size+1,0,none⟩) hh (.int .i64 x0)).setCell (p:=⟨w.heap.size+1,1,none⟩) hh (.int .i64 x1)).setCell (p:=⟨w.heap.size+1,2,none⟩) hh (.int .i64 x2)).setCell (p:=⟨w.heap.size+1,3,none⟩) hh (.slice Y7 vl.length e7))
  have HOO:=Hd (own_base (own_stays (w':=(((w5.setCell ⟨w.heap.size+1,0,none⟩ (.int .i64 x0)).setCell ⟨w.heap.size+1,1,none⟩ (.int .i64 x1)).setCell ⟨w.heap.size+1,2,none⟩ (.int .i64 x2)).setCell ⟨w.heap.size+1,3,none⟩ (.slice Y7 vl.length e7)) HO.out (fun k hk=>by
   have hk2:=own_ge HO.out k hk;have hne:k≠w.heap.size+1:=by omega
   exact(((Below.heap_setCell _ _ _ _ hne).trans (Below.heap_setCell _ _ _ _ hne)).trans (Below.heap_setCell _ _ _ _ hne)).trans (Below.heap_setCell _ _ _ _ hne))) hzW)
  clear hb o7 NC HX;go_wp2;exact bodyPost_ret (v :=.agg (bdCells Y7 e7 ⟨x0,x1,x2,vl⟩)) (results_cell_row rfl _ _ (w.heap.size+1) 49 (bdCells Y7 e7 ⟨x0,x1,x2,vl⟩) (0,0) _ rfl HP.out Tryz.underlying49 rfl infoBdz) rfl ⟨Y7,e7,rfl,HOO.out,HQ.out⟩
theorem csame_any(A B:Option Addr)(c1 c2:Nat)(L M:List Bc)(w:World)(h1:OneC w A c1 L)(h2:OneC w B c2 M) :
  Calls Tryz.prog 62 #[.slice A L.length c1,.slice B M.length c2] w (Says (.bool (decide (L.map Bc.b=M.map Bc.b))) w):=by
 have hl:=h1.len;have H1:=Hd h1;have H2:=Hd h2;clear h1 h2
 by_cases hlen:L.length=M.length
 ·have hd0:((L.length:Int) != (M.length:Int))=false:=by rw[bne_eq_false_iff_eq];omega
  have HLEN:=Hd hlen;have hr1:M.length≤L.length:=by omega
  have hr2:L.length≤M.length:=by omega
  clear hlen
  go_enter Tryz.func62,Tryz.ntmps62
  go_wp2_with fail
  go_loopw [5] (fun s5 wr=>∃k:Nat,k≤L.length∧s5 = .int .i64 (k:Int)∧(∀j,j<k→(L.getD j Bc.zero).b=(M.getD j Bc.zero).b)∧Below w.heap.size w wr) (fun s5 _=>L.length-(intOf s5).toNat)
  case atStart=>exact⟨0,Nat.zero_le _,rfl,fun j hj=>by omega,Below.refl _ _⟩
  case round=>
   obtain⟨k,hk,rfl,heq,hbw⟩:=hrel;have HEQ:=Hd heq;clear heq
   by_cases hlt:k<L.length
   ·have hne:L≠[]:=fun e=>by subst e;simp at hlt
    have hne2:M≠[]:=fun e=>by have:=HLEN.out;subst e;simp at this;exact hne this
    obtain⟨b,off,hA,hcA⟩:=(H1.out.later hbw).at hne;obtain⟨b',off',hB,hcB⟩:=(H2.out.later hbw).at hne2;have hE:=hcA k hlt;have hF:=hcB k (by omega)
    have hx1:=fun w' (hb:Below wr.heap.size wr w')=>((H1.out.later hbw).later hb).each _ (Ca.getD_mem hlt)
    have hy1:=fun w' (hb:Below wr.heap.size wr w')=>((H2.out.later hbw).later hb).each _ (Ca.getD_mem (show k<M.length by omega))
    have H1':=H1;have H2':=H2;subst hA hB;clear hcA hcB;have hi0:(0:Int)≤(k:Int):=by omega
    have hi1:(k:Int)<(L.length:Int):=by omega
    have hi2:(k:Int)<(M.length:Int):=by omega
    obtain⟨zx,hx⟩:∃x,L.getD k Bc.zero=x:=⟨_,rfl⟩;obtain⟨zy,hy⟩:∃y,M.getD k Bc.zero=y:=⟨_,rfl⟩;rw[hx]at hE hx1;rw[hy]at hF hy1;have HX:=Hd hx;have HY:=Hd hy;have HE:=Hd hE;have HF:=Hd hF;obtain⟨q,hq⟩:∃q,Wi.bsame zx.b zy.b=q:=⟨_,rfl⟩;have HQ:=Hd hq;have NS:=Hd (fun w' (hb:Below wr.heap.size wr w')=>show Calls Tryz.prog 39 #[.agg (bdCells zx.X zx.d zx.b),.agg (bdCells zy.X zy.d zy.b)] w' (Says (.bool q) w') from by rw[←hq];exact bsamebody_any zx.X zy.X zx.d zy.d zx.b zy.b w' (hx1 w' hb) (hy1 w' hb))
    have BW:=Hd hbw;clear hx hy hE hF hx1 hy1 hq hbw;unfold bdCells at NS;go_wp2_with fail
    refine wp_region_facts 9 (by kernel_rfl) (by kernel_rfl)
     (fun v=>{ tmps:=#[.slice (some ⟨b,off,none⟩) L.length c1,.slice (some ⟨b',off',none⟩) M.length c2,undef,undef,u4,.int .i64 (k:Int),.slice (some ⟨b,off,none⟩) L.length c1,.int .i64 (L.length:Int),.slice (some ⟨b',off',none⟩) M.length c2,.int .i64 (M.length:Int),.bool false,.int .i64 (k:Int),.slice (some ⟨b,off,none⟩) L.length c1,.int .i64 (L.length:Int),.bool true,u15,u16,v 0,v 1,v 2,v 3,v 4,v 5,v 6,v 7,v 8,u26],defers:=[] }) (fun i=>match i with|0=>u17|1=>u18|2=>u19|3=>u20|4=>u21|5=>u22|6=>u23|7=>u24|8=>u25|_=>undef)
     (fun i x wx=>match i with
      |0=>x = .slice (some ⟨b,off,none⟩) L.length c1
      |1=>x = .int .i64 (k:Int)
      |2=>x = .pointer (some ⟨b,off+k*4,none⟩)
      |3=>x = .agg #[.int .i64 zx.b.o,.int .i64 zx.b.c,.int .i64 zx.b.n,.slice zx.X zx.b.v.length zx.d]
      |4=>x = .slice (some ⟨b',off',none⟩) M.length c2
      |5=>x = .int .i64 (k:Int)
      |6=>x = .pointer (some ⟨b',off'+k*4,none⟩)
      |7=>x = .agg #[.int .i64 zy.b.o,.int .i64 zy.b.c,.int .i64 zy.b.n,.slice zy.X zy.b.v.length zy.d]
      |8=>x = .bool q
      |_=>True)
     (fun w1 w2=>Below w1.heap.size w1 w2) (fun h1 h2=>below_on h1 h2) (fun _=>Below.refl _ _) (Below.drew (Below.refl _ _)) ?stab ?step ?done
    case stab=>
     rintro i x w1 w2 h hb
     match i,h with
     |0,h=>exact h
     |1,h=>exact h
     |2,h=>exact h
     |3,h=>exact h
     |4,h=>exact h
     |5,h=>exact h
     |6,h=>exact h
     |7,h=>exact h
     |8,h=>exact h
     |i+9,_=>trivial
    case step=>
     intro i hi v w' hb hd
     match i,hi with
     |0,_=>
      refine wpOp_oneH rfl fun KK HKK =>?_
      clear hd;go_wp2;exact HKK.out _ _ ⟨_,(by simp[upd]),Below.refl _ _,rfl⟩
     |1,_=>
      refine wpOp_oneH rfl fun KK HKK =>?_
      clear hd;go_wp2;exact HKK.out _ _ ⟨_,(by simp[upd]),Below.refl _ _,rfl⟩
     |2,_=>
      have h0:v 0=_:=hdx hd 0 (by kernel_rfl)
      have h1:v 1=_:=hdx hd 1 (by kernel_rfl)
      refine wpOp_oneH rfl fun KK HKK =>?_
      clear hd;rw[h0,h1];go_wp2;exact HKK.out _ _ ⟨_,(by simp[upd,h0,h1]),Below.refl _ _,rfl⟩
     |3,_=>
      have h2:v 2=_:=hdx hd 2 (by kernel_rfl)
      refine wpOp_oneH rfl fun KK HKK =>?_
      clear hd;rw[h2];have q0:=cell_later hb HE.out.1;have q1:=cell_later hb HE.out.2.1;have q2:=cell_later hb HE.out.2.2.1;have q3:=cell_later hb HE.out.2.2.2;go_wp2;exact HKK.out _ _ ⟨_,(by simp[upd,h2]),Below.refl _ _,rfl⟩
     |4,_=>
      refine wpOp_oneH rfl fun KK HKK =>?_
      clear hd;go_wp2;exact HKK.out _ _ ⟨_,(by simp[upd]),Below.refl _ _,rfl⟩
     |5,_=>
      refine wpOp_oneH rfl fun KK HKK =>?_
      clear hd;go_wp2;exact HKK.out _ _ ⟨_,(by simp[upd]),Below.refl _ _,rfl⟩
     |6,_=>
      have h4:v 4=_:=hdx hd 4 (by kernel_rfl)
      have h5:v 5=_:=hdx hd 5 (by kernel_rfl)
      refine wpOp_oneH rfl fun KK HKK =>?_
      clear hd;rw[h4,h5];go_wp2;exact HKK.out _ _ ⟨_,(by simp[upd,h4,h5]),Below.refl _ _,rfl⟩
     |7,_=>
      have h6:v 6=_:=hdx hd 6 (by kernel_rfl)
      refine wpOp_oneH rfl fun KK HKK =>?_
      clear hd;rw[h6];have q0:=cell_later hb HF.out.1;have q1:=cell_later hb HF.out.2.1;have q2:=cell_later hb HF.out.2.2.1;have q3:=cell_later hb HF.out.2.2.2;go_wp2;exact HKK.out _ _ ⟨_,(by simp[upd,h6]),Below.refl _ _,rfl⟩
     |8,_=>
      have h3:v 3=_:=hdx hd 3 (by kernel_rfl)
      have h7:v 7=_:=hdx hd 7 (by kernel_rfl)
      refine wpOp_oneH rfl fun KK HKK =>?_
      clear hd;rw[h3,h7];go_wp2_with fail;refine(NS.out _ hb).mono ?_;rintro e w'' ⟨rfl,b⟩;go_wp2;exact HKK.out _ _ ⟨_,(by simp[upd,h3,h7]),b,rfl⟩
     |k+9,hk=>exact absurd hk (by omega)
    case done=>
     intro v w5 hb hf;have h8:v 8=_:=hf 8 (by decide)
     clear hf;rw[h8];have HBB:=Hd (below_on BW.out hb);clear hb;cases q with
     |true=>
      have hxy:=(Wi.bsame_iff zx.b zy.b).1 HQ.out;have HXY:=Hd hxy;clear hxy;go_wp2_with fail
      go_roundw
      case rel=>
       refine⟨k+1,by omega,by go_num,?_,HBB.out⟩
       intro j hj
       by_cases e:j=k
       ·subst e;rw[HX.out,HY.out];exact HXY.out
       ·exact HEQ.out j (by omega)
      case measure=>simp[intOf];omega
     |false=>
      have hno:decide (L.map Bc.b=M.map Bc.b)=false:=decide_eq_false (fun e=>by
       have h3:=Ca.map_at e k hlt;rw[HX.out,HY.out]at h3;have h4:=(Wi.bsame_iff zx.b zy.b).2 h3;rw[HQ.out]at h4;cases h4)
      have HNO:=Hd hno;clear hno;go_wp2;go_ret;exact⟨by rw[HNO.out];rfl,HBB.out⟩
   ·have hyes:decide (L.map Bc.b=M.map Bc.b)=true:=decide_eq_true (Ca.map_ext HLEN.out (fun j hj=>HEQ.out j (by omega)))
    have HY:=Hd hyes;have BW:=Hd hbw;clear hyes hbw;go_wp2;go_ret;exact⟨by rw[HY.out];rfl,BW.out⟩
 ·have hd0:((L.length:Int) != (M.length:Int))=true:=by rw[bne_iff_ne];omega
  have hno:decide (L.map Bc.b=M.map Bc.b)=false:=decide_eq_false (fun e=>hlen (by have:=congrArg List.length e;simpa using this))
  have HNO:=Hd hno;clear hno
  go_enter Tryz.func62,Tryz.ntmps62
  go_wp2;go_ret;exact⟨by rw[HNO.out];rfl,Below.refl _ _⟩
theorem ccopy_any(A:Option Addr)(c:Nat)(L:List Bc)(w:World)(h:OneC w A c L)(hf:Fits L) :
  Calls Tryz.prog 48 #[.slice A L.length c] w (GivesC (L.map Bc.b) w):=by
 obtain⟨i0,hI,hZ0,hZ1,hZ2⟩:=info_parts infoBdy;have hn:=hf.n;have HL:=Hd h;have HZ:=Hd hf.each;have HT:=Hd (fun k hk=>Ca.take_snoc (L:=L) (k:=k) hk)
 clear h hf
 go_enter Tryz.func48,Tryz.ntmps48
 go_wp2_with fail
 go_loopw [3,4] (fun s3 s4 wr=>∃(k:Nat) (M:List Bc),k≤L.length∧s4 = .int .i64 (k:Int)∧M.map Bc.b=(L.take k).map Bc.b∧M.length=k∧OwnRC wr w.heap.size 49 5 s3 M∧Below w.heap.size w wr) (fun _ s4 _=>L.length-(intOf s4).toNat)
 case atStart=>exact⟨0,[],Nat.zero_le _,rfl,rfl,rfl,OwnRC.nil _ _ _ _,Below.refl _ _⟩
 case round=>
  obtain⟨k,M,hk,rfl,hM,hMl,hR,hbw⟩:=hrel;have hml:M.length≤k:=Nat.le_of_eq hMl;have HML:=Hd hMl;clear hMl
  by_cases hlt:k<L.length
  ·have hne:L≠[]:=fun e=>by subst e;simp at hlt
   obtain⟨b,off,hA,hcs⟩:=(HL.out.later hbw).at hne;obtain⟨e0,e1,e2,e3⟩:=hcs k hlt;have hxb:=(HL.out.later hbw).each _ (Ca.getD_mem hlt);have hxz:=HZ.out _ (Ca.getD_mem hlt);have hts:=HT.out k hlt;subst hA;have hi0:(0:Int)≤(k:Int):=by omega
   have hi1:(k:Int)<(L.length:Int):=by omega
   obtain⟨x,hx⟩:∃x,L.getD k Bc.zero=x:=⟨_,rfl⟩;rw[hx]at e0 e1 e2 e3 hxb hxz hts;obtain⟨X,d,⟨x0,x1,x2,v⟩⟩:=x;dsimp only at e0 e1 e2 e3 hxb hxz hts;have NB:=Hd (show Calls Tryz.prog 72 #[.agg #[.int .i64 x0,.int .i64 x1,.int .i64 x2,.slice X v.length d]] wr (GivesBd ⟨x0,x1,x2,v⟩ wr) from cbody_any X d ⟨x0,x1,x2,v⟩ wr hxz hxb);obtain⟨VA,vc,hvv,-,-,-,-⟩:=own_form hR.row;subst hvv;have HTS:=Hd hts;have HM:=Hd hM;have HR:=Hd hR;have BW:=Hd hbw;have HIB:=Hd hxb.byte;clear hcs hx hxb hxz hts hM hR hbw;go_wp2_with fail;refine NB.out.mono ?_;rintro e w2 ⟨Y,dy,rfl,hoy,b2⟩;unfold bdCells;dsimp only at hoy ⊢;have bz:=below_new (Below.refl w2.heap.size w2) (.cells #[.int .i64 x0,.int .i64 x1,.int .i64 x2,.slice Y v.length dy] 49);have hR2:=HR.out.later (below_on b2 bz);have hoy2:=own_later (own_base hoy BW.out.size) bz;have hbw2:=below_on (below_on BW.out b2) bz;have hszw:=hbw2.size
   have hy1:Lies (w2.alloc (.cells #[.int .i64 x0,.int .i64 x1,.int .i64 x2,.slice Y v.length dy] 49)) (some ⟨w2.heap.size,0,none⟩) (Ca.cell ⟨Y,dy,⟨x0,x1,x2,v⟩⟩):=fun _=>⟨w2.heap.size,0,rfl,fun j u hu=>by
    rw[Nat.zero_add];exact(Blk.new w2 49 #[.int .i64 x0,.int .i64 x1,.int .i64 x2,.slice Y v.length dy]).cell (by simpa[Ca.cell] using hu)⟩
   have HR2:=Hd hR2;have HO2:=Hd hoy2;have hrow:=hR2.row;clear b2 hR2 hoy2 hoy NB
   go_wp2_with (at_builtin;refine Go.Proofs.YtjlfehpockfkdaaGreat.wpList_append_lies _ rfl _ _ 25 rfl w.heap.size 49 i0 (.agg #[.int .i64 0,.int .i64 0,.int .i64 0,.slice none 0 0]) 4 48 Tryz.underlying25 hI hZ0 hZ1 hZ2 rfl (by decide) _ M.length (Ca.cells M) rfl hrow (some ⟨w2.heap.size,0,none⟩) 1 1 (fun h=>by cases h) (Ca.cell ⟨Y,dy,⟨x0,x1,x2,v⟩⟩) rfl rfl hy1 (by intro u hu;simp[Ca.cell]at hu;rcases hu with rfl|rfl|rfl|rfl<;>rfl) ?h63 ?hbytes hszw ?_)
   case h63=>unfold maxLen;omega
   case hbytes=>omega
   intro v' wz hownz hgz _;have bwz:Below w.heap.size w wz:=hbw2.grown hgz (by omega) (fun r e=>own_ge hrow r e)
   have hRz:=HR2.out.snoc (by decide) hgz ⟨Y,dy,⟨x0,x1,x2,v⟩⟩ HO2.out HIB.out hownz
   obtain⟨gv,capv,rfl⟩:=ownsRow_succ hownz;have HQ:=Hd (And.intro hRz bwz);clear hownz hgz hrow hy1 bwz hRz hbw2 bz;go_wp2_with fail
   go_roundw
   case rel=>exact⟨k+1,M++[⟨Y,dy,⟨x0,x1,x2,v⟩⟩],by omega,by go_num,by rw[List.map_append,HM.out,HTS.out];rfl,by rw[List.length_append,HML.out];rfl,HQ.out.1,HQ.out.2⟩
   case measure=>simp[intOf];omega
  ·obtain rfl:k=L.length:=by omega
   rw[List.take_length]at hM;obtain⟨VA,vc,rfl,hO⟩:=hR.form;have HM:=Hd hM;have HO:=Hd hO;have BW:=Hd hbw;clear hM hO hR hbw;go_wp2;go_ret;exact⟨VA,vc,M,rfl,HM.out,HO.out,BW.out⟩
structure KeepO (n0 go:Nat) (W w':World):Prop where
 size:n0≤w'.heap.size
 blk:∀k,k<n0→k≠go→w'.heap[k]?=W.heap[k]?
theorem KeepO.refl(W:World)(go:Nat):KeepO W.heap.size go W W:=⟨Nat.le_refl _,fun _ _ _=>rfl⟩
theorem KeepO.later{n0 go:Nat}{W w1 w2:World}(h:KeepO n0 go W w1)(hb:Below w1.heap.size w1 w2):KeepO n0 go W w2:=
 ⟨Nat.le_trans h.size hb.size,fun k hk hg=>(hb.block k (Nat.lt_of_lt_of_le hk h.size)).trans (h.blk k hk hg)⟩
theorem KeepO.grown{n0 go:Nat}{W w1 w2:World}{row:Option Nat}(h:KeepO n0 go W w1)(hg:w1.grownBy w2 row)(hr:∀k,row=some k→n0≤k):KeepO n0 go W w2:=
 ⟨Nat.le_trans h.size hg.size,fun k hk hgo=>(hg.block k (Nat.lt_of_lt_of_le hk h.size) (fun e=>absurd (hr k e.symm) (by omega))).trans (h.blk k hk hgo)⟩
theorem KeepO.put{n0 go:Nat}{W w1:World}(h:KeepO n0 go W w1)(i:Nat)(v:Value):KeepO n0 go W (w1.setCell ⟨go,i,Option.none⟩ v):=
 ⟨by simpa using h.size,fun k hk hgo=>(Below.heap_setCell w1 ⟨go,i,Option.none⟩ v k hgo).trans (h.blk k hk hgo)⟩
theorem Blk.keepO{n0 go g:Nat}{W w':World}{t:TypeId}{cs:Array Value}(hB:Blk W g t cs)(h:KeepO n0 go W w')(hg:g<n0)(hne:g≠go):Blk w' g t cs:=(h.blk g hg hne).trans hB
theorem Lies.keepO{W w':World}{go:Nat}{t:TypeId}{cs:Array Value}{A:Option Addr}{xs:List Value}(hl:Lies W A xs)(h2:xs≠[]→∃x y,xs[0]?=some x∧xs[1]?=some y∧intAt x=true∧intAt y=true)(hB:Blk W go t cs)(hd:dull cs=true)(h:KeepO W.heap.size go W w'):Lies w' A xs:=fun hne=>by
 obtain⟨b,off,hA,hc⟩:=hl hne;obtain⟨x,y,hx,hy,ix,iy⟩:=h2 hne;have h0:=hc 0 x hx;have h1:=hc 1 y hy
 have hbg:b≠go:=fun e=>by
  subst e;rw[cell_of_row W b _ cs t (0,0) hB]at h0 h1;rw[←Array.getElem?_toList]at h0 h1;exact dullL_two hd h0 h1 ix iy
 have hlt:b<W.heap.size:=by
  rcases Nat.lt_or_ge b W.heap.size with h3|h3
  ·exact h3
  ·simp[World.cell?,Array.getElem?_eq_none h3]at h0
 exact⟨b,off,hA,fun j u hu=>(World.cell?_of_block (h.blk b hlt hbg)).trans (hc j u hu)⟩
theorem OneL.keepO{W w':World}{go:Nat}{t:TypeId}{cs:Array Value}{A:Option Addr}{c:Nat}{l:List (Int × Int)}(hl:OneL W A c l)(hB:Blk W go t cs)(hd:dull cs=true)(h:KeepO W.heap.size go W w'):OneL w' A c l:=
 ⟨hl.1,hl.2.1,hl.2.2.1,hl.2.2.2.keepO (fun hne=>by
  cases l with
  |nil=>exact absurd rfl hne
  |cons x r=>exact⟨_,_,rfl,rfl,rfl,rfl⟩) hB hd h⟩
theorem OneW.keepO{W w':World}{go:Nat}{t:TypeId}{cs:Array Value}{A:Option Addr}{c:Nat}{l:List Wr}(hl:OneW W A c l)(hB:Blk W go t cs)(hd:dull cs=true)(h:KeepO W.heap.size go W w'):OneW w' A c l:=
 ⟨hl.1,hl.2.1,hl.2.2.1,hl.2.2.2.keepO (fun hne=>by
  cases l with
  |nil=>exact absurd rfl hne
  |cons x r=>exact⟨_,_,rfl,rfl,rfl,rfl⟩) hB hd h⟩
theorem OneZ.keepO{W w':World}{go:Nat}{t:TypeId}{cs:Array Value}{A:Option Addr}{c:Nat}{L:List Zc}(hl:OneZ W A c L)(hB:Blk W go t cs)(hd:dull cs=true)(h:KeepO W.heap.size go W w'):OneZ w' A c L:=
 ⟨hl.le,hl.cap,hl.noA,hl.lies.keepO (fun hne=>by
  cases L with
  |nil=>exact absurd rfl hne
  |cons x r=>exact⟨_,_,rfl,rfl,rfl,rfl⟩) hB hd h,fun z hz=>(hl.each z hz).keepO hB hd h⟩
def GivesV(v:Vw)(w:World)(e:Ending)(w':World):Prop:=∃q,e = .returned (.agg (vwCells q))∧q.vw=v∧VwAt w' q∧Below w.heap.size w w'
theorem zat_any(A:Option Addr)(c:Nat)(L:List Zc)(o:Int)(w:World)(h:OneZ w A c L) :
  Calls Tryz.prog 104 #[.slice A L.length c,.int .i64 o] w (Says (.int .i64 (Tr.atI (L.map Zc.zn) o)) w):=by
 have hlen:=h.len;have HD:=Hd h;obtain⟨r,hr⟩:∃r,Tr.atI (L.map Zc.zn) o=r:=⟨_,rfl⟩;rw[hr];have HR:=Hd hr;clear h hr
 go_enter Tryz.func104,Tryz.ntmps104
 go_wp2_with fail
 go_loopw [5] (fun s5 wr=>∃(k:Nat),k≤L.length∧s5 = .int .i64 (k:Int)∧(∀(u:Nat),u<k→Tr.holds ((L.map Zc.zn).getD u (0,0,[])) o=false)∧Below w.heap.size w wr) (fun s5 _=>L.length-(intOf s5).toNat)
 case atStart=>exact⟨0,Nat.zero_le _,rfl,fun u hu=>by omega,Below.refl _ _⟩
 case round=>
  obtain⟨k,hk,rfl,hno,hbw⟩:=hrel;have HNO:=Hd hno;clear hno
  by_cases hlt:k<L.length
  ·have hne:L≠[]:=fun e=>by subst e;simp at hlt
   obtain⟨b,off,hA,hc⟩:=(HD.out.later hbw).at hne;subst hA;obtain⟨x,hx⟩:∃x,L[k]?=some x:=⟨L[k],List.getElem?_eq_getElem hlt⟩;obtain⟨e0,e1,-⟩:=hc k x hx;have hg:=zn_getD hx;have hi0:(0:Int)≤(k:Int):=by omega
   have hi1:(k:Int)<(L.length:Int):=by omega
   obtain⟨lo,hi,X,cx,l⟩:=x;dsimp only at e0 e1;have hh:Tr.holds ((L.map Zc.zn).getD k (0,0,[])) o=decide (lo≤o∧o≤hi):=by rw[hg];rfl
   have HH:=Hd hh;clear hx hc hne hg hh
   have hnext:¬(lo≤o∧o≤hi)→∀(u:Nat),u<k+1→Tr.holds ((L.map Zc.zn).getD u (0,0,[])) o=false:=fun hn u hu=>by
    by_cases e:u=k
    ·subst e
     rw[HH.out,decide_eq_false hn]
    ·exact HNO.out u (by omega)
   have HNX:=Hd hnext;clear hnext
   by_cases t1:lo≤o
   ·have d1:decide (lo≤o)=true:=decide_eq_true t1
    by_cases t2:o≤hi
    ·have d2:decide (o≤hi)=true:=decide_eq_true t2
     have hrk:r=(k:Int):=by
      rw[←HR.out];exact Tr.atI_some (by rw[List.length_map];exact hlt) (by rw[HH.out,decide_eq_true (⟨t1,t2⟩:lo≤o∧o≤hi)]) HNO.out
     subst hrk;clear t1 t2;go_wp2;go_ret;exact⟨rfl,hbw⟩
    ·have d2:decide (o≤hi)=false:=decide_eq_false t2
     have NX:=Hd (HNX.out (fun h=>t2 h.2))
     clear t1 t2;go_wp2_with fail
     go_roundw
     case rel=>exact⟨k+1,by omega,by first|rfl|go_num,NX.out,hbw⟩
     case measure=>simp[intOf];omega
   ·have d1:decide (lo≤o)=false:=decide_eq_false t1
    have NX:=Hd (HNX.out (fun h=>t1 h.1))
    clear t1;go_wp2_with fail
    go_roundw
    case rel=>exact⟨k+1,by omega,by first|rfl|go_num,NX.out,hbw⟩
    case measure=>simp[intOf];omega
  ·have hd:decide ((k:Int)<(L.length:Int))=false:=decide_eq_false (by omega)
   have hrk:r = -1:=by
    rw[←HR.out];exact Tr.atI_none (fun j hj=>HNO.out j (by rw[List.length_map]at hj;omega))
   subst hrk;go_wp2;go_ret;exact⟨rfl,hbw⟩
theorem zformed_any(A:Option Addr)(c:Nat)(L:List Zc)(w:World)(h:OneZ w A c L) :
  Calls Tryz.prog 54 #[.slice A L.length c] w (Says (.bool (Tr.fmd (L.map Zc.zn))) w):=by
 have hlen:=h.len;have HD:=Hd h;obtain⟨q,hq⟩:∃q,Tr.fmd (L.map Zc.zn)=q:=⟨_,rfl⟩;rw[hq];have HQ:=Hd hq;clear h hq
 go_enter Tryz.func54,Tryz.ntmps54
 go_wp2_with fail
 go_loopw [3] (fun s3 wr=>∃(k:Nat),k≤L.length∧s3 = .int .i64 (k:Int)∧Tr.fmTo (L.map Zc.zn) k∧Below w.heap.size w wr) (fun s3 _=>L.length-(intOf s3).toNat)
 case atStart=>exact⟨0,Nat.zero_le _,rfl,fun u hu=>by omega,Below.refl _ _⟩
 case round=>
  obtain⟨k,hk,rfl,hall,hbw⟩:=hrel;have HALL:=Hd hall;clear hall
  by_cases hlt:k<L.length
  ·have hne:L≠[]:=fun e=>by subst e;simp at hlt
   have HO:=Hd (HD.out.later hbw);obtain⟨b,off,hA,hc⟩:=HO.out.at hne;subst hA;obtain⟨x,hx⟩:∃x,L[k]?=some x:=⟨L[k],List.getElem?_eq_getElem hlt⟩;obtain⟨e0,e1,e2⟩:=hc k x hx;have hg:=zn_getD hx;have hi0:(0:Int)≤(k:Int):=by omega
   have hi1:(k:Int)<(L.length:Int):=by omega
   have hxo:=HO.out.one hx;have HC:=Hd hc;obtain⟨lo,hi,X,cx,l⟩:=x;dsimp only at e0 e1 e2 hxo
   have hok:Tr.okAt (L.map Zc.zn) k↔((0≤lo∧lo≤hi∧hi≤255)∧Ve.fmd l=true∧(0<k→((L.map Zc.zn).getD (k-1) (0,0,[])).2.1<lo∧(((L.map Zc.zn).getD (k-1) (0,0,[])).2.1=lo-1→((L.map Zc.zn).getD (k-1) (0,0,[])).2.2≠l))):=by
    unfold Tr.okAt;rw[hg];rfl
   have NO:=Hd (fun (hn:¬((0≤lo∧lo≤hi∧hi≤255)∧Ve.fmd l=true∧(0<k→((L.map Zc.zn).getD (k-1) (0,0,[])).2.1<lo∧(((L.map Zc.zn).getD (k-1) (0,0,[])).2.1=lo-1→((L.map Zc.zn).getD (k-1) (0,0,[])).2.2≠l))))=>(show q=false from by
    rw[←HQ.out];exact Tr.fmd_no k (by rw[List.length_map];exact hlt) (fun hh=>hn (hok.1 hh))))
   have NX:=Hd (fun (hn:((0≤lo∧lo≤hi∧hi≤255)∧Ve.fmd l=true∧(0<k→((L.map Zc.zn).getD (k-1) (0,0,[])).2.1<lo∧(((L.map Zc.zn).getD (k-1) (0,0,[])).2.1=lo-1→((L.map Zc.zn).getD (k-1) (0,0,[])).2.2≠l))))=>(show Tr.fmTo (L.map Zc.zn) (k+1) from fun u hu=>by
    by_cases e:u=k
    ·subst e;exact hok.2 hn
    ·exact HALL.out u (by omega)))
   obtain⟨W1,hW1⟩:∃W1,wr.alloc (.cells #[.int .i64 lo,.int .i64 hi] 97)=W1:=⟨_,rfl⟩;have hb1:Below wr.heap.size wr W1:=by rw[←hW1];exact below_new (Below.refl _ _) _
   have XB:Blk W1 wr.heap.size 97 #[.int .i64 lo,.int .i64 hi]:=by rw[←hW1];exact Blk.new wr _ _
   have hx1:=hxo.later hb1;have RF:=rformed_any X cx l W1 hx1.len hx1.stamps;obtain⟨f,hf⟩:∃f,Ve.fmd l=f:=⟨_,rfl⟩;rw[hf]at RF;have NF:=Hd RF;have HF:=Hd hf;have BN:=Hd (below_on hbw hb1);have HB1:=Hd hb1;have HXB:=Hd XB;have HX1:=Hd hx1;have HX:=Hd hx;have k0:=XB.cell (i:=0) rfl;have k1:=XB.cell (i:=1) rfl;have HE2:=Hd e2;have g2:=cell_later hb1 e2;clear hg hok hc hne hxo hx hb1 XB hx1 RF hf e2
   go_upto_region 5 with (fail)
   try rw[hW1]
   clear hW1 e0 e1
   by_cases t1:lo<0
   ·have d1:decide (lo<0)=true:=decide_eq_true t1
    have hqf:=NO.out (fun h=>by omega)
    subst hqf;go_wp2;go_ret;exact⟨rfl,BN.out⟩
   have d1:decide (lo<0)=false:=decide_eq_false t1
   by_cases t2:hi<lo
   ·have d2:decide (hi<lo)=true:=decide_eq_true t2
    have hqf:=NO.out (fun h=>by omega)
    subst hqf;go_wp2;go_ret;exact⟨rfl,BN.out⟩
   have d2:decide (hi<lo)=false:=decide_eq_false t2
   by_cases t3:255<hi
   ·have d3:decide (255<hi)=true:=decide_eq_true t3
    have hqf:=NO.out (fun h=>by omega)
    subst hqf;go_wp2;go_ret;exact⟨rfl,BN.out⟩
   have d3:decide (255<hi)=false:=decide_eq_false t3;have T:=Hd (⟨by omega,by omega,by omega⟩:0≤lo∧lo≤hi∧hi≤255)
   cases f with
   |false=>
    have hqf:=NO.out (fun h=>by have:=h.2.1;rw[HF.out]at this;cases this)
    subst hqf;clear t1 t2 t3;go_wp2_with fail;refine NF.out.mono ?_;rintro e w2 ⟨rfl,b2⟩;have BB:=Hd (below_on BN.out b2);clear b2 g2 k0 k1;go_wp2;go_ret;exact⟨rfl,BB.out⟩
   |true=>
   clear t1 t2 t3;go_wp2_with fail;refine NF.out.mono ?_;rintro e w2 ⟨rfl,b2⟩;have hb2:=below_on HB1.out b2;have BB:=Hd (below_on BN.out b2);have m0:∀d os,(Sort.grow (redrawn w2 d) os).cell? ⟨wr.heap.size,0,none⟩=some (.int .i64 lo):=cell_regrown ((HXB.out.later b2).cell rfl);have m2:∀d os,(Sort.grow (redrawn w2 d) os).cell? ⟨b,off+k*3+2,none⟩=some (.slice X l.length cx):=cell_regrown (cell_later hb2 HE2.out);have HX2:=Hd (HX1.out.later b2);clear NF k0 k1 g2 HX1 HXB;cases k with
   |zero=>
    simp only[Nat.zero_mul,Nat.add_zero]at m2;have HT:=Hd (NX.out ⟨T.out,HF.out,fun h=>absurd h (by omega)⟩)
    go_wp2_with fail;refine wp_region_quiet_below (by kernel_rfl) (by kernel_rfl) ?_
    repeat (first|go_big_quiet_step (fail)|quiet_step (fail))
    refine wpQuiet_nil ?_;intro _ hw';obtain⟨⟨dq,osq⟩,hw''⟩:=hw';subst hw'';go_wp2_with fail
    go_roundw
    case rel=>exact⟨_,by omega,by first|rfl|go_num,HT.out,below_on BB.out (below_regrown w2 dq osq)⟩
    case measure=>simp[intOf];omega
   |succ m=>
    obtain⟨y,hy⟩:∃y,L[m]?=some y:=⟨L[m],List.getElem?_eq_getElem (by omega)⟩
    have hgy:(L.map Zc.zn).getD (m+1-1) (0,0,[])=y.zn:=zn_getD hy;have hyo:=(HO.out.one hy).later hb2;obtain⟨-,f1,f2⟩:=HC.out m y hy;obtain⟨ylo,yhi,Y,cy,yl⟩:=y;dsimp only at f1 f2 hyo;have hg2:((L.map Zc.zn).getD (m+1-1) (0,0,[])).2.1=yhi:=by rw[hgy];rfl
    have hg3:((L.map Zc.zn).getD (m+1-1) (0,0,[])).2.2=yl:=by rw[hgy];rfl
    rw[hg2,hg3]at NO NX;have m1:∀d os,(Sort.grow (redrawn w2 d) os).cell? ⟨b,off+m*3+1,none⟩=some (.int .i64 yhi):=cell_regrown (cell_later hb2 f1);have m3:∀d os,(Sort.grow (redrawn w2 d) os).cell? ⟨b,off+m*3+2,none⟩=some (.slice Y yl.length cy):=cell_regrown (cell_later hb2 f2);have hm1:((m+1:Nat):Int)-1=(m:Int):=by omega
    have hj0:(0:Int)≤(m:Int):=by omega
    have hj1:(m:Int)<(L.length:Int):=by omega
    have hgt:decide ((0:Int)<((m+1:Nat):Int))=true:=decide_eq_true (by omega)
    obtain⟨sm,hsm⟩:∃sm,decide (yl=l)=sm:=⟨_,rfl⟩
    have CS:=Hd (fun d os=>(show Calls Tryz.prog 18 #[.slice Y yl.length cy,.slice X l.length cx] (Sort.grow (redrawn w2 d) os) (fun e w''=>e = .returned (.bool sm)∧∃p:Regrown,w''=Sort.grow (redrawn w2 p.d) p.os) from by
     rw[←hsm];have h1:=hyo.later (below_regrown w2 d os);have h2:=HX2.out.later (below_regrown w2 d os);exact Calls.regrown_of (rsame_any Y X cy cx yl l _ h1.len h1.stamps h2.stamps)))
    have HSM:=Hd hsm;clear hy hgy hg2 hg3 f1 f2 hyo hsm
    by_cases t4:lo≤yhi
    ·have d4:decide (lo≤yhi)=true:=decide_eq_true t4
     have hqf:=NO.out (fun h=>by have:=(h.2.2 (by omega)).1;omega)
     subst hqf;clear t4;go_wp2_with fail;refine wp_region_quiet_below (by kernel_rfl) (by kernel_rfl) ?_
     repeat (first|go_big_quiet_step (exact CS.out _ _)|quiet_step (exact CS.out _ _))
     refine wpQuiet_nil ?_;intro _ hw';obtain⟨⟨dq,osq⟩,hw''⟩:=hw';subst hw'';go_wp2;go_ret;exact⟨rfl,below_on BB.out (below_regrown w2 dq osq)⟩
    ·have d4:decide (lo≤yhi)=false:=decide_eq_false t4
     have T4:=Hd t4
     by_cases t5:yhi=lo-1
     ·have d5:(yhi == lo-1)=true:=by rw[beq_iff_eq];exact t5
      have d5':decide (yhi=lo-1)=true:=decide_eq_true t5;have lw:IntKind.i64.wrap (lo-1)=lo-1:=IntWalk.i64_in _ (by have:=T.out;omega)
      have T5:=Hd t5;clear t4 t5;cases sm with
      |true=>
       have hqf:=NO.out (fun h=>(h.2.2 (by omega)).2 T5.out (of_decide_eq_true HSM.out))
       subst hqf;have T0:=T.out;go_wp2_with fail;refine wp_region_quiet_below (by kernel_rfl) (by kernel_rfl) ?_
       repeat (first|go_big_quiet_step (exact CS.out _ _)|quiet_step (exact CS.out _ _))
       refine wpQuiet_nil ?_;intro _ hw';obtain⟨⟨dq,osq⟩,hw''⟩:=hw';subst hw'';go_wp2;go_ret;exact⟨rfl,below_on BB.out (below_regrown w2 dq osq)⟩
      |false=>
       have HT:=Hd (NX.out ⟨T.out,HF.out,fun _=>⟨by have:=T4.out;omega,fun _=>of_decide_eq_false HSM.out⟩⟩)
       have T0:=T.out;go_wp2_with fail;refine wp_region_quiet_below (by kernel_rfl) (by kernel_rfl) ?_
       repeat (first|go_big_quiet_step (exact CS.out _ _)|quiet_step (exact CS.out _ _))
       refine wpQuiet_nil ?_;intro _ hw';obtain⟨⟨dq,osq⟩,hw''⟩:=hw';subst hw'';go_wp2_with fail
       go_roundw
       case rel=>exact⟨_,by omega,by first|rfl|go_num,HT.out,below_on BB.out (below_regrown w2 dq osq)⟩
       case measure=>simp[intOf];omega
     ·have d5:(yhi == lo-1)=false:=by rw[beq_eq_false_iff_ne];exact t5
      have d5':decide (yhi=lo-1)=false:=decide_eq_false t5;have lw:IntKind.i64.wrap (lo-1)=lo-1:=IntWalk.i64_in _ (by have:=T.out;omega)
      have HT:=Hd (NX.out ⟨T.out,HF.out,fun _=>⟨by omega,fun h=>absurd h t5⟩⟩)
      have T0:=T.out;clear t4 t5;go_wp2_with fail;refine wp_region_quiet_below (by kernel_rfl) (by kernel_rfl) ?_
      repeat (first|go_big_quiet_step (exact CS.out _ _)|quiet_step (exact CS.out _ _))
      refine wpQuiet_nil ?_;intro _ hw';obtain⟨⟨dq,osq⟩,hw''⟩:=hw';subst hw'';go_wp2_with fail
      go_roundw
      case rel=>exact⟨_,by omega,by first|rfl|go_num,HT.out,below_on BB.out (below_regrown w2 dq osq)⟩
      case measure=>simp[intOf];omega
  ·have hd:decide ((k:Int)<(L.length:Int))=false:=decide_eq_false (by omega)
   have hkl:k=L.length:=by omega
   have hqt:q=true:=by
    rw[←HQ.out];exact(Tr.fmd_iff _).2 (by rw[List.length_map,←hkl];exact HALL.out)
   subst hqt;clear hkl;go_wp2;go_ret;exact⟨rfl,hbw⟩
end Go.Proofs.YtjlfehpockfkdaaGreat
