/-
  What the rows of this claim stand on: StampPlain, Slices, VecPlain, Many, VecMore, OwnMore, Ans, SpPlain, SpMore, NotePlain, Region, Fresh, Zeros, SpRefSet, OwnPut, SpRefOf, SpRefSmall, SpRefMore, RefCounts, RefOf, RefVec, NtCopy, NtSame, NtFormed, NtAt, TrPlain, ByPlain, BdPlain, CaPlain, CaOwn, WrBody, ByRef, RegionF3, RegionR, CaRefA, CaRefB, CaRefC, StampRight, SfPlain, NtTold, NtOf, VwPlain, VwFar, TrCopy, TrReach, TrTake, SfMath, StampCalls, SfRefP, VwRefA, VwRefD.
-/
import Derived.Below
import Derived.Laws.OwnMore
import Derived.Deep.Draws
import Derived.Laws.Rows
import Derived.Maps.AppendAt
import Derived.Laws.AppendOwnNone
import Derived.OwnWalk
import Derived.StillTail
import Derived.Laws.CopyOwn
import Derived.Test.YtjlfehpockfkdaaGreatProg
import Derived.KernelRfl
import Derived.Tactics
import Derived.Tactics2
import Derived.WalkKit
import Derived.WalkSpells
import Derived.Deep.QuietTactic
import Derived.BigQuiet
import Derived.Deep.RegionHeld3
import Derived.Lib.Hide
import Derived.Laws.Tables
import Derived.Laws.ResultCell
import Derived.Deep.DeepCutAuto
import Derived.RegionTactic
import Derived.BigRegion
import Derived.RangeFuncBox
import Derived.WalkSmall
import Derived.Lib.QuietBelow
import Derived.Laws.BytesArg
import Derived.Laws.StructEq
import Derived.MapKept
import Derived.OrdersIn
import Derived.RangeFuncCalls
import Derived.TacticsIn
import Derived.Deep.LoopGhost
import Derived.Deep.CutRange
import Derived.Deep.AppendLies
import Derived.Deep.RegionLaw
namespace Go.Proofs.YtjlfehpockfkdaaGreat
namespace Fb
theorem it : True := trivial
end Fb
theorem Hd {p : Prop} (h : p) : Go.RowKit.Hid p := h
theorem hdx {l : List Nat} {p : Nat → Prop} (h : ∀ i ∈ l, p i) (i : Nat) (e : l.elem i = true) : p i := h i (List.elem_iff.1 e)
open Go.RowKit in
theorem below_new{W w:World}(h:Below W.heap.size W w)(o:Obj):Below W.heap.size W (w.alloc o):=h.alloc h.size o
open Go.RowKit in
theorem below_on{W w w':World}(h:Below W.heap.size W w)(h':Below w.heap.size w w'):Below W.heap.size W w':=h.trans (h'.mono h.size)
open Go.RowKit in
def Blk(w:World)(g:Nat)(t:TypeId)(cs:Array Value):Prop:=w.heap[g]?=some (.cells cs t (0,0))
open Go.RowKit in
section
variable {w w':World} {g:Nat} {t:TypeId} {cs:Array Value}
theorem Blk.lt(h:Blk w g t cs):g<w.heap.size:=by
 rcases Nat.lt_or_ge g w.heap.size with hlt|hge
 ·exact hlt
 ·unfold Blk at h;rw[Array.getElem?_eq_none hge]at h;cases h
theorem Blk.cell(h:Blk w g t cs){i:Nat}{v:Value}(hv:cs[i]?=some v):w.cell? ⟨g,i,none⟩=some v:=(cell_of_row w g i cs t (0,0) h).trans hv
theorem Blk.free(h:Blk w g t cs)(i:Nat):w.frozen? ⟨g,i,none⟩=false:=by
 unfold Blk at h
 simp[World.frozen?,h]
theorem Blk.new(w:World)(t:TypeId)(cs:Array Value):Blk (w.alloc (.cells cs t)) w.heap.size t cs:=heap_alloc_new w _
theorem Blk.drew(h:Blk w g t cs):Blk w.drew g t cs:=h
theorem Blk.alloc(h:Blk w g t cs)(o:Obj):Blk (w.alloc o) g t cs:=(Below.heap_alloc w o g h.lt).trans h
theorem Blk.put(h:Blk w g t cs)(i:Nat)(u:Value):Blk (w.setCell ⟨g,i,none⟩ u) g t (cs.setIfInBounds i u):=by
 unfold Blk at h ⊢
 simp[World.setCell,Array.getElem?_modify,h]
theorem Blk.far(h:Blk w g t cs){p:Addr}(hp:g≠p.block)(u:Value):Blk (w.setCell p u) g t cs:=(Below.heap_setCell w p u g hp).trans h
theorem Blk.later(h:Blk w g t cs)(hb:Below w.heap.size w w'):Blk w' g t cs:=(hb.block g h.lt).trans h
end
namespace St
def cmpI(a b:Int):Int:=if a<b then -1 else if b<a then 1 else 0
def cmpS(c n c' n':Int):Int:=if c<c' then -1 else if c'<c then 1 else cmpI n n'
def rgtN(n:Int):Bool:=decide (0≤n∧n≤63)
def rgt(c n:Int):Bool:=decide (1≤c∧0≤n∧n≤63)
theorem cmpI_lt{a b:Int}(h:a<b):cmpI a b = -1:=by unfold cmpI;rw[if_pos h]
theorem cmpI_gt{a b:Int}(h:b<a):cmpI a b=1:=by unfold cmpI;rw[if_neg (by omega),if_pos h]
theorem cmpI_eq{a b:Int}(h:a=b):cmpI a b=0:=by unfold cmpI;rw[if_neg (by omega),if_neg (by omega)]
theorem cmpS_lt{c n c' n':Int}(h:c<c'):cmpS c n c' n' = -1:=by unfold cmpS;rw[if_pos h]
theorem cmpS_gt{c n c' n':Int}(h:c'<c):cmpS c n c' n'=1:=by unfold cmpS;rw[if_neg (by omega),if_pos h]
theorem cmpS_eq{c n c' n':Int}(h:c=c'):cmpS c n c' n'=cmpI n n':=by unfold cmpS;rw[if_neg (by omega),if_neg (by omega)]
theorem cmpS_neg(c n c' n':Int):cmpS c' n' c n = -(cmpS c n c' n'):=by
 unfold cmpS cmpI;(repeat' split)<;>omega
def nextC(c n k:Int):Int:=if rgtN n=true∧0≤c∧0≤k∧c+k≤9223372036854775806 then c+1+k else 0
def nextN(c n k:Int):Int:=if rgtN n=true∧0≤c∧0≤k∧c+k≤9223372036854775806 then n else 0
def nextE(c n k:Int):Int:=if rgtN n=true∧0≤c∧0≤k then (if c+k≤9223372036854775806 then 0 else 2) else 1
theorem next_bad{c n k:Int}(h:¬(rgtN n=true∧0≤c∧0≤k)):nextC c n k=0∧nextN c n k=0∧nextE c n k=1:=by
 unfold nextC nextN nextE;rw[if_neg (by intro hh;exact h ⟨hh.1,hh.2.1,hh.2.2.1⟩),if_neg (by intro hh;exact h ⟨hh.1,hh.2.1,hh.2.2.1⟩),if_neg h];exact⟨rfl,rfl,rfl⟩
theorem next_over{c n k:Int}(h:rgtN n=true)(hc:0≤c)(hk:0≤k)(ho:¬c+k≤9223372036854775806):nextC c n k=0∧nextN c n k=0∧nextE c n k=2:=by
 unfold nextC nextN nextE;rw[if_neg (by intro hh;exact ho hh.2.2.2),if_neg (by intro hh;exact ho hh.2.2.2),if_pos ⟨h,hc,hk⟩,if_neg ho];exact⟨rfl,rfl,rfl⟩
theorem next_ok{c n k:Int}(h:rgtN n=true)(hc:0≤c)(hk:0≤k)(ho:c+k≤9223372036854775806):nextC c n k=c+1+k∧nextN c n k=n∧nextE c n k=0:=by
 unfold nextC nextN nextE;rw[if_pos ⟨h,hc,hk,ho⟩,if_pos ⟨h,hc,hk,ho⟩,if_pos ⟨h,hc,hk⟩,if_pos ho];exact⟨rfl,rfl,rfl⟩
end St
end Go.Proofs.YtjlfehpockfkdaaGreat
namespace Go.Proofs.YtjlfehpockfkdaaGreat
open Go.RowKit
def Lies(w:World)(A:Option Addr)(xs:List Value):Prop:=
 xs≠[]→∃b off,A=some ⟨b,off,none⟩∧∀j u,xs[j]?=some u→w.cell? ⟨b,off+j,none⟩=some u
section
variable {w w':World} {A:Option Addr} {xs:List Value}
theorem Lies.nil:Lies w A []:=fun h=>absurd rfl h
theorem Lies.later(h:Lies w A xs)(hb:Below w.heap.size w w'):Lies w' A xs:=fun hne=>by
 obtain⟨b,off,rfl,hc⟩:=h hne
 refine⟨b,off,rfl,fun j u hu =>?_⟩
 have hj:=hc j u hu
 exact(hb.cell (World.block_lt_of_cell? w _ hj)).trans hj
theorem Lies.alloc(h:Lies w A xs)(o:Obj):Lies (w.alloc o) A xs:=h.later ((Below.refl _ _).alloc (Nat.le_refl _) o)
theorem Lies.of_own{base:Nat}{e:TypeId}{size n c:Nat}(h:w.ownsRow base e size (.slice A n c) n xs):Lies w A xs:=fun hne=>by
 obtain⟨hl,h⟩:=h
 rcases h with ⟨h0,h1⟩|⟨g,cap,cur,hv,_,hh,_,_,_,ht⟩
 ·subst h1
  simp at hl
  exact absurd hl hne
 ·injection hv with hA
  subst hA
  refine⟨g,0,rfl,fun j u hu =>?_⟩
  rw[Nat.zero_add]
  have hj:j<n*size:=by
   have:=(List.getElem?_eq_some_iff.1 hu).1
   omega
  rw[←ht,List.getElem?_take_of_lt hj]at hu
  simp[World.cell?,hh]
  simpa using hu
end
theorem run_append_lies{P:Program}(w:World)(base:Nat)(t ty e:TypeId)(i:TypeInfo)(z:Value)(size bytes:Nat)(ht:P.underlying t=some (.slice e))(hi:P.info? e=some i)(hz:i.zero=some z)
  (hsize:i.size=size)(hby:i.bytes=bytes)(hzs:z.cells.size=size)(hsz:0<size)
  (v:Value)(n:Nat)(xs:List Value)(hown:w.ownsRow base e size v n xs)
  (A:Option Addr)(m c:Nat)(hA:A=none→m=0∧c=0)(news:List Value)(hl:news.length=m*size)(hr:Lies w A news)(h1:∀u∈news,u.oneCell'=true)
  (h63:n+m≤maxLen)(hbytes:(n+m)*bytes≤140737488355328)(hbase:base≤w.heap.size) :
  ∃v' w',(Builtin.append_ #[t,t] ty #[v,.slice A m c]).run P w = .ok v' w'∧w'.ownsRow base e size v' (n+m) (xs++news)∧w.grownBy w' v.ownBlock ∧
   (v'.ownBlock=v.ownBlock∨v'.ownBlock=some w.heap.size):=by
 cases A with
 |none=>
  obtain⟨rfl,rfl⟩:=hA rfl
  have hn:news=[]:=List.eq_nil_of_length_eq_zero (by simpa using hl)
  subst hn
  exact⟨v,w,run_append_owned_none (P:=P) (w:=w) base t ty e i size ht hi v n xs hown,by simpa using hown,World.grownBy.refl w _,.inl rfl⟩
 |some ad=>
  have hcells:∀j u,news[j]?=some u→w.cell? (ad.add j)=some u:=by
   intro j u hu
   obtain⟨b,off,hab,hc⟩:=hr (fun h=>by subst h;simp at hu)
   injection hab with hab
   subst hab
   rw[Go.WideShapes.add_plain]
   exact hc j u hu
  obtain⟨v',w',hrun,h2,h3,_,h5⟩:=run_append_own_at (P:=P) w base t ty e i z size bytes ht hi hz hsize hby hzs hsz v n xs hown ad m c news hl hcells h1 h63 hbytes hbase
  exact⟨v',w',hrun,h2,h3,h5⟩
theorem wpList_append_lies{P:Program}(w:World){ops:Array Oper}{rest:List Oper}{o:Oper}{a:Act}{Q:Exit→Act→World→Prop}(hgd:o.guard=none)(s x:Operand)(t:TypeId)
  (ho:o.op = .call { callee :=.builtin .append,args:=#[s,x],argTypes:=#[t,t] })
  (base:Nat)(e:TypeId)(i:TypeInfo)(z:Value)(size bytes:Nat)(ht:P.underlying t=some (.slice e))(hi:P.info? e=some i)(hz:i.zero=some z)
  (hsize:i.size=size)(hby:i.bytes=bytes)(hzs:z.cells.size=size)(hsz:0<size)
  (v:Value)(n:Nat)(xs:List Value)(hs:a.eval s=v)(hown:w.ownsRow base e size v n xs)
  (A:Option Addr)(m c:Nat)(hA:A=none→m=0∧c=0)(news:List Value)(hx:a.eval x = .slice A m c)(hl:news.length=m*size)(hr:Lies w A news)(h1:∀u∈news,u.oneCell'=true)
  (h63:n+m≤maxLen)(hbytes:(n+m)*bytes≤140737488355328)(hbase:base≤w.heap.size)
  (h:∀v' w',w'.ownsRow base e size v' (n+m) (xs++news)→w.grownBy w' v.ownBlock→(v'.ownBlock=v.ownBlock∨v'.ownBlock=some w.heap.size)→wpList P ops Q rest (a.put o.dst v') w') :
  wpList P ops Q (o::rest) a w:=by
 refine wpList_plain hgd fun K hK =>?_
 obtain⟨v',w',hrun,h2,h3,h4⟩:=run_append_lies (P:=P) w base t o.type e i z size bytes ht hi hz hsize hby hzs hsz v n xs hown A m c hA news hl hr h1 h63 hbytes hbase
 unfold Oper.wp execOp
 simp only[ho,resolve,invoke,builtin,Sem.run_bind,Sem.run_pure,Result.andThen_ok,List.map_toArray,List.map_cons,List.map_nil,hs,hx,hrun]
 exact hK _ _ (h v' w' h2 h3 h4)
theorem own_form{w:World}{base:Nat}{e:TypeId}{size n:Nat}{v:Value}{xs:List Value}(h:w.ownsRow base e size v n xs) :
  ∃A c,v = .slice A n c∧n≤c∧c≤maxLen∧(A=none→n=0∧c=0)∧Lies w A xs:=by
 have h0:=h
 obtain⟨_,h1⟩:=h
 rcases h1 with ⟨rfl,rfl⟩|⟨g,cap,cur,rfl,_,_,hnc,hcm,_,_⟩
 ·exact⟨none,0,rfl,Nat.le_refl _,Nat.zero_le _,fun _=>⟨rfl,rfl⟩,Lies.of_own h0⟩
 ·exact⟨_,cap,rfl,hnc,hcm,(fun h=>by cases h),Lies.of_own h0⟩
theorem own_base{w:World}{base base':Nat}{e:TypeId}{size n:Nat}{v:Value}{xs:List Value}(h:w.ownsRow base e size v n xs)(hb:base'≤base):w.ownsRow base' e size v n xs:=by
 obtain⟨h0,h1⟩:=h
 refine⟨h0,?_⟩
 rcases h1 with h1|⟨g,cap,cur,hv,hg,r⟩
 ·exact .inl h1
 ·exact .inr ⟨g,cap,cur,hv,by omega,r⟩
theorem own_ge{w:World}{base:Nat}{e:TypeId}{size n:Nat}{v:Value}{xs:List Value}(h:w.ownsRow base e size v n xs):∀k,v.ownBlock=some k→base≤k:=by
 intro k hk
 rcases h.2 with ⟨rfl,_⟩|⟨g,cap,cur,rfl,hg,_⟩
 ·simp[Value.ownBlock]at hk
 ·simp[Value.ownBlock]at hk
  omega
def stCells:List (Int × Int)→List Value
 | []=>[]
 |s::r =>.int .i64 s.1 :: .int .i64 s.2::stCells r
theorem stCells_length(l:List (Int × Int)):(stCells l).length=l.length*2:=by
 induction l with
 |nil=>rfl
 |cons s r ih=>simp[stCells,ih];omega
theorem stCells_one(l:List (Int × Int)):∀u∈stCells l,u.oneCell'=true:=by
 induction l with
 |nil=>intro u hu;cases hu
 |cons s r ih=>
  intro u hu
  simp[stCells]at hu
  rcases hu with rfl|rfl|hu
  ·rfl
  ·rfl
  ·exact ih u hu
theorem stCells_get(l:List (Int × Int)):∀k,k<l.length→(stCells l)[k*2]?=some (.int .i64 (l.getD k (0,0)).1)∧(stCells l)[k*2+1]?=some (.int .i64 (l.getD k (0,0)).2):=by
 induction l with
 |nil=>intro k hk;simp at hk
 |cons s r ih=>
  intro k hk
  cases k with
  |zero=>simp[stCells]
  |succ k=>
   have:=ih k (by simpa using hk)
   rw[show(k+1)*2=k*2+2 from by omega,show k*2+2+1=(k*2+1)+2 from by omega]
   simpa[stCells] using this
theorem stCells_append(l r:List (Int × Int)):stCells (l++r)=stCells l++stCells r:=by
 induction l with
 |nil=>rfl
 |cons s l ih=>simp[stCells,ih]
theorem stCells_nil{l:List (Int × Int)}:stCells l=[]↔l=[]:=by cases l<;>simp[stCells]
def Stamps(w:World)(A:Option Addr)(l:List (Int × Int)):Prop:=
 l≠[]→∃b off,A=some ⟨b,off,none⟩∧∀k,k<l.length→w.cell? ⟨b,off+k*2,none⟩=some (.int .i64 (l.getD k (0,0)).1)∧w.cell? ⟨b,off+k*2+1,none⟩=some (.int .i64 (l.getD k (0,0)).2)
theorem Stamps.of_lies{w:World}{A:Option Addr}{l:List (Int × Int)}(h:Lies w A (stCells l)):Stamps w A l:=fun hne=>by
 obtain⟨b,off,hA,hc⟩:=h (fun he=>hne (stCells_nil.1 he))
 refine⟨b,off,hA,fun k hk =>?_⟩
 obtain⟨h0,h1⟩:=stCells_get l k hk
 exact⟨hc _ _ h0,by rw[Nat.add_assoc];exact hc _ _ h1⟩
end Go.Proofs.YtjlfehpockfkdaaGreat
namespace Go.Proofs.YtjlfehpockfkdaaGreat
namespace Ve
def cnt:List (Int × Int)→Nat→Int
 | [],_=>0
 |s::r,n=>if St.rgt s.1 s.2=true∧s.2=(n:Int) then s.1 else cnt r n
def arr(f:Nat→Int):Array Value:=((List.range 64).map fun i=>Value.int .i64 (f i)).toArray
theorem arr_size(f:Nat→Int):(arr f).size=64:=by simp[arr]
theorem arr_get(f:Nat→Int)(i:Nat)(h:i<64):(arr f)[i]?=some (.int .i64 (f i)):=by simp[arr,h]
theorem arr_ext{f g:Nat→Int}(h:∀i,i<64→f i=g i):arr f=arr g:=by
 unfold arr
 congr 1
 apply List.map_congr_left
 intro i hi
 rw[h i (List.mem_range.1 hi)]
theorem arr_set(f:Nat→Int)(i:Nat)(x:Int)(_h:i<64):(arr f).setIfInBounds i (.int .i64 x)=arr (fun j=>if j=i then x else f j):=by
 apply Array.ext_getElem?
 intro j
 by_cases hj:j<64
 ·rw[arr_get _ j hj,Array.getElem?_setIfInBounds]
  by_cases e:i=j
  ·subst e
   rw[if_pos rfl,if_pos (by rw[arr_size];exact hj),if_pos rfl]
  ·rw[if_neg e,arr_get _ j hj,if_neg (fun h=>e h.symm)]
 ·rw[Array.getElem?_eq_none (by rw[Array.size_setIfInBounds,arr_size];omega),Array.getElem?_eq_none (by rw[arr_size];omega)]
theorem arr_zero:arr (fun _=>0)=#[.int .i64 0,.int .i64 0,.int .i64 0,.int .i64 0,.int .i64 0,.int .i64 0,.int .i64 0,.int .i64 0,.int .i64 0,.int .i64 0,.int .i64 0,.int .i64 0,.int .i64 0,.int .i64 0,.int .i64 0,.int .i64 0,
 .int .i64 0,.int .i64 0,.int .i64 0,.int .i64 0,.int .i64 0,.int .i64 0,.int .i64 0,.int .i64 0,.int .i64 0,.int .i64 0,.int .i64 0,.int .i64 0,.int .i64 0,.int .i64 0,.int .i64 0,.int .i64 0,
 .int .i64 0,.int .i64 0,.int .i64 0,.int .i64 0,.int .i64 0,.int .i64 0,.int .i64 0,.int .i64 0,.int .i64 0,.int .i64 0,.int .i64 0,.int .i64 0,.int .i64 0,.int .i64 0,.int .i64 0,.int .i64 0,
 .int .i64 0,.int .i64 0,.int .i64 0,.int .i64 0,.int .i64 0,.int .i64 0,.int .i64 0,.int .i64 0,.int .i64 0,.int .i64 0,.int .i64 0,.int .i64 0,.int .i64 0,.int .i64 0,.int .i64 0,.int .i64 0]:=by rfl
def ofTo(f:Nat→Int):Nat→List (Int × Int)
 |0=>[]
 |k+1=>ofTo f k++(if 0<f k then [(f k,(k:Int))] else [])
theorem ofTo_len(f:Nat→Int):∀k,(ofTo f k).length≤k
 |0=>Nat.le_refl _
 |k+1=>by
  have:=ofTo_len f k
  unfold ofTo
  split<;>simp<;>omega
def ofL(f:Nat→Int):List (Int × Int):=ofTo f 64
theorem ofL_len(f:Nat→Int):(ofL f).length≤64:=ofTo_len f 64
theorem ofTo_ext{f g:Nat→Int}:∀k,(∀i,i<k→f i=g i)→ofTo f k=ofTo g k
 |0,_=>rfl
 |k+1,h=>by
  unfold ofTo
  rw[ofTo_ext k (fun i hi=>h i (by omega)),h k (by omega)]
theorem ofL_ext{f g:Nat→Int}(h:∀i,i<64→f i=g i):ofL f=ofL g:=ofTo_ext 64 h
def covTo(f g:Nat→Int)(k:Nat):Prop:=∀n,n<k→g n≤f n
def cov(f g:Nat→Int):Bool:=decide (∀n:Fin 64,g n≤f n)
theorem cov_iff(f g:Nat→Int):cov f g=true↔covTo f g 64:=by
 unfold cov covTo
 rw[decide_eq_true_iff]
 exact⟨fun h n hn=>h ⟨n,hn⟩,fun h n=>h n.val n.isLt⟩
theorem cov_no{f g:Nat→Int}(k:Nat)(hk:k<64)(h:f k<g k):cov f g=false:=by
 cases hc:cov f g with
 |false=>rfl
 |true=>have:=(cov_iff f g).1 hc k hk;omega
def stand(f g:Nat→Int):Int:=if cov f g=true then (if cov g f=true then 0 else 2) else (if cov g f=true then 1 else 3)
theorem stand_eq(f g:Nat→Int):stand f g=if cov f g=true then (if cov g f=true then 0 else 2) else (if cov g f=true then 1 else 3):=rfl
def topTo(f:Nat→Int):Nat→Int
 |0=>0
 |k+1=>if topTo f k<f k then f k else topTo f k
def top(f:Nat→Int):Int:=topTo f 64
theorem cnt_nonneg(l:List (Int × Int))(n:Nat):0≤cnt l n:=by
 induction l with
 |nil=>exact Int.le_refl _
 |cons s r ih=>
  unfold cnt
  split
  ·rename_i h
   have:1≤s.1:=by have:=h.1;unfold St.rgt at this;exact(of_decide_eq_true this).1
   omega
  ·exact ih
end Ve
end Go.Proofs.YtjlfehpockfkdaaGreat
namespace Go.Proofs.YtjlfehpockfkdaaGreat
open Go.RowKit
def OneL(w:World)(A:Option Addr)(c:Nat)(l:List (Int × Int)):Prop:=l.length≤c∧c≤maxLen∧(A=none→l.length=0∧c=0)∧Lies w A (stCells l)
section
variable {w w':World} {A:Option Addr} {c:Nat} {l:List (Int × Int)}
theorem OneL.later(h:OneL w A c l)(hb:Below w.heap.size w w'):OneL w' A c l:=⟨h.1,h.2.1,h.2.2.1,h.2.2.2.later hb⟩
theorem OneL.len(h:OneL w A c l):l.length≤9223372036854775807:=by
 have h1:=h.1
 have h2:=h.2.1
 unfold maxLen at h2
 omega
theorem OneL.stamps(h:OneL w A c l):Stamps w A l:=Stamps.of_lies h.2.2.2
theorem OneL.nil:OneL w none 0 []:=⟨Nat.le_refl _,Nat.zero_le _,fun _=>⟨rfl,rfl⟩,Lies.nil⟩
theorem OneL.of_own{base:Nat}{e:TypeId}{v:Value}(h:w.ownsRow base e 2 v l.length (stCells l)):∃A c,v = .slice A l.length c∧OneL w A c l:=by
 obtain⟨A,c,h1,h2,h3,h4,h5⟩:=own_form h
 exact⟨A,c,h1,h2,h3,h4,h5⟩
end
def Rows(w:World)(A:Option Addr)(ls:List (List (Int × Int))):Prop:=
 ls≠[]→∃b off,A=some ⟨b,off,none⟩∧∀k,k<ls.length→∃A' c',w.cell? ⟨b,off+k,none⟩=some (.slice A' (ls.getD k []).length c')∧OneL w A' c' (ls.getD k [])
namespace Ve
def jnTo(ls:List (List (Int × Int))):Nat→Nat→Int
 |0,_=>0
 |k+1,n=>if jnTo ls k n<cnt (ls.getD k []) n then cnt (ls.getD k []) n else jnTo ls k n
def jn(ls:List (List (Int × Int))):Nat→Int:=jnTo ls ls.length
theorem jnTo_nonneg(ls:List (List (Int × Int))):∀k n,0≤jnTo ls k n
 |0,_=>Int.le_refl _
 |k+1,n=>by
  unfold jnTo
  split
  ·exact cnt_nonneg _ _
  ·exact jnTo_nonneg ls k n
def mxTo(f g:Nat→Int)(n:Nat):Nat→Int:=fun j=>if j<n then (if f j<g j then g j else f j) else f j
theorem mx_step(f g:Nat→Int)(n:Nat)(x:Int)(h:x=if f n<g n then g n else f n)(i:Nat):(if i=n then x else mxTo f g n i)=mxTo f g (n+1) i:=by
 unfold mxTo
 by_cases e:i=n
 ·subst e
  rw[if_pos rfl,if_pos (Nat.lt_succ_self _),h]
 ·rw[if_neg e]
  by_cases e2:i<n
  ·rw[if_pos e2,if_pos (show i<n+1 by omega)]
  ·rw[if_neg e2,if_neg (show ¬i<n+1 by omega)]
def joinL(ls:List (List (Int × Int))):List (Int × Int):=ofL (jn ls)
end Ve
end Go.Proofs.YtjlfehpockfkdaaGreat
namespace Go.Proofs.YtjlfehpockfkdaaGreat
namespace Ve
theorem ofTo_mem(f:Nat→Int):∀k (s:Int × Int),s∈ofTo f k→∃n:Nat,n<k∧s=(f n,(n:Int))∧0<f n
 |0,s,h=>by simp[ofTo]at h
 |k+1,s,h=>by
  unfold ofTo at h
  rw[List.mem_append]at h
  rcases h with h|h
  ·obtain⟨n,hn,hs⟩:=ofTo_mem f k s h
   exact⟨n,by omega,hs⟩
  ·split at h
   ·rename_i hp
    rw[List.mem_singleton]at h
    exact⟨k,by omega,h,hp⟩
   ·simp at h
theorem cnt_append(l r:List (Int × Int))(n:Nat):cnt (l++r) n=if (∃s∈l,St.rgt s.1 s.2=true∧s.2=(n:Int)) then cnt l n else cnt r n:=by
 induction l with
 |nil=>simp
 |cons s l ih=>
  rw[List.cons_append]
  by_cases h:St.rgt s.1 s.2=true∧s.2=(n:Int)
  ·rw[if_pos ⟨s,List.mem_cons_self ..,h⟩]
   unfold cnt
   rw[if_pos h,if_pos h]
  ·have e1:cnt (s::(l++r)) n=cnt (l++r) n:=by rw[cnt,if_neg h]
   have e2:cnt (s::l) n=cnt l n:=by rw[cnt,if_neg h]
   rw[e1,e2,ih]
   by_cases hx:∃s∈l,St.rgt s.1 s.2=true∧s.2=(n:Int)
   ·obtain⟨t,ht,hp⟩:=hx
    rw[if_pos ⟨t,ht,hp⟩,if_pos ⟨t,List.mem_cons_of_mem _ ht,hp⟩]
   ·rw[if_neg hx,if_neg (fun⟨t,ht,hp⟩=>by
     rcases List.mem_cons.1 ht with rfl|ht
     ·exact h hp
     ·exact hx ⟨t,ht,hp⟩)]
theorem rgt_of(c:Int)(n:Nat)(hc:0<c)(hn:n<64):St.rgt c (n:Int)=true:=by
 unfold St.rgt
 exact decide_eq_true ⟨by omega,by omega,by omega⟩
theorem cnt_ofTo(f:Nat→Int)(hf:∀n,0≤f n):∀k,k≤64→∀n,cnt (ofTo f k) n=if n<k then f n else 0
 |0,_,n=>by simp[ofTo,cnt]
 |k+1,hk,n=>by
  have ih:=cnt_ofTo f hf k (by omega) n
  unfold ofTo
  rw[cnt_append,ih]
  by_cases hx:∃s∈ofTo f k,St.rgt s.1 s.2=true∧s.2=(n:Int)
  ·rw[if_pos hx]
   obtain⟨s,hs,_,h2⟩:=hx
   obtain⟨m,hm,rfl,_⟩:=ofTo_mem f k s hs
   have:m=n:=by simp at h2;omega
   subst this
   rw[if_pos hm,if_pos (by omega)]
  ·rw[if_neg hx]
   by_cases hn:n<k
   ·have h0:cnt (ofTo f k) n=0:=by
     have:=cnt_append (ofTo f k) [] n
     rw[if_neg hx,List.append_nil]at this
     rw[this];rfl
    rw[ih,if_pos hn]at h0
    rw[if_pos (show n<k+1 by omega),h0]
    split
    ·unfold cnt
     rw[if_neg (fun h=>by have:=h.2;simp at this;omega)]
     rfl
    ·rfl
   ·by_cases e:n=k
    ·subst e
     rw[if_pos (show n<n+1 by omega)]
     split
     ·rename_i hp
      unfold cnt
      rw[if_pos ⟨rgt_of _ _ hp (by omega),rfl⟩]
     ·rename_i hp
      have:=hf n
      unfold cnt
      omega
    ·rw[if_neg (show ¬n<k+1 by omega)]
     split
     ·unfold cnt
      rw[if_neg (fun h=>by have:=h.2;simp at this;omega)]
      rfl
     ·rfl
theorem cnt_ofL(f:Nat→Int)(hf:∀n,0≤f n)(n:Nat)(hn:n<64):cnt (ofL f) n=f n:=by
 unfold ofL
 rw[cnt_ofTo f hf 64 (Nat.le_refl _) n,if_pos hn]
theorem cov_ext{f f' g g':Nat→Int}(h1:∀n,n<64→f n=f' n)(h2:∀n,n<64→g n=g' n):cov f g=cov f' g':=by
 have:cov f g=true↔cov f' g'=true:=by
  rw[cov_iff,cov_iff]
  exact⟨fun h n hn=>by rw[←h1 n hn,←h2 n hn];exact h n hn,fun h n hn=>by rw[h1 n hn,h2 n hn];exact h n hn⟩
 cases hx:cov f g<;>cases hy:cov f' g'<;>simp[hx,hy]at this ⊢
theorem jn_two(l r:List (Int × Int))(n:Nat):jn [l,r] n=if cnt l n<cnt r n then cnt r n else cnt l n:=by
 have h0:jnTo [l,r] 1 n=cnt l n:=by
  have:=cnt_nonneg l n
  show(if (0:Int)<cnt l n then cnt l n else 0)=cnt l n
  split<;>omega
 show(if jnTo [l,r] 1 n<cnt r n then cnt r n else jnTo [l,r] 1 n)=_
 rw[h0]
theorem jn_nonneg(ls:List (List (Int × Int)))(n:Nat):0≤jn ls n:=jnTo_nonneg ls _ n
def fmTo(l:List (Int × Int))(k:Nat):Prop:=∀j,j<k→St.rgt (l.getD j (0,0)).1 (l.getD j (0,0)).2=true∧(0<j→(l.getD (j-1) (0,0)).2<(l.getD j (0,0)).2)
def fmd(l:List (Int × Int)):Bool:=decide (∀j:Fin l.length,St.rgt (l.getD j.val (0,0)).1 (l.getD j.val (0,0)).2=true∧(0<j.val→(l.getD (j.val-1) (0,0)).2<(l.getD j.val (0,0)).2))
theorem fmd_iff(l:List (Int × Int)):fmd l=true↔fmTo l l.length:=by
 unfold fmd fmTo
 rw[decide_eq_true_iff]
 exact⟨fun h j hj=>h ⟨j,hj⟩,fun h j=>h j.val j.isLt⟩
theorem fmd_no{l:List (Int × Int)}(k:Nat)(hk:k<l.length)(h:¬(St.rgt (l.getD k (0,0)).1 (l.getD k (0,0)).2=true∧(0<k→(l.getD (k-1) (0,0)).2<(l.getD k (0,0)).2))):fmd l=false:=by
 cases hc:fmd l with
 |false=>rfl
 |true=>exact absurd ((fmd_iff l).1 hc k hk) h
theorem getD_left(l r:List (Int × Int))(j:Nat)(h:j<l.length):(l++r).getD j (0,0)=l.getD j (0,0):=by
 rw[List.getD_eq_getElem?_getD,List.getD_eq_getElem?_getD,List.getElem?_append_left h]
theorem getD_last(l:List (Int × Int))(s:Int × Int):(l++[s]).getD l.length (0,0)=s:=by
 rw[List.getD_eq_getElem?_getD,List.getElem?_append_right (Nat.le_refl _),Nat.sub_self]
 rfl
theorem getD_mem(l:List (Int × Int))(j:Nat)(h:j<l.length):l.getD j (0,0)∈l:=by
 rw[List.getD_eq_getElem?_getD,List.getElem?_eq_getElem h]
 exact List.getElem_mem h
theorem fmTo_ofTo(f:Nat→Int):∀k,k≤64→fmTo (ofTo f k) (ofTo f k).length
 |0,_=>fun j hj=>by simp[ofTo]at hj
 |k+1,hk=>by
  have ih:=fmTo_ofTo f k (by omega)
  intro j hj
  unfold ofTo at hj ⊢
  by_cases hp:0<f k
  ·rw[if_pos hp]at hj ⊢
   by_cases h:j<(ofTo f k).length
   ·obtain⟨h1,h2⟩:=ih j h
    rw[getD_left _ _ _ h]
    refine⟨h1,fun h0 =>?_⟩
    rw[getD_left _ _ _ (by omega)]
    exact h2 h0
   ·have e:j=(ofTo f k).length:=by simp at hj;omega
    subst e
    rw[getD_last]
    refine⟨rgt_of _ _ hp (by omega),fun h0 =>?_⟩
    rw[getD_left _ _ _ (by omega)]
    obtain⟨n,hn,hs,_⟩:=ofTo_mem f k _ (getD_mem (ofTo f k) ((ofTo f k).length-1) (by omega))
    rw[hs]
    show(n:Int)<(k:Int)
    omega
  ·rw[if_neg hp,List.append_nil]at hj ⊢
   exact ih j hj
theorem fmd_ofL(f:Nat→Int):fmd (ofL f)=true:=(fmd_iff _).2 (fmTo_ofTo f 64 (Nat.le_refl _))
theorem cov_jn_left(l r:List (Int × Int)):cov (jn [l,r]) (cnt l)=true:=(cov_iff _ _).2 (fun n _=>by rw[jn_two];split<;>omega)
theorem cov_jn_right(l r:List (Int × Int)):cov (jn [l,r]) (cnt r)=true:=(cov_iff _ _).2 (fun n _=>by rw[jn_two];split<;>omega)
theorem cnt_joinL(ls:List (List (Int × Int)))(n:Nat)(hn:n<64):cnt (joinL ls) n=jn ls n:=cnt_ofL _ (jn_nonneg ls) n hn
theorem cov_join_left(l r:List (Int × Int)):cov (cnt (joinL [l,r])) (cnt l)=true:=by rw[cov_ext (fun n hn=>cnt_joinL [l,r] n hn) (fun n _=>rfl)];exact cov_jn_left l r
theorem cov_join_right(l r:List (Int × Int)):cov (cnt (joinL [l,r])) (cnt r)=true:=by rw[cov_ext (fun n hn=>cnt_joinL [l,r] n hn) (fun n _=>rfl)];exact cov_jn_right l r
theorem fmd_joinL(ls:List (List (Int × Int))):fmd (joinL ls)=true:=fmd_ofL _
end Ve
end Go.Proofs.YtjlfehpockfkdaaGreat
namespace Go.Proofs.YtjlfehpockfkdaaGreat
open Go.RowKit
section
variable {w w':World} {base size n:Nat} {e:TypeId} {v:Value} {xs:List Value}
theorem own_lt(h:w.ownsRow base e size v n xs):∀k,v.ownBlock=some k→k<w.heap.size:=by
 intro k hk
 rcases h.2 with ⟨rfl,_⟩|⟨g,cap,cur,rfl,_,hh,_⟩
 ·simp[Value.ownBlock]at hk
 ·simp[Value.ownBlock]at hk
  subst hk
  exact(Array.getElem?_eq_some_iff.1 hh).1
theorem own_stays(h:w.ownsRow base e size v n xs)(hs:∀k,v.ownBlock=some k→w'.heap[k]?=w.heap[k]?):w'.ownsRow base e size v n xs:=by
 obtain⟨h0,h1⟩:=h
 refine⟨h0,?_⟩
 rcases h1 with h1|⟨g,cap,cur,hv,hg,hh,r⟩
 ·exact .inl h1
 ·refine .inr ⟨g,cap,cur,hv,hg,?_,r⟩
  rw[hs g (by rw[hv];rfl)]
  exact hh
theorem own_later(h:w.ownsRow base e size v n xs)(hb:Below w.heap.size w w'):w'.ownsRow base e size v n xs:=
 own_stays h (fun k hk=>hb.block k (own_lt h k hk))
theorem own_apart{base' size' n':Nat}{e':TypeId}{v':Value}{xs':List Value}(h:w.ownsRow base e size v n xs)(h':w.ownsRow base' e' size' v' n' xs')(hne:e≠e'):∀k,v.ownBlock=some k→some k≠v'.ownBlock:=by
 intro k hk hk'
 rcases h.2 with ⟨rfl,_⟩|⟨g,cap,cur,rfl,_,hh,_⟩
 ·simp[Value.ownBlock]at hk
 ·rcases h'.2 with ⟨rfl,_⟩|⟨g',cap',cur',rfl,_,hh',_⟩
  ·simp[Value.ownBlock]at hk'
  ·simp[Value.ownBlock]at hk hk'
   subst hk
   subst hk'
   rw[hh]at hh'
   simp at hh'
   exact hne hh'.2
end
def Ans(l:List (Int × Int))(w:World)(e:Ending)(w':World):Prop:=∃A c,e = .returned (.slice A l.length c)∧OneL w' A c l∧Below w.heap.size w w'
def Says(v:Value)(w:World)(e:Ending)(w':World):Prop:=e = .returned v∧Below w.heap.size w w'
theorem rows_two{w:World}{g:Nat}{t:TypeId}{A B:Option Addr}{c d:Nat}{l r:List (Int × Int)}(hB:Blk w g t #[.slice A l.length c,.slice B r.length d])(h1:OneL w A c l)(h2:OneL w B d r):Rows w (some ⟨g,0,none⟩) [l,r]:=fun _=>⟨g,0,rfl,fun k hk=>by
 have hk2:k=0∨k=1:=by simp at hk;omega
 rcases hk2 with rfl|rfl
 ·exact⟨A,c,hB.cell rfl,h1⟩
 ·exact⟨B,d,hB.cell rfl,h2⟩⟩
theorem one_stamp{w:World}{g:Nat}{t:TypeId}{c n:Int}(hB:Blk w g t #[.int .i64 c,.int .i64 n]):OneL w (some ⟨g,0,none⟩) 1 [(c,n)]:=
 ⟨Nat.le_refl _,(by unfold maxLen;omega),(fun h=>by cases h),fun _=>⟨g,0,rfl,fun j u hu=>by
  rw[Nat.zero_add]
  exact hB.cell (by simpa[stCells] using hu)⟩⟩
theorem rows_one{w:World}{g:Nat}{t:TypeId}{A:Option Addr}{c:Nat}{l:List (Int × Int)}(hB:Blk w g t #[.slice A l.length c])(h1:OneL w A c l):Rows w (some ⟨g,0,none⟩) [l]:=fun _=>⟨g,0,rfl,fun k hk=>by
 have hk0:k=0:=by simp at hk;omega
 subst hk0
 exact⟨A,c,hB.cell rfl,h1⟩⟩
end Go.Proofs.YtjlfehpockfkdaaGreat
namespace Go.Proofs.YtjlfehpockfkdaaGreat
namespace Sp
def inL(l:List (Int × Int))(o:Nat):Bool:=l.any fun s=>decide (s.1≤(o:Int)∧(o:Int)≤s.2)
theorem inL_iff(l:List (Int × Int))(o:Nat):inL l o=true↔∃s∈l,s.1≤(o:Int)∧(o:Int)≤s.2:=by
 unfold inL
 rw[List.any_eq_true]
 constructor
 ·rintro ⟨s,h1,h2⟩
  exact⟨s,h1,of_decide_eq_true h2⟩
 ·rintro ⟨s,h1,h2⟩
  exact⟨s,h1,decide_eq_true h2⟩
theorem inL_snoc(l:List (Int × Int))(s:Int × Int)(o:Nat):inL (l++[s]) o=(inL l o||decide (s.1≤(o:Int)∧(o:Int)≤s.2)):=by
 unfold inL
 rw[List.any_append]
 simp
theorem inL_take(l:List (Int × Int))(k:Nat)(h:k<l.length)(o:Nat):inL (l.take (k+1)) o=(inL (l.take k) o||decide (l[k].1≤(o:Int)∧(o:Int)≤l[k].2)):=by
 rw[List.take_succ_eq_append_getElem h,inL_snoc]
def arr(f:Nat→Bool):Array Value:=((List.range 256).map fun i=>Value.bool (f i)).toArray
theorem arr_size(f:Nat→Bool):(arr f).size=256:=by simp[arr]
theorem arr_get(f:Nat→Bool)(i:Nat)(h:i<256):(arr f)[i]?=some (.bool (f i)):=by simp[arr,h]
theorem arr_ext{f g:Nat→Bool}(h:∀i,i<256→f i=g i):arr f=arr g:=by
 unfold arr
 congr 1
 apply List.map_congr_left
 intro i hi
 rw[h i (List.mem_range.1 hi)]
theorem arr_set(f:Nat→Bool)(i:Nat)(x:Bool)(_h:i<256):(arr f).setIfInBounds i (.bool x)=arr (fun j=>if j=i then x else f j):=by
 apply Array.ext_getElem?
 intro j
 by_cases hj:j<256
 ·rw[arr_get _ j hj,Array.getElem?_setIfInBounds]
  by_cases e:i=j
  ·subst e
   rw[if_pos rfl,if_pos (by rw[arr_size];exact hj),if_pos rfl]
  ·rw[if_neg e,arr_get _ j hj,if_neg (fun h=>e h.symm)]
 ·rw[Array.getElem?_eq_none (by rw[Array.size_setIfInBounds,arr_size];omega),Array.getElem?_eq_none (by rw[arr_size];omega)]
def nar(f:Nat→Int):Array Value:=((List.range 257).map fun i=>Value.int .i64 (f i)).toArray
theorem nar_size(f:Nat→Int):(nar f).size=257:=by simp[nar]
theorem nar_get(f:Nat→Int)(i:Nat)(h:i<257):(nar f)[i]?=some (.int .i64 (f i)):=by simp[nar,h]
theorem nar_set(f:Nat→Int)(i:Nat)(x:Int):(nar f).setIfInBounds i (.int .i64 x)=nar (fun j=>if j=i then x else f j):=by
 apply Array.ext_getElem?
 intro j
 by_cases hj:j<257
 ·rw[nar_get _ j hj,Array.getElem?_setIfInBounds]
  by_cases e:i=j
  ·subst e
   rw[if_pos rfl,if_pos (by rw[nar_size];exact hj),if_pos rfl]
  ·rw[if_neg e,nar_get _ j hj,if_neg (fun h=>e h.symm)]
 ·rw[Array.getElem?_eq_none (by rw[Array.size_setIfInBounds,nar_size];omega),Array.getElem?_eq_none (by rw[nar_size];omega)]
def reach(l:List (Int × Int))(x:Int):List (Int × Int):=l.dropLast++[((l.getD (l.length-1) (0,0)).1,x)]
def ofTo(f:Nat→Bool):Nat→List (Int × Int)
 |0=>[]
 |k+1=>if f k=true then (if 0<k∧f (k-1)=true then reach (ofTo f k) (k:Int) else ofTo f k++[((k:Int),(k:Int))]) else ofTo f k
def ofL(f:Nat→Bool):List (Int × Int):=ofTo f 256
theorem ofTo_ext{f g:Nat→Bool}:∀k,(∀i,i<k→f i=g i)→ofTo f k=ofTo g k
 |0,_=>rfl
 |k+1,h=>by
  rw[ofTo,ofTo,ofTo_ext k (fun i hi=>h i (by omega)),h k (by omega)]
  cases k with
  |zero=>simp
  |succ m=>rw[show m+1-1=m from rfl,h m (by omega)]
theorem ofL_ext{f g:Nat→Bool}(h:∀i,i<256→f i=g i):ofL f=ofL g:=ofTo_ext 256 h
def good(b:Int)(l:List (Int × Int)):Prop:=∀j,j<l.length→0≤(l.getD j (0,0)).1∧(l.getD j (0,0)).1≤(l.getD j (0,0)).2∧(l.getD j (0,0)).2<b∧(0<j→(l.getD (j-1) (0,0)).2+1<(l.getD j (0,0)).1)
theorem good_nil(b:Int):good b []:=fun j hj=>by simp at hj
theorem good.mono{b c:Int}{l:List (Int × Int)}(h:good b l)(hbc:b≤c):good c l:=fun j hj=>by
 obtain⟨h1,h2,h3,h4⟩:=h j hj
 exact⟨h1,h2,by omega,h4⟩
theorem getD_snoc_lt(l:List (Int × Int))(s:Int × Int)(j:Nat)(h:j<l.length):(l++[s]).getD j (0,0)=l.getD j (0,0):=by
 rw[List.getD_eq_getElem?_getD,List.getElem?_append_left h,List.getD_eq_getElem?_getD]
theorem getD_snoc_eq(l:List (Int × Int))(s:Int × Int):(l++[s]).getD l.length (0,0)=s:=by
 rw[List.getD_eq_getElem?_getD,List.getElem?_append_right (Nat.le_refl _),Nat.sub_self]
 rfl
theorem good.snoc{b:Int}{l:List (Int × Int)}(h:good b l)(s:Int × Int)(c:Int)(h1:0≤s.1)(h2:s.1≤s.2)(h3:s.2<c)(hc:b≤c)(h4:0<l.length→(l.getD (l.length-1) (0,0)).2+1<s.1):good c (l++[s]):=fun j hj=>by
 rw[List.length_append,List.length_singleton]at hj
 rcases Nat.lt_or_ge j l.length with hlt|hge
 ·rw[getD_snoc_lt l s j hlt,getD_snoc_lt l s (j-1) (by omega)]
  obtain⟨q1,q2,q3,q4⟩:=h j hlt
  exact⟨q1,q2,by omega,q4⟩
 ·have hj:j=l.length:=by omega
  subst hj
  rw[getD_snoc_eq]
  refine⟨h1,h2,h3,fun h0 =>?_⟩
  rw[getD_snoc_lt l s _ (by omega)]
  exact h4 h0
theorem dropLast_getD(l:List (Int × Int))(j:Nat)(h:j<l.length-1):l.dropLast.getD j (0,0)=l.getD j (0,0):=by
 rw[List.getD_eq_getElem?_getD,List.getD_eq_getElem?_getD,List.getElem?_dropLast,if_pos h]
theorem reach_len(l:List (Int × Int))(x:Int)(h:0<l.length):(reach l x).length=l.length:=by
 unfold reach
 rw[List.length_append,List.length_dropLast,List.length_singleton]
 omega
theorem reach_last(l:List (Int × Int))(x:Int):(reach l x).getD (l.length-1) (0,0)=((l.getD (l.length-1) (0,0)).1,x):=by
 unfold reach
 have h2:=getD_snoc_eq l.dropLast ((l.getD (l.length-1) (0,0)).1,x)
 rw[List.length_dropLast]at h2
 exact h2
theorem reach_old(l:List (Int × Int))(x:Int)(j:Nat)(h:j<l.length-1):(reach l x).getD j (0,0)=l.getD j (0,0):=by
 unfold reach
 rw[getD_snoc_lt _ _ _ (by rw[List.length_dropLast];exact h),dropLast_getD l j h]
theorem good.reach{b:Int}{l:List (Int × Int)}(h:good b l)(x c:Int)(h0:0<l.length)(hx:(l.getD (l.length-1) (0,0)).2≤x)(hc:x<c)(hbc:b≤c):good c (reach l x):=fun j hj=>by
 rw[reach_len l x h0]at hj
 rcases Nat.lt_or_ge j (l.length-1) with hlt|hge
 ·rw[reach_old l x j hlt,reach_old l x (j-1) (by omega)]
  obtain⟨q1,q2,q3,q4⟩:=h j hj
  exact⟨q1,q2,by omega,q4⟩
 ·have hj:j=l.length-1:=by omega
  subst hj
  rw[reach_last l x]
  obtain⟨q1,q2,q3,q4⟩:=h (l.length-1) (by omega)
  refine⟨q1,by show(l.getD (l.length-1) (0,0)).1≤x;omega,by show x<c;omega,fun hp =>?_⟩
  rw[reach_old l x _ (by omega)]
  exact q4 hp
theorem split_last(l:List (Int × Int))(h:0<l.length):l=l.dropLast++[l.getD (l.length-1) (0,0)]:=by
 have hne:l≠[]:=List.length_pos_iff.1 h
 have h1:=(List.dropLast_concat_getLast hne).symm
 have h2:l.getD (l.length-1) (0,0)=l.getLast hne:=by
  rw[List.getD_eq_getElem?_getD,List.getElem?_eq_getElem (by omega),Option.getD_some,List.getLast_eq_getElem]
 rw[h2]
 exact h1
theorem inL_reach(l:List (Int × Int))(k:Nat)(h:0<l.length)(hlast:(l.getD (l.length-1) (0,0)).2+1=(k:Int))(hle:(l.getD (l.length-1) (0,0)).1≤(l.getD (l.length-1) (0,0)).2)(o:Nat):inL (reach l (k:Int)) o=(inL l o||decide (o=k)):=by
 have h1:inL l o=(inL l.dropLast o||decide ((l.getD (l.length-1) (0,0)).1≤(o:Int)∧(o:Int)≤(l.getD (l.length-1) (0,0)).2)):=by
  conv=>lhs;rw[split_last l h]
  rw[inL_snoc]
 unfold reach
 rw[inL_snoc,h1,Bool.or_assoc]
 congr 1
 rw[Bool.eq_iff_iff]
 simp only[Bool.or_eq_true,decide_eq_true_eq]
 omega
theorem ofTo_is(f:Nat→Bool):∀k:Nat,good (k:Int) (ofTo f k)∧(∀o,inL (ofTo f k) o=(decide (o<k)&&f o))∧(0<k→f (k-1)=true→0<(ofTo f k).length∧((ofTo f k).getD ((ofTo f k).length-1) (0,0)).2+1=(k:Int)) ∧
   (0<k→f (k-1)=false→∀j,j<(ofTo f k).length→((ofTo f k).getD j (0,0)).2+1<(k:Int))
 |0=>⟨good_nil _,fun o=>by simp[ofTo,inL],fun h=>by omega,fun h=>by omega⟩
 |k+1=>by
  obtain⟨h1,h2,h3,h4⟩:=ofTo_is f k
  have hk:((k+1:Nat):Int)=(k:Int)+1:=by omega
  cases hf:f k with
  |false=>
   have e:ofTo f (k+1)=ofTo f k:=by rw[ofTo,if_neg (by rw[hf];simp)]
   rw[e]
   refine⟨h1.mono (by omega),fun o =>?_,fun _ h =>?_,fun _ _ j hj =>?_⟩
   ·rw[h2 o]
    by_cases ho:o=k
    ·subst ho;rw[hf];simp
    ·congr 1
     rw[Bool.eq_iff_iff]
     simp only[decide_eq_true_eq]
     omega
   ·rw[show k+1-1=k from rfl,hf]at h;cases h
   ·have:=(h1 j hj).2.2.1
    omega
  |true=>
   by_cases hp:0<k∧f (k-1)=true
   ·have e:ofTo f (k+1)=reach (ofTo f k) (k:Int):=by rw[ofTo,if_pos hf,if_pos hp]
    obtain⟨q1,q2⟩:=h3 hp.1 hp.2
    have hgl:=h1 ((ofTo f k).length-1) (by omega)
    rw[e]
    refine⟨h1.reach (k:Int) _ q1 (by omega) (by omega) (by omega),fun o =>?_,fun _ _ =>?_,fun _ h =>?_⟩
    ·rw[inL_reach _ k q1 q2 hgl.2.1,h2 o]
     rw[Bool.eq_iff_iff]
     simp only[Bool.or_eq_true,Bool.and_eq_true,decide_eq_true_eq]
     constructor
     ·rintro (⟨a1,a2⟩|rfl)
      ·exact⟨by omega,a2⟩
      ·exact⟨by omega,hf⟩
     ·rintro ⟨a1,a2⟩
      by_cases ho:o=k
      ·exact .inr ho
      ·exact .inl ⟨by omega,a2⟩
    ·rw[reach_len _ _ q1,reach_last _ _]
     exact⟨q1,by show(k:Int)+1=_;omega⟩
    ·rw[show k+1-1=k from rfl,hf]at h;cases h
   ·have e:ofTo f (k+1)=ofTo f k++[((k:Int),(k:Int))]:=by rw[ofTo,if_pos hf,if_neg hp]
    rw[e]
    refine⟨h1.snoc _ _ (by show(0:Int)≤(k:Int);omega) (Int.le_refl _) (by show(k:Int)<_;omega) (by omega) ?_,fun o =>?_,fun _ _ =>?_,fun _ h =>?_⟩
    ·intro hl
     have hk0:0<k:=by
      cases k with
      |zero=>simp[ofTo]at hl
      |succ m=>omega
     have hfk:f (k-1)=false:=by
      cases hq:f (k-1) with
      |false=>rfl
      |true=>exact absurd ⟨hk0,hq⟩ hp
     have:=h4 hk0 hfk ((ofTo f k).length-1) (by omega)
     show _<(k:Int)
     omega
    ·rw[inL_snoc,h2 o]
     rw[Bool.eq_iff_iff]
     simp only[Bool.or_eq_true,Bool.and_eq_true,decide_eq_true_eq]
     constructor
     ·rintro (⟨a1,a2⟩|a1)
      ·exact⟨by omega,a2⟩
      ·have:o=k:=by omega
       subst this
       exact⟨by omega,hf⟩
     ·rintro ⟨a1,a2⟩
      by_cases ho:o=k
      ·exact .inr (by omega)
      ·exact .inl ⟨by omega,a2⟩
    ·rw[List.length_append,List.length_singleton,Nat.add_sub_cancel,getD_snoc_eq]
     exact⟨by omega,by show(k:Int)+1=_;omega⟩
    ·rw[show k+1-1=k from rfl,hf]at h;cases h
theorem ofTo_short(f:Nat→Bool):∀k,(ofTo f k).length≤k
 |0=>Nat.le_refl _
 |k+1=>by
  have h:=ofTo_short f k
  rw[ofTo]
  split
  ·split
   ·unfold Sp.reach
    rw[List.length_append,List.length_dropLast,List.length_singleton]
    omega
   ·rw[List.length_append,List.length_singleton]
    omega
  ·omega
theorem good_ofL(f:Nat→Bool):good 256 (ofL f):=(ofTo_is f 256).1
theorem inL_ofL(f:Nat→Bool)(o:Nat)(ho:o<256):inL (ofL f) o=f o:=by
 unfold ofL
 rw[(ofTo_is f 256).2.1 o]
 simp[ho]
end Sp
namespace Sp
def gf:Int→List (Int × Int)→Prop
 |_,[]=>True
 |b,s::r=>b≤s.1∧s.1≤s.2∧s.2≤255∧gf (s.2+2) r
theorem inL_cons(s:Int × Int)(r:List (Int × Int))(o:Nat):inL (s::r) o=(decide (s.1≤(o:Int)∧(o:Int)≤s.2)||inL r o):=rfl
theorem good_gf:∀(l:List (Int × Int)) (b:Int),good 256 l→(0<l.length→b≤(l.getD 0 (0,0)).1)→gf b l
 | [],_,_,_=>trivial
 |s::r,b,h,hb=>by
  obtain⟨_,h2,h3,_⟩:=h 0 (by simp)
  have h2':s.1≤s.2:=h2
  have h3':s.2<256:=h3
  refine⟨hb (by simp),h2',by omega,good_gf r _ (fun j hj =>?_) (fun h0 =>?_)⟩
  ·obtain⟨q1,q2,q3,q4⟩:=h (j+1) (by simp;omega)
   refine⟨q1,q2,q3,fun hp =>?_⟩
   have q5:=q4 (by omega)
   cases j with
   |zero=>omega
   |succ m=>exact q5
  ·obtain⟨_,_,_,q4⟩:=h 1 (by simp;omega)
   have q5:s.2+1<(r.getD 0 (0,0)).1:=q4 (by omega)
   omega
theorem gf_from:∀(l:List (Int × Int)) (b:Int),gf b l→∀o:Nat,inL l o=true→b≤(o:Int)
 | [],_,_,o,h=>by simp[inL]at h
 |s::r,b,h,o,ho=>by
  obtain⟨h1,h2,h3,h4⟩:=h
  rw[inL_cons,Bool.or_eq_true,decide_eq_true_eq]at ho
  rcases ho with ho|ho
  ·omega
  ·have:=gf_from r _ h4 o ho
   omega
theorem gf_uniq:∀(l r:List (Int × Int)) (b:Int),0≤b→gf b l→gf b r→(∀o:Nat,o<256→inL l o=inL r o)→l=r
 | [],[],_,_,_,_,_=>rfl
 | [],t::r,b,hb,_,h,he=>by
  obtain⟨h1,h2,h3,_⟩:=h
  have:=he t.1.toNat (by omega)
  rw[inL_cons,decide_eq_true (by omega)]at this
  simp[inL]at this
 |s::l,[],b,hb,h,_,he=>by
  obtain⟨h1,h2,h3,_⟩:=h
  have:=he s.1.toNat (by omega)
  rw[inL_cons,decide_eq_true (by omega)]at this
  simp[inL]at this
 |s::l,t::r,b,hb,hl,hr,he=>by
  obtain⟨a1,a2,a3,a4⟩:=hl
  obtain⟨c1,c2,c3,c4⟩:=hr
  have e1:s.1≤t.1:=by
   have h:=he t.1.toNat (by omega)
   rw[inL_cons t,decide_eq_true (p:=t.1≤((t.1.toNat:Nat):Int)∧((t.1.toNat:Nat):Int)≤t.2) (by omega),Bool.true_or]at h
   have:=gf_from (s::l) s.1 ⟨Int.le_refl _,a2,a3,a4⟩ _ h
   omega
  have e2:t.1≤s.1:=by
   have h:=he s.1.toNat (by omega)
   rw[inL_cons s,decide_eq_true (p:=s.1≤((s.1.toNat:Nat):Int)∧((s.1.toNat:Nat):Int)≤s.2) (by omega),Bool.true_or]at h
   have:=gf_from (t::r) t.1 ⟨Int.le_refl _,c2,c3,c4⟩ _ h.symm
   omega
  have e3:¬s.2<t.2:=fun hlt=>by
   have h:=he (s.2+1).toNat (by omega)
   rw[inL_cons t,decide_eq_true (p:=t.1≤(((s.2+1).toNat:Nat):Int)∧(((s.2+1).toNat:Nat):Int)≤t.2) (by omega),Bool.true_or,inL_cons,Bool.or_eq_true,decide_eq_true_eq]at h
   rcases h with h|h
   ·omega
   ·have:=gf_from l _ a4 _ h
    omega
  have e4:¬t.2<s.2:=fun hlt=>by
   have h:=he (t.2+1).toNat (by omega)
   rw[inL_cons s,decide_eq_true (p:=s.1≤(((t.2+1).toNat:Nat):Int)∧(((t.2+1).toNat:Nat):Int)≤s.2) (by omega),Bool.true_or]at h
   have h:=h.symm
   rw[inL_cons,Bool.or_eq_true,decide_eq_true_eq]at h
   rcases h with h|h
   ·omega
   ·have:=gf_from r _ c4 _ h
    omega
  have e5:s=t:=Prod.ext (by omega) (by omega)
  subst e5
  have e6:=gf_uniq l r (s.2+2) (by omega) a4 c4 (fun o ho=>by
   have h:=he o ho
   rw[inL_cons,inL_cons]at h
   cases hd:decide (s.1≤(o:Int)∧(o:Int)≤s.2) with
   |false=>rw[hd,Bool.false_or,Bool.false_or]at h;exact h
   |true=>
    have hd:=of_decide_eq_true hd
    have n1:inL l o=false:=by
     cases hq:inL l o with
     |false=>rfl
     |true=>have:=gf_from l _ a4 _ hq;omega
    have n2:inL r o=false:=by
     cases hq:inL r o with
     |false=>rfl
     |true=>have:=gf_from r _ c4 _ hq;omega
    rw[n1,n2])
  rw[e6]
theorem good_uniq{l r:List (Int × Int)}(hl:good 256 l)(hr:good 256 r)(h:∀o:Nat,o<256→inL l o=inL r o):l=r:=
 gf_uniq l r 0 (Int.le_refl _) (good_gf l 0 hl (fun h0=>(hl 0 h0).1)) (good_gf r 0 hr (fun h0=>(hr 0 h0).1)) h
theorem good_lo{b:Int}{l:List (Int × Int)}(h:good b l):∀j,j<l.length→2*(j:Int)≤(l.getD j (0,0)).1
 |0,hj=>(h 0 hj).1
 |j+1,hj=>by
  have h1:=good_lo h j (by omega)
  have h2:=(h j (by omega)).2.1
  have h3:(l.getD j (0,0)).2+1<(l.getD (j+1) (0,0)).1:=(h (j+1) hj).2.2.2 (by omega)
  omega
theorem good_len{l:List (Int × Int)}(h:good 256 l):l.length≤128:=by
 rcases Nat.lt_or_ge 128 l.length with hlt|hge
 ·have h1:=good_lo h 128 hlt
  obtain⟨_,h2,h3,_⟩:=h 128 hlt
  omega
 ·exact hge
theorem ofL_len(f:Nat→Bool):(ofL f).length≤128:=good_len (good_ofL f)
theorem ofL_self{l:List (Int × Int)}(h:good 256 l):ofL (inL l)=l:=good_uniq (good_ofL _) h fun o ho=>inL_ofL _ o ho
def fmd(l:List (Int × Int)):Bool:=decide (l.length≤128∧l=ofL (inL l))
theorem fmd_iff(l:List (Int × Int)):fmd l=true↔good 256 l:=by
 unfold fmd
 rw[decide_eq_true_eq]
 constructor
 ·rintro ⟨_,h⟩
  rw[h]
  exact good_ofL _
 ·intro h
  exact⟨good_len h,(ofL_self h).symm⟩
theorem two(b:Bool):b=true∨b=false:=by cases b<;>simp
def tot(ls:List (List (Int × Int))):Nat:=(ls.map List.length).sum
theorem tot_one(l:List (Int × Int)):tot [l]=l.length:=by simp[tot]
end Sp
end Go.Proofs.YtjlfehpockfkdaaGreat
namespace Go.Proofs.YtjlfehpockfkdaaGreat
open Go.RowKit
abbrev Wr:=Int × Int × Int × Bool
namespace Nt
def wrCell(x:Wr):List Value:=[.int .i64 x.1,.int .i64 x.2.1,.int .i64 x.2.2.1,.bool x.2.2.2]
def wrCells(l:List Wr):List Value:=l.flatMap wrCell
theorem wrCells_length(l:List Wr):(wrCells l).length=l.length*4:=by
 induction l with
 |nil=>rfl
 |cons x r ih=>
  unfold wrCells at *
  rw[List.flatMap_cons,List.length_append,ih]
  simp[wrCell]
  omega
theorem wrCells_one(l:List Wr):∀u∈wrCells l,u.oneCell'=true:=by
 intro u hu
 obtain⟨x,_,hx⟩:=List.mem_flatMap.1 hu
 simp[wrCell]at hx
 rcases hx with rfl|rfl|rfl|rfl<;>rfl
theorem wrCells_append(l r:List Wr):wrCells (l++r)=wrCells l++wrCells r:=by unfold wrCells;rw[List.flatMap_append]
theorem wrCells_nil{l:List Wr}:wrCells l=[]↔l=[]:=by cases l<;>simp[wrCells,wrCell]
def zeroW:Wr:=(0,0,0,false)
theorem wrCells_get(l:List Wr):∀k,k<l.length→(wrCells l)[k*4]?=some (.int .i64 (l.getD k zeroW).1)∧(wrCells l)[k*4+1]?=some (.int .i64 (l.getD k zeroW).2.1)∧(wrCells l)[k*4+2]?=some (.int .i64 (l.getD k zeroW).2.2.1)∧(wrCells l)[k*4+3]?=some (.bool (l.getD k zeroW).2.2.2):=by
 induction l with
 |nil=>intro k hk;simp at hk
 |cons x r ih=>
  intro k hk
  have e:wrCells (x::r)=wrCell x++wrCells r:=rfl
  rw[e]
  cases k with
  |zero=>exact⟨rfl,rfl,rfl,rfl⟩
  |succ m=>
   obtain⟨h1,h2,h3,h4⟩:=ih m (by simpa using hk)
   have hl:(wrCell x).length=4:=rfl
   have sh:∀j,(wrCell x++wrCells r)[(m+1)*4+j]?=(wrCells r)[m*4+j]?:=fun j=>by
    rw[List.getElem?_append_right (by omega),hl]
    congr 1
    omega
   refine⟨(sh 0).trans h1,(sh 1).trans h2,(sh 2).trans h3,(sh 3).trans h4⟩
end Nt
def OneW(w:World)(A:Option Addr)(c:Nat)(l:List Wr):Prop:=l.length≤c∧c≤maxLen∧(A=none→l.length=0∧c=0)∧Lies w A (Nt.wrCells l)
section
variable {w w':World} {A:Option Addr} {c:Nat} {l:List Wr}
theorem OneW.later(h:OneW w A c l)(hb:Below w.heap.size w w'):OneW w' A c l:=⟨h.1,h.2.1,h.2.2.1,h.2.2.2.later hb⟩
theorem OneW.len(h:OneW w A c l):l.length≤9223372036854775807:=by
 have h1:=h.1
 have h2:=h.2.1
 unfold maxLen at h2
 omega
theorem OneW.nil:OneW w none 0 []:=⟨Nat.le_refl _,Nat.zero_le _,fun _=>⟨rfl,rfl⟩,Lies.nil⟩
theorem OneW.of_own{base:Nat}{e:TypeId}{v:Value}(h:w.ownsRow base e 4 v l.length (Nt.wrCells l)):∃A c,v = .slice A l.length c∧OneW w A c l:=by
 obtain⟨A,c,h1,h2,h3,h4,h5⟩:=own_form h
 exact⟨A,c,h1,h2,h3,h4,h5⟩
theorem OneW.at(h:OneW w A c l)(hne:l≠[]):∃b off,A=some ⟨b,off,none⟩∧∀k,k<l.length→w.cell? ⟨b,off+k*4,none⟩=some (.int .i64 (l.getD k Nt.zeroW).1)∧w.cell? ⟨b,off+k*4+1,none⟩=some (.int .i64 (l.getD k Nt.zeroW).2.1) ∧
  w.cell? ⟨b,off+k*4+2,none⟩=some (.int .i64 (l.getD k Nt.zeroW).2.2.1)∧w.cell? ⟨b,off+k*4+3,none⟩=some (.bool (l.getD k Nt.zeroW).2.2.2):=by
 obtain⟨b,off,hA,hc⟩:=h.2.2.2 (fun e=>hne (Nt.wrCells_nil.1 e))
 refine⟨b,off,hA,fun k hk =>?_⟩
 obtain⟨h1,h2,h3,h4⟩:=Nt.wrCells_get l k hk
 exact⟨hc _ _ h1,(Nat.add_assoc off (k*4) 1) ▸ hc _ _ h2,(Nat.add_assoc off (k*4) 2) ▸ hc _ _ h3,(Nat.add_assoc off (k*4) 3) ▸ hc _ _ h4⟩
end
structure Note where
 s:List (Int × Int)
 e:List (Int × Int)
 b:List (Int × Int)
 ws:List Wr
structure NoteAt (w:World) (S E B V:Option Addr) (cs ce cb cv:Nat) (n:Note):Prop where
 hs:OneL w S cs n.s
 he:OneL w E ce n.e
 hb:OneL w B cb n.b
 hv:OneW w V cv n.ws
theorem NoteAt.later{w w':World}{S E B V:Option Addr}{cs ce cb cv:Nat}{n:Note}(h:NoteAt w S E B V cs ce cb cv n)(hb:Below w.heap.size w w'):NoteAt w' S E B V cs ce cb cv n:=⟨h.hs.later hb,h.he.later hb,h.hb.later hb,h.hv.later hb⟩
def noteCells(S E B V:Option Addr)(cs ce cb cv:Nat)(n:Note):Array Value:=#[.slice S n.s.length cs,.slice E n.e.length ce,.slice B n.b.length cb,.slice V n.ws.length cv]
theorem stCells_flat'(l:List (Int × Int)):l.flatMap (fun s=>[Value.int .i64 s.1,Value.int .i64 s.2])=stCells l:=by
 induction l with
 |nil=>rfl
 |cons s r ih=>rw[List.flatMap_cons,ih];rfl
def isSl:Value→Bool
 | .slice .. => true
 |_=>false
theorem stCells_noSl(l:List (Int × Int)):∀u∈stCells l,isSl u=false:=by
 intro u hu
 rw[←stCells_flat']at hu
 obtain⟨x,_,hx⟩:=List.mem_flatMap.1 hu
 simp at hx
 rcases hx with rfl|rfl<;>rfl
theorem wrCells_noSl(l:List Wr):∀u∈Nt.wrCells l,isSl u=false:=by
 intro u hu
 obtain⟨x,_,hx⟩:=List.mem_flatMap.1 hu
 simp[Nt.wrCell]at hx
 rcases hx with rfl|rfl|rfl|rfl<;>rfl
theorem Lies.slPut{w:World}{A:Option Addr}{xs:List Value}(h:Lies w A xs)(hx:∀u∈xs,isSl u=false){g:Nat}{t:TypeId}{cs:Array Value}(hB:Blk w g t cs)(hc:∀u∈cs.toList,isSl u=true)(i:Nat)(x:Value):Lies (w.setCell ⟨g,i,none⟩ x) A xs:=fun hne=>by
 obtain⟨b,off,hA,hl⟩:=h hne
 refine⟨b,off,hA,fun j u hu =>?_⟩
 have h1:=hl j u hu
 have hbg:b≠g:=fun e=>by
  subst e
  rw[cell_of_row w b (off+j) cs t (0,0) hB]at h1
  have h2:=hc u (Array.mem_toList_iff.2 (Array.mem_of_getElem? h1))
  rw[hx u (List.mem_of_getElem? hu)]at h2
  cases h2
 exact(World.cell?_of_block (Below.heap_setCell w ⟨g,i,none⟩ x b hbg)).trans h1
theorem OneL.slPut{w:World}{A:Option Addr}{c:Nat}{l:List (Int × Int)}(h:OneL w A c l){g:Nat}{t:TypeId}{cs:Array Value}(hB:Blk w g t cs)(hc:∀u∈cs.toList,isSl u=true)(i:Nat)(x:Value):OneL (w.setCell ⟨g,i,none⟩ x) A c l:=⟨h.1,h.2.1,h.2.2.1,h.2.2.2.slPut (stCells_noSl l) hB hc i x⟩
theorem OneW.slPut{w:World}{A:Option Addr}{c:Nat}{l:List Wr}(h:OneW w A c l){g:Nat}{t:TypeId}{cs:Array Value}(hB:Blk w g t cs)(hc:∀u∈cs.toList,isSl u=true)(i:Nat)(x:Value):OneW (w.setCell ⟨g,i,none⟩ x) A c l:=⟨h.1,h.2.1,h.2.2.1,h.2.2.2.slPut (wrCells_noSl l) hB hc i x⟩
theorem NoteAt.slPut{w:World}{S E B V:Option Addr}{cs ce cb cv:Nat}{n:Note}(h:NoteAt w S E B V cs ce cb cv n){g:Nat}{t:TypeId}{ds:Array Value}(hB:Blk w g t ds)(hc:∀u∈ds.toList,isSl u=true)(i:Nat)(x:Value):NoteAt (w.setCell ⟨g,i,none⟩ x) S E B V cs ce cb cv n:=
 ⟨h.hs.slPut hB hc i x,h.he.slPut hB hc i x,h.hb.slPut hB hc i x,h.hv.slPut hB hc i x⟩
theorem NoteAt.puts{w:World}{S E B V:Option Addr}{cs ce cb cv:Nat}{n:Note}(h:NoteAt w S E B V cs ce cb cv n){g:Nat}{t:TypeId}{y0 y1 y2 y3:Value}(hB:Blk w g t #[y0,y1,y2,y3])(hy:isSl y0=true∧isSl y1=true∧isSl y2=true∧isSl y3=true)(x0 x1 x2 x3:Value)(hx:isSl x0=true∧isSl x1=true∧isSl x2=true) :
  NoteAt ((((w.setCell ⟨g,0,none⟩ x0).setCell ⟨g,1,none⟩ x1).setCell ⟨g,2,none⟩ x2).setCell ⟨g,3,none⟩ x3) S E B V cs ce cb cv n:=by
 have B1:Blk (w.setCell ⟨g,0,none⟩ x0) g t #[x0,y1,y2,y3]:=hB.put 0 x0
 have B2:Blk ((w.setCell ⟨g,0,none⟩ x0).setCell ⟨g,1,none⟩ x1) g t #[x0,x1,y2,y3]:=B1.put 1 x1
 have B3:Blk (((w.setCell ⟨g,0,none⟩ x0).setCell ⟨g,1,none⟩ x1).setCell ⟨g,2,none⟩ x2) g t #[x0,x1,x2,y3]:=B2.put 2 x2
 obtain⟨e0,e1,e2,e3⟩:=hy
 obtain⟨f0,f1,f2⟩:=hx
 refine(((h.slPut hB ?_ 0 x0).slPut B1 ?_ 1 x1).slPut B2 ?_ 2 x2).slPut B3 ?_ 3 x3
 all_goals
  intro u hu
  simp at hu
  rcases hu with rfl|rfl|rfl|rfl<;>assumption
def upd(v:Nat→Value)(i:Nat)(x:Value):Nat→Value:=fun j=>if j=i then x else v j
theorem upd_same(v:Nat→Value)(i:Nat)(x:Value):upd v i x i=x:=if_pos rfl
theorem upd_other(v:Nat→Value)(i:Nat)(x:Value){j:Nat}(h:j≠i):upd v i x j=v j:=if_neg h
def deps(md:Region.Mode)(ops:Array Oper)(i:Nat):List Nat:=((ops[i]?).map fun o=>(o.after.toList.filter fun e=>Region.binds md e).map (·.on)).getD []
def headListed(size n:Nat):Array Bool:=((List.range size).map fun i=>decide (i<n)).toArray
def factsB(md:Region.Mode)(ops:Array Oper)(n:Nat):Bool:=
 decide (n<ops.size)&&Region.sinkB md ops n&&Region.chainB md ops n&&((List.range ops.size).all fun i=>(deps md ops i).all fun j=>decide (j<i))&&Region.seqB md ops (ops.size-n) n (headListed ops.size n)
def cntTo(listed:Array Bool):Nat→Nat
 |0=>0
 |k+1=>cntTo listed k+(if listed.getD k true=false then 1 else 0)
theorem cntTo_set_ge(listed:Array Bool)(j:Nat):∀k,k≤j→cntTo (listed.setIfInBounds j true) k=cntTo listed k
 |0,_=>rfl
 |k+1,h=>by
  rw[cntTo,cntTo,cntTo_set_ge listed j k (by omega),getD_set_ne true (by omega)]
theorem cntTo_set(listed:Array Bool)(j:Nat)(hj:listed.getD j true=false):∀k,j<k→cntTo (listed.setIfInBounds j true) k+1=cntTo listed k
 |0,h=>by omega
 |k+1,h=>by
  by_cases e:j=k
  ·subst e
   have hs:(listed.setIfInBounds j true).getD j true=true:=by
    rcases Nat.lt_or_ge j listed.size with h'|h'
    ·simp[h']
    ·simp[Array.getElem?_eq_none h']at hj
   rw[cntTo,cntTo,cntTo_set_ge listed j j (Nat.le_refl _),hs,hj]
   simp
  ·have:=cntTo_set listed j hj k (by omega)
   rw[cntTo,cntTo,getD_set_ne true e]
   omega
theorem cntTo_zero(listed:Array Bool):∀k,cntTo listed k=0→∀i,i<k→listed.getD i true=true
 |0,_,i,hi=>by omega
 |k+1,h,i,hi=>by
  rw[cntTo]at h
  by_cases e:i=k
  ·subst e
   cases hl:listed.getD i true with
   |true=>rfl
   |false=>rw[hl]at h;simp at h
  ·exact cntTo_zero listed k (by omega) i (by omega)
theorem cntTo_pos(listed:Array Bool):∀k,0<cntTo listed k→∃i,i<k∧listed.getD i true=false∧∀j,j<i→listed.getD j true=true
 |0,h=>by simp[cntTo]at h
 |k+1,h=>by
  by_cases h0:0<cntTo listed k
  ·obtain⟨i,h1,h2,h3⟩:=cntTo_pos listed k h0
   exact⟨i,by omega,h2,h3⟩
  ·rw[cntTo]at h
   refine⟨k,by omega,?_,cntTo_zero listed k (by omega)⟩
   cases hl:listed.getD k true with
   |false=>rfl
   |true=>rw[hl]at h;simp at h;omega
theorem cntTo_none(size:Nat):∀k,k≤size→cntTo (Array.replicate size false) k=k
 |0,_=>rfl
 |k+1,h=>by
  rw[cntTo,cntTo_none size k (by omega)]
  have:(Array.replicate size false).getD k true=false:=by simp[show k<size from h]
  rw[this]
  simp
section
variable {P:Program} {ops:Array Oper} {md:Region.Mode} {Q:Exit→Act→World→Prop}
theorem wpAny_facts{n:Nat}(hB:factsB md ops n=true)(T:(Nat→Value)→Act)(Ψ:Nat→Value→World→Prop)(R:Nat→Nat→Value→Value→Prop)(Rel:World→World→Prop)(trans:∀{w1 w2 w3},Rel w1 w2→Rel w2 w3→Rel w1 w3)(W0:World)
  (stab:∀i x w w',Ψ i x w→Rel w w'→Ψ i x w')
  (step:∀i,i<n→∀v w,Rel W0 w→(∀j∈deps md ops i,Ψ j (v j) w)→wpOp P ops Q i (fun a' w'=>∃x,a'=T (upd v i x)∧Rel w w'∧Ψ i x w'∧∀j y,j≠i→Ψ j y w→R i j x y∧R j i y x) (T v) w)
  (done:∀v w,Rel W0 w→(∀i,i<n→Ψ i (v i) w)→(∀i j,i<n→j<n→i≠j→R i j (v i) (v j))→wpList P ops Q (ops.toList.drop n) (T v) w) :
  ∀(f:Nat) (listed:Array Bool) (v:Nat→Value) (w:World),HeadInv md ops n listed→cntTo listed n=f→Rel W0 w→(∀i,i<n→listed.getD i true=true→Ψ i (v i) w)→(∀i j,i<n→j<n→i≠j→listed.getD i true=true→listed.getD j true=true→R i j (v i) (v j))→wpAny P md ops Q (f+(ops.size-n)) listed (T v) w:=by
 simp only[factsB,Bool.and_eq_true,decide_eq_true_eq]at hB
 obtain⟨⟨⟨⟨hn,hs⟩,hc⟩,hd⟩,hq⟩:=hB
 intro f
 induction f with
 |zero=>
  intro listed v w inv hcnt hb hfacts hrel
  have hall:=cntTo_zero listed n hcnt
  have he:listed=headListed ops.size n:=by
   apply Array.ext
   ·rw[inv.size];simp[headListed]
   ·intro i h1 h2
    have hi:i<ops.size:=by rw[←inv.size];exact h1
    have e2:(headListed ops.size n)[i]=decide (i<n):=by simp[headListed]
    rw[e2]
    by_cases hin:i<n
    ·have:=hall i hin
     simp[h1]at this
     rw[this,decide_eq_true hin]
    ·have:=inv.tail i (by omega) hi
     simp[h1]at this
     rw[this,decide_eq_false hin]
  rw[Nat.zero_add]
  have hl:(ops.toList.drop n).length=ops.size-n:=by simp
  rw[←hl]
  refine wpAny_of_seq (ops.toList.drop n) n listed _ w (fun j=>by simp) ?_ (done v w hb (fun i hi=>hfacts i hi (hall i hi)) (fun i j hi hj hne=>hrel i j hi hj hne (hall i hi) (hall j hj)))
  rw[hl,he]
  exact hq
 |succ f ih=>
  intro listed v w inv hcnt hb hfacts hrel
  obtain⟨m,hm1,hm2,hm3⟩:=cntTo_pos listed n (by omega)
  have hmr:m∈Region.ready md ops listed:=by
   have hms:m<ops.size:=by omega
   refine mem_ready.2 ⟨hm2,ops[m],Array.getElem?_eq_getElem hms,fun e he hbind =>?_⟩
   have h1:=List.all_eq_true.1 hd m (List.mem_range.2 hms)
   have h2:e.on∈deps md ops m:=by
    unfold deps
    rw[Array.getElem?_eq_getElem hms]
    exact List.mem_map.2 ⟨e,List.mem_filter.2 ⟨Array.mem_toList_iff.2 he,hbind⟩,rfl⟩
   have h3:=of_decide_eq_true (List.all_eq_true.1 h1 _ h2)
   have h4:=hm3 e.on h3
   have h5:e.on<listed.size:=by rw[inv.size];omega
   simp[h5]at h4 ⊢
   exact h4
  rw[show f+1+(ops.size-n)=(f+(ops.size-n))+1 from by omega]
  refine⟨fun h0=>(by rw[h0]at hmr;cases hmr),fun i hi =>?_⟩
  have hin:i<n:=by
   rcases Nat.lt_or_ge i n with h|h
   ·exact h
   ·exact absurd hi (tail_waits hs hc hn inv _ m rfl hm1 hm2 i h)
  obtain⟨hun,oi,hoi,hafter⟩:=mem_ready.1 hi
  refine wpOp_mono ?_ (step i hin v w hb ?_)
  ·rintro a' w' ⟨x,rfl,hb',hx,hrx⟩
   refine ih _ (upd v i x) w' (inv.set hi hin) (by have:=cntTo_set listed i hun n hin;omega) (trans hb hb') (fun j hj hl =>?_) (fun p q hp hq hpq hlp hlq =>?_)
   ·by_cases e:j=i
    ·subst e
     rw[upd_same]
     exact hx
    ·rw[upd_other v i x e]
     rw[getD_set_ne true (fun h=>e h.symm)]at hl
     exact stab j _ w w' (hfacts j hj hl) hb'
   ·by_cases ep:p=i
    ·subst ep
     rw[upd_same,upd_other v p x (fun h=>hpq h.symm)]
     rw[getD_set_ne true hpq]at hlq
     exact(hrx q _ (fun h=>hpq h.symm) (hfacts q hq hlq)).1
    ·rw[getD_set_ne true (fun h=>ep h.symm)]at hlp
     by_cases eq:q=i
     ·subst eq
      rw[upd_same,upd_other v q x ep]
      exact(hrx p _ ep (hfacts p hp hlp)).2
     ·rw[getD_set_ne true (fun h=>eq h.symm)]at hlq
      rw[upd_other v i x ep,upd_other v i x eq]
      exact hrel p q hp hq hpq hlp hlq
  ·intro j hj
   unfold deps at hj
   rw[hoi]at hj
   obtain⟨e,he,rfl⟩:=List.mem_map.1 hj
   obtain⟨he1,he2⟩:=List.mem_filter.1 he
   have h1:=hafter e (Array.mem_toList_iff.1 he1) he2
   have h2:e.on<listed.size:=by
    rcases Nat.lt_or_ge e.on listed.size with h'|h'
    ·exact h'
    ·simp[Array.getElem?_eq_none h']at h1
   have h3:listed.getD e.on true=true:=by simp[h2]at h1 ⊢;exact h1
   have h4:e.on<n:=by
    rcases Nat.lt_or_ge e.on n with h'|h'
    ·exact h'
    ·have:=inv.tail e.on h' (by rw[←inv.size];exact h2)
     rw[h3]at this
     cases this
   exact hfacts e.on h4 h3
theorem wp_region_facts2{id:Nat}{l:List Oper}{w:World}(n:Nat)(hm:P.follows .mixedOrders=true)(hB:factsB .any l.toArray n=true)(T:(Nat→Value)→Act)(v0:Nat→Value)(Ψ:Nat→Value→World→Prop)(R:Nat→Nat→Value→Value→Prop)(Rel:World→World→Prop)(trans:∀{w1 w2 w3},Rel w1 w2→Rel w2 w3→Rel w1 w3)(hself:∀w,Rel w w)(hdrew:Rel w w.drew)
  (stab:∀i x w w',Ψ i x w→Rel w w'→Ψ i x w')
  (step:∀i,i<n→∀v w',Rel w w'→(∀j∈deps .any l.toArray i,Ψ j (v j) w')→wpOp P l.toArray Q i (fun a' w''=>∃x,a'=T (upd v i x)∧Rel w' w''∧Ψ i x w''∧∀j y,j≠i→Ψ j y w'→R i j x y∧R j i y x) (T v) w')
  (done:∀v w',Rel w w'→(∀i,i<n→Ψ i (v i) w')→(∀i j,i<n→j<n→i≠j→R i j (v i) (v j))→wpList P l.toArray Q (l.drop n) (T v) w') :
  (Code.region id l.toArray true).wp P Q (T v0) w:=by
 refine wp_region_any hm ?_
 have hn:n<l.toArray.size:=by
  simp only[factsB,Bool.and_eq_true,decide_eq_true_eq]at hB
  exact hB.1.1.1.1
 have hw:∀w',Rel { w with drawn:=w.drawn+1 } w'→Rel w w':=fun w' h=>trans hdrew h
 have h:=wpAny_facts hB T Ψ R Rel trans { w with drawn:=w.drawn+1 } stab (fun i hi v w' hb hd=>step i hi v w' (hw w' hb) hd) (fun v w' hb hf hr=>done v w' (hw w' hb) hf hr)
  n (Array.replicate l.toArray.size false) v0 { w with drawn:=w.drawn+1 }
  ⟨by simp,fun j oj hj hl=>(by rw[getD_replicate_false]at hl;cases hl),fun t ht ht'=>(by rw[Array.getD_eq_getD_getElem?,Array.getElem?_replicate,if_pos ht'];rfl)⟩ (cntTo_none _ n (by omega)) (hself _) (fun i hi hl=>by
   rw[Array.getD_eq_getD_getElem?,Array.getElem?_replicate,if_pos (by omega)]at hl
   cases hl) (fun i j hi hj _ hl _=>by
   rw[Array.getD_eq_getD_getElem?,Array.getElem?_replicate,if_pos (by omega)]at hl
   cases hl)
 rw[show n+(l.toArray.size-n)=l.toArray.size from by omega]at h
 exact h
theorem wp_region_facts{id:Nat}{l:List Oper}{w:World}(n:Nat)(hm:P.follows .mixedOrders=true)(hB:factsB .any l.toArray n=true)(T:(Nat→Value)→Act)(v0:Nat→Value)(Ψ:Nat→Value→World→Prop)(Rel:World→World→Prop)(trans:∀{w1 w2 w3},Rel w1 w2→Rel w2 w3→Rel w1 w3)(hself:∀w,Rel w w)(hdrew:Rel w w.drew)
  (stab:∀i x w w',Ψ i x w→Rel w w'→Ψ i x w')
  (step:∀i,i<n→∀v w',Rel w w'→(∀j∈deps .any l.toArray i,Ψ j (v j) w')→wpOp P l.toArray Q i (fun a' w''=>∃x,a'=T (upd v i x)∧Rel w' w''∧Ψ i x w'') (T v) w')
  (done:∀v w',Rel w w'→(∀i,i<n→Ψ i (v i) w')→wpList P l.toArray Q (l.drop n) (T v) w') :
  (Code.region id l.toArray true).wp P Q (T v0) w:=
 wp_region_facts2 n hm hB T v0 Ψ (fun _ _ _ _=>True) Rel trans hself hdrew stab
  (fun i hi v w' hb hd=>wpOp_mono (fun _ _ ⟨x,h1,h2,h3⟩=>⟨x,h1,h2,h3,fun _ _ _ _=>⟨trivial,trivial⟩⟩) (step i hi v w' hb hd))
  (fun v w' hb hf _=>done v w' hb hf)
theorem wpOp_one{i:Nat}{o:Oper}{K:Act→World→Prop}{a:Act}{w:World}(ho:ops[i]?=some o)(h:wpList P ops (Exit.then K Q) [o] a w):wpOp P ops Q i K a w:=by
 unfold wpOp
 rw[ho]
 unfold wpList at h
 simp only
 split
 ·rename_i hw
  rw[if_pos hw]at h
  rcases h with h|⟨h1,h2⟩
  ·left
   unfold Oper.wp at *
   generalize (execOp a.eval o).run P w=r at *
   cases r with
   |ok nx w'=>cases nx<;>simp only[Oper.upon]at h ⊢<;>first|exact h|(refine h.mono ?_;intro e w'' hq;cases e<;>exact hq)
   |halt x w'=>cases x<;>simp only[Oper.upon]at h ⊢<;>exact h
  ·exact .inr ⟨h1,h2⟩
 ·rename_i hw
  rw[if_neg hw]at h
  exact h
end
theorem run_append_fresh{P:Program}(w:World)(base g:Nat)(t ty e:TypeId)(i:TypeInfo)(z:Value)(size bytes:Nat)(ht:P.underlying t=some (.slice e))(hi:P.info? e=some i)(hz:i.zero=some z)
  (hsize:i.size=size)(hby:i.bytes=bytes)(hzs:z.cells.size=size)(hsz:0<size)(hg:Blk w g e #[])(hbg:base≤g)
  (A:Option Addr)(m c:Nat)(hA:A=none→m=0∧c=0)(news:List Value)(hl:news.length=m*size)(hr:Lies w A news)(h1:∀u∈news,u.oneCell'=true)
  (h63:m≤maxLen)(hbytes:m*bytes≤140737488355328) :
  ∃v' w',(Builtin.append_ #[t,t] ty #[.slice (some ⟨g,0,none⟩) 0 0,.slice A m c]).run P w = .ok v' w'∧w'.ownsRow base e size v' m news∧Below w.heap.size w w':=by
 have hown:w.ownsRow base e size (.slice (some ⟨g,0,none⟩) 0 0) 0 []:=⟨by simp,.inr ⟨g,0,#[],rfl,hbg,hg,Nat.le_refl _,Nat.zero_le _,by simp,by simp⟩⟩
 have hglt:=hg.lt
 cases A with
 |none=>
  obtain⟨rfl,rfl⟩:=hA rfl
  have hn:news=[]:=List.eq_nil_of_length_eq_zero (by simpa using hl)
  subst hn
  exact⟨_,w,run_append_owned_none (P:=P) (w:=w) base t ty e i size ht hi _ 0 [] hown,hown,Below.refl _ _⟩
 |some ad=>
  have hcells:∀j u,news[j]?=some u→w.cell? (ad.add j)=some u:=by
   intro j u hu
   obtain⟨b,off,hab,hc⟩:=hr (fun h=>by subst h;simp at hu)
   injection hab with hab
   subst hab
   rw[Go.WideShapes.add_plain]
   exact hc j u hu
  subst hsize
  subst hby
  by_cases hm:m=0
  ·subst hm
   have hn:news=[]:=List.eq_nil_of_length_eq_zero (by simpa using hl)
   subst hn
   have hrun:=run_append_room (P:=P) w t ty e i ht hi g 0 0 #[] hg ad 0 c [] (by simp) hcells h1 (Nat.le_refl _) (by simp)
   refine⟨_,_,hrun,⟨by simp,.inr ⟨g,0,_,rfl,hbg,setRow_heap w g #[] _ e _ hg,Nat.le_refl _,Nat.zero_le _,by simp,by simp⟩⟩,?_⟩
   refine⟨rfl,rfl,rfl,by simp,fun k hk =>?_⟩
   by_cases hkg:k=g
   ·subst hkg
    rw[setRow_heap w k #[] _ e _ hg,hg]
    simp
   ·exact setRow_other w g k _ hkg
  ·have hge:=grownCap_ge w (0+m) 0 e
   have hcm:grownCap w (0+m) 0 e≤maxLen:=grownCap_le_maxLen w (0+m) 0 e (by omega)
   have hrun:=run_append_grow (P:=P) w t ty e i z ht hi hz ⟨g,0,none⟩ 0 0 [] (by simp) (fun j u hu=>by simp at hu) ad m c news hl hcells (by omega) (by unfold maxLen at h63;omega) (growslice_fits (by omega) (by rw[Nat.zero_add];exact hbytes))
   refine⟨_,_,hrun,⟨hl,.inr ⟨w.heap.size,_,_,by rw[Nat.zero_add],by omega,heap_alloc_new w.drew _,by rw[Nat.zero_add]at hge ⊢;exact hge,hcm,?_,?_⟩⟩,?_⟩
   ·simp only[Array.size_append,List.size_toArray,size_zeroCells,hzs,hl,←Nat.add_mul,List.length_nil,Nat.zero_add]
    congr 1
    rw[Nat.zero_add]at hge
    omega
   ·simp only[Array.toList_append,List.nil_append]
    rw[←hl]
    exact List.take_left
   ·exact(Below.drew (Below.refl _ _)).alloc (Nat.le_refl _) _
theorem wpList_append_fresh{P:Program}(w:World){ops:Array Oper}{rest:List Oper}{o:Oper}{a:Act}{Q:Exit→Act→World→Prop}(hgd:o.guard=none)(s x:Operand)(t:TypeId)
  (ho:o.op = .call { callee :=.builtin .append,args:=#[s,x],argTypes:=#[t,t] })
  (base g:Nat)(e:TypeId)(i:TypeInfo)(z:Value)(size bytes:Nat)(ht:P.underlying t=some (.slice e))(hi:P.info? e=some i)(hz:i.zero=some z)
  (hsize:i.size=size)(hby:i.bytes=bytes)(hzs:z.cells.size=size)(hsz:0<size)(hs:a.eval s = .slice (some ⟨g,0,none⟩) 0 0)(hg:Blk w g e #[])(hbg:base≤g)
  (A:Option Addr)(m c:Nat)(hA:A=none→m=0∧c=0)(news:List Value)(hx:a.eval x = .slice A m c)(hl:news.length=m*size)(hr:Lies w A news)(h1:∀u∈news,u.oneCell'=true)
  (h63:m≤maxLen)(hbytes:m*bytes≤140737488355328)
  (h:∀v' w',w'.ownsRow base e size v' m news→Below w.heap.size w w'→wpList P ops Q rest (a.put o.dst v') w') :
  wpList P ops Q (o::rest) a w:=by
 refine wpList_plain hgd fun K hK =>?_
 obtain⟨v',w',hrun,h2,h3⟩:=run_append_fresh (P:=P) w base g t o.type e i z size bytes ht hi hz hsize hby hzs hsz hg hbg A m c hA news hl hr h1 h63 hbytes
 unfold Oper.wp execOp
 simp only[ho,resolve,invoke,builtin,Sem.run_bind,Sem.run_pure,Result.andThen_ok,List.map_toArray,List.map_cons,List.map_nil,hs,hx,hrun]
 exact hK _ _ (h v' w' h2 h3)
end Go.Proofs.YtjlfehpockfkdaaGreat
namespace Go.Proofs.YtjlfehpockfkdaaGreat
open Fb
set_option maxRecDepth 100000 in
theorem marks_zero:Tryz.zeroCells138=Sp.arr (fun _=>false):=by rfl
@[simp] theorem marks_zeroV(w:World):(zeroValue 138).run Tryz.prog w = .ok (.agg Tryz.zeroCells138) w:=by kernel_rfl
@[simp] theorem marks_zero_size:Tryz.zeroCells138.size=256:=by rw[marks_zero,Sp.arr_size]
@[simp] theorem marks_zero_ne:¬Tryz.zeroCells138=#[]:=fun h=>by have h2:=marks_zero_size;rw[h]at h2;cases h2
set_option maxRecDepth 100000 in
theorem set_zero:Tryz.zeroCells178=Sp.arr (fun _=>false):=by rfl
@[simp] theorem set_zeroV(w:World):(zeroValue 178).run Tryz.prog w = .ok (.agg Tryz.zeroCells178) w:=by kernel_rfl
@[simp] theorem set_zero_size:Tryz.zeroCells178.size=256:=by rw[set_zero,Sp.arr_size]
@[simp] theorem set_zero_ne:¬Tryz.zeroCells178=#[]:=fun h=>by have h2:=set_zero_size;rw[h]at h2;cases h2
set_option maxRecDepth 100000 in
theorem change_zero:Tryz.zeroCells199=Sp.nar (fun _=>0):=by rfl
@[simp] theorem change_zeroV(w:World):(zeroValue 199).run Tryz.prog w = .ok (.agg Tryz.zeroCells199) w:=by kernel_rfl
@[simp] theorem change_zero_size:Tryz.zeroCells199.size=257:=by rw[change_zero,Sp.nar_size]
@[simp] theorem change_zero_ne:¬Tryz.zeroCells199=#[]:=fun h=>by have h2:=change_zero_size;rw[h]at h2;cases h2
end Go.Proofs.YtjlfehpockfkdaaGreat
namespace Go.Proofs.YtjlfehpockfkdaaGreat
open Go.RowKit
section
variable {w:World} {g:Nat} {t:TypeId} {f:Nat→Bool}
theorem Blk.marks_put(h:Blk w g t (Sp.arr f))(i:Nat)(hi:i<256)(x:Bool):Blk (w.setCell ⟨g,i,none⟩ (.bool x)) g t (Sp.arr fun j=>if j=i then x else f j):=by
 have h2:=h.put i (.bool x)
 rw[Sp.arr_set f i x hi]at h2
 exact h2
theorem Blk.marks_cell(h:Blk w g t (Sp.arr f))(i:Nat)(hi:i<256):w.cell? ⟨g,i,none⟩=some (.bool (f i)):=h.cell (Sp.arr_get f i hi)
theorem Blk.marks_same{f':Nat→Bool}(h:Blk w g t (Sp.arr f))(e:∀i,i<256→f i=f' i):Blk w g t (Sp.arr f'):=by rw[←Sp.arr_ext e];exact h
end
theorem one_marks(f:Nat→Bool):(Sp.arr f).all (·.oneCell')=true:=by
 rw[Array.all_eq_true_iff_forall_mem]
 intro x hx
 unfold Sp.arr at hx
 simp at hx
 obtain⟨i,_,rfl⟩:=hx
 rfl
section
variable {w:World} {base:Nat} {e:TypeId} {size n cap g:Nat} {xs:List Value}
theorem own_cell_at(h:w.ownsRow base e size (.slice (some ⟨g,0,none⟩) n cap) n xs){i:Nat}{u:Value}(hu:xs[i]?=some u):w.cell? ⟨g,i,none⟩=some u:=by
 rcases h.2 with ⟨h1,_⟩|⟨g',cap',cur,h1,_,hg,_,_,_,ht⟩
 ·cases h1
 ·injection h1 with h1 h2 h3
  injection h1 with h1
  injection h1 with h1
  subst h1
  rw[cell_of_row w g i cur e (0,0) hg,←Array.getElem?_toList]
  rw[←ht]at hu
  rw[List.getElem?_take]at hu
  split at hu
  ·exact hu
  ·cases hu
theorem own_free_at(h:w.ownsRow base e size (.slice (some ⟨g,0,none⟩) n cap) n xs)(i:Nat):w.frozen? ⟨g,i,none⟩=false:=by
 rcases h.2 with ⟨h1,_⟩|⟨g',cap',cur,h1,_,hg,_⟩
 ·cases h1
 ·injection h1 with h1 h2 h3
  injection h1 with h1
  injection h1 with h1
  subst h1
  exact Blk.free hg i
theorem own_base_le(h:w.ownsRow base e size (.slice (some ⟨g,0,none⟩) n cap) n xs):base≤g∧g<w.heap.size:=by
 rcases h.2 with ⟨h1,_⟩|⟨g',cap',cur,h1,hb,hg,_⟩
 ·cases h1
 ·injection h1 with h1 h2 h3
  injection h1 with h1
  injection h1 with h1
  subst h1
  exact⟨hb,Blk.lt hg⟩
theorem own_put(h:w.ownsRow base e size (.slice (some ⟨g,0,none⟩) n cap) n xs)(i:Nat)(u:Value):(w.setCell ⟨g,i,none⟩ u).ownsRow base e size (.slice (some ⟨g,0,none⟩) n cap) n (xs.set i u):=by
 refine⟨by rw[List.length_set];exact h.1,?_⟩
 rcases h.2 with ⟨h1,_⟩|⟨g',cap',cur,h1,hb,hg,h4,h5,h6,h7⟩
 ·cases h1
 ·injection h1 with h1 h2 h3
  injection h1 with h1
  injection h1 with h1
  subst h1 h3
  refine .inr ⟨g,cap,cur.setIfInBounds i u,rfl,hb,Blk.put hg i u,h4,h5,by rw[Array.size_setIfInBounds];exact h6,?_⟩
  rw[Array.toList_setIfInBounds,List.take_set,h7]
theorem own_len{v:Value}(h:w.ownsRow base e size v n xs)(hn:0<n):∃g cap,v = .slice (some ⟨g,0,none⟩) n cap:=by
 obtain⟨m,rfl⟩:∃m,n=m+1:=⟨n-1,by omega⟩
 exact ownsRow_succ h
end
theorem Blk.row{w:World}{g:Nat}{t:TypeId}{cs:Array Value}(h:Blk w g t cs)(cs':Array Value):Blk (w.setRow g cs') g t cs':=setRow_heap _ _ _ _ _ _ h
theorem Stamps.later{w w':World}{A:Option Addr}{l:List (Int × Int)}(h:Stamps w A l)(hb:Below w.heap.size w w'):Stamps w' A l:=fun hne=>by
 obtain⟨b,off,hA,hc⟩:=h hne
 exact⟨b,off,hA,fun k hk=>⟨cell_later hb (hc k hk).1,cell_later hb (hc k hk).2⟩⟩
theorem take_ext{l r:List (Int × Int)}(h:l.length=r.length)(hk:∀k,k<l.length→l.getD k (0,0)=r.getD k (0,0)):l=r:=by
 apply List.ext_getElem h
 intro i h1 h2
 have:=hk i h1
 rw[List.getD_eq_getElem?_getD,List.getD_eq_getElem?_getD,List.getElem?_eq_getElem h1,List.getElem?_eq_getElem h2]at this
 simpa using this
theorem infoSp:(Tryz.prog.info? 97).map (fun i=>(i.zero,i.size,i.bytes))=some (some (.agg #[.int .i64 0,.int .i64 0]),2,16):=by kernel_rfl
def GivesS(l:List (Int × Int))(w:World)(e:Ending)(w':World):Prop:=
 ∃v,e = .returned v∧w'.ownsRow w.heap.size 97 2 v l.length (stCells l)∧Below w.heap.size w w'
theorem reach_cells(l:List (Int × Int))(h:0<l.length)(x:Int):(stCells l).set ((l.length-1)*2+1) (.int .i64 x)=stCells (Sp.reach l x):=by
 have h1:stCells l=stCells l.dropLast++[.int .i64 (l.getD (l.length-1) (0,0)).1,.int .i64 (l.getD (l.length-1) (0,0)).2]:=by
  conv=>lhs;rw[Sp.split_last l h]
  rw[stCells_append]
  rfl
 have h2:(stCells l.dropLast).length=(l.length-1)*2:=by rw[stCells_length,List.length_dropLast]
 unfold Sp.reach
 rw[h1,stCells_append,←h2,List.set_append_right _ _ (by omega)]
 congr 1
 rw[show(stCells l.dropLast).length+1-(stCells l.dropLast).length=1 from by omega]
 rfl
def inOf(l:List (Int × Int))(o:Int):Bool:=decide (0≤o∧o≤255)&&Sp.inL l o.toNat
namespace Sp
def someOf(xs:List Int)(o:Nat):Bool:=xs.any fun x=>decide (x=(o:Int))
theorem someOf_take(xs:List Int)(k:Nat)(h:k<xs.length)(o:Nat):someOf (xs.take (k+1)) o=(someOf (xs.take k) o||decide (xs[k]=(o:Int))):=by
 unfold someOf
 rw[List.take_succ_eq_append_getElem h,List.any_append]
 simp
def anyTo(ls:List (List (Int × Int))):Nat→Nat→Bool
 |0,_=>false
 |k+1,o=>anyTo ls k o||inL (ls.getD k []) o
def joinS(ls:List (List (Int × Int))):List (Int × Int):=ofL (anyTo ls ls.length)
def meetS(l r:List (Int × Int)):List (Int × Int):=ofL fun o=>inL l o&&inL r o
end Sp
theorem Blk.arr_put{w:World}{g:Nat}{t:TypeId}{f:Nat→Int}(h:Blk w g t (Ve.arr f))(i:Nat)(hi:i<64)(x:Int):Blk (w.setCell ⟨g,i,none⟩ (.int .i64 x)) g t (Ve.arr fun j=>if j=i then x else f j):=by
 have h2:=h.put i (.int .i64 x)
 rw[Ve.arr_set f i x hi]at h2
 exact h2
theorem Blk.arr_cell{w:World}{g:Nat}{t:TypeId}{f:Nat→Int}(h:Blk w g t (Ve.arr f))(i:Nat)(hi:i<64):w.cell? ⟨g,i,none⟩=some (.int .i64 (f i)):=h.cell (Ve.arr_get f i hi)
theorem Blk.same{w:World}{g:Nat}{t:TypeId}{f f':Nat→Int}(h:Blk w g t (Ve.arr f))(e:∀i,i<64→f i=f' i):Blk w g t (Ve.arr f'):=by rw[←Ve.arr_ext e];exact h
theorem one_arr(f:Nat→Int):(Ve.arr f).all (·.oneCell')=true:=by
 rw[Array.all_eq_true_iff_forall_mem]
 intro x hx
 unfold Ve.arr at hx
 simp at hx
 obtain⟨i,_,rfl⟩:=hx
 rfl
theorem infoSt:(Tryz.prog.info? 46).map (fun i=>(i.zero,i.size,i.bytes))=some (some (.agg #[.int .i64 0,.int .i64 0]),2,16):=by kernel_rfl
def Gives(l:List (Int × Int))(w:World)(e:Ending)(w':World):Prop:=
 ∃v,e = .returned v∧w'.ownsRow w.heap.size 46 2 v l.length (stCells l)∧Below w.heap.size w w'
def countOf(l:List (Int × Int))(n:Int):Int:=if 0≤n∧n≤63 then Ve.cnt l n.toNat else 0
def hasOf(l:List (Int × Int))(c n:Int):Bool:=St.rgt c n&&decide (c≤countOf l n)
theorem Gives.one{l:List (Int × Int)}{w w':World}{e:Ending}(h:Gives l w e w'):∃A c,e = .returned (.slice A l.length c)∧OneL w' A c l∧Below w.heap.size w w':=by
 obtain⟨v,rfl,ho,hb⟩:=h
 obtain⟨A,c,rfl,h1⟩:=OneL.of_own ho
 exact⟨A,c,rfl,h1,hb⟩
theorem infoNt:(Tryz.prog.info? 40).map (·.size)=some 4:=by kernel_rfl
theorem infoWr:(Tryz.prog.info? 52).map (fun i=>(i.zero,i.size,i.bytes))=some (some (.agg #[.int .i64 0,.int .i64 0,.int .i64 0,.bool false]),4,32):=by kernel_rfl
theorem note_cells{w:World}{g:Nat}{t:TypeId}{S E B V:Option Addr}{cs ce cb cv:Nat}{n:Note}(h:Blk w g t (noteCells S E B V cs ce cb cv n)) :
 w.cell? ⟨g,0,none⟩=some (.slice S n.s.length cs)∧w.cell? ⟨g,1,none⟩=some (.slice E n.e.length ce)∧w.cell? ⟨g,2,none⟩=some (.slice B n.b.length cb)∧w.cell? ⟨g,3,none⟩=some (.slice V n.ws.length cv):=⟨h.cell rfl,h.cell rfl,h.cell rfl,h.cell rfl⟩
namespace Nt
def obj(l:List Wr)(k:Nat):Int:=(l.getD k zeroW).2.2.1
def wsTo(n:Note)(k:Nat):Prop:=∀j,j<k→hasOf n.e (n.ws.getD j zeroW).1 (n.ws.getD j zeroW).2.1=true∧(0≤obj n.ws j∧obj n.ws j≤255)∧inOf n.b (obj n.ws j)=false∧(0<j→obj n.ws (j-1)<obj n.ws j)
def wsOk(n:Note):Bool:=decide (∀j:Fin n.ws.length,hasOf n.e (n.ws.getD j.val zeroW).1 (n.ws.getD j.val zeroW).2.1=true∧(0≤obj n.ws j.val∧obj n.ws j.val≤255)∧inOf n.b (obj n.ws j.val)=false∧(0<j.val→obj n.ws (j.val-1)<obj n.ws j.val))
theorem wsOk_iff(n:Note):wsOk n=true↔wsTo n n.ws.length:=by
 unfold wsOk wsTo
 rw[decide_eq_true_iff]
 exact⟨fun h j hj=>h ⟨j,hj⟩,fun h j=>h j.val j.isLt⟩
theorem wsOk_no{n:Note}(k:Nat)(hk:k<n.ws.length)(h:¬(hasOf n.e (n.ws.getD k zeroW).1 (n.ws.getD k zeroW).2.1=true∧(0≤obj n.ws k∧obj n.ws k≤255)∧inOf n.b (obj n.ws k)=false∧(0<k→obj n.ws (k-1)<obj n.ws k))):wsOk n=false:=by
 cases hc:wsOk n with
 |false=>rfl
 |true=>exact absurd ((wsOk_iff n).1 hc k hk) h
def fmd(n:Note):Bool:=Ve.fmd n.s&&(Ve.fmd n.e&&(Ve.cov (Ve.cnt n.e) (Ve.cnt n.s)&&(Sp.fmd n.b&&wsOk n)))
end Nt
section
variable {P:Program}
theorem results_cell_tmp{fn:Func}{p t1:Tmp}{ty:TypeId}(h:fn.results=#[.cell p ty,.tmp t1])(tmps:Array Value)(w:World)(g:Nat)(t:TypeId)(cs:Array Value)(d:TypeDesc)
  (hp:tmps.getD p undef = .pointer (some ⟨g,0,none⟩))(hg:Blk w g t cs)(hu:P.underlying ty=some d)(hd:(match d with | .struct _ | .array _ _=>true|_=>false)=true)(hi:(P.info? ty).map (·.size)=some cs.size) :
  (results fn tmps).run P w = .ok (.tuple #[.agg cs,tmps.getD t1 undef]) w:=by
 have hp':tmps[p]?.getD undef = .pointer (some ⟨g,0,none⟩):=by simpa using hp
 simp[results,h,hp',asAddr,run_loadVar_row w g t ty cs (0,0) d hg hu hd hi]
end
namespace Nt
def wrV(x:Wr):Value :=.agg #[.int .i64 x.1,.int .i64 x.2.1,.int .i64 x.2.2.1,.bool x.2.2.2]
def wrArr(x:Wr):Array Value:=#[.int .i64 x.1,.int .i64 x.2.1,.int .i64 x.2.2.1,.bool x.2.2.2]
def at_(l:List Wr)(o:Int):Wr × Bool:=match l.find? (fun x=>decide (x.2.2.1=o)) with
 |some x=>(x,true)
 |none=>(zeroW,false)
end Nt
abbrev Zn:=Int × Int × List (Int × Int)
structure Zc where
 lo:Int
 hi:Int
 X:Option Addr
 c:Nat
 l:List (Int × Int)
def Zc.zn(z:Zc):Zn:=(z.lo,z.hi,z.l)
def zCells:List Zc→List Value
 | []=>[]
 |z::r =>.int .i64 z.lo :: .int .i64 z.hi :: .slice z.X z.l.length z.c::zCells r
theorem zCells_length(L:List Zc):(zCells L).length=L.length*3:=by
 induction L with
 |nil=>rfl
 |cons f r ih=>simp[zCells,ih];omega
theorem zCells_append(l r:List Zc):zCells (l++r)=zCells l++zCells r:=by
 induction l with
 |nil=>rfl
 |cons f l ih=>simp[zCells,ih]
theorem zCells_nil{L:List Zc}:zCells L=[]↔L=[]:=by cases L<;>simp[zCells]
theorem zCells_one(L:List Zc):∀u∈zCells L,u.oneCell'=true:=by
 induction L with
 |nil=>intro u hu;cases hu
 |cons f r ih=>
  intro u hu
  simp only[zCells,List.mem_cons]at hu
  rcases hu with rfl|rfl|rfl|hu
  ·rfl
  ·rfl
  ·rfl
  ·exact ih u hu
theorem zCells_get(L:List Zc):∀(k:Nat) (x:Zc),L[k]?=some x→(zCells L)[k*3]?=some (.int .i64 x.lo)∧(zCells L)[k*3+1]?=some (.int .i64 x.hi)∧(zCells L)[k*3+2]?=some (.slice x.X x.l.length x.c):=by
 induction L with
 |nil=>intro k x h;simp at h
 |cons f r ih=>
  intro k x h
  cases k with
  |zero=>
   simp at h
   subst h
   exact⟨rfl,rfl,rfl⟩
  |succ k=>
   have:=ih k x (by simpa using h)
   rw[show(k+1)*3=k*3+3 from by omega]
   simpa[zCells] using this
namespace Tr
def okAt(zs:List Zn)(j:Nat):Prop:=
 (0≤(zs.getD j (0,0,[])).1∧(zs.getD j (0,0,[])).1≤(zs.getD j (0,0,[])).2.1∧(zs.getD j (0,0,[])).2.1≤255)∧Ve.fmd (zs.getD j (0,0,[])).2.2=true ∧
  (0<j→(zs.getD (j-1) (0,0,[])).2.1<(zs.getD j (0,0,[])).1∧((zs.getD (j-1) (0,0,[])).2.1=(zs.getD j (0,0,[])).1-1→(zs.getD (j-1) (0,0,[])).2.2≠(zs.getD j (0,0,[])).2.2))
instance (zs:List Zn) (j:Nat):Decidable (okAt zs j):=by unfold okAt;infer_instance
def fmTo(zs:List Zn)(k:Nat):Prop:=∀j,j<k→okAt zs j
def fmd(zs:List Zn):Bool:=decide (∀j:Fin zs.length,okAt zs j.val)
theorem fmd_iff(zs:List Zn):fmd zs=true↔fmTo zs zs.length:=by
 unfold fmd fmTo
 rw[decide_eq_true_iff]
 exact⟨fun h n hn=>h ⟨n,hn⟩,fun h n=>h n.val n.isLt⟩
theorem fmd_no{zs:List Zn}(k:Nat)(hk:k<zs.length)(h:¬okAt zs k):fmd zs=false:=by
 cases hc:fmd zs with
 |false=>rfl
 |true=>exact absurd ((fmd_iff zs).1 hc k hk) h
def holds(z:Zn)(o:Int):Bool:=decide (z.1≤o∧o≤z.2.1)
def atI:List Zn→Int→Int
 | [],_=> -1
 |z::r,o=>if holds z o=true then 0 else (if atI r o = -1 then -1 else atI r o+1)
def at_(zs:List Zn)(o:Int):Option (List (Int × Int)):=(zs.find? fun z=>holds z o).map fun z=>z.2.2
theorem atI_cons(z:Zn)(r:List Zn)(o:Int):atI (z::r) o=if holds z o=true then 0 else (if atI r o = -1 then -1 else atI r o+1):=rfl
theorem at_cons(z:Zn)(r:List Zn)(o:Int):at_ (z::r) o=if holds z o=true then some z.2.2 else at_ r o:=by
 unfold at_
 rw[List.find?_cons]
 cases h:holds z o<;>simp
theorem at_ways(zs:List Zn)(o:Int):(atI zs o = -1∧at_ zs o=none∧∀j,j<zs.length→holds (zs.getD j (0,0,[])) o=false)∨(∃k:Nat,k<zs.length∧atI zs o=(k:Int)∧at_ zs o=some (zs.getD k (0,0,[])).2.2∧holds (zs.getD k (0,0,[])) o=true∧∀j,j<k→holds (zs.getD j (0,0,[])) o=false):=by
 induction zs with
 |nil=>exact .inl ⟨rfl,rfl,fun j hj=>by cases hj⟩
 |cons z r ih=>
  by_cases hz:holds z o=true
  ·refine .inr ⟨0,by simp,?_,?_,hz,fun j hj=>by cases hj⟩
   ·rw[atI_cons,if_pos hz];rfl
   ·rw[at_cons,if_pos hz];rfl
  ·have hz':holds z o=false:=by simpa using hz
   rcases ih with ⟨h1,h2,h3⟩|⟨k,h1,h2,h3,h4,h5⟩
   ·refine .inl ⟨?_,?_,fun j hj =>?_⟩
    ·rw[atI_cons,if_neg hz,if_pos h1]
    ·rw[at_cons,if_neg hz];exact h2
    ·cases j with
     |zero=>exact hz'
     |succ j=>exact h3 j (by simpa using hj)
   ·refine .inr ⟨k+1,by simpa using h1,?_,?_,h4,fun j hj =>?_⟩
    ·rw[atI_cons,if_neg hz,if_neg (by omega),h2];omega
    ·rw[at_cons,if_neg hz];exact h3
    ·cases j with
     |zero=>exact hz'
     |succ j=>exact h5 j (by omega)
def rch(zs:List Zn)(known:List (Int × Int))(o:Int):List (Int × Int):=(at_ zs o).getD known
def rchR(zs:List Zn)(known:List (Int × Int))(o:Int):List (Int × Int):=if fmd zs=true∧Ve.fmd known=true∧0≤o∧o≤255 then rch zs known o else []
def blr(zs:List Zn):List (Int × Int):=if fmd zs=true then Sp.ofL (fun o=>(at_ zs (o:Int)).isSome) else []
def rchs(zs:List Zn)(known:List (Int × Int))(f:Nat→Bool):Nat→List (List (Int × Int))
 |0=>[]
 |k+1=>if f k=true then rchs zs known f k++[rch zs known (k:Int)] else rchs zs known f k
def str(c s e:Nat→Int)(k:Nat):Int:=if s k≤c k then (if c k<e k then e k else c k) else c k
def strd(v:List (Int × Int))(n:Note)(o:Int):List (Int × Int):=
 if (Nt.at_ n.ws o).2=true∧hasOf (Ve.ofL (str (Ve.cnt v) (Ve.cnt n.s) (Ve.cnt n.e))) (Nt.at_ n.ws o).1.1 (Nt.at_ n.ws o).1.2.1=false then v else Ve.ofL (str (Ve.cnt v) (Ve.cnt n.s) (Ve.cnt n.e))
def sho(zs:List Zn)(known:List (Int × Int))(n:Note)(o:Nat):List (Int × Int):=if Sp.inL n.b o=true then rch zs known (o:Int) else strd (rch zs known (o:Int)) n (o:Int)
def zof(zs:List Zn)(known:List (Int × Int))(n:Note)(o:Nat):Option (List (Int × Int)):=
 if Ve.cov (Ve.cnt (sho zs known n o)) (Ve.cnt (Ve.joinL [known,n.e]))=true then none else some (sho zs known n o)
def goesOn(zs:List Zn)(k:Nat)(v:List (Int × Int)):Bool:=decide (0<zs.length∧(zs.getD (zs.length-1) (0,0,[])).2.1=(k:Int)-1∧(zs.getD (zs.length-1) (0,0,[])).2.2=v)
def ext(zs:List Zn)(k:Nat):List Zn:=zs.dropLast++[((zs.getD (zs.length-1) (0,0,[])).1,(k:Int),(zs.getD (zs.length-1) (0,0,[])).2.2)]
def mkTo(f:Nat→Option (List (Int × Int))):Nat→List Zn
 |0=>[]
 |k+1=>match f k with
  |none=>mkTo f k
  |some v=>if goesOn (mkTo f k) k v=true then ext (mkTo f k) k else mkTo f k++[((k:Int),(k:Int),v)]
abbrev Ans3:=List Zn × List (Int × Int) × Int
def tkR(zs:List Zn)(known:List (Int × Int))(n:Note):Ans3:=
 if fmd zs=true∧Ve.fmd known=true∧Nt.fmd n=true then (if Ve.cov (Ve.cnt known) (Ve.cnt n.s)=true then (mkTo (zof zs known n) 256,Ve.joinL [known,n.e],0) else ([],[],3)) else ([],[],1)
end Tr
structure OneZ (w:World) (A:Option Addr) (c:Nat) (L:List Zc):Prop where
 le:L.length≤c
 cap:c≤maxLen
 noA:A=none→L.length=0∧c=0
 lies:Lies w A (zCells L)
 each:∀z∈L,OneL w z.X z.c z.l
theorem OneZ.later{w w':World}{A:Option Addr}{c:Nat}{L:List Zc}(h:OneZ w A c L)(hb:Below w.heap.size w w'):OneZ w' A c L:=⟨h.le,h.cap,h.noA,h.lies.later hb,fun f hf=>(h.each f hf).later hb⟩
theorem OneZ.len{w:World}{A:Option Addr}{c:Nat}{L:List Zc}(h:OneZ w A c L):L.length≤9223372036854775807:=by
 have h1:=h.le
 have h2:=h.cap
 unfold maxLen at h2
 omega
theorem OneZ.nil(w:World):OneZ w none 0 []:=⟨Nat.le_refl _,Nat.zero_le _,fun _=>⟨rfl,rfl⟩,Lies.nil,fun _ h=>by cases h⟩
theorem OneZ.at{w:World}{A:Option Addr}{c:Nat}{L:List Zc}(h:OneZ w A c L)(hne:L≠[]):∃b off,A=some ⟨b,off,none⟩∧∀k x,L[k]?=some x→w.cell? ⟨b,off+k*3,none⟩=some (.int .i64 x.lo)∧w.cell? ⟨b,off+k*3+1,none⟩=some (.int .i64 x.hi)∧w.cell? ⟨b,off+k*3+2,none⟩=some (.slice x.X x.l.length x.c):=by
 obtain⟨b,off,hA,hc⟩:=h.lies (fun e=>hne (zCells_nil.1 e))
 refine⟨b,off,hA,fun k x hx =>?_⟩
 obtain⟨h1,h2,h3⟩:=zCells_get L k x hx
 exact⟨hc _ _ h1,(Nat.add_assoc off (k*3) 1) ▸ hc _ _ h2,(Nat.add_assoc off (k*3) 2) ▸ hc _ _ h3⟩
theorem OneZ.one{w:World}{A:Option Addr}{c:Nat}{L:List Zc}(h:OneZ w A c L){k:Nat}{x:Zc}(hx:L[k]?=some x):OneL w x.X x.c x.l:=h.each x (List.mem_of_getElem? hx)
theorem zn_getD{L:List Zc}{k:Nat}{x:Zc}(hx:L[k]?=some x):(L.map Zc.zn).getD k (0,0,[])=x.zn:=by
 rw[List.getD_eq_getElem?_getD,List.getElem?_map,hx];rfl
def isB(x:Int):Prop:=0≤x∧x<256
def bCells(l:List Int):List Value:=l.map (Value.int .u8)
theorem bCells_length(l:List Int):(bCells l).length=l.length:=List.length_map _
theorem bCells_one(l:List Int):∀u∈bCells l,u.oneCell'=true:=by
 intro u hu
 obtain⟨x,_,rfl⟩:=List.mem_map.1 hu
 rfl
structure OneB (w:World) (A:Option Addr) (c:Nat) (l:List Int):Prop where
 le:l.length≤c
 cap:c≤maxLen
 noA:A=none→l.length=0∧c=0
 lies:Lies w A (bCells l)
 byte:∀x∈l,isB x
section
variable {w w':World} {A:Option Addr} {c:Nat} {l:List Int}
theorem OneB.later(h:OneB w A c l)(hb:Below w.heap.size w w'):OneB w' A c l:=⟨h.le,h.cap,h.noA,h.lies.later hb,h.byte⟩
theorem OneB.len(h:OneB w A c l):l.length≤9223372036854775807:=by
 have h1:=h.le
 have h2:=h.cap
 unfold maxLen at h2
 omega
theorem OneB.of_own{base:Nat}{e:TypeId}{v:Value}(h:w.ownsRow base e 1 v l.length (bCells l))(hb:∀x∈l,isB x):∃A c,v = .slice A l.length c∧OneB w A c l:=by
 obtain⟨A,c,h1,h2,h3,h4,h5⟩:=own_form h
 exact⟨A,c,h1,⟨h2,h3,h4,h5,hb⟩⟩
end
structure Bd where
 o:Int
 c:Int
 n:Int
 v:List Int
namespace Wi
def bright(x:Bd):Bool:=decide (0≤x.o)&&(decide (x.o≤255)&&(St.rgt x.c x.n&&decide (x.v.length≤256)))
end Wi
structure Bc where
 X:Option Addr
 d:Nat
 b:Bd
def Bd.zero:Bd:=⟨0,0,0,[]⟩
def Bc.zero:Bc:=⟨none,0,Bd.zero⟩
namespace Ca
def cell(z:Bc):List Value:=[.int .i64 z.b.o,.int .i64 z.b.c,.int .i64 z.b.n,.slice z.X z.b.v.length z.d]
def cells(L:List Bc):List Value:=L.flatMap cell
theorem cells_cons(z:Bc)(r:List Bc):cells (z::r)=cell z++cells r:=rfl
theorem cells_append(L R:List Bc):cells (L++R)=cells L++cells R:=by unfold cells;rw[List.flatMap_append]
theorem cells_nil{L:List Bc}:cells L=[]↔L=[]:=by cases L<;>simp[cells,cell]
theorem cells_get(L:List Bc):∀k,k<L.length→(cells L)[k*4]?=some (.int .i64 (L.getD k Bc.zero).b.o)∧(cells L)[k*4+1]?=some (.int .i64 (L.getD k Bc.zero).b.c)∧(cells L)[k*4+2]?=some (.int .i64 (L.getD k Bc.zero).b.n) ∧
  (cells L)[k*4+3]?=some (.slice (L.getD k Bc.zero).X (L.getD k Bc.zero).b.v.length (L.getD k Bc.zero).d):=by
 induction L with
 |nil=>intro k hk;simp at hk
 |cons x r ih=>
  intro k hk
  rw[cells_cons]
  cases k with
  |zero=>exact⟨rfl,rfl,rfl,rfl⟩
  |succ m=>
   obtain⟨h1,h2,h3,h4⟩:=ih m (by simpa using hk)
   have sh:∀j,(cell x++cells r)[(m+1)*4+j]?=(cells r)[m*4+j]?:=fun j=>by
    rw[List.getElem?_append_right (by simp[cell];omega)]
    congr 1
    simp[cell]
    omega
   exact⟨(sh 0).trans h1,(sh 1).trans h2,(sh 2).trans h3,(sh 3).trans h4⟩
theorem getD_lt{L:List Bc}{k:Nat}(hk:k<L.length):L.getD k Bc.zero=L[k]:=by rw[List.getD_eq_getElem?_getD,List.getElem?_eq_getElem hk];rfl
theorem getD_mem{L:List Bc}{k:Nat}(hk:k<L.length):L.getD k Bc.zero∈L:=by rw[getD_lt hk];exact List.getElem_mem hk
def used:List Bd→Nat
 | []=>0
 |x::r=>x.v.length+used r
theorem used_append(l r:List Bd):used (l++r)=used l+used r:=by
 induction l with
 |nil=>simp[used]
 |cons x s ih=>simp[used,ih];omega
def ok(l:List Bd)(j:Nat):Prop:=Wi.bright (l.getD j Bd.zero)=true∧∀i,i<j→(l.getD i Bd.zero).o≠(l.getD j Bd.zero).o
instance (l:List Bd) (j:Nat):Decidable (ok l j):=by unfold ok;exact inferInstance
def oks(l:List Bd):Bool:=decide (∀j:Fin l.length,ok l j.val)
theorem oks_iff(l:List Bd):oks l=true↔∀j,j<l.length→ok l j:=by
 unfold oks
 rw[decide_eq_true_iff]
 exact⟨fun h j hj=>h ⟨j,hj⟩,fun h j=>h j.val j.isLt⟩
theorem oks_no{l:List Bd}(k:Nat)(hk:k<l.length)(h:¬ok l k):oks l=false:=by
 cases hc:oks l with
 |false=>rfl
 |true=>exact absurd ((oks_iff l).1 hc k hk) h
def fmd(l:List Bd)(room:Int):Bool:=decide (0≤room∧room≤16777216∧l.length≤256)&&(oks l&&decide ((used l:Int)≤room))
def find(l:List Bd)(o c n:Int):Option Bd:=l.find? fun x=>decide (x.o=o∧x.c=c∧x.n=n)
def getR(l:List Bd)(o c n:Int):List Int × Int:=match find l o c n with
 |some x=>(x.v,0)
 |none=>([],10)
def forget(l:List Bd)(o:Int):List Bd:=l.filter fun x =>!decide (x.o=o)
def fit(room:Int):List Bd→List Bd
 | []=>[]
 |x::r=>if room<(used (x::r):Int) then fit room r else x::r
def putR(l:List Bd)(room:Int)(x:Bd):List Bd × Int:=if fmd l room=true then (if Wi.bright x=true then (fit room (forget l x.o++[x]),0) else ([],1)) else ([],1)
theorem forget_len(l:List Bd)(o:Int):(forget l o).length≤l.length:=List.length_filter_le _ _
theorem forget_used(l:List Bd)(o:Int):used (forget l o)≤used l:=by
 induction l with
 |nil=>exact Nat.le_refl _
 |cons x r ih=>
  unfold forget at ih ⊢
  rw[List.filter_cons]
  split
  ·simp only[used];omega
  ·simp only[used];omega
end Ca
structure OneC (w:World) (A:Option Addr) (c:Nat) (L:List Bc):Prop where
 le:L.length≤c
 cap:c≤maxLen
 noA:A=none→L.length=0∧c=0
 lies:Lies w A (Ca.cells L)
 each:∀z∈L,OneB w z.X z.d z.b.v
section
variable {w w':World} {A:Option Addr} {c:Nat} {L:List Bc}
theorem OneC.later(h:OneC w A c L)(hb:Below w.heap.size w w'):OneC w' A c L:=⟨h.le,h.cap,h.noA,h.lies.later hb,fun f hf=>(h.each f hf).later hb⟩
theorem OneC.len(h:OneC w A c L):L.length≤9223372036854775807:=by
 have h1:=h.le
 have h2:=h.cap
 unfold maxLen at h2
 omega
theorem OneC.nil(w:World):OneC w none 0 []:=⟨Nat.le_refl _,Nat.zero_le _,fun _=>⟨rfl,rfl⟩,Lies.nil,fun _ h=>by cases h⟩
theorem OneC.at(h:OneC w A c L)(hne:L≠[]):∃b off,A=some ⟨b,off,none⟩∧∀k,k<L.length→w.cell? ⟨b,off+k*4,none⟩=some (.int .i64 (L.getD k Bc.zero).b.o)∧w.cell? ⟨b,off+k*4+1,none⟩=some (.int .i64 (L.getD k Bc.zero).b.c) ∧
  w.cell? ⟨b,off+k*4+2,none⟩=some (.int .i64 (L.getD k Bc.zero).b.n)∧w.cell? ⟨b,off+k*4+3,none⟩=some (.slice (L.getD k Bc.zero).X (L.getD k Bc.zero).b.v.length (L.getD k Bc.zero).d):=by
 obtain⟨b,off,hA,hc⟩:=h.lies (fun e=>hne (Ca.cells_nil.1 e))
 refine⟨b,off,hA,fun k hk =>?_⟩
 obtain⟨g0,g1,g2,g3⟩:=Ca.cells_get L k hk
 exact⟨hc _ _ g0,by rw[Nat.add_assoc];exact hc _ _ g1,by rw[Nat.add_assoc];exact hc _ _ g2,by rw[Nat.add_assoc];exact hc _ _ g3⟩
structure OwnC (w:World) (base:Nat) (A:Option Addr) (c:Nat) (L:List Bc):Prop where
 one:OneC w A c L
 row:∀b off,A=some ⟨b,off,none⟩→base≤b
 byte:∀z∈L,∀b off,z.X=some ⟨b,off,none⟩→base≤b∧b<w.heap.size∧∀i,w.frozen? ⟨b,i,none⟩=false
theorem OwnC.later{base:Nat}(h:OwnC w base A c L)(hb:Below w.heap.size w w'):OwnC w' base A c L:=
 ⟨h.one.later hb,h.row,fun z hz b off e=>by
  obtain⟨h1,h2,h3⟩:=h.byte z hz b off e
  refine⟨h1,by have:=hb.size;omega,fun i =>?_⟩
  rw[←h3 i]
  exact World.frozen?_of_block (hb.block b h2)⟩
theorem OwnC.lower{base base':Nat}(h:OwnC w base A c L)(hb:base'≤base):OwnC w base' A c L:=
 ⟨h.one,fun b off e=>Nat.le_trans hb (h.row b off e),fun z hz b off e=>by
  obtain⟨h1,h2⟩:=h.byte z hz b off e
  exact⟨Nat.le_trans hb h1,h2⟩⟩
theorem OwnC.nil(w:World)(base:Nat):OwnC w base none 0 []:=⟨OneC.nil w,fun _ _ h=>(by cases h),fun _ h=>by cases h⟩
end
def GivesCE(l:List Bd)(x:Int)(w:World)(e:Ending)(w':World):Prop:=∃A c L,e = .returned (.tuple #[.slice A L.length c,.int .i64 x])∧L.map Bc.b=l∧OwnC w' w.heap.size A c L∧Below w.heap.size w w'
structure Fits (L:List Bc):Prop where
 n:L.length*48≤140737488355328
 each:∀z∈L,z.b.v.length≤140737488355328
theorem ca_apart{w w1:World}{n size n' size':Nat}{e e':TypeId}{v v':Value}{xs xs':List Value}{base base':Nat}(h:w.ownsRow base e size v n xs)(h':w.ownsRow base' e' size' v' n' xs')(hne:e≠e')(hg:w.grownBy w1 v'.ownBlock):w1.ownsRow base e size v n xs:=
 own_stays h fun k hk=>hg.block k (own_lt h k hk) (fun e2=>own_apart h h' hne k hk e2)
structure OwnRC (w:World) (base:Nat) (t e:TypeId) (v:Value) (M:List Bc):Prop where
 row:w.ownsRow base t 4 v M.length (Ca.cells M)
 each:∀z∈M,w.ownsRow base e 1 (.slice z.X z.b.v.length z.d) z.b.v.length (bCells z.b.v)∧∀x∈z.b.v,isB x
section
variable {w w':World} {base:Nat} {t e:TypeId} {v:Value} {M:List Bc}
theorem OwnRC.nil(w:World)(base:Nat)(t e:TypeId):OwnRC w base t e (.slice none 0 0) []:=⟨⟨rfl,.inl ⟨rfl,rfl⟩⟩,fun z h=>by cases h⟩
theorem OwnRC.later(h:OwnRC w base t e v M)(hb:Below w.heap.size w w'):OwnRC w' base t e v M:=⟨own_later h.row hb,fun z hz=>⟨own_later (h.each z hz).1 hb,(h.each z hz).2⟩⟩
theorem OwnRC.lower{base':Nat}(h:OwnRC w base t e v M)(hb:base'≤base):OwnRC w base' t e v M:=⟨own_base h.row hb,fun z hz=>⟨own_base (h.each z hz).1 hb,(h.each z hz).2⟩⟩
theorem OwnRC.snoc{w1:World}{v':Value}(hne:t≠e)(h:OwnRC w base t e v M)(hg:w.grownBy w1 v.ownBlock)(z:Bc)(hz:w.ownsRow base e 1 (.slice z.X z.b.v.length z.d) z.b.v.length (bCells z.b.v))(hb:∀x∈z.b.v,isB x)
  (hr:w1.ownsRow base t 4 v' (M.length+1) (Ca.cells M++Ca.cell z)):OwnRC w1 base t e v' (M++[z]):=by
 refine⟨?_,fun y hy =>?_⟩
 ·rw[Ca.cells_append,show Ca.cells [z]=Ca.cell z from List.append_nil _,List.length_append]
  exact hr
 ·rcases List.mem_append.1 hy with hy|hy
  ·exact⟨ca_apart (h.each y hy).1 h.row (fun e2=>hne e2.symm) hg,(h.each y hy).2⟩
  ·rw[List.mem_singleton]at hy
   subst hy
   exact⟨ca_apart hz h.row (fun e2=>hne e2.symm) hg,hb⟩
theorem OwnRC.form(h:OwnRC w base t e v M):∃A c,v = .slice A M.length c∧OwnC w base A c M:=by
 obtain⟨A,c,rfl,h1,h2,h3,h4⟩:=own_form h.row
 refine⟨A,c,rfl,⟨⟨h1,h2,h3,h4,fun z hz =>?_⟩,fun b off hA =>?_,fun z hz b off hX =>?_⟩⟩
 ·obtain⟨A',c',hv,ho⟩:=OneB.of_own (h.each z hz).1 (h.each z hz).2
  injection hv with e1 e2 e3
  subst e1 e3
  exact ho
 ·subst hA
  exact own_ge h.row b rfl
 ·obtain⟨hz1,hz2⟩:=h.each z hz
  rw[hX]at hz1
  have h5:=own_ge hz1 b rfl
  have h6:=own_lt hz1 b rfl
  refine⟨h5,h6,fun i =>?_⟩
  rcases hz1.2 with ⟨hv,_⟩|⟨g,cap,cur,hv,_,hh,_⟩
  ·cases hv
  ·injection hv with hv
   injection hv with hv
   injection hv with hv1 hv2
   subst hv1 hv2
   simp[World.frozen?,hh]
end
def bdCells(D:Option Addr)(d:Nat)(x:Bd):Array Value:=#[.int .i64 x.o,.int .i64 x.c,.int .i64 x.n,.slice D x.v.length d]
namespace Wi
def bsame(x y:Bd):Bool:=decide (x.o=y.o)&&(decide (x.c=y.c∧x.n=y.n)&&decide (x.v=y.v))
theorem bsame_iff(x y:Bd):bsame x y=true↔x=y:=by
 obtain⟨o,c,n,l⟩:=x
 obtain⟨o',c',n',l'⟩:=y
 unfold bsame
 simp[and_assoc]
end Wi
theorem infoBy:(Tryz.prog.info? 5).map (fun i=>(i.zero,i.size,i.bytes))=some (some (.int .u8 0),1,1):=by kernel_rfl
def GivesB(l:List Int)(w:World)(e:Ending)(w':World):Prop:=
 ∃v,e = .returned v∧w'.ownsRow w.heap.size 5 1 v l.length (bCells l)∧Below w.heap.size w w'
section
variable {P:Program} {ops:Array Oper} {md:Region.Mode} {Q:Exit→Act→World→Prop}
theorem wpAny_facts3{n:Nat}(hB:factsB md ops n=true)(T:(Nat→Value)→Act)(Φ:Nat→(Nat→Value)→World→Prop)(Rel:World→World→Prop)(trans:∀{w1 w2 w3},Rel w1 w2→Rel w2 w3→Rel w1 w3)(W0:World)
  (loc:∀i k v x w,k≠i→k∉deps md ops i→Φ i v w→Φ i (upd v k x) w)
  (step:∀i,i<n→∀v w,Rel W0 w→(∀j∈deps md ops i,Φ j v w)→wpOp P ops Q i (fun a' w'=>∃x,a'=T (upd v i x)∧Rel w w'∧Φ i (upd v i x) w'∧∀j,j<n→j≠i→Φ j v w→Φ j v w') (T v) w)
  (done:∀v w,Rel W0 w→(∀i,i<n→Φ i v w)→wpList P ops Q (ops.toList.drop n) (T v) w) :
  ∀(f:Nat) (listed:Array Bool) (v:Nat→Value) (w:World),HeadInv md ops n listed→cntTo listed n=f→Rel W0 w→(∀i,i<n→listed.getD i true=true→Φ i v w)→(∀i,i<n→listed.getD i true=true→∀j∈deps md ops i,listed.getD j true=true)→wpAny P md ops Q (f+(ops.size-n)) listed (T v) w:=by
 simp only[factsB,Bool.and_eq_true,decide_eq_true_eq]at hB
 obtain⟨⟨⟨⟨hn,hs⟩,hc⟩,hd⟩,hq⟩:=hB
 intro f
 induction f with
 |zero=>
  intro listed v w inv hcnt hb hfacts _
  have hall:=cntTo_zero listed n hcnt
  have he:listed=headListed ops.size n:=by
   apply Array.ext
   ·rw[inv.size];simp[headListed]
   ·intro i h1 h2
    have hi:i<ops.size:=by rw[←inv.size];exact h1
    have e2:(headListed ops.size n)[i]=decide (i<n):=by simp[headListed]
    rw[e2]
    by_cases hin:i<n
    ·have:=hall i hin
     simp[h1]at this
     rw[this,decide_eq_true hin]
    ·have:=inv.tail i (by omega) hi
     simp[h1]at this
     rw[this,decide_eq_false hin]
  rw[Nat.zero_add]
  have hl:(ops.toList.drop n).length=ops.size-n:=by simp
  rw[←hl]
  refine wpAny_of_seq (ops.toList.drop n) n listed _ w (fun j=>by simp) ?_ (done v w hb (fun i hi=>hfacts i hi (hall i hi)))
  rw[hl,he]
  exact hq
 |succ f ih=>
  intro listed v w inv hcnt hb hfacts hclosed
  obtain⟨m,hm1,hm2,hm3⟩:=cntTo_pos listed n (by omega)
  have hmr:m∈Region.ready md ops listed:=by
   have hms:m<ops.size:=by omega
   refine mem_ready.2 ⟨hm2,ops[m],Array.getElem?_eq_getElem hms,fun e he hbind =>?_⟩
   have h1:=List.all_eq_true.1 hd m (List.mem_range.2 hms)
   have h2:e.on∈deps md ops m:=by
    unfold deps
    rw[Array.getElem?_eq_getElem hms]
    exact List.mem_map.2 ⟨e,List.mem_filter.2 ⟨Array.mem_toList_iff.2 he,hbind⟩,rfl⟩
   have h3:=of_decide_eq_true (List.all_eq_true.1 h1 _ h2)
   have h4:=hm3 e.on h3
   have h5:e.on<listed.size:=by rw[inv.size];omega
   simp[h5]at h4 ⊢
   exact h4
  rw[show f+1+(ops.size-n)=(f+(ops.size-n))+1 from by omega]
  refine⟨fun h0=>(by rw[h0]at hmr;cases hmr),fun i hi =>?_⟩
  have hin:i<n:=by
   rcases Nat.lt_or_ge i n with h|h
   ·exact h
   ·exact absurd hi (tail_waits hs hc hn inv _ m rfl hm1 hm2 i h)
  obtain⟨hun,oi,hoi,hafter⟩:=mem_ready.1 hi
  have hdl:∀j∈deps md ops i,listed.getD j true=true∧j<n:=by
   intro j hj
   unfold deps at hj
   rw[hoi]at hj
   obtain⟨e,he,rfl⟩:=List.mem_map.1 hj
   obtain⟨he1,he2⟩:=List.mem_filter.1 he
   have h1:=hafter e (Array.mem_toList_iff.1 he1) he2
   have h2:e.on<listed.size:=by
    rcases Nat.lt_or_ge e.on listed.size with h'|h'
    ·exact h'
    ·simp[Array.getElem?_eq_none h']at h1
   have h3:listed.getD e.on true=true:=by simp[h2]at h1 ⊢;exact h1
   refine⟨h3,?_⟩
   rcases Nat.lt_or_ge e.on n with h'|h'
   ·exact h'
   ·have:=inv.tail e.on h' (by rw[←inv.size];exact h2)
    rw[h3]at this
    cases this
  have keep:∀j,listed.getD j true=true→(listed.setIfInBounds i true).getD j true=true:=fun j hj=>by
   by_cases e:j=i
   ·subst e;rw[hj]at hun;cases hun
   ·rw[getD_set_ne true (fun h=>e h.symm)];exact hj
  refine wpOp_mono ?_ (step i hin v w hb (fun j hj=>hfacts j (hdl j hj).2 (hdl j hj).1))
  rintro a' w' ⟨x,rfl,hb',hx,hst⟩
  refine ih _ (upd v i x) w' (inv.set hi hin) (by have:=cntTo_set listed i hun n hin;omega) (trans hb hb') (fun j hj hl =>?_) (fun j hj hl d hdj =>?_)
  ·by_cases e:j=i
   ·subst e
    exact hx
   ·rw[getD_set_ne true (fun h=>e h.symm)]at hl
    refine loc j i v x w' (fun h=>e h.symm) (fun h =>?_) (hst j hj e (hfacts j hj hl))
    have:=hclosed j hj hl i h
    rw[hun]at this
    cases this
  ·by_cases e:j=i
   ·subst e
    exact keep d (hdl d hdj).1
   ·rw[getD_set_ne true (fun h=>e h.symm)]at hl
    exact keep d (hclosed j hj hl d hdj)
theorem wp_region_facts3{id:Nat}{l:List Oper}{w:World}(n:Nat)(hm:P.follows .mixedOrders=true)(hB:factsB .any l.toArray n=true)(T:(Nat→Value)→Act)(v0:Nat→Value)(Φ:Nat→(Nat→Value)→World→Prop)(Rel:World→World→Prop)(trans:∀{w1 w2 w3},Rel w1 w2→Rel w2 w3→Rel w1 w3)(hself:∀w,Rel w w)(hdrew:Rel w w.drew)
  (loc:∀i k v x w,k≠i→k∉deps .any l.toArray i→Φ i v w→Φ i (upd v k x) w)
  (step:∀i,i<n→∀v w',Rel w w'→(∀j∈deps .any l.toArray i,Φ j v w')→wpOp P l.toArray Q i (fun a' w''=>∃x,a'=T (upd v i x)∧Rel w' w''∧Φ i (upd v i x) w''∧∀j,j<n→j≠i→Φ j v w'→Φ j v w'') (T v) w')
  (done:∀v w',Rel w w'→(∀i,i<n→Φ i v w')→wpList P l.toArray Q (l.drop n) (T v) w') :
  (Code.region id l.toArray true).wp P Q (T v0) w:=by
 refine wp_region_any hm ?_
 have hn:n<l.toArray.size:=by
  simp only[factsB,Bool.and_eq_true,decide_eq_true_eq]at hB
  exact hB.1.1.1.1
 have hw:∀w',Rel { w with drawn:=w.drawn+1 } w'→Rel w w':=fun w' h=>trans hdrew h
 have hno:∀i,i<n→(Array.replicate l.toArray.size false).getD i true=true→False:=fun i hi hl=>by
  rw[Array.getD_eq_getD_getElem?,Array.getElem?_replicate,if_pos (by omega)]at hl
  cases hl
 have h:=wpAny_facts3 hB T Φ Rel trans { w with drawn:=w.drawn+1 } loc (fun i hi v w' hb hd=>step i hi v w' (hw w' hb) hd) (fun v w' hb hf=>done v w' (hw w' hb) hf)
  n (Array.replicate l.toArray.size false) v0 { w with drawn:=w.drawn+1 }
  ⟨by simp,fun j oj hj hl=>(by rw[getD_replicate_false]at hl;cases hl),fun t ht ht'=>(by rw[Array.getD_eq_getD_getElem?,Array.getElem?_replicate,if_pos ht'];rfl)⟩ (cntTo_none _ n (by omega)) (hself _) (fun i hi hl=>(hno i hi hl).elim) (fun i hi hl=>(hno i hi hl).elim)
 rw[show n+(l.toArray.size-n)=l.toArray.size from by omega]at h
 exact h
theorem wpOp_oneK{i:Nat}{o:Oper}{K:Act→World→Prop}{a:Act}{w:World}(ho:ops[i]?=some o)(h:∀K':Act→World→Prop,(∀a w,K a w→K' a w)→wpList P ops (Exit.then K' Q) [o] a w):wpOp P ops Q i K a w:=wpOp_one ho (h K (fun _ _ h=>h))
theorem wpOp_oneH {i : Nat} {o : Oper} {K : Act → World → Prop} {a : Act} {w : World} (ho : ops[i]? = some o) (h : ∀ K' : Act → World → Prop, Go.RowKit.Hid (∀ a w, K a w → K' a w) → wpList P ops (Exit.then K' Q) [o] a w) : wpOp P ops Q i K a w := wpOp_one ho (h K (fun _ _ h => h))
end
theorem rows_round{P:Program}{row:String}{args:Array Value}{w:World}{R:Value→World→Prop}(l n:Nat)(h:_root_.Go.Rows P row args w R):RowsIn (Fence.wide.inRound l) n P row args w R:=
 fun c cs _=>let ⟨v,w',r,s⟩:=h c cs;⟨v,w',r,stepsIn_wide.2 s⟩
section
variable {P:Program} {ops:Array Oper} {md:Region.Mode} {Q:Exit→Act→World→Prop} {l n:Nat}
theorem wpOp_round{i:Nat}{K:Act→World→Prop}{a:Act}{w:World}(hd:∀o c,ops[i]?=some o→o.op ≠ .defer c)(hq:¬LetsOut Q)(h:wpOp P ops Q i K a w):wpOpIn (Fence.wide.inRound l) n P ops Q i K a w:=by
 unfold wpOp at h
 unfold wpOpIn
 cases ho:ops[i]? with
 |none=>
  rw[ho]at h
  exact h
 |some o=>
  rw[ho]at h
  simp only at h ⊢
  split
  ·rename_i hw
   rw[if_pos hw]at h
   have h:=h.resolve_right (fun h=>hq h.2)
   refine⟨fun _ _=>trivial,?_⟩
   rw[show(Fence.wide.inRound l).round=some l from rfl,Oper.semAt_some l _ _ (fun c=>hd o c ho)]
   unfold Oper.wp at h
   generalize (execOp a.eval o).run P w=r at *
   cases r with
   |ok x w'=>
    cases x<;>simp only[Oper.upon,Oper.uponIn]at h ⊢ <;>
     first
      |exact h
      |exact⟨fun h0=>by simp[Fence.wide,Fence.inRound]at h0,CallsIn.inRound l (callsIn_wide.2 (h.mono (fun e w'' he=>by cases e<;>exact he)))⟩
      |exact⟨fun h0=>by simp[Fence.wide,Fence.inRound]at h0,rows_round l _ h⟩
   |halt x w'=>cases x<;>simp only[Oper.upon,Oper.uponIn]at h ⊢<;>exact h
  ·rename_i hw
   rw[if_neg hw]at h
   exact⟨fun _ _=>trivial,h⟩
theorem wpAny_round(hd:∀(i:Nat) o c,ops[i]?=some o→o.op ≠ .defer c)(hq:¬LetsOut Q)(f:Nat)(listed:Array Bool)(a:Act)(w:World)(h:wpAny P md ops Q f listed a w):wpAnyIn (Fence.wide.inRound l) n P md ops Q f listed a w:=by
 induction f generalizing listed a w with
 |zero=>exact h
 |succ f ih=>exact⟨h.1,fun i hi=>wpOpIn_mono (fun a' w' h'=>ih _ a' w' h') (wpOp_round (hd i) hq (h.2 i hi))⟩
theorem wpOp_skip{i:Nat}{o:Oper}{K:Act→World→Prop}{a:Act}{w:World}(ho:ops[i]?=some o)(hw:Region.wanted o (yielded ops a.tmps)=false)(h:K (a.put o.dst undef) w):wpOp P ops Q i K a w:=by
 unfold wpOp
 rw[ho]
 simp only
 rw[if_neg (by rw[hw];exact Bool.false_ne_true)]
 exact h
def noDefer(ops:Array Oper):Bool:=ops.toList.all fun o=>match o.op with | .defer _=>false|_=>true
theorem noDefer_at(h:noDefer ops=true)(i:Nat)(o:Oper) c (ho:ops[i]?=some o):o.op ≠ .defer c:=by
 intro e
 have h1:=List.all_eq_true.1 h o (Array.mem_toList_iff.2 (Array.mem_of_getElem? ho))
 rw[e]at h1
 cases h1
theorem wpIn_region_facts2{id:Nat}{L:List Oper}{w:World}(m:Nat)(hm:P.follows .mixedOrders=true)(hB:factsB .any L.toArray m=true)(hd:noDefer L.toArray=true)(hq:¬LetsOut Q)(T:(Nat→Value)→Act)(v0:Nat→Value)(Ψ:Nat→Value→World→Prop)(R:Nat→Nat→Value→Value→Prop)(Rel:World→World→Prop)(trans:∀{w1 w2 w3},Rel w1 w2→Rel w2 w3→Rel w1 w3)(hself:∀w,Rel w w)(hdrew:Rel w w.drew)
  (stab:∀i x w w',Ψ i x w→Rel w w'→Ψ i x w')
  (step:∀i,i<m→∀v w',Rel w w'→(∀j∈deps .any L.toArray i,Ψ j (v j) w')→wpOp P L.toArray Q i (fun a' w''=>∃x,a'=T (upd v i x)∧Rel w' w''∧Ψ i x w''∧∀j y,j≠i→Ψ j y w'→R i j x y∧R j i y x) (T v) w')
  (done:∀v w',Rel w w'→(∀i,i<m→Ψ i (v i) w')→(∀i j,i<m→j<m→i≠j→R i j (v i) (v j))→wpList P L.toArray Q (L.drop m) (T v) w') :
  (Code.region id L.toArray true).wpIn (Fence.wide.inRound l) n P Q (T v0) w:=by
 refine wpIn_region_any hm (wpAny_round (noDefer_at hd) hq _ _ _ _ ?_)
 have hn:m<L.toArray.size:=by
  simp only[factsB,Bool.and_eq_true,decide_eq_true_eq]at hB
  exact hB.1.1.1.1
 have hw:∀w',Rel { w with drawn:=w.drawn+1 } w'→Rel w w':=fun w' h=>trans hdrew h
 have h:=wpAny_facts hB T Ψ R Rel trans { w with drawn:=w.drawn+1 } stab (fun i hi v w' hb hd=>step i hi v w' (hw w' hb) hd) (fun v w' hb hf hr=>done v w' (hw w' hb) hf hr)
  m (Array.replicate L.toArray.size false) v0 { w with drawn:=w.drawn+1 }
  ⟨by simp,fun j oj hj hl=>(by rw[getD_replicate_false]at hl;cases hl),fun t ht ht'=>(by rw[Array.getD_eq_getD_getElem?,Array.getElem?_replicate,if_pos ht'];rfl)⟩ (cntTo_none _ m (by omega)) (hself _) (fun i hi hl=>by
   rw[Array.getD_eq_getD_getElem?,Array.getElem?_replicate,if_pos (by omega)]at hl
   cases hl) (fun i j hi hj _ hl _=>by
   rw[Array.getD_eq_getD_getElem?,Array.getElem?_replicate,if_pos (by omega)]at hl
   cases hl)
 rw[show m+(L.toArray.size-m)=L.toArray.size from by omega]at h
 exact h
theorem wpIn_region_facts{id:Nat}{L:List Oper}{w:World}(m:Nat)(hm:P.follows .mixedOrders=true)(hB:factsB .any L.toArray m=true)(hd:noDefer L.toArray=true)(hq:¬LetsOut Q)(T:(Nat→Value)→Act)(v0:Nat→Value)(Ψ:Nat→Value→World→Prop)(Rel:World→World→Prop)(trans:∀{w1 w2 w3},Rel w1 w2→Rel w2 w3→Rel w1 w3)(hself:∀w,Rel w w)(hdrew:Rel w w.drew)
  (stab:∀i x w w',Ψ i x w→Rel w w'→Ψ i x w')
  (step:∀i,i<m→∀v w',Rel w w'→(∀j∈deps .any L.toArray i,Ψ j (v j) w')→wpOp P L.toArray Q i (fun a' w''=>∃x,a'=T (upd v i x)∧Rel w' w''∧Ψ i x w'') (T v) w')
  (done:∀v w',Rel w w'→(∀i,i<m→Ψ i (v i) w')→wpList P L.toArray Q (L.drop m) (T v) w') :
  (Code.region id L.toArray true).wpIn (Fence.wide.inRound l) n P Q (T v0) w:=
 wpIn_region_facts2 m hm hB hd hq T v0 Ψ (fun _ _ _ _=>True) Rel trans hself hdrew stab
  (fun i hi v w' hb hd=>wpOp_mono (fun _ _ ⟨x,h1,h2,h3⟩=>⟨x,h1,h2,h3,fun _ _ _ _=>⟨trivial,trivial⟩⟩) (step i hi v w' hb hd))
  (fun v w' hb hf _=>done v w' hb hf)
end
theorem infoBdy:(Tryz.prog.info? 49).map (fun i=>(i.zero,i.size,i.bytes))=some (some (.agg #[.int .i64 0,.int .i64 0,.int .i64 0,.slice none 0 0]),4,48):=by kernel_rfl
theorem infoBdz:(Tryz.prog.info? 49).map (·.size)=some 4:=by kernel_rfl
instance:DecidableEq Bd:=fun x y=>decidable_of_iff (Wi.bsame x y=true) (Wi.bsame_iff x y)
namespace Ca
def usedTo(L:List Bc)(k:Nat):Nat:=used ((L.take k).map Bc.b)
theorem usedTo_succ{L:List Bc}{k:Nat}(h:k<L.length):usedTo L (k+1)=usedTo L k+(L.getD k Bc.zero).b.v.length:=by
 unfold usedTo
 rw[List.take_succ_eq_append_getElem h,List.map_append,used_append,getD_lt h]
 simp[used]
theorem usedTo_le(L:List Bc)(k:Nat):usedTo L k≤used (L.map Bc.b):=by
 have:=used_append ((L.take k).map Bc.b) ((L.drop k).map Bc.b)
 rw[←List.map_append,List.take_append_drop]at this
 unfold usedTo
 omega
theorem usedTo_all(L:List Bc):usedTo L L.length=used (L.map Bc.b):=by unfold usedTo;rw[List.take_length]
theorem take_snoc{L:List Bc}{k:Nat}(h:k<L.length):(L.take (k+1)).map Bc.b=(L.take k).map Bc.b++[(L.getD k Bc.zero).b]:=by
 rw[List.take_succ_eq_append_getElem h,List.map_append,getD_lt h]
 rfl
end Ca
def GivesBd(b:Bd)(w:World)(e:Ending)(w':World):Prop:=∃Y d,e = .returned (.agg (bdCells Y d b))∧w'.ownsRow w.heap.size 5 1 (.slice Y b.v.length d) b.v.length (bCells b.v)∧Below w.heap.size w w'
end Go.Proofs.YtjlfehpockfkdaaGreat
namespace Go.Proofs.YtjlfehpockfkdaaGreat
open Go.RowKit Fb
namespace Ca
theorem forget_yes{L:List Bc}{k:Nat}{o:Int}(h:k<L.length)(hx:(L.getD k Bc.zero).b.o≠o):forget ((L.take (k+1)).map Bc.b) o=forget ((L.take k).map Bc.b) o++[(L.getD k Bc.zero).b]:=by
 rw[take_snoc h]
 unfold forget
 rw[List.filter_append,List.filter_cons,if_pos (by rw[Bool.not_eq_true',decide_eq_false_iff_not];exact hx)]
 rfl
theorem forget_no{L:List Bc}{k:Nat}{o:Int}(h:k<L.length)(hx:(L.getD k Bc.zero).b.o=o):forget ((L.take (k+1)).map Bc.b) o=forget ((L.take k).map Bc.b) o:=by
 rw[take_snoc h]
 unfold forget
 rw[List.filter_append,List.filter_cons,if_neg (by rw[decide_eq_true hx];exact Bool.false_ne_true)]
 simp
abbrev isAt (x:Bd) (o c n:Int):Prop:=x.o=o∧x.c=c∧x.n=n
theorem get_yes{L:List Bc}{k:Nat}{o c n:Int}(h:k<L.length)(hb:∀j,j<k→¬isAt (L.getD j Bc.zero).b o c n)(hx:isAt (L.getD k Bc.zero).b o c n):getR (L.map Bc.b) o c n=((L.getD k Bc.zero).b.v,0):=by
 have:find (L.map Bc.b) o c n=some (L.getD k Bc.zero).b:=by
  unfold find
  rw[List.find?_eq_some_iff_getElem]
  refine⟨decide_eq_true hx,k,by simpa using h,by rw[List.getElem_map,←getD_lt h],fun j hj =>?_⟩
  have:=hb j hj
  rw[List.getElem_map,←getD_lt (by omega)]
  simp only[Bool.not_eq_true',decide_eq_false_iff_not]
  exact this
 unfold getR;rw[this]
theorem get_no{L:List Bc}{o c n:Int}(hb:∀j,j<L.length→¬isAt (L.getD j Bc.zero).b o c n):getR (L.map Bc.b) o c n=([],10):=by
 have:find (L.map Bc.b) o c n=none:=by
  unfold find
  rw[List.find?_eq_none]
  intro x hx e
  obtain⟨z,hz,rfl⟩:=List.mem_map.1 hx
  obtain⟨j,hj,rfl⟩:=List.mem_iff_getElem.1 hz
  have:=hb j hj
  rw[getD_lt hj]at this
  exact this (of_decide_eq_true e)
 unfold getR;rw[this]
theorem map_getD(L:List Bc)(k:Nat):(L.map Bc.b).getD k Bd.zero=(L.getD k Bc.zero).b:=by
 rw[List.getD_eq_getElem?_getD,List.getD_eq_getElem?_getD,List.getElem?_map]
 cases L[k]?<;>rfl
theorem right_obj{x:Bd}(h:Wi.bright x=true):0≤x.o∧x.o≤255∧x.v.length≤256:=by
 unfold Wi.bright at h
 simp only[Bool.and_eq_true,decide_eq_true_eq]at h
 exact⟨h.1,h.2.1,h.2.2.2⟩
theorem used_right:∀{l:List Bd},(∀x∈l,x.v.length≤256)→used l≤l.length*256
 | [],_=>Nat.zero_le _
 |x::r,h=>by
  have h1:=used_right (l:=r) fun y hy=>h y (List.mem_cons_of_mem _ hy)
  have h2:=h x List.mem_cons_self
  simp only[used,List.length_cons]
  omega
theorem used_oks{L:List Bc}(h:∀j,j<L.length→ok (L.map Bc.b) j):used (L.map Bc.b)≤L.length*256:=by
 have h1:=used_right (l:=L.map Bc.b) (fun x hx=>by
  obtain⟨z,hz,rfl⟩:=List.mem_map.1 hx
  obtain⟨j,hj,rfl⟩:=List.mem_iff_getElem.1 hz
  have h2:=(h j hj).1
  rw[map_getD,getD_lt hj]at h2
  exact(right_obj h2).2.2)
 rwa [List.length_map]at h1
end Ca
def GivesVE(l:List Int)(k:Int)(w:World)(e:Ending)(w':World):Prop:=
 ∃v,e = .returned (.tuple #[v,.int .i64 k])∧w'.ownsRow w.heap.size 5 1 v l.length (bCells l)∧Below w.heap.size w w'
theorem OwnC.tail{w:World}{base b off c:Nat}{z:Bc}{r:List Bc}(h:OwnC w base (some ⟨b,off,none⟩) c (z::r)):OwnC w base (some ⟨b,off+4,none⟩) (c-1) r:=by
 have hle:=h.one.le
 have hcap:=h.one.cap
 simp only[List.length_cons]at hle
 refine⟨⟨by omega,by omega,(fun e=>by cases e),fun hne=>⟨b,off+4,rfl,fun j u hu =>?_⟩,fun y hy=>h.one.each y (List.mem_cons_of_mem _ hy)⟩,fun b' off' e =>?_,fun y hy=>h.byte y (List.mem_cons_of_mem _ hy)⟩
 ·obtain⟨b2,off2,e2,hc2⟩:=h.one.lies (by rw[Ca.cells_cons];simp[Ca.cell])
  injection e2 with e2
  injection e2 with e3 e4
  subst e3 e4
  rw[Nat.add_assoc]
  refine hc2 (4+j) u ?_
  rw[Ca.cells_cons,List.getElem?_append_right (by simp[Ca.cell])]
  rw[←hu]
  congr 1
  simp[Ca.cell]
 ·injection e with e
  injection e with e3 e4
  subst e3
  exact h.row b off rfl
theorem OwnC.tail1{w:World}{base b off:Nat}{z:Bc}{r:List Bc}(h:OwnC w base (some ⟨b,off,none⟩) 1 (z::r)):r=[]∧OwnC w base (some ⟨b,off,none⟩) 0 r:=by
 have hle:=h.one.le
 simp only[List.length_cons]at hle
 have hr:r=[]:=List.eq_nil_of_length_eq_zero (by omega)
 subst hr
 exact⟨rfl,⟨⟨Nat.le_refl _,Nat.zero_le _,(fun e=>by cases e),Lies.nil,fun y hy=>by cases hy⟩,h.row,fun y hy=>by cases hy⟩⟩
namespace Ca
theorem fit_gone(room:Int)(x:Bd)(r:List Bd)(h:room<(used (x::r):Int)):fit room (x::r)=fit room r:=by rw[fit,if_pos h]
theorem fit_stay(room:Int):∀(l:List Bd),¬room<(used l:Int)→fit room l=l
 | [],_=>rfl
 |x::r,h=>by rw[fit,if_neg h]
theorem fmd_parts{L:List Bc}{room:Int}(h:fmd (L.map Bc.b) room=true):0≤room∧room≤16777216∧L.length≤256∧(used (L.map Bc.b):Int)≤room∧Fits L:=by
 unfold fmd at h
 simp only[Bool.and_eq_true,decide_eq_true_eq,List.length_map]at h
 obtain⟨⟨h1,h2,h3⟩,h4,h5⟩:=h
 have h6:=(oks_iff _).1 h4
 refine⟨h1,h2,h3,h5,⟨by omega,fun z hz =>?_⟩⟩
 obtain⟨j,hj,rfl⟩:=List.mem_iff_getElem.1 hz
 have h7:=(h6 j (by rw[List.length_map];exact hj)).1
 rw[map_getD,getD_lt hj]at h7
 have:=(right_obj h7).2.2
 omega
end Ca
end Go.Proofs.YtjlfehpockfkdaaGreat
namespace Go.Proofs.YtjlfehpockfkdaaGreat
open Go.RowKit
theorem rightNode_any(n:Int)(w:World):Calls Tryz.prog 158 #[.int .i64 n] w fun e w'=>e = .returned (.bool (St.rgtN n))∧w=w':=by
 by_cases h0:0≤n
 ·by_cases h1:n<64
  ·go_enter Tryz.func158,Tryz.ntmps158
   go_wp2
   go_ret
   rw[show St.rgtN n=true from decide_eq_true (by omega)];exact⟨rfl,rfl⟩
  ·go_enter Tryz.func158,Tryz.ntmps158
   go_wp2
   go_ret
   rw[show St.rgtN n=false from decide_eq_false (by omega)];exact⟨rfl,rfl⟩
 ·go_enter Tryz.func158,Tryz.ntmps158
  go_wp2
  go_ret
  rw[show St.rgtN n=false from decide_eq_false (by omega)];exact⟨rfl,rfl⟩
theorem right_any(c n:Int)(w:World) :
  Calls Tryz.prog 111 #[.agg #[.int .i64 c,.int .i64 n]] w fun e w'=>e = .returned (.bool (St.rgt c n))∧Below w.heap.size w w':=by
 by_cases h:1≤c
 ·have h1:decide (1≤c)=true:=decide_eq_true h
  have h2:St.rgt c n=St.rgtN n:=by unfold St.rgt St.rgtN;simp[h]
  have H2:=Hd h2;clear h2
  go_enter Tryz.func111,Tryz.ntmps111
  go_wp2_with (go_at_call 158;refine(rightNode_any _ _).mono ?_;rintro e w' ⟨rfl,rfl⟩)
  go_ret
  rw[H2.out]
  exact⟨rfl,by repeat (first|exact Below.refl _ _|exact Nat.le_refl _|(apply Below.drew)|(refine Below.alloc ?_ ?_ _)|(refine Below.setCell ?_ ?_ _)|(simp;done)|(simp;omega))⟩
 ·have h1:decide (1≤c)=false:=decide_eq_false h
  have h2:St.rgt c n=false:=by unfold St.rgt;simp[h]
  have H2:=Hd h2;clear h2
  go_enter Tryz.func111,Tryz.ntmps111
  go_wp2_with (go_at_call 158;refine(rightNode_any _ _).mono ?_;rintro e w' ⟨rfl,rfl⟩)
  go_ret
  rw[H2.out]
  exact⟨rfl,by repeat (first|exact Below.refl _ _|exact Nat.le_refl _|(apply Below.drew)|(refine Below.alloc ?_ ?_ _)|(refine Below.setCell ?_ ?_ _)|(simp;done)|(simp;omega))⟩
namespace Sf
def right(x:Wr):Bool:=decide (0≤x.2.2.1)&&(decide (x.2.2.1≤255)&&St.rgt x.1 x.2.1)
theorem right_iff(x:Wr):right x=true↔0≤x.2.2.1∧x.2.2.1≤255∧St.rgt x.1 x.2.1=true:=by unfold right;simp
def ok(l:List Wr)(j:Nat):Prop:=right (l.getD j Nt.zeroW)=true∧(0<j→Nt.obj l (j-1)<Nt.obj l j)
instance (l:List Wr) (j:Nat):Decidable (ok l j):=by unfold ok;exact inferInstance
def fmd(l:List Wr):Bool:=decide (∀j:Fin l.length,ok l j.val)
theorem fmd_iff(l:List Wr):fmd l=true↔∀j,j<l.length→ok l j:=by
 unfold fmd
 rw[decide_eq_true_iff]
 exact⟨fun h j hj=>h ⟨j,hj⟩,fun h j=>h j.val j.isLt⟩
theorem fmd_nil:fmd []=true:=(fmd_iff _).2 fun j hj=>by simp at hj
theorem getD_lt{l:List Wr}{k:Nat}(hk:k<l.length):l.getD k Nt.zeroW=l[k]:=by rw[List.getD_eq_getElem?_getD,List.getElem?_eq_getElem hk];rfl
theorem obj_up{l:List Wr}(h:∀j,j<l.length→ok l j)(i:Nat):∀d,i+d+1<l.length→Nt.obj l i<Nt.obj l (i+d+1)
 |0,hl=>(h (i+1) hl).2 (by omega)
 |d+1,hl=>by
  have h1:=obj_up h i d (by omega)
  have h2:=(h (i+d+1+1) hl).2 (by omega)
  rw[show i+d+1+1-1=i+d+1 from by omega]at h2
  rw[show i+(d+1)+1=i+d+1+1 from by omega]
  omega
theorem fmd_list(l:List Wr):fmd l=true↔(∀x∈l,right x=true)∧l.Pairwise (fun x y=>x.2.2.1<y.2.2.1):=by
 rw[fmd_iff]
 constructor
 ·intro h
  refine⟨fun x hx =>?_,?_⟩
  ·obtain⟨j,hj,rfl⟩:=List.mem_iff_getElem.1 hx
   have:=(h j hj).1
   rw[getD_lt hj]at this
   exact this
  ·rw[List.pairwise_iff_getElem]
   intro i j hi hj hij
   have:=obj_up h i (j-i-1) (by omega)
   rw[show i+(j-i-1)+1=j from by omega]at this
   unfold Nt.obj at this
   rw[getD_lt hi,getD_lt hj]at this
   exact this
 ·rintro ⟨h1,h2⟩ j hj
  refine⟨by rw[getD_lt hj];exact h1 _ (List.getElem_mem hj),fun h0 =>?_⟩
  have:=(List.pairwise_iff_getElem.1 h2) (j-1) j (by omega) hj (by omega)
  unfold Nt.obj
  rw[getD_lt hj,getD_lt (show j-1<l.length by omega)]
  exact this
def getR(l:List Wr)(o:Int):Wr × Int:=if fmd l=true then (if (Nt.at_ l o).2=true then ((Nt.at_ l o).1,0) else (Nt.zeroW,8)) else (Nt.zeroW,1)
abbrev Mp:=Nat→Option Wr
def set1(f:Mp)(x:Wr):Mp:=fun j=>if (j:Int)=x.2.2.1 then some x else f j
def newer(x:Wr):Option Wr→Wr
 |none=>x
 |some y=>if St.cmpS y.1 y.2.1 x.1 x.2.1<0 then x else y
def put1(f:Mp)(x:Wr):Mp:=fun j=>if (j:Int)=x.2.2.1 then some (newer x (f j)) else f j
def none_:Mp:=fun _=>none
def of(l:List Wr):Mp:=l.foldl set1 none_
def puts(f:Mp)(l:List Wr):Mp:=l.foldl put1 f
def outTo(f:Mp)(k:Nat):List Wr:=(List.range k).filterMap f
theorem outTo_len(f:Mp)(k:Nat):(outTo f k).length≤k:=by
 have:=List.length_filterMap_le f (List.range k)
 rwa [List.length_range]at this
def putR(l list:List Wr):List Wr × Int:=if fmd l=true then (if list.all right=true then (outTo (puts (of l) list) 256,0) else ([],1)) else ([],1)
def fld(x:Wr):Nat→Value
 |0 =>.int .i64 x.1
 |1 =>.int .i64 x.2.1
 |2 =>.int .i64 x.2.2.1
 |_ =>.bool x.2.2.2
def arr(f:Nat→Wr):Array Value:=((List.range 1024).map fun i=>fld (f (i / 4)) (i % 4)).toArray
theorem arr_size(f:Nat→Wr):(arr f).size=1024:=by simp[arr]
theorem arr_get(f:Nat→Wr)(i:Nat)(h:i<1024):(arr f)[i]?=some (fld (f (i / 4)) (i % 4)):=by simp[arr,h]
theorem arr_set(f:Nat→Wr)(j:Nat)(x:Wr)(h:j<256):((((arr f).setIfInBounds (j*4) (.int .i64 x.1)).setIfInBounds (j*4+1) (.int .i64 x.2.1)).setIfInBounds (j*4+2) (.int .i64 x.2.2.1)).setIfInBounds (j*4+3) (.bool x.2.2.2)=arr (fun i=>if i=j then x else f i):=by
 apply Array.ext_getElem?
 intro i
 by_cases hi:i<1024
 ·rw[arr_get _ i hi]
  simp only[Array.getElem?_setIfInBounds,Array.size_setIfInBounds,arr_size,arr_get _ i hi]
  by_cases e:i / 4=j
  ·have:i=j*4∨i=j*4+1∨i=j*4+2∨i=j*4+3:=by omega
   rcases this with rfl|rfl|rfl|rfl
   ·have h1:j*4 / 4=j:=by omega
    have h2:j*4 % 4=0:=by omega
    simp[h1,h2,fld]
    omega
   ·have h1:(j*4+1) / 4=j:=by omega
    have h2:(j*4+1) % 4=1:=by omega
    simp[h1,h2,fld]
    omega
   ·have h1:(j*4+2) / 4=j:=by omega
    have h2:(j*4+2) % 4=2:=by omega
    simp[h1,h2,fld]
    omega
   ·have h1:(j*4+3) / 4=j:=by omega
    have h2:(j*4+3) % 4=3:=by omega
    simp[h1,h2,fld]
    omega
  ·rw[if_neg (by omega),if_neg (by omega),if_neg (by omega),if_neg (by omega),if_neg e]
 ·rw[Array.getElem?_eq_none (by simp[arr_size];omega),Array.getElem?_eq_none (by rw[arr_size];omega)]
end Sf
theorem below_puts{w0 w:World}{g:Nat}(hb:Below w0.heap.size w0 w)(hg:w0.heap.size≤g)(x0 x1 x2 x3:Value):Below w0.heap.size w0 ((((w.setCell ⟨g,0,none⟩ x0).setCell ⟨g,1,none⟩ x1).setCell ⟨g,2,none⟩ x2).setCell ⟨g,3,none⟩ x3):=
 (((hb.setCell (p:=⟨g,0,none⟩) hg _).setCell (p:=⟨g,1,none⟩) hg _).setCell (p:=⟨g,2,none⟩) hg _).setCell (p:=⟨g,3,none⟩) hg _
theorem wr_cells{w:World}{g:Nat}{t:TypeId}{x:Wr}(h:Blk w g t (Nt.wrArr x)):(w.cell? ⟨g,0,none⟩=some (.int .i64 x.1)∧w.cell? ⟨g,1,none⟩=some (.int .i64 x.2.1)∧w.cell? ⟨g,2,none⟩=some (.int .i64 x.2.2.1)∧w.cell? ⟨g,3,none⟩=some (.bool x.2.2.2)) ∧
 (w.frozen? ⟨g,0,none⟩=false∧w.frozen? ⟨g,1,none⟩=false∧w.frozen? ⟨g,2,none⟩=false∧w.frozen? ⟨g,3,none⟩=false):=⟨⟨h.cell rfl,h.cell rfl,h.cell rfl,h.cell rfl⟩,h.free 0,h.free 1,h.free 2,h.free 3⟩
def noNote:Note:=⟨[],[],[],[]⟩
theorem noNote_at(w:World):NoteAt w none none none none 0 0 0 0 noNote:=⟨OneL.nil,OneL.nil,OneL.nil,OneW.nil⟩
theorem one_write{w:World}{g:Nat}{t:TypeId}{y:Wr}(hB:Blk w g t (Nt.wrArr y)):OneW w (some ⟨g,0,none⟩) 1 [y]:=
 ⟨Nat.le_refl _,(by unfold maxLen;omega),(fun h=>by cases h),fun _=>⟨g,0,rfl,fun j u hu=>by
  rw[Nat.zero_add]
  exact hB.cell (by simpa[Nt.wrCells,Nt.wrCell,Nt.wrArr] using hu)⟩⟩
def ofN(l:List (Int × Int))(y:Wr):Note × Int:=
 if (Ve.fmd l=true∧St.rgt y.1 y.2.1=true)∧(0≤y.2.2.1∧y.2.2.1≤255)∧hasOf l y.1 y.2.1=false then (⟨l,Ve.joinL [l,[(y.1,y.2.1)]],[],[y]⟩,0) else (noNote,1)
theorem nt_puts{w:World}{g:Nat}{t:TypeId}{y0 y1 y2 y3:Value}(hB:Blk w g t #[y0,y1,y2,y3])(S E B V:Option Addr)(cs ce cb cv:Nat)(n:Note):Blk ((((w.setCell ⟨g,0,none⟩ (.slice S n.s.length cs)).setCell ⟨g,1,none⟩ (.slice E n.e.length ce)).setCell ⟨g,2,none⟩ (.slice B n.b.length cb)).setCell ⟨g,3,none⟩ (.slice V n.ws.length cv)) g t (noteCells S E B V cs ce cb cv n):=(((hB.put 0 _).put 1 _).put 2 _).put 3 _
theorem nt_cells{w:World}{g:Nat}{t:TypeId}{y0 y1 y2 y3:Value}(h:Blk w g t #[y0,y1,y2,y3]):(w.cell? ⟨g,0,none⟩=some y0∧w.cell? ⟨g,1,none⟩=some y1∧w.cell? ⟨g,2,none⟩=some y2∧w.cell? ⟨g,3,none⟩=some y3) ∧
 (w.frozen? ⟨g,0,none⟩=false∧w.frozen? ⟨g,1,none⟩=false∧w.frozen? ⟨g,2,none⟩=false∧w.frozen? ⟨g,3,none⟩=false):=⟨⟨h.cell rfl,h.cell rfl,h.cell rfl,h.cell rfl⟩,h.free 0,h.free 1,h.free 2,h.free 3⟩
structure Vw where
 k:List (Int × Int)
 z:List Zn
 h:List Wr
 b:List Bd
 r:Int
structure Vl where
 K:Option Addr
 ck:Nat
 k:List (Int × Int)
 Z:Option Addr
 cz:Nat
 z:List Zc
 H:Option Addr
 ch:Nat
 h:List Wr
 B:Option Addr
 cb:Nat
 b:List Bc
 r:Int
def Vl.vw(q:Vl):Vw:=⟨q.k,q.z.map Zc.zn,q.h,q.b.map Bc.b,q.r⟩
def vwCells(q:Vl):Array Value:=#[.slice q.K q.k.length q.ck,.slice q.Z q.z.length q.cz,.slice q.H q.h.length q.ch,.slice q.B q.b.length q.cb,.int .i64 q.r]
def Vl.none:Vl:=⟨Option.none,0,[],Option.none,0,[],Option.none,0,[],Option.none,0,[],0⟩
structure VwAt (w:World) (q:Vl):Prop where
 k:OneL w q.K q.ck q.k
 z:OneZ w q.Z q.cz q.z
 h:OneW w q.H q.ch q.h
 b:OneC w q.B q.cb q.b
theorem VwAt.later{w w':World}{q:Vl}(h:VwAt w q)(hb:Below w.heap.size w w'):VwAt w' q:=⟨h.k.later hb,h.z.later hb,h.h.later hb,h.b.later hb⟩
theorem VwAt.none(w:World):VwAt w Vl.none:=⟨OneL.nil,OneZ.nil _,OneW.nil,OneC.nil _⟩
namespace Vw
def zero:Vw:=⟨[],[],[],[],0⟩
def has(v:Vw)(y:Wr):Bool:=hasOf (Tr.rchR v.z v.k y.2.2.1) y.1 y.2.1
def wants(v:Vw)(x:Bd):Bool:=(Nt.at_ v.h x.o).2&&(decide ((Nt.at_ v.h x.o).1.1=x.c∧(Nt.at_ v.h x.o).1.2.1=x.n) && !(Nt.at_ v.h x.o).1.2.2.2)
def fmd(v:Vw):Bool:=
 (Ve.fmd v.k&&(Tr.fmd v.z&&(Sf.fmd v.h&&Ca.fmd v.b v.r)))&&(v.z.all (fun z=>decide (Ve.stand (Ve.cnt z.2.2) (Ve.cnt v.k)=1))&&(v.h.all v.has&&v.b.all v.wants))
def newR(room:Int):Vw × Int:=if 0≤room∧room≤16777216 then (⟨[],[],[],[],room⟩,0) else (zero,1)
def heldR(v:Vw)(z:List Zn)(known:List (Int × Int))(n:Note):List Wr:=(Sf.putR v.h (n.ws.filter (Vw.has ⟨known,z,[],[],v.r⟩))).1
def takeR(v:Vw)(n:Note):Vw × Int:=
 if fmd v=true then
  (if (Tr.tkR v.z v.k n).2.2=0 then
    (⟨(Tr.tkR v.z v.k n).2.1,(Tr.tkR v.z v.k n).1,heldR v (Tr.tkR v.z v.k n).1 (Tr.tkR v.z v.k n).2.1 n,
     v.b.filter (Vw.wants ⟨(Tr.tkR v.z v.k n).2.1,(Tr.tkR v.z v.k n).1,heldR v (Tr.tkR v.z v.k n).1 (Tr.tkR v.z v.k n).2.1 n,[],v.r⟩),v.r⟩,0)
   else (zero,(Tr.tkR v.z v.k n).2.2))
 else (zero,1)
def bodyR(v:Vw)(x:Bd):Vw × Int:=
 if fmd v=true∧Wi.bright x=true then (if wants v x=true then (⟨v.k,v.z,v.h,(Ca.putR v.b v.r x).1,v.r⟩,0) else (zero,13)) else (zero,1)
def nxt(v:Vw)(me skip:Int):(Int × Int) × Int:=((St.nextC (Ve.top (Ve.cnt v.k)) me skip,St.nextN (Ve.top (Ve.cnt v.k)) me skip),St.nextE (Ve.top (Ve.cnt v.k)) me skip)
def noteR(v:Vw)(me o skip:Int)(gone:Bool):Note:=(ofN v.k ((nxt v me skip).1.1,(nxt v me skip).1.2,o,gone)).1
def writeR(v:Vw)(me o skip:Int)(val:List Int)(gone:Bool):Vw × Note × Int:=
 if fmd v=true∧0≤o∧o≤255∧val.length≤256∧(gone=true→val=[]) then
  (if (nxt v me skip).2=0 then
    (if gone=true then ((takeR v (noteR v me o skip gone)).1,noteR v me o skip gone,0)
     else (if (bodyR (takeR v (noteR v me o skip gone)).1 ⟨o,(nxt v me skip).1.1,(nxt v me skip).1.2,val⟩).2=0 then
       ((bodyR (takeR v (noteR v me o skip gone)).1 ⟨o,(nxt v me skip).1.1,(nxt v me skip).1.2,val⟩).1,noteR v me o skip gone,0)
      else (zero,noNote,(bodyR (takeR v (noteR v me o skip gone)).1 ⟨o,(nxt v me skip).1.1,(nxt v me skip).1.2,val⟩).2)))
   else (zero,noNote,(nxt v me skip).2))
 else (zero,noNote,1)
def readR(v:Vw)(o:Int):List Int × Wr × Int:=
 if fmd v=true∧0≤o∧o≤255 then
  (if (Tr.at_ v.z o).isSome=true then ([],Nt.zeroW,9)
   else if (Nt.at_ v.h o).2=false then ([],Nt.zeroW,8)
   else if (Nt.at_ v.h o).1.2.2.2=true then ([],(Nt.at_ v.h o).1,0)
   else ((Ca.getR v.b o (Nt.at_ v.h o).1.1 (Nt.at_ v.h o).1.2.1).1,(Nt.at_ v.h o).1,(Ca.getR v.b o (Nt.at_ v.h o).1.1 (Nt.at_ v.h o).1.2.1).2))
 else ([],Nt.zeroW,1)
end Vw
def intAt:Value→Bool
 | .int .i64 _=>true
 |_=>false
def byteAt:Value→Bool
 | .int .u8 _=>true
 |_=>false
def headInt:List Value→Bool
 |y::_=>intAt y
 | []=>false
def dullL:List Value→Bool
 | []=>true
 |x::r =>!byteAt x&&(!(intAt x&&headInt r)&&dullL r)
def dull(cs:Array Value):Bool:=dullL cs.toList
theorem dullL_two:∀{l:List Value} {i:Nat} {x y:Value},dullL l=true→l[i]?=some x→l[i+1]?=some y→intAt x=true→intAt y=true→False
 | [],i,x,y,_,h,_,_,_=>by simp at h
 |a::r,0,x,y,hd,hx,hy,ix,iy=>by
  simp at hx hy
  subst hx
  have hh:headInt r=true:=by
   cases r with
   |nil=>simp at hy
   |cons b s=>simp at hy;subst hy;exact iy
  simp only[dullL,ix,hh,Bool.and_self,Bool.not_true,Bool.false_and,Bool.and_false]at hd
  cases hd
 |a::r,i+1,x,y,hd,hx,hy,ix,iy=>by
  simp only[dullL,Bool.and_eq_true]at hd
  exact dullL_two (l:=r) (i:=i) hd.2.2 (by simpa using hx) (by simpa using hy) ix iy
theorem dullL_byte:∀{l:List Value} {i:Nat} {x:Value},dullL l=true→l[i]?=some x→byteAt x=false
 | [],i,x,_,h=>by simp at h
 |a::r,0,x,hd,hx=>by
  simp at hx
  subst hx
  simp only[dullL,Bool.and_eq_true,Bool.not_eq_true']at hd
  exact hd.1
 |a::r,i+1,x,hd,hx=>by
  simp only[dullL,Bool.and_eq_true]at hd
  exact dullL_byte (l:=r) (i:=i) hd.2.2 (by simpa using hx)
section
variable {w:World} {g:Nat} {t:TypeId} {cs:Array Value}
theorem Lies.far{A:Option Addr}{xs:List Value}(h:Lies w A xs)(h2:xs≠[]→∃x y,xs[0]?=some x∧xs[1]?=some y∧intAt x=true∧intAt y=true)(hB:Blk w g t cs)(hd:dull cs=true)(i:Nat)(v:Value):Lies (w.setCell ⟨g,i,none⟩ v) A xs:=fun hne=>by
 obtain⟨b,off,hA,hl⟩:=h hne
 obtain⟨x,y,hx,hy,ix,iy⟩:=h2 hne
 refine⟨b,off,hA,fun j u hu =>?_⟩
 have h0:=hl 0 x hx
 have h1:=hl 1 y hy
 have hbg:b≠g:=fun e=>by
  subst e
  rw[cell_of_row w b _ cs t (0,0) hB]at h0 h1
  rw[←Array.getElem?_toList]at h0 h1
  exact dullL_two hd h0 h1 ix iy
 exact(World.cell?_of_block (Below.heap_setCell w ⟨g,i,none⟩ v b hbg)).trans (hl j u hu)
theorem Lies.farB{A:Option Addr}{xs:List Value}(h:Lies w A xs)(h2:∀u∈xs,byteAt u=true)(hB:Blk w g t cs)(hd:dull cs=true)(i:Nat)(v:Value):Lies (w.setCell ⟨g,i,none⟩ v) A xs:=fun hne=>by
 obtain⟨b,off,hA,hl⟩:=h hne
 refine⟨b,off,hA,fun j u hu =>?_⟩
 have h0:=hl j u hu
 have hbg:b≠g:=fun e=>by
  subst e
  rw[cell_of_row w b _ cs t (0,0) hB]at h0
  rw[←Array.getElem?_toList]at h0
  have h3:=dullL_byte hd h0
  rw[h2 u (List.mem_of_getElem? hu)]at h3
  cases h3
 exact(World.cell?_of_block (Below.heap_setCell w ⟨g,i,none⟩ v b hbg)).trans h0
theorem OneL.far{A:Option Addr}{c:Nat}{l:List (Int × Int)}(h:OneL w A c l)(hB:Blk w g t cs)(hd:dull cs=true)(i:Nat)(v:Value):OneL (w.setCell ⟨g,i,none⟩ v) A c l:=
 ⟨h.1,h.2.1,h.2.2.1,h.2.2.2.far (fun hne=>by
  cases l with
  |nil=>exact absurd rfl hne
  |cons x r=>exact⟨_,_,rfl,rfl,rfl,rfl⟩) hB hd i v⟩
theorem OneW.far{A:Option Addr}{c:Nat}{l:List Wr}(h:OneW w A c l)(hB:Blk w g t cs)(hd:dull cs=true)(i:Nat)(v:Value):OneW (w.setCell ⟨g,i,none⟩ v) A c l:=
 ⟨h.1,h.2.1,h.2.2.1,h.2.2.2.far (fun hne=>by
  cases l with
  |nil=>exact absurd rfl hne
  |cons x r=>exact⟨_,_,rfl,rfl,rfl,rfl⟩) hB hd i v⟩
theorem OneB.far{A:Option Addr}{c:Nat}{l:List Int}(h:OneB w A c l)(hB:Blk w g t cs)(hd:dull cs=true)(i:Nat)(v:Value):OneB (w.setCell ⟨g,i,none⟩ v) A c l:=
 ⟨h.le,h.cap,h.noA,h.lies.farB (fun u hu=>by
  unfold bCells at hu
  obtain⟨x,_,rfl⟩:=List.mem_map.1 hu
  rfl) hB hd i v,h.byte⟩
def noByte(cs:Array Value):Bool:=cs.toList.all fun u =>!byteAt u
theorem OneB.near{A:Option Addr}{c:Nat}{l:List Int}(h:OneB w A c l)(hB:Blk w g t cs)(hd:noByte cs=true)(i:Nat)(v:Value):OneB (w.setCell ⟨g,i,none⟩ v) A c l:=by
 refine⟨h.le,h.cap,h.noA,fun hne =>?_,h.byte⟩
 obtain⟨b,off,hA,hl⟩:=h.lies hne
 refine⟨b,off,hA,fun j u hu =>?_⟩
 have h0:=hl j u hu
 have hbg:b≠g:=fun e=>by
  subst e
  rw[cell_of_row w b _ cs t (0,0) hB]at h0
  rw[←Array.getElem?_toList]at h0
  have h3:=List.all_eq_true.1 hd u (List.mem_of_getElem? h0)
  have h4:=List.mem_of_getElem? hu
  unfold bCells at h4
  obtain⟨x,_,rfl⟩:=List.mem_map.1 h4
  cases h3
 exact(World.cell?_of_block (Below.heap_setCell w ⟨g,i,none⟩ v b hbg)).trans h0
theorem OneZ.far{A:Option Addr}{c:Nat}{L:List Zc}(h:OneZ w A c L)(hB:Blk w g t cs)(hd:dull cs=true)(i:Nat)(v:Value):OneZ (w.setCell ⟨g,i,none⟩ v) A c L:=
 ⟨h.le,h.cap,h.noA,h.lies.far (fun hne=>by
  cases L with
  |nil=>exact absurd rfl hne
  |cons x r=>exact⟨_,_,rfl,rfl,rfl,rfl⟩) hB hd i v,fun z hz=>(h.each z hz).far hB hd i v⟩
theorem OneC.far{A:Option Addr}{c:Nat}{L:List Bc}(h:OneC w A c L)(hB:Blk w g t cs)(hd:dull cs=true)(i:Nat)(v:Value):OneC (w.setCell ⟨g,i,none⟩ v) A c L:=
 ⟨h.le,h.cap,h.noA,h.lies.far (fun hne=>by
  cases L with
  |nil=>exact absurd rfl hne
  |cons x r=>exact⟨_,_,rfl,rfl,rfl,rfl⟩) hB hd i v,fun z hz=>(h.each z hz).far hB hd i v⟩
theorem VwAt.far{q:Vl}(h:VwAt w q)(hB:Blk w g t cs)(hd:dull cs=true)(i:Nat)(v:Value):VwAt (w.setCell ⟨g,i,Option.none⟩ v) q:=⟨h.k.far hB hd i v,h.z.far hB hd i v,h.h.far hB hd i v,h.b.far hB hd i v⟩
end
def GivesVwE(v:Vw)(x:Int)(w:World)(e:Ending)(w':World):Prop:=∃q,e = .returned (.tuple #[.agg (vwCells q),.int .i64 x])∧q.vw=v∧VwAt w' q∧Below w.heap.size w w'
theorem infoVw:(Tryz.prog.info? 27).map (·.size)=some 5:=by kernel_rfl
theorem infoZn:(Tryz.prog.info? 99).map (fun i=>(i.zero,i.size,i.bytes))=some (some (.agg #[.int .i64 0,.int .i64 0,.slice none 0 0]),3,40):=by kernel_rfl
structure OwnZ (w:World) (base:Nat) (v:Value) (L:List Zc):Prop where
 row:w.ownsRow base 99 3 v L.length (zCells L)
 each:∀z∈L,w.ownsRow base 46 2 (.slice z.X z.l.length z.c) z.l.length (stCells z.l)
section
variable {w w2:World} {base:Nat} {v v2:Value} {L:List Zc}
theorem OwnZ.nil(w:World)(base:Nat):OwnZ w base (.slice none 0 0) []:=⟨⟨rfl,.inl ⟨rfl,rfl⟩⟩,fun _ h=>by cases h⟩
theorem OwnZ.later(h:OwnZ w base v L)(hb:Below w.heap.size w w2):OwnZ w2 base v L:=⟨own_later h.row hb,fun z hz=>own_later (h.each z hz) hb⟩
theorem OwnZ.one(h:OwnZ w base v L):∃A c,v = .slice A L.length c∧OneZ w A c L:=by
 obtain⟨A,c,h1,h2,h3,h4,h5⟩:=own_form h.row
 refine⟨A,c,h1,h2,h3,h4,h5,fun z hz =>?_⟩
 obtain⟨X,cx,e1,e2⟩:=OneL.of_own (h.each z hz)
 injection e1 with e3 _ e4
 subst e3 e4
 exact e2
end
end Go.Proofs.YtjlfehpockfkdaaGreat
namespace Go.Proofs.YtjlfehpockfkdaaGreat
open Go.RowKit Fb
namespace Tr
theorem short{l:List (Int × Int)}(h:Ve.fmd l=true):l.length≤64:=by
 have hf:=(Ve.fmd_iff l).1 h
 have up:∀j,j<l.length→(j:Int)≤(l.getD j (0,0)).2∧(l.getD j (0,0)).2≤63:=by
  intro j
  induction j with
  |zero=>
   intro hj
   have h1:=(hf 0 hj).1
   unfold St.rgt at h1
   have:=of_decide_eq_true h1
   omega
  |succ j ih=>
   intro hj
   have h1:=ih (by omega)
   have h2:=hf (j+1) hj
   have h3:=h2.2 (by omega)
   have h4:=h2.1
   unfold St.rgt at h4
   have:=of_decide_eq_true h4
   rw[Nat.add_sub_cancel]at h3
   omega
 rcases Nat.lt_or_ge 64 l.length with h1|h1
 ·have:=up 64 h1
  omega
 ·exact h1
theorem vec_fmd{zs:List Zn}(h:fmd zs=true){k:Nat}(hk:k<zs.length):Ve.fmd (zs.getD k (0,0,[])).2.2=true:=((fmd_iff zs).1 h k hk).2.1
theorem rch_fmd{zs:List Zn}{known:List (Int × Int)}(h:fmd zs=true)(hk:Ve.fmd known=true)(o:Int):Ve.fmd (rch zs known o)=true:=by
 unfold rch
 rcases at_ways zs o with ⟨-,h2,-⟩|⟨k,h0,-,h2,-,-⟩
 ·rw[h2];exact hk
 ·rw[h2];exact vec_fmd h h0
end Tr
namespace Tr
theorem mkTo_none{f:Nat→Option (List (Int × Int))}{k:Nat}(h:f k=none):mkTo f (k+1)=mkTo f k:=by
 show(match f k with|none=>mkTo f k|some v=>if goesOn (mkTo f k) k v=true then ext (mkTo f k) k else mkTo f k++[((k:Int),(k:Int),v)])=_
 rw[h]
theorem mkTo_on{f:Nat→Option (List (Int × Int))}{k:Nat}{v:List (Int × Int)}(h:f k=some v)(hg:goesOn (mkTo f k) k v=true):mkTo f (k+1)=ext (mkTo f k) k:=by
 show(match f k with|none=>mkTo f k|some v=>if goesOn (mkTo f k) k v=true then ext (mkTo f k) k else mkTo f k++[((k:Int),(k:Int),v)])=_
 rw[h]
 dsimp only
 rw[if_pos hg]
theorem mkTo_new{f:Nat→Option (List (Int × Int))}{k:Nat}{v:List (Int × Int)}(h:f k=some v)(hg:goesOn (mkTo f k) k v=false):mkTo f (k+1)=mkTo f k++[((k:Int),(k:Int),v)]:=by
 show(match f k with|none=>mkTo f k|some v=>if goesOn (mkTo f k) k v=true then ext (mkTo f k) k else mkTo f k++[((k:Int),(k:Int),v)])=_
 rw[h]
 dsimp only
 rw[if_neg (by rw[hg];exact Bool.false_ne_true)]
theorem ext_len(zs:List Zn)(k:Nat)(h:0<zs.length):(ext zs k).length=zs.length:=by
 unfold ext
 rw[List.length_append,List.length_dropLast]
 simp
 omega
theorem last_snoc(zs:List Zn)(z:Zn):(zs++[z]).getD ((zs++[z]).length-1) (0,0,[])=z:=by
 rw[List.length_append,List.length_singleton,Nat.add_sub_cancel,List.getD_eq_getElem?_getD,List.getElem?_concat_length]
 rfl
theorem goes_snoc(zs:List Zn)(z:Zn)(k:Nat)(v:List (Int × Int)):goesOn (zs++[z]) k v=decide (z.2.1=(k:Int)-1∧z.2.2=v):=by
 unfold goesOn
 rw[last_snoc]
 have:0<(zs++[z]).length:=by rw[List.length_append];simp
 by_cases q:z.2.1=(k:Int)-1∧z.2.2=v
 ·rw[decide_eq_true q,decide_eq_true ⟨this,q⟩]
 ·rw[decide_eq_false q,decide_eq_false (fun h=>q h.2)]
theorem ext_snoc(zs:List Zn)(z:Zn)(k:Nat):ext (zs++[z]) k=zs++[((z.1,(k:Int),z.2.2):Zn)]:=by
 unfold ext
 rw[last_snoc,List.dropLast_concat]
theorem goes_nil(k:Nat)(v:List (Int × Int)):goesOn [] k v=false:=by
 unfold goesOn
 exact decide_eq_false (fun h=>by cases h.1)
end Tr
end Go.Proofs.YtjlfehpockfkdaaGreat
namespace Go.Proofs.YtjlfehpockfkdaaGreat
open Go.RowKit
namespace Sf
def Keyed(f:Mp):Prop:=∀j x,f j=some x→x.2.2.1=(j:Int)∧j<256∧right x=true
theorem keyed_none:Keyed none_:=fun j x h=>by cases h
theorem Keyed.set{f:Mp}(h:Keyed f){x:Wr}(hx:right x=true):Keyed (set1 f x):=fun j y hy=>by
 unfold set1 at hy
 by_cases e:(j:Int)=x.2.2.1
 ·rw[if_pos e]at hy
  injection hy with hy
  subst hy
  have:=(right_iff x).1 hx
  exact⟨e.symm,by omega,hx⟩
 ·rw[if_neg e]at hy
  exact h j y hy
theorem newer_or(x:Wr)(y:Option Wr):newer x y=x∨some (newer x y)=y:=by
 cases y with
 |none=>exact .inl rfl
 |some y=>
  show(if St.cmpS y.1 y.2.1 x.1 x.2.1<0 then x else y)=x∨some (if St.cmpS y.1 y.2.1 x.1 x.2.1<0 then x else y)=some y
  split
  ·exact .inl rfl
  ·exact .inr rfl
theorem Keyed.put{f:Mp}(h:Keyed f){x:Wr}(hx:right x=true):Keyed (put1 f x):=fun j y hy=>by
 unfold put1 at hy
 by_cases e:(j:Int)=x.2.2.1
 ·rw[if_pos e]at hy
  injection hy with hy
  subst hy
  rcases newer_or x (f j) with h2|h2
  ·rw[h2]
   have:=(right_iff x).1 hx
   exact⟨e.symm,by omega,hx⟩
  ·exact h j _ h2.symm
 ·rw[if_neg e]at hy
  exact h j y hy
theorem Keyed.sets{f:Mp}(h:Keyed f):∀(l:List Wr),(∀x∈l,right x=true)→Keyed (l.foldl set1 f)
 | [],_=>h
 |x::r,hr=>(h.set (hr x (by simp))).sets r fun y hy=>hr y (by simp[hy])
theorem Keyed.puts{f:Mp}(h:Keyed f):∀(l:List Wr),(∀x∈l,right x=true)→Keyed (Sf.puts f l)
 | [],_=>h
 |x::r,hr=>Keyed.puts (f:=put1 f x) (h.put (hr x (by simp))) r fun y hy=>hr y (by simp[hy])
theorem keyed_of{l:List Wr}(h:fmd l=true):Keyed (of l):=keyed_none.sets l ((fmd_list l).1 h).1
theorem mem_outTo{f:Mp}{k:Nat}{x:Wr}:x∈outTo f k↔∃j,j<k∧f j=some x:=by
 unfold outTo
 rw[List.mem_filterMap]
 simp
theorem fmd_outTo{f:Mp}(h:Keyed f):fmd (outTo f 256)=true:=by
 rw[fmd_list]
 refine⟨fun x hx =>?_,?_⟩
 ·obtain⟨j,_,hj⟩:=mem_outTo.1 hx
  exact(h j x hj).2.2
 ·unfold outTo
  rw[List.pairwise_filterMap]
  refine List.Pairwise.imp ?_ (List.pairwise_lt_range (n:=256))
  intro i j hij x hx y hy
  have h1:=(h i x hx).1
  have h2:=(h j y hy).1
  omega
theorem of_iff{l:List Wr}(h:fmd l=true)(j:Nat)(x:Wr):of l j=some x↔x∈l∧x.2.2.1=(j:Int):=by
 have hp:=((fmd_list l).1 h).2
 clear h
 unfold of
 suffices H:∀(r:List Wr) (f:Mp),r.Pairwise (fun x y=>x.2.2.1<y.2.2.1)→(r.foldl set1 f j=some x↔(x∈r∧x.2.2.1=(j:Int))∨((∀y∈r,y.2.2.1≠(j:Int))∧f j=some x)) by
  rw[H l none_ hp]
  constructor
  ·rintro (h|⟨_,h⟩)
   ·exact h
   ·cases h
  ·exact .inl
 intro r
 induction r with
 |nil=>intro f _;simp
 |cons y r ih=>
  intro f hr
  rw[List.pairwise_cons]at hr
  rw[List.foldl_cons,ih _ hr.2]
  unfold set1
  by_cases e:(j:Int)=y.2.2.1
  ·rw[if_pos e]
   constructor
   ·rintro (⟨h1,h2⟩|⟨h1,h2⟩)
    ·exact .inl ⟨by simp[h1],h2⟩
    ·injection h2 with h2
     subst h2
     exact .inl ⟨by simp,e.symm⟩
   ·rintro (⟨h1,h2⟩|⟨h1,h2⟩)
    ·rcases List.mem_cons.1 h1 with rfl|h1
     ·exact .inr ⟨fun z hz=>by have:=hr.1 z hz;omega,rfl⟩
     ·exact .inl ⟨h1,h2⟩
    ·exact absurd e.symm (h1 y (by simp))
  ·rw[if_neg e]
   constructor
   ·rintro (⟨h1,h2⟩|⟨h1,h2⟩)
    ·exact .inl ⟨by simp[h1],h2⟩
    ·exact .inr ⟨fun z hz=>by rcases List.mem_cons.1 hz with rfl|hz;exact fun q=>e q.symm;exact h1 z hz,h2⟩
   ·rintro (⟨h1,h2⟩|⟨h1,h2⟩)
    ·rcases List.mem_cons.1 h1 with rfl|h1
     ·exact absurd h2.symm e
     ·exact .inl ⟨h1,h2⟩
    ·exact .inr ⟨fun z hz=>h1 z (by simp[hz]),h2⟩
theorem sorted_ext{l r:List Wr}(hl:l.Pairwise (fun x y=>x.2.2.1<y.2.2.1))(hr:r.Pairwise (fun x y=>x.2.2.1<y.2.2.1))(h:∀x,x∈l↔x∈r):l=r:=by
 induction l generalizing r with
 |nil=>
  cases r with
  |nil=>rfl
  |cons y r=>have:=(h y).2 (by simp);simp at this
 |cons x l ih=>
  cases r with
  |nil=>have:=(h x).1 (by simp);simp at this
  |cons y r=>
   rw[List.pairwise_cons]at hl hr
   have e:x=y:=by
    rcases List.mem_cons.1 ((h x).1 (by simp)) with e|hx
    ·exact e
    ·rcases List.mem_cons.1 ((h y).2 (by simp)) with e|hy
     ·exact e.symm
     ·have h1:=hr.1 x hx
      have h2:=hl.1 y hy
      omega
   subst e
   congr 1
   refine ih hl.2 hr.2 fun z =>?_
   constructor
   ·intro hz
    rcases List.mem_cons.1 ((h z).1 (by simp[hz])) with e|h1
    ·subst e;have:=hl.1 z hz;omega
    ·exact h1
   ·intro hz
    rcases List.mem_cons.1 ((h z).2 (by simp[hz])) with e|h1
    ·subst e;have:=hr.1 z hz;omega
    ·exact h1
theorem out_of{l:List Wr}(h:fmd l=true):outTo (of l) 256=l:=by
 have hk:=keyed_of h
 refine sorted_ext ((fmd_list _).1 (fmd_outTo hk)).2 ((fmd_list l).1 h).2 fun x =>?_
 rw[mem_outTo]
 constructor
 ·rintro ⟨j,_,hj⟩
  exact((of_iff h j x).1 hj).1
 ·intro hx
  have hr:=(right_iff x).1 (((fmd_list l).1 h).1 x hx)
  exact⟨x.2.2.1.toNat,by omega,(of_iff h _ x).2 ⟨hx,by omega⟩⟩
theorem fmd_len{l:List Wr}(h:fmd l=true):l.length≤256:=by
 have:=outTo_len (of l) 256
 rwa [out_of h]at this
theorem all_right{l:List Wr}(h:l.all right=true):∀x∈l,right x=true:=List.all_eq_true.1 h
theorem putR_ways(l r:List Wr):(putR l r).2=0∧fmd (putR l r).1=true∨(putR l r)=([],1):=by
 unfold putR
 by_cases h:fmd l=true
 ·rw[if_pos h]
  by_cases h2:r.all right=true
  ·rw[if_pos h2]
   exact .inl ⟨rfl,fmd_outTo ((keyed_of h).puts r (all_right h2))⟩
  ·rw[if_neg h2]
   exact .inr rfl
 ·rw[if_neg h]
  exact .inr rfl
end Sf
theorem isNaN_any(a:Int)(w:World):Calls Tryz.prog 178 #[.int .i64 a] w fun e w'=>e = .returned (.bool false)∧w=w':=by
 go_enter Tryz.func178,Tryz.ntmps178
 go_wp2
 go_ret
 simp
theorem cmp_any(a b:Int)(w:World):Calls Tryz.prog 176 #[.int .i64 a,.int .i64 b] w fun e w'=>e = .returned (.int .i64 (St.cmpI a b))∧w=w':=by
 rcases Int.lt_trichotomy a b with h|h|h
 ·go_enter Tryz.func176,Tryz.ntmps176
  go_wp2_with (go_at_call 178;refine(isNaN_any _ _).mono ?_;rintro e w' ⟨rfl,rfl⟩)
  go_ret
  rw[St.cmpI_lt h];exact⟨rfl,rfl⟩
 ·subst h
  go_enter Tryz.func176,Tryz.ntmps176
  go_wp2_with (go_at_call 178;refine(isNaN_any _ _).mono ?_;rintro e w' ⟨rfl,rfl⟩)
  go_ret
  rw[St.cmpI_eq rfl];exact⟨rfl,rfl⟩
 ·have h2:¬a<b:=by omega
  go_enter Tryz.func176,Tryz.ntmps176
  go_wp2_with (go_at_call 178;refine(isNaN_any _ _).mono ?_;rintro e w' ⟨rfl,rfl⟩)
  go_ret
  rw[St.cmpI_gt h];exact⟨rfl,rfl⟩
theorem compare_any(c n c' n':Int)(w:World) :
  Calls Tryz.prog 168 #[.agg #[.int .i64 c,.int .i64 n],.agg #[.int .i64 c',.int .i64 n']] w fun e w'=>e = .returned (.int .i64 (St.cmpS c n c' n'))∧Below w.heap.size w w':=by
 rcases Int.lt_trichotomy c c' with h|h|h
 ·have h1:(St.cmpI c c' != 0)=true:=by rw[St.cmpI_lt h];rfl
  go_enter Tryz.func168,Tryz.ntmps168
  go_wp2_with (go_at_call 176;refine(cmp_any _ _ _).mono ?_;rintro e w' ⟨rfl,rfl⟩)
  go_ret
  rw[St.cmpI_lt h,St.cmpS_lt h]
  exact⟨rfl,by repeat (first|exact Below.refl _ _|exact Nat.le_refl _|(apply Below.drew)|(refine Below.alloc ?_ ?_ _)|(refine Below.setCell ?_ ?_ _)|(simp;done)|(simp;omega))⟩
 ·subst h
  have h1:(St.cmpI c c != 0)=false:=by rw[St.cmpI_eq rfl];rfl
  go_enter Tryz.func168,Tryz.ntmps168
  go_wp2_with (go_at_call 176;refine(cmp_any _ _ _).mono ?_;rintro e w' ⟨rfl,rfl⟩)
  go_ret
  rw[St.cmpS_eq rfl]
  exact⟨rfl,by repeat (first|exact Below.refl _ _|exact Nat.le_refl _|(apply Below.drew)|(refine Below.alloc ?_ ?_ _)|(refine Below.setCell ?_ ?_ _)|(simp;done)|(simp;omega))⟩
 ·have h1:(St.cmpI c c' != 0)=true:=by rw[St.cmpI_gt h];rfl
  go_enter Tryz.func168,Tryz.ntmps168
  go_wp2_with (go_at_call 176;refine(cmp_any _ _ _).mono ?_;rintro e w' ⟨rfl,rfl⟩)
  go_ret
  rw[St.cmpI_gt h,St.cmpS_gt h]
  exact⟨rfl,by repeat (first|exact Below.refl _ _|exact Nat.le_refl _|(apply Below.drew)|(refine Below.alloc ?_ ?_ _)|(refine Below.setCell ?_ ?_ _)|(simp;done)|(simp;omega))⟩
end Go.Proofs.YtjlfehpockfkdaaGreat
namespace Go.Proofs.YtjlfehpockfkdaaGreat
open Go.RowKit Fb
section
variable {w:World} {g:Nat} {t:TypeId} {f:Nat→Wr}
theorem Blk.wrs_put(h:Blk w g t (Sf.arr f))(j:Nat)(hj:j<256)(x:Wr):Blk ((((w.setCell ⟨g,j*4,none⟩ (.int .i64 x.1)).setCell ⟨g,j*4+1,none⟩ (.int .i64 x.2.1)).setCell ⟨g,j*4+2,none⟩ (.int .i64 x.2.2.1)).setCell ⟨g,j*4+3,none⟩ (.bool x.2.2.2)) g t (Sf.arr fun i=>if i=j then x else f i):=by
 have h2:=(((h.put (j*4) (.int .i64 x.1)).put (j*4+1) (.int .i64 x.2.1)).put (j*4+2) (.int .i64 x.2.2.1)).put (j*4+3) (.bool x.2.2.2)
 rw[Sf.arr_set f j x hj]at h2
 exact h2
theorem Blk.wrs_cells(h:Blk w g t (Sf.arr f))(j:Nat)(hj:j<256):w.cell? ⟨g,j*4,none⟩=some (.int .i64 (f j).1)∧w.cell? ⟨g,j*4+1,none⟩=some (.int .i64 (f j).2.1)∧w.cell? ⟨g,j*4+2,none⟩=some (.int .i64 (f j).2.2.1)∧w.cell? ⟨g,j*4+3,none⟩=some (.bool (f j).2.2.2):=by
 refine⟨h.cell ?_,h.cell ?_,h.cell ?_,h.cell ?_⟩
 ·rw[Sf.arr_get f _ (by omega),show j*4 / 4=j by omega,show j*4 % 4=0 by omega];rfl
 ·rw[Sf.arr_get f _ (by omega),show(j*4+1) / 4=j by omega,show(j*4+1) % 4=1 by omega];rfl
 ·rw[Sf.arr_get f _ (by omega),show(j*4+2) / 4=j by omega,show(j*4+2) % 4=2 by omega];rfl
 ·rw[Sf.arr_get f _ (by omega),show(j*4+3) / 4=j by omega,show(j*4+3) % 4=3 by omega];rfl
end
theorem Vw.all_to{α:Type}(l:List α)(p:α→Bool)(h:∀(j:Nat) (x:α),l[j]?=some x→p x=true):l.all p=true:=by
 rw[List.all_eq_true]
 intro x hx
 obtain⟨j,hj,rfl⟩:=List.mem_iff_getElem.1 hx
 exact h j _ (List.getElem?_eq_getElem hj)
theorem Vw.all_at{α:Type}{l:List α}{p:α→Bool}(j:Nat)(x:α)(hx:l[j]?=some x)(hp:p x=false):l.all p=false:=by
 rw[List.all_eq_false]
 exact⟨x,List.mem_of_getElem? hx,by rw[hp];exact Bool.false_ne_true⟩
theorem OneB.nil{w:World}:OneB w none 0 []:=⟨Nat.le_refl _,Nat.zero_le _,fun _=>⟨rfl,rfl⟩,fun h=>absurd rfl h,fun _ h=>by cases h⟩
theorem fmd_fits{L:List Bc}{r:Int}(h:Ca.fmd (L.map Bc.b) r=true):Fits L:=(Ca.fmd_parts h).2.2.2.2
theorem Vw.fmd_b{v:Vw}(h:Vw.fmd v=true):Ca.fmd v.b v.r=true:=by
 unfold Vw.fmd at h
 simp only[Bool.and_eq_true]at h
 exact h.1.2.2.2
theorem getR_byte{l:List Bd}(h:∀x∈l,∀u∈x.v,isB u)(o c n:Int):∀u∈(Ca.getR l o c n).1,isB u:=by
 unfold Ca.getR Ca.find
 cases hf:l.find? (fun x=>decide (x.o=o∧x.c=c∧x.n=n)) with
 |none=>intro u hu;cases hu
 |some x=>exact h x (List.mem_of_find?_eq_some hf)
end Go.Proofs.YtjlfehpockfkdaaGreat
