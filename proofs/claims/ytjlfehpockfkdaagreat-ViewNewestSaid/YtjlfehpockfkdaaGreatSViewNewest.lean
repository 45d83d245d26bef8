/-
  For any list of acts, any number of 16 bits and any number, the law ViewNewest returns true and leaves its arguments as they were. No condition.
-/
import Derived.Test.YtjlfehpockfkdaaGreatB01
import Derived.Test.YtjlfehpockfkdaaGreatRows
import Derived.OpenShut
import Derived.WalkKit
import Derived.ProofKit
import Derived.SizedLaws
import Derived.Test.YtjlfehpockfkdaaGreatB07
import Derived.Test.YtjlfehpockfkdaaGreatSViewNewestA
import Derived.Test.YtjlfehpockfkdaaGreatSViewNewestB
namespace Go.Proofs.YtjlfehpockfkdaaGreat
open Go.RowKit
theorem viewLo:ViewLo where
 take:=vdtakeN_any
 write:=vdwriteN_any
 body:=vdbodyN_any
end Go.Proofs.YtjlfehpockfkdaaGreat
namespace Go.Proofs.YtjlfehpockfkdaaGreat.viewNewest
open Go.ChangeShapes Go.WideShapes Go.ChangeAt Go.RowKit
theorem cellsStamp:Tryz.prog.cellsOf 46=2:=by kernel_rfl
theorem bytesStamp:Tryz.prog.bytesOf 46=16:=by kernel_rfl
theorem cellsSpan:Tryz.prog.cellsOf 97=2:=by kernel_rfl
theorem bytesSpan:Tryz.prog.bytesOf 97=16:=by kernel_rfl
theorem cellsWrite:Tryz.prog.cellsOf 52=4:=by kernel_rfl
theorem bytesWrite:Tryz.prog.bytesOf 52=32:=by kernel_rfl
theorem own:ownKnob Tryz.prog.godebug=none:=by kernel_rfl
theorem laidOut:laidOutB Tryz.prog=true:=by kernel_rfl
theorem reads:∀t∈Tryz.f8.params.toList,Tryz.prog.readableRec t=true∧t<Tryz.prog.types.size:=by
 intro t ht
 rw[Tryz.params8]at ht
 have:t=66∨t=67∨t=3:=by simpa using ht
 rcases this with rfl|rfl|rfl<;>exact⟨by kernel_rfl,of_decide_eq_true (by kernel_rfl)⟩
set_option maxRecDepth 100000 in
theorem lifted(os:Os)(started:os.Started)(H:Type)(enc:TypeId × Value→H) :
  ReturnsInHanded {} Tryz.checked os 8 .any (Rows.viewNewestSpec.pre6 enc Tryz.prog Tryz.f8 Rows.viewNewestRow.domain false) (Rows.viewNewestSpec.post enc Tryz.prog Tryz.f8 false true false false):=by
 refine returnsInHanded_of_change (C:=Tryz.checked) own started (by kernel_rfl) Tryz.func8
  (ChangeSpec.witness6 (enc:=enc) (C:=Tryz.checked) false ⟨#[],#[.slice none 0 0,.int .u16 0,.int .i64 0],[]⟩ 8 (by kernel_rfl) (by kernel_rfl) (by kernel_rfl) (by kernel_rfl)) ?_
 intro W base args ds gs before hval0 hW _ _
 have hval:∀(j:Nat) t v,Tryz.f8.params[j]?=some t→args[j]?=some v→Value.okWide Tryz.prog W .any base t v:=hval0
 have hW':=hW
 obtain⟨p,q,hA0,hV,rfl,hfz,hnd⟩:=hW
 have hA:DataW.TrodAll enc Tryz.prog W 0 (fun _=>true) true Tryz.f8.params.toList args.toList ds p:=hA0
 rw[Tryz.params8]at hA hval
 obtain⟨v0,vs0,d0,ds0,p0,q0,hargs,rfl,rfl,h0,r0⟩:=trodAll_cons hA
 obtain⟨v1,vs1,d1,ds1,p1,q1,rfl,rfl,rfl,h1,r1⟩:=trodAll_cons r0
 obtain⟨v2,vs2,d2,ds2,p2,q2,rfl,rfl,rfl,h2,r2⟩:=trodAll_cons r1
 obtain⟨rfl,rfl,rfl⟩:=trodAll_nil r2
 obtain rfl:args=#[v0,v1,v2]:=by cases args;simp_all
 obtain⟨rfl,rfl⟩:=trodVars_none hV
 obtain⟨A0,cap0,l0,rfl,o0⟩:=open_acts (hval 0 66 v0 rfl rfl) h0
 obtain⟨a1,rfl,rfl,rfl,w1⟩:=open_int Tryz.underlying67 (hval 1 67 v1 rfl rfl) h1
 have y1:0≤a1∧a1≤65535:=by
  have hb:IntKind.u16.min≤a1∧a1≤IntKind.u16.max:=by simpa[Lit.wf] using w1
  have e1:IntKind.u16.min=0:=by decide
  have e2:IntKind.u16.max=65535:=by decide
  rw[e1,e2]at hb
  exact hb
 obtain⟨a2,rfl,rfl,rfl,w2⟩:=open_int Tryz.underlying3 (hval 2 3 v2 rfl rfl) h2
 clear hA0 hval0
 refine(lawVNewest_any viewSpec viewLo A0 cap0 l0 a1 a2 W o0 y1.1 y1.2).mono fun e W' ⟨he,hg⟩ =>?_
 subst he
 exact⟨_,rfl,law_post laidOut hW' rfl rfl (by kernel_rfl) Tryz.underlying4 reads hg⟩
theorem over:Rows.viewNewestRow.holds Tryz.pinned (OpenSpec.ofChange Rows.viewNewestSpec):=
 OpenClaim.holds_of_wide 8 Tryz.f8 rfl rfl rfl rfl rfl rfl rfl ⟨rfl,rfl,rfl,rfl,rfl⟩ rfl rfl rfl rfl rfl (by kernel_rfl) Tryz.func8 (by kernel_rfl)
  (of_decide_eq_true (by kernel_rfl)) (by unfold Func.isWrapper;first|(rw[if_pos (by decide +kernel)];kernel_rfl)|(rw[if_neg (by decide +kernel)];exact⟨rfl,rfl⟩))
  (fun os started H enc _=>lifted os started H enc)
theorem proved:Rows.ViewNewestSaid:=
 over
end Go.Proofs.YtjlfehpockfkdaaGreat.viewNewest
