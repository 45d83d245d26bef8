/-
  No cell of these rows narrows 'for every input' (looked for: loops, veiled, ifaces, maps, wideKeys, modest, calm, conditions, laid).
  DERIVED. THE GIVEN ROWS OF THIS SEAT. 8 by the template 'for every input the law returns true; each argument reads behind the call as it read before'; 0 by the template 'total and deterministic' (their statements: YtjlfehpockfkdaaGreatTotals.lean).
  GIVEN WITH THE SEED: the statements are not yours to turn. If you find one false, say at which input.
  Laid BY PROGRAM, IN A SANDBOX (cutbox-rows.mjs): the forced cells as the released guide's own fill.sh prints them over the translation c4621d5b2bdcbd69… (all of the seat's roots in one cut). By AI agents, Wed Nov 11 2026. No macro, syntax, notation, axiom, sorry.
-/
import Derived.Test.YtjlfehpockfkdaaGreatChecked
import GoSem.Claim
import GoSem.ClaimJoined
import GoSem.ClaimMapViews
import Derived.JoinedTies
import Derived.KernelRfl
namespace Go.Proofs.YtjlfehpockfkdaaGreat
/- THE CELL 'sum', in the pinned program and in every row, IS THE sha256 OF THE DUMP (.gsa) THAT YtjlfehpockfkdaaGreatProg.lean LOADS. Nothing in Lean hashes anything: it is a label: what it is worth is what the hold of that sum in a sandbox is worth. -/
noncomputable def Tryz.pinned : Pinned := { name := "ytjlfehpockfkdaagreat", sum := "c4621d5b2bdcbd699eb530b5831dc83e4b83c0a70a139eb4a9b1e2faa344deff", checked := Tryz.checked }
namespace Rows
def none {H : Type} : Left H := { results := [], args := [] }

/-- 'telltalelaw13.ViewForms': WHATEVER THE INPUT: true; the input reads as it did. -/
def viewFormsSpec : ChangeSpec := { name := "viewForms", fn := fun _ => fun
  | [d1, d2, d3] => { results := [.lit (.bool true)], args := [d1, d2, d3] }
  | _ => none }
def viewFormsRow : OpenClaim := { program := "ytjlfehpockfkdaagreat", sum := "c4621d5b2bdcbd699eb530b5831dc83e4b83c0a70a139eb4a9b1e2faa344deff", func := "telltale/telltalelaw13.ViewForms", spec := "viewForms", unfollowed := true, recurses := true, apart := false }
def ViewFormsSaid : Prop := viewFormsRow.holds Tryz.pinned (OpenSpec.ofChange viewFormsSpec)

/-- ITS FALSE NEIGHBOUR: 'it returns false'. Refute it at one input. -/
def viewFormsWrong : ChangeSpec := { name := "viewForms", fn := fun _ => fun
  | [d1, d2, d3] => { results := [.lit (.bool false)], args := [d1, d2, d3] }
  | _ => none }
def ViewFormsWrongFalsely : Prop := viewFormsRow.holds Tryz.pinned (OpenSpec.ofChange viewFormsWrong)

/-- 'telltalelaw13.ViewTakes': WHATEVER THE INPUT: true; the input reads as it did. -/
def viewTakesSpec : ChangeSpec := { name := "viewTakes", fn := fun _ => fun
  | [d1, d2] => { results := [.lit (.bool true)], args := [d1, d2] }
  | _ => none }
def viewTakesRow : OpenClaim := { program := "ytjlfehpockfkdaagreat", sum := "c4621d5b2bdcbd699eb530b5831dc83e4b83c0a70a139eb4a9b1e2faa344deff", func := "telltale/telltalelaw13.ViewTakes", spec := "viewTakes", unfollowed := true, recurses := true, apart := false }
def ViewTakesSaid : Prop := viewTakesRow.holds Tryz.pinned (OpenSpec.ofChange viewTakesSpec)

/-- ITS FALSE NEIGHBOUR: 'it returns false'. Refute it at one input. -/
def viewTakesWrong : ChangeSpec := { name := "viewTakes", fn := fun _ => fun
  | [d1, d2] => { results := [.lit (.bool false)], args := [d1, d2] }
  | _ => none }
def ViewTakesWrongFalsely : Prop := viewTakesRow.holds Tryz.pinned (OpenSpec.ofChange viewTakesWrong)

/-- 'telltalelaw13.ViewBodies': WHATEVER THE INPUT: true; the input reads as it did. -/
def viewBodiesSpec : ChangeSpec := { name := "viewBodies", fn := fun _ => fun
  | [d1, d2, d3] => { results := [.lit (.bool true)], args := [d1, d2, d3] }
  | _ => none }
def viewBodiesRow : OpenClaim := { program := "ytjlfehpockfkdaagreat", sum := "c4621d5b2bdcbd699eb530b5831dc83e4b83c0a70a139eb4a9b1e2faa344deff", func := "telltale/telltalelaw13.ViewBodies", spec := "viewBodies", unfollowed := true, recurses := true, apart := false }
def ViewBodiesSaid : Prop := viewBodiesRow.holds Tryz.pinned (OpenSpec.ofChange viewBodiesSpec)

/-- ITS FALSE NEIGHBOUR: 'it returns false'. Refute it at one input. -/
def viewBodiesWrong : ChangeSpec := { name := "viewBodies", fn := fun _ => fun
  | [d1, d2, d3] => { results := [.lit (.bool false)], args := [d1, d2, d3] }
  | _ => none }
def ViewBodiesWrongFalsely : Prop := viewBodiesRow.holds Tryz.pinned (OpenSpec.ofChange viewBodiesWrong)

/-- 'telltalelaw13.ViewSums': WHATEVER THE INPUT: true; the input reads as it did. -/
def viewSumsSpec : ChangeSpec := { name := "viewSums", fn := fun _ => fun
  | [d1, d2] => { results := [.lit (.bool true)], args := [d1, d2] }
  | _ => none }
def viewSumsRow : OpenClaim := { program := "ytjlfehpockfkdaagreat", sum := "c4621d5b2bdcbd699eb530b5831dc83e4b83c0a70a139eb4a9b1e2faa344deff", func := "telltale/telltalelaw13.ViewSums", spec := "viewSums", unfollowed := true, recurses := true, apart := false }
def ViewSumsSaid : Prop := viewSumsRow.holds Tryz.pinned (OpenSpec.ofChange viewSumsSpec)

/-- ITS FALSE NEIGHBOUR: 'it returns false'. Refute it at one input. -/
def viewSumsWrong : ChangeSpec := { name := "viewSums", fn := fun _ => fun
  | [d1, d2] => { results := [.lit (.bool false)], args := [d1, d2] }
  | _ => none }
def ViewSumsWrongFalsely : Prop := viewSumsRow.holds Tryz.pinned (OpenSpec.ofChange viewSumsWrong)

/-- 'telltalelaw13.ViewTwice': WHATEVER THE INPUT: true; the input reads as it did. -/
def viewTwiceSpec : ChangeSpec := { name := "viewTwice", fn := fun _ => fun
  | [d1, d2, d3] => { results := [.lit (.bool true)], args := [d1, d2, d3] }
  | _ => none }
def viewTwiceRow : OpenClaim := { program := "ytjlfehpockfkdaagreat", sum := "c4621d5b2bdcbd699eb530b5831dc83e4b83c0a70a139eb4a9b1e2faa344deff", func := "telltale/telltalelaw13.ViewTwice", spec := "viewTwice", unfollowed := true, recurses := true, apart := false }
def ViewTwiceSaid : Prop := viewTwiceRow.holds Tryz.pinned (OpenSpec.ofChange viewTwiceSpec)

/-- ITS FALSE NEIGHBOUR: 'it returns false'. Refute it at one input. -/
def viewTwiceWrong : ChangeSpec := { name := "viewTwice", fn := fun _ => fun
  | [d1, d2, d3] => { results := [.lit (.bool false)], args := [d1, d2, d3] }
  | _ => none }
def ViewTwiceWrongFalsely : Prop := viewTwiceRow.holds Tryz.pinned (OpenSpec.ofChange viewTwiceWrong)

/-- 'telltalelaw13.ViewNewest': WHATEVER THE INPUT: true; the input reads as it did. -/
def viewNewestSpec : ChangeSpec := { name := "viewNewest", fn := fun _ => fun
  | [d1, d2, d3] => { results := [.lit (.bool true)], args := [d1, d2, d3] }
  | _ => none }
def viewNewestRow : OpenClaim := { program := "ytjlfehpockfkdaagreat", sum := "c4621d5b2bdcbd699eb530b5831dc83e4b83c0a70a139eb4a9b1e2faa344deff", func := "telltale/telltalelaw13.ViewNewest", spec := "viewNewest", unfollowed := true, recurses := true, apart := false }
def ViewNewestSaid : Prop := viewNewestRow.holds Tryz.pinned (OpenSpec.ofChange viewNewestSpec)

/-- ITS FALSE NEIGHBOUR: 'it returns false'. Refute it at one input. -/
def viewNewestWrong : ChangeSpec := { name := "viewNewest", fn := fun _ => fun
  | [d1, d2, d3] => { results := [.lit (.bool false)], args := [d1, d2, d3] }
  | _ => none }
def ViewNewestWrongFalsely : Prop := viewNewestRow.holds Tryz.pinned (OpenSpec.ofChange viewNewestWrong)

/-- 'telltalelaw13.ViewFresh': WHATEVER THE INPUT: true; the input reads as it did. -/
def viewFreshSpec : ChangeSpec := { name := "viewFresh", fn := fun _ => fun
  | [d1, d2, d3] => { results := [.lit (.bool true)], args := [d1, d2, d3] }
  | _ => none }
def viewFreshRow : OpenClaim := { program := "ytjlfehpockfkdaagreat", sum := "c4621d5b2bdcbd699eb530b5831dc83e4b83c0a70a139eb4a9b1e2faa344deff", func := "telltale/telltalelaw13.ViewFresh", spec := "viewFresh", unfollowed := true, recurses := true, apart := false }
def ViewFreshSaid : Prop := viewFreshRow.holds Tryz.pinned (OpenSpec.ofChange viewFreshSpec)

/-- ITS FALSE NEIGHBOUR: 'it returns false'. Refute it at one input. -/
def viewFreshWrong : ChangeSpec := { name := "viewFresh", fn := fun _ => fun
  | [d1, d2, d3] => { results := [.lit (.bool false)], args := [d1, d2, d3] }
  | _ => none }
def ViewFreshWrongFalsely : Prop := viewFreshRow.holds Tryz.pinned (OpenSpec.ofChange viewFreshWrong)

/-- 'telltalelaw13.ViewServes': WHATEVER THE INPUT: true; the input reads as it did. -/
def viewServesSpec : ChangeSpec := { name := "viewServes", fn := fun _ => fun
  | [d1, d2, d3] => { results := [.lit (.bool true)], args := [d1, d2, d3] }
  | _ => none }
def viewServesRow : OpenClaim := { program := "ytjlfehpockfkdaagreat", sum := "c4621d5b2bdcbd699eb530b5831dc83e4b83c0a70a139eb4a9b1e2faa344deff", func := "telltale/telltalelaw13.ViewServes", spec := "viewServes", unfollowed := true, recurses := true, apart := false }
def ViewServesSaid : Prop := viewServesRow.holds Tryz.pinned (OpenSpec.ofChange viewServesSpec)

/-- ITS FALSE NEIGHBOUR: 'it returns false'. Refute it at one input. -/
def viewServesWrong : ChangeSpec := { name := "viewServes", fn := fun _ => fun
  | [d1, d2, d3] => { results := [.lit (.bool false)], args := [d1, d2, d3] }
  | _ => none }
def ViewServesWrongFalsely : Prop := viewServesRow.holds Tryz.pinned (OpenSpec.ofChange viewServesWrong)

/- THE SECOND FORM. 'bulk': how many values and letters a reading holds, each counted each time it is reached (what is shared counts as often as it is met; a slice's spare places count too). A statement '..UptoSaid' is the law's where the arguments, and the package variables that the reading takes, are together of bulk at most 1048576: NARROWER than '..Said'. Prove '..Said' where nothing that the law and all that it calls make is longer than what came in: it says more and counts as full. Else prove '..UptoSaid'. A law counts once. -/
mutual
def uptoBulk {H : Type} : DataW H → Nat
  | .lit (.string bytes) => bytes.length + 1
  | .lit _ => 1
  | .nil => 1
  | .ptr d => uptoBulk d + 1
  | .slice elems spare => uptoBulkAll elems + uptoBulkAll spare + 1
  | .agg parts => uptoBulkAll parts + 1
  | .iface _ d => uptoBulk d + 1
  | .map entries => uptoBulkEntries entries + 1
  | .held _ => 1
def uptoBulkAll {H : Type} : List (DataW H) → Nat
  | [] => 0
  | d :: r => uptoBulk d + uptoBulkAll r
def uptoBulkEntries {H : Type} : List (Lit × DataW H) → Nat
  | [] => 0
  | x :: r => uptoBulkEntry x + uptoBulkEntries r
def uptoBulkEntry {H : Type} : Lit × DataW H → Nat
  | (.string bytes, d) => bytes.length + uptoBulk d + 1
  | (_, d) => uptoBulk d + 1
 end
def uptoSmall : (H : Type) → List (DataW H) → Bool := fun _ ds => decide (uptoBulkAll ds ≤ 1048576)
def OpenSpec.upto (s : _root_.Go.ChangeSpec) : _root_.Go.OpenSpec := { _root_.Go.OpenSpec.ofChange s with cond := some uptoSmall }

/-- 'telltalelaw13.ViewForms', WHERE WHAT IT READS IS OF BULK AT MOST 1048576: true; the input reads as it did. -/
def viewFormsUptoRow : OpenClaim := { program := "ytjlfehpockfkdaagreat", sum := "c4621d5b2bdcbd699eb530b5831dc83e4b83c0a70a139eb4a9b1e2faa344deff", func := "telltale/telltalelaw13.ViewForms", spec := "viewForms", unfollowed := true, recurses := true, apart := false, narrowed := true }
def ViewFormsUptoSaid : Prop := viewFormsUptoRow.holds Tryz.pinned (OpenSpec.upto viewFormsSpec)

/-- 'telltalelaw13.ViewTakes', WHERE WHAT IT READS IS OF BULK AT MOST 1048576: true; the input reads as it did. -/
def viewTakesUptoRow : OpenClaim := { program := "ytjlfehpockfkdaagreat", sum := "c4621d5b2bdcbd699eb530b5831dc83e4b83c0a70a139eb4a9b1e2faa344deff", func := "telltale/telltalelaw13.ViewTakes", spec := "viewTakes", unfollowed := true, recurses := true, apart := false, narrowed := true }
def ViewTakesUptoSaid : Prop := viewTakesUptoRow.holds Tryz.pinned (OpenSpec.upto viewTakesSpec)

/-- 'telltalelaw13.ViewBodies', WHERE WHAT IT READS IS OF BULK AT MOST 1048576: true; the input reads as it did. -/
def viewBodiesUptoRow : OpenClaim := { program := "ytjlfehpockfkdaagreat", sum := "c4621d5b2bdcbd699eb530b5831dc83e4b83c0a70a139eb4a9b1e2faa344deff", func := "telltale/telltalelaw13.ViewBodies", spec := "viewBodies", unfollowed := true, recurses := true, apart := false, narrowed := true }
def ViewBodiesUptoSaid : Prop := viewBodiesUptoRow.holds Tryz.pinned (OpenSpec.upto viewBodiesSpec)

/-- 'telltalelaw13.ViewSums', WHERE WHAT IT READS IS OF BULK AT MOST 1048576: true; the input reads as it did. -/
def viewSumsUptoRow : OpenClaim := { program := "ytjlfehpockfkdaagreat", sum := "c4621d5b2bdcbd699eb530b5831dc83e4b83c0a70a139eb4a9b1e2faa344deff", func := "telltale/telltalelaw13.ViewSums", spec := "viewSums", unfollowed := true, recurses := true, apart := false, narrowed := true }
def ViewSumsUptoSaid : Prop := viewSumsUptoRow.holds Tryz.pinned (OpenSpec.upto viewSumsSpec)

/-- 'telltalelaw13.ViewTwice', WHERE WHAT IT READS IS OF BULK AT MOST 1048576: true; the input reads as it did. -/
def viewTwiceUptoRow : OpenClaim := { program := "ytjlfehpockfkdaagreat", sum := "c4621d5b2bdcbd699eb530b5831dc83e4b83c0a70a139eb4a9b1e2faa344deff", func := "telltale/telltalelaw13.ViewTwice", spec := "viewTwice", unfollowed := true, recurses := true, apart := false, narrowed := true }
def ViewTwiceUptoSaid : Prop := viewTwiceUptoRow.holds Tryz.pinned (OpenSpec.upto viewTwiceSpec)

/-- 'telltalelaw13.ViewNewest', WHERE WHAT IT READS IS OF BULK AT MOST 1048576: true; the input reads as it did. -/
def viewNewestUptoRow : OpenClaim := { program := "ytjlfehpockfkdaagreat", sum := "c4621d5b2bdcbd699eb530b5831dc83e4b83c0a70a139eb4a9b1e2faa344deff", func := "telltale/telltalelaw13.ViewNewest", spec := "viewNewest", unfollowed := true, recurses := true, apart := false, narrowed := true }
def ViewNewestUptoSaid : Prop := viewNewestUptoRow.holds Tryz.pinned (OpenSpec.upto viewNewestSpec)

/-- 'telltalelaw13.ViewFresh', WHERE WHAT IT READS IS OF BULK AT MOST 1048576: true; the input reads as it did. -/
def viewFreshUptoRow : OpenClaim := { program := "ytjlfehpockfkdaagreat", sum := "c4621d5b2bdcbd699eb530b5831dc83e4b83c0a70a139eb4a9b1e2faa344deff", func := "telltale/telltalelaw13.ViewFresh", spec := "viewFresh", unfollowed := true, recurses := true, apart := false, narrowed := true }
def ViewFreshUptoSaid : Prop := viewFreshUptoRow.holds Tryz.pinned (OpenSpec.upto viewFreshSpec)

/-- 'telltalelaw13.ViewServes', WHERE WHAT IT READS IS OF BULK AT MOST 1048576: true; the input reads as it did. -/
def viewServesUptoRow : OpenClaim := { program := "ytjlfehpockfkdaagreat", sum := "c4621d5b2bdcbd699eb530b5831dc83e4b83c0a70a139eb4a9b1e2faa344deff", func := "telltale/telltalelaw13.ViewServes", spec := "viewServes", unfollowed := true, recurses := true, apart := false, narrowed := true }
def ViewServesUptoSaid : Prop := viewServesUptoRow.holds Tryz.pinned (OpenSpec.upto viewServesSpec)

end Rows
end Go.Proofs.YtjlfehpockfkdaaGreat
