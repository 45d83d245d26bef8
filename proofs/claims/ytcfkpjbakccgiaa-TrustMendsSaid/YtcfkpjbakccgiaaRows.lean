/-
  No cell of these rows narrows 'for every input' (looked for: loops, veiled, ifaces, maps, wideKeys, modest, calm, conditions, laid).
  DERIVED. THE GIVEN ROWS OF THIS SEAT. 6 by the template 'for every input the law returns true; each argument reads behind the call as it read before'; 0 by the template 'total and deterministic' (their statements: YtcfkpjbakccgiaaTotals.lean).
  GIVEN WITH THE SEED: the statements are not yours to turn. If you find one false, say at which input.
  Laid BY PROGRAM, IN A SANDBOX (cutbox-rows.mjs): the forced cells as the released guide's own fill.sh prints them over the translation 504fad0e70933e17… (all of the seat's roots in one cut). By AI agents, Wed Nov 11 2026. No macro, syntax, notation, axiom, sorry.
-/
import Derived.Test.YtcfkpjbakccgiaaChecked
import GoSem.Claim
import GoSem.ClaimJoined
import GoSem.ClaimMapViews
import Derived.JoinedTies
import Derived.KernelRfl
namespace Go.Proofs.Ytcfkpjbakccgiaa
/- THE CELL 'sum', in the pinned program and in every row, IS THE sha256 OF THE DUMP (.gsa) THAT YtcfkpjbakccgiaaProg.lean LOADS. Nothing in Lean hashes anything: it is a label: what it is worth is what the hold of that sum in a sandbox is worth. -/
noncomputable def Try.pinned : Pinned := { name := "ytcfkpjbakccgiaa", sum := "504fad0e70933e17b2c0453277549211109b7443cec4e01a136d683b3cbdfdd2", checked := Try.checked }
namespace Rows
def none {H : Type} : Left H := { results := [], args := [] }

/-- 'telltalelaw10.TrustForms': WHATEVER THE INPUT: true; the input reads as it did. -/
def trustFormsSpec : ChangeSpec := { name := "trustForms", fn := fun _ => fun
  | [d1, d2, d3] => { results := [.lit (.bool true)], args := [d1, d2, d3] }
  | _ => none }
def trustFormsRow : OpenClaim := { program := "ytcfkpjbakccgiaa", sum := "504fad0e70933e17b2c0453277549211109b7443cec4e01a136d683b3cbdfdd2", func := "telltale/telltalelaw10.TrustForms", spec := "trustForms", unfollowed := true, recurses := true, apart := false }
def TrustFormsSaid : Prop := trustFormsRow.holds Try.pinned (OpenSpec.ofChange trustFormsSpec)

/-- ITS FALSE NEIGHBOUR: 'it returns false'. Refute it at one input. -/
def trustFormsWrong : ChangeSpec := { name := "trustForms", fn := fun _ => fun
  | [d1, d2, d3] => { results := [.lit (.bool false)], args := [d1, d2, d3] }
  | _ => none }
def TrustFormsWrongFalsely : Prop := trustFormsRow.holds Try.pinned (OpenSpec.ofChange trustFormsWrong)

/-- 'telltalelaw10.TrustSinces': WHATEVER THE INPUT: true; the input reads as it did. -/
def trustSincesSpec : ChangeSpec := { name := "trustSinces", fn := fun _ => fun
  | [d1, d2, d3] => { results := [.lit (.bool true)], args := [d1, d2, d3] }
  | _ => none }
def trustSincesRow : OpenClaim := { program := "ytcfkpjbakccgiaa", sum := "504fad0e70933e17b2c0453277549211109b7443cec4e01a136d683b3cbdfdd2", func := "telltale/telltalelaw10.TrustSinces", spec := "trustSinces", unfollowed := true, recurses := true, apart := false }
def TrustSincesSaid : Prop := trustSincesRow.holds Try.pinned (OpenSpec.ofChange trustSincesSpec)

/-- ITS FALSE NEIGHBOUR: 'it returns false'. Refute it at one input. -/
def trustSincesWrong : ChangeSpec := { name := "trustSinces", fn := fun _ => fun
  | [d1, d2, d3] => { results := [.lit (.bool false)], args := [d1, d2, d3] }
  | _ => none }
def TrustSincesWrongFalsely : Prop := trustSincesRow.holds Try.pinned (OpenSpec.ofChange trustSincesWrong)

/-- 'telltalelaw10.TrustTakes': WHATEVER THE INPUT: true; the input reads as it did. -/
def trustTakesSpec : ChangeSpec := { name := "trustTakes", fn := fun _ => fun
  | [d1, d2, d3] => { results := [.lit (.bool true)], args := [d1, d2, d3] }
  | _ => none }
def trustTakesRow : OpenClaim := { program := "ytcfkpjbakccgiaa", sum := "504fad0e70933e17b2c0453277549211109b7443cec4e01a136d683b3cbdfdd2", func := "telltale/telltalelaw10.TrustTakes", spec := "trustTakes", unfollowed := true, recurses := true, apart := false }
def TrustTakesSaid : Prop := trustTakesRow.holds Try.pinned (OpenSpec.ofChange trustTakesSpec)

/-- ITS FALSE NEIGHBOUR: 'it returns false'. Refute it at one input. -/
def trustTakesWrong : ChangeSpec := { name := "trustTakes", fn := fun _ => fun
  | [d1, d2, d3] => { results := [.lit (.bool false)], args := [d1, d2, d3] }
  | _ => none }
def TrustTakesWrongFalsely : Prop := trustTakesRow.holds Try.pinned (OpenSpec.ofChange trustTakesWrong)

/-- 'telltalelaw10.TrustTwice': WHATEVER THE INPUT: true; the input reads as it did. -/
def trustTwiceSpec : ChangeSpec := { name := "trustTwice", fn := fun _ => fun
  | [d1, d2, d3] => { results := [.lit (.bool true)], args := [d1, d2, d3] }
  | _ => none }
def trustTwiceRow : OpenClaim := { program := "ytcfkpjbakccgiaa", sum := "504fad0e70933e17b2c0453277549211109b7443cec4e01a136d683b3cbdfdd2", func := "telltale/telltalelaw10.TrustTwice", spec := "trustTwice", unfollowed := true, recurses := true, apart := false }
def TrustTwiceSaid : Prop := trustTwiceRow.holds Try.pinned (OpenSpec.ofChange trustTwiceSpec)

/-- ITS FALSE NEIGHBOUR: 'it returns false'. Refute it at one input. -/
def trustTwiceWrong : ChangeSpec := { name := "trustTwice", fn := fun _ => fun
  | [d1, d2, d3] => { results := [.lit (.bool false)], args := [d1, d2, d3] }
  | _ => none }
def TrustTwiceWrongFalsely : Prop := trustTwiceRow.holds Try.pinned (OpenSpec.ofChange trustTwiceWrong)

/-- 'telltalelaw10.TrustSharp': WHATEVER THE INPUT: true; the input reads as it did. -/
def trustSharpSpec : ChangeSpec := { name := "trustSharp", fn := fun _ => fun
  | [d1, d2, d3] => { results := [.lit (.bool true)], args := [d1, d2, d3] }
  | _ => none }
def trustSharpRow : OpenClaim := { program := "ytcfkpjbakccgiaa", sum := "504fad0e70933e17b2c0453277549211109b7443cec4e01a136d683b3cbdfdd2", func := "telltale/telltalelaw10.TrustSharp", spec := "trustSharp", unfollowed := true, recurses := true, apart := false }
def TrustSharpSaid : Prop := trustSharpRow.holds Try.pinned (OpenSpec.ofChange trustSharpSpec)

/-- ITS FALSE NEIGHBOUR: 'it returns false'. Refute it at one input. -/
def trustSharpWrong : ChangeSpec := { name := "trustSharp", fn := fun _ => fun
  | [d1, d2, d3] => { results := [.lit (.bool false)], args := [d1, d2, d3] }
  | _ => none }
def TrustSharpWrongFalsely : Prop := trustSharpRow.holds Try.pinned (OpenSpec.ofChange trustSharpWrong)

/-- 'telltalelaw10.TrustMends': WHATEVER THE INPUT: true; the input reads as it did. -/
def trustMendsSpec : ChangeSpec := { name := "trustMends", fn := fun _ => fun
  | [d1, d2, d3] => { results := [.lit (.bool true)], args := [d1, d2, d3] }
  | _ => none }
def trustMendsRow : OpenClaim := { program := "ytcfkpjbakccgiaa", sum := "504fad0e70933e17b2c0453277549211109b7443cec4e01a136d683b3cbdfdd2", func := "telltale/telltalelaw10.TrustMends", spec := "trustMends", unfollowed := true, recurses := true, apart := false }
def TrustMendsSaid : Prop := trustMendsRow.holds Try.pinned (OpenSpec.ofChange trustMendsSpec)

/-- ITS FALSE NEIGHBOUR: 'it returns false'. Refute it at one input. -/
def trustMendsWrong : ChangeSpec := { name := "trustMends", fn := fun _ => fun
  | [d1, d2, d3] => { results := [.lit (.bool false)], args := [d1, d2, d3] }
  | _ => none }
def TrustMendsWrongFalsely : Prop := trustMendsRow.holds Try.pinned (OpenSpec.ofChange trustMendsWrong)

/- THE SECOND FORM. 'bulk': how many values and letters a reading holds, each counted each time it is reached (what is shared counts as often as it is met; a slice's spare places count too). A statement '..UptoSaid' is the law's where the arguments, and the package variables that the reading takes, are together of bulk at most 1048576: NARROWER than '..Said'. Prove '..Said' where nothing that the law and all that it calls make is longer than what came in: it says more and counts as full. Else prove '..UptoSaid'. A law counts once. -/
mutual
def uptoBulk {H : Type} : DataW H → Nat
  | .lit (.string bytes) => bytes.length + 1
  | .lit _ => 1
  | .nil => 1
  | .ptr d => uptoBulk d + 1
  | .slice elems spare => uptoBulkAll elems + uptoBulkAll spare + 1
  | .agg parts => uptoBulkAll parts + 1
  | .iface _ d => uptoBulk d + 1
  | .map entries => uptoBulkEntries entries + 1
  | .held _ => 1
def uptoBulkAll {H : Type} : List (DataW H) → Nat
  | [] => 0
  | d :: r => uptoBulk d + uptoBulkAll r
def uptoBulkEntries {H : Type} : List (Lit × DataW H) → Nat
  | [] => 0
  | x :: r => uptoBulkEntry x + uptoBulkEntries r
def uptoBulkEntry {H : Type} : Lit × DataW H → Nat
  | (.string bytes, d) => bytes.length + uptoBulk d + 1
  | (_, d) => uptoBulk d + 1
 end
def uptoSmall : (H : Type) → List (DataW H) → Bool := fun _ ds => decide (uptoBulkAll ds ≤ 1048576)
def OpenSpec.upto (s : _root_.Go.ChangeSpec) : _root_.Go.OpenSpec := { _root_.Go.OpenSpec.ofChange s with cond := some uptoSmall }

/-- 'telltalelaw10.TrustForms', WHERE WHAT IT READS IS OF BULK AT MOST 1048576: true; the input reads as it did. -/
def trustFormsUptoRow : OpenClaim := { program := "ytcfkpjbakccgiaa", sum := "504fad0e70933e17b2c0453277549211109b7443cec4e01a136d683b3cbdfdd2", func := "telltale/telltalelaw10.TrustForms", spec := "trustForms", unfollowed := true, recurses := true, apart := false, narrowed := true }
def TrustFormsUptoSaid : Prop := trustFormsUptoRow.holds Try.pinned (OpenSpec.upto trustFormsSpec)

/-- 'telltalelaw10.TrustSinces', WHERE WHAT IT READS IS OF BULK AT MOST 1048576: true; the input reads as it did. -/
def trustSincesUptoRow : OpenClaim := { program := "ytcfkpjbakccgiaa", sum := "504fad0e70933e17b2c0453277549211109b7443cec4e01a136d683b3cbdfdd2", func := "telltale/telltalelaw10.TrustSinces", spec := "trustSinces", unfollowed := true, recurses := true, apart := false, narrowed := true }
def TrustSincesUptoSaid : Prop := trustSincesUptoRow.holds Try.pinned (OpenSpec.upto trustSincesSpec)

/-- 'telltalelaw10.TrustTakes', WHERE WHAT IT READS IS OF BULK AT MOST 1048576: true; the input reads as it did. -/
def trustTakesUptoRow : OpenClaim := { program := "ytcfkpjbakccgiaa", sum := "504fad0e70933e17b2c0453277549211109b7443cec4e01a136d683b3cbdfdd2", func := "telltale/telltalelaw10.TrustTakes", spec := "trustTakes", unfollowed := true, recurses := true, apart := false, narrowed := true }
def TrustTakesUptoSaid : Prop := trustTakesUptoRow.holds Try.pinned (OpenSpec.upto trustTakesSpec)

/-- 'telltalelaw10.TrustTwice', WHERE WHAT IT READS IS OF BULK AT MOST 1048576: true; the input reads as it did. -/
def trustTwiceUptoRow : OpenClaim := { program := "ytcfkpjbakccgiaa", sum := "504fad0e70933e17b2c0453277549211109b7443cec4e01a136d683b3cbdfdd2", func := "telltale/telltalelaw10.TrustTwice", spec := "trustTwice", unfollowed := true, recurses := true, apart := false, narrowed := true }
def TrustTwiceUptoSaid : Prop := trustTwiceUptoRow.holds Try.pinned (OpenSpec.upto trustTwiceSpec)

/-- 'telltalelaw10.TrustSharp', WHERE WHAT IT READS IS OF BULK AT MOST 1048576: true; the input reads as it did. -/
def trustSharpUptoRow : OpenClaim := { program := "ytcfkpjbakccgiaa", sum := "504fad0e70933e17b2c0453277549211109b7443cec4e01a136d683b3cbdfdd2", func := "telltale/telltalelaw10.TrustSharp", spec := "trustSharp", unfollowed := true, recurses := true, apart := false, narrowed := true }
def TrustSharpUptoSaid : Prop := trustSharpUptoRow.holds Try.pinned (OpenSpec.upto trustSharpSpec)

/-- 'telltalelaw10.TrustMends', WHERE WHAT IT READS IS OF BULK AT MOST 1048576: true; the input reads as it did. -/
def trustMendsUptoRow : OpenClaim := { program := "ytcfkpjbakccgiaa", sum := "504fad0e70933e17b2c0453277549211109b7443cec4e01a136d683b3cbdfdd2", func := "telltale/telltalelaw10.TrustMends", spec := "trustMends", unfollowed := true, recurses := true, apart := false, narrowed := true }
def TrustMendsUptoSaid : Prop := trustMendsUptoRow.holds Try.pinned (OpenSpec.upto trustMendsSpec)

end Rows
end Go.Proofs.Ytcfkpjbakccgiaa
