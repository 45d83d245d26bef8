/-
  No cell of these rows narrows 'for every input' (looked for: loops, veiled, ifaces, maps, wideKeys, modest, calm, conditions, laid).
  DERIVED. THE GIVEN ROWS OF THIS SEAT. 6 by the template 'for every input the law returns true; each argument reads behind the call as it read before'; 0 by the template 'total and deterministic' (their statements: YtjdiopoikppifaaTotals.lean).
  GIVEN WITH THE SEED: the statements are not yours to turn. If you find one false, say at which input.
  Laid BY PROGRAM, IN A SANDBOX (cutbox-rows.mjs): the forced cells as the released guide's own fill.sh prints them over the translation b88432287a876c84… (all of the seat's roots in one cut). By AI agents, Wed Nov 11 2026. No macro, syntax, notation, axiom, sorry.
-/
import Derived.Test.YtjdiopoikppifaaChecked
import GoSem.Claim
import GoSem.ClaimJoined
import GoSem.ClaimMapViews
import Derived.JoinedTies
import Derived.KernelRfl
namespace Go.Proofs.Ytjdiopoikppifaa
/- THE CELL 'sum', in the pinned program and in every row, IS THE sha256 OF THE DUMP (.gsa) THAT YtjdiopoikppifaaProg.lean LOADS. Nothing in Lean hashes anything: it is a label: what it is worth is what the hold of that sum in a sandbox is worth. -/
noncomputable def Try.pinned : Pinned := { name := "ytjdiopoikppifaa", sum := "b88432287a876c84499840b175a361ea9939280037cc3c42b38b8a75629cc632", checked := Try.checked }
namespace Rows
def none {H : Type} : Left H := { results := [], args := [] }

/-- 'telltalelaw02.VectorCounts': WHATEVER THE INPUT: true; the input reads as it did. -/
def vectorCountsSpec : ChangeSpec := { name := "vectorCounts", fn := fun _ => fun
  | [d1, d2, d3] => { results := [.lit (.bool true)], args := [d1, d2, d3] }
  | _ => none }
def vectorCountsRow : OpenClaim := { program := "ytjdiopoikppifaa", sum := "b88432287a876c84499840b175a361ea9939280037cc3c42b38b8a75629cc632", func := "telltale/telltalelaw02.VectorCounts", spec := "vectorCounts", unfollowed := true, recurses := true, apart := false }
def VectorCountsSaid : Prop := vectorCountsRow.holds Try.pinned (OpenSpec.ofChange vectorCountsSpec)

/-- ITS FALSE NEIGHBOUR: 'it returns false'. Refute it at one input. -/
def vectorCountsWrong : ChangeSpec := { name := "vectorCounts", fn := fun _ => fun
  | [d1, d2, d3] => { results := [.lit (.bool false)], args := [d1, d2, d3] }
  | _ => none }
def VectorCountsWrongFalsely : Prop := vectorCountsRow.holds Try.pinned (OpenSpec.ofChange vectorCountsWrong)

/-- 'telltalelaw02.VectorCovers': WHATEVER THE INPUT: true; the input reads as it did. -/
def vectorCoversSpec : ChangeSpec := { name := "vectorCovers", fn := fun _ => fun
  | [d1, d2] => { results := [.lit (.bool true)], args := [d1, d2] }
  | _ => none }
def vectorCoversRow : OpenClaim := { program := "ytjdiopoikppifaa", sum := "b88432287a876c84499840b175a361ea9939280037cc3c42b38b8a75629cc632", func := "telltale/telltalelaw02.VectorCovers", spec := "vectorCovers", unfollowed := true, recurses := true, apart := false }
def VectorCoversSaid : Prop := vectorCoversRow.holds Try.pinned (OpenSpec.ofChange vectorCoversSpec)

/-- ITS FALSE NEIGHBOUR: 'it returns false'. Refute it at one input. -/
def vectorCoversWrong : ChangeSpec := { name := "vectorCovers", fn := fun _ => fun
  | [d1, d2] => { results := [.lit (.bool false)], args := [d1, d2] }
  | _ => none }
def VectorCoversWrongFalsely : Prop := vectorCoversRow.holds Try.pinned (OpenSpec.ofChange vectorCoversWrong)

/-- 'telltalelaw02.VectorJoins': WHATEVER THE INPUT: true; the input reads as it did. -/
def vectorJoinsSpec : ChangeSpec := { name := "vectorJoins", fn := fun _ => fun
  | [d] => { results := [.lit (.bool true)], args := [d] }
  | _ => none }
def vectorJoinsRow : OpenClaim := { program := "ytjdiopoikppifaa", sum := "b88432287a876c84499840b175a361ea9939280037cc3c42b38b8a75629cc632", func := "telltale/telltalelaw02.VectorJoins", spec := "vectorJoins", unfollowed := true, recurses := true, apart := false }
def VectorJoinsSaid : Prop := vectorJoinsRow.holds Try.pinned (OpenSpec.ofChange vectorJoinsSpec)

/-- ITS FALSE NEIGHBOUR: 'it returns false'. Refute it at one input. -/
def vectorJoinsWrong : ChangeSpec := { name := "vectorJoins", fn := fun _ => fun
  | [d] => { results := [.lit (.bool false)], args := [d] }
  | _ => none }
def VectorJoinsWrongFalsely : Prop := vectorJoinsRow.holds Try.pinned (OpenSpec.ofChange vectorJoinsWrong)

/-- 'telltalelaw02.VectorWiths': WHATEVER THE INPUT: true; the input reads as it did. -/
def vectorWithsSpec : ChangeSpec := { name := "vectorWiths", fn := fun _ => fun
  | [d1, d2] => { results := [.lit (.bool true)], args := [d1, d2] }
  | _ => none }
def vectorWithsRow : OpenClaim := { program := "ytjdiopoikppifaa", sum := "b88432287a876c84499840b175a361ea9939280037cc3c42b38b8a75629cc632", func := "telltale/telltalelaw02.VectorWiths", spec := "vectorWiths", unfollowed := true, recurses := true, apart := false }
def VectorWithsSaid : Prop := vectorWithsRow.holds Try.pinned (OpenSpec.ofChange vectorWithsSpec)

/-- ITS FALSE NEIGHBOUR: 'it returns false'. Refute it at one input. -/
def vectorWithsWrong : ChangeSpec := { name := "vectorWiths", fn := fun _ => fun
  | [d1, d2] => { results := [.lit (.bool false)], args := [d1, d2] }
  | _ => none }
def VectorWithsWrongFalsely : Prop := vectorWithsRow.holds Try.pinned (OpenSpec.ofChange vectorWithsWrong)

/-- 'telltalelaw02.VectorWalks': WHATEVER THE INPUT: true; the input reads as it did. -/
def vectorWalksSpec : ChangeSpec := { name := "vectorWalks", fn := fun _ => fun
  | [d1, d2] => { results := [.lit (.bool true)], args := [d1, d2] }
  | _ => none }
def vectorWalksRow : OpenClaim := { program := "ytjdiopoikppifaa", sum := "b88432287a876c84499840b175a361ea9939280037cc3c42b38b8a75629cc632", func := "telltale/telltalelaw02.VectorWalks", spec := "vectorWalks", unfollowed := true, recurses := true, apart := false }
def VectorWalksSaid : Prop := vectorWalksRow.holds Try.pinned (OpenSpec.ofChange vectorWalksSpec)

/-- ITS FALSE NEIGHBOUR: 'it returns false'. Refute it at one input. -/
def vectorWalksWrong : ChangeSpec := { name := "vectorWalks", fn := fun _ => fun
  | [d1, d2] => { results := [.lit (.bool false)], args := [d1, d2] }
  | _ => none }
def VectorWalksWrongFalsely : Prop := vectorWalksRow.holds Try.pinned (OpenSpec.ofChange vectorWalksWrong)

/-- 'telltalelaw02.VectorLattice': WHATEVER THE INPUT: true; the input reads as it did. -/
def vectorLatticeSpec : ChangeSpec := { name := "vectorLattice", fn := fun _ => fun
  | [d1, d2, d3] => { results := [.lit (.bool true)], args := [d1, d2, d3] }
  | _ => none }
def vectorLatticeRow : OpenClaim := { program := "ytjdiopoikppifaa", sum := "b88432287a876c84499840b175a361ea9939280037cc3c42b38b8a75629cc632", func := "telltale/telltalelaw02.VectorLattice", spec := "vectorLattice", unfollowed := true, recurses := true, apart := false }
def VectorLatticeSaid : Prop := vectorLatticeRow.holds Try.pinned (OpenSpec.ofChange vectorLatticeSpec)

/-- ITS FALSE NEIGHBOUR: 'it returns false'. Refute it at one input. -/
def vectorLatticeWrong : ChangeSpec := { name := "vectorLattice", fn := fun _ => fun
  | [d1, d2, d3] => { results := [.lit (.bool false)], args := [d1, d2, d3] }
  | _ => none }
def VectorLatticeWrongFalsely : Prop := vectorLatticeRow.holds Try.pinned (OpenSpec.ofChange vectorLatticeWrong)

/- THE SECOND FORM. 'bulk': how many values and letters a reading holds, each counted each time it is reached (what is shared counts as often as it is met; a slice's spare places count too). A statement '..UptoSaid' is the law's where the arguments, and the package variables that the reading takes, are together of bulk at most 1048576: NARROWER than '..Said'. Prove '..Said' where nothing that the law and all that it calls make is longer than what came in: it says more and counts as full. Else prove '..UptoSaid'. A law counts once. -/
mutual
def uptoBulk {H : Type} : DataW H → Nat
  | .lit (.string bytes) => bytes.length + 1
  | .lit _ => 1
  | .nil => 1
  | .ptr d => uptoBulk d + 1
  | .slice elems spare => uptoBulkAll elems + uptoBulkAll spare + 1
  | .agg parts => uptoBulkAll parts + 1
  | .iface _ d => uptoBulk d + 1
  | .map entries => uptoBulkEntries entries + 1
  | .held _ => 1
def uptoBulkAll {H : Type} : List (DataW H) → Nat
  | [] => 0
  | d :: r => uptoBulk d + uptoBulkAll r
def uptoBulkEntries {H : Type} : List (Lit × DataW H) → Nat
  | [] => 0
  | x :: r => uptoBulkEntry x + uptoBulkEntries r
def uptoBulkEntry {H : Type} : Lit × DataW H → Nat
  | (.string bytes, d) => bytes.length + uptoBulk d + 1
  | (_, d) => uptoBulk d + 1
 end
def uptoSmall : (H : Type) → List (DataW H) → Bool := fun _ ds => decide (uptoBulkAll ds ≤ 1048576)
def OpenSpec.upto (s : _root_.Go.ChangeSpec) : _root_.Go.OpenSpec := { _root_.Go.OpenSpec.ofChange s with cond := some uptoSmall }

/-- 'telltalelaw02.VectorCounts', WHERE WHAT IT READS IS OF BULK AT MOST 1048576: true; the input reads as it did. -/
def vectorCountsUptoRow : OpenClaim := { program := "ytjdiopoikppifaa", sum := "b88432287a876c84499840b175a361ea9939280037cc3c42b38b8a75629cc632", func := "telltale/telltalelaw02.VectorCounts", spec := "vectorCounts", unfollowed := true, recurses := true, apart := false, narrowed := true }
def VectorCountsUptoSaid : Prop := vectorCountsUptoRow.holds Try.pinned (OpenSpec.upto vectorCountsSpec)

/-- 'telltalelaw02.VectorCovers', WHERE WHAT IT READS IS OF BULK AT MOST 1048576: true; the input reads as it did. -/
def vectorCoversUptoRow : OpenClaim := { program := "ytjdiopoikppifaa", sum := "b88432287a876c84499840b175a361ea9939280037cc3c42b38b8a75629cc632", func := "telltale/telltalelaw02.VectorCovers", spec := "vectorCovers", unfollowed := true, recurses := true, apart := false, narrowed := true }
def VectorCoversUptoSaid : Prop := vectorCoversUptoRow.holds Try.pinned (OpenSpec.upto vectorCoversSpec)

/-- 'telltalelaw02.VectorJoins', WHERE WHAT IT READS IS OF BULK AT MOST 1048576: true; the input reads as it did. -/
def vectorJoinsUptoRow : OpenClaim := { program := "ytjdiopoikppifaa", sum := "b88432287a876c84499840b175a361ea9939280037cc3c42b38b8a75629cc632", func := "telltale/telltalelaw02.VectorJoins", spec := "vectorJoins", unfollowed := true, recurses := true, apart := false, narrowed := true }
def VectorJoinsUptoSaid : Prop := vectorJoinsUptoRow.holds Try.pinned (OpenSpec.upto vectorJoinsSpec)

/-- 'telltalelaw02.VectorWiths', WHERE WHAT IT READS IS OF BULK AT MOST 1048576: true; the input reads as it did. -/
def vectorWithsUptoRow : OpenClaim := { program := "ytjdiopoikppifaa", sum := "b88432287a876c84499840b175a361ea9939280037cc3c42b38b8a75629cc632", func := "telltale/telltalelaw02.VectorWiths", spec := "vectorWiths", unfollowed := true, recurses := true, apart := false, narrowed := true }
def VectorWithsUptoSaid : Prop := vectorWithsUptoRow.holds Try.pinned (OpenSpec.upto vectorWithsSpec)

/-- 'telltalelaw02.VectorWalks', WHERE WHAT IT READS IS OF BULK AT MOST 1048576: true; the input reads as it did. -/
def vectorWalksUptoRow : OpenClaim := { program := "ytjdiopoikppifaa", sum := "b88432287a876c84499840b175a361ea9939280037cc3c42b38b8a75629cc632", func := "telltale/telltalelaw02.VectorWalks", spec := "vectorWalks", unfollowed := true, recurses := true, apart := false, narrowed := true }
def VectorWalksUptoSaid : Prop := vectorWalksUptoRow.holds Try.pinned (OpenSpec.upto vectorWalksSpec)

/-- 'telltalelaw02.VectorLattice', WHERE WHAT IT READS IS OF BULK AT MOST 1048576: true; the input reads as it did. -/
def vectorLatticeUptoRow : OpenClaim := { program := "ytjdiopoikppifaa", sum := "b88432287a876c84499840b175a361ea9939280037cc3c42b38b8a75629cc632", func := "telltale/telltalelaw02.VectorLattice", spec := "vectorLattice", unfollowed := true, recurses := true, apart := false, narrowed := true }
def VectorLatticeUptoSaid : Prop := vectorLatticeUptoRow.holds Try.pinned (OpenSpec.upto vectorLatticeSpec)

end Rows
end Go.Proofs.Ytjdiopoikppifaa
