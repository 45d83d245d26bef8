/-
  No cell of these rows narrows 'for every input' (looked for: loops, veiled, ifaces, maps, wideKeys, modest, calm, conditions, laid).
  DERIVED. THE GIVEN ROWS OF THIS SEAT. 7 by the template 'for every input the law returns true; each argument reads behind the call as it read before'; 0 by the template 'total and deterministic' (their statements: YtbbmngabbbehcaaTotals.lean).
  GIVEN WITH THE SEED: the statements are not yours to turn. If you find one false, say at which input.
  Laid BY PROGRAM, IN A SANDBOX (cutbox-rows.mjs): the forced cells as the released guide's own fill.sh prints them over the translation a4c87d56d806b0fd… (all of the seat's roots in one cut). By AI agents, Wed Nov 11 2026. No macro, syntax, notation, axiom, sorry.
-/
import Derived.Test.YtbbmngabbbehcaaChecked
import GoSem.Claim
import GoSem.ClaimJoined
import GoSem.ClaimMapViews
import Derived.JoinedTies
import Derived.KernelRfl
namespace Go.Proofs.Ytbbmngabbbehcaa
/- THE CELL 'sum', in the pinned program and in every row, IS THE sha256 OF THE DUMP (.gsa) THAT YtbbmngabbbehcaaProg.lean LOADS. Nothing in Lean hashes anything: it is a label: what it is worth is what the hold of that sum in a sandbox is worth. -/
noncomputable def Try.pinned : Pinned := { name := "ytbbmngabbbehcaa", sum := "a4c87d56d806b0fd6871e59318fe89ab985dfeacfba5b6a8ce1d95b057c41b20", checked := Try.checked }
namespace Rows
def none {H : Type} : Left H := { results := [], args := [] }

/-- 'telltalelaw06.WireVectors': WHATEVER THE INPUT: true; the input reads as it did. -/
def wireVectorsSpec : ChangeSpec := { name := "wireVectors", fn := fun _ => fun
  | [d1, d2] => { results := [.lit (.bool true)], args := [d1, d2] }
  | _ => none }
def wireVectorsRow : OpenClaim := { program := "ytbbmngabbbehcaa", sum := "a4c87d56d806b0fd6871e59318fe89ab985dfeacfba5b6a8ce1d95b057c41b20", func := "telltale/telltalelaw06.WireVectors", spec := "wireVectors", unfollowed := true, recurses := true, apart := false }
def WireVectorsSaid : Prop := wireVectorsRow.holds Try.pinned (OpenSpec.ofChange wireVectorsSpec)

/-- ITS FALSE NEIGHBOUR: 'it returns false'. Refute it at one input. -/
def wireVectorsWrong : ChangeSpec := { name := "wireVectors", fn := fun _ => fun
  | [d1, d2] => { results := [.lit (.bool false)], args := [d1, d2] }
  | _ => none }
def WireVectorsWrongFalsely : Prop := wireVectorsRow.holds Try.pinned (OpenSpec.ofChange wireVectorsWrong)

/-- 'telltalelaw06.WireSets': WHATEVER THE INPUT: true; the input reads as it did. -/
def wireSetsSpec : ChangeSpec := { name := "wireSets", fn := fun _ => fun
  | [d1, d2] => { results := [.lit (.bool true)], args := [d1, d2] }
  | _ => none }
def wireSetsRow : OpenClaim := { program := "ytbbmngabbbehcaa", sum := "a4c87d56d806b0fd6871e59318fe89ab985dfeacfba5b6a8ce1d95b057c41b20", func := "telltale/telltalelaw06.WireSets", spec := "wireSets", unfollowed := true, recurses := true, apart := false }
def WireSetsSaid : Prop := wireSetsRow.holds Try.pinned (OpenSpec.ofChange wireSetsSpec)

/-- ITS FALSE NEIGHBOUR: 'it returns false'. Refute it at one input. -/
def wireSetsWrong : ChangeSpec := { name := "wireSets", fn := fun _ => fun
  | [d1, d2] => { results := [.lit (.bool false)], args := [d1, d2] }
  | _ => none }
def WireSetsWrongFalsely : Prop := wireSetsRow.holds Try.pinned (OpenSpec.ofChange wireSetsWrong)

/-- 'telltalelaw06.WireNotes': WHATEVER THE INPUT: true; the input reads as it did. -/
def wireNotesSpec : ChangeSpec := { name := "wireNotes", fn := fun _ => fun
  | [d1, d2] => { results := [.lit (.bool true)], args := [d1, d2] }
  | _ => none }
def wireNotesRow : OpenClaim := { program := "ytbbmngabbbehcaa", sum := "a4c87d56d806b0fd6871e59318fe89ab985dfeacfba5b6a8ce1d95b057c41b20", func := "telltale/telltalelaw06.WireNotes", spec := "wireNotes", unfollowed := true, recurses := true, apart := false }
def WireNotesSaid : Prop := wireNotesRow.holds Try.pinned (OpenSpec.ofChange wireNotesSpec)

/-- ITS FALSE NEIGHBOUR: 'it returns false'. Refute it at one input. -/
def wireNotesWrong : ChangeSpec := { name := "wireNotes", fn := fun _ => fun
  | [d1, d2] => { results := [.lit (.bool false)], args := [d1, d2] }
  | _ => none }
def WireNotesWrongFalsely : Prop := wireNotesRow.holds Try.pinned (OpenSpec.ofChange wireNotesWrong)

/-- 'telltalelaw06.WireBodies': WHATEVER THE INPUT: true; the input reads as it did. -/
def wireBodiesSpec : ChangeSpec := { name := "wireBodies", fn := fun _ => fun
  | [d1, d2] => { results := [.lit (.bool true)], args := [d1, d2] }
  | _ => none }
def wireBodiesRow : OpenClaim := { program := "ytbbmngabbbehcaa", sum := "a4c87d56d806b0fd6871e59318fe89ab985dfeacfba5b6a8ce1d95b057c41b20", func := "telltale/telltalelaw06.WireBodies", spec := "wireBodies", unfollowed := true, recurses := true, apart := false }
def WireBodiesSaid : Prop := wireBodiesRow.holds Try.pinned (OpenSpec.ofChange wireBodiesSpec)

/-- ITS FALSE NEIGHBOUR: 'it returns false'. Refute it at one input. -/
def wireBodiesWrong : ChangeSpec := { name := "wireBodies", fn := fun _ => fun
  | [d1, d2] => { results := [.lit (.bool false)], args := [d1, d2] }
  | _ => none }
def WireBodiesWrongFalsely : Prop := wireBodiesRow.holds Try.pinned (OpenSpec.ofChange wireBodiesWrong)

/-- 'telltalelaw06.WireMsgs': WHATEVER THE INPUT: true; the input reads as it did. -/
def wireMsgsSpec : ChangeSpec := { name := "wireMsgs", fn := fun _ => fun
  | [d] => { results := [.lit (.bool true)], args := [d] }
  | _ => none }
def wireMsgsRow : OpenClaim := { program := "ytbbmngabbbehcaa", sum := "a4c87d56d806b0fd6871e59318fe89ab985dfeacfba5b6a8ce1d95b057c41b20", func := "telltale/telltalelaw06.WireMsgs", spec := "wireMsgs", unfollowed := true, recurses := true, apart := false }
def WireMsgsSaid : Prop := wireMsgsRow.holds Try.pinned (OpenSpec.ofChange wireMsgsSpec)

/-- ITS FALSE NEIGHBOUR: 'it returns false'. Refute it at one input. -/
def wireMsgsWrong : ChangeSpec := { name := "wireMsgs", fn := fun _ => fun
  | [d] => { results := [.lit (.bool false)], args := [d] }
  | _ => none }
def WireMsgsWrongFalsely : Prop := wireMsgsRow.holds Try.pinned (OpenSpec.ofChange wireMsgsWrong)

/-- 'telltalelaw06.WireReads': WHATEVER THE INPUT: true; the input reads as it did. -/
def wireReadsSpec : ChangeSpec := { name := "wireReads", fn := fun _ => fun
  | [d] => { results := [.lit (.bool true)], args := [d] }
  | _ => none }
def wireReadsRow : OpenClaim := { program := "ytbbmngabbbehcaa", sum := "a4c87d56d806b0fd6871e59318fe89ab985dfeacfba5b6a8ce1d95b057c41b20", func := "telltale/telltalelaw06.WireReads", spec := "wireReads", unfollowed := true, recurses := true, apart := false }
def WireReadsSaid : Prop := wireReadsRow.holds Try.pinned (OpenSpec.ofChange wireReadsSpec)

/-- ITS FALSE NEIGHBOUR: 'it returns false'. Refute it at one input. -/
def wireReadsWrong : ChangeSpec := { name := "wireReads", fn := fun _ => fun
  | [d] => { results := [.lit (.bool false)], args := [d] }
  | _ => none }
def WireReadsWrongFalsely : Prop := wireReadsRow.holds Try.pinned (OpenSpec.ofChange wireReadsWrong)

/-- 'telltalelaw06.WireBack': WHATEVER THE INPUT: true; the input reads as it did. -/
def wireBackSpec : ChangeSpec := { name := "wireBack", fn := fun _ => fun
  | [d1, d2] => { results := [.lit (.bool true)], args := [d1, d2] }
  | _ => none }
def wireBackRow : OpenClaim := { program := "ytbbmngabbbehcaa", sum := "a4c87d56d806b0fd6871e59318fe89ab985dfeacfba5b6a8ce1d95b057c41b20", func := "telltale/telltalelaw06.WireBack", spec := "wireBack", unfollowed := true, recurses := true, apart := false }
def WireBackSaid : Prop := wireBackRow.holds Try.pinned (OpenSpec.ofChange wireBackSpec)

/-- ITS FALSE NEIGHBOUR: 'it returns false'. Refute it at one input. -/
def wireBackWrong : ChangeSpec := { name := "wireBack", fn := fun _ => fun
  | [d1, d2] => { results := [.lit (.bool false)], args := [d1, d2] }
  | _ => none }
def WireBackWrongFalsely : Prop := wireBackRow.holds Try.pinned (OpenSpec.ofChange wireBackWrong)

/- THE SECOND FORM. 'bulk': how many values and letters a reading holds, each counted each time it is reached (what is shared counts as often as it is met; a slice's spare places count too). A statement '..UptoSaid' is the law's where the arguments, and the package variables that the reading takes, are together of bulk at most 1048576: NARROWER than '..Said'. Prove '..Said' where nothing that the law and all that it calls make is longer than what came in: it says more and counts as full. Else prove '..UptoSaid'. A law counts once. -/
mutual
def uptoBulk {H : Type} : DataW H → Nat
  | .lit (.string bytes) => bytes.length + 1
  | .lit _ => 1
  | .nil => 1
  | .ptr d => uptoBulk d + 1
  | .slice elems spare => uptoBulkAll elems + uptoBulkAll spare + 1
  | .agg parts => uptoBulkAll parts + 1
  | .iface _ d => uptoBulk d + 1
  | .map entries => uptoBulkEntries entries + 1
  | .held _ => 1
def uptoBulkAll {H : Type} : List (DataW H) → Nat
  | [] => 0
  | d :: r => uptoBulk d + uptoBulkAll r
def uptoBulkEntries {H : Type} : List (Lit × DataW H) → Nat
  | [] => 0
  | x :: r => uptoBulkEntry x + uptoBulkEntries r
def uptoBulkEntry {H : Type} : Lit × DataW H → Nat
  | (.string bytes, d) => bytes.length + uptoBulk d + 1
  | (_, d) => uptoBulk d + 1
 end
def uptoSmall : (H : Type) → List (DataW H) → Bool := fun _ ds => decide (uptoBulkAll ds ≤ 1048576)
def OpenSpec.upto (s : _root_.Go.ChangeSpec) : _root_.Go.OpenSpec := { _root_.Go.OpenSpec.ofChange s with cond := some uptoSmall }

/-- 'telltalelaw06.WireVectors', WHERE WHAT IT READS IS OF BULK AT MOST 1048576: true; the input reads as it did. -/
def wireVectorsUptoRow : OpenClaim := { program := "ytbbmngabbbehcaa", sum := "a4c87d56d806b0fd6871e59318fe89ab985dfeacfba5b6a8ce1d95b057c41b20", func := "telltale/telltalelaw06.WireVectors", spec := "wireVectors", unfollowed := true, recurses := true, apart := false, narrowed := true }
def WireVectorsUptoSaid : Prop := wireVectorsUptoRow.holds Try.pinned (OpenSpec.upto wireVectorsSpec)

/-- 'telltalelaw06.WireSets', WHERE WHAT IT READS IS OF BULK AT MOST 1048576: true; the input reads as it did. -/
def wireSetsUptoRow : OpenClaim := { program := "ytbbmngabbbehcaa", sum := "a4c87d56d806b0fd6871e59318fe89ab985dfeacfba5b6a8ce1d95b057c41b20", func := "telltale/telltalelaw06.WireSets", spec := "wireSets", unfollowed := true, recurses := true, apart := false, narrowed := true }
def WireSetsUptoSaid : Prop := wireSetsUptoRow.holds Try.pinned (OpenSpec.upto wireSetsSpec)

/-- 'telltalelaw06.WireNotes', WHERE WHAT IT READS IS OF BULK AT MOST 1048576: true; the input reads as it did. -/
def wireNotesUptoRow : OpenClaim := { program := "ytbbmngabbbehcaa", sum := "a4c87d56d806b0fd6871e59318fe89ab985dfeacfba5b6a8ce1d95b057c41b20", func := "telltale/telltalelaw06.WireNotes", spec := "wireNotes", unfollowed := true, recurses := true, apart := false, narrowed := true }
def WireNotesUptoSaid : Prop := wireNotesUptoRow.holds Try.pinned (OpenSpec.upto wireNotesSpec)

/-- 'telltalelaw06.WireBodies', WHERE WHAT IT READS IS OF BULK AT MOST 1048576: true; the input reads as it did. -/
def wireBodiesUptoRow : OpenClaim := { program := "ytbbmngabbbehcaa", sum := "a4c87d56d806b0fd6871e59318fe89ab985dfeacfba5b6a8ce1d95b057c41b20", func := "telltale/telltalelaw06.WireBodies", spec := "wireBodies", unfollowed := true, recurses := true, apart := false, narrowed := true }
def WireBodiesUptoSaid : Prop := wireBodiesUptoRow.holds Try.pinned (OpenSpec.upto wireBodiesSpec)

/-- 'telltalelaw06.WireMsgs', WHERE WHAT IT READS IS OF BULK AT MOST 1048576: true; the input reads as it did. -/
def wireMsgsUptoRow : OpenClaim := { program := "ytbbmngabbbehcaa", sum := "a4c87d56d806b0fd6871e59318fe89ab985dfeacfba5b6a8ce1d95b057c41b20", func := "telltale/telltalelaw06.WireMsgs", spec := "wireMsgs", unfollowed := true, recurses := true, apart := false, narrowed := true }
def WireMsgsUptoSaid : Prop := wireMsgsUptoRow.holds Try.pinned (OpenSpec.upto wireMsgsSpec)

/-- 'telltalelaw06.WireReads', WHERE WHAT IT READS IS OF BULK AT MOST 1048576: true; the input reads as it did. -/
def wireReadsUptoRow : OpenClaim := { program := "ytbbmngabbbehcaa", sum := "a4c87d56d806b0fd6871e59318fe89ab985dfeacfba5b6a8ce1d95b057c41b20", func := "telltale/telltalelaw06.WireReads", spec := "wireReads", unfollowed := true, recurses := true, apart := false, narrowed := true }
def WireReadsUptoSaid : Prop := wireReadsUptoRow.holds Try.pinned (OpenSpec.upto wireReadsSpec)

/-- 'telltalelaw06.WireBack', WHERE WHAT IT READS IS OF BULK AT MOST 1048576: true; the input reads as it did. -/
def wireBackUptoRow : OpenClaim := { program := "ytbbmngabbbehcaa", sum := "a4c87d56d806b0fd6871e59318fe89ab985dfeacfba5b6a8ce1d95b057c41b20", func := "telltale/telltalelaw06.WireBack", spec := "wireBack", unfollowed := true, recurses := true, apart := false, narrowed := true }
def WireBackUptoSaid : Prop := wireBackUptoRow.holds Try.pinned (OpenSpec.upto wireBackSpec)

end Rows
end Go.Proofs.Ytbbmngabbbehcaa
