/-
  No cell of these rows narrows 'for every input' (looked for: loops, veiled, ifaces, maps, wideKeys, modest, calm, conditions, laid).
  DERIVED. THE GIVEN ROWS OF THIS SEAT. 5 by the template 'for every input the law returns true; each argument reads behind the call as it read before'; 0 by the template 'total and deterministic' (their statements: YtbpgofgdlikedaaTotals.lean).
  GIVEN WITH THE SEED: the statements are not yours to turn. If you find one false, say at which input.
  Laid BY PROGRAM, IN A SANDBOX (cutbox-rows.mjs): the forced cells as the released guide's own fill.sh prints them over the translation 81a6cd65ddabf87e… (all of the seat's roots in one cut). By AI agents, Wed Nov 11 2026. No macro, syntax, notation, axiom, sorry.
-/
import Derived.Test.YtbpgofgdlikedaaChecked
import GoSem.Claim
import GoSem.ClaimJoined
import GoSem.ClaimMapViews
import Derived.JoinedTies
import Derived.KernelRfl
namespace Go.Proofs.Ytbpgofgdlikedaa
/- THE CELL 'sum', in the pinned program and in every row, IS THE sha256 OF THE DUMP (.gsa) THAT YtbpgofgdlikedaaProg.lean LOADS. Nothing in Lean hashes anything: it is a label: what it is worth is what the hold of that sum in a sandbox is worth. -/
noncomputable def Try.pinned : Pinned := { name := "ytbpgofgdlikedaa", sum := "81a6cd65ddabf87ed58d2f4608a8006c88449cecc53b3628e52b8a06c0bd84d3", checked := Try.checked }
namespace Rows
def none {H : Type} : Left H := { results := [], args := [] }

/-- 'telltalelaw11.ShelfGets': WHATEVER THE INPUT: true; the input reads as it did. -/
def shelfGetsSpec : ChangeSpec := { name := "shelfGets", fn := fun _ => fun
  | [d1, d2] => { results := [.lit (.bool true)], args := [d1, d2] }
  | _ => none }
def shelfGetsRow : OpenClaim := { program := "ytbpgofgdlikedaa", sum := "81a6cd65ddabf87ed58d2f4608a8006c88449cecc53b3628e52b8a06c0bd84d3", func := "telltale/telltalelaw11.ShelfGets", spec := "shelfGets", unfollowed := true, recurses := true, apart := false }
def ShelfGetsSaid : Prop := shelfGetsRow.holds Try.pinned (OpenSpec.ofChange shelfGetsSpec)

/-- ITS FALSE NEIGHBOUR: 'it returns false'. Refute it at one input. -/
def shelfGetsWrong : ChangeSpec := { name := "shelfGets", fn := fun _ => fun
  | [d1, d2] => { results := [.lit (.bool false)], args := [d1, d2] }
  | _ => none }
def ShelfGetsWrongFalsely : Prop := shelfGetsRow.holds Try.pinned (OpenSpec.ofChange shelfGetsWrong)

/-- 'telltalelaw11.ShelfPuts': WHATEVER THE INPUT: true; the input reads as it did. -/
def shelfPutsSpec : ChangeSpec := { name := "shelfPuts", fn := fun _ => fun
  | [d1, d2] => { results := [.lit (.bool true)], args := [d1, d2] }
  | _ => none }
def shelfPutsRow : OpenClaim := { program := "ytbpgofgdlikedaa", sum := "81a6cd65ddabf87ed58d2f4608a8006c88449cecc53b3628e52b8a06c0bd84d3", func := "telltale/telltalelaw11.ShelfPuts", spec := "shelfPuts", unfollowed := true, recurses := true, apart := false }
def ShelfPutsSaid : Prop := shelfPutsRow.holds Try.pinned (OpenSpec.ofChange shelfPutsSpec)

/-- ITS FALSE NEIGHBOUR: 'it returns false'. Refute it at one input. -/
def shelfPutsWrong : ChangeSpec := { name := "shelfPuts", fn := fun _ => fun
  | [d1, d2] => { results := [.lit (.bool false)], args := [d1, d2] }
  | _ => none }
def ShelfPutsWrongFalsely : Prop := shelfPutsRow.holds Try.pinned (OpenSpec.ofChange shelfPutsWrong)

/-- 'telltalelaw11.ShelfWithins': WHATEVER THE INPUT: true; the input reads as it did. -/
def shelfWithinsSpec : ChangeSpec := { name := "shelfWithins", fn := fun _ => fun
  | [d1, d2] => { results := [.lit (.bool true)], args := [d1, d2] }
  | _ => none }
def shelfWithinsRow : OpenClaim := { program := "ytbpgofgdlikedaa", sum := "81a6cd65ddabf87ed58d2f4608a8006c88449cecc53b3628e52b8a06c0bd84d3", func := "telltale/telltalelaw11.ShelfWithins", spec := "shelfWithins", unfollowed := true, recurses := true, apart := false }
def ShelfWithinsSaid : Prop := shelfWithinsRow.holds Try.pinned (OpenSpec.ofChange shelfWithinsSpec)

/-- ITS FALSE NEIGHBOUR: 'it returns false'. Refute it at one input. -/
def shelfWithinsWrong : ChangeSpec := { name := "shelfWithins", fn := fun _ => fun
  | [d1, d2] => { results := [.lit (.bool false)], args := [d1, d2] }
  | _ => none }
def ShelfWithinsWrongFalsely : Prop := shelfWithinsRow.holds Try.pinned (OpenSpec.ofChange shelfWithinsWrong)

/-- 'telltalelaw11.ShelfWalks': WHATEVER THE INPUT: true; the input reads as it did. -/
def shelfWalksSpec : ChangeSpec := { name := "shelfWalks", fn := fun _ => fun
  | [d1, d2] => { results := [.lit (.bool true)], args := [d1, d2] }
  | _ => none }
def shelfWalksRow : OpenClaim := { program := "ytbpgofgdlikedaa", sum := "81a6cd65ddabf87ed58d2f4608a8006c88449cecc53b3628e52b8a06c0bd84d3", func := "telltale/telltalelaw11.ShelfWalks", spec := "shelfWalks", unfollowed := true, recurses := true, apart := false }
def ShelfWalksSaid : Prop := shelfWalksRow.holds Try.pinned (OpenSpec.ofChange shelfWalksSpec)

/-- ITS FALSE NEIGHBOUR: 'it returns false'. Refute it at one input. -/
def shelfWalksWrong : ChangeSpec := { name := "shelfWalks", fn := fun _ => fun
  | [d1, d2] => { results := [.lit (.bool false)], args := [d1, d2] }
  | _ => none }
def ShelfWalksWrongFalsely : Prop := shelfWalksRow.holds Try.pinned (OpenSpec.ofChange shelfWalksWrong)

/-- 'telltalelaw11.ShelfNewest': WHATEVER THE INPUT: true; the input reads as it did. -/
def shelfNewestSpec : ChangeSpec := { name := "shelfNewest", fn := fun _ => fun
  | [d1, d2, d3] => { results := [.lit (.bool true)], args := [d1, d2, d3] }
  | _ => none }
def shelfNewestRow : OpenClaim := { program := "ytbpgofgdlikedaa", sum := "81a6cd65ddabf87ed58d2f4608a8006c88449cecc53b3628e52b8a06c0bd84d3", func := "telltale/telltalelaw11.ShelfNewest", spec := "shelfNewest", unfollowed := true, recurses := true, apart := false }
def ShelfNewestSaid : Prop := shelfNewestRow.holds Try.pinned (OpenSpec.ofChange shelfNewestSpec)

/-- ITS FALSE NEIGHBOUR: 'it returns false'. Refute it at one input. -/
def shelfNewestWrong : ChangeSpec := { name := "shelfNewest", fn := fun _ => fun
  | [d1, d2, d3] => { results := [.lit (.bool false)], args := [d1, d2, d3] }
  | _ => none }
def ShelfNewestWrongFalsely : Prop := shelfNewestRow.holds Try.pinned (OpenSpec.ofChange shelfNewestWrong)

/- THE SECOND FORM. 'bulk': how many values and letters a reading holds, each counted each time it is reached (what is shared counts as often as it is met; a slice's spare places count too). A statement '..UptoSaid' is the law's where the arguments, and the package variables that the reading takes, are together of bulk at most 1048576: NARROWER than '..Said'. Prove '..Said' where nothing that the law and all that it calls make is longer than what came in: it says more and counts as full. Else prove '..UptoSaid'. A law counts once. -/
mutual
def uptoBulk {H : Type} : DataW H → Nat
  | .lit (.string bytes) => bytes.length + 1
  | .lit _ => 1
  | .nil => 1
  | .ptr d => uptoBulk d + 1
  | .slice elems spare => uptoBulkAll elems + uptoBulkAll spare + 1
  | .agg parts => uptoBulkAll parts + 1
  | .iface _ d => uptoBulk d + 1
  | .map entries => uptoBulkEntries entries + 1
  | .held _ => 1
def uptoBulkAll {H : Type} : List (DataW H) → Nat
  | [] => 0
  | d :: r => uptoBulk d + uptoBulkAll r
def uptoBulkEntries {H : Type} : List (Lit × DataW H) → Nat
  | [] => 0
  | x :: r => uptoBulkEntry x + uptoBulkEntries r
def uptoBulkEntry {H : Type} : Lit × DataW H → Nat
  | (.string bytes, d) => bytes.length + uptoBulk d + 1
  | (_, d) => uptoBulk d + 1
 end
def uptoSmall : (H : Type) → List (DataW H) → Bool := fun _ ds => decide (uptoBulkAll ds ≤ 1048576)
def OpenSpec.upto (s : _root_.Go.ChangeSpec) : _root_.Go.OpenSpec := { _root_.Go.OpenSpec.ofChange s with cond := some uptoSmall }

/-- 'telltalelaw11.ShelfGets', WHERE WHAT IT READS IS OF BULK AT MOST 1048576: true; the input reads as it did. -/
def shelfGetsUptoRow : OpenClaim := { program := "ytbpgofgdlikedaa", sum := "81a6cd65ddabf87ed58d2f4608a8006c88449cecc53b3628e52b8a06c0bd84d3", func := "telltale/telltalelaw11.ShelfGets", spec := "shelfGets", unfollowed := true, recurses := true, apart := false, narrowed := true }
def ShelfGetsUptoSaid : Prop := shelfGetsUptoRow.holds Try.pinned (OpenSpec.upto shelfGetsSpec)

/-- 'telltalelaw11.ShelfPuts', WHERE WHAT IT READS IS OF BULK AT MOST 1048576: true; the input reads as it did. -/
def shelfPutsUptoRow : OpenClaim := { program := "ytbpgofgdlikedaa", sum := "81a6cd65ddabf87ed58d2f4608a8006c88449cecc53b3628e52b8a06c0bd84d3", func := "telltale/telltalelaw11.ShelfPuts", spec := "shelfPuts", unfollowed := true, recurses := true, apart := false, narrowed := true }
def ShelfPutsUptoSaid : Prop := shelfPutsUptoRow.holds Try.pinned (OpenSpec.upto shelfPutsSpec)

/-- 'telltalelaw11.ShelfWithins', WHERE WHAT IT READS IS OF BULK AT MOST 1048576: true; the input reads as it did. -/
def shelfWithinsUptoRow : OpenClaim := { program := "ytbpgofgdlikedaa", sum := "81a6cd65ddabf87ed58d2f4608a8006c88449cecc53b3628e52b8a06c0bd84d3", func := "telltale/telltalelaw11.ShelfWithins", spec := "shelfWithins", unfollowed := true, recurses := true, apart := false, narrowed := true }
def ShelfWithinsUptoSaid : Prop := shelfWithinsUptoRow.holds Try.pinned (OpenSpec.upto shelfWithinsSpec)

/-- 'telltalelaw11.ShelfWalks', WHERE WHAT IT READS IS OF BULK AT MOST 1048576: true; the input reads as it did. -/
def shelfWalksUptoRow : OpenClaim := { program := "ytbpgofgdlikedaa", sum := "81a6cd65ddabf87ed58d2f4608a8006c88449cecc53b3628e52b8a06c0bd84d3", func := "telltale/telltalelaw11.ShelfWalks", spec := "shelfWalks", unfollowed := true, recurses := true, apart := false, narrowed := true }
def ShelfWalksUptoSaid : Prop := shelfWalksUptoRow.holds Try.pinned (OpenSpec.upto shelfWalksSpec)

/-- 'telltalelaw11.ShelfNewest', WHERE WHAT IT READS IS OF BULK AT MOST 1048576: true; the input reads as it did. -/
def shelfNewestUptoRow : OpenClaim := { program := "ytbpgofgdlikedaa", sum := "81a6cd65ddabf87ed58d2f4608a8006c88449cecc53b3628e52b8a06c0bd84d3", func := "telltale/telltalelaw11.ShelfNewest", spec := "shelfNewest", unfollowed := true, recurses := true, apart := false, narrowed := true }
def ShelfNewestUptoSaid : Prop := shelfNewestUptoRow.holds Try.pinned (OpenSpec.upto shelfNewestSpec)

end Rows
end Go.Proofs.Ytbpgofgdlikedaa
