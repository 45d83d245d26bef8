/-
  No cell of these rows narrows 'for every input' (looked for: loops, veiled, ifaces, maps, wideKeys, modest, calm, conditions, laid).
  DERIVED. THE GIVEN ROWS OF THIS SEAT. 7 by the template 'for every input the law returns true; each argument reads behind the call as it read before'; 0 by the template 'total and deterministic' (their statements: YtoaclofobfaflaaTotals.lean).
  GIVEN WITH THE SEED: the statements are not yours to turn. If you find one false, say at which input.
  Laid BY PROGRAM, IN A SANDBOX (cutbox-rows.mjs): the forced cells as the released guide's own fill.sh prints them over the translation 66344f46dc672643… (all of the seat's roots in one cut). By AI agents, Wed Nov 11 2026. No macro, syntax, notation, axiom, sorry.
-/
import Derived.Test.YtoaclofobfaflaaChecked
import GoSem.Claim
import GoSem.ClaimJoined
import GoSem.ClaimMapViews
import Derived.JoinedTies
import Derived.KernelRfl
namespace Go.Proofs.Ytoaclofobfaflaa
/- THE CELL 'sum', in the pinned program and in every row, IS THE sha256 OF THE DUMP (.gsa) THAT YtoaclofobfaflaaProg.lean LOADS. Nothing in Lean hashes anything: it is a label: what it is worth is what the hold of that sum in a sandbox is worth. -/
noncomputable def Try.pinned : Pinned := { name := "ytoaclofobfaflaa", sum := "66344f46dc6726434baa6ae66df0b695f51eb641398b9bb80835ee83eb80d459", checked := Try.checked }
namespace Rows
def none {H : Type} : Left H := { results := [], args := [] }

/-- 'telltalelaw04.NoteForms': WHATEVER THE INPUT: true; the input reads as it did. -/
def noteFormsSpec : ChangeSpec := { name := "noteForms", fn := fun _ => fun
  | [d1, d2] => { results := [.lit (.bool true)], args := [d1, d2] }
  | _ => none }
def noteFormsRow : OpenClaim := { program := "ytoaclofobfaflaa", sum := "66344f46dc6726434baa6ae66df0b695f51eb641398b9bb80835ee83eb80d459", func := "telltale/telltalelaw04.NoteForms", spec := "noteForms", unfollowed := true, recurses := true, apart := false }
def NoteFormsSaid : Prop := noteFormsRow.holds Try.pinned (OpenSpec.ofChange noteFormsSpec)

/-- ITS FALSE NEIGHBOUR: 'it returns false'. Refute it at one input. -/
def noteFormsWrong : ChangeSpec := { name := "noteForms", fn := fun _ => fun
  | [d1, d2] => { results := [.lit (.bool false)], args := [d1, d2] }
  | _ => none }
def NoteFormsWrongFalsely : Prop := noteFormsRow.holds Try.pinned (OpenSpec.ofChange noteFormsWrong)

/-- 'telltalelaw04.NoteOfs': WHATEVER THE INPUT: true; the input reads as it did. -/
def noteOfsSpec : ChangeSpec := { name := "noteOfs", fn := fun _ => fun
  | [d1, d2] => { results := [.lit (.bool true)], args := [d1, d2] }
  | _ => none }
def noteOfsRow : OpenClaim := { program := "ytoaclofobfaflaa", sum := "66344f46dc6726434baa6ae66df0b695f51eb641398b9bb80835ee83eb80d459", func := "telltale/telltalelaw04.NoteOfs", spec := "noteOfs", unfollowed := true, recurses := true, apart := false }
def NoteOfsSaid : Prop := noteOfsRow.holds Try.pinned (OpenSpec.ofChange noteOfsSpec)

/-- ITS FALSE NEIGHBOUR: 'it returns false'. Refute it at one input. -/
def noteOfsWrong : ChangeSpec := { name := "noteOfs", fn := fun _ => fun
  | [d1, d2] => { results := [.lit (.bool false)], args := [d1, d2] }
  | _ => none }
def NoteOfsWrongFalsely : Prop := noteOfsRow.holds Try.pinned (OpenSpec.ofChange noteOfsWrong)

/-- 'telltalelaw04.NoteTells': WHATEVER THE INPUT: true; the input reads as it did. -/
def noteTellsSpec : ChangeSpec := { name := "noteTells", fn := fun _ => fun
  | [d1, d2] => { results := [.lit (.bool true)], args := [d1, d2] }
  | _ => none }
def noteTellsRow : OpenClaim := { program := "ytoaclofobfaflaa", sum := "66344f46dc6726434baa6ae66df0b695f51eb641398b9bb80835ee83eb80d459", func := "telltale/telltalelaw04.NoteTells", spec := "noteTells", unfollowed := true, recurses := true, apart := false }
def NoteTellsSaid : Prop := noteTellsRow.holds Try.pinned (OpenSpec.ofChange noteTellsSpec)

/-- ITS FALSE NEIGHBOUR: 'it returns false'. Refute it at one input. -/
def noteTellsWrong : ChangeSpec := { name := "noteTells", fn := fun _ => fun
  | [d1, d2] => { results := [.lit (.bool false)], args := [d1, d2] }
  | _ => none }
def NoteTellsWrongFalsely : Prop := noteTellsRow.holds Try.pinned (OpenSpec.ofChange noteTellsWrong)

/-- 'telltalelaw04.NoteThroughs': WHATEVER THE INPUT: true; the input reads as it did. -/
def noteThroughsSpec : ChangeSpec := { name := "noteThroughs", fn := fun _ => fun
  | [d1, d2] => { results := [.lit (.bool true)], args := [d1, d2] }
  | _ => none }
def noteThroughsRow : OpenClaim := { program := "ytoaclofobfaflaa", sum := "66344f46dc6726434baa6ae66df0b695f51eb641398b9bb80835ee83eb80d459", func := "telltale/telltalelaw04.NoteThroughs", spec := "noteThroughs", unfollowed := true, recurses := true, apart := false }
def NoteThroughsSaid : Prop := noteThroughsRow.holds Try.pinned (OpenSpec.ofChange noteThroughsSpec)

/-- ITS FALSE NEIGHBOUR: 'it returns false'. Refute it at one input. -/
def noteThroughsWrong : ChangeSpec := { name := "noteThroughs", fn := fun _ => fun
  | [d1, d2] => { results := [.lit (.bool false)], args := [d1, d2] }
  | _ => none }
def NoteThroughsWrongFalsely : Prop := noteThroughsRow.holds Try.pinned (OpenSpec.ofChange noteThroughsWrong)

/-- 'telltalelaw04.NoteMerges': WHATEVER THE INPUT: true; the input reads as it did. -/
def noteMergesSpec : ChangeSpec := { name := "noteMerges", fn := fun _ => fun
  | [d1, d2] => { results := [.lit (.bool true)], args := [d1, d2] }
  | _ => none }
def noteMergesRow : OpenClaim := { program := "ytoaclofobfaflaa", sum := "66344f46dc6726434baa6ae66df0b695f51eb641398b9bb80835ee83eb80d459", func := "telltale/telltalelaw04.NoteMerges", spec := "noteMerges", unfollowed := true, recurses := true, apart := false }
def NoteMergesSaid : Prop := noteMergesRow.holds Try.pinned (OpenSpec.ofChange noteMergesSpec)

/-- ITS FALSE NEIGHBOUR: 'it returns false'. Refute it at one input. -/
def noteMergesWrong : ChangeSpec := { name := "noteMerges", fn := fun _ => fun
  | [d1, d2] => { results := [.lit (.bool false)], args := [d1, d2] }
  | _ => none }
def NoteMergesWrongFalsely : Prop := noteMergesRow.holds Try.pinned (OpenSpec.ofChange noteMergesWrong)

/-- 'telltalelaw04.NoteTwice': WHATEVER THE INPUT: true; the input reads as it did. -/
def noteTwiceSpec : ChangeSpec := { name := "noteTwice", fn := fun _ => fun
  | [d1, d2, d3] => { results := [.lit (.bool true)], args := [d1, d2, d3] }
  | _ => none }
def noteTwiceRow : OpenClaim := { program := "ytoaclofobfaflaa", sum := "66344f46dc6726434baa6ae66df0b695f51eb641398b9bb80835ee83eb80d459", func := "telltale/telltalelaw04.NoteTwice", spec := "noteTwice", unfollowed := true, recurses := true, apart := false }
def NoteTwiceSaid : Prop := noteTwiceRow.holds Try.pinned (OpenSpec.ofChange noteTwiceSpec)

/-- ITS FALSE NEIGHBOUR: 'it returns false'. Refute it at one input. -/
def noteTwiceWrong : ChangeSpec := { name := "noteTwice", fn := fun _ => fun
  | [d1, d2, d3] => { results := [.lit (.bool false)], args := [d1, d2, d3] }
  | _ => none }
def NoteTwiceWrongFalsely : Prop := noteTwiceRow.holds Try.pinned (OpenSpec.ofChange noteTwiceWrong)

/-- 'telltalelaw04.NoteMerged': WHATEVER THE INPUT: true; the input reads as it did. -/
def noteMergedSpec : ChangeSpec := { name := "noteMerged", fn := fun _ => fun
  | [d1, d2, d3] => { results := [.lit (.bool true)], args := [d1, d2, d3] }
  | _ => none }
def noteMergedRow : OpenClaim := { program := "ytoaclofobfaflaa", sum := "66344f46dc6726434baa6ae66df0b695f51eb641398b9bb80835ee83eb80d459", func := "telltale/telltalelaw04.NoteMerged", spec := "noteMerged", unfollowed := true, recurses := true, apart := false }
def NoteMergedSaid : Prop := noteMergedRow.holds Try.pinned (OpenSpec.ofChange noteMergedSpec)

/-- ITS FALSE NEIGHBOUR: 'it returns false'. Refute it at one input. -/
def noteMergedWrong : ChangeSpec := { name := "noteMerged", fn := fun _ => fun
  | [d1, d2, d3] => { results := [.lit (.bool false)], args := [d1, d2, d3] }
  | _ => none }
def NoteMergedWrongFalsely : Prop := noteMergedRow.holds Try.pinned (OpenSpec.ofChange noteMergedWrong)

/- THE SECOND FORM. 'bulk': how many values and letters a reading holds, each counted each time it is reached (what is shared counts as often as it is met; a slice's spare places count too). A statement '..UptoSaid' is the law's where the arguments, and the package variables that the reading takes, are together of bulk at most 1048576: NARROWER than '..Said'. Prove '..Said' where nothing that the law and all that it calls make is longer than what came in: it says more and counts as full. Else prove '..UptoSaid'. A law counts once. -/
mutual
def uptoBulk {H : Type} : DataW H → Nat
  | .lit (.string bytes) => bytes.length + 1
  | .lit _ => 1
  | .nil => 1
  | .ptr d => uptoBulk d + 1
  | .slice elems spare => uptoBulkAll elems + uptoBulkAll spare + 1
  | .agg parts => uptoBulkAll parts + 1
  | .iface _ d => uptoBulk d + 1
  | .map entries => uptoBulkEntries entries + 1
  | .held _ => 1
def uptoBulkAll {H : Type} : List (DataW H) → Nat
  | [] => 0
  | d :: r => uptoBulk d + uptoBulkAll r
def uptoBulkEntries {H : Type} : List (Lit × DataW H) → Nat
  | [] => 0
  | x :: r => uptoBulkEntry x + uptoBulkEntries r
def uptoBulkEntry {H : Type} : Lit × DataW H → Nat
  | (.string bytes, d) => bytes.length + uptoBulk d + 1
  | (_, d) => uptoBulk d + 1
 end
def uptoSmall : (H : Type) → List (DataW H) → Bool := fun _ ds => decide (uptoBulkAll ds ≤ 1048576)
def OpenSpec.upto (s : _root_.Go.ChangeSpec) : _root_.Go.OpenSpec := { _root_.Go.OpenSpec.ofChange s with cond := some uptoSmall }

/-- 'telltalelaw04.NoteForms', WHERE WHAT IT READS IS OF BULK AT MOST 1048576: true; the input reads as it did. -/
def noteFormsUptoRow : OpenClaim := { program := "ytoaclofobfaflaa", sum := "66344f46dc6726434baa6ae66df0b695f51eb641398b9bb80835ee83eb80d459", func := "telltale/telltalelaw04.NoteForms", spec := "noteForms", unfollowed := true, recurses := true, apart := false, narrowed := true }
def NoteFormsUptoSaid : Prop := noteFormsUptoRow.holds Try.pinned (OpenSpec.upto noteFormsSpec)

/-- 'telltalelaw04.NoteOfs', WHERE WHAT IT READS IS OF BULK AT MOST 1048576: true; the input reads as it did. -/
def noteOfsUptoRow : OpenClaim := { program := "ytoaclofobfaflaa", sum := "66344f46dc6726434baa6ae66df0b695f51eb641398b9bb80835ee83eb80d459", func := "telltale/telltalelaw04.NoteOfs", spec := "noteOfs", unfollowed := true, recurses := true, apart := false, narrowed := true }
def NoteOfsUptoSaid : Prop := noteOfsUptoRow.holds Try.pinned (OpenSpec.upto noteOfsSpec)

/-- 'telltalelaw04.NoteTells', WHERE WHAT IT READS IS OF BULK AT MOST 1048576: true; the input reads as it did. -/
def noteTellsUptoRow : OpenClaim := { program := "ytoaclofobfaflaa", sum := "66344f46dc6726434baa6ae66df0b695f51eb641398b9bb80835ee83eb80d459", func := "telltale/telltalelaw04.NoteTells", spec := "noteTells", unfollowed := true, recurses := true, apart := false, narrowed := true }
def NoteTellsUptoSaid : Prop := noteTellsUptoRow.holds Try.pinned (OpenSpec.upto noteTellsSpec)

/-- 'telltalelaw04.NoteThroughs', WHERE WHAT IT READS IS OF BULK AT MOST 1048576: true; the input reads as it did. -/
def noteThroughsUptoRow : OpenClaim := { program := "ytoaclofobfaflaa", sum := "66344f46dc6726434baa6ae66df0b695f51eb641398b9bb80835ee83eb80d459", func := "telltale/telltalelaw04.NoteThroughs", spec := "noteThroughs", unfollowed := true, recurses := true, apart := false, narrowed := true }
def NoteThroughsUptoSaid : Prop := noteThroughsUptoRow.holds Try.pinned (OpenSpec.upto noteThroughsSpec)

/-- 'telltalelaw04.NoteMerges', WHERE WHAT IT READS IS OF BULK AT MOST 1048576: true; the input reads as it did. -/
def noteMergesUptoRow : OpenClaim := { program := "ytoaclofobfaflaa", sum := "66344f46dc6726434baa6ae66df0b695f51eb641398b9bb80835ee83eb80d459", func := "telltale/telltalelaw04.NoteMerges", spec := "noteMerges", unfollowed := true, recurses := true, apart := false, narrowed := true }
def NoteMergesUptoSaid : Prop := noteMergesUptoRow.holds Try.pinned (OpenSpec.upto noteMergesSpec)

/-- 'telltalelaw04.NoteTwice', WHERE WHAT IT READS IS OF BULK AT MOST 1048576: true; the input reads as it did. -/
def noteTwiceUptoRow : OpenClaim := { program := "ytoaclofobfaflaa", sum := "66344f46dc6726434baa6ae66df0b695f51eb641398b9bb80835ee83eb80d459", func := "telltale/telltalelaw04.NoteTwice", spec := "noteTwice", unfollowed := true, recurses := true, apart := false, narrowed := true }
def NoteTwiceUptoSaid : Prop := noteTwiceUptoRow.holds Try.pinned (OpenSpec.upto noteTwiceSpec)

/-- 'telltalelaw04.NoteMerged', WHERE WHAT IT READS IS OF BULK AT MOST 1048576: true; the input reads as it did. -/
def noteMergedUptoRow : OpenClaim := { program := "ytoaclofobfaflaa", sum := "66344f46dc6726434baa6ae66df0b695f51eb641398b9bb80835ee83eb80d459", func := "telltale/telltalelaw04.NoteMerged", spec := "noteMerged", unfollowed := true, recurses := true, apart := false, narrowed := true }
def NoteMergedUptoSaid : Prop := noteMergedUptoRow.holds Try.pinned (OpenSpec.upto noteMergedSpec)

end Rows
end Go.Proofs.Ytoaclofobfaflaa
