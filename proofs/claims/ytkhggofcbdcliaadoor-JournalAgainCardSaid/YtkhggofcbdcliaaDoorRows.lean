/-
  NARROWER THAN 'FOR EVERY INPUT', by the rows' own cells (each row's printed sentence says how): JournalAppends: laid · JournalStarts: laid · JournalScans: laid · JournalLasts: laid · JournalAgain: laid.
  DERIVED. THE GIVEN ROWS OF THIS SEAT. 5 by the template 'for every input the law returns true; each argument reads behind the call as it read before'; 0 by the template 'total and deterministic' (their statements: YtkhggofcbdcliaaDoorTotals.lean).
  GIVEN WITH THE SEED: the statements are not yours to turn. If you find one false, say at which input.
  Laid BY PROGRAM, IN A SANDBOX (cutbox-rows.mjs): the forced cells as the released guide's own fill.sh prints them over the translation e8c1516d7ebad3e7… (all of the seat's roots in one cut). By AI agents, Wed Nov 11 2026. No macro, syntax, notation, axiom, sorry.
-/
import Derived.Test.YtkhggofcbdcliaaDoorChecked
import GoSem.Claim
import GoSem.ClaimJoined
import GoSem.ClaimMapViews
import Derived.JoinedTies
import Derived.KernelRfl
namespace Go.Proofs.YtkhggofcbdcliaaDoor
/- THE CELL 'sum', in the pinned program and in every row, IS THE sha256 OF THE DUMP (.gsa) THAT YtkhggofcbdcliaaDoorProg.lean LOADS. Nothing in Lean hashes anything: it is a label: what it is worth is what the hold of that sum in a sandbox is worth. -/
noncomputable def Tryd.pinned : Pinned := { name := "ytkhggofcbdcliaadoor", sum := "e8c1516d7ebad3e74766b1a418c75efef3e97cbff3e094e0160c522c5596c511", checked := Tryd.checked }
namespace Rows
def none {H : Type} : Left H := { results := [], args := [] }

/- WHAT THE LISTED PACKAGE-LEVEL VARIABLES READ AS WHEN THE CALL BEGINS. Each datum BY PROGRAM (the guide's laid-datum.mjs) off the statement by which the dump's own 'gosem.cut.vars' lays the variable. In a bare row this is a premise. The card (YtkhggofcbdcliaaDoorCards.lean) ties it to the program's text. -/
def laid_telltale_frame_halves {H : Type} : DataW H := .agg [.lit (.int .u32 0), .lit (.int .u32 498536548), .lit (.int .u32 997073096), .lit (.int .u32 651767980), .lit (.int .u32 1994146192), .lit (.int .u32 1802195444), .lit (.int .u32 1303535960), .lit (.int .u32 1342533948), .lit (.int .u32 3988292384), .lit (.int .u32 4027552580), .lit (.int .u32 3604390888), .lit (.int .u32 3412177804), .lit (.int .u32 2607071920), .lit (.int .u32 2262029012), .lit (.int .u32 2685067896), .lit (.int .u32 3183342108)]

/-- 'telltalelaw09.JournalAppends': WHATEVER THE INPUT: true; the input reads as it did. -/
def journalAppendsSpec : ChangeSpec := { name := "journalAppends", fn := fun _ => fun
  | [d1, d2] => { results := [.lit (.bool true)], args := [d1, d2] }
  | _ => none }
def journalAppendsRow : OpenClaim := { program := "ytkhggofcbdcliaadoor", sum := "e8c1516d7ebad3e74766b1a418c75efef3e97cbff3e094e0160c522c5596c511", func := "telltale/telltalelaw09.JournalAppends", spec := "journalAppends", unfollowed := true, recurses := true, named := ["telltale/frame.halves"], apart := false, laid := [("telltale/frame.halves", laid_telltale_frame_halves)] }
def JournalAppendsSaid : Prop := journalAppendsRow.holds Tryd.pinned (OpenSpec.ofChange journalAppendsSpec)

/-- ITS FALSE NEIGHBOUR: 'it returns false'. Refute it at one input. -/
def journalAppendsWrong : ChangeSpec := { name := "journalAppends", fn := fun _ => fun
  | [d1, d2] => { results := [.lit (.bool false)], args := [d1, d2] }
  | _ => none }
def JournalAppendsWrongFalsely : Prop := journalAppendsRow.holds Tryd.pinned (OpenSpec.ofChange journalAppendsWrong)

/-- 'telltalelaw09.JournalStarts': WHATEVER THE INPUT: true; the input reads as it did. -/
def journalStartsSpec : ChangeSpec := { name := "journalStarts", fn := fun _ => fun
  | [d1, d2] => { results := [.lit (.bool true)], args := [d1, d2] }
  | _ => none }
def journalStartsRow : OpenClaim := { program := "ytkhggofcbdcliaadoor", sum := "e8c1516d7ebad3e74766b1a418c75efef3e97cbff3e094e0160c522c5596c511", func := "telltale/telltalelaw09.JournalStarts", spec := "journalStarts", unfollowed := true, recurses := true, named := ["telltale/frame.halves"], apart := false, laid := [("telltale/frame.halves", laid_telltale_frame_halves)] }
def JournalStartsSaid : Prop := journalStartsRow.holds Tryd.pinned (OpenSpec.ofChange journalStartsSpec)

/-- ITS FALSE NEIGHBOUR: 'it returns false'. Refute it at one input. -/
def journalStartsWrong : ChangeSpec := { name := "journalStarts", fn := fun _ => fun
  | [d1, d2] => { results := [.lit (.bool false)], args := [d1, d2] }
  | _ => none }
def JournalStartsWrongFalsely : Prop := journalStartsRow.holds Tryd.pinned (OpenSpec.ofChange journalStartsWrong)

/-- 'telltalelaw09.JournalScans': WHATEVER THE INPUT: true; the input reads as it did. -/
def journalScansSpec : ChangeSpec := { name := "journalScans", fn := fun _ => fun
  | [d] => { results := [.lit (.bool true)], args := [d] }
  | _ => none }
def journalScansRow : OpenClaim := { program := "ytkhggofcbdcliaadoor", sum := "e8c1516d7ebad3e74766b1a418c75efef3e97cbff3e094e0160c522c5596c511", func := "telltale/telltalelaw09.JournalScans", spec := "journalScans", unfollowed := true, recurses := true, named := ["telltale/frame.halves"], apart := false, laid := [("telltale/frame.halves", laid_telltale_frame_halves)] }
def JournalScansSaid : Prop := journalScansRow.holds Tryd.pinned (OpenSpec.ofChange journalScansSpec)

/-- ITS FALSE NEIGHBOUR: 'it returns false'. Refute it at one input. -/
def journalScansWrong : ChangeSpec := { name := "journalScans", fn := fun _ => fun
  | [d] => { results := [.lit (.bool false)], args := [d] }
  | _ => none }
def JournalScansWrongFalsely : Prop := journalScansRow.holds Tryd.pinned (OpenSpec.ofChange journalScansWrong)

/-- 'telltalelaw09.JournalLasts': WHATEVER THE INPUT: true; the input reads as it did. -/
def journalLastsSpec : ChangeSpec := { name := "journalLasts", fn := fun _ => fun
  | [d1, d2, d3] => { results := [.lit (.bool true)], args := [d1, d2, d3] }
  | _ => none }
def journalLastsRow : OpenClaim := { program := "ytkhggofcbdcliaadoor", sum := "e8c1516d7ebad3e74766b1a418c75efef3e97cbff3e094e0160c522c5596c511", func := "telltale/telltalelaw09.JournalLasts", spec := "journalLasts", unfollowed := true, recurses := true, named := ["telltale/frame.halves"], apart := false, laid := [("telltale/frame.halves", laid_telltale_frame_halves)] }
def JournalLastsSaid : Prop := journalLastsRow.holds Tryd.pinned (OpenSpec.ofChange journalLastsSpec)

/-- ITS FALSE NEIGHBOUR: 'it returns false'. Refute it at one input. -/
def journalLastsWrong : ChangeSpec := { name := "journalLasts", fn := fun _ => fun
  | [d1, d2, d3] => { results := [.lit (.bool false)], args := [d1, d2, d3] }
  | _ => none }
def JournalLastsWrongFalsely : Prop := journalLastsRow.holds Tryd.pinned (OpenSpec.ofChange journalLastsWrong)

/-- 'telltalelaw09.JournalAgain': WHATEVER THE INPUT: true; the input reads as it did. -/
def journalAgainSpec : ChangeSpec := { name := "journalAgain", fn := fun _ => fun
  | [d1, d2] => { results := [.lit (.bool true)], args := [d1, d2] }
  | _ => none }
def journalAgainRow : OpenClaim := { program := "ytkhggofcbdcliaadoor", sum := "e8c1516d7ebad3e74766b1a418c75efef3e97cbff3e094e0160c522c5596c511", func := "telltale/telltalelaw09.JournalAgain", spec := "journalAgain", unfollowed := true, recurses := true, named := ["telltale/frame.halves"], apart := false, laid := [("telltale/frame.halves", laid_telltale_frame_halves)] }
def JournalAgainSaid : Prop := journalAgainRow.holds Tryd.pinned (OpenSpec.ofChange journalAgainSpec)

/-- ITS FALSE NEIGHBOUR: 'it returns false'. Refute it at one input. -/
def journalAgainWrong : ChangeSpec := { name := "journalAgain", fn := fun _ => fun
  | [d1, d2] => { results := [.lit (.bool false)], args := [d1, d2] }
  | _ => none }
def JournalAgainWrongFalsely : Prop := journalAgainRow.holds Tryd.pinned (OpenSpec.ofChange journalAgainWrong)

/- THE SECOND FORM. 'bulk': how many values and letters a reading holds, each counted each time it is reached (what is shared counts as often as it is met; a slice's spare places count too). A statement '..UptoSaid' is the law's where the arguments, and the package variables that the reading takes, are together of bulk at most 1048576: NARROWER than '..Said'. Prove '..Said' where nothing that the law and all that it calls make is longer than what came in: it says more and counts as full. Else prove '..UptoSaid'. A law counts once. -/
mutual
def uptoBulk {H : Type} : DataW H → Nat
  | .lit (.string bytes) => bytes.length + 1
  | .lit _ => 1
  | .nil => 1
  | .ptr d => uptoBulk d + 1
  | .slice elems spare => uptoBulkAll elems + uptoBulkAll spare + 1
  | .agg parts => uptoBulkAll parts + 1
  | .iface _ d => uptoBulk d + 1
  | .map entries => uptoBulkEntries entries + 1
  | .held _ => 1
def uptoBulkAll {H : Type} : List (DataW H) → Nat
  | [] => 0
  | d :: r => uptoBulk d + uptoBulkAll r
def uptoBulkEntries {H : Type} : List (Lit × DataW H) → Nat
  | [] => 0
  | x :: r => uptoBulkEntry x + uptoBulkEntries r
def uptoBulkEntry {H : Type} : Lit × DataW H → Nat
  | (.string bytes, d) => bytes.length + uptoBulk d + 1
  | (_, d) => uptoBulk d + 1
 end
def uptoSmall : (H : Type) → List (DataW H) → Bool := fun _ ds => decide (uptoBulkAll ds ≤ 1048576)
def OpenSpec.upto (s : _root_.Go.ChangeSpec) : _root_.Go.OpenSpec := { _root_.Go.OpenSpec.ofChange s with cond := some uptoSmall }

/-- 'telltalelaw09.JournalAppends', WHERE WHAT IT READS IS OF BULK AT MOST 1048576: true; the input reads as it did. -/
def journalAppendsUptoRow : OpenClaim := { program := "ytkhggofcbdcliaadoor", sum := "e8c1516d7ebad3e74766b1a418c75efef3e97cbff3e094e0160c522c5596c511", func := "telltale/telltalelaw09.JournalAppends", spec := "journalAppends", unfollowed := true, recurses := true, named := ["telltale/frame.halves"], apart := false, laid := [("telltale/frame.halves", laid_telltale_frame_halves)], narrowed := true }
def JournalAppendsUptoSaid : Prop := journalAppendsUptoRow.holds Tryd.pinned (OpenSpec.upto journalAppendsSpec)

/-- 'telltalelaw09.JournalStarts', WHERE WHAT IT READS IS OF BULK AT MOST 1048576: true; the input reads as it did. -/
def journalStartsUptoRow : OpenClaim := { program := "ytkhggofcbdcliaadoor", sum := "e8c1516d7ebad3e74766b1a418c75efef3e97cbff3e094e0160c522c5596c511", func := "telltale/telltalelaw09.JournalStarts", spec := "journalStarts", unfollowed := true, recurses := true, named := ["telltale/frame.halves"], apart := false, laid := [("telltale/frame.halves", laid_telltale_frame_halves)], narrowed := true }
def JournalStartsUptoSaid : Prop := journalStartsUptoRow.holds Tryd.pinned (OpenSpec.upto journalStartsSpec)

/-- 'telltalelaw09.JournalScans', WHERE WHAT IT READS IS OF BULK AT MOST 1048576: true; the input reads as it did. -/
def journalScansUptoRow : OpenClaim := { program := "ytkhggofcbdcliaadoor", sum := "e8c1516d7ebad3e74766b1a418c75efef3e97cbff3e094e0160c522c5596c511", func := "telltale/telltalelaw09.JournalScans", spec := "journalScans", unfollowed := true, recurses := true, named := ["telltale/frame.halves"], apart := false, laid := [("telltale/frame.halves", laid_telltale_frame_halves)], narrowed := true }
def JournalScansUptoSaid : Prop := journalScansUptoRow.holds Tryd.pinned (OpenSpec.upto journalScansSpec)

/-- 'telltalelaw09.JournalLasts', WHERE WHAT IT READS IS OF BULK AT MOST 1048576: true; the input reads as it did. -/
def journalLastsUptoRow : OpenClaim := { program := "ytkhggofcbdcliaadoor", sum := "e8c1516d7ebad3e74766b1a418c75efef3e97cbff3e094e0160c522c5596c511", func := "telltale/telltalelaw09.JournalLasts", spec := "journalLasts", unfollowed := true, recurses := true, named := ["telltale/frame.halves"], apart := false, laid := [("telltale/frame.halves", laid_telltale_frame_halves)], narrowed := true }
def JournalLastsUptoSaid : Prop := journalLastsUptoRow.holds Tryd.pinned (OpenSpec.upto journalLastsSpec)

/-- 'telltalelaw09.JournalAgain', WHERE WHAT IT READS IS OF BULK AT MOST 1048576: true; the input reads as it did. -/
def journalAgainUptoRow : OpenClaim := { program := "ytkhggofcbdcliaadoor", sum := "e8c1516d7ebad3e74766b1a418c75efef3e97cbff3e094e0160c522c5596c511", func := "telltale/telltalelaw09.JournalAgain", spec := "journalAgain", unfollowed := true, recurses := true, named := ["telltale/frame.halves"], apart := false, laid := [("telltale/frame.halves", laid_telltale_frame_halves)], narrowed := true }
def JournalAgainUptoSaid : Prop := journalAgainUptoRow.holds Tryd.pinned (OpenSpec.upto journalAgainSpec)

end Rows
end Go.Proofs.YtkhggofcbdcliaaDoor
