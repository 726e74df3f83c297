/-
  No cell of these rows narrows 'for every input' (looked for: loops, veiled, ifaces, maps, wideKeys, modest, calm, conditions, laid).
  DERIVED. THE GIVEN ROWS OF THIS SEAT. 5 by the template 'for every input the law returns true; each argument reads behind the call as it read before'; 0 by the template 'total and deterministic' (their statements: YthocaimiofehkaaTotals.lean).
  GIVEN WITH THE SEED: the statements are not yours to turn. If you find one false, say at which input.
  Laid BY PROGRAM, IN A SANDBOX (cutbox-rows.mjs): the forced cells as the released guide's own fill.sh prints them over the translation e1a3a7a52cf4a1aa… (all of the seat's roots in one cut). By AI agents, Wed Nov 11 2026. No macro, syntax, notation, axiom, sorry.
-/
import Derived.Test.YthocaimiofehkaaChecked
import GoSem.Claim
import GoSem.ClaimJoined
import GoSem.ClaimMapViews
import Derived.JoinedTies
import Derived.KernelRfl
namespace Go.Proofs.Ythocaimiofehkaa
/- THE CELL 'sum', in the pinned program and in every row, IS THE sha256 OF THE DUMP (.gsa) THAT YthocaimiofehkaaProg.lean LOADS. Nothing in Lean hashes anything: it is a label: what it is worth is what the hold of that sum in a sandbox is worth. -/
noncomputable def Try.pinned : Pinned := { name := "ythocaimiofehkaa", sum := "e1a3a7a52cf4a1aa6a2f64b2e8f70307313ee5e1e0957e3d63acd8ee1a3f0259", checked := Try.checked }
namespace Rows
def none {H : Type} : Left H := { results := [], args := [] }

/-- 'godownlaw08.ScanFinds': WHATEVER THE INPUT: true; the input reads as it did. -/
def scanFindsSpec : ChangeSpec := { name := "scanFinds", fn := fun _ => fun
  | [d1, d2] => { results := [.lit (.bool true)], args := [d1, d2] }
  | _ => none }
def scanFindsRow : OpenClaim := { program := "ythocaimiofehkaa", sum := "e1a3a7a52cf4a1aa6a2f64b2e8f70307313ee5e1e0957e3d63acd8ee1a3f0259", func := "godown/godownlaw08.ScanFinds", spec := "scanFinds", inPlace := ["internal/bytealg.IndexByteString", "internal/bytealg.IndexByte", "internal/bytealg.Index"], recurses := true, named := ["internal/bytealg.MaxLen"], apart := false }
def ScanFindsSaid : Prop := scanFindsRow.holds Try.pinned (OpenSpec.ofChange scanFindsSpec)

/-- ITS FALSE NEIGHBOUR: 'it returns false'. Refute it at one input. -/
def scanFindsWrong : ChangeSpec := { name := "scanFinds", fn := fun _ => fun
  | [d1, d2] => { results := [.lit (.bool false)], args := [d1, d2] }
  | _ => none }
def ScanFindsWrongFalsely : Prop := scanFindsRow.holds Try.pinned (OpenSpec.ofChange scanFindsWrong)

/-- 'godownlaw08.ScanAnywhere': WHATEVER THE INPUT: true; the input reads as it did. -/
def scanAnywhereSpec : ChangeSpec := { name := "scanAnywhere", fn := fun _ => fun
  | [d1, d2, d3] => { results := [.lit (.bool true)], args := [d1, d2, d3] }
  | _ => none }
def scanAnywhereRow : OpenClaim := { program := "ythocaimiofehkaa", sum := "e1a3a7a52cf4a1aa6a2f64b2e8f70307313ee5e1e0957e3d63acd8ee1a3f0259", func := "godown/godownlaw08.ScanAnywhere", spec := "scanAnywhere", inPlace := ["internal/bytealg.IndexByteString", "internal/bytealg.IndexByte", "internal/bytealg.Index"], recurses := true, named := ["internal/bytealg.MaxLen"], apart := false }
def ScanAnywhereSaid : Prop := scanAnywhereRow.holds Try.pinned (OpenSpec.ofChange scanAnywhereSpec)

/-- ITS FALSE NEIGHBOUR: 'it returns false'. Refute it at one input. -/
def scanAnywhereWrong : ChangeSpec := { name := "scanAnywhere", fn := fun _ => fun
  | [d1, d2, d3] => { results := [.lit (.bool false)], args := [d1, d2, d3] }
  | _ => none }
def ScanAnywhereWrongFalsely : Prop := scanAnywhereRow.holds Try.pinned (OpenSpec.ofChange scanAnywhereWrong)

/-- 'godownlaw08.ScanNone': WHATEVER THE INPUT: true; the input reads as it did. -/
def scanNoneSpec : ChangeSpec := { name := "scanNone", fn := fun _ => fun
  | [d1, d2] => { results := [.lit (.bool true)], args := [d1, d2] }
  | _ => none }
def scanNoneRow : OpenClaim := { program := "ythocaimiofehkaa", sum := "e1a3a7a52cf4a1aa6a2f64b2e8f70307313ee5e1e0957e3d63acd8ee1a3f0259", func := "godown/godownlaw08.ScanNone", spec := "scanNone", inPlace := ["internal/bytealg.IndexByteString", "internal/bytealg.IndexByte", "internal/bytealg.Index"], recurses := true, named := ["internal/bytealg.MaxLen"], apart := false }
def ScanNoneSaid : Prop := scanNoneRow.holds Try.pinned (OpenSpec.ofChange scanNoneSpec)

/-- ITS FALSE NEIGHBOUR: 'it returns false'. Refute it at one input. -/
def scanNoneWrong : ChangeSpec := { name := "scanNone", fn := fun _ => fun
  | [d1, d2] => { results := [.lit (.bool false)], args := [d1, d2] }
  | _ => none }
def ScanNoneWrongFalsely : Prop := scanNoneRow.holds Try.pinned (OpenSpec.ofChange scanNoneWrong)

/-- 'godownlaw08.ScanGrows': WHATEVER THE INPUT: true; the input reads as it did. -/
def scanGrowsSpec : ChangeSpec := { name := "scanGrows", fn := fun _ => fun
  | [d1, d2, d3] => { results := [.lit (.bool true)], args := [d1, d2, d3] }
  | _ => none }
def scanGrowsRow : OpenClaim := { program := "ythocaimiofehkaa", sum := "e1a3a7a52cf4a1aa6a2f64b2e8f70307313ee5e1e0957e3d63acd8ee1a3f0259", func := "godown/godownlaw08.ScanGrows", spec := "scanGrows", inPlace := ["internal/bytealg.IndexByteString", "internal/bytealg.IndexByte", "internal/bytealg.Index"], recurses := true, named := ["internal/bytealg.MaxLen"], apart := false }
def ScanGrowsSaid : Prop := scanGrowsRow.holds Try.pinned (OpenSpec.ofChange scanGrowsSpec)

/-- ITS FALSE NEIGHBOUR: 'it returns false'. Refute it at one input. -/
def scanGrowsWrong : ChangeSpec := { name := "scanGrows", fn := fun _ => fun
  | [d1, d2, d3] => { results := [.lit (.bool false)], args := [d1, d2, d3] }
  | _ => none }
def ScanGrowsWrongFalsely : Prop := scanGrowsRow.holds Try.pinned (OpenSpec.ofChange scanGrowsWrong)

/-- 'godownlaw08.ScanTwice': WHATEVER THE INPUT: true; the input reads as it did. -/
def scanTwiceSpec : ChangeSpec := { name := "scanTwice", fn := fun _ => fun
  | [d1, d2, d3] => { results := [.lit (.bool true)], args := [d1, d2, d3] }
  | _ => none }
def scanTwiceRow : OpenClaim := { program := "ythocaimiofehkaa", sum := "e1a3a7a52cf4a1aa6a2f64b2e8f70307313ee5e1e0957e3d63acd8ee1a3f0259", func := "godown/godownlaw08.ScanTwice", spec := "scanTwice", inPlace := ["internal/bytealg.IndexByteString", "internal/bytealg.IndexByte", "internal/bytealg.Index"], recurses := true, named := ["internal/bytealg.MaxLen"], apart := false }
def ScanTwiceSaid : Prop := scanTwiceRow.holds Try.pinned (OpenSpec.ofChange scanTwiceSpec)

/-- ITS FALSE NEIGHBOUR: 'it returns false'. Refute it at one input. -/
def scanTwiceWrong : ChangeSpec := { name := "scanTwice", fn := fun _ => fun
  | [d1, d2, d3] => { results := [.lit (.bool false)], args := [d1, d2, d3] }
  | _ => none }
def ScanTwiceWrongFalsely : Prop := scanTwiceRow.holds Try.pinned (OpenSpec.ofChange scanTwiceWrong)

/- THE SECOND FORM. 'bulk': how many values and letters a reading holds, each counted each time it is reached (what is shared counts as often as it is met; a slice's spare places count too). A statement '..UptoSaid' is the law's where the arguments, and the package variables that the reading takes, are together of bulk at most 1048576: NARROWER than '..Said'. Prove '..Said' where nothing that the law and all that it calls make is longer than what came in: it says more and counts as full. Else prove '..UptoSaid'. A law counts once. -/
mutual
def uptoBulk {H : Type} : DataW H → Nat
  | .lit (.string bytes) => bytes.length + 1
  | .lit _ => 1
  | .nil => 1
  | .ptr d => uptoBulk d + 1
  | .slice elems spare => uptoBulkAll elems + uptoBulkAll spare + 1
  | .agg parts => uptoBulkAll parts + 1
  | .iface _ d => uptoBulk d + 1
  | .map entries => uptoBulkEntries entries + 1
  | .held _ => 1
def uptoBulkAll {H : Type} : List (DataW H) → Nat
  | [] => 0
  | d :: r => uptoBulk d + uptoBulkAll r
def uptoBulkEntries {H : Type} : List (Lit × DataW H) → Nat
  | [] => 0
  | x :: r => uptoBulkEntry x + uptoBulkEntries r
def uptoBulkEntry {H : Type} : Lit × DataW H → Nat
  | (.string bytes, d) => bytes.length + uptoBulk d + 1
  | (_, d) => uptoBulk d + 1
 end
def uptoSmall : (H : Type) → List (DataW H) → Bool := fun _ ds => decide (uptoBulkAll ds ≤ 1048576)
def OpenSpec.upto (s : _root_.Go.ChangeSpec) : _root_.Go.OpenSpec := { _root_.Go.OpenSpec.ofChange s with cond := some uptoSmall }

/-- 'godownlaw08.ScanFinds', WHERE WHAT IT READS IS OF BULK AT MOST 1048576: true; the input reads as it did. -/
def scanFindsUptoRow : OpenClaim := { program := "ythocaimiofehkaa", sum := "e1a3a7a52cf4a1aa6a2f64b2e8f70307313ee5e1e0957e3d63acd8ee1a3f0259", func := "godown/godownlaw08.ScanFinds", spec := "scanFinds", inPlace := ["internal/bytealg.IndexByteString", "internal/bytealg.IndexByte", "internal/bytealg.Index"], recurses := true, named := ["internal/bytealg.MaxLen"], apart := false, narrowed := true }
def ScanFindsUptoSaid : Prop := scanFindsUptoRow.holds Try.pinned (OpenSpec.upto scanFindsSpec)

/-- 'godownlaw08.ScanAnywhere', WHERE WHAT IT READS IS OF BULK AT MOST 1048576: true; the input reads as it did. -/
def scanAnywhereUptoRow : OpenClaim := { program := "ythocaimiofehkaa", sum := "e1a3a7a52cf4a1aa6a2f64b2e8f70307313ee5e1e0957e3d63acd8ee1a3f0259", func := "godown/godownlaw08.ScanAnywhere", spec := "scanAnywhere", inPlace := ["internal/bytealg.IndexByteString", "internal/bytealg.IndexByte", "internal/bytealg.Index"], recurses := true, named := ["internal/bytealg.MaxLen"], apart := false, narrowed := true }
def ScanAnywhereUptoSaid : Prop := scanAnywhereUptoRow.holds Try.pinned (OpenSpec.upto scanAnywhereSpec)

/-- 'godownlaw08.ScanNone', WHERE WHAT IT READS IS OF BULK AT MOST 1048576: true; the input reads as it did. -/
def scanNoneUptoRow : OpenClaim := { program := "ythocaimiofehkaa", sum := "e1a3a7a52cf4a1aa6a2f64b2e8f70307313ee5e1e0957e3d63acd8ee1a3f0259", func := "godown/godownlaw08.ScanNone", spec := "scanNone", inPlace := ["internal/bytealg.IndexByteString", "internal/bytealg.IndexByte", "internal/bytealg.Index"], recurses := true, named := ["internal/bytealg.MaxLen"], apart := false, narrowed := true }
def ScanNoneUptoSaid : Prop := scanNoneUptoRow.holds Try.pinned (OpenSpec.upto scanNoneSpec)

/-- 'godownlaw08.ScanGrows', WHERE WHAT IT READS IS OF BULK AT MOST 1048576: true; the input reads as it did. -/
def scanGrowsUptoRow : OpenClaim := { program := "ythocaimiofehkaa", sum := "e1a3a7a52cf4a1aa6a2f64b2e8f70307313ee5e1e0957e3d63acd8ee1a3f0259", func := "godown/godownlaw08.ScanGrows", spec := "scanGrows", inPlace := ["internal/bytealg.IndexByteString", "internal/bytealg.IndexByte", "internal/bytealg.Index"], recurses := true, named := ["internal/bytealg.MaxLen"], apart := false, narrowed := true }
def ScanGrowsUptoSaid : Prop := scanGrowsUptoRow.holds Try.pinned (OpenSpec.upto scanGrowsSpec)

/-- 'godownlaw08.ScanTwice', WHERE WHAT IT READS IS OF BULK AT MOST 1048576: true; the input reads as it did. -/
def scanTwiceUptoRow : OpenClaim := { program := "ythocaimiofehkaa", sum := "e1a3a7a52cf4a1aa6a2f64b2e8f70307313ee5e1e0957e3d63acd8ee1a3f0259", func := "godown/godownlaw08.ScanTwice", spec := "scanTwice", inPlace := ["internal/bytealg.IndexByteString", "internal/bytealg.IndexByte", "internal/bytealg.Index"], recurses := true, named := ["internal/bytealg.MaxLen"], apart := false, narrowed := true }
def ScanTwiceUptoSaid : Prop := scanTwiceUptoRow.holds Try.pinned (OpenSpec.upto scanTwiceSpec)

end Rows
end Go.Proofs.Ythocaimiofehkaa
