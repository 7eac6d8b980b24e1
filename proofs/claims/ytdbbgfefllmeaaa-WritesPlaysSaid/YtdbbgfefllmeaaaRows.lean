/-
  No cell of these rows narrows 'for every input' (looked for: loops, veiled, ifaces, maps, wideKeys, modest, calm, conditions, laid).
  DERIVED. THE GIVEN ROWS OF THIS SEAT. 5 by the template 'for every input the law returns true; each argument reads behind the call as it read before'; 0 by the template 'total and deterministic' (their statements: YtdbbgfefllmeaaaTotals.lean).
  GIVEN WITH THE SEED: the statements are not yours to turn. If you find one false, say at which input.
  Laid BY PROGRAM, IN A SANDBOX (cutbox-rows.mjs): the forced cells as the released guide's own fill.sh prints them over the translation b58b2317b8fec8ba… (all of the seat's roots in one cut). By AI agents, Wed Nov 11 2026. No macro, syntax, notation, axiom, sorry.
-/
import Derived.Test.YtdbbgfefllmeaaaChecked
import GoSem.Claim
import GoSem.ClaimJoined
import GoSem.ClaimMapViews
import Derived.JoinedTies
import Derived.KernelRfl
namespace Go.Proofs.Ytdbbgfefllmeaaa
/- THE CELL 'sum', in the pinned program and in every row, IS THE sha256 OF THE DUMP (.gsa) THAT YtdbbgfefllmeaaaProg.lean LOADS. Nothing in Lean hashes anything: it is a label: what it is worth is what the hold of that sum in a sandbox is worth. -/
noncomputable def Try.pinned : Pinned := { name := "ytdbbgfefllmeaaa", sum := "b58b2317b8fec8ba5bc9438235361f1723e7d3670c4fad1f51e702751a1e9876", checked := Try.checked }
namespace Rows
def none {H : Type} : Left H := { results := [], args := [] }

/-- 'quietuslaw8.WritesRuns': WHATEVER THE INPUT: true; the input reads as it did. -/
def writesRunsSpec : ChangeSpec := { name := "writesRuns", fn := fun _ => fun
  | [] => { results := [.lit (.bool true)], args := [] }
  | _ => none }
def writesRunsRow : OpenClaim := { program := "ytdbbgfefllmeaaa", sum := "b58b2317b8fec8ba5bc9438235361f1723e7d3670c4fad1f51e702751a1e9876", func := "quietus/quietuslaw8.WritesRuns", spec := "writesRuns", apart := false }
def WritesRunsSaid : Prop := writesRunsRow.holds Try.pinned (OpenSpec.ofChange writesRunsSpec)

/-- ITS FALSE NEIGHBOUR: 'it returns false'. Refute it at one input. -/
def writesRunsWrong : ChangeSpec := { name := "writesRuns", fn := fun _ => fun
  | [] => { results := [.lit (.bool false)], args := [] }
  | _ => none }
def WritesRunsWrongFalsely : Prop := writesRunsRow.holds Try.pinned (OpenSpec.ofChange writesRunsWrong)

/-- 'quietuslaw8.WritesPlays': WHATEVER THE INPUT: true; the input reads as it did. -/
def writesPlaysSpec : ChangeSpec := { name := "writesPlays", fn := fun _ => fun
  | [d1, d2] => { results := [.lit (.bool true)], args := [d1, d2] }
  | _ => none }
def writesPlaysRow : OpenClaim := { program := "ytdbbgfefllmeaaa", sum := "b58b2317b8fec8ba5bc9438235361f1723e7d3670c4fad1f51e702751a1e9876", func := "quietus/quietuslaw8.WritesPlays", spec := "writesPlays", apart := false }
def WritesPlaysSaid : Prop := writesPlaysRow.holds Try.pinned (OpenSpec.ofChange writesPlaysSpec)

/-- ITS FALSE NEIGHBOUR: 'it returns false'. Refute it at one input. -/
def writesPlaysWrong : ChangeSpec := { name := "writesPlays", fn := fun _ => fun
  | [d1, d2] => { results := [.lit (.bool false)], args := [d1, d2] }
  | _ => none }
def WritesPlaysWrongFalsely : Prop := writesPlaysRow.holds Try.pinned (OpenSpec.ofChange writesPlaysWrong)

/-- 'quietuslaw8.WritesStripes': WHATEVER THE INPUT: true; the input reads as it did. -/
def writesStripesSpec : ChangeSpec := { name := "writesStripes", fn := fun _ => fun
  | [d1, d2, d3, d4] => { results := [.lit (.bool true)], args := [d1, d2, d3, d4] }
  | _ => none }
def writesStripesRow : OpenClaim := { program := "ytdbbgfefllmeaaa", sum := "b58b2317b8fec8ba5bc9438235361f1723e7d3670c4fad1f51e702751a1e9876", func := "quietus/quietuslaw8.WritesStripes", spec := "writesStripes", apart := false }
def WritesStripesSaid : Prop := writesStripesRow.holds Try.pinned (OpenSpec.ofChange writesStripesSpec)

/-- ITS FALSE NEIGHBOUR: 'it returns false'. Refute it at one input. -/
def writesStripesWrong : ChangeSpec := { name := "writesStripes", fn := fun _ => fun
  | [d1, d2, d3, d4] => { results := [.lit (.bool false)], args := [d1, d2, d3, d4] }
  | _ => none }
def WritesStripesWrongFalsely : Prop := writesStripesRow.holds Try.pinned (OpenSpec.ofChange writesStripesWrong)

/-- 'quietuslaw8.WritesWhole': WHATEVER THE INPUT: true; the input reads as it did. -/
def writesWholeSpec : ChangeSpec := { name := "writesWhole", fn := fun _ => fun
  | [d1, d2, d3] => { results := [.lit (.bool true)], args := [d1, d2, d3] }
  | _ => none }
def writesWholeRow : OpenClaim := { program := "ytdbbgfefllmeaaa", sum := "b58b2317b8fec8ba5bc9438235361f1723e7d3670c4fad1f51e702751a1e9876", func := "quietus/quietuslaw8.WritesWhole", spec := "writesWhole", apart := false }
def WritesWholeSaid : Prop := writesWholeRow.holds Try.pinned (OpenSpec.ofChange writesWholeSpec)

/-- ITS FALSE NEIGHBOUR: 'it returns false'. Refute it at one input. -/
def writesWholeWrong : ChangeSpec := { name := "writesWhole", fn := fun _ => fun
  | [d1, d2, d3] => { results := [.lit (.bool false)], args := [d1, d2, d3] }
  | _ => none }
def WritesWholeWrongFalsely : Prop := writesWholeRow.holds Try.pinned (OpenSpec.ofChange writesWholeWrong)

/-- 'quietuslaw8.WritesLast': WHATEVER THE INPUT: true; the input reads as it did. -/
def writesLastSpec : ChangeSpec := { name := "writesLast", fn := fun _ => fun
  | [d1, d2] => { results := [.lit (.bool true)], args := [d1, d2] }
  | _ => none }
def writesLastRow : OpenClaim := { program := "ytdbbgfefllmeaaa", sum := "b58b2317b8fec8ba5bc9438235361f1723e7d3670c4fad1f51e702751a1e9876", func := "quietus/quietuslaw8.WritesLast", spec := "writesLast", apart := false }
def WritesLastSaid : Prop := writesLastRow.holds Try.pinned (OpenSpec.ofChange writesLastSpec)

/-- ITS FALSE NEIGHBOUR: 'it returns false'. Refute it at one input. -/
def writesLastWrong : ChangeSpec := { name := "writesLast", fn := fun _ => fun
  | [d1, d2] => { results := [.lit (.bool false)], args := [d1, d2] }
  | _ => none }
def WritesLastWrongFalsely : Prop := writesLastRow.holds Try.pinned (OpenSpec.ofChange writesLastWrong)

/- THE SECOND FORM. 'bulk': how many values and letters a reading holds, each counted each time it is reached (what is shared counts as often as it is met; a slice's spare places count too). A statement '..UptoSaid' is the law's where the arguments, and the package variables that the reading takes, are together of bulk at most 1048576: NARROWER than '..Said'. Prove '..Said' where nothing that the law and all that it calls make is longer than what came in: it says more and counts as full. Else prove '..UptoSaid'. A law counts once. -/
mutual
def uptoBulk {H : Type} : DataW H → Nat
  | .lit (.string bytes) => bytes.length + 1
  | .lit _ => 1
  | .nil => 1
  | .ptr d => uptoBulk d + 1
  | .slice elems spare => uptoBulkAll elems + uptoBulkAll spare + 1
  | .agg parts => uptoBulkAll parts + 1
  | .iface _ d => uptoBulk d + 1
  | .map entries => uptoBulkEntries entries + 1
  | .held _ => 1
def uptoBulkAll {H : Type} : List (DataW H) → Nat
  | [] => 0
  | d :: r => uptoBulk d + uptoBulkAll r
def uptoBulkEntries {H : Type} : List (Lit × DataW H) → Nat
  | [] => 0
  | x :: r => uptoBulkEntry x + uptoBulkEntries r
def uptoBulkEntry {H : Type} : Lit × DataW H → Nat
  | (.string bytes, d) => bytes.length + uptoBulk d + 1
  | (_, d) => uptoBulk d + 1
 end
def uptoSmall : (H : Type) → List (DataW H) → Bool := fun _ ds => decide (uptoBulkAll ds ≤ 1048576)
def OpenSpec.upto (s : _root_.Go.ChangeSpec) : _root_.Go.OpenSpec := { _root_.Go.OpenSpec.ofChange s with cond := some uptoSmall }

/-- 'quietuslaw8.WritesRuns', WHERE WHAT IT READS IS OF BULK AT MOST 1048576: true; the input reads as it did. -/
def writesRunsUptoRow : OpenClaim := { program := "ytdbbgfefllmeaaa", sum := "b58b2317b8fec8ba5bc9438235361f1723e7d3670c4fad1f51e702751a1e9876", func := "quietus/quietuslaw8.WritesRuns", spec := "writesRuns", apart := false, narrowed := true }
def WritesRunsUptoSaid : Prop := writesRunsUptoRow.holds Try.pinned (OpenSpec.upto writesRunsSpec)

/-- 'quietuslaw8.WritesPlays', WHERE WHAT IT READS IS OF BULK AT MOST 1048576: true; the input reads as it did. -/
def writesPlaysUptoRow : OpenClaim := { program := "ytdbbgfefllmeaaa", sum := "b58b2317b8fec8ba5bc9438235361f1723e7d3670c4fad1f51e702751a1e9876", func := "quietus/quietuslaw8.WritesPlays", spec := "writesPlays", apart := false, narrowed := true }
def WritesPlaysUptoSaid : Prop := writesPlaysUptoRow.holds Try.pinned (OpenSpec.upto writesPlaysSpec)

/-- 'quietuslaw8.WritesStripes', WHERE WHAT IT READS IS OF BULK AT MOST 1048576: true; the input reads as it did. -/
def writesStripesUptoRow : OpenClaim := { program := "ytdbbgfefllmeaaa", sum := "b58b2317b8fec8ba5bc9438235361f1723e7d3670c4fad1f51e702751a1e9876", func := "quietus/quietuslaw8.WritesStripes", spec := "writesStripes", apart := false, narrowed := true }
def WritesStripesUptoSaid : Prop := writesStripesUptoRow.holds Try.pinned (OpenSpec.upto writesStripesSpec)

/-- 'quietuslaw8.WritesWhole', WHERE WHAT IT READS IS OF BULK AT MOST 1048576: true; the input reads as it did. -/
def writesWholeUptoRow : OpenClaim := { program := "ytdbbgfefllmeaaa", sum := "b58b2317b8fec8ba5bc9438235361f1723e7d3670c4fad1f51e702751a1e9876", func := "quietus/quietuslaw8.WritesWhole", spec := "writesWhole", apart := false, narrowed := true }
def WritesWholeUptoSaid : Prop := writesWholeUptoRow.holds Try.pinned (OpenSpec.upto writesWholeSpec)

/-- 'quietuslaw8.WritesLast', WHERE WHAT IT READS IS OF BULK AT MOST 1048576: true; the input reads as it did. -/
def writesLastUptoRow : OpenClaim := { program := "ytdbbgfefllmeaaa", sum := "b58b2317b8fec8ba5bc9438235361f1723e7d3670c4fad1f51e702751a1e9876", func := "quietus/quietuslaw8.WritesLast", spec := "writesLast", apart := false, narrowed := true }
def WritesLastUptoSaid : Prop := writesLastUptoRow.holds Try.pinned (OpenSpec.upto writesLastSpec)

end Rows
end Go.Proofs.Ytdbbgfefllmeaaa
