/-
  No cell of these rows narrows 'for every input' (looked for: loops, veiled, ifaces, maps, wideKeys, modest, calm, conditions, laid).
  DERIVED. THE GIVEN ROWS OF THIS SEAT. 6 by the template 'for every input the law returns true; each argument reads behind the call as it read before'; 0 by the template 'total and deterministic' (their statements: YtmeehagbfcfceaaTotals.lean).
  GIVEN WITH THE SEED: the statements are not yours to turn. If you find one false, say at which input.
  Laid BY PROGRAM, IN A SANDBOX (cutbox-rows.mjs): the forced cells as the released guide's own fill.sh prints them over the translation be10cc10413ec161… (all of the seat's roots in one cut). By AI agents, Wed Nov 11 2026. No macro, syntax, notation, axiom, sorry.
-/
import Derived.Test.YtmeehagbfcfceaaChecked
import GoSem.Claim
import GoSem.ClaimJoined
import GoSem.ClaimMapViews
import Derived.JoinedTies
import Derived.KernelRfl
namespace Go.Proofs.Ytmeehagbfcfceaa
/- THE CELL 'sum', in the pinned program and in every row, IS THE sha256 OF THE DUMP (.gsa) THAT YtmeehagbfcfceaaProg.lean LOADS. Nothing in Lean hashes anything: it is a label: what it is worth is what the hold of that sum in a sandbox is worth. -/
noncomputable def Try.pinned : Pinned := { name := "ytmeehagbfcfceaa", sum := "be10cc10413ec1612f40791d111274d6a05813738e34b6f9ab451d676d1575cc", checked := Try.checked }
namespace Rows
def none {H : Type} : Left H := { results := [], args := [] }

/-- 'quietuslaw3.StripeRuns': WHATEVER THE INPUT: true; the input reads as it did. -/
def stripeRunsSpec : ChangeSpec := { name := "stripeRuns", fn := fun _ => fun
  | [] => { results := [.lit (.bool true)], args := [] }
  | _ => none }
def stripeRunsRow : OpenClaim := { program := "ytmeehagbfcfceaa", sum := "be10cc10413ec1612f40791d111274d6a05813738e34b6f9ab451d676d1575cc", func := "quietus/quietuslaw3.StripeRuns", spec := "stripeRuns", apart := false }
def StripeRunsSaid : Prop := stripeRunsRow.holds Try.pinned (OpenSpec.ofChange stripeRunsSpec)

/-- ITS FALSE NEIGHBOUR: 'it returns false'. Refute it at one input. -/
def stripeRunsWrong : ChangeSpec := { name := "stripeRuns", fn := fun _ => fun
  | [] => { results := [.lit (.bool false)], args := [] }
  | _ => none }
def StripeRunsWrongFalsely : Prop := stripeRunsRow.holds Try.pinned (OpenSpec.ofChange stripeRunsWrong)

/-- 'quietuslaw3.StripePlays': WHATEVER THE INPUT: true; the input reads as it did. -/
def stripePlaysSpec : ChangeSpec := { name := "stripePlays", fn := fun _ => fun
  | [d1, d2, d3] => { results := [.lit (.bool true)], args := [d1, d2, d3] }
  | _ => none }
def stripePlaysRow : OpenClaim := { program := "ytmeehagbfcfceaa", sum := "be10cc10413ec1612f40791d111274d6a05813738e34b6f9ab451d676d1575cc", func := "quietus/quietuslaw3.StripePlays", spec := "stripePlays", apart := false }
def StripePlaysSaid : Prop := stripePlaysRow.holds Try.pinned (OpenSpec.ofChange stripePlaysSpec)

/-- ITS FALSE NEIGHBOUR: 'it returns false'. Refute it at one input. -/
def stripePlaysWrong : ChangeSpec := { name := "stripePlays", fn := fun _ => fun
  | [d1, d2, d3] => { results := [.lit (.bool false)], args := [d1, d2, d3] }
  | _ => none }
def StripePlaysWrongFalsely : Prop := stripePlaysRow.holds Try.pinned (OpenSpec.ofChange stripePlaysWrong)

/-- 'quietuslaw3.StripeOf': WHATEVER THE INPUT: true; the input reads as it did. -/
def stripeOfSpec : ChangeSpec := { name := "stripeOf", fn := fun _ => fun
  | [d1, d2, d3] => { results := [.lit (.bool true)], args := [d1, d2, d3] }
  | _ => none }
def stripeOfRow : OpenClaim := { program := "ytmeehagbfcfceaa", sum := "be10cc10413ec1612f40791d111274d6a05813738e34b6f9ab451d676d1575cc", func := "quietus/quietuslaw3.StripeOf", spec := "stripeOf", apart := false }
def StripeOfSaid : Prop := stripeOfRow.holds Try.pinned (OpenSpec.ofChange stripeOfSpec)

/-- ITS FALSE NEIGHBOUR: 'it returns false'. Refute it at one input. -/
def stripeOfWrong : ChangeSpec := { name := "stripeOf", fn := fun _ => fun
  | [d1, d2, d3] => { results := [.lit (.bool false)], args := [d1, d2, d3] }
  | _ => none }
def StripeOfWrongFalsely : Prop := stripeOfRow.holds Try.pinned (OpenSpec.ofChange stripeOfWrong)

/-- 'quietuslaw3.StripeSpread': WHATEVER THE INPUT: true; the input reads as it did. -/
def stripeSpreadSpec : ChangeSpec := { name := "stripeSpread", fn := fun _ => fun
  | [d1, d2, d3] => { results := [.lit (.bool true)], args := [d1, d2, d3] }
  | _ => none }
def stripeSpreadRow : OpenClaim := { program := "ytmeehagbfcfceaa", sum := "be10cc10413ec1612f40791d111274d6a05813738e34b6f9ab451d676d1575cc", func := "quietus/quietuslaw3.StripeSpread", spec := "stripeSpread", apart := false }
def StripeSpreadSaid : Prop := stripeSpreadRow.holds Try.pinned (OpenSpec.ofChange stripeSpreadSpec)

/-- ITS FALSE NEIGHBOUR: 'it returns false'. Refute it at one input. -/
def stripeSpreadWrong : ChangeSpec := { name := "stripeSpread", fn := fun _ => fun
  | [d1, d2, d3] => { results := [.lit (.bool false)], args := [d1, d2, d3] }
  | _ => none }
def StripeSpreadWrongFalsely : Prop := stripeSpreadRow.holds Try.pinned (OpenSpec.ofChange stripeSpreadWrong)

/-- 'quietuslaw3.StripeOnce': WHATEVER THE INPUT: true; the input reads as it did. -/
def stripeOnceSpec : ChangeSpec := { name := "stripeOnce", fn := fun _ => fun
  | [d1, d2, d3] => { results := [.lit (.bool true)], args := [d1, d2, d3] }
  | _ => none }
def stripeOnceRow : OpenClaim := { program := "ytmeehagbfcfceaa", sum := "be10cc10413ec1612f40791d111274d6a05813738e34b6f9ab451d676d1575cc", func := "quietus/quietuslaw3.StripeOnce", spec := "stripeOnce", apart := false }
def StripeOnceSaid : Prop := stripeOnceRow.holds Try.pinned (OpenSpec.ofChange stripeOnceSpec)

/-- ITS FALSE NEIGHBOUR: 'it returns false'. Refute it at one input. -/
def stripeOnceWrong : ChangeSpec := { name := "stripeOnce", fn := fun _ => fun
  | [d1, d2, d3] => { results := [.lit (.bool false)], args := [d1, d2, d3] }
  | _ => none }
def StripeOnceWrongFalsely : Prop := stripeOnceRow.holds Try.pinned (OpenSpec.ofChange stripeOnceWrong)

/-- 'quietuslaw3.StripeCopies': WHATEVER THE INPUT: true; the input reads as it did. -/
def stripeCopiesSpec : ChangeSpec := { name := "stripeCopies", fn := fun _ => fun
  | [d1, d2, d3, d4, d5] => { results := [.lit (.bool true)], args := [d1, d2, d3, d4, d5] }
  | _ => none }
def stripeCopiesRow : OpenClaim := { program := "ytmeehagbfcfceaa", sum := "be10cc10413ec1612f40791d111274d6a05813738e34b6f9ab451d676d1575cc", func := "quietus/quietuslaw3.StripeCopies", spec := "stripeCopies", apart := false }
def StripeCopiesSaid : Prop := stripeCopiesRow.holds Try.pinned (OpenSpec.ofChange stripeCopiesSpec)

/-- ITS FALSE NEIGHBOUR: 'it returns false'. Refute it at one input. -/
def stripeCopiesWrong : ChangeSpec := { name := "stripeCopies", fn := fun _ => fun
  | [d1, d2, d3, d4, d5] => { results := [.lit (.bool false)], args := [d1, d2, d3, d4, d5] }
  | _ => none }
def StripeCopiesWrongFalsely : Prop := stripeCopiesRow.holds Try.pinned (OpenSpec.ofChange stripeCopiesWrong)

/- THE SECOND FORM. 'bulk': how many values and letters a reading holds, each counted each time it is reached (what is shared counts as often as it is met; a slice's spare places count too). A statement '..UptoSaid' is the law's where the arguments, and the package variables that the reading takes, are together of bulk at most 1048576: NARROWER than '..Said'. Prove '..Said' where nothing that the law and all that it calls make is longer than what came in: it says more and counts as full. Else prove '..UptoSaid'. A law counts once. -/
mutual
def uptoBulk {H : Type} : DataW H → Nat
  | .lit (.string bytes) => bytes.length + 1
  | .lit _ => 1
  | .nil => 1
  | .ptr d => uptoBulk d + 1
  | .slice elems spare => uptoBulkAll elems + uptoBulkAll spare + 1
  | .agg parts => uptoBulkAll parts + 1
  | .iface _ d => uptoBulk d + 1
  | .map entries => uptoBulkEntries entries + 1
  | .held _ => 1
def uptoBulkAll {H : Type} : List (DataW H) → Nat
  | [] => 0
  | d :: r => uptoBulk d + uptoBulkAll r
def uptoBulkEntries {H : Type} : List (Lit × DataW H) → Nat
  | [] => 0
  | x :: r => uptoBulkEntry x + uptoBulkEntries r
def uptoBulkEntry {H : Type} : Lit × DataW H → Nat
  | (.string bytes, d) => bytes.length + uptoBulk d + 1
  | (_, d) => uptoBulk d + 1
 end
def uptoSmall : (H : Type) → List (DataW H) → Bool := fun _ ds => decide (uptoBulkAll ds ≤ 1048576)
def OpenSpec.upto (s : _root_.Go.ChangeSpec) : _root_.Go.OpenSpec := { _root_.Go.OpenSpec.ofChange s with cond := some uptoSmall }

/-- 'quietuslaw3.StripeRuns', WHERE WHAT IT READS IS OF BULK AT MOST 1048576: true; the input reads as it did. -/
def stripeRunsUptoRow : OpenClaim := { program := "ytmeehagbfcfceaa", sum := "be10cc10413ec1612f40791d111274d6a05813738e34b6f9ab451d676d1575cc", func := "quietus/quietuslaw3.StripeRuns", spec := "stripeRuns", apart := false, narrowed := true }
def StripeRunsUptoSaid : Prop := stripeRunsUptoRow.holds Try.pinned (OpenSpec.upto stripeRunsSpec)

/-- 'quietuslaw3.StripePlays', WHERE WHAT IT READS IS OF BULK AT MOST 1048576: true; the input reads as it did. -/
def stripePlaysUptoRow : OpenClaim := { program := "ytmeehagbfcfceaa", sum := "be10cc10413ec1612f40791d111274d6a05813738e34b6f9ab451d676d1575cc", func := "quietus/quietuslaw3.StripePlays", spec := "stripePlays", apart := false, narrowed := true }
def StripePlaysUptoSaid : Prop := stripePlaysUptoRow.holds Try.pinned (OpenSpec.upto stripePlaysSpec)

/-- 'quietuslaw3.StripeOf', WHERE WHAT IT READS IS OF BULK AT MOST 1048576: true; the input reads as it did. -/
def stripeOfUptoRow : OpenClaim := { program := "ytmeehagbfcfceaa", sum := "be10cc10413ec1612f40791d111274d6a05813738e34b6f9ab451d676d1575cc", func := "quietus/quietuslaw3.StripeOf", spec := "stripeOf", apart := false, narrowed := true }
def StripeOfUptoSaid : Prop := stripeOfUptoRow.holds Try.pinned (OpenSpec.upto stripeOfSpec)

/-- 'quietuslaw3.StripeSpread', WHERE WHAT IT READS IS OF BULK AT MOST 1048576: true; the input reads as it did. -/
def stripeSpreadUptoRow : OpenClaim := { program := "ytmeehagbfcfceaa", sum := "be10cc10413ec1612f40791d111274d6a05813738e34b6f9ab451d676d1575cc", func := "quietus/quietuslaw3.StripeSpread", spec := "stripeSpread", apart := false, narrowed := true }
def StripeSpreadUptoSaid : Prop := stripeSpreadUptoRow.holds Try.pinned (OpenSpec.upto stripeSpreadSpec)

/-- 'quietuslaw3.StripeOnce', WHERE WHAT IT READS IS OF BULK AT MOST 1048576: true; the input reads as it did. -/
def stripeOnceUptoRow : OpenClaim := { program := "ytmeehagbfcfceaa", sum := "be10cc10413ec1612f40791d111274d6a05813738e34b6f9ab451d676d1575cc", func := "quietus/quietuslaw3.StripeOnce", spec := "stripeOnce", apart := false, narrowed := true }
def StripeOnceUptoSaid : Prop := stripeOnceUptoRow.holds Try.pinned (OpenSpec.upto stripeOnceSpec)

/-- 'quietuslaw3.StripeCopies', WHERE WHAT IT READS IS OF BULK AT MOST 1048576: true; the input reads as it did. -/
def stripeCopiesUptoRow : OpenClaim := { program := "ytmeehagbfcfceaa", sum := "be10cc10413ec1612f40791d111274d6a05813738e34b6f9ab451d676d1575cc", func := "quietus/quietuslaw3.StripeCopies", spec := "stripeCopies", apart := false, narrowed := true }
def StripeCopiesUptoSaid : Prop := stripeCopiesUptoRow.holds Try.pinned (OpenSpec.upto stripeCopiesSpec)

end Rows
end Go.Proofs.Ytmeehagbfcfceaa
