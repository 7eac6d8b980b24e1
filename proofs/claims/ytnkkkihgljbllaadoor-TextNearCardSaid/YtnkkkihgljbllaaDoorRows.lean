/-
  NARROWER THAN 'FOR EVERY INPUT', by the rows' own cells (each row's printed sentence says how): TextTells: laid · TextNear: laid · TextBack: laid · TextLoose: laid · TextPlaces: laid.
  DERIVED. THE GIVEN ROWS OF THIS SEAT. 5 by the template 'for every input the law returns true; each argument reads behind the call as it read before'; 0 by the template 'total and deterministic' (their statements: YtnkkkihgljbllaaDoorTotals.lean).
  GIVEN WITH THE SEED: the statements are not yours to turn. If you find one false, say at which input.
  Laid BY PROGRAM, IN A SANDBOX (cutbox-rows.mjs): the forced cells as the released guide's own fill.sh prints them over the translation 7ce62d4d6bfbce08… (all of the seat's roots in one cut). By AI agents, Wed Nov 11 2026. No macro, syntax, notation, axiom, sorry.
-/
import Derived.Test.YtnkkkihgljbllaaDoorChecked
import GoSem.Claim
import GoSem.ClaimJoined
import GoSem.ClaimMapViews
import Derived.JoinedTies
import Derived.KernelRfl
namespace Go.Proofs.YtnkkkihgljbllaaDoor
/- THE CELL 'sum', in the pinned program and in every row, IS THE sha256 OF THE DUMP (.gsa) THAT YtnkkkihgljbllaaDoorProg.lean LOADS. Nothing in Lean hashes anything: it is a label: what it is worth is what the hold of that sum in a sandbox is worth. -/
noncomputable def Tryd.pinned : Pinned := { name := "ytnkkkihgljbllaadoor", sum := "7ce62d4d6bfbce0842d4d36657787842f86ac0fe84df286c700e9a6774da6482", checked := Tryd.checked }
namespace Rows
def none {H : Type} : Left H := { results := [], args := [] }

/- WHAT THE LISTED PACKAGE-LEVEL VARIABLES READ AS WHEN THE CALL BEGINS. Each datum BY PROGRAM (the guide's laid-datum.mjs) off the statement by which the dump's own 'gosem.cut.vars' lays the variable. In a bare row this is a premise. The card (YtnkkkihgljbllaaDoorCards.lean) ties it to the program's text. -/
def laid_math_bits_deBruijn32tab {H : Type} : DataW H := .agg [.lit (.int .u8 0), .lit (.int .u8 1), .lit (.int .u8 28), .lit (.int .u8 2), .lit (.int .u8 29), .lit (.int .u8 14), .lit (.int .u8 24), .lit (.int .u8 3), .lit (.int .u8 30), .lit (.int .u8 22), .lit (.int .u8 20), .lit (.int .u8 15), .lit (.int .u8 25), .lit (.int .u8 17), .lit (.int .u8 4), .lit (.int .u8 8), .lit (.int .u8 31), .lit (.int .u8 27), .lit (.int .u8 13), .lit (.int .u8 23), .lit (.int .u8 21), .lit (.int .u8 19), .lit (.int .u8 16), .lit (.int .u8 7), .lit (.int .u8 26), .lit (.int .u8 12), .lit (.int .u8 18), .lit (.int .u8 6), .lit (.int .u8 11), .lit (.int .u8 5), .lit (.int .u8 10), .lit (.int .u8 9)]
def laid_math_bits_deBruijn64tab {H : Type} : DataW H := .agg [.lit (.int .u8 0), .lit (.int .u8 1), .lit (.int .u8 56), .lit (.int .u8 2), .lit (.int .u8 57), .lit (.int .u8 49), .lit (.int .u8 28), .lit (.int .u8 3), .lit (.int .u8 61), .lit (.int .u8 58), .lit (.int .u8 42), .lit (.int .u8 50), .lit (.int .u8 38), .lit (.int .u8 29), .lit (.int .u8 17), .lit (.int .u8 4), .lit (.int .u8 62), .lit (.int .u8 47), .lit (.int .u8 59), .lit (.int .u8 36), .lit (.int .u8 45), .lit (.int .u8 43), .lit (.int .u8 51), .lit (.int .u8 22), .lit (.int .u8 53), .lit (.int .u8 39), .lit (.int .u8 33), .lit (.int .u8 30), .lit (.int .u8 24), .lit (.int .u8 18), .lit (.int .u8 12), .lit (.int .u8 5), .lit (.int .u8 63), .lit (.int .u8 55), .lit (.int .u8 48), .lit (.int .u8 27), .lit (.int .u8 60), .lit (.int .u8 41), .lit (.int .u8 37), .lit (.int .u8 16), .lit (.int .u8 46), .lit (.int .u8 35), .lit (.int .u8 44), .lit (.int .u8 21), .lit (.int .u8 52), .lit (.int .u8 32), .lit (.int .u8 23), .lit (.int .u8 11), .lit (.int .u8 54), .lit (.int .u8 26), .lit (.int .u8 40), .lit (.int .u8 15), .lit (.int .u8 34), .lit (.int .u8 20), .lit (.int .u8 31), .lit (.int .u8 10), .lit (.int .u8 25), .lit (.int .u8 14), .lit (.int .u8 19), .lit (.int .u8 9), .lit (.int .u8 13), .lit (.int .u8 8), .lit (.int .u8 7), .lit (.int .u8 6)]
def laid_internal_strconv_uint64pow10 {H : Type} : DataW H := .agg [.lit (.int .u64 1), .lit (.int .u64 10), .lit (.int .u64 100), .lit (.int .u64 1000), .lit (.int .u64 10000), .lit (.int .u64 100000), .lit (.int .u64 1000000), .lit (.int .u64 10000000), .lit (.int .u64 100000000), .lit (.int .u64 1000000000), .lit (.int .u64 10000000000), .lit (.int .u64 100000000000), .lit (.int .u64 1000000000000), .lit (.int .u64 10000000000000), .lit (.int .u64 100000000000000), .lit (.int .u64 1000000000000000), .lit (.int .u64 10000000000000000), .lit (.int .u64 100000000000000000), .lit (.int .u64 1000000000000000000), .lit (.int .u64 10000000000000000000)]
def laid_quietus_code_forms {H : Type} : DataW H := .agg [.agg [.lit (.string []), .agg [.lit (.int .i64 0), .lit (.int .i64 0), .lit (.int .i64 0), .lit (.int .i64 0)]], .agg [.lit (.string [115, 101, 116]), .agg [.lit (.int .i64 1), .lit (.int .i64 0), .lit (.int .i64 0), .lit (.int .i64 7)]], .agg [.lit (.string [109, 111, 118, 101]), .agg [.lit (.int .i64 1), .lit (.int .i64 1), .lit (.int .i64 0), .lit (.int .i64 0)]], .agg [.lit (.string [97, 100, 100]), .agg [.lit (.int .i64 1), .lit (.int .i64 1), .lit (.int .i64 1), .lit (.int .i64 0)]], .agg [.lit (.string [115, 117, 98]), .agg [.lit (.int .i64 1), .lit (.int .i64 1), .lit (.int .i64 1), .lit (.int .i64 0)]], .agg [.lit (.string [109, 117, 108]), .agg [.lit (.int .i64 1), .lit (.int .i64 1), .lit (.int .i64 1), .lit (.int .i64 0)]], .agg [.lit (.string [108, 101, 115, 115]), .agg [.lit (.int .i64 1), .lit (.int .i64 1), .lit (.int .i64 1), .lit (.int .i64 0)]], .agg [.lit (.string [101, 113, 117, 97, 108]), .agg [.lit (.int .i64 1), .lit (.int .i64 1), .lit (.int .i64 1), .lit (.int .i64 0)]], .agg [.lit (.string [108, 111, 97, 100]), .agg [.lit (.int .i64 1), .lit (.int .i64 1), .lit (.int .i64 3), .lit (.int .i64 0)]], .agg [.lit (.string [115, 116, 111, 114, 101]), .agg [.lit (.int .i64 1), .lit (.int .i64 1), .lit (.int .i64 3), .lit (.int .i64 0)]], .agg [.lit (.string [97, 108, 108, 111, 99]), .agg [.lit (.int .i64 1), .lit (.int .i64 1), .lit (.int .i64 0), .lit (.int .i64 0)]], .agg [.lit (.string [102, 114, 101, 101]), .agg [.lit (.int .i64 1), .lit (.int .i64 0), .lit (.int .i64 0), .lit (.int .i64 0)]], .agg [.lit (.string [106, 117, 109, 112]), .agg [.lit (.int .i64 0), .lit (.int .i64 0), .lit (.int .i64 4), .lit (.int .i64 0)]], .agg [.lit (.string [122, 101, 114, 111]), .agg [.lit (.int .i64 1), .lit (.int .i64 0), .lit (.int .i64 4), .lit (.int .i64 0)]], .agg [.lit (.string [111, 112, 101, 110]), .agg [.lit (.int .i64 0), .lit (.int .i64 0), .lit (.int .i64 0), .lit (.int .i64 0)]], .agg [.lit (.string [99, 108, 111, 115, 101]), .agg [.lit (.int .i64 0), .lit (.int .i64 0), .lit (.int .i64 0), .lit (.int .i64 0)]], .agg [.lit (.string [117, 110, 100, 111]), .agg [.lit (.int .i64 0), .lit (.int .i64 0), .lit (.int .i64 0), .lit (.int .i64 0)]], .agg [.lit (.string [101, 105, 116, 104, 101, 114]), .agg [.lit (.int .i64 0), .lit (.int .i64 0), .lit (.int .i64 0), .lit (.int .i64 0)]], .agg [.lit (.string [111, 114]), .agg [.lit (.int .i64 0), .lit (.int .i64 0), .lit (.int .i64 0), .lit (.int .i64 0)]], .agg [.lit (.string [100, 111, 110, 101]), .agg [.lit (.int .i64 0), .lit (.int .i64 0), .lit (.int .i64 0), .lit (.int .i64 0)]], .agg [.lit (.string [114, 101, 116, 114, 121]), .agg [.lit (.int .i64 0), .lit (.int .i64 0), .lit (.int .i64 0), .lit (.int .i64 0)]], .agg [.lit (.string [101, 109, 105, 116]), .agg [.lit (.int .i64 1), .lit (.int .i64 0), .lit (.int .i64 0), .lit (.int .i64 0)]], .agg [.lit (.string [102, 97, 105, 108]), .agg [.lit (.int .i64 0), .lit (.int .i64 0), .lit (.int .i64 0), .lit (.int .i64 0)]], .agg [.lit (.string [99, 97, 108, 108]), .agg [.lit (.int .i64 6), .lit (.int .i64 5), .lit (.int .i64 2), .lit (.int .i64 0)]]]
def laid_quietus_code_calls {H : Type} : DataW H := .agg [.lit (.string [108, 105, 115, 116, 46, 97, 100, 100]), .lit (.string [108, 105, 115, 116, 46, 99, 117, 116]), .lit (.string [108, 105, 115, 116, 46, 104, 97, 115]), .lit (.string [116, 97, 98, 108, 101, 46, 112, 117, 116]), .lit (.string [116, 97, 98, 108, 101, 46, 103, 101, 116]), .lit (.string [116, 97, 98, 108, 101, 46, 100, 101, 108]), .lit (.string [113, 117, 101, 117, 101, 46, 112, 117, 115, 104]), .lit (.string [113, 117, 101, 117, 101, 46, 116, 97, 107, 101]), .lit (.string [116, 114, 101, 101, 46, 115, 101, 116]), .lit (.string [116, 114, 101, 101, 46, 102, 105, 110, 100]), .lit (.string [116, 114, 101, 101, 46, 101, 114, 97, 115, 101]), .lit (.string [116, 114, 101, 101, 46, 99, 111, 117, 110, 116])]
def laid_quietus_quietusref13_names {H : Type} : DataW H := .agg [.lit (.string [108, 105, 115, 116, 46, 97, 100, 100]), .lit (.string [108, 105, 115, 116, 46, 99, 117, 116]), .lit (.string [108, 105, 115, 116, 46, 104, 97, 115]), .lit (.string [116, 97, 98, 108, 101, 46, 112, 117, 116]), .lit (.string [116, 97, 98, 108, 101, 46, 103, 101, 116]), .lit (.string [116, 97, 98, 108, 101, 46, 100, 101, 108]), .lit (.string [113, 117, 101, 117, 101, 46, 112, 117, 115, 104]), .lit (.string [113, 117, 101, 117, 101, 46, 116, 97, 107, 101]), .lit (.string [116, 114, 101, 101, 46, 115, 101, 116]), .lit (.string [116, 114, 101, 101, 46, 102, 105, 110, 100]), .lit (.string [116, 114, 101, 101, 46, 101, 114, 97, 115, 101]), .lit (.string [116, 114, 101, 101, 46, 99, 111, 117, 110, 116])]

/-- 'quietuslaw16.TextTells': WHATEVER THE INPUT: true; the input reads as it did. -/
def textTellsSpec : ChangeSpec := { name := "textTells", fn := fun _ => fun
  | [d1, d2, d3] => { results := [.lit (.bool true)], args := [d1, d2, d3] }
  | _ => none }
def textTellsRow : OpenClaim := { program := "ytnkkkihgljbllaadoor", sum := "7ce62d4d6bfbce0842d4d36657787842f86ac0fe84df286c700e9a6774da6482", func := "quietus/quietuslaw16.TextTells", spec := "textTells", inPlace := ["internal/abi.NoEscape"], named := ["quietus/code.forms", "quietus/code.calls", "internal/strconv.uint64pow10", "math/bits.deBruijn32tab", "math/bits.deBruijn64tab", "quietus/quietusref13.names"], apart := false, laid := [("math/bits.deBruijn32tab", laid_math_bits_deBruijn32tab), ("math/bits.deBruijn64tab", laid_math_bits_deBruijn64tab), ("internal/strconv.uint64pow10", laid_internal_strconv_uint64pow10), ("quietus/code.forms", laid_quietus_code_forms), ("quietus/code.calls", laid_quietus_code_calls), ("quietus/quietusref13.names", laid_quietus_quietusref13_names)] }
def TextTellsSaid : Prop := textTellsRow.holds Tryd.pinned (OpenSpec.ofChange textTellsSpec)

/-- ITS FALSE NEIGHBOUR: 'it returns false'. Refute it at one input. -/
def textTellsWrong : ChangeSpec := { name := "textTells", fn := fun _ => fun
  | [d1, d2, d3] => { results := [.lit (.bool false)], args := [d1, d2, d3] }
  | _ => none }
def TextTellsWrongFalsely : Prop := textTellsRow.holds Tryd.pinned (OpenSpec.ofChange textTellsWrong)

/-- 'quietuslaw16.TextNear': WHATEVER THE INPUT: true; the input reads as it did. -/
def textNearSpec : ChangeSpec := { name := "textNear", fn := fun _ => fun
  | [d1, d2, d3, d4] => { results := [.lit (.bool true)], args := [d1, d2, d3, d4] }
  | _ => none }
def textNearRow : OpenClaim := { program := "ytnkkkihgljbllaadoor", sum := "7ce62d4d6bfbce0842d4d36657787842f86ac0fe84df286c700e9a6774da6482", func := "quietus/quietuslaw16.TextNear", spec := "textNear", inPlace := ["internal/abi.NoEscape"], named := ["quietus/code.forms", "quietus/code.calls", "internal/strconv.uint64pow10", "math/bits.deBruijn32tab", "math/bits.deBruijn64tab", "quietus/quietusref13.names"], apart := false, laid := [("math/bits.deBruijn32tab", laid_math_bits_deBruijn32tab), ("math/bits.deBruijn64tab", laid_math_bits_deBruijn64tab), ("internal/strconv.uint64pow10", laid_internal_strconv_uint64pow10), ("quietus/code.forms", laid_quietus_code_forms), ("quietus/code.calls", laid_quietus_code_calls), ("quietus/quietusref13.names", laid_quietus_quietusref13_names)] }
def TextNearSaid : Prop := textNearRow.holds Tryd.pinned (OpenSpec.ofChange textNearSpec)

/-- ITS FALSE NEIGHBOUR: 'it returns false'. Refute it at one input. -/
def textNearWrong : ChangeSpec := { name := "textNear", fn := fun _ => fun
  | [d1, d2, d3, d4] => { results := [.lit (.bool false)], args := [d1, d2, d3, d4] }
  | _ => none }
def TextNearWrongFalsely : Prop := textNearRow.holds Tryd.pinned (OpenSpec.ofChange textNearWrong)

/-- 'quietuslaw16.TextBack': WHATEVER THE INPUT: true; the input reads as it did. -/
def textBackSpec : ChangeSpec := { name := "textBack", fn := fun _ => fun
  | [d1, d2] => { results := [.lit (.bool true)], args := [d1, d2] }
  | _ => none }
def textBackRow : OpenClaim := { program := "ytnkkkihgljbllaadoor", sum := "7ce62d4d6bfbce0842d4d36657787842f86ac0fe84df286c700e9a6774da6482", func := "quietus/quietuslaw16.TextBack", spec := "textBack", inPlace := ["internal/abi.NoEscape"], named := ["quietus/code.forms", "quietus/code.calls", "internal/strconv.uint64pow10", "math/bits.deBruijn32tab", "math/bits.deBruijn64tab"], apart := false, laid := [("math/bits.deBruijn32tab", laid_math_bits_deBruijn32tab), ("math/bits.deBruijn64tab", laid_math_bits_deBruijn64tab), ("internal/strconv.uint64pow10", laid_internal_strconv_uint64pow10), ("quietus/code.forms", laid_quietus_code_forms), ("quietus/code.calls", laid_quietus_code_calls)] }
def TextBackSaid : Prop := textBackRow.holds Tryd.pinned (OpenSpec.ofChange textBackSpec)

/-- ITS FALSE NEIGHBOUR: 'it returns false'. Refute it at one input. -/
def textBackWrong : ChangeSpec := { name := "textBack", fn := fun _ => fun
  | [d1, d2] => { results := [.lit (.bool false)], args := [d1, d2] }
  | _ => none }
def TextBackWrongFalsely : Prop := textBackRow.holds Tryd.pinned (OpenSpec.ofChange textBackWrong)

/-- 'quietuslaw16.TextLoose': WHATEVER THE INPUT: true; the input reads as it did. -/
def textLooseSpec : ChangeSpec := { name := "textLoose", fn := fun _ => fun
  | [d1, d2] => { results := [.lit (.bool true)], args := [d1, d2] }
  | _ => none }
def textLooseRow : OpenClaim := { program := "ytnkkkihgljbllaadoor", sum := "7ce62d4d6bfbce0842d4d36657787842f86ac0fe84df286c700e9a6774da6482", func := "quietus/quietuslaw16.TextLoose", spec := "textLoose", inPlace := ["internal/abi.NoEscape"], named := ["quietus/code.forms", "quietus/code.calls", "internal/strconv.uint64pow10", "math/bits.deBruijn32tab", "math/bits.deBruijn64tab"], apart := false, laid := [("math/bits.deBruijn32tab", laid_math_bits_deBruijn32tab), ("math/bits.deBruijn64tab", laid_math_bits_deBruijn64tab), ("internal/strconv.uint64pow10", laid_internal_strconv_uint64pow10), ("quietus/code.forms", laid_quietus_code_forms), ("quietus/code.calls", laid_quietus_code_calls)] }
def TextLooseSaid : Prop := textLooseRow.holds Tryd.pinned (OpenSpec.ofChange textLooseSpec)

/-- ITS FALSE NEIGHBOUR: 'it returns false'. Refute it at one input. -/
def textLooseWrong : ChangeSpec := { name := "textLoose", fn := fun _ => fun
  | [d1, d2] => { results := [.lit (.bool false)], args := [d1, d2] }
  | _ => none }
def TextLooseWrongFalsely : Prop := textLooseRow.holds Tryd.pinned (OpenSpec.ofChange textLooseWrong)

/-- 'quietuslaw16.TextPlaces': WHATEVER THE INPUT: true; the input reads as it did. -/
def textPlacesSpec : ChangeSpec := { name := "textPlaces", fn := fun _ => fun
  | [d1, d2, d3, d4] => { results := [.lit (.bool true)], args := [d1, d2, d3, d4] }
  | _ => none }
def textPlacesRow : OpenClaim := { program := "ytnkkkihgljbllaadoor", sum := "7ce62d4d6bfbce0842d4d36657787842f86ac0fe84df286c700e9a6774da6482", func := "quietus/quietuslaw16.TextPlaces", spec := "textPlaces", inPlace := ["internal/abi.NoEscape"], named := ["quietus/code.forms", "quietus/code.calls", "internal/strconv.uint64pow10", "math/bits.deBruijn32tab", "math/bits.deBruijn64tab"], apart := false, laid := [("math/bits.deBruijn32tab", laid_math_bits_deBruijn32tab), ("math/bits.deBruijn64tab", laid_math_bits_deBruijn64tab), ("internal/strconv.uint64pow10", laid_internal_strconv_uint64pow10), ("quietus/code.forms", laid_quietus_code_forms), ("quietus/code.calls", laid_quietus_code_calls)] }
def TextPlacesSaid : Prop := textPlacesRow.holds Tryd.pinned (OpenSpec.ofChange textPlacesSpec)

/-- ITS FALSE NEIGHBOUR: 'it returns false'. Refute it at one input. -/
def textPlacesWrong : ChangeSpec := { name := "textPlaces", fn := fun _ => fun
  | [d1, d2, d3, d4] => { results := [.lit (.bool false)], args := [d1, d2, d3, d4] }
  | _ => none }
def TextPlacesWrongFalsely : Prop := textPlacesRow.holds Tryd.pinned (OpenSpec.ofChange textPlacesWrong)

/- THE SECOND FORM. 'bulk': how many values and letters a reading holds, each counted each time it is reached (what is shared counts as often as it is met; a slice's spare places count too). A statement '..UptoSaid' is the law's where the arguments, and the package variables that the reading takes, are together of bulk at most 1048576: NARROWER than '..Said'. Prove '..Said' where nothing that the law and all that it calls make is longer than what came in: it says more and counts as full. Else prove '..UptoSaid'. A law counts once. -/
mutual
def uptoBulk {H : Type} : DataW H → Nat
  | .lit (.string bytes) => bytes.length + 1
  | .lit _ => 1
  | .nil => 1
  | .ptr d => uptoBulk d + 1
  | .slice elems spare => uptoBulkAll elems + uptoBulkAll spare + 1
  | .agg parts => uptoBulkAll parts + 1
  | .iface _ d => uptoBulk d + 1
  | .map entries => uptoBulkEntries entries + 1
  | .held _ => 1
def uptoBulkAll {H : Type} : List (DataW H) → Nat
  | [] => 0
  | d :: r => uptoBulk d + uptoBulkAll r
def uptoBulkEntries {H : Type} : List (Lit × DataW H) → Nat
  | [] => 0
  | x :: r => uptoBulkEntry x + uptoBulkEntries r
def uptoBulkEntry {H : Type} : Lit × DataW H → Nat
  | (.string bytes, d) => bytes.length + uptoBulk d + 1
  | (_, d) => uptoBulk d + 1
 end
def uptoSmall : (H : Type) → List (DataW H) → Bool := fun _ ds => decide (uptoBulkAll ds ≤ 1048576)
def OpenSpec.upto (s : _root_.Go.ChangeSpec) : _root_.Go.OpenSpec := { _root_.Go.OpenSpec.ofChange s with cond := some uptoSmall }

/-- 'quietuslaw16.TextTells', WHERE WHAT IT READS IS OF BULK AT MOST 1048576: true; the input reads as it did. -/
def textTellsUptoRow : OpenClaim := { program := "ytnkkkihgljbllaadoor", sum := "7ce62d4d6bfbce0842d4d36657787842f86ac0fe84df286c700e9a6774da6482", func := "quietus/quietuslaw16.TextTells", spec := "textTells", inPlace := ["internal/abi.NoEscape"], named := ["quietus/code.forms", "quietus/code.calls", "internal/strconv.uint64pow10", "math/bits.deBruijn32tab", "math/bits.deBruijn64tab", "quietus/quietusref13.names"], apart := false, laid := [("math/bits.deBruijn32tab", laid_math_bits_deBruijn32tab), ("math/bits.deBruijn64tab", laid_math_bits_deBruijn64tab), ("internal/strconv.uint64pow10", laid_internal_strconv_uint64pow10), ("quietus/code.forms", laid_quietus_code_forms), ("quietus/code.calls", laid_quietus_code_calls), ("quietus/quietusref13.names", laid_quietus_quietusref13_names)], narrowed := true }
def TextTellsUptoSaid : Prop := textTellsUptoRow.holds Tryd.pinned (OpenSpec.upto textTellsSpec)

/-- 'quietuslaw16.TextNear', WHERE WHAT IT READS IS OF BULK AT MOST 1048576: true; the input reads as it did. -/
def textNearUptoRow : OpenClaim := { program := "ytnkkkihgljbllaadoor", sum := "7ce62d4d6bfbce0842d4d36657787842f86ac0fe84df286c700e9a6774da6482", func := "quietus/quietuslaw16.TextNear", spec := "textNear", inPlace := ["internal/abi.NoEscape"], named := ["quietus/code.forms", "quietus/code.calls", "internal/strconv.uint64pow10", "math/bits.deBruijn32tab", "math/bits.deBruijn64tab", "quietus/quietusref13.names"], apart := false, laid := [("math/bits.deBruijn32tab", laid_math_bits_deBruijn32tab), ("math/bits.deBruijn64tab", laid_math_bits_deBruijn64tab), ("internal/strconv.uint64pow10", laid_internal_strconv_uint64pow10), ("quietus/code.forms", laid_quietus_code_forms), ("quietus/code.calls", laid_quietus_code_calls), ("quietus/quietusref13.names", laid_quietus_quietusref13_names)], narrowed := true }
def TextNearUptoSaid : Prop := textNearUptoRow.holds Tryd.pinned (OpenSpec.upto textNearSpec)

/-- 'quietuslaw16.TextBack', WHERE WHAT IT READS IS OF BULK AT MOST 1048576: true; the input reads as it did. -/
def textBackUptoRow : OpenClaim := { program := "ytnkkkihgljbllaadoor", sum := "7ce62d4d6bfbce0842d4d36657787842f86ac0fe84df286c700e9a6774da6482", func := "quietus/quietuslaw16.TextBack", spec := "textBack", inPlace := ["internal/abi.NoEscape"], named := ["quietus/code.forms", "quietus/code.calls", "internal/strconv.uint64pow10", "math/bits.deBruijn32tab", "math/bits.deBruijn64tab"], apart := false, laid := [("math/bits.deBruijn32tab", laid_math_bits_deBruijn32tab), ("math/bits.deBruijn64tab", laid_math_bits_deBruijn64tab), ("internal/strconv.uint64pow10", laid_internal_strconv_uint64pow10), ("quietus/code.forms", laid_quietus_code_forms), ("quietus/code.calls", laid_quietus_code_calls)], narrowed := true }
def TextBackUptoSaid : Prop := textBackUptoRow.holds Tryd.pinned (OpenSpec.upto textBackSpec)

/-- 'quietuslaw16.TextLoose', WHERE WHAT IT READS IS OF BULK AT MOST 1048576: true; the input reads as it did. -/
def textLooseUptoRow : OpenClaim := { program := "ytnkkkihgljbllaadoor", sum := "7ce62d4d6bfbce0842d4d36657787842f86ac0fe84df286c700e9a6774da6482", func := "quietus/quietuslaw16.TextLoose", spec := "textLoose", inPlace := ["internal/abi.NoEscape"], named := ["quietus/code.forms", "quietus/code.calls", "internal/strconv.uint64pow10", "math/bits.deBruijn32tab", "math/bits.deBruijn64tab"], apart := false, laid := [("math/bits.deBruijn32tab", laid_math_bits_deBruijn32tab), ("math/bits.deBruijn64tab", laid_math_bits_deBruijn64tab), ("internal/strconv.uint64pow10", laid_internal_strconv_uint64pow10), ("quietus/code.forms", laid_quietus_code_forms), ("quietus/code.calls", laid_quietus_code_calls)], narrowed := true }
def TextLooseUptoSaid : Prop := textLooseUptoRow.holds Tryd.pinned (OpenSpec.upto textLooseSpec)

/-- 'quietuslaw16.TextPlaces', WHERE WHAT IT READS IS OF BULK AT MOST 1048576: true; the input reads as it did. -/
def textPlacesUptoRow : OpenClaim := { program := "ytnkkkihgljbllaadoor", sum := "7ce62d4d6bfbce0842d4d36657787842f86ac0fe84df286c700e9a6774da6482", func := "quietus/quietuslaw16.TextPlaces", spec := "textPlaces", inPlace := ["internal/abi.NoEscape"], named := ["quietus/code.forms", "quietus/code.calls", "internal/strconv.uint64pow10", "math/bits.deBruijn32tab", "math/bits.deBruijn64tab"], apart := false, laid := [("math/bits.deBruijn32tab", laid_math_bits_deBruijn32tab), ("math/bits.deBruijn64tab", laid_math_bits_deBruijn64tab), ("internal/strconv.uint64pow10", laid_internal_strconv_uint64pow10), ("quietus/code.forms", laid_quietus_code_forms), ("quietus/code.calls", laid_quietus_code_calls)], narrowed := true }
def TextPlacesUptoSaid : Prop := textPlacesUptoRow.holds Tryd.pinned (OpenSpec.upto textPlacesSpec)

end Rows
end Go.Proofs.YtnkkkihgljbllaaDoor
