/-
  NARROWER THAN 'FOR EVERY INPUT', by the rows' own cells (each row's printed sentence says how): CodeRuns: laid · CodeTells: laid · CodeNear: laid · CodeNames: laid · CodeFields: laid.
  DERIVED. THE GIVEN ROWS OF THIS SEAT. 5 by the template 'for every input the law returns true; each argument reads behind the call as it read before'; 0 by the template 'total and deterministic' (their statements: YtkjkhkboemmniaaDoorTotals.lean).
  GIVEN WITH THE SEED: the statements are not yours to turn. If you find one false, say at which input.
  Laid BY PROGRAM, IN A SANDBOX (cutbox-rows.mjs): the forced cells as the released guide's own fill.sh prints them over the translation 17f9491fd5f1383e… (all of the seat's roots in one cut). By AI agents, Wed Nov 11 2026. No macro, syntax, notation, axiom, sorry.
-/
import Derived.Test.YtkjkhkboemmniaaDoorChecked
import GoSem.Claim
import GoSem.ClaimJoined
import GoSem.ClaimMapViews
import Derived.JoinedTies
import Derived.KernelRfl
namespace Go.Proofs.YtkjkhkboemmniaaDoor
/- THE CELL 'sum', in the pinned program and in every row, IS THE sha256 OF THE DUMP (.gsa) THAT YtkjkhkboemmniaaDoorProg.lean LOADS. Nothing in Lean hashes anything: it is a label: what it is worth is what the hold of that sum in a sandbox is worth. -/
noncomputable def Tryd.pinned : Pinned := { name := "ytkjkhkboemmniaadoor", sum := "17f9491fd5f1383ea99f8e460c6a2a335d8a713c9f35db7132f3d80fa4f6a950", checked := Tryd.checked }
namespace Rows
def none {H : Type} : Left H := { results := [], args := [] }

/- WHAT THE LISTED PACKAGE-LEVEL VARIABLES READ AS WHEN THE CALL BEGINS. Each datum BY PROGRAM (the guide's laid-datum.mjs) off the statement by which the dump's own 'gosem.cut.vars' lays the variable. In a bare row this is a premise. The card (YtkjkhkboemmniaaDoorCards.lean) ties it to the program's text. -/
def laid_quietus_code_forms {H : Type} : DataW H := .agg [.agg [.lit (.string []), .agg [.lit (.int .i64 0), .lit (.int .i64 0), .lit (.int .i64 0), .lit (.int .i64 0)]], .agg [.lit (.string [115, 101, 116]), .agg [.lit (.int .i64 1), .lit (.int .i64 0), .lit (.int .i64 0), .lit (.int .i64 7)]], .agg [.lit (.string [109, 111, 118, 101]), .agg [.lit (.int .i64 1), .lit (.int .i64 1), .lit (.int .i64 0), .lit (.int .i64 0)]], .agg [.lit (.string [97, 100, 100]), .agg [.lit (.int .i64 1), .lit (.int .i64 1), .lit (.int .i64 1), .lit (.int .i64 0)]], .agg [.lit (.string [115, 117, 98]), .agg [.lit (.int .i64 1), .lit (.int .i64 1), .lit (.int .i64 1), .lit (.int .i64 0)]], .agg [.lit (.string [109, 117, 108]), .agg [.lit (.int .i64 1), .lit (.int .i64 1), .lit (.int .i64 1), .lit (.int .i64 0)]], .agg [.lit (.string [108, 101, 115, 115]), .agg [.lit (.int .i64 1), .lit (.int .i64 1), .lit (.int .i64 1), .lit (.int .i64 0)]], .agg [.lit (.string [101, 113, 117, 97, 108]), .agg [.lit (.int .i64 1), .lit (.int .i64 1), .lit (.int .i64 1), .lit (.int .i64 0)]], .agg [.lit (.string [108, 111, 97, 100]), .agg [.lit (.int .i64 1), .lit (.int .i64 1), .lit (.int .i64 3), .lit (.int .i64 0)]], .agg [.lit (.string [115, 116, 111, 114, 101]), .agg [.lit (.int .i64 1), .lit (.int .i64 1), .lit (.int .i64 3), .lit (.int .i64 0)]], .agg [.lit (.string [97, 108, 108, 111, 99]), .agg [.lit (.int .i64 1), .lit (.int .i64 1), .lit (.int .i64 0), .lit (.int .i64 0)]], .agg [.lit (.string [102, 114, 101, 101]), .agg [.lit (.int .i64 1), .lit (.int .i64 0), .lit (.int .i64 0), .lit (.int .i64 0)]], .agg [.lit (.string [106, 117, 109, 112]), .agg [.lit (.int .i64 0), .lit (.int .i64 0), .lit (.int .i64 4), .lit (.int .i64 0)]], .agg [.lit (.string [122, 101, 114, 111]), .agg [.lit (.int .i64 1), .lit (.int .i64 0), .lit (.int .i64 4), .lit (.int .i64 0)]], .agg [.lit (.string [111, 112, 101, 110]), .agg [.lit (.int .i64 0), .lit (.int .i64 0), .lit (.int .i64 0), .lit (.int .i64 0)]], .agg [.lit (.string [99, 108, 111, 115, 101]), .agg [.lit (.int .i64 0), .lit (.int .i64 0), .lit (.int .i64 0), .lit (.int .i64 0)]], .agg [.lit (.string [117, 110, 100, 111]), .agg [.lit (.int .i64 0), .lit (.int .i64 0), .lit (.int .i64 0), .lit (.int .i64 0)]], .agg [.lit (.string [101, 105, 116, 104, 101, 114]), .agg [.lit (.int .i64 0), .lit (.int .i64 0), .lit (.int .i64 0), .lit (.int .i64 0)]], .agg [.lit (.string [111, 114]), .agg [.lit (.int .i64 0), .lit (.int .i64 0), .lit (.int .i64 0), .lit (.int .i64 0)]], .agg [.lit (.string [100, 111, 110, 101]), .agg [.lit (.int .i64 0), .lit (.int .i64 0), .lit (.int .i64 0), .lit (.int .i64 0)]], .agg [.lit (.string [114, 101, 116, 114, 121]), .agg [.lit (.int .i64 0), .lit (.int .i64 0), .lit (.int .i64 0), .lit (.int .i64 0)]], .agg [.lit (.string [101, 109, 105, 116]), .agg [.lit (.int .i64 1), .lit (.int .i64 0), .lit (.int .i64 0), .lit (.int .i64 0)]], .agg [.lit (.string [102, 97, 105, 108]), .agg [.lit (.int .i64 0), .lit (.int .i64 0), .lit (.int .i64 0), .lit (.int .i64 0)]], .agg [.lit (.string [99, 97, 108, 108]), .agg [.lit (.int .i64 6), .lit (.int .i64 5), .lit (.int .i64 2), .lit (.int .i64 0)]]]
def laid_quietus_code_calls {H : Type} : DataW H := .agg [.lit (.string [108, 105, 115, 116, 46, 97, 100, 100]), .lit (.string [108, 105, 115, 116, 46, 99, 117, 116]), .lit (.string [108, 105, 115, 116, 46, 104, 97, 115]), .lit (.string [116, 97, 98, 108, 101, 46, 112, 117, 116]), .lit (.string [116, 97, 98, 108, 101, 46, 103, 101, 116]), .lit (.string [116, 97, 98, 108, 101, 46, 100, 101, 108]), .lit (.string [113, 117, 101, 117, 101, 46, 112, 117, 115, 104]), .lit (.string [113, 117, 101, 117, 101, 46, 116, 97, 107, 101]), .lit (.string [116, 114, 101, 101, 46, 115, 101, 116]), .lit (.string [116, 114, 101, 101, 46, 102, 105, 110, 100]), .lit (.string [116, 114, 101, 101, 46, 101, 114, 97, 115, 101]), .lit (.string [116, 114, 101, 101, 46, 99, 111, 117, 110, 116])]
def laid_quietus_quietusref13_names {H : Type} : DataW H := .agg [.lit (.string [108, 105, 115, 116, 46, 97, 100, 100]), .lit (.string [108, 105, 115, 116, 46, 99, 117, 116]), .lit (.string [108, 105, 115, 116, 46, 104, 97, 115]), .lit (.string [116, 97, 98, 108, 101, 46, 112, 117, 116]), .lit (.string [116, 97, 98, 108, 101, 46, 103, 101, 116]), .lit (.string [116, 97, 98, 108, 101, 46, 100, 101, 108]), .lit (.string [113, 117, 101, 117, 101, 46, 112, 117, 115, 104]), .lit (.string [113, 117, 101, 117, 101, 46, 116, 97, 107, 101]), .lit (.string [116, 114, 101, 101, 46, 115, 101, 116]), .lit (.string [116, 114, 101, 101, 46, 102, 105, 110, 100]), .lit (.string [116, 114, 101, 101, 46, 101, 114, 97, 115, 101]), .lit (.string [116, 114, 101, 101, 46, 99, 111, 117, 110, 116])]

/-- 'quietuslaw14.CodeRuns': WHATEVER THE INPUT: true; the input reads as it did. -/
def codeRunsSpec : ChangeSpec := { name := "codeRuns", fn := fun _ => fun
  | [] => { results := [.lit (.bool true)], args := [] }
  | _ => none }
def codeRunsRow : OpenClaim := { program := "ytkjkhkboemmniaadoor", sum := "17f9491fd5f1383ea99f8e460c6a2a335d8a713c9f35db7132f3d80fa4f6a950", func := "quietus/quietuslaw14.CodeRuns", spec := "codeRuns", named := ["quietus/code.forms", "quietus/code.calls"], apart := false, laid := [("quietus/code.forms", laid_quietus_code_forms), ("quietus/code.calls", laid_quietus_code_calls)] }
def CodeRunsSaid : Prop := codeRunsRow.holds Tryd.pinned (OpenSpec.ofChange codeRunsSpec)

/-- ITS FALSE NEIGHBOUR: 'it returns false'. Refute it at one input. -/
def codeRunsWrong : ChangeSpec := { name := "codeRuns", fn := fun _ => fun
  | [] => { results := [.lit (.bool false)], args := [] }
  | _ => none }
def CodeRunsWrongFalsely : Prop := codeRunsRow.holds Tryd.pinned (OpenSpec.ofChange codeRunsWrong)

/-- 'quietuslaw14.CodeTells': WHATEVER THE INPUT: true; the input reads as it did. -/
def codeTellsSpec : ChangeSpec := { name := "codeTells", fn := fun _ => fun
  | [d1, d2, d3, d4] => { results := [.lit (.bool true)], args := [d1, d2, d3, d4] }
  | _ => none }
def codeTellsRow : OpenClaim := { program := "ytkjkhkboemmniaadoor", sum := "17f9491fd5f1383ea99f8e460c6a2a335d8a713c9f35db7132f3d80fa4f6a950", func := "quietus/quietuslaw14.CodeTells", spec := "codeTells", named := ["quietus/code.forms", "quietus/code.calls", "quietus/quietusref13.names"], apart := false, laid := [("quietus/code.forms", laid_quietus_code_forms), ("quietus/code.calls", laid_quietus_code_calls), ("quietus/quietusref13.names", laid_quietus_quietusref13_names)] }
def CodeTellsSaid : Prop := codeTellsRow.holds Tryd.pinned (OpenSpec.ofChange codeTellsSpec)

/-- ITS FALSE NEIGHBOUR: 'it returns false'. Refute it at one input. -/
def codeTellsWrong : ChangeSpec := { name := "codeTells", fn := fun _ => fun
  | [d1, d2, d3, d4] => { results := [.lit (.bool false)], args := [d1, d2, d3, d4] }
  | _ => none }
def CodeTellsWrongFalsely : Prop := codeTellsRow.holds Tryd.pinned (OpenSpec.ofChange codeTellsWrong)

/-- 'quietuslaw14.CodeNear': WHATEVER THE INPUT: true; the input reads as it did. -/
def codeNearSpec : ChangeSpec := { name := "codeNear", fn := fun _ => fun
  | [d1, d2, d3, d4, d5] => { results := [.lit (.bool true)], args := [d1, d2, d3, d4, d5] }
  | _ => none }
def codeNearRow : OpenClaim := { program := "ytkjkhkboemmniaadoor", sum := "17f9491fd5f1383ea99f8e460c6a2a335d8a713c9f35db7132f3d80fa4f6a950", func := "quietus/quietuslaw14.CodeNear", spec := "codeNear", named := ["quietus/code.forms", "quietus/code.calls"], apart := false, laid := [("quietus/code.forms", laid_quietus_code_forms), ("quietus/code.calls", laid_quietus_code_calls)] }
def CodeNearSaid : Prop := codeNearRow.holds Tryd.pinned (OpenSpec.ofChange codeNearSpec)

/-- ITS FALSE NEIGHBOUR: 'it returns false'. Refute it at one input. -/
def codeNearWrong : ChangeSpec := { name := "codeNear", fn := fun _ => fun
  | [d1, d2, d3, d4, d5] => { results := [.lit (.bool false)], args := [d1, d2, d3, d4, d5] }
  | _ => none }
def CodeNearWrongFalsely : Prop := codeNearRow.holds Tryd.pinned (OpenSpec.ofChange codeNearWrong)

/-- 'quietuslaw14.CodeNames': WHATEVER THE INPUT: true; the input reads as it did. -/
def codeNamesSpec : ChangeSpec := { name := "codeNames", fn := fun _ => fun
  | [d1, d2] => { results := [.lit (.bool true)], args := [d1, d2] }
  | _ => none }
def codeNamesRow : OpenClaim := { program := "ytkjkhkboemmniaadoor", sum := "17f9491fd5f1383ea99f8e460c6a2a335d8a713c9f35db7132f3d80fa4f6a950", func := "quietus/quietuslaw14.CodeNames", spec := "codeNames", named := ["quietus/code.forms", "quietus/code.calls"], apart := false, laid := [("quietus/code.forms", laid_quietus_code_forms), ("quietus/code.calls", laid_quietus_code_calls)] }
def CodeNamesSaid : Prop := codeNamesRow.holds Tryd.pinned (OpenSpec.ofChange codeNamesSpec)

/-- ITS FALSE NEIGHBOUR: 'it returns false'. Refute it at one input. -/
def codeNamesWrong : ChangeSpec := { name := "codeNames", fn := fun _ => fun
  | [d1, d2] => { results := [.lit (.bool false)], args := [d1, d2] }
  | _ => none }
def CodeNamesWrongFalsely : Prop := codeNamesRow.holds Tryd.pinned (OpenSpec.ofChange codeNamesWrong)

/-- 'quietuslaw14.CodeFields': WHATEVER THE INPUT: true; the input reads as it did. -/
def codeFieldsSpec : ChangeSpec := { name := "codeFields", fn := fun _ => fun
  | [d1, d2, d3] => { results := [.lit (.bool true)], args := [d1, d2, d3] }
  | _ => none }
def codeFieldsRow : OpenClaim := { program := "ytkjkhkboemmniaadoor", sum := "17f9491fd5f1383ea99f8e460c6a2a335d8a713c9f35db7132f3d80fa4f6a950", func := "quietus/quietuslaw14.CodeFields", spec := "codeFields", named := ["quietus/code.forms", "quietus/code.calls"], apart := false, laid := [("quietus/code.forms", laid_quietus_code_forms), ("quietus/code.calls", laid_quietus_code_calls)] }
def CodeFieldsSaid : Prop := codeFieldsRow.holds Tryd.pinned (OpenSpec.ofChange codeFieldsSpec)

/-- ITS FALSE NEIGHBOUR: 'it returns false'. Refute it at one input. -/
def codeFieldsWrong : ChangeSpec := { name := "codeFields", fn := fun _ => fun
  | [d1, d2, d3] => { results := [.lit (.bool false)], args := [d1, d2, d3] }
  | _ => none }
def CodeFieldsWrongFalsely : Prop := codeFieldsRow.holds Tryd.pinned (OpenSpec.ofChange codeFieldsWrong)

/- THE SECOND FORM. 'bulk': how many values and letters a reading holds, each counted each time it is reached (what is shared counts as often as it is met; a slice's spare places count too). A statement '..UptoSaid' is the law's where the arguments, and the package variables that the reading takes, are together of bulk at most 1048576: NARROWER than '..Said'. Prove '..Said' where nothing that the law and all that it calls make is longer than what came in: it says more and counts as full. Else prove '..UptoSaid'. A law counts once. -/
mutual
def uptoBulk {H : Type} : DataW H → Nat
  | .lit (.string bytes) => bytes.length + 1
  | .lit _ => 1
  | .nil => 1
  | .ptr d => uptoBulk d + 1
  | .slice elems spare => uptoBulkAll elems + uptoBulkAll spare + 1
  | .agg parts => uptoBulkAll parts + 1
  | .iface _ d => uptoBulk d + 1
  | .map entries => uptoBulkEntries entries + 1
  | .held _ => 1
def uptoBulkAll {H : Type} : List (DataW H) → Nat
  | [] => 0
  | d :: r => uptoBulk d + uptoBulkAll r
def uptoBulkEntries {H : Type} : List (Lit × DataW H) → Nat
  | [] => 0
  | x :: r => uptoBulkEntry x + uptoBulkEntries r
def uptoBulkEntry {H : Type} : Lit × DataW H → Nat
  | (.string bytes, d) => bytes.length + uptoBulk d + 1
  | (_, d) => uptoBulk d + 1
 end
def uptoSmall : (H : Type) → List (DataW H) → Bool := fun _ ds => decide (uptoBulkAll ds ≤ 1048576)
def OpenSpec.upto (s : _root_.Go.ChangeSpec) : _root_.Go.OpenSpec := { _root_.Go.OpenSpec.ofChange s with cond := some uptoSmall }

/-- 'quietuslaw14.CodeRuns', WHERE WHAT IT READS IS OF BULK AT MOST 1048576: true; the input reads as it did. -/
def codeRunsUptoRow : OpenClaim := { program := "ytkjkhkboemmniaadoor", sum := "17f9491fd5f1383ea99f8e460c6a2a335d8a713c9f35db7132f3d80fa4f6a950", func := "quietus/quietuslaw14.CodeRuns", spec := "codeRuns", named := ["quietus/code.forms", "quietus/code.calls"], apart := false, laid := [("quietus/code.forms", laid_quietus_code_forms), ("quietus/code.calls", laid_quietus_code_calls)], narrowed := true }
def CodeRunsUptoSaid : Prop := codeRunsUptoRow.holds Tryd.pinned (OpenSpec.upto codeRunsSpec)

/-- 'quietuslaw14.CodeTells', WHERE WHAT IT READS IS OF BULK AT MOST 1048576: true; the input reads as it did. -/
def codeTellsUptoRow : OpenClaim := { program := "ytkjkhkboemmniaadoor", sum := "17f9491fd5f1383ea99f8e460c6a2a335d8a713c9f35db7132f3d80fa4f6a950", func := "quietus/quietuslaw14.CodeTells", spec := "codeTells", named := ["quietus/code.forms", "quietus/code.calls", "quietus/quietusref13.names"], apart := false, laid := [("quietus/code.forms", laid_quietus_code_forms), ("quietus/code.calls", laid_quietus_code_calls), ("quietus/quietusref13.names", laid_quietus_quietusref13_names)], narrowed := true }
def CodeTellsUptoSaid : Prop := codeTellsUptoRow.holds Tryd.pinned (OpenSpec.upto codeTellsSpec)

/-- 'quietuslaw14.CodeNear', WHERE WHAT IT READS IS OF BULK AT MOST 1048576: true; the input reads as it did. -/
def codeNearUptoRow : OpenClaim := { program := "ytkjkhkboemmniaadoor", sum := "17f9491fd5f1383ea99f8e460c6a2a335d8a713c9f35db7132f3d80fa4f6a950", func := "quietus/quietuslaw14.CodeNear", spec := "codeNear", named := ["quietus/code.forms", "quietus/code.calls"], apart := false, laid := [("quietus/code.forms", laid_quietus_code_forms), ("quietus/code.calls", laid_quietus_code_calls)], narrowed := true }
def CodeNearUptoSaid : Prop := codeNearUptoRow.holds Tryd.pinned (OpenSpec.upto codeNearSpec)

/-- 'quietuslaw14.CodeNames', WHERE WHAT IT READS IS OF BULK AT MOST 1048576: true; the input reads as it did. -/
def codeNamesUptoRow : OpenClaim := { program := "ytkjkhkboemmniaadoor", sum := "17f9491fd5f1383ea99f8e460c6a2a335d8a713c9f35db7132f3d80fa4f6a950", func := "quietus/quietuslaw14.CodeNames", spec := "codeNames", named := ["quietus/code.forms", "quietus/code.calls"], apart := false, laid := [("quietus/code.forms", laid_quietus_code_forms), ("quietus/code.calls", laid_quietus_code_calls)], narrowed := true }
def CodeNamesUptoSaid : Prop := codeNamesUptoRow.holds Tryd.pinned (OpenSpec.upto codeNamesSpec)

/-- 'quietuslaw14.CodeFields', WHERE WHAT IT READS IS OF BULK AT MOST 1048576: true; the input reads as it did. -/
def codeFieldsUptoRow : OpenClaim := { program := "ytkjkhkboemmniaadoor", sum := "17f9491fd5f1383ea99f8e460c6a2a335d8a713c9f35db7132f3d80fa4f6a950", func := "quietus/quietuslaw14.CodeFields", spec := "codeFields", named := ["quietus/code.forms", "quietus/code.calls"], apart := false, laid := [("quietus/code.forms", laid_quietus_code_forms), ("quietus/code.calls", laid_quietus_code_calls)], narrowed := true }
def CodeFieldsUptoSaid : Prop := codeFieldsUptoRow.holds Tryd.pinned (OpenSpec.upto codeFieldsSpec)

end Rows
end Go.Proofs.YtkjkhkboemmniaaDoor
