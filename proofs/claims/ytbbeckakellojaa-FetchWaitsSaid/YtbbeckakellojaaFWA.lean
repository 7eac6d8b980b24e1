/- FetchWaits: the walk of the law up to its first own object, then every case by the local evaluator. -/

import Derived.Test.YtbbeckakellojaaRows
import Derived.Test.YtbbeckakellojaaRunsC
import Derived.Test.YtbbeckakellojaaLew
import Derived.Test.YtbbeckakellojaaFWZ
import Derived.WalkKit
import Derived.ProofKit
import Derived.OpenShut
import Derived.ShutString
import Derived.ChangeOld
import Derived.Below
import Derived.Lib.Hide
import Derived.Outline
import Derived.Handy
import Derived.Deep.Cut
namespace Go.Proofs.Ytbbeckakellojaa
open Go.ChangeShapes Go.WideShapes Go.ChangeAt Go.RowKit
open Go.ChangeMaps (open_string shut_string)
set_option linter.unusedVariables false
theorem part_0_0_0 (me ow sp lo : Int) (qn : Nat) (hq : qn < 10) : endB 8 (run2 Try.prog 3000 114 C1 C2 (Go.Lev.initTm (LS me ow sp lo ((0 : Nat) : Int) ((0 : Nat) : Int) ((0 : Nat) : Int) (qn : Int)) 0 .leaf)) = true :=
  all1 (f := fun qn => endB 8 (run2 Try.prog 3000 114 C1 C2 (Go.Lev.initTm (LS me ow sp lo ((0 : Nat) : Int) ((0 : Nat) : Int) ((0 : Nat) : Int) (qn : Int)) 0 .leaf))) (by kernel_rfl) qn hq
theorem part_0_0_1 (me ow sp lo : Int) (qn : Nat) (hq : qn < 10) : endB 8 (run2 Try.prog 3000 114 C1 C2 (Go.Lev.initTm (LS me ow sp lo ((0 : Nat) : Int) ((0 : Nat) : Int) ((1 : Nat) : Int) (qn : Int)) 0 .leaf)) = true :=
  all1 (f := fun qn => endB 8 (run2 Try.prog 3000 114 C1 C2 (Go.Lev.initTm (LS me ow sp lo ((0 : Nat) : Int) ((0 : Nat) : Int) ((1 : Nat) : Int) (qn : Int)) 0 .leaf))) (by kernel_rfl) qn hq
theorem part_0_0_2 (me ow sp lo : Int) (qn : Nat) (hq : qn < 10) : endB 8 (run2 Try.prog 3000 114 C1 C2 (Go.Lev.initTm (LS me ow sp lo ((0 : Nat) : Int) ((0 : Nat) : Int) ((2 : Nat) : Int) (qn : Int)) 0 .leaf)) = true :=
  all1 (f := fun qn => endB 8 (run2 Try.prog 3000 114 C1 C2 (Go.Lev.initTm (LS me ow sp lo ((0 : Nat) : Int) ((0 : Nat) : Int) ((2 : Nat) : Int) (qn : Int)) 0 .leaf))) (by kernel_rfl) qn hq
theorem part_0_0_3 (me ow sp lo : Int) (qn : Nat) (hq : qn < 10) : endB 8 (run2 Try.prog 3000 114 C1 C2 (Go.Lev.initTm (LS me ow sp lo ((0 : Nat) : Int) ((0 : Nat) : Int) ((3 : Nat) : Int) (qn : Int)) 0 .leaf)) = true :=
  all1 (f := fun qn => endB 8 (run2 Try.prog 3000 114 C1 C2 (Go.Lev.initTm (LS me ow sp lo ((0 : Nat) : Int) ((0 : Nat) : Int) ((3 : Nat) : Int) (qn : Int)) 0 .leaf))) (by kernel_rfl) qn hq
theorem part_0_0_4 (me ow sp lo : Int) (qn : Nat) (hq : qn < 10) : endB 8 (run2 Try.prog 3000 114 C1 C2 (Go.Lev.initTm (LS me ow sp lo ((0 : Nat) : Int) ((0 : Nat) : Int) ((4 : Nat) : Int) (qn : Int)) 0 .leaf)) = true :=
  all1 (f := fun qn => endB 8 (run2 Try.prog 3000 114 C1 C2 (Go.Lev.initTm (LS me ow sp lo ((0 : Nat) : Int) ((0 : Nat) : Int) ((4 : Nat) : Int) (qn : Int)) 0 .leaf))) (by kernel_rfl) qn hq
theorem part_0_0_5 (me ow sp lo : Int) (qn : Nat) (hq : qn < 10) : endB 8 (run2 Try.prog 3000 114 C1 C2 (Go.Lev.initTm (LS me ow sp lo ((0 : Nat) : Int) ((0 : Nat) : Int) ((5 : Nat) : Int) (qn : Int)) 0 .leaf)) = true :=
  all1 (f := fun qn => endB 8 (run2 Try.prog 3000 114 C1 C2 (Go.Lev.initTm (LS me ow sp lo ((0 : Nat) : Int) ((0 : Nat) : Int) ((5 : Nat) : Int) (qn : Int)) 0 .leaf))) (by kernel_rfl) qn hq
theorem part_0_1_0 (me ow sp lo : Int) (qn : Nat) (hq : qn < 10) : endB 8 (run2 Try.prog 3000 114 C1 C2 (Go.Lev.initTm (LS me ow sp lo ((0 : Nat) : Int) ((1 : Nat) : Int) ((0 : Nat) : Int) (qn : Int)) 0 .leaf)) = true :=
  all1 (f := fun qn => endB 8 (run2 Try.prog 3000 114 C1 C2 (Go.Lev.initTm (LS me ow sp lo ((0 : Nat) : Int) ((1 : Nat) : Int) ((0 : Nat) : Int) (qn : Int)) 0 .leaf))) (by kernel_rfl) qn hq
theorem part_0_1_1 (me ow sp lo : Int) (qn : Nat) (hq : qn < 10) : endB 8 (run2 Try.prog 3000 114 C1 C2 (Go.Lev.initTm (LS me ow sp lo ((0 : Nat) : Int) ((1 : Nat) : Int) ((1 : Nat) : Int) (qn : Int)) 0 .leaf)) = true :=
  all1 (f := fun qn => endB 8 (run2 Try.prog 3000 114 C1 C2 (Go.Lev.initTm (LS me ow sp lo ((0 : Nat) : Int) ((1 : Nat) : Int) ((1 : Nat) : Int) (qn : Int)) 0 .leaf))) (by kernel_rfl) qn hq
theorem part_0_1_2 (me ow sp lo : Int) (qn : Nat) (hq : qn < 10) : endB 8 (run2 Try.prog 3000 114 C1 C2 (Go.Lev.initTm (LS me ow sp lo ((0 : Nat) : Int) ((1 : Nat) : Int) ((2 : Nat) : Int) (qn : Int)) 0 .leaf)) = true :=
  all1 (f := fun qn => endB 8 (run2 Try.prog 3000 114 C1 C2 (Go.Lev.initTm (LS me ow sp lo ((0 : Nat) : Int) ((1 : Nat) : Int) ((2 : Nat) : Int) (qn : Int)) 0 .leaf))) (by kernel_rfl) qn hq
theorem part_0_1_3 (me ow sp lo : Int) (qn : Nat) (hq : qn < 10) : endB 8 (run2 Try.prog 3000 114 C1 C2 (Go.Lev.initTm (LS me ow sp lo ((0 : Nat) : Int) ((1 : Nat) : Int) ((3 : Nat) : Int) (qn : Int)) 0 .leaf)) = true :=
  all1 (f := fun qn => endB 8 (run2 Try.prog 3000 114 C1 C2 (Go.Lev.initTm (LS me ow sp lo ((0 : Nat) : Int) ((1 : Nat) : Int) ((3 : Nat) : Int) (qn : Int)) 0 .leaf))) (by kernel_rfl) qn hq
theorem part_0_1_4 (me ow sp lo : Int) (qn : Nat) (hq : qn < 10) : endB 8 (run2 Try.prog 3000 114 C1 C2 (Go.Lev.initTm (LS me ow sp lo ((0 : Nat) : Int) ((1 : Nat) : Int) ((4 : Nat) : Int) (qn : Int)) 0 .leaf)) = true :=
  all1 (f := fun qn => endB 8 (run2 Try.prog 3000 114 C1 C2 (Go.Lev.initTm (LS me ow sp lo ((0 : Nat) : Int) ((1 : Nat) : Int) ((4 : Nat) : Int) (qn : Int)) 0 .leaf))) (by kernel_rfl) qn hq
theorem part_0_1_5 (me ow sp lo : Int) (qn : Nat) (hq : qn < 10) : endB 8 (run2 Try.prog 3000 114 C1 C2 (Go.Lev.initTm (LS me ow sp lo ((0 : Nat) : Int) ((1 : Nat) : Int) ((5 : Nat) : Int) (qn : Int)) 0 .leaf)) = true :=
  all1 (f := fun qn => endB 8 (run2 Try.prog 3000 114 C1 C2 (Go.Lev.initTm (LS me ow sp lo ((0 : Nat) : Int) ((1 : Nat) : Int) ((5 : Nat) : Int) (qn : Int)) 0 .leaf))) (by kernel_rfl) qn hq
end Go.Proofs.Ytbbeckakellojaa
