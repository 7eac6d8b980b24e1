/- WritesLast (P8.2): for all rows of places and of words the law returns true; what was there stays as it was. No condition. -/
import Derived.Test.YtdbbgfefllmeaaaCW2
import Derived.Test.YtdbbgfefllmeaaaLc
import Derived.Test.YtdbbgfefllmeaaaChecked
import Derived.KernelRfl

namespace Go.Lev
open Go.RowKit
set_option linter.unusedVariables false
set_option linter.unusedSimpArgs false
set_option maxRecDepth 100000
theorem last_any {H : Type} {enc : TypeId × Value → H} {W : World} {a0 a1 : Option Addr} {len0 cap0 len1 cap1 : Nat} {d0 d1 : DataW H} {p0 p1 : List MemPlace} (h0 : DataW.Trod enc Go.Proofs.Try.prog W 0 (fun _ => true) true 51 (.slice a0 len0 cap0) d0 p0)
    (h1 : DataW.Trod enc Go.Proofs.Try.prog W 0 (fun _ => true) true 52 (.slice a1 len1 cap1) d1 p1) : Calls Go.Proofs.Try.prog 7 #[.slice a0 len0 cap0, .slice a1 len1 cap1] W fun e W' => e = .returned (.bool true) ∧ Below W.heap.size W W' := by
  obtain ⟨g0, n0, b0, r0⟩ := ints_row Go.Proofs.Try.underlying51 Go.Proofs.Try.underlying5 (by kernel_rfl) h0
  obtain ⟨g1, n1, b1, r1⟩ := ints_row Go.Proofs.Try.underlying52 Go.Proofs.Try.underlying26 (by kernel_rfl) h1
  refine SFun.top (rows := [(.slice a0 len0 cap0, len0, tab (cI .u8) len0 g0), (.slice a1 len1 cap1, len1, tab (cI .u64) len1 g1)]) (g := []) (us := [.slice a0 len0 cap0, .slice a1 len1 cap1]) ⟨r0, r1, trivial⟩ (fun x hx => by cases hx) (fun r h => ?_) (last_fun n0 n1 g0 g1 fun i hi => ?_)
  · simp only [VRs]
    exact ⟨_, _, rfl, h 0 _ _ _ rfl, _, _, rfl, h 1 _ _ _ rfl, rfl⟩
  · have := b0 i hi
    simpa [IntKind.min, IntKind.max, IntKind.signed, IntKind.bits] using this
end Go.Lev
