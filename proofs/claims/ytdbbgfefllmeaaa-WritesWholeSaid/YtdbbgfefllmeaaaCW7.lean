/- WritesWhole (P8.1): for all rows of cells the law returns true; what was there stays as it was. No condition. -/
import Derived.Test.YtdbbgfefllmeaaaCW6
import Derived.Test.YtdbbgfefllmeaaaLc
import Derived.Test.YtdbbgfefllmeaaaChecked
import Derived.KernelRfl

namespace Go.Lev
open Go.RowKit
set_option linter.unusedVariables false
set_option linter.unusedSimpArgs false
set_option maxRecDepth 100000
theorem cells_row {H : Type} {enc : TypeId × Value → H} {W : World} {a : Option Addr} {len cap : Nat} {d : DataW H} {ps : List MemPlace} (h : DataW.Trod enc Go.Proofs.Try.prog W 0 (fun _ => true) true 27 (.slice a len cap) d ps) :
    ∃ g : Nat → Int × Int, len ≤ 9223372036854775807 ∧ RowArg W (.slice a len cap) len (tab cell len g) := by
  obtain ⟨g, h1, _, h2⟩ := pairs_row Go.Proofs.Try.underlying27 Go.Proofs.Try.underlying34 (by kernel_rfl) (by kernel_rfl) rfl rfl rfl Go.Proofs.Try.underlying3 Go.Proofs.Try.underlying26 h
  exact ⟨g, h1, h2⟩
theorem whole_any {H : Type} {enc : TypeId × Value → H} {W : World} {a1 a2 : Option Addr} {len1 cap1 len2 cap2 : Nat} {d1 d2 : DataW H} {p1 p2 : List MemPlace} (M : Int) (h1 : DataW.Trod enc Go.Proofs.Try.prog W 0 (fun _ => true) true 27 (.slice a1 len1 cap1) d1 p1)
    (h2 : DataW.Trod enc Go.Proofs.Try.prog W 0 (fun _ => true) true 27 (.slice a2 len2 cap2) d2 p2) : Calls Go.Proofs.Try.prog 6 #[.int .i64 M, .slice a1 len1 cap1, .slice a2 len2 cap2] W fun e W' => e = .returned (.bool true) ∧ Below W.heap.size W W' := by
  obtain ⟨g1, n1, r1⟩ := cells_row h1
  obtain ⟨g2, n2, r2⟩ := cells_row h2
  refine SFun.top (rows := [(.slice a1 len1 cap1, len1, tab cell len1 g1), (.slice a2 len2 cap2, len2, tab cell len2 g2)]) (g := []) (us := [.int .i64 M, .slice a1 len1 cap1, .slice a2 len2 cap2]) ⟨r1, r2, trivial⟩ (fun x hx => by cases hx) (fun r h => ?_) (whole_fun M n1 n2 g1 g2)
  simp only [VRs, VR]
  exact ⟨_, _, rfl, rfl, _, _, rfl, h 0 _ _ _ rfl, _, _, rfl, h 1 _ _ _ rfl, rfl⟩
end Go.Lev
