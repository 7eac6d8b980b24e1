/- LimboPlays (P12.1): for any blocks that rest, at any stamps, any slots, the law returns true; what was there stays as it was. No condition. -/
import Derived.Test.YtjjmgfclenbgfaaCW6
import Derived.Test.YtjjmgfclenbgfaaLc
import Derived.Test.YtjjmgfclenbgfaaChecked
import Derived.KernelRfl

namespace Go.Lev
open Go.RowKit
set_option linter.unusedVariables false
set_option linter.unusedSimpArgs false
set_option maxRecDepth 100000
theorem plays_any {H : Type} {enc : TypeId × Value → H} {W : World} {a1 : Option Addr} {len1 cap1 : Nat} {d1 : DataW H} {p1 : List MemPlace} (h1 : DataW.Trod enc Go.Proofs.Try.prog W 0 (fun _ => true) true 35 (.slice a1 len1 cap1) d1 p1) :
    Calls Go.Proofs.Try.prog 4 #[.slice a1 len1 cap1] W fun e W' => e = .returned (.bool true) ∧ Below W.heap.size W W' := by
  obtain ⟨xs, e1, n1, q1, r1⟩ := row_arg (f := askL) (ok := fun q => (RowArg W q.v1 q.bs.length (encL (cI .i64) q.bs) ∧ RowArg W q.v2 q.ss.length (encL (cI .u64) q.ss)) ∧ q.bs.length ≤ 9223372036854775807 ∧ q.ss.length ≤ 9223372036854775807) askL_len (by omega) Go.Proofs.Try.underlying35 (by kernel_rfl) h1 fun cs n x hl hx => by
    have hf := fsl_ok 4 (l := [(2, 26), (3, 29)]) (by kernel_rfl) hx
    obtain ⟨v1, y1, m1, e2, hv1⟩ := hf (2, 26) (by simp)
    obtain ⟨v2, y2, m2, e3, hv2⟩ := hf (3, 29) (by simp)
    obtain ⟨bs, k1, _, k3, k4⟩ := row_in (f := cI .i64) (ok := fun y : Int => IntKind.i64.min ≤ y ∧ y ≤ IntKind.i64.max) (cI_len .i64) (by omega) Go.Proofs.Try.underlying26 (by kernel_rfl) hv1 (el_int Go.Proofs.Try.underlying3)
    obtain ⟨ss, j1, _, j3, j4⟩ := row_in (f := cI .u64) (ok := fun y : Int => IntKind.u64.min ≤ y ∧ y ≤ IntKind.u64.max) (cI_len .u64) (by omega) Go.Proofs.Try.underlying29 (by kernel_rfl) hv2 (el_int Go.Proofs.Try.underlying25)
    have hg := fl3_ok 4 (l := [(0, .bool), (1, .int .u64)]) (by kernel_rfl) hx
    obtain ⟨_, e0, z0, rfl⟩ := hg (0, .bool) (by simp)
    obtain ⟨_, e1, z1, rfl, _⟩ := hg (1, .int .u64) (by simp)
    refine ⟨⟨z0, z1, v1, v2, bs, ss⟩, ⟨⟨k3, j3⟩, k1, j1⟩, fun i l hi => ?_⟩
    match i with
    | 0 => simp at hi; subst hi; exact ⟨rfl, _, e0, by simp only [VR]⟩
    | 1 => simp at hi; subst hi; exact ⟨rfl, _, e1, by simp only [VR]⟩
    | 2 => simp at hi; subst hi; exact ⟨rfl, _, e2, lv_val k4⟩
    | 3 => simp at hi; subst hi; exact ⟨rfl, _, e3, lv_val j4⟩
    | i + 4 => simp at hi
  refine SFun.top (rows := [(.slice a1 len1 cap1, len1, encL askL xs)]) (g := factG (factW xs)) (us := [.slice a1 len1 cap1]) ⟨r1, trivial⟩ (Gl_fact.2 fun x hx => (q1 x hx).1) (fun r h => ?_) (plays_fun xs len1 e1 n1 fun x hx => (q1 x hx).2)
  simp only [VRs]
  exact ⟨_, _, rfl, h 0 _ _ _ rfl, rfl⟩
end Go.Lev
