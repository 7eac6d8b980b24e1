/- ReadsPlays (P7.1, P7.2): for any room, any stripes and versions, any locks the law returns true; what was there stays as it was. No condition. -/
import Derived.Test.YtabhnhodhbpmmaaCR5
import Derived.Test.YtabhnhodhbpmmaaLc
import Derived.Test.YtabhnhodhbpmmaaChecked
import Derived.KernelRfl

import Derived.Test.YtabhnhodhbpmmaaLc
namespace Go.Lev
open Go.RowKit
set_option linter.unusedVariables false
set_option linter.unusedSimpArgs false
set_option maxRecDepth 100000
theorem el_seenP {H : Type} {enc : TypeId × Value → H} {W : World} : ∀ (cs : List Value) (n : Nat) (x : DataW H × List MemPlace), cs.length = 2 → DataW.trod enc Go.Proofs.Try.prog W 0 (fun _ => true) true n 28 cs = some x → ∃ y : Int × Int, True ∧ ∀ (j : Nat) l, (cell y)[j]? = some l → l.plain = true ∧ ∃ u, cs[j]? = some u ∧ VR noRen l u := by
  intro cs n x hl hx
  have hf := fl_ok 4 (l := [(0, .int .i64), (1, .int .u64)]) (by kernel_rfl) hx
  obtain ⟨_, e0, z0, rfl, _⟩ := hf (0, .int .i64) (by simp)
  obtain ⟨_, e1, z1, rfl, _⟩ := hf (1, .int .u64) (by simp)
  refine ⟨(z0, z1), trivial, fun i l hi => ?_⟩
  match i with
  | 0 => simp [cII] at hi; subst hi; exact ⟨rfl, _, e0, by simp only [VR]⟩
  | 1 => simp [cII] at hi; subst hi; exact ⟨rfl, _, e1, by simp only [VR]⟩
  | i + 2 => simp [cII] at hi
theorem el_lkP {H : Type} {enc : TypeId × Value → H} {W : World} : ∀ (cs : List Value) (n : Nat) (x : DataW H × List MemPlace), cs.length = 3 → DataW.trod enc Go.Proofs.Try.prog W 0 (fun _ => true) true n 41 cs = some x → ∃ y : Lk, True ∧ ∀ (j : Nat) l, (cL y)[j]? = some l → l.plain = true ∧ ∃ u, cs[j]? = some u ∧ VR noRen l u := by
  intro cs n x hl hx
  have hf := fl_ok 4 (l := [(0, .int .u64), (1, .bool), (2, .int .i64)]) (by kernel_rfl) hx
  obtain ⟨_, e0, z0, rfl, _⟩ := hf (0, .int .u64) (by simp)
  obtain ⟨_, e1, z1, rfl⟩ := hf (1, .bool) (by simp)
  obtain ⟨_, e2, z2, rfl, _⟩ := hf (2, .int .i64) (by simp)
  refine ⟨(z0, z1, z2), trivial, fun i l hi => ?_⟩
  match i with
  | 0 => simp at hi; subst hi; exact ⟨rfl, _, e0, by simp only [VR]⟩
  | 1 => simp at hi; subst hi; exact ⟨rfl, _, e1, by simp only [VR]⟩
  | 2 => simp at hi; subst hi; exact ⟨rfl, _, e2, by simp only [VR]⟩
  | i + 3 => simp at hi
theorem plays_any {H : Type} {enc : TypeId × Value → H} {W : World} {a0 a1 a2 : Option Addr} {len0 cap0 len1 cap1 len2 cap2 : Nat} {d0 d1 d2 : DataW H} {p0 p1 p2 : List MemPlace} (most : Int)
    (h0 : DataW.Trod enc Go.Proofs.Try.prog W 0 (fun _ => true) true 32 (.slice a0 len0 cap0) d0 p0) (h1 : DataW.Trod enc Go.Proofs.Try.prog W 0 (fun _ => true) true 36 (.slice a1 len1 cap1) d1 p1) (h2 : DataW.Trod enc Go.Proofs.Try.prog W 0 (fun _ => true) true 37 (.slice a2 len2 cap2) d2 p2) (hb : len1 * 24 ≤ 140737488355328) :
    Calls Go.Proofs.Try.prog 4 #[.int .i64 most, .slice a0 len0 cap0, .slice a1 len1 cap1, .slice a2 len2 cap2] W fun e W' => e = .returned (.bool true) ∧ Below W.heap.size W W' := by
  obtain ⟨ls, e0, n0, _, r0⟩ := row_arg (f := cell) (ok := fun _ => True) cell_len (by omega) Go.Proofs.Try.underlying32 (by kernel_rfl) h0 el_seenP
  obtain ⟨ks, e1, n1, _, r1⟩ := row_arg (f := cL) (ok := fun _ => True) cL_len (by omega) Go.Proofs.Try.underlying36 (by kernel_rfl) h1 el_lkP
  obtain ⟨us, e2, n2, _, r2⟩ := row_arg (f := cI .u64) (ok := fun y : Int => IntKind.u64.min ≤ y ∧ y ≤ IntKind.u64.max) (cI_len .u64) (by omega) Go.Proofs.Try.underlying37 (by kernel_rfl) h2 (el_int Go.Proofs.Try.underlying26)
  refine SFun.top (rows := [(.slice a0 len0 cap0, len0, encL cell ls), (.slice a1 len1 cap1, len1, encL cL ks), (.slice a2 len2 cap2, len2, encL (cI .u64) us)]) (g := []) (us := [.int .i64 most, .slice a0 len0 cap0, .slice a1 len1 cap1, .slice a2 len2 cap2]) ⟨r0, r1, r2, trivial⟩ (fun x hx => by cases hx) (fun r h => ?_) (plays_fun most ls ks us len0 len1 len2 e0 e1 e2 n0 hb n2)
  simp only [VRs, VR]
  exact ⟨_, _, rfl, rfl, _, _, rfl, h 0 _ _ _ rfl, _, _, rfl, h 1 _ _ _ rfl, _, _, rfl, h 2 _ _ _ rfl, rfl⟩
end Go.Lev
