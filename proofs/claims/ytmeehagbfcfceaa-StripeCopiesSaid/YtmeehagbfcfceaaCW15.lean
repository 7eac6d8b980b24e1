/- StripePlays, StripeCopies (P3.2, P3.3): for any table, any loads, stores, exchanges, the law returns true; what was there stays as it was. No condition. -/
import Derived.Test.YtmeehagbfcfceaaCW14
import Derived.Test.YtmeehagbfcfceaaLc
import Derived.Test.YtmeehagbfcfceaaChecked
import Derived.KernelRfl

namespace Go.Lev
open Go.RowKit
set_option linter.unusedVariables false
set_option linter.unusedSimpArgs false
set_option maxRecDepth 100000
theorem asks_row {H : Type} {enc : TypeId × Value → H} {W : World} {a : Option Addr} {len cap : Nat} {d : DataW H} {ps : List MemPlace} (h : DataW.Trod enc Go.Proofs.Try.prog W 0 (fun _ => true) true 38 (.slice a len cap) d ps) :
    ∃ xs : List Ask3, xs.length = len ∧ len ≤ 9223372036854775807 ∧ RowArg W (.slice a len cap) len (encL askL xs) := by
  obtain ⟨xs, q1, q2, _, q4⟩ := row_arg (f := askL) (ok := fun _ => True) askL_len (by omega) Go.Proofs.Try.underlying38 (by kernel_rfl) h fun cs n x hl hx => by
    have hf := fl_ok 4 (l := [(0, .int .i64), (1, .int .i64), (2, .int .u64), (3, .bool), (4, .int .i64), (5, .int .u64), (6, .bool), (7, .int .i64)]) (by kernel_rfl) hx
    obtain ⟨_, e0, z0, rfl, _⟩ := hf (0, .int .i64) (by simp)
    obtain ⟨_, e1, z1, rfl, _⟩ := hf (1, .int .i64) (by simp)
    obtain ⟨_, e2, z2, rfl, _⟩ := hf (2, .int .u64) (by simp)
    obtain ⟨_, e3, z3, rfl⟩ := hf (3, .bool) (by simp)
    obtain ⟨_, e4, z4, rfl, _⟩ := hf (4, .int .i64) (by simp)
    obtain ⟨_, e5, z5, rfl, _⟩ := hf (5, .int .u64) (by simp)
    obtain ⟨_, e6, z6, rfl⟩ := hf (6, .bool) (by simp)
    obtain ⟨_, e7, z7, rfl, _⟩ := hf (7, .int .i64) (by simp)
    refine ⟨⟨z0, z1, (z2, z3, z4), (z5, z6, z7)⟩, trivial, fun i l hi => ?_⟩
    match i with
    | 0 => simp at hi; subst hi; exact ⟨rfl, _, e0, by simp only [VR]⟩
    | 1 => simp at hi; subst hi; exact ⟨rfl, _, e1, by simp only [VR]⟩
    | 2 => simp at hi; subst hi; exact ⟨rfl, _, e2, by simp only [VR]⟩
    | 3 => simp at hi; subst hi; exact ⟨rfl, _, e3, by simp only [VR]⟩
    | 4 => simp at hi; subst hi; exact ⟨rfl, _, e4, by simp only [VR]⟩
    | 5 => simp at hi; subst hi; exact ⟨rfl, _, e5, by simp only [VR]⟩
    | 6 => simp at hi; subst hi; exact ⟨rfl, _, e6, by simp only [VR]⟩
    | 7 => simp at hi; subst hi; exact ⟨rfl, _, e7, by simp only [VR]⟩
    | i + 8 => simp at hi
  exact ⟨xs, q1, q2, q4⟩
theorem plays_any {H : Type} {enc : TypeId × Value → H} {W : World} {a1 : Option Addr} {len1 cap1 : Nat} {d1 : DataW H} {p1 : List MemPlace} (a b : Int) (h1 : DataW.Trod enc Go.Proofs.Try.prog W 0 (fun _ => true) true 38 (.slice a1 len1 cap1) d1 p1) :
    Calls Go.Proofs.Try.prog 4 #[.int .i64 a, .int .i64 b, .slice a1 len1 cap1] W fun e W' => e = .returned (.bool true) ∧ Below W.heap.size W W' := by
  obtain ⟨xs, e1, n1, r1⟩ := asks_row h1
  refine SFun.top (rows := [(.slice a1 len1 cap1, len1, encL askL xs)]) (g := []) (us := [.int .i64 a, .int .i64 b, .slice a1 len1 cap1]) ⟨r1, trivial⟩ (fun x hx => by cases hx) (fun r h => ?_) (plays_fun a b xs len1 e1 n1)
  simp only [VRs, VR]
  exact ⟨_, _, rfl, rfl, _, _, rfl, rfl, _, _, rfl, h 0 _ _ _ rfl, rfl⟩
theorem copies_any {H : Type} {enc : TypeId × Value → H} {W : World} {a1 a2 a3 : Option Addr} {len1 cap1 len2 cap2 len3 cap3 : Nat} {d1 d2 d3 : DataW H} {p1 p2 p3 : List MemPlace} (a b : Int) (h1 : DataW.Trod enc Go.Proofs.Try.prog W 0 (fun _ => true) true 38 (.slice a1 len1 cap1) d1 p1)
    (h2 : DataW.Trod enc Go.Proofs.Try.prog W 0 (fun _ => true) true 38 (.slice a2 len2 cap2) d2 p2) (h3 : DataW.Trod enc Go.Proofs.Try.prog W 0 (fun _ => true) true 38 (.slice a3 len3 cap3) d3 p3) :
    Calls Go.Proofs.Try.prog 8 #[.int .i64 a, .int .i64 b, .slice a1 len1 cap1, .slice a2 len2 cap2, .slice a3 len3 cap3] W fun e W' => e = .returned (.bool true) ∧ Below W.heap.size W W' := by
  obtain ⟨xs, e1, n1, r1⟩ := asks_row h1
  obtain ⟨ys, e2, n2, r2⟩ := asks_row h2
  obtain ⟨zs, e3, n3, r3⟩ := asks_row h3
  refine SFun.top (rows := [(.slice a1 len1 cap1, len1, encL askL xs), (.slice a2 len2 cap2, len2, encL askL ys), (.slice a3 len3 cap3, len3, encL askL zs)]) (g := []) (us := [.int .i64 a, .int .i64 b, .slice a1 len1 cap1, .slice a2 len2 cap2, .slice a3 len3 cap3]) ⟨r1, r2, r3, trivial⟩ (fun x hx => by cases hx) (fun r h => ?_) (copies_fun a b xs ys zs len1 len2 len3 e1 e2 e3 n1 n2 n3)
  simp only [VRs, VR]
  exact ⟨_, _, rfl, rfl, _, _, rfl, rfl, _, _, rfl, h 0 _ _ _ rfl, _, _, rfl, h 1 _ _ _ rfl, _, _, rfl, h 2 _ _ _ rfl, rfl⟩
end Go.Lev
