/- MemApart (P6.2): for any shape, any operations, the law returns true; what was there stays as it was. No condition. -/
import Derived.Test.YtmfakfopedneoaaCW15
import Derived.Test.YtmfakfopedneoaaLc
import Derived.Test.YtmfakfopedneoaaChecked
import Derived.KernelRfl

import Derived.Deep.Slices
import Derived.Deep.Fields
import Derived.ChangeSame
import Derived.ChangeOld
import Derived.OpenShut
import Derived.Lib.SmallJoins
namespace Go.Proofs.Ytmfakfopedneoaa
open Go.ChangeShapes Go.WideShapes Go.ChangeAt Go.RowKit Go.Deep
set_option linter.unusedVariables false
set_option linter.unusedSimpArgs false
theorem agg_open {H : Type} {enc : TypeId × Value → H} {P : Program} {w : World} {r : Reach} {b0 base : Nat} {spare : Nat → Bool} {held : Bool} {t : TypeId} {fs : Array Field} {v : Value} {d : DataW H} {p : List MemPlace} (hs : P.underlying t = some (.struct fs)) (hone : oneCellFields P fs = true) (hC : P.cellsOf t = fs.size)
    (hv : Value.okWide P w r b0 t v) (h : DataW.Trod enc P w base spare held t v d p) :
    ∃ cs : Array Value, v = .agg cs ∧ cs.size = fs.size ∧ ∀ (j : Nat) (f : Field), fs[j]? = some f → ∃ (x : Value) (y : DataW H × List MemPlace) (n : Nat), cs[j]? = some x ∧ DataW.trod enc P w base spare held n f.type [x] = some y := by
  obtain ⟨cs, rfl, hsz⟩ := okWide_struct hs hv
  obtain ⟨fuel, hf⟩ := h
  obtain ⟨ys, n', _, _, hlen, hyl, hg⟩ := DataW.trod_struct hs hf
  refine ⟨cs, rfl, hsz.trans hC, fun j f hj => ?_⟩
  obtain ⟨ho, hk⟩ := hone_of hone j f hj
  have hjl : j < fs.size := (Array.getElem?_eq_some_iff.1 hj).1
  have h1 := hg j f hj
  rw [ho, hk] at h1
  have hcs : cs.size = fs.size := hsz.trans hC
  have hlt : j < cs.toList.length := by simp; omega
  have e1 : ((Value.agg cs).cells.toList.drop j).take 1 = [cs.toList[j]] := by
    show (cs.toList.drop j).take 1 = _
    rw [List.drop_eq_getElem_cons hlt]
    rfl
  have hy : j < ys.length := by omega
  rw [e1, List.getElem?_eq_getElem hy] at h1
  exact ⟨cs.toList[j], _, n', by simp [show j < cs.size by omega], h1⟩
theorem arr5 {cs : Array Value} (h : cs.size = 5) : ∃ a b c d e, cs = #[a, b, c, d, e] := by
  obtain ⟨l⟩ := cs
  match l, h with
  | [a, b, c, d, e], _ => exact ⟨a, b, c, d, e, rfl⟩
end Go.Proofs.Ytmfakfopedneoaa
namespace Go.Lev
open Go.RowKit
set_option linter.unusedVariables false
set_option linter.unusedSimpArgs false
set_option maxRecDepth 100000
theorem apart_any {H : Type} {enc : TypeId × Value → H} {W : World} {a1 : Option Addr} {len1 cap1 : Nat} {d1 d2 : DataW H} {p1 p2 : List MemPlace} {cs : Array Value} (sa sb sc sd se : Int) (h1 : DataW.Trod enc Go.Proofs.Try.prog W 0 (fun _ => true) true 44 (.slice a1 len1 cap1) d1 p1)
    (h2 : DataW.Trod enc Go.Proofs.Try.prog W 0 (fun _ => true) true 34 (.agg cs) d2 p2) :
    Calls Go.Proofs.Try.prog 6 #[.agg #[.int .i64 sa, .int .i64 sb, .int .i64 sc, .int .i64 sd, .int .u64 se], .slice a1 len1 cap1, .agg cs] W fun e W' => e = .returned (.bool true) ∧ Below W.heap.size W W' := by
  obtain ⟨xs, e1x, n1, r1⟩ := ops_row h1
  obtain ⟨fuel, hf⟩ := h2
  obtain ⟨_, _, _, _, hlen, _, _⟩ := DataW.trod_struct Go.Proofs.Try.underlying34 hf
  have hl : cs.toList.length = 10 := hlen.trans (by kernel_rfl)
  have hfl := fl_ok 4 (l := [(0, .int .i64), (1, .int .i64), (2, .int .u64), (3, .int .u64), (4, .int .u64), (5, .bool), (6, .int .i64), (7, .int .u64), (8, .bool), (9, .int .i64)]) (by kernel_rfl) hf
  obtain ⟨_, e0, z0, rfl, _⟩ := hfl (0, .int .i64) (by simp)
  obtain ⟨_, e1, z1, rfl, _⟩ := hfl (1, .int .i64) (by simp)
  obtain ⟨_, e2, z2, rfl, _⟩ := hfl (2, .int .u64) (by simp)
  obtain ⟨_, e3, z3, rfl, _⟩ := hfl (3, .int .u64) (by simp)
  obtain ⟨_, e4, z4, rfl, _⟩ := hfl (4, .int .u64) (by simp)
  obtain ⟨_, e5, z5, rfl⟩ := hfl (5, .bool) (by simp)
  obtain ⟨_, e6, z6, rfl, _⟩ := hfl (6, .int .i64) (by simp)
  obtain ⟨_, e7, z7, rfl, _⟩ := hfl (7, .int .u64) (by simp)
  obtain ⟨_, e8, z8, rfl⟩ := hfl (8, .bool) (by simp)
  obtain ⟨_, e9, z9, rfl, _⟩ := hfl (9, .int .i64) (by simp)
  have hcs : cs.toList = [.int .i64 z0, .int .i64 z1, .int .u64 z2, .int .u64 z3, .int .u64 z4, .bool z5, .int .i64 z6, .int .u64 z7, .bool z8, .int .i64 z9] := by
    refine List.ext_getElem? fun i => ?_
    match i with
    | 0 => exact e0
    | 1 => exact e1
    | 2 => exact e2
    | 3 => exact e3
    | 4 => exact e4
    | 5 => exact e5
    | 6 => exact e6
    | 7 => exact e7
    | 8 => exact e8
    | 9 => exact e9
    | i + 10 => rw [List.getElem?_eq_none (by omega), List.getElem?_eq_none (by simp)]
  have hc : cs = #[.int .i64 z0, .int .i64 z1, .int .u64 z2, .int .u64 z3, .int .u64 z4, .bool z5, .int .i64 z6, .int .u64 z7, .bool z8, .int .i64 z9] := by
    cases cs; simpa using hcs
  subst hc
  refine SFun.top (rows := [(.slice a1 len1 cap1, len1, encL opL xs)]) (g := []) (us := [.agg #[.int .i64 sa, .int .i64 sb, .int .i64 sc, .int .i64 sd, .int .u64 se], .slice a1 len1 cap1, .agg #[.int .i64 z0, .int .i64 z1, .int .u64 z2, .int .u64 z3, .int .u64 z4, .bool z5, .int .i64 z6, .int .u64 z7, .bool z8, .int .i64 z9]]) ⟨r1, trivial⟩ (fun x hx => by cases hx) (fun r h => ?_) (apart_fun xs len1 e1x n1 sa sb sc sd se ⟨z0, z1, z2, z3, (z4, z5, z6), (z7, z8, z9)⟩)
  simp only [VRs, VR]
  exact ⟨_, _, rfl, ⟨_, rfl, _, _, rfl, rfl, _, _, rfl, rfl, _, _, rfl, rfl, _, _, rfl, rfl, _, _, rfl, rfl, rfl⟩, _, _, rfl, h 0 _ _ _ rfl, _, _, rfl, ⟨_, rfl, _, _, rfl, rfl, _, _, rfl, rfl, _, _, rfl, rfl, _, _, rfl, rfl, _, _, rfl, rfl, _, _, rfl, rfl, _, _, rfl, rfl, _, _, rfl, rfl, _, _, rfl, rfl, _, _, rfl, rfl, rfl⟩, rfl⟩
end Go.Lev
