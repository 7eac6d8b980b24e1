/- MemCopies (P6.3): for any shape, any operations, the law returns true; what was there stays as it was. No condition. -/
import Derived.Test.YtmfakfopedneoaaCW12
import Derived.Test.YtmfakfopedneoaaLc
import Derived.Test.YtmfakfopedneoaaChecked
import Derived.KernelRfl

import Derived.Deep.Slices
import Derived.Deep.Fields
import Derived.ChangeSame
import Derived.ChangeOld
import Derived.OpenShut
import Derived.Lib.SmallJoins
namespace Go.Proofs.Ytmfakfopedneoaa
open Go.ChangeShapes Go.WideShapes Go.ChangeAt Go.RowKit Go.Deep
set_option linter.unusedVariables false
set_option linter.unusedSimpArgs false
theorem agg_open {H : Type} {enc : TypeId × Value → H} {P : Program} {w : World} {r : Reach} {b0 base : Nat} {spare : Nat → Bool} {held : Bool} {t : TypeId} {fs : Array Field} {v : Value} {d : DataW H} {p : List MemPlace} (hs : P.underlying t = some (.struct fs)) (hone : oneCellFields P fs = true) (hC : P.cellsOf t = fs.size)
    (hv : Value.okWide P w r b0 t v) (h : DataW.Trod enc P w base spare held t v d p) :
    ∃ cs : Array Value, v = .agg cs ∧ cs.size = fs.size ∧ ∀ (j : Nat) (f : Field), fs[j]? = some f → ∃ (x : Value) (y : DataW H × List MemPlace) (n : Nat), cs[j]? = some x ∧ DataW.trod enc P w base spare held n f.type [x] = some y := by
  obtain ⟨cs, rfl, hsz⟩ := okWide_struct hs hv
  obtain ⟨fuel, hf⟩ := h
  obtain ⟨ys, n', _, _, hlen, hyl, hg⟩ := DataW.trod_struct hs hf
  refine ⟨cs, rfl, hsz.trans hC, fun j f hj => ?_⟩
  obtain ⟨ho, hk⟩ := hone_of hone j f hj
  have hjl : j < fs.size := (Array.getElem?_eq_some_iff.1 hj).1
  have h1 := hg j f hj
  rw [ho, hk] at h1
  have hcs : cs.size = fs.size := hsz.trans hC
  have hlt : j < cs.toList.length := by simp; omega
  have e1 : ((Value.agg cs).cells.toList.drop j).take 1 = [cs.toList[j]] := by
    show (cs.toList.drop j).take 1 = _
    rw [List.drop_eq_getElem_cons hlt]
    rfl
  have hy : j < ys.length := by omega
  rw [e1, List.getElem?_eq_getElem hy] at h1
  exact ⟨cs.toList[j], _, n', by simp [show j < cs.size by omega], h1⟩
theorem arr5 {cs : Array Value} (h : cs.size = 5) : ∃ a b c d e, cs = #[a, b, c, d, e] := by
  obtain ⟨l⟩ := cs
  match l, h with
  | [a, b, c, d, e], _ => exact ⟨a, b, c, d, e, rfl⟩
end Go.Proofs.Ytmfakfopedneoaa
namespace Go.Lev
open Go.RowKit
set_option linter.unusedVariables false
set_option linter.unusedSimpArgs false
set_option maxRecDepth 100000
theorem copies_any {H : Type} {enc : TypeId × Value → H} {W : World} {a1 a2 a3 : Option Addr} {len1 cap1 len2 cap2 len3 cap3 : Nat} {d1 d2 d3 : DataW H} {p1 p2 p3 : List MemPlace} (sa sb sc sd se : Int) (h1 : DataW.Trod enc Go.Proofs.Try.prog W 0 (fun _ => true) true 44 (.slice a1 len1 cap1) d1 p1)
    (h2 : DataW.Trod enc Go.Proofs.Try.prog W 0 (fun _ => true) true 44 (.slice a2 len2 cap2) d2 p2) (h3 : DataW.Trod enc Go.Proofs.Try.prog W 0 (fun _ => true) true 44 (.slice a3 len3 cap3) d3 p3) :
    Calls Go.Proofs.Try.prog 7 #[.agg #[.int .i64 sa, .int .i64 sb, .int .i64 sc, .int .i64 sd, .int .u64 se], .slice a1 len1 cap1, .slice a2 len2 cap2, .slice a3 len3 cap3] W fun e W' => e = .returned (.bool true) ∧ Below W.heap.size W W' := by
  obtain ⟨xs, e1, n1, r1⟩ := ops_row h1
  obtain ⟨ys, e2, n2, r2⟩ := ops_row h2
  obtain ⟨zs, e3, n3, r3⟩ := ops_row h3
  refine SFun.top (rows := [(.slice a1 len1 cap1, len1, encL opL xs), (.slice a2 len2 cap2, len2, encL opL ys), (.slice a3 len3 cap3, len3, encL opL zs)]) (g := []) (us := [.agg #[.int .i64 sa, .int .i64 sb, .int .i64 sc, .int .i64 sd, .int .u64 se], .slice a1 len1 cap1, .slice a2 len2 cap2, .slice a3 len3 cap3]) ⟨r1, r2, r3, trivial⟩ (fun x hx => by cases hx) (fun r h => ?_) (copies_fun xs ys zs len1 len2 len3 e1 e2 e3 n1 n2 n3 sa sb sc sd se)
  simp only [VRs, VR]
  exact ⟨_, _, rfl, ⟨_, rfl, _, _, rfl, rfl, _, _, rfl, rfl, _, _, rfl, rfl, _, _, rfl, rfl, _, _, rfl, rfl, rfl⟩, _, _, rfl, h 0 _ _ _ rfl, _, _, rfl, h 1 _ _ _ rfl, _, _, rfl, h 2 _ _ _ rfl, rfl⟩
end Go.Lev
