/- CodeNear, CodeFields (P14.1): for any numbers the law returns true; what was there stays as it was. Condition: the listed package-level variables hold what the program's text lays. -/
import Derived.Test.YtkjkhkboemmniaaDoorCW3
import Derived.Test.YtkjkhkboemmniaaDoorLc
import Derived.Test.YtkjkhkboemmniaaDoorChecked
import Derived.KernelRfl

import Derived.Deep.Slices
import Derived.Deep.Fields
import Derived.ChangeSame
import Derived.ChangeOld
import Derived.OpenShut
import Derived.Lib.SmallJoins
import Derived.Test.YtkjkhkboemmniaaDoorLc
import Derived.Test.YtkjkhkboemmniaaDoorRows
namespace Go.Proofs.YtkjkhkboemmniaaDoor
open Go.ChangeShapes Go.WideShapes Go.ChangeAt Go.RowKit Go.Deep
set_option linter.unusedVariables false
set_option linter.unusedSimpArgs false
theorem agg_open {H : Type} {enc : TypeId × Value → H} {P : Program} {w : World} {r : Reach} {b0 base : Nat} {spare : Nat → Bool} {held : Bool} {t : TypeId} {fs : Array Field} {v : Value} {d : DataW H} {p : List MemPlace} (hs : P.underlying t = some (.struct fs)) (hone : oneCellFields P fs = true) (hC : P.cellsOf t = fs.size)
    (hv : Value.okWide P w r b0 t v) (h : DataW.Trod enc P w base spare held t v d p) :
    ∃ cs : Array Value, v = .agg cs ∧ cs.size = fs.size ∧ ∀ (j : Nat) (f : Field), fs[j]? = some f → ∃ (x : Value) (y : DataW H × List MemPlace) (n : Nat), cs[j]? = some x ∧ DataW.trod enc P w base spare held n f.type [x] = some y := by
  obtain ⟨cs, rfl, hsz⟩ := okWide_struct hs hv
  obtain ⟨fuel, hf⟩ := h
  obtain ⟨ys, n', _, _, hlen, hyl, hg⟩ := DataW.trod_struct hs hf
  refine ⟨cs, rfl, hsz.trans hC, fun j f hj => ?_⟩
  obtain ⟨ho, hk⟩ := hone_of hone j f hj
  have hjl : j < fs.size := (Array.getElem?_eq_some_iff.1 hj).1
  have h1 := hg j f hj
  rw [ho, hk] at h1
  have hcs : cs.size = fs.size := hsz.trans hC
  have hlt : j < cs.toList.length := by simp; omega
  have e1 : ((Value.agg cs).cells.toList.drop j).take 1 = [cs.toList[j]] := by
    show (cs.toList.drop j).take 1 = _
    rw [List.drop_eq_getElem_cons hlt]
    rfl
  have hy : j < ys.length := by omega
  rw [e1, List.getElem?_eq_getElem hy] at h1
  exact ⟨cs.toList[j], _, n', by simp [show j < cs.size by omega], h1⟩
theorem arr5 {cs : Array Value} (h : cs.size = 5) : ∃ a b c d e, cs = #[a, b, c, d, e] := by
  obtain ⟨l⟩ := cs
  match l, h with
  | [a, b, c, d, e], _ => exact ⟨a, b, c, d, e, rfl⟩
end Go.Proofs.YtkjkhkboemmniaaDoor
namespace Go.Lev
open Go.RowKit
set_option linter.unusedVariables false
set_option linter.unusedSimpArgs false
set_option maxRecDepth 100000
noncomputable section
theorem runs14 : isTrue (lrun Go.Proofs.Tryd.prog 8000 3 gtab) = true := by kernel_rfl
theorem runGt_ok : GOk Go.Proofs.Tryd.prog 3 runGt := by
  intro args s bs l s' hg hb hfr
  unfold runGt at hg
  split at hg
  · rename_i g0 F0 g1 F1 hgl
    cases hc : (Nat.beq g0 0 && eqbs F0 formsL && (Nat.beq g1 1 && eqbs F1 callsL)) with
    | false => rw [hc] at hg; cases hg
    | true =>
      rw [hc] at hg
      simp only [cond_true, Option.some.injEq, Prod.mk.injEq] at hg
      obtain ⟨rfl, rfl, rfl⟩ := hg
      simp only [Bool.and_eq_true] at hc
      obtain ⟨⟨c1, c2⟩, c3, c4⟩ := hc
      have e : s.g = gtab := by
        rw [hgl, Nat.eq_of_beq_eq_true c1, eqbs_eq c2, Nat.eq_of_beq_eq_true c3, eqbs_eq c4]; rfl
      refine SFun.closed (fuel := 8000) hfr ?_
      rw [e]; exact runs14
  · cases hg
theorem cxn_ok : CtrOk Go.Proofs.Tryd.prog (ctrOf cxn) := cxl_ok ⟨runGt_ok, wrapG_ok withinG_ok, mayG_ok, rmayG_ok, trivial⟩
theorem near_fun (op a b c n : Int) : SFun Go.Proofs.Tryd.prog 5 [.int .i64 op, .int .i64 a, .int .i64 b, .int .i64 c, .int .u64 n] (mkS [] gtab) fun l _ => l = .bool true := by
  refine SFun.mono (SFun.vc (Q := fun l _ => l = .bool true) cxn_ok (n := 60) 0 rfl ?_) fun l s' ⟨b0, h1, _⟩ => h1
  rw [near_x]
  (repeat (first | (with_reducible refine way_t (by (first | with_reducible rfl | exact t_le (by omega) | exact t_eq (by omega) | exact t_nn (by omega) | exact t_lss (by omega) | exact t_leq (by omega) | exact t_gtr (by omega) | exact t_geq (by omega) | exact t_eql (by omega) | exact t_neq (by omega) | exact t_z (by omega) | exact wd_not_f | assumption)) ?_) | (with_reducible refine way_f (by (first | with_reducible rfl | exact f_le (by omega) | exact f_eq (by omega) | exact f_nn (by omega) | exact f_lss (by omega) | exact f_leq (by omega) | exact f_gtr (by omega) | exact f_geq (by omega) | exact f_eql (by omega) | exact f_neq (by omega) | exact f_z (by omega) | exact wd_not_t | assumption)) ?_)))
  exact ⟨rfl, _, _, [], rfl, leafB (by simp [wd_bq])⟩
theorem near_any {W : World} (hg : Gl W gtab) (op a b c n : Int) : Calls Go.Proofs.Tryd.prog 5 #[.int .i64 op, .int .i64 a, .int .i64 b, .int .i64 c, .int .u64 n] W fun e W' => e = .returned (.bool true) ∧ Below W.heap.size W W' := by
  refine SFun.top (rows := []) (g := gtab) (us := [.int .i64 op, .int .i64 a, .int .i64 b, .int .i64 c, .int .u64 n]) trivial hg (fun r h => ?_) (near_fun op a b c n)
  simp only [VRs, VR]
  exact ⟨_, _, rfl, rfl, _, _, rfl, rfl, _, _, rfl, rfl, _, _, rfl, rfl, _, _, rfl, rfl, rfl⟩
theorem mayW_le {op a b c n : Int} (h : mayW op a b c n = true) : 0 ≤ a ∧ a ≤ 12 ∧ 0 ≤ b ∧ b ≤ 7 ∧ 0 ≤ c ∧ c ≤ 40 ∧ (op = 1 ∨ n = 0) := by
  obtain ⟨h1, h2, _⟩ := mayW_iff.1 h
  have : op = 1 ∨ op = 2 ∨ op = 3 ∨ op = 4 ∨ op = 5 ∨ op = 6 ∨ op = 7 ∨ op = 8 ∨ op = 9 ∨ op = 10 ∨ op = 11 ∨ op = 12 ∨ op = 13 ∨ op = 14 ∨ op = 15 ∨ op = 16 ∨ op = 17 ∨ op = 18 ∨ op = 19 ∨ op = 20 ∨ op = 21 ∨ op = 22 ∨ op = 23 := by omega
  rcases this with rfl | rfl | rfl | rfl | rfl | rfl | rfl | rfl | rfl | rfl | rfl | rfl | rfl | rfl | rfl | rfl | rfl | rfl | rfl | rfl | rfl | rfl | rfl
  · have := (mw1 _ _ _ _).1 h; omega
  · have := (mw2 _ _ _ _).1 h; simp only [Bool.false_eq_true, false_or] at this; omega
  · have := (mw3 _ _ _ _).1 h; simp only [Bool.false_eq_true, false_or] at this; omega
  · have := (mw4 _ _ _ _).1 h; simp only [Bool.false_eq_true, false_or] at this; omega
  · have := (mw5 _ _ _ _).1 h; simp only [Bool.false_eq_true, false_or] at this; omega
  · have := (mw6 _ _ _ _).1 h; simp only [Bool.false_eq_true, false_or] at this; omega
  · have := (mw7 _ _ _ _).1 h; simp only [Bool.false_eq_true, false_or] at this; omega
  · have := (mw8 _ _ _ _).1 h; simp only [Bool.false_eq_true, false_or] at this; omega
  · have := (mw9 _ _ _ _).1 h; simp only [Bool.false_eq_true, false_or] at this; omega
  · have := (mw10 _ _ _ _).1 h; simp only [Bool.false_eq_true, false_or] at this; omega
  · have := (mw11 _ _ _ _).1 h; simp only [Bool.false_eq_true, false_or] at this; omega
  · have := (mw12 _ _ _ _).1 h; simp only [Bool.false_eq_true, false_or] at this; omega
  · have := (mw13 _ _ _ _).1 h; simp only [Bool.false_eq_true, false_or] at this; omega
  · have := (mw14 _ _ _ _).1 h; simp only [Bool.false_eq_true, false_or] at this; omega
  · have := (mw15 _ _ _ _).1 h; simp only [Bool.false_eq_true, false_or] at this; omega
  · have := (mw16 _ _ _ _).1 h; simp only [Bool.false_eq_true, false_or] at this; omega
  · have := (mw17 _ _ _ _).1 h; simp only [Bool.false_eq_true, false_or] at this; omega
  · have := (mw18 _ _ _ _).1 h; simp only [Bool.false_eq_true, false_or] at this; omega
  · have := (mw19 _ _ _ _).1 h; simp only [Bool.false_eq_true, false_or] at this; omega
  · have := (mw20 _ _ _ _).1 h; simp only [Bool.false_eq_true, false_or] at this; omega
  · have := (mw21 _ _ _ _).1 h; simp only [Bool.false_eq_true, false_or] at this; omega
  · have := (mw22 _ _ _ _).1 h; simp only [Bool.false_eq_true, false_or] at this; omega
  · have := (mw23 _ _ _ _).1 h; simp only [Bool.false_eq_true, false_or] at this; omega
theorem and_way {x : Bool} {A B : Prop} (h1 : A) (h2 : B) : cond x A B := by cases x <;> assumption
theorem fields_fun (op a b c n wh by' : Int) (hb : 0 ≤ by' ∧ by' ≤ 255) : SFun Go.Proofs.Tryd.prog 7 [insL op a b c n, .int .u8 wh, .int .u8 by'] (mkS [] gtab) fun l _ => l = .bool true := by
  refine SFun.mono (SFun.vc (Q := fun l _ => l = .bool true) cxn_ok (n := 60) 0 rfl ?_) fun l s' ⟨b0, h1, _⟩ => h1
  rw [fields_x]
  have b1 : ∀ x : Bool, xnot x = !x := fun x => by cases x <;> rfl
  have e : xwr .i64 by' = by' := wr_i64 (by omega) (by omega)
  have e13 : xar .add .i64 13 (xwr .i64 by') = 13 + by' := by rw [e, xar_add, wrap_i64 (by omega) (by omega)]
  have e8 : xar .add .i64 8 (xwr .i64 by') = 8 + by' := by rw [e, xar_add, wrap_i64 (by omega) (by omega)]
  have e41 : xar .add .i64 41 (xwr .i64 by') = 41 + by' := by rw [e, xar_add, wrap_i64 (by omega) (by omega)]
  have em : xar .sub .i64 (-1) (xwr .i64 by') = -1 - by' := by rw [e, xar_sub, wrap_i64 (by omega) (by omega)]
  have m0 : mayW 0 0 0 0 0 = false := mayW_out (by omega)
  have m20 : mayW 20 0 0 0 0 = true := (mw20 0 0 0 0).2 (by simp)
  cases h : mayW op a b c n with
  | false =>
    simp only [b1, m0, m20, Bool.not_false, cond_true]
    exact ⟨rfl, _, _, [], rfl, leafB rfl⟩
  | true =>
    have hl := mayW_le h
    have q1 : mayW op (13 + by') b c n = false := Bool.eq_false_iff.2 fun e => by have := mayW_le e; omega
    have q2 : mayW op (-1 - by') b c n = false := Bool.eq_false_iff.2 fun e => by have := mayW_le e; omega
    have q3 : mayW op a (8 + by') c n = false := Bool.eq_false_iff.2 fun e => by have := mayW_le e; omega
    have q4 : mayW op a b (41 + by') n = false := Bool.eq_false_iff.2 fun e => by have := mayW_le e; omega
    simp only [b1, e13, e8, e41, em, q1, q2, q3, q4, Bool.not_true, Bool.not_false, cond_true, cond_false]
    by_cases hn : n = 0
    · have z : xcm .eql n 0 = true := by rw [xcm_eql]; exact decide_eq_true hn
      simp only [z, cond_true]
      refine and_way ?_ (and_way ?_ ?_) <;> exact ⟨rfl, _, _, [], rfl, leafB rfl⟩
    · have z : xcm .eql n 0 = false := by rw [xcm_eql]; exact decide_eq_false hn
      have o : xcm .eql op 1 = true := by rw [xcm_eql]; exact decide_eq_true (by omega)
      simp only [z, o, cond_false]
      refine and_way ?_ (and_way ?_ ?_) <;> exact ⟨rfl, _, _, [], rfl, leafB rfl⟩
theorem fields_any {W : World} (hg : Gl W gtab) (op a b c n wh by' : Int) (hb : 0 ≤ by' ∧ by' ≤ 255) : Calls Go.Proofs.Tryd.prog 7 #[.agg #[.int .i64 op, .int .i64 a, .int .i64 b, .int .i64 c, .int .u64 n], .int .u8 wh, .int .u8 by'] W fun e W' => e = .returned (.bool true) ∧ Below W.heap.size W W' := by
  refine SFun.top (rows := []) (g := gtab) (us := [.agg #[.int .i64 op, .int .i64 a, .int .i64 b, .int .i64 c, .int .u64 n], .int .u8 wh, .int .u8 by']) trivial hg (fun r h => ?_) (fields_fun op a b c n wh by' hb)
  simp only [VRs, VR]
  exact ⟨_, _, rfl, ⟨_, rfl, _, _, rfl, rfl, _, _, rfl, rfl, _, _, rfl, rfl, _, _, rfl, rfl, _, _, rfl, rfl, rfl⟩, _, _, rfl, rfl, _, _, rfl, rfl, rfl⟩
end
end Go.Lev
