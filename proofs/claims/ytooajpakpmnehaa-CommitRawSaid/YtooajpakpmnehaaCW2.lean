/- chapter 25: a commit as it goes on: what it does -/
import Derived.Test.YtooajpakpmnehaaCW1
import Derived.Test.YtooajpakpmnehaaLc
import Derived.Test.YtooajpakpmnehaaChecked
import Derived.KernelRfl

namespace Go.Lev
open Go.RowKit
set_option linter.unusedVariables false
set_option linter.unusedSimpArgs false
set_option maxRecDepth 100000
noncomputable section
abbrev d0 : Lk := (0, false, 0)
abbrev q0 : Int × Int := (0, 0)
abbrev CS.enter (s : CS) (p : Int) : CS := ⟨s.tk, s.su, s.en, s.bu, s.er, s.lk, p, 0, s.now, s.st, s.ve, s.vb, s.vr⟩
abbrev CS.letGo (s : CS) (e b r : Int) : CS := ⟨s.tk, s.su, s.en, s.bu, s.er, s.lk, 7, 0, s.now, s.st, e, b, r⟩
abbrev CS.stop (s : CS) (e r b : Int) : CS := ⟨s.tk, s.su, e, b, r, s.lk, s.ph, s.at', s.now, s.st, s.ve, s.vb, s.vr⟩
abbrev CS.step (s : CS) : CS := ⟨s.tk, s.su, s.en, s.bu, s.er, s.lk, s.ph, s.at' + 1, s.now, s.st, s.ve, s.vb, s.vr⟩
abbrev CS.sure (s : CS) : CS := ⟨s.tk, s.su, s.en, s.bu, s.er, s.lk, 5, 0, s.now, true, s.ve, s.vb, s.vr⟩
def gcmp (qs : List (Int × Int)) (s : CS) (v : Int) : CS := if v ≠ (qs.getD s.at' q0).2 then s.letGo 5 (-1) 0 else s.step
def gchk (qs : List (Int × Int)) (ss : List Int) : Nat → CS → CS
  | 0, s => s
  | f + 1, s => if s.ph = 4 ∧ s.at' < qs.length then (match idxOf (ss.take s.tk.length) (qs.getD s.at' q0).1 with
    | none => s
    | some i => gchk qs ss f (gcmp qs s (s.tk.getD i d0).1)) else s
def gch (qs : List (Int × Int)) (ss : List Int) (s : CS) : CS := gchk qs ss (qs.length - s.at' + 1) s
theorem gchk_no {qs : List (Int × Int)} {ss : List Int} {s : CS} (h : s.ph ≠ 4) : ∀ f, gchk qs ss f s = s
  | 0 => rfl
  | f + 1 => by rw [gchk, if_neg fun k => h k.1]
theorem gch_no {qs : List (Int × Int)} {ss : List Int} {s : CS} (h : ¬ (s.ph = 4 ∧ s.at' < qs.length)) : gch qs ss s = s := by rw [gch, gchk, if_neg h]
theorem gch_none {qs : List (Int × Int)} {ss : List Int} {s : CS} (h : idxOf (ss.take s.tk.length) (qs.getD s.at' q0).1 = none) : gch qs ss s = s := by
  rw [gch, gchk]; split
  · rw [h]
  · rfl
theorem gch_some {qs : List (Int × Int)} {ss : List Int} {s : CS} (h1 : s.ph = 4) (h2 : s.at' < qs.length) {i : Nat} (h : idxOf (ss.take s.tk.length) (qs.getD s.at' q0).1 = some i) : gch qs ss s = gch qs ss (gcmp qs s (s.tk.getD i d0).1) := by
  rw [gch, gchk, if_pos ⟨h1, h2⟩, h]
  dsimp only
  by_cases e : (s.tk.getD i d0).1 ≠ (qs.getD s.at' q0).2
  · rw [gcmp, if_pos e, gch, gchk_no (by simp), gchk_no (by simp)]
  · rw [gcmp, if_neg e, gch]
    show gchk qs ss (qs.length - s.at') s.step = gchk qs ss (qs.length - (s.at' + 1) + 1) s.step
    rw [show qs.length - (s.at' + 1) + 1 = qs.length - s.at' by omega]
def g1 (ns : Nat) (s : CS) : CS := if s.ph = 0 ∧ s.at' = ns then s.enter 2 else s
def g3 (nq : Nat) (s : CS) : CS := if s.ph = 4 ∧ s.at' = nq then s.sure else s
def g4 (nc : Nat) (s : CS) : CS := if s.ph = 5 ∧ s.at' = nc then s.enter 6 else s
def g5 (s : CS) : CS := if s.ph = 6 ∧ s.at' = s.tk.length then s.stop 2 0 (-1) else s
def g6 (s : CS) : CS := if s.ph = 7 ∧ s.at' = s.tk.length then s.stop s.ve s.vr s.vb else s
def gGo (qs : List (Int × Int)) (nc : Nat) (ss : List Int) (s : CS) : CS := g6 (g5 (g4 nc (g3 qs.length (gch qs ss (g1 ss.length s)))))
abbrev cES (me stm : Int) (qs cs : List (Int × Int)) (ss : List Int) (s : CS) : List LB := cE me stm qs.length cs.length ss.length s.tk.length (encL cell qs) (encL cell cs) (encL (cI .i64) ss) (encL cL s.tk) s.su s.en s.bu s.er s.lk.1 s.lk.2.1 s.lk.2.2 s.ph s.at' s.now s.st s.ve s.vb s.vr
theorem g1_tk (n : Nat) (s : CS) : (g1 n s).tk = s.tk := by unfold g1; split <;> rfl
theorem idxW_enc (ss : List Int) (n : Nat) (v : Int) : idxW (encL (cI .i64) ss) n v = idxI (ss.take n) v := by rw [idxW, decIi64_enc]
theorem cxi_ok : CtrOk Go.Proofs.Try.prog (ctrOf cxi) := cxl_ok ⟨idG_ok, trivial⟩
theorem getD_q {xs : List (Int × Int)} {i : Nat} (h : i < xs.length) : xs.getD i q0 = xs[i] := by simp [List.getD_eq_getElem?_getD, h]
theorem getD_l {xs : List Lk} {i : Nat} (h : i < xs.length) : xs.getD i d0 = xs[i] := by simp [List.getD_eq_getElem?_getD, h]
theorem go_loop (me stm : Int) (qs cs : List (Int × Int)) (ss : List Int) (s : CS) (hq : qs.length ≤ 1000000) (hs : ss.length ≤ 1000000) (ht : s.tk.length ≤ ss.length) (Φ : Pk) :
    SCode Go.Proofs.Try.prog 175 (nthC (sp Go.Proofs.Try.prog 38) 2) 6 (mkTm 175 goT) (mkS (cES me stm qs cs ss s)) (vK goL (toK (σ := Unit) 6 175 goL [] (fun _ => goT) (fun _ => cES me stm qs cs ss (gch qs ss s)) Φ)) := by
  refine SCode.loop_vc (cx := cxi) cxi_ok (n := 40) 0 (by kernel_rfl) (σ := {t : CS // gch qs ss t = gch qs ss s ∧ t.tk.length ≤ ss.length}) (fun _ => goT) (fun t => cES me stm qs cs ss t.1) (fun t => if t.1.ph = 4 then qs.length - t.1.at' + 1 else 0) (fun _ => Nat.le_of_ble_eq_true rfl) (fun ⟨t, e, hl⟩ => ?_) ⟨s, rfl, ht⟩
  dsimp only at e hl ⊢
  have nq := noids_c qs
  have nc := noids_c cs
  have nss := noIds_Ii64 ss
  have nt := noids_l t.tk
  have ok : okX (encL (cI .i64) ss) t.tk.length = true := okX_iff.2 ⟨ss, rfl, hl, hs⟩
  rw [go_b]
  by_cases h1 : t.ph = 4
  case neg =>
    have : gch qs ss s = t := by rw [← e, gch_no fun k => h1 k.1]
    (with_reducible repeat first | refine zq1 ?_ | refine zq2 ?_ | refine zq3 ?_ | refine zq4 ?_ | refine zq5 ?_ | refine zq6 ?_ | refine zq7 ?_ | refine zq8 ?_ | refine zq9 ?_ | refine zqa ?_ | refine zqb ?_ | refine zqc ?_ | refine zqd ?_ | refine zqe ?_ | refine zqf ?_ | refine zqg ?_ | refine zqh ?_ | refine zqi ?_ | refine zqj ?_ | refine zqk ?_ | refine zql ?_ | refine zqm ?_ | refine zqn ?_ | refine zqo ?_ | refine zqp ?_)
    exact ⟨rfl, (), [.id 0, .id 1, .id 2, .id 3, .id 4, .id 5], by rw [this]; (refine ⟨by kernel_rfl, ?_, ?_⟩ <;> repeat first | exact okTms_nil | refine okTms_cons ?_ ?_ | exact okBlks_nil | refine okBlks_cons ?_ ?_ | exact lws_nil | refine lws_cons ?_ ?_ | exact lb_dead | exact zy1 | exact zy2 | exact lb_none | refine zy3 ?_ | exact zy4 | exact lw_any | exact lw_int | exact lw_bool | exact zy5 | exact zy6 | exact lw_nils | exact lw_slo_nils | exact zy7 | exact zy8 | exact zy9 | refine lw_tup ?_ | refine lw_agg ?_ | assumption)⟩
  by_cases h2 : t.at' < qs.length
  case neg =>
    have : gch qs ss s = t := by rw [← e, gch_no fun k => h2 k.2]
    (with_reducible repeat first | refine zq1 ?_ | refine zq2 ?_ | refine zq3 ?_ | refine zq4 ?_ | refine zq5 ?_ | refine zq6 ?_ | refine zq7 ?_ | refine zq8 ?_ | refine zq9 ?_ | refine zqa ?_ | refine zqb ?_ | refine zqc ?_ | refine zqd ?_ | refine zqe ?_ | refine zqf ?_ | refine zqg ?_ | refine zqh ?_ | refine zqi ?_ | refine zqj ?_ | refine zqk ?_ | refine zql ?_ | refine zqm ?_ | refine zqn ?_ | refine zqo ?_ | refine zqp ?_)
    exact ⟨rfl, (), [.id 0, .id 1, .id 2, .id 3, .id 4, .id 5], by rw [this]; (refine ⟨by kernel_rfl, ?_, ?_⟩ <;> repeat first | exact okTms_nil | refine okTms_cons ?_ ?_ | exact okBlks_nil | refine okBlks_cons ?_ ?_ | exact lws_nil | refine lws_cons ?_ ?_ | exact lb_dead | exact zy1 | exact zy2 | exact lb_none | refine zy3 ?_ | exact zy4 | exact lw_any | exact lw_int | exact lw_bool | exact zy5 | exact zy6 | exact lw_nils | exact lw_slo_nils | exact zy7 | exact zy8 | exact zy9 | refine lw_tup ?_ | refine lw_agg ?_ | assumption)⟩
  simp only [wd_nat, wd_asV, wd_isV, wd_ix, wd_add, wd_mul, wd_ln, Nat.zero_add, Nat.mul_one, wd_isI, wd_asI, wd_isB, wd_asB, wd_nn, cI_tlen, cB_tlen, cII_tlen, decide_true, cond_true, wd_not_t, wd_not_f, wd_and_t, wd_and_f, Nat.add_assoc, Nat.reduceAdd, Nat.sub_zero, wd_sub, cell_0 h2, cell_1 h2, cell_n, idxW_enc, ok]
  cases hi : idxOf (ss.take t.tk.length) (qs.getD t.at' q0).1 with
  | none =>
    have : gch qs ss s = t := by rw [← e, gch_none hi]
    have hv : idxI (ss.take t.tk.length) qs[t.at'].1 = -1 := by rw [← getD_q h2, idxI, hi]
    simp only [hv]
    (with_reducible repeat first | refine zq1 ?_ | refine zq2 ?_ | refine zq3 ?_ | refine zq4 ?_ | refine zq5 ?_ | refine zq6 ?_ | refine zq7 ?_ | refine zq8 ?_ | refine zq9 ?_ | refine zqa ?_ | refine zqb ?_ | refine zqc ?_ | refine zqd ?_ | refine zqe ?_ | refine zqf ?_ | refine zqg ?_ | refine zqh ?_ | refine zqi ?_ | refine zqj ?_ | refine zqk ?_ | refine zql ?_ | refine zqm ?_ | refine zqn ?_ | refine zqo ?_ | refine zqp ?_)
    exact ⟨rfl, (), [.id 0, .id 1, .id 2, .id 3, .id 4, .id 5], by rw [this]; (refine ⟨by kernel_rfl, ?_, ?_⟩ <;> repeat first | exact okTms_nil | refine okTms_cons ?_ ?_ | exact okBlks_nil | refine okBlks_cons ?_ ?_ | exact lws_nil | refine lws_cons ?_ ?_ | exact lb_dead | exact zy1 | exact zy2 | exact lb_none | refine zy3 ?_ | exact zy4 | exact lw_any | exact lw_int | exact lw_bool | exact zy5 | exact zy6 | exact lw_nils | exact lw_slo_nils | exact zy7 | exact zy8 | exact zy9 | refine lw_tup ?_ | refine lw_agg ?_ | assumption)⟩
  | some i =>
    obtain ⟨hx, _⟩ := idxOf_lt hi
    have hit : i < t.tk.length := by simp at hx; omega
    have hv : idxI (ss.take t.tk.length) qs[t.at'].1 = (i : Int) := by rw [← getD_q h2, idxI, hi]
    have e3 : xar .add .i64 (t.at' : Int) 1 = ((t.at' + 1 : Nat) : Int) := inc_i64 h2 (by omega)
    have e' := (gch_some h1 h2 hi).symm.trans e
    rw [getD_l hit] at e'
    simp only [hv]
    simp only [wd_nat, wd_asV, wd_isV, wd_ix, wd_add, wd_mul, wd_ln, Nat.zero_add, Nat.mul_one, wd_isI, wd_asI, wd_isB, wd_asB, wd_nn, cI_tlen, cB_tlen, cII_tlen, decide_true, cond_true, wd_not_t, wd_not_f, wd_and_t, wd_and_f, Nat.add_assoc, Nat.reduceAdd, lk_0 hit, lk_1 hit, lk_2 hit, lk_n, e3]
    by_cases h3 : t.tk[i].1 = qs[t.at'].2
    · rw [gcmp, if_neg (by rw [getD_q h2]; simpa using h3)] at e'
      (with_reducible repeat first | refine zq1 ?_ | refine zq2 ?_ | refine zq3 ?_ | refine zq4 ?_ | refine zq5 ?_ | refine zq6 ?_ | refine zq7 ?_ | refine zq8 ?_ | refine zq9 ?_ | refine zqa ?_ | refine zqb ?_ | refine zqc ?_ | refine zqd ?_ | refine zqe ?_ | refine zqf ?_ | refine zqg ?_ | refine zqh ?_ | refine zqi ?_ | refine zqj ?_ | refine zqk ?_ | refine zql ?_ | refine zqm ?_ | refine zqn ?_ | refine zqo ?_ | refine zqp ?_)
      refine ⟨rfl, ⟨t.step, e', hl⟩, by simp only [h1, if_true]; omega, [.id 0, .id 1, .id 2, .id 3, .id 4, .id 5], by (refine ⟨by kernel_rfl, ?_, ?_⟩ <;> repeat first | exact okTms_nil | refine okTms_cons ?_ ?_ | exact okBlks_nil | refine okBlks_cons ?_ ?_ | exact lws_nil | refine lws_cons ?_ ?_ | exact lb_dead | exact zy1 | exact zy2 | exact lb_none | refine zy3 ?_ | exact zy4 | exact lw_any | exact lw_int | exact lw_bool | exact zy5 | exact zy6 | exact lw_nils | exact lw_slo_nils | exact zy7 | exact zy8 | exact zy9 | refine lw_tup ?_ | refine lw_agg ?_ | assumption)⟩
    · rw [gcmp, if_pos (by rw [getD_q h2]; simpa using h3)] at e'
      (with_reducible repeat first | refine zq1 ?_ | refine zq2 ?_ | refine zq3 ?_ | refine zq4 ?_ | refine zq5 ?_ | refine zq6 ?_ | refine zq7 ?_ | refine zq8 ?_ | refine zq9 ?_ | refine zqa ?_ | refine zqb ?_ | refine zqc ?_ | refine zqd ?_ | refine zqe ?_ | refine zqf ?_ | refine zqg ?_ | refine zqh ?_ | refine zqi ?_ | refine zqj ?_ | refine zqk ?_ | refine zql ?_ | refine zqm ?_ | refine zqn ?_ | refine zqo ?_ | refine zqp ?_)
      refine ⟨rfl, ⟨t.letGo 5 (-1) 0, e', hl⟩, by simp [h1], [.id 0, .id 1, .id 2, .id 3, .id 4, .id 5], by (refine ⟨by kernel_rfl, ?_, ?_⟩ <;> repeat first | exact okTms_nil | refine okTms_cons ?_ ?_ | exact okBlks_nil | refine okBlks_cons ?_ ?_ | exact lws_nil | refine lws_cons ?_ ?_ | exact lb_dead | exact zy1 | exact zy2 | exact lb_none | refine zy3 ?_ | exact zy4 | exact lw_any | exact lw_int | exact lw_bool | exact zy5 | exact zy6 | exact lw_nils | exact lw_slo_nils | exact zy7 | exact zy8 | exact zy9 | refine lw_tup ?_ | refine lw_agg ?_ | assumption)⟩
theorem go_ok (me stm : Int) (qs cs : List (Int × Int)) (ss : List Int) (s : CS) (hq : qs.length ≤ 1000000) (hs : ss.length ≤ 1000000) (ht : s.tk.length ≤ ss.length) :
    SFun Go.Proofs.Try.prog 38 [.ptr 0 0] (mkS (cES me stm qs cs ss s)) fun l t => l = .tup [] ∧ t = mkS (cES me stm qs cs ss (gGo qs cs.length ss s)) := by
  refine SFun.mono (SFun.pieces (Q := fun l b => l = .tup [] ∧ b = cES me stm qs cs ss (gGo qs cs.length ss s)) 175 6 goL [] (by kernel_rfl) rfl rfl rfl ?_) fun l s' ⟨b0, ⟨h1, h2⟩, h3⟩ => ⟨h1, by rw [h3, h2]⟩
  have nq := noids_c qs
  have nc := noids_c cs
  have nss := noIds_Ii64 ss
  refine SSp.to cxi_ok (n := 40) (g := []) 2 2 rfl (σ := Unit) (fun _ => goT) (fun _ => cES me stm qs cs ss (g1 ss.length s)) (mkS_le (Nat.le_refl _)) (by kernel_rfl) ?_ fun _ => ?_
  · have nt := noids_l s.tk
    rw [go_a]
    by_cases h1 : s.ph = 0 <;> by_cases h2 : s.at' = ss.length
    · have e : g1 ss.length s = s.enter 2 := if_pos ⟨h1, h2⟩
      (with_reducible repeat first | refine zq1 ?_ | refine zq2 ?_ | refine zq3 ?_ | refine zq4 ?_ | refine zq5 ?_ | refine zq6 ?_ | refine zq7 ?_ | refine zq8 ?_ | refine zq9 ?_ | refine zqa ?_ | refine zqb ?_ | refine zqc ?_ | refine zqd ?_ | refine zqe ?_ | refine zqf ?_ | refine zqg ?_ | refine zqh ?_ | refine zqi ?_ | refine zqj ?_ | refine zqk ?_ | refine zql ?_ | refine zqm ?_ | refine zqn ?_ | refine zqo ?_ | refine zqp ?_)
      exact ⟨rfl, (), [.id 0, .id 1, .id 2, .id 3, .id 4, .id 5], by rw [e]; (refine ⟨by kernel_rfl, ?_, ?_⟩ <;> repeat first | exact okTms_nil | refine okTms_cons ?_ ?_ | exact okBlks_nil | refine okBlks_cons ?_ ?_ | exact lws_nil | refine lws_cons ?_ ?_ | exact lb_dead | exact zy1 | exact zy2 | exact lb_none | refine zy3 ?_ | exact zy4 | exact lw_any | exact lw_int | exact lw_bool | exact zy5 | exact zy6 | exact lw_nils | exact lw_slo_nils | exact zy7 | exact zy8 | exact zy9 | refine lw_tup ?_ | refine lw_agg ?_ | assumption)⟩
    all_goals
      have e : g1 ss.length s = s := if_neg fun k => by first | exact h1 k.1 | exact h2 k.2
      (with_reducible repeat first | refine zq1 ?_ | refine zq2 ?_ | refine zq3 ?_ | refine zq4 ?_ | refine zq5 ?_ | refine zq6 ?_ | refine zq7 ?_ | refine zq8 ?_ | refine zq9 ?_ | refine zqa ?_ | refine zqb ?_ | refine zqc ?_ | refine zqd ?_ | refine zqe ?_ | refine zqf ?_ | refine zqg ?_ | refine zqh ?_ | refine zqi ?_ | refine zqj ?_ | refine zqk ?_ | refine zql ?_ | refine zqm ?_ | refine zqn ?_ | refine zqo ?_ | refine zqp ?_)
      exact ⟨rfl, (), [.id 0, .id 1, .id 2, .id 3, .id 4, .id 5], by rw [e]; (refine ⟨by kernel_rfl, ?_, ?_⟩ <;> repeat first | exact okTms_nil | refine okTms_cons ?_ ?_ | exact okBlks_nil | refine okBlks_cons ?_ ?_ | exact lws_nil | refine lws_cons ?_ ?_ | exact lb_dead | exact zy1 | exact zy2 | exact lb_none | refine zy3 ?_ | exact zy4 | exact lw_any | exact lw_int | exact lw_bool | exact zy5 | exact zy6 | exact lw_nils | exact lw_slo_nils | exact zy7 | exact zy8 | exact zy9 | refine lw_tup ?_ | refine lw_agg ?_ | assumption)⟩
  have ht1 : (g1 ss.length s).tk.length ≤ ss.length := by rw [g1_tk]; exact ht
  generalize hs1 : g1 ss.length s = s1 at ht1 ⊢
  refine SSp.code_to (g := []) 3 rfl (σ := Unit) (fun _ => goT) (fun _ => cES me stm qs cs ss (gch qs ss s1)) (by kernel_rfl) (go_loop me stm qs cs ss s1 hq hs ht1 _) fun _ => ?_
  generalize hs2 : gch qs ss s1 = s2
  refine SSp.to cxi_ok (n := 40) (g := []) 2 5 rfl (σ := Unit) (fun _ => goT) (fun _ => cES me stm qs cs ss (g3 qs.length s2)) (mkS_le (Nat.le_of_ble_eq_true rfl)) (by kernel_rfl) ?_ fun _ => ?_
  · have nt := noids_l s2.tk
    rw [go_c]
    by_cases h1 : s2.ph = 4 <;> by_cases h2 : s2.at' = qs.length
    · have e : g3 qs.length s2 = s2.sure := if_pos ⟨h1, h2⟩
      (with_reducible repeat first | refine zq1 ?_ | refine zq2 ?_ | refine zq3 ?_ | refine zq4 ?_ | refine zq5 ?_ | refine zq6 ?_ | refine zq7 ?_ | refine zq8 ?_ | refine zq9 ?_ | refine zqa ?_ | refine zqb ?_ | refine zqc ?_ | refine zqd ?_ | refine zqe ?_ | refine zqf ?_ | refine zqg ?_ | refine zqh ?_ | refine zqi ?_ | refine zqj ?_ | refine zqk ?_ | refine zql ?_ | refine zqm ?_ | refine zqn ?_ | refine zqo ?_ | refine zqp ?_)
      exact ⟨rfl, (), [.id 0, .id 1, .id 2, .id 3, .id 4, .id 5], by rw [e]; (refine ⟨by kernel_rfl, ?_, ?_⟩ <;> repeat first | exact okTms_nil | refine okTms_cons ?_ ?_ | exact okBlks_nil | refine okBlks_cons ?_ ?_ | exact lws_nil | refine lws_cons ?_ ?_ | exact lb_dead | exact zy1 | exact zy2 | exact lb_none | refine zy3 ?_ | exact zy4 | exact lw_any | exact lw_int | exact lw_bool | exact zy5 | exact zy6 | exact lw_nils | exact lw_slo_nils | exact zy7 | exact zy8 | exact zy9 | refine lw_tup ?_ | refine lw_agg ?_ | assumption)⟩
    all_goals
      have e : g3 qs.length s2 = s2 := if_neg fun k => by first | exact h1 k.1 | exact h2 k.2
      (with_reducible repeat first | refine zq1 ?_ | refine zq2 ?_ | refine zq3 ?_ | refine zq4 ?_ | refine zq5 ?_ | refine zq6 ?_ | refine zq7 ?_ | refine zq8 ?_ | refine zq9 ?_ | refine zqa ?_ | refine zqb ?_ | refine zqc ?_ | refine zqd ?_ | refine zqe ?_ | refine zqf ?_ | refine zqg ?_ | refine zqh ?_ | refine zqi ?_ | refine zqj ?_ | refine zqk ?_ | refine zql ?_ | refine zqm ?_ | refine zqn ?_ | refine zqo ?_ | refine zqp ?_)
      exact ⟨rfl, (), [.id 0, .id 1, .id 2, .id 3, .id 4, .id 5], by rw [e]; (refine ⟨by kernel_rfl, ?_, ?_⟩ <;> repeat first | exact okTms_nil | refine okTms_cons ?_ ?_ | exact okBlks_nil | refine okBlks_cons ?_ ?_ | exact lws_nil | refine lws_cons ?_ ?_ | exact lb_dead | exact zy1 | exact zy2 | exact lb_none | refine zy3 ?_ | exact zy4 | exact lw_any | exact lw_int | exact lw_bool | exact zy5 | exact zy6 | exact lw_nils | exact lw_slo_nils | exact zy7 | exact zy8 | exact zy9 | refine lw_tup ?_ | refine lw_agg ?_ | assumption)⟩
  generalize hs3 : g3 qs.length s2 = s3
  refine SSp.to cxi_ok (n := 40) (g := []) 2 7 rfl (σ := Unit) (fun _ => goT) (fun _ => cES me stm qs cs ss (g4 cs.length s3)) (mkS_le (Nat.le_of_ble_eq_true rfl)) (by kernel_rfl) ?_ fun _ => ?_
  · have nt := noids_l s3.tk
    rw [go_d]
    by_cases h1 : s3.ph = 5 <;> by_cases h2 : s3.at' = cs.length
    · have e : g4 cs.length s3 = s3.enter 6 := if_pos ⟨h1, h2⟩
      (with_reducible repeat first | refine zq1 ?_ | refine zq2 ?_ | refine zq3 ?_ | refine zq4 ?_ | refine zq5 ?_ | refine zq6 ?_ | refine zq7 ?_ | refine zq8 ?_ | refine zq9 ?_ | refine zqa ?_ | refine zqb ?_ | refine zqc ?_ | refine zqd ?_ | refine zqe ?_ | refine zqf ?_ | refine zqg ?_ | refine zqh ?_ | refine zqi ?_ | refine zqj ?_ | refine zqk ?_ | refine zql ?_ | refine zqm ?_ | refine zqn ?_ | refine zqo ?_ | refine zqp ?_)
      exact ⟨rfl, (), [.id 0, .id 1, .id 2, .id 3, .id 4, .id 5], by rw [e]; (refine ⟨by kernel_rfl, ?_, ?_⟩ <;> repeat first | exact okTms_nil | refine okTms_cons ?_ ?_ | exact okBlks_nil | refine okBlks_cons ?_ ?_ | exact lws_nil | refine lws_cons ?_ ?_ | exact lb_dead | exact zy1 | exact zy2 | exact lb_none | refine zy3 ?_ | exact zy4 | exact lw_any | exact lw_int | exact lw_bool | exact zy5 | exact zy6 | exact lw_nils | exact lw_slo_nils | exact zy7 | exact zy8 | exact zy9 | refine lw_tup ?_ | refine lw_agg ?_ | assumption)⟩
    all_goals
      have e : g4 cs.length s3 = s3 := if_neg fun k => by first | exact h1 k.1 | exact h2 k.2
      (with_reducible repeat first | refine zq1 ?_ | refine zq2 ?_ | refine zq3 ?_ | refine zq4 ?_ | refine zq5 ?_ | refine zq6 ?_ | refine zq7 ?_ | refine zq8 ?_ | refine zq9 ?_ | refine zqa ?_ | refine zqb ?_ | refine zqc ?_ | refine zqd ?_ | refine zqe ?_ | refine zqf ?_ | refine zqg ?_ | refine zqh ?_ | refine zqi ?_ | refine zqj ?_ | refine zqk ?_ | refine zql ?_ | refine zqm ?_ | refine zqn ?_ | refine zqo ?_ | refine zqp ?_)
      exact ⟨rfl, (), [.id 0, .id 1, .id 2, .id 3, .id 4, .id 5], by rw [e]; (refine ⟨by kernel_rfl, ?_, ?_⟩ <;> repeat first | exact okTms_nil | refine okTms_cons ?_ ?_ | exact okBlks_nil | refine okBlks_cons ?_ ?_ | exact lws_nil | refine lws_cons ?_ ?_ | exact lb_dead | exact zy1 | exact zy2 | exact lb_none | refine zy3 ?_ | exact zy4 | exact lw_any | exact lw_int | exact lw_bool | exact zy5 | exact zy6 | exact lw_nils | exact lw_slo_nils | exact zy7 | exact zy8 | exact zy9 | refine lw_tup ?_ | refine lw_agg ?_ | assumption)⟩
  generalize hs4 : g4 cs.length s3 = s4
  refine SSp.to cxi_ok (n := 40) (g := []) 2 9 rfl (σ := Unit) (fun _ => goT) (fun _ => cES me stm qs cs ss (g5 s4)) (mkS_le (Nat.le_of_ble_eq_true rfl)) (by kernel_rfl) ?_ fun _ => ?_
  · have nt := noids_l s4.tk
    rw [go_e]
    by_cases h1 : s4.ph = 6 <;> by_cases h2 : s4.at' = s4.tk.length
    · have e : g5 s4 = s4.stop 2 0 (-1) := if_pos ⟨h1, h2⟩
      (with_reducible repeat first | refine zq1 ?_ | refine zq2 ?_ | refine zq3 ?_ | refine zq4 ?_ | refine zq5 ?_ | refine zq6 ?_ | refine zq7 ?_ | refine zq8 ?_ | refine zq9 ?_ | refine zqa ?_ | refine zqb ?_ | refine zqc ?_ | refine zqd ?_ | refine zqe ?_ | refine zqf ?_ | refine zqg ?_ | refine zqh ?_ | refine zqi ?_ | refine zqj ?_ | refine zqk ?_ | refine zql ?_ | refine zqm ?_ | refine zqn ?_ | refine zqo ?_ | refine zqp ?_)
      exact ⟨rfl, (), [.id 0, .id 1, .id 2, .id 3, .id 4, .id 5], by rw [e]; (refine ⟨by kernel_rfl, ?_, ?_⟩ <;> repeat first | exact okTms_nil | refine okTms_cons ?_ ?_ | exact okBlks_nil | refine okBlks_cons ?_ ?_ | exact lws_nil | refine lws_cons ?_ ?_ | exact lb_dead | exact zy1 | exact zy2 | exact lb_none | refine zy3 ?_ | exact zy4 | exact lw_any | exact lw_int | exact lw_bool | exact zy5 | exact zy6 | exact lw_nils | exact lw_slo_nils | exact zy7 | exact zy8 | exact zy9 | refine lw_tup ?_ | refine lw_agg ?_ | assumption)⟩
    all_goals
      have e : g5 s4 = s4 := if_neg fun k => by first | exact h1 k.1 | exact h2 k.2
      (with_reducible repeat first | refine zq1 ?_ | refine zq2 ?_ | refine zq3 ?_ | refine zq4 ?_ | refine zq5 ?_ | refine zq6 ?_ | refine zq7 ?_ | refine zq8 ?_ | refine zq9 ?_ | refine zqa ?_ | refine zqb ?_ | refine zqc ?_ | refine zqd ?_ | refine zqe ?_ | refine zqf ?_ | refine zqg ?_ | refine zqh ?_ | refine zqi ?_ | refine zqj ?_ | refine zqk ?_ | refine zql ?_ | refine zqm ?_ | refine zqn ?_ | refine zqo ?_ | refine zqp ?_)
      exact ⟨rfl, (), [.id 0, .id 1, .id 2, .id 3, .id 4, .id 5], by rw [e]; (refine ⟨by kernel_rfl, ?_, ?_⟩ <;> repeat first | exact okTms_nil | refine okTms_cons ?_ ?_ | exact okBlks_nil | refine okBlks_cons ?_ ?_ | exact lws_nil | refine lws_cons ?_ ?_ | exact lb_dead | exact zy1 | exact zy2 | exact lb_none | refine zy3 ?_ | exact zy4 | exact lw_any | exact lw_int | exact lw_bool | exact zy5 | exact zy6 | exact lw_nils | exact lw_slo_nils | exact zy7 | exact zy8 | exact zy9 | refine lw_tup ?_ | refine lw_agg ?_ | assumption)⟩
  generalize hs5 : g5 s4 = s5
  have hgo : gGo qs cs.length ss s = g6 s5 := by rw [gGo, hs1, hs2, hs3, hs4, hs5]
  refine SSp.last cxi_ok (n := 40) (mkS_le (Nat.le_of_ble_eq_true rfl)) ?_
  rw [hgo]
  have nt := noids_l s5.tk
  rw [go_f]
  by_cases h1 : s5.ph = 7 <;> by_cases h2 : s5.at' = s5.tk.length
  · have e : g6 s5 = s5.stop s5.ve s5.vr s5.vb := if_pos ⟨h1, h2⟩
    (with_reducible repeat first | refine zq1 ?_ | refine zq2 ?_ | refine zq3 ?_ | refine zq4 ?_ | refine zq5 ?_ | refine zq6 ?_ | refine zq7 ?_ | refine zq8 ?_ | refine zq9 ?_ | refine zqa ?_ | refine zqb ?_ | refine zqc ?_ | refine zqd ?_ | refine zqe ?_ | refine zqf ?_ | refine zqg ?_ | refine zqh ?_ | refine zqi ?_ | refine zqj ?_ | refine zqk ?_ | refine zql ?_ | refine zqm ?_ | refine zqn ?_ | refine zqo ?_ | refine zqp ?_)
    exact ⟨trivial, rfl, _, _, [.id 0, .id 1, .id 2, .id 3, .id 4, .id 5], ⟨rfl, rfl⟩, by rw [e]; (refine ⟨by kernel_rfl, ?_, ?_⟩ <;> repeat first | exact okTms_nil | refine okTms_cons ?_ ?_ | exact okBlks_nil | refine okBlks_cons ?_ ?_ | exact lws_nil | refine lws_cons ?_ ?_ | exact lb_dead | exact zy1 | exact zy2 | exact lb_none | refine zy3 ?_ | exact zy4 | exact lw_any | exact lw_int | exact lw_bool | exact zy5 | exact zy6 | exact lw_nils | exact lw_slo_nils | exact zy7 | exact zy8 | exact zy9 | refine lw_tup ?_ | refine lw_agg ?_ | assumption)⟩
  all_goals
    have e : g6 s5 = s5 := if_neg fun k => by first | exact h1 k.1 | exact h2 k.2
    (with_reducible repeat first | refine zq1 ?_ | refine zq2 ?_ | refine zq3 ?_ | refine zq4 ?_ | refine zq5 ?_ | refine zq6 ?_ | refine zq7 ?_ | refine zq8 ?_ | refine zq9 ?_ | refine zqa ?_ | refine zqb ?_ | refine zqc ?_ | refine zqd ?_ | refine zqe ?_ | refine zqf ?_ | refine zqg ?_ | refine zqh ?_ | refine zqi ?_ | refine zqj ?_ | refine zqk ?_ | refine zql ?_ | refine zqm ?_ | refine zqn ?_ | refine zqo ?_ | refine zqp ?_)
    exact ⟨trivial, rfl, _, _, [.id 0, .id 1, .id 2, .id 3, .id 4, .id 5], ⟨rfl, rfl⟩, by rw [e]; (refine ⟨by kernel_rfl, ?_, ?_⟩ <;> repeat first | exact okTms_nil | refine okTms_cons ?_ ?_ | exact okBlks_nil | refine okBlks_cons ?_ ?_ | exact lws_nil | refine lws_cons ?_ ?_ | exact lb_dead | exact zy1 | exact zy2 | exact lb_none | refine zy3 ?_ | exact zy4 | exact lw_any | exact lw_int | exact lw_bool | exact zy5 | exact zy6 | exact lw_nils | exact lw_slo_nils | exact zy7 | exact zy8 | exact zy9 | refine lw_tup ?_ | refine lw_agg ?_ | assumption)⟩
end
end Go.Lev
