/- chapter 25: NewCommit; the shape of a case: what they do -/
import Derived.Test.YtooajpakpmnehaaCW37
import Derived.Test.YtooajpakpmnehaaLc
import Derived.Test.YtooajpakpmnehaaChecked
import Derived.KernelRfl

import Derived.Test.YtooajpakpmnehaaLc
namespace Go.Lev
open Go.RowKit
set_option linter.unusedVariables false
set_option linter.unusedSimpArgs false
set_option maxRecDepth 100000
noncomputable section
theorem cxnr_ok : CtrOk Go.Proofs.Try.prog (ctrOf cxnr) := cxl_ok ⟨rstG_ok, trivial⟩
set_option maxHeartbeats 1000000 in
theorem newr_ok (me su stm : Int) (qs cs : List (Int × Int)) (hq : qs.length ≤ 1000000) (hc : cs.length ≤ 1000000) (n w : Int) : SFun Go.Proofs.Try.prog 19 [.int .i64 me, .int .i64 su, .int .u64 stm, .slo 0 0 qs.length 0, .slo 1 0 cs.length 0, .int .i64 n, .int .i64 w] (mkS [.cells (encL cell qs) (some 2), .cells (encL cell cs) (some 2)])
    fun l s => l = .ptr 2 0 ∧ s = mkS (nrF me stm (spW su) (phW (strL cs n w).length) qs.length cs.length (strL cs n w).length (encL cell qs) (encL cell cs) (encL (cI .i64) (strL cs n w))) := by
  refine SFun.mono (SFun.pieces (Q := fun l b => l = .ptr 2 0 ∧ b = nrF me stm (spW su) (phW (strL cs n w).length) qs.length cs.length (strL cs n w).length (encL cell qs) (encL cell cs) (encL (cI .i64) (strL cs n w))) 46 2 nrL [14] (by kernel_rfl) rfl rfl rfl ?_) fun l s' ⟨b0, ⟨h1, h2⟩, h3⟩ => ⟨h1, by rw [h3, h2]⟩
  have nx := noids_c cs
  have nq := noids_c qs
  have lx := cell_n cs
  have lq := cell_n qs
  have ok : okC (encL cell cs) cs.length = true := okC_enc (by omega)
  have hl := strL_len cs n w
  have nss := noIds_Ii64 (strL cs n w)
  have e1 : stC cs.length (encL cell cs) n w = encL (cI .i64) (strL cs n w) := rfl
  have e2 : stN cs.length (encL cell cs) n w = (strL cs n w).length := rfl
  have c1 : xcut (encL cell cs) 0 (cs.length * 2) = encL cell cs := xcut_all (by omega)
  have c2 : xcut (encL cell qs) 0 (qs.length * 2) = encL cell qs := xcut_all (by omega)
  refine SSp.to cxnr_ok (n := 40) (g := []) 2 2 rfl (σ := Unit) (fun _ => nrT n w) (fun _ => nrH me stm (spW su) qs.length cs.length (encL cell qs) (encL cell cs)) (mkS_le (Nat.le_refl _)) (by kernel_rfl) ?_ fun _ => ?_
  · rw [nr_a]
    have zq : qs.length = 0 → encL cell qs = [] := fun h => by rw [List.length_eq_zero_iff.1 h]; rfl
    have zc : cs.length = 0 → encL cell cs = [] := fun h => by rw [List.length_eq_zero_iff.1 h]; rfl
    have fin : ∀ u, u = spW su → spW su = u := fun u h => h.symm
    simp only [lq, lx, wd_mul, wd_ln, wd_add, Nat.zero_add, c1, c2]
    refine ways (fun q => ?_) (fun q => ?_)
    · have eq := spin0 q
      by_cases z1 : qs.length = 0 <;> by_cases z2 : cs.length = 0
      · have r1 := zq z1; have r2 := zc z2
        (with_reducible repeat first | refine zq1 ?_ | refine zq2 ?_ | refine zq3 ?_ | refine zq4 ?_ | refine zq5 ?_ | refine zq6 ?_ | refine zq7 ?_ | refine zq8 ?_ | refine zq9 ?_ | refine zqa ?_ | refine zqb ?_ | refine zqc ?_ | refine zqd ?_ | refine zqe ?_ | refine zqf ?_ | refine zqg ?_ | refine zqh ?_ | refine zqi ?_ | refine zqj ?_ | refine zqk ?_ | refine zql ?_ | refine zqm ?_ | refine zqn ?_ | refine zqo ?_ | refine zqp ?_)
        exact ⟨rfl, (), [.id 0, .id 1, .id 3, .none, .none], by rw [eq, z1, z2, r1, r2]; (refine ⟨by kernel_rfl, ?_, ?_⟩ <;> repeat first | exact okTms_nil | refine okTms_cons ?_ ?_ | exact okBlks_nil | refine okBlks_cons ?_ ?_ | exact lws_nil | refine lws_cons ?_ ?_ | exact lb_dead | exact zy1 | exact zy2 | exact lb_none | refine zy3 ?_ | exact zy4 | exact lw_any | exact lw_int | exact lw_bool | exact zy5 | exact zy6 | exact lw_nils | exact lw_slo_nils | exact zy7 | exact zy8 | exact zy9 | refine lw_tup ?_ | refine lw_agg ?_ | assumption)⟩
      · have r1 := zq z1
        (with_reducible repeat first | refine zq1 ?_ | refine zq2 ?_ | refine zq3 ?_ | refine zq4 ?_ | refine zq5 ?_ | refine zq6 ?_ | refine zq7 ?_ | refine zq8 ?_ | refine zq9 ?_ | refine zqa ?_ | refine zqb ?_ | refine zqc ?_ | refine zqd ?_ | refine zqe ?_ | refine zqf ?_ | refine zqg ?_ | refine zqh ?_ | refine zqi ?_ | refine zqj ?_ | refine zqk ?_ | refine zql ?_ | refine zqm ?_ | refine zqn ?_ | refine zqo ?_ | refine zqp ?_)
        exact ⟨rfl, (), [.id 0, .id 1, .id 4, .none, .id 3], by rw [eq, z1, r1]; (refine ⟨by kernel_rfl, ?_, ?_⟩ <;> repeat first | exact okTms_nil | refine okTms_cons ?_ ?_ | exact okBlks_nil | refine okBlks_cons ?_ ?_ | exact lws_nil | refine lws_cons ?_ ?_ | exact lb_dead | exact zy1 | exact zy2 | exact lb_none | refine zy3 ?_ | exact zy4 | exact lw_any | exact lw_int | exact lw_bool | exact zy5 | exact zy6 | exact lw_nils | exact lw_slo_nils | exact zy7 | exact zy8 | exact zy9 | refine lw_tup ?_ | refine lw_agg ?_ | assumption)⟩
      · have r2 := zc z2
        (with_reducible repeat first | refine zq1 ?_ | refine zq2 ?_ | refine zq3 ?_ | refine zq4 ?_ | refine zq5 ?_ | refine zq6 ?_ | refine zq7 ?_ | refine zq8 ?_ | refine zq9 ?_ | refine zqa ?_ | refine zqb ?_ | refine zqc ?_ | refine zqd ?_ | refine zqe ?_ | refine zqf ?_ | refine zqg ?_ | refine zqh ?_ | refine zqi ?_ | refine zqj ?_ | refine zqk ?_ | refine zql ?_ | refine zqm ?_ | refine zqn ?_ | refine zqo ?_ | refine zqp ?_)
        exact ⟨rfl, (), [.id 0, .id 1, .id 4, .id 3, .none], by rw [eq, z2, r2]; (refine ⟨by kernel_rfl, ?_, ?_⟩ <;> repeat first | exact okTms_nil | refine okTms_cons ?_ ?_ | exact okBlks_nil | refine okBlks_cons ?_ ?_ | exact lws_nil | refine lws_cons ?_ ?_ | exact lb_dead | exact zy1 | exact zy2 | exact lb_none | refine zy3 ?_ | exact zy4 | exact lw_any | exact lw_int | exact lw_bool | exact zy5 | exact zy6 | exact lw_nils | exact lw_slo_nils | exact zy7 | exact zy8 | exact zy9 | refine lw_tup ?_ | refine lw_agg ?_ | assumption)⟩
      · (with_reducible repeat first | refine zq1 ?_ | refine zq2 ?_ | refine zq3 ?_ | refine zq4 ?_ | refine zq5 ?_ | refine zq6 ?_ | refine zq7 ?_ | refine zq8 ?_ | refine zq9 ?_ | refine zqa ?_ | refine zqb ?_ | refine zqc ?_ | refine zqd ?_ | refine zqe ?_ | refine zqf ?_ | refine zqg ?_ | refine zqh ?_ | refine zqi ?_ | refine zqj ?_ | refine zqk ?_ | refine zql ?_ | refine zqm ?_ | refine zqn ?_ | refine zqo ?_ | refine zqp ?_)
        exact ⟨rfl, (), [.id 0, .id 1, .id 5, .id 3, .id 4], by rw [eq]; (refine ⟨by kernel_rfl, ?_, ?_⟩ <;> repeat first | exact okTms_nil | refine okTms_cons ?_ ?_ | exact okBlks_nil | refine okBlks_cons ?_ ?_ | exact lws_nil | refine lws_cons ?_ ?_ | exact lb_dead | exact zy1 | exact zy2 | exact lb_none | refine zy3 ?_ | exact zy4 | exact lw_any | exact lw_int | exact lw_bool | exact zy5 | exact zy6 | exact lw_nils | exact lw_slo_nils | exact zy7 | exact zy8 | exact zy9 | refine lw_tup ?_ | refine lw_agg ?_ | assumption)⟩
    refine ways (fun q' => ?_) (fun q' => ?_)
    · have eq := spin4 q'
      by_cases z1 : qs.length = 0 <;> by_cases z2 : cs.length = 0
      · have r1 := zq z1; have r2 := zc z2
        (with_reducible repeat first | refine zq1 ?_ | refine zq2 ?_ | refine zq3 ?_ | refine zq4 ?_ | refine zq5 ?_ | refine zq6 ?_ | refine zq7 ?_ | refine zq8 ?_ | refine zq9 ?_ | refine zqa ?_ | refine zqb ?_ | refine zqc ?_ | refine zqd ?_ | refine zqe ?_ | refine zqf ?_ | refine zqg ?_ | refine zqh ?_ | refine zqi ?_ | refine zqj ?_ | refine zqk ?_ | refine zql ?_ | refine zqm ?_ | refine zqn ?_ | refine zqo ?_ | refine zqp ?_)
        exact ⟨rfl, (), [.id 0, .id 1, .id 3, .none, .none], by rw [eq, z1, z2, r1, r2]; (refine ⟨by kernel_rfl, ?_, ?_⟩ <;> repeat first | exact okTms_nil | refine okTms_cons ?_ ?_ | exact okBlks_nil | refine okBlks_cons ?_ ?_ | exact lws_nil | refine lws_cons ?_ ?_ | exact lb_dead | exact zy1 | exact zy2 | exact lb_none | refine zy3 ?_ | exact zy4 | exact lw_any | exact lw_int | exact lw_bool | exact zy5 | exact zy6 | exact lw_nils | exact lw_slo_nils | exact zy7 | exact zy8 | exact zy9 | refine lw_tup ?_ | refine lw_agg ?_ | assumption)⟩
      · have r1 := zq z1
        (with_reducible repeat first | refine zq1 ?_ | refine zq2 ?_ | refine zq3 ?_ | refine zq4 ?_ | refine zq5 ?_ | refine zq6 ?_ | refine zq7 ?_ | refine zq8 ?_ | refine zq9 ?_ | refine zqa ?_ | refine zqb ?_ | refine zqc ?_ | refine zqd ?_ | refine zqe ?_ | refine zqf ?_ | refine zqg ?_ | refine zqh ?_ | refine zqi ?_ | refine zqj ?_ | refine zqk ?_ | refine zql ?_ | refine zqm ?_ | refine zqn ?_ | refine zqo ?_ | refine zqp ?_)
        exact ⟨rfl, (), [.id 0, .id 1, .id 4, .none, .id 3], by rw [eq, z1, r1]; (refine ⟨by kernel_rfl, ?_, ?_⟩ <;> repeat first | exact okTms_nil | refine okTms_cons ?_ ?_ | exact okBlks_nil | refine okBlks_cons ?_ ?_ | exact lws_nil | refine lws_cons ?_ ?_ | exact lb_dead | exact zy1 | exact zy2 | exact lb_none | refine zy3 ?_ | exact zy4 | exact lw_any | exact lw_int | exact lw_bool | exact zy5 | exact zy6 | exact lw_nils | exact lw_slo_nils | exact zy7 | exact zy8 | exact zy9 | refine lw_tup ?_ | refine lw_agg ?_ | assumption)⟩
      · have r2 := zc z2
        (with_reducible repeat first | refine zq1 ?_ | refine zq2 ?_ | refine zq3 ?_ | refine zq4 ?_ | refine zq5 ?_ | refine zq6 ?_ | refine zq7 ?_ | refine zq8 ?_ | refine zq9 ?_ | refine zqa ?_ | refine zqb ?_ | refine zqc ?_ | refine zqd ?_ | refine zqe ?_ | refine zqf ?_ | refine zqg ?_ | refine zqh ?_ | refine zqi ?_ | refine zqj ?_ | refine zqk ?_ | refine zql ?_ | refine zqm ?_ | refine zqn ?_ | refine zqo ?_ | refine zqp ?_)
        exact ⟨rfl, (), [.id 0, .id 1, .id 4, .id 3, .none], by rw [eq, z2, r2]; (refine ⟨by kernel_rfl, ?_, ?_⟩ <;> repeat first | exact okTms_nil | refine okTms_cons ?_ ?_ | exact okBlks_nil | refine okBlks_cons ?_ ?_ | exact lws_nil | refine lws_cons ?_ ?_ | exact lb_dead | exact zy1 | exact zy2 | exact lb_none | refine zy3 ?_ | exact zy4 | exact lw_any | exact lw_int | exact lw_bool | exact zy5 | exact zy6 | exact lw_nils | exact lw_slo_nils | exact zy7 | exact zy8 | exact zy9 | refine lw_tup ?_ | refine lw_agg ?_ | assumption)⟩
      · (with_reducible repeat first | refine zq1 ?_ | refine zq2 ?_ | refine zq3 ?_ | refine zq4 ?_ | refine zq5 ?_ | refine zq6 ?_ | refine zq7 ?_ | refine zq8 ?_ | refine zq9 ?_ | refine zqa ?_ | refine zqb ?_ | refine zqc ?_ | refine zqd ?_ | refine zqe ?_ | refine zqf ?_ | refine zqg ?_ | refine zqh ?_ | refine zqi ?_ | refine zqj ?_ | refine zqk ?_ | refine zql ?_ | refine zqm ?_ | refine zqn ?_ | refine zqo ?_ | refine zqp ?_)
        exact ⟨rfl, (), [.id 0, .id 1, .id 5, .id 3, .id 4], by rw [eq]; (refine ⟨by kernel_rfl, ?_, ?_⟩ <;> repeat first | exact okTms_nil | refine okTms_cons ?_ ?_ | exact okBlks_nil | refine okBlks_cons ?_ ?_ | exact lws_nil | refine lws_cons ?_ ?_ | exact lb_dead | exact zy1 | exact zy2 | exact lb_none | refine zy3 ?_ | exact zy4 | exact lw_any | exact lw_int | exact lw_bool | exact zy5 | exact zy6 | exact lw_nils | exact lw_slo_nils | exact zy7 | exact zy8 | exact zy9 | refine lw_tup ?_ | refine lw_agg ?_ | assumption)⟩
    · have eq := spinS q q'
      by_cases z1 : qs.length = 0 <;> by_cases z2 : cs.length = 0
      · have r1 := zq z1; have r2 := zc z2
        (with_reducible repeat first | refine zq1 ?_ | refine zq2 ?_ | refine zq3 ?_ | refine zq4 ?_ | refine zq5 ?_ | refine zq6 ?_ | refine zq7 ?_ | refine zq8 ?_ | refine zq9 ?_ | refine zqa ?_ | refine zqb ?_ | refine zqc ?_ | refine zqd ?_ | refine zqe ?_ | refine zqf ?_ | refine zqg ?_ | refine zqh ?_ | refine zqi ?_ | refine zqj ?_ | refine zqk ?_ | refine zql ?_ | refine zqm ?_ | refine zqn ?_ | refine zqo ?_ | refine zqp ?_)
        exact ⟨rfl, (), [.id 0, .id 1, .id 3, .none, .none], by rw [eq, z1, z2, r1, r2]; (refine ⟨by kernel_rfl, ?_, ?_⟩ <;> repeat first | exact okTms_nil | refine okTms_cons ?_ ?_ | exact okBlks_nil | refine okBlks_cons ?_ ?_ | exact lws_nil | refine lws_cons ?_ ?_ | exact lb_dead | exact zy1 | exact zy2 | exact lb_none | refine zy3 ?_ | exact zy4 | exact lw_any | exact lw_int | exact lw_bool | exact zy5 | exact zy6 | exact lw_nils | exact lw_slo_nils | exact zy7 | exact zy8 | exact zy9 | refine lw_tup ?_ | refine lw_agg ?_ | assumption)⟩
      · have r1 := zq z1
        (with_reducible repeat first | refine zq1 ?_ | refine zq2 ?_ | refine zq3 ?_ | refine zq4 ?_ | refine zq5 ?_ | refine zq6 ?_ | refine zq7 ?_ | refine zq8 ?_ | refine zq9 ?_ | refine zqa ?_ | refine zqb ?_ | refine zqc ?_ | refine zqd ?_ | refine zqe ?_ | refine zqf ?_ | refine zqg ?_ | refine zqh ?_ | refine zqi ?_ | refine zqj ?_ | refine zqk ?_ | refine zql ?_ | refine zqm ?_ | refine zqn ?_ | refine zqo ?_ | refine zqp ?_)
        exact ⟨rfl, (), [.id 0, .id 1, .id 4, .none, .id 3], by rw [eq, z1, r1]; (refine ⟨by kernel_rfl, ?_, ?_⟩ <;> repeat first | exact okTms_nil | refine okTms_cons ?_ ?_ | exact okBlks_nil | refine okBlks_cons ?_ ?_ | exact lws_nil | refine lws_cons ?_ ?_ | exact lb_dead | exact zy1 | exact zy2 | exact lb_none | refine zy3 ?_ | exact zy4 | exact lw_any | exact lw_int | exact lw_bool | exact zy5 | exact zy6 | exact lw_nils | exact lw_slo_nils | exact zy7 | exact zy8 | exact zy9 | refine lw_tup ?_ | refine lw_agg ?_ | assumption)⟩
      · have r2 := zc z2
        (with_reducible repeat first | refine zq1 ?_ | refine zq2 ?_ | refine zq3 ?_ | refine zq4 ?_ | refine zq5 ?_ | refine zq6 ?_ | refine zq7 ?_ | refine zq8 ?_ | refine zq9 ?_ | refine zqa ?_ | refine zqb ?_ | refine zqc ?_ | refine zqd ?_ | refine zqe ?_ | refine zqf ?_ | refine zqg ?_ | refine zqh ?_ | refine zqi ?_ | refine zqj ?_ | refine zqk ?_ | refine zql ?_ | refine zqm ?_ | refine zqn ?_ | refine zqo ?_ | refine zqp ?_)
        exact ⟨rfl, (), [.id 0, .id 1, .id 4, .id 3, .none], by rw [eq, z2, r2]; (refine ⟨by kernel_rfl, ?_, ?_⟩ <;> repeat first | exact okTms_nil | refine okTms_cons ?_ ?_ | exact okBlks_nil | refine okBlks_cons ?_ ?_ | exact lws_nil | refine lws_cons ?_ ?_ | exact lb_dead | exact zy1 | exact zy2 | exact lb_none | refine zy3 ?_ | exact zy4 | exact lw_any | exact lw_int | exact lw_bool | exact zy5 | exact zy6 | exact lw_nils | exact lw_slo_nils | exact zy7 | exact zy8 | exact zy9 | refine lw_tup ?_ | refine lw_agg ?_ | assumption)⟩
      · (with_reducible repeat first | refine zq1 ?_ | refine zq2 ?_ | refine zq3 ?_ | refine zq4 ?_ | refine zq5 ?_ | refine zq6 ?_ | refine zq7 ?_ | refine zq8 ?_ | refine zq9 ?_ | refine zqa ?_ | refine zqb ?_ | refine zqc ?_ | refine zqd ?_ | refine zqe ?_ | refine zqf ?_ | refine zqg ?_ | refine zqh ?_ | refine zqi ?_ | refine zqj ?_ | refine zqk ?_ | refine zql ?_ | refine zqm ?_ | refine zqn ?_ | refine zqo ?_ | refine zqp ?_)
        exact ⟨rfl, (), [.id 0, .id 1, .id 5, .id 3, .id 4], by rw [eq]; (refine ⟨by kernel_rfl, ?_, ?_⟩ <;> repeat first | exact okTms_nil | refine okTms_cons ?_ ?_ | exact okBlks_nil | refine okBlks_cons ?_ ?_ | exact lws_nil | refine lws_cons ?_ ?_ | exact lb_dead | exact zy1 | exact zy2 | exact lb_none | refine zy3 ?_ | exact zy4 | exact lw_any | exact lw_int | exact lw_bool | exact zy5 | exact zy6 | exact lw_nils | exact lw_slo_nils | exact zy7 | exact zy8 | exact zy9 | refine lw_tup ?_ | refine lw_agg ?_ | assumption)⟩
  refine SSp.last cxnr_ok (n := 40) (mkS_le (Nat.le_of_ble_eq_true rfl)) ?_
  rw [nr_z]
  simp only [ok, e1, e2, cond_true]
  by_cases h : (strL cs n w).length = 0
  · have e3 : phW (strL cs n w).length = 2 := if_pos h
    (with_reducible repeat first | refine zq1 ?_ | refine zq2 ?_ | refine zq3 ?_ | refine zq4 ?_ | refine zq5 ?_ | refine zq6 ?_ | refine zq7 ?_ | refine zq8 ?_ | refine zq9 ?_ | refine zqa ?_ | refine zqb ?_ | refine zqc ?_ | refine zqd ?_ | refine zqe ?_ | refine zqf ?_ | refine zqg ?_ | refine zqh ?_ | refine zqi ?_ | refine zqj ?_ | refine zqk ?_ | refine zql ?_ | refine zqm ?_ | refine zqn ?_ | refine zqo ?_ | refine zqp ?_)
    exact ⟨trivial, rfl, _, _, [.id 0, .id 1, .id 2, .id 3, .id 4, .id 5, .none], ⟨rfl, rfl⟩, by rw [e3]; (refine ⟨by kernel_rfl, ?_, ?_⟩ <;> repeat first | exact okTms_nil | refine okTms_cons ?_ ?_ | exact okBlks_nil | refine okBlks_cons ?_ ?_ | exact lws_nil | refine lws_cons ?_ ?_ | exact lb_dead | exact zy1 | exact zy2 | exact lb_none | refine zy3 ?_ | exact zy4 | exact lw_any | exact lw_int | exact lw_bool | exact zy5 | exact zy6 | exact lw_nils | exact lw_slo_nils | exact zy7 | exact zy8 | exact zy9 | refine lw_tup ?_ | refine lw_agg ?_ | assumption)⟩
  · have e3 : phW (strL cs n w).length = 0 := if_neg h
    (with_reducible repeat first | refine zq1 ?_ | refine zq2 ?_ | refine zq3 ?_ | refine zq4 ?_ | refine zq5 ?_ | refine zq6 ?_ | refine zq7 ?_ | refine zq8 ?_ | refine zq9 ?_ | refine zqa ?_ | refine zqb ?_ | refine zqc ?_ | refine zqd ?_ | refine zqe ?_ | refine zqf ?_ | refine zqg ?_ | refine zqh ?_ | refine zqi ?_ | refine zqj ?_ | refine zqk ?_ | refine zql ?_ | refine zqm ?_ | refine zqn ?_ | refine zqo ?_ | refine zqp ?_)
    exact ⟨trivial, rfl, _, _, [.id 0, .id 1, .id 2, .id 3, .id 4, .id 5, .none], ⟨rfl, rfl⟩, by rw [e3]; (refine ⟨by kernel_rfl, ?_, ?_⟩ <;> repeat first | exact okTms_nil | refine okTms_cons ?_ ?_ | exact okBlks_nil | refine okBlks_cons ?_ ?_ | exact lws_nil | refine lws_cons ?_ ?_ | exact lb_dead | exact zy1 | exact zy2 | exact lb_none | refine zy3 ?_ | exact zy4 | exact lw_any | exact lw_int | exact lw_bool | exact zy5 | exact zy6 | exact lw_nils | exact lw_slo_nils | exact zy7 | exact zy8 | exact zy9 | refine lw_tup ?_ | refine lw_agg ?_ | assumption)⟩
theorem newr_c (me su stm : Int) (nq nc : Nat) (qc cc : List LV) (n w : Int) (k1 : okC cc nc = true) (k2 : xle nc 1000000 = true) (k3 : okC qc nq = true) (k4 : xle nq 1000000 = true) : SFun Go.Proofs.Try.prog 19 [.int .i64 me, .int .i64 su, .int .u64 stm, .slo 0 0 nq 0, .slo 1 0 nc 0, .int .i64 n, .int .i64 w] (mkS [.cells qc (some 2), .cells cc (some 2)])
    fun l s => l = .ptr 2 0 ∧ s = mkS (nrF me stm (xmn (xmx su 0) 4) (phW (stN nc cc n w)) nq nc (stN nc cc n w) qc cc (stC nc cc n w)) := by
  obtain ⟨cs, rfl, rfl, _⟩ := okC_iff.1 k1
  obtain ⟨qs, rfl, rfl, _⟩ := okC_iff.1 k3
  rw [wd_le, decide_eq_true_eq] at k2 k4
  exact newr_ok me su stm qs cs k4 k2 n w
def newR : Gc := fun args s => match args, s.g with
  | [.int .i64 me, .int .i64 su, .int .u64 stm, .slo q 0 nq 0, .slo c 0 nc 0, .int .i64 n, .int .i64 w], [] => (match s.h.get q with
    | some (.cells qc (some 2)) => (match s.h.get c with
      | some (.cells cc (some 2)) => cond (nodupB [q, c]) (match s.lay [q, c] [.cells qc (some 2), .cells cc (some 2)] [.cells [.int .i64 me, .int .i64 (xmn (xmx su 0) 4), .int .i64 0, .int .i64 0, .int .i64 (-1), .int .u64 stm, .slo (Nat.succ s.n) 0 nq 0, .slo (Nat.succ (Nat.succ s.n)) 0 nc 0, .slo (Nat.succ (Nat.succ (Nat.succ s.n))) 0 (stN nc cc n w) 0, .slo (Nat.succ (Nat.succ (Nat.succ (Nat.succ s.n)))) 0 0 0, .int .u64 0, .bool false, .int .i64 0, .int .i64 (phW (stN nc cc n w)), .int .i64 0, .int .u64 0, .int .i64 0, .int .i64 0, .int .i64 0] none, .cells qc (some 2), .cells cc (some 2), .cells (stC nc cc n w) (some 1), .cells [] (some 3)] with
        | some s' => some ([okC cc nc, xle nc 1000000, okC qc nq, xle nq 1000000], .ptr s.n 0, s')
        | none => none) none
      | _ => none)
    | _ => none)
  | _, _ => none
theorem newR_ok : GOk Go.Proofs.Try.prog 19 newR := by
  intro args s bs l s' hg hb hfr
  unfold newR at hg
  split at hg
  · rename_i me su stm q nq c nc n w hgl
    split at hg
    · rename_i qc hb0
      split at hg
      · rename_i cc hb1
        cases hbc : nodupB [q, c] with
        | false => rw [hbc] at hg; cases hg
        | true =>
          rw [hbc] at hg
          simp only [cond_true] at hg
          split at hg
          · rename_i s1 hs1
            simp only [Option.some.injEq, Prod.mk.injEq] at hg
            obtain ⟨rfl, rfl, rfl⟩ := hg
            simp only [allT_cons] at hb
            obtain ⟨k1, k2, k3, k4, _⟩ := hb
            have no : noIds cc = true := noids_ok k1
            have no2 : noIds qc = true := noids_ok k3
            refine SFun.lay (bs := [.cells qc (some 2), .cells cc (some 2)]) (args0 := [.int .i64 me, .int .i64 su, .int .u64 stm, .slo 0 0 nq 0, .slo 1 0 nc 0, .int .i64 n, .int .i64 w]) (bs' := [.cells qc (some 2), .cells cc (some 2), .cells [.int .i64 me, .int .i64 (xmn (xmx su 0) 4), .int .i64 0, .int .i64 0, .int .i64 (-1), .int .u64 stm, .slo 3 0 nq 0, .slo 4 0 nc 0, .slo 5 0 (stN nc cc n w) 0, .slo 6 0 0 0, .int .u64 0, .bool false, .int .i64 0, .int .i64 (phW (stN nc cc n w)), .int .i64 0, .int .u64 0, .int .i64 0, .int .i64 0, .int .i64 0] none, .cells qc (some 2), .cells cc (some 2), .cells (stC nc cc n w) (some 1), .cells [] (some 3)]) (v0 := .ptr 2 0) hfr hs1 (nodupB_nd hbc)
              ⟨⟨there hfr hb0, _, hb0, lb_same (by (first | assumption | exact noIds_tab (fun _ => rfl) _ _ | exact noIds_encL (fun _ => rfl) _ | rfl)), fun κ hκ => lb_same (by (first | assumption | exact noIds_tab (fun _ => rfl) _ _ | exact noIds_encL (fun _ => rfl) _ | rfl))⟩, ⟨there hfr hb1, _, hb1, lb_same (by (first | assumption | exact noIds_tab (fun _ => rfl) _ _ | exact noIds_encL (fun _ => rfl) _ | rfl)), fun κ hκ => lb_same (by (first | assumption | exact noIds_tab (fun _ => rfl) _ _ | exact noIds_encL (fun _ => rfl) _ | rfl))⟩, trivial⟩ (by ((repeat refine lws_cons (by (first | exact lw_any | exact lw_int | exact lw_bool | exact lw_ptr rfl | exact lw_slo rfl | exact lw_nilp | exact lw_nils | exact lw_str | exact lw_slo_nils | exact lw_slo_sle | exact lw_sl rfl | exact lw_unb | exact lw_gptr | exact lw_noid rfl | exact lw_cap rfl (Nat.le_refl _) | exact lw_cap rfl (by omega) | assumption | exact lw_tup (by ((repeat refine lws_cons (by (first | exact lw_any | exact lw_int | exact lw_bool | exact lw_ptr rfl | exact lw_slo rfl | exact lw_nilp | exact lw_nils | exact lw_str | exact lw_slo_nils | exact lw_slo_sle | exact lw_sl rfl | exact lw_unb | exact lw_gptr | exact lw_noid rfl | exact lw_cap rfl (Nat.le_refl _) | exact lw_cap rfl (by omega) | assumption)) ?_); exact lws_nil)))) ?_); exact lws_nil)) ?_
              fun κ h1 h2 => ⟨⟨lb_same (by (first | assumption | exact noIds_tab (fun _ => rfl) _ _ | exact noIds_encL (fun _ => rfl) _ | rfl)), lb_same (by (first | assumption | exact noIds_tab (fun _ => rfl) _ _ | exact noIds_encL (fun _ => rfl) _ | rfl)), lb_cells (lws_cons (lw_int) (lws_cons (lw_int) (lws_cons (lw_int) (lws_cons (lw_int) (lws_cons (lw_int) (lws_cons (lw_int) (lws_cons (lw_slo (h2 1 (by simp))) (lws_cons (lw_slo (h2 2 (by simp))) (lws_cons (lw_slo (h2 3 (by simp))) (lws_cons (lw_slo (h2 4 (by simp))) (lws_cons (lw_int) (lws_cons (lw_bool) (lws_cons (lw_int) (lws_cons (lw_int) (lws_cons (lw_int) (lws_cons (lw_int) (lws_cons (lw_int) (lws_cons (lw_int) (lws_cons (lw_int) lws_nil))))))))))))))))))) (by simp), lb_same (no2), lb_same (no), lb_same (noIds_Ii64 _), lb_cells lws_nil (by simp), trivial⟩, lw_ptr (h2 0 (by simp))⟩
            rw [hgl]; exact (newr_c me su stm nq nc qc cc n w k1 k2 k3 k4)
          · cases hg
      · cases hg
    · cases hg
  · cases hg
/-! the shape of a case -/
def sttW (st : Int) : Int := if xar .rem .u64 st 17 = 16 then xar .sub .u64 4611686018427387903 (xar .rem .u64 st 3) else xar .rem .u64 st 6
def fQ (n : Int) (x : Int × Int) : Int × Int := (wthV x.1 0 (wthV n 1 6 - 1), xar .quo .u64 (xar .rem .u64 x.2 8) 7)
def fC (x : Int × Int) : Int × Int := (wthV x.1 1 39, x.2)
def qL (n : Int) (xs : List (Int × Int)) : List (Int × Int) := (xs.take 6).map (fQ n)
def cLl (xs : List (Int × Int)) : List (Int × Int) := (xs.take 6).map fC
theorem cxsh_ok : CtrOk Go.Proofs.Try.prog (ctrOf cxsh) := cxl_ok ⟨withinG_ok, trivial⟩
theorem take_push {α β : Type} (f : α → β) {xs : List α} {i : Nat} (h : i < xs.length) : (xs.take (i + 1)).map f = (xs.take i).map f ++ [f xs[i]] := by
  rw [List.take_add_one, List.getElem?_eq_getElem h, List.map_append]; rfl
abbrev shFin (xs ys : List (Int × Int)) (me su sm : Int) (ov : Value) (st n w : Int) : List LB := [.ro (encL cell xs), .ro (encL cell ys), .cells (encL cell (qL n xs)) (some 2), .cells (encL cell (cLl ys)) (some 2)]
abbrev shRes (a b nk k : Nat) (me sm st n w : Int) : LV := .tup [.agg [.int .i64 40, .int .i64 (wthV n 1 6), .int .i64 (wthV w 1 3), .int .i64 4, .int .u64 (sttW st)], .slo a 0 nk 0, .slo b 0 k 0, .int .i64 (wthV me 0 3), .int .u64 (xar .sub .u64 (sttW st) (xwr .u64 (xar .quo .i64 (wthV sm 0 4) 3)))]
set_option maxHeartbeats 1000000 in
theorem shape_ok (me su sm : Int) (xs ys : List (Int × Int)) (hx : xs.length ≤ 9223372036854775807) (hy : ys.length ≤ 9223372036854775807) (ov : Value) (st n w : Int) :
    SFun Go.Proofs.Try.prog 18 [.agg (caC me su sm xs.length ys.length ov st n w)] (mkS [.ro (encL cell xs), .ro (encL cell ys)]) fun l s => l = shRes 2 3 (qL n xs).length (cLl ys).length me sm st n w ∧ s = mkS (shFin xs ys me su sm ov st n w) := by
  refine SFun.mono (SFun.piecesR (Q := fun l b => l = shRes 2 3 (qL n xs).length (cLl ys).length me sm st n w ∧ b = shFin xs ys me su sm ov st n w) 107 2 [.cell 2 26, .tmp 3, .tmp 4, .tmp 5, .tmp 6] shL (by kernel_rfl) rfl rfl (by kernel_rfl) ?_) fun l s' ⟨b0, ⟨h1, h2⟩, h3⟩ => ⟨h1, by rw [h3, h2]⟩
  have nx := noids_c xs
  have ny := noids_c ys
  have w2 := wthV_in (a := n) (lo := 1) (hi := 6) (by omega)
  have w3 := wthV_in (a := w) (lo := 1) (hi := 3) (by omega)
  have r6 : xar .rem .u64 st 6 < 4611686018427387904 := by rw [xar_rem _ _ _ (by omega)]; have := (tmod_pos st 6 (by omega)).2.1; omega
  refine SSp.to cxsh_ok (n := 40) (g := []) 6 6 rfl (σ := Unit) (fun _ => shA 0 0) (fun _ => shH (encL cell xs) (encL cell ys) me su sm xs.length ys.length ov st n w (wthV n 1 6) (wthV w 1 3) (sttW st) []) (mkS_le (Nat.le_refl _)) (by kernel_rfl) ?_ fun _ => ?_
  · rw [sh_a]
    simp only [cm_self, cond_true]
    by_cases h : xar .rem .u64 st 17 = 16
    · have e : sttW st = xar .sub .u64 4611686018427387903 (xar .rem .u64 st 3) := if_pos h
      (with_reducible repeat first | refine zq1 ?_ | refine zq2 ?_ | refine zq3 ?_ | refine zq4 ?_ | refine zq5 ?_ | refine zq6 ?_ | refine zq7 ?_ | refine zq8 ?_ | refine zq9 ?_ | refine zqa ?_ | refine zqb ?_ | refine zqc ?_ | refine zqd ?_ | refine zqe ?_ | refine zqf ?_ | refine zqg ?_ | refine zqh ?_ | refine zqi ?_ | refine zqj ?_ | refine zqk ?_ | refine zql ?_ | refine zqm ?_ | refine zqn ?_ | refine zqo ?_ | refine zqp ?_)
      exact ⟨rfl, (), [.id 0, .id 1, .id 2, .id 3, .id 6, .none], by rw [e]; (refine ⟨by kernel_rfl, ?_, ?_⟩ <;> repeat first | exact okTms_nil | refine okTms_cons ?_ ?_ | exact okBlks_nil | refine okBlks_cons ?_ ?_ | exact lws_nil | refine lws_cons ?_ ?_ | exact lb_dead | exact zy1 | exact zy2 | exact lb_none | refine lb_capL (by simp) (by simp) ?_ (by simp) | refine lb_drop0 (by simp) ?_ (by simp) | exact lw_slo_drop rfl | refine zy3 ?_ | exact zy4 | exact lw_any | exact lw_int | exact lw_bool | exact zy5 | exact zy6 | exact lw_nils | exact lw_slo_nils | exact zy7 | exact zy8 | exact zy9 | refine lw_tup ?_ | refine lw_agg ?_ | assumption)⟩
    · have e : sttW st = xar .rem .u64 st 6 := if_neg h
      (with_reducible repeat first | refine zq1 ?_ | refine zq2 ?_ | refine zq3 ?_ | refine zq4 ?_ | refine zq5 ?_ | refine zq6 ?_ | refine zq7 ?_ | refine zq8 ?_ | refine zq9 ?_ | refine zqa ?_ | refine zqb ?_ | refine zqc ?_ | refine zqd ?_ | refine zqe ?_ | refine zqf ?_ | refine zqg ?_ | refine zqh ?_ | refine zqi ?_ | refine zqj ?_ | refine zqk ?_ | refine zql ?_ | refine zqm ?_ | refine zqn ?_ | refine zqo ?_ | refine zqp ?_)
      exact ⟨rfl, (), [.id 0, .id 1, .id 2, .id 3, .id 6, .none], by rw [e]; (refine ⟨by kernel_rfl, ?_, ?_⟩ <;> repeat first | exact okTms_nil | refine okTms_cons ?_ ?_ | exact okBlks_nil | refine okBlks_cons ?_ ?_ | exact lws_nil | refine lws_cons ?_ ?_ | exact lb_dead | exact zy1 | exact zy2 | exact lb_none | refine lb_capL (by simp) (by simp) ?_ (by simp) | refine lb_drop0 (by simp) ?_ (by simp) | exact lw_slo_drop rfl | refine zy3 ?_ | exact zy4 | exact lw_any | exact lw_int | exact lw_bool | exact zy5 | exact zy6 | exact lw_nils | exact lw_slo_nils | exact zy7 | exact zy8 | exact zy9 | refine lw_tup ?_ | refine lw_agg ?_ | assumption)⟩
  have e4 : xar .sub .i64 (wthV n 1 6) 1 = wthV n 1 6 - 1 := sub_i64 (by omega) (by omega)
  refine SSp.code_to (g := []) 7 rfl (σ := Nat) (fun i => shA i (qL n xs).length) (fun _ => shH (encL cell xs) (encL cell ys) me su sm xs.length ys.length ov st n w (wthV n 1 6) (wthV w 1 3) (sttW st) (encL cell (qL n xs))) (by kernel_rfl) ?_ fun i0 => ?_
  · refine SCode.loop_vc (cx := cxsh) cxsh_ok (n := 40) 0 (by kernel_rfl) (σ := {i : Nat // i ≤ 6 ∧ i ≤ xs.length}) (fun i => shA i.1 ((xs.take i.1).map (fQ n)).length) (fun i => shH (encL cell xs) (encL cell ys) me su sm xs.length ys.length ov st n w (wthV n 1 6) (wthV w 1 3) (sttW st) (encL cell ((xs.take i.1).map (fQ n)))) (fun i => 6 - i.1) (fun _ => Nat.le_of_ble_eq_true rfl) (fun ⟨i, hi, hix⟩ => ?_) ⟨0, Nat.zero_le _, Nat.zero_le _⟩
    dsimp only
    have nz := noids_c ((xs.take i).map (fQ n))
    have ln : ((xs.take i).map (fQ n)).length = i := by simp; omega
    rw [sh_b]
    by_cases h1 : i < xs.length <;> by_cases h2 : i < 6
    · have nz2 := noids_c ((xs.take i).map (fQ n) ++ [fQ n xs[i]])
      have e3 : xar .add .i64 (i : Int) 1 = ((i + 1 : Nat) : Int) := by rw [add_i64 (by omega) (by omega)]; omega
      have ef : fQ n xs[i] = (wthV xs[i].1 0 (wthV n 1 6 - 1), xar .quo .u64 (xar .rem .u64 xs[i].2 8) 7) := rfl
      have l2 : ((xs.take (i + 1)).map (fQ n)).length = ((xs.take i).map (fQ n)).length + 1 := by rw [take_push _ h1]; simp
      rw [ef] at nz2
      simp only [wd_nat, wd_asV, wd_isV, wd_ix, wd_add, wd_mul, wd_ln, Nat.zero_add, Nat.mul_one, wd_isI, wd_asI, wd_isB, wd_asB, wd_nn, cI_tlen, cB_tlen, cII_tlen, decide_true, cond_true, wd_not_t, wd_not_f, wd_and_t, wd_and_f, Nat.add_assoc, Nat.reduceAdd, cell_0 h1, cell_1 h1, cell_n, cell_push, e3, e4, cm_self]
      (with_reducible repeat first | refine zq1 ?_ | refine zq2 ?_ | refine zq3 ?_ | refine zq4 ?_ | refine zq5 ?_ | refine zq6 ?_ | refine zq7 ?_ | refine zq8 ?_ | refine zq9 ?_ | refine zqa ?_ | refine zqb ?_ | refine zqc ?_ | refine zqd ?_ | refine zqe ?_ | refine zqf ?_ | refine zqg ?_ | refine zqh ?_ | refine zqi ?_ | refine zqj ?_ | refine zqk ?_ | refine zql ?_ | refine zqm ?_ | refine zqn ?_ | refine zqo ?_ | refine zqp ?_)
      refine ⟨rfl, ⟨i + 1, by omega, h1⟩, by simp only; omega, [.id 0, .id 1, .id 2, .id 3, .id 4, .id 7], ?_⟩
      dsimp only
      rw [l2, take_push _ h1, ef]
      (refine ⟨by kernel_rfl, ?_, ?_⟩ <;> repeat first | exact okTms_nil | refine okTms_cons ?_ ?_ | exact okBlks_nil | refine okBlks_cons ?_ ?_ | exact lws_nil | refine lws_cons ?_ ?_ | exact lb_dead | exact zy1 | exact zy2 | exact lb_none | refine lb_capL (by simp) (by simp) ?_ (by simp) | refine lb_drop0 (by simp) ?_ (by simp) | exact lw_slo_drop rfl | refine zy3 ?_ | exact zy4 | exact lw_any | exact lw_int | exact lw_bool | exact zy5 | exact zy6 | exact lw_nils | exact lw_slo_nils | exact zy7 | exact zy8 | exact zy9 | refine lw_tup ?_ | refine lw_agg ?_ | assumption)
    all_goals
      have e5 : (xs.take i).map (fQ n) = qL n xs := by
        rw [qL]
        rcases Nat.lt_or_ge i xs.length with h | h
        · have : i = 6 := by omega
          rw [this]
        · rw [List.take_of_length_le h, List.take_of_length_le (by omega)]
      rw [e5] at nz
      (with_reducible repeat first | refine zq1 ?_ | refine zq2 ?_ | refine zq3 ?_ | refine zq4 ?_ | refine zq5 ?_ | refine zq6 ?_ | refine zq7 ?_ | refine zq8 ?_ | refine zq9 ?_ | refine zqa ?_ | refine zqb ?_ | refine zqc ?_ | refine zqd ?_ | refine zqe ?_ | refine zqf ?_ | refine zqg ?_ | refine zqh ?_ | refine zqi ?_ | refine zqj ?_ | refine zqk ?_ | refine zql ?_ | refine zqm ?_ | refine zqn ?_ | refine zqo ?_ | refine zqp ?_)
      exact ⟨rfl, i, [.id 0, .id 1, .id 2, .id 3, .id 4, .id 5], by dsimp only; rw [e5]; (refine ⟨by kernel_rfl, ?_, ?_⟩ <;> repeat first | exact okTms_nil | refine okTms_cons ?_ ?_ | exact okBlks_nil | refine okBlks_cons ?_ ?_ | exact lws_nil | refine lws_cons ?_ ?_ | exact lb_dead | exact zy1 | exact zy2 | exact lb_none | refine lb_capL (by simp) (by simp) ?_ (by simp) | refine lb_drop0 (by simp) ?_ (by simp) | exact lw_slo_drop rfl | refine zy3 ?_ | exact zy4 | exact lw_any | exact lw_int | exact lw_bool | exact zy5 | exact zy6 | exact lw_nils | exact lw_slo_nils | exact zy7 | exact zy8 | exact zy9 | refine lw_tup ?_ | refine lw_agg ?_ | assumption)⟩
  have nq := noids_c (qL n xs)
  refine SSp.to cxsh_ok (n := 40) (g := []) 2 9 rfl (σ := Unit) (fun _ => shB 0 (qL n xs).length 0) (fun _ => shI (encL cell xs) (encL cell ys) me su sm xs.length ys.length ov st n w (wthV n 1 6) (wthV w 1 3) (sttW st) (encL cell (qL n xs)) []) (mkS_le (Nat.le_of_ble_eq_true rfl)) (by kernel_rfl) ?_ fun _ => ?_
  · rw [sh_c]
    exact ⟨rfl, (), [.id 0, .id 1, .id 2, .id 3, .id 4, .id 5, .none], by (refine ⟨by kernel_rfl, ?_, ?_⟩ <;> repeat first | exact okTms_nil | refine okTms_cons ?_ ?_ | exact okBlks_nil | refine okBlks_cons ?_ ?_ | exact lws_nil | refine lws_cons ?_ ?_ | exact lb_dead | exact zy1 | exact zy2 | exact lb_none | refine lb_capL (by simp) (by simp) ?_ (by simp) | refine lb_drop0 (by simp) ?_ (by simp) | exact lw_slo_drop rfl | refine zy3 ?_ | exact zy4 | exact lw_any | exact lw_int | exact lw_bool | exact zy5 | exact zy6 | exact lw_nils | exact lw_slo_nils | exact zy7 | exact zy8 | exact zy9 | refine lw_tup ?_ | refine lw_agg ?_ | assumption)⟩
  refine SSp.code_to (g := []) 10 rfl (σ := Nat) (fun i => shB i (qL n xs).length (cLl ys).length) (fun _ => shI (encL cell xs) (encL cell ys) me su sm xs.length ys.length ov st n w (wthV n 1 6) (wthV w 1 3) (sttW st) (encL cell (qL n xs)) (encL cell (cLl ys))) (by kernel_rfl) ?_ fun i0 => ?_
  · refine SCode.loop_vc (cx := cxsh) cxsh_ok (n := 40) 2 (by kernel_rfl) (σ := {i : Nat // i ≤ 6 ∧ i ≤ ys.length}) (fun i => shB i.1 (qL n xs).length ((ys.take i.1).map fC).length) (fun i => shI (encL cell xs) (encL cell ys) me su sm xs.length ys.length ov st n w (wthV n 1 6) (wthV w 1 3) (sttW st) (encL cell (qL n xs)) (encL cell ((ys.take i.1).map fC))) (fun i => 6 - i.1) (fun _ => Nat.le_of_ble_eq_true rfl) (fun ⟨i, hi, hix⟩ => ?_) ⟨0, Nat.zero_le _, Nat.zero_le _⟩
    dsimp only
    have nz := noids_c ((ys.take i).map fC)
    have ln : ((ys.take i).map fC).length = i := by simp; omega
    rw [sh_d]
    by_cases h1 : i < ys.length <;> by_cases h2 : i < 6
    · have nz2 := noids_c ((ys.take i).map fC ++ [fC ys[i]])
      have e3 : xar .add .i64 (i : Int) 1 = ((i + 1 : Nat) : Int) := by rw [add_i64 (by omega) (by omega)]; omega
      have ef : fC ys[i] = (wthV ys[i].1 1 39, ys[i].2) := rfl
      have l2 : ((ys.take (i + 1)).map fC).length = ((ys.take i).map fC).length + 1 := by rw [take_push _ h1]; simp
      rw [ef] at nz2
      simp only [wd_nat, wd_asV, wd_isV, wd_ix, wd_add, wd_mul, wd_ln, Nat.zero_add, Nat.mul_one, wd_isI, wd_asI, wd_isB, wd_asB, wd_nn, cI_tlen, cB_tlen, cII_tlen, decide_true, cond_true, wd_not_t, wd_not_f, wd_and_t, wd_and_f, Nat.add_assoc, Nat.reduceAdd, cell_0 h1, cell_1 h1, cell_n, cell_push, e3, cm_self]
      (with_reducible repeat first | refine zq1 ?_ | refine zq2 ?_ | refine zq3 ?_ | refine zq4 ?_ | refine zq5 ?_ | refine zq6 ?_ | refine zq7 ?_ | refine zq8 ?_ | refine zq9 ?_ | refine zqa ?_ | refine zqb ?_ | refine zqc ?_ | refine zqd ?_ | refine zqe ?_ | refine zqf ?_ | refine zqg ?_ | refine zqh ?_ | refine zqi ?_ | refine zqj ?_ | refine zqk ?_ | refine zql ?_ | refine zqm ?_ | refine zqn ?_ | refine zqo ?_ | refine zqp ?_)
      refine ⟨rfl, ⟨i + 1, by omega, h1⟩, by simp only; omega, [.id 0, .id 1, .id 2, .id 3, .id 4, .id 5, .id 8], ?_⟩
      dsimp only
      rw [l2, take_push _ h1, ef]
      (refine ⟨by kernel_rfl, ?_, ?_⟩ <;> repeat first | exact okTms_nil | refine okTms_cons ?_ ?_ | exact okBlks_nil | refine okBlks_cons ?_ ?_ | exact lws_nil | refine lws_cons ?_ ?_ | exact lb_dead | exact zy1 | exact zy2 | exact lb_none | refine lb_capL (by simp) (by simp) ?_ (by simp) | refine lb_drop0 (by simp) ?_ (by simp) | exact lw_slo_drop rfl | refine zy3 ?_ | exact zy4 | exact lw_any | exact lw_int | exact lw_bool | exact zy5 | exact zy6 | exact lw_nils | exact lw_slo_nils | exact zy7 | exact zy8 | exact zy9 | refine lw_tup ?_ | refine lw_agg ?_ | assumption)
    all_goals
      have e5 : (ys.take i).map fC = cLl ys := by
        rw [cLl]
        rcases Nat.lt_or_ge i ys.length with h | h
        · have : i = 6 := by omega
          rw [this]
        · rw [List.take_of_length_le h, List.take_of_length_le (by omega)]
      rw [e5] at nz
      (with_reducible repeat first | refine zq1 ?_ | refine zq2 ?_ | refine zq3 ?_ | refine zq4 ?_ | refine zq5 ?_ | refine zq6 ?_ | refine zq7 ?_ | refine zq8 ?_ | refine zq9 ?_ | refine zqa ?_ | refine zqb ?_ | refine zqc ?_ | refine zqd ?_ | refine zqe ?_ | refine zqf ?_ | refine zqg ?_ | refine zqh ?_ | refine zqi ?_ | refine zqj ?_ | refine zqk ?_ | refine zql ?_ | refine zqm ?_ | refine zqn ?_ | refine zqo ?_ | refine zqp ?_)
      exact ⟨rfl, i, [.id 0, .id 1, .id 2, .id 3, .id 4, .id 5, .id 6], by dsimp only; rw [e5]; (refine ⟨by kernel_rfl, ?_, ?_⟩ <;> repeat first | exact okTms_nil | refine okTms_cons ?_ ?_ | exact okBlks_nil | refine okBlks_cons ?_ ?_ | exact lws_nil | refine lws_cons ?_ ?_ | exact lb_dead | exact zy1 | exact zy2 | exact lb_none | refine lb_capL (by simp) (by simp) ?_ (by simp) | refine lb_drop0 (by simp) ?_ (by simp) | exact lw_slo_drop rfl | refine zy3 ?_ | exact zy4 | exact lw_any | exact lw_int | exact lw_bool | exact zy5 | exact zy6 | exact lw_nils | exact lw_slo_nils | exact zy7 | exact zy8 | exact zy9 | refine lw_tup ?_ | refine lw_agg ?_ | assumption)⟩
  have nc := noids_c (cLl ys)
  refine SSp.code_to (g := []) 11 rfl (σ := Unit) (fun _ => shZ (qL n xs).length (cLl ys).length (wthV me 0 3) (xar .sub .u64 (sttW st) (xwr .u64 (xar .quo .i64 (wthV sm 0 4) 3)))) (fun _ => shJ (encL cell xs) (encL cell ys) me su sm xs.length ys.length ov st n w (wthV n 1 6) (wthV w 1 3) (sttW st) (encL cell (qL n xs)) (encL cell (cLl ys))) (by kernel_rfl) ?_ fun _ => ?_
  · refine SCode.orders cxsh_ok (n := 40) (mkS_le (Nat.le_of_ble_eq_true rfl)) ?_
    rw [sh_o]
    simp only [cm_self, cond_true]
    refine ⟨?_, ?_⟩
    · exact ⟨rfl, (), [.id 0, .id 1, .id 2, .id 3, .id 4, .id 5, .id 6], by (refine ⟨by kernel_rfl, ?_, ?_⟩ <;> repeat first | exact okTms_nil | refine okTms_cons ?_ ?_ | exact okBlks_nil | refine okBlks_cons ?_ ?_ | exact lws_nil | refine lws_cons ?_ ?_ | exact lb_dead | exact zy1 | exact zy2 | exact lb_none | refine lb_capL (by simp) (by simp) ?_ (by simp) | refine lb_drop0 (by simp) ?_ (by simp) | exact lw_slo_drop rfl | refine zy3 ?_ | exact zy4 | exact lw_any | exact lw_int | exact lw_bool | exact zy5 | exact zy6 | exact lw_nils | exact lw_slo_nils | exact zy7 | exact zy8 | exact zy9 | refine lw_tup ?_ | refine lw_agg ?_ | assumption)⟩
    · exact ⟨rfl, (), [.id 0, .id 1, .id 2, .id 3, .id 4, .id 5, .id 6], by (refine ⟨by kernel_rfl, ?_, ?_⟩ <;> repeat first | exact okTms_nil | refine okTms_cons ?_ ?_ | exact okBlks_nil | refine okBlks_cons ?_ ?_ | exact lws_nil | refine lws_cons ?_ ?_ | exact lb_dead | exact zy1 | exact zy2 | exact lb_none | refine lb_capL (by simp) (by simp) ?_ (by simp) | refine lb_drop0 (by simp) ?_ (by simp) | exact lw_slo_drop rfl | refine zy3 ?_ | exact zy4 | exact lw_any | exact lw_int | exact lw_bool | exact zy5 | exact zy6 | exact lw_nils | exact lw_slo_nils | exact zy7 | exact zy8 | exact zy9 | refine lw_tup ?_ | refine lw_agg ?_ | assumption)⟩
  refine SSp.last cxsh_ok (n := 40) (mkS_le (Nat.le_of_ble_eq_true rfl)) ?_
  rw [sh_z]
  exact ⟨trivial, rfl, [.agg [.int .i64 40, .int .i64 (wthV n 1 6), .int .i64 (wthV w 1 3), .int .i64 4, .int .u64 (sttW st)], .slo 5 0 (qL n xs).length 0, .slo 6 0 (cLl ys).length 0, .int .i64 (wthV me 0 3), .int .u64 (xar .sub .u64 (sttW st) (xwr .u64 (xar .quo .i64 (wthV sm 0 4) 3)))], _, _, [.id 0, .id 1, .id 5, .id 6], by kernel_rfl, ⟨rfl, rfl⟩, by (refine ⟨by kernel_rfl, ?_, ?_⟩ <;> repeat first | exact okTms_nil | refine okTms_cons ?_ ?_ | exact okBlks_nil | refine okBlks_cons ?_ ?_ | exact lws_nil | refine lws_cons ?_ ?_ | exact lb_dead | exact zy1 | exact zy2 | exact lb_none | refine lb_capL (by simp) (by simp) ?_ (by simp) | refine lb_drop0 (by simp) ?_ (by simp) | exact lw_slo_drop rfl | refine zy3 ?_ | exact zy4 | exact lw_any | exact lw_int | exact lw_bool | exact zy5 | exact zy6 | exact lw_nils | exact lw_slo_nils | exact zy7 | exact zy8 | exact zy9 | refine lw_tup ?_ | refine lw_agg ?_ | assumption)⟩
def shQn (n : Int) (qx : List LV) : Nat := (qL n (decC qx)).length

def shQc (n : Int) (qx : List LV) : List LV := encL cell (qL n (decC qx))

def shCn (cx : List LV) : Nat := (cLl (decC cx)).length

def shCc (cx : List LV) : List LV := encL cell (cLl (decC cx))

def shT (st sm : Int) : Int := xar .sub .u64 (sttW st) (xwr .u64 (xar .quo .i64 (wthV sm 0 4) 3))

def shS (st : Int) : Int := sttW st

theorem shape_c (me su sm : Int) (nq nc : Nat) (qx cx : List LV) (ov : Value) (st n w : Int) (k1 : okC qx nq = true) (k2 : okC cx nc = true) :
    SFun Go.Proofs.Try.prog 18 [.agg (caC me su sm nq nc ov st n w)] (mkS [.ro qx, .ro cx]) fun l s => l = .tup [.agg [.int .i64 40, .int .i64 (wthV n 1 6), .int .i64 (wthV w 1 3), .int .i64 4, .int .u64 (shS st)], .slo 2 0 (shQn n qx) 0, .slo 3 0 (shCn cx) 0, .int .i64 (wthV me 0 3), .int .u64 (shT st sm)] ∧ s = mkS [.ro qx, .ro cx, .cells (shQc n qx) (some 2), .cells (shCc cx) (some 2)] := by
  obtain ⟨xs, rfl, rfl, h1⟩ := okC_iff.1 k1
  obtain ⟨ys, rfl, rfl, h2⟩ := okC_iff.1 k2
  simp only [shQn, shQc, shCn, shCc, shT, shS, decC_enc]
  exact shape_ok me su sm xs ys h1 h2 ov st n w
def shG : Gc := fun args s => match args, s.g with
  | [.agg [.int .i64 me, .int .i64 su, .int .i64 sm, .slo q 0 nq 0, .slo y 0 nc 0, .val ov, .int .u64 st, .int .i64 n, .int .i64 w]], [] => (match s.h.get q with
    | some (.ro qx) => (match s.h.get y with
      | some (.ro cx) => cond (nodupB [q, y]) (match s.lay [q, y] [.ro qx, .ro cx] [.cells (shQc n qx) (some 2), .cells (shCc cx) (some 2)] with
        | some s' => some ([okC qx nq, okC cx nc], .tup [.agg [.int .i64 40, .int .i64 (wthV n 1 6), .int .i64 (wthV w 1 3), .int .i64 4, .int .u64 (shS st)], .slo s.n 0 (shQn n qx) 0, .slo (Nat.succ s.n) 0 (shCn cx) 0, .int .i64 (wthV me 0 3), .int .u64 (shT st sm)], s')
        | none => none) none
      | _ => none)
    | _ => none)
  | _, _ => none
theorem shG_ok : GOk Go.Proofs.Try.prog 18 shG := by
  intro args s bs l s' hg hb hfr
  unfold shG at hg
  split at hg
  · rename_i me su sm q nq y nc ov st n w hgl
    split at hg
    · rename_i qx hb0
      split at hg
      · rename_i cx hb1
        cases hbc : nodupB [q, y] with
        | false => rw [hbc] at hg; cases hg
        | true =>
          rw [hbc] at hg
          simp only [cond_true] at hg
          split at hg
          · rename_i s1 hs1
            simp only [Option.some.injEq, Prod.mk.injEq] at hg
            obtain ⟨rfl, rfl, rfl⟩ := hg
            simp only [allT_cons] at hb
            obtain ⟨k1, k2, _⟩ := hb
            have no : noIds qx = true := noids_ok k1
            have no2 : noIds cx = true := noids_ok k2
            refine SFun.lay (bs := [.ro qx, .ro cx]) (args0 := [.agg [.int .i64 me, .int .i64 su, .int .i64 sm, .slo 0 0 nq 0, .slo 1 0 nc 0, .val ov, .int .u64 st, .int .i64 n, .int .i64 w]]) (bs' := [.ro qx, .ro cx, .cells (shQc n qx) (some 2), .cells (shCc cx) (some 2)]) (v0 := .tup [.agg [.int .i64 40, .int .i64 (wthV n 1 6), .int .i64 (wthV w 1 3), .int .i64 4, .int .u64 (shS st)], .slo 2 0 (shQn n qx) 0, .slo 3 0 (shCn cx) 0, .int .i64 (wthV me 0 3), .int .u64 (shT st sm)]) hfr hs1 (nodupB_nd hbc)
              ⟨⟨there hfr hb0, _, hb0, lb_ro (by (first | assumption | exact noIds_tab (fun _ => rfl) _ _ | exact noIds_encL (fun _ => rfl) _ | rfl)), fun κ hκ => lb_ro (by (first | assumption | exact noIds_tab (fun _ => rfl) _ _ | exact noIds_encL (fun _ => rfl) _ | rfl))⟩, ⟨there hfr hb1, _, hb1, lb_ro (by (first | assumption | exact noIds_tab (fun _ => rfl) _ _ | exact noIds_encL (fun _ => rfl) _ | rfl)), fun κ hκ => lb_ro (by (first | assumption | exact noIds_tab (fun _ => rfl) _ _ | exact noIds_encL (fun _ => rfl) _ | rfl))⟩, trivial⟩ (by ((repeat refine lws_cons (by (first | exact lw_any | exact lw_int | exact lw_bool | exact lw_ptr rfl | exact lw_slo rfl | exact lw_nilp | exact lw_nils | exact lw_str | exact lw_slo_nils | exact lw_slo_sle | exact lw_sl rfl | exact lw_unb | exact lw_gptr | exact lw_noid rfl | exact lw_cap rfl (Nat.le_refl _) | exact lw_cap rfl (by omega) | assumption | exact lw_tup (by ((repeat refine lws_cons (by (first | exact lw_any | exact lw_int | exact lw_bool | exact lw_ptr rfl | exact lw_slo rfl | exact lw_nilp | exact lw_nils | exact lw_str | exact lw_slo_nils | exact lw_slo_sle | exact lw_sl rfl | exact lw_unb | exact lw_gptr | exact lw_noid rfl | exact lw_cap rfl (Nat.le_refl _) | exact lw_cap rfl (by omega) | assumption)) ?_); exact lws_nil)) | exact lw_agg (by ((repeat refine lws_cons (by (first | exact lw_any | exact lw_int | exact lw_bool | exact lw_ptr rfl | exact lw_slo rfl | exact lw_nilp | exact lw_nils | exact lw_str | exact lw_slo_nils | exact lw_slo_sle | exact lw_sl rfl | exact lw_unb | exact lw_gptr | exact lw_noid rfl | exact lw_cap rfl (Nat.le_refl _) | exact lw_cap rfl (by omega) | assumption | exact lw_tup (by ((repeat refine lws_cons (by (first | exact lw_any | exact lw_int | exact lw_bool | exact lw_ptr rfl | exact lw_slo rfl | exact lw_nilp | exact lw_nils | exact lw_str | exact lw_slo_nils | exact lw_slo_sle | exact lw_sl rfl | exact lw_unb | exact lw_gptr | exact lw_noid rfl | exact lw_cap rfl (Nat.le_refl _) | exact lw_cap rfl (by omega) | assumption)) ?_); exact lws_nil)))) ?_); exact lws_nil)))) ?_); exact lws_nil)) ?_
              fun κ h1 h2 => ⟨⟨lb_ro (by (first | assumption | exact noIds_tab (fun _ => rfl) _ _ | exact noIds_encL (fun _ => rfl) _ | rfl)), lb_ro (by (first | assumption | exact noIds_tab (fun _ => rfl) _ _ | exact noIds_encL (fun _ => rfl) _ | rfl)), lb_same (noids_c _), lb_same (noids_c _), trivial⟩, (lw_tup (lws_cons (lw_noid rfl) (lws_cons (lw_slo (h2 0 (by simp))) (lws_cons (lw_slo (h2 1 (by simp))) (lws_cons (lw_int) (lws_cons (lw_int) lws_nil))))))⟩
            rw [hgl]; exact (shape_c me su sm nq nc qx cx ov st n w k1 k2)
          · cases hg
      · cases hg
    · cases hg
  · cases hg
end
end Go.Lev
