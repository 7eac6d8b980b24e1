/- chapter 7: a read set: Add of the code and of the reference; New; trees of Stands -/
import Derived.Test.YtabhnhodhbpmmaaCR1
import Derived.Test.YtabhnhodhbpmmaaLc
import Derived.Test.YtabhnhodhbpmmaaChecked
import Derived.KernelRfl

namespace Go.Lev
open Go.RowKit
set_option linter.unusedVariables false
set_option linter.unusedSimpArgs false
set_option maxRecDepth 100000
noncomputable section
abbrev raF (most : Int) (n : Nat) (qc : List LV) : List LB := [.cells [.int .i64 most, .slo 2 0 n 0] none, .dead, .cells qc (some 2)]
abbrev raQ (most : Int) (p : Int × List (Int × Int)) (l : LV) (b : List LB) : Prop := l = .int .i64 p.1 ∧ b = raF most p.2.length (encL cell p.2)
theorem cxga_ok : CtrOk Go.Proofs.Try.prog (ctrOf cxga) := cxl_ok ⟨getG_ok, trivial⟩
theorem add_ok (most s v : Int) (xs : List (Int × Int)) (hn : xs.length < 1000000) : SFun Go.Proofs.Try.prog 8 [.ptr 0 0, .agg [.int .i64 s, .int .u64 v]] (mkS (raH most xs.length (encL cell xs))) fun l t => l = .int .i64 (addF most xs s v).1 ∧ t = mkS (raF most (addF most xs s v).2.length (encL cell (addF most xs s v).2)) := by
  refine SFun.mono (SFun.vc (Q := raQ most (addF most xs s v)) cxga_ok (n := 60) 2 rfl ?_) fun l s' ⟨b0, ⟨h1, h2⟩, h3⟩ => ⟨h1, by rw [h3, h2]⟩
  have nx := noids_c xs
  have ok : okC (encL cell xs) xs.length = true := okC_enc (by omega)
  rw [ad_x]
  by_cases c : s < 0 ∨ 16 ≤ s ∨ 4611686018427387904 ≤ v
  · have e : addF most xs s v = (1, xs) := if_pos c
    rw [e]
    by_cases c1 : s < 0
    · (with_reducible repeat first | refine zq1 ?_ | refine zq2 ?_ | refine zq3 ?_ | refine zq4 ?_ | refine zq5 ?_ | refine zq6 ?_ | refine zq7 ?_ | refine zq8 ?_ | refine zq9 ?_ | refine zqa ?_ | refine zqb ?_ | refine zqc ?_ | refine zqd ?_ | refine zqe ?_ | refine zqf ?_ | refine zqg ?_ | refine zqh ?_ | refine zqi ?_ | refine zqj ?_ | refine zqk ?_ | refine zql ?_ | refine zqm ?_ | refine zqn ?_ | refine zqo ?_ | refine zqp ?_)
      exact ⟨rfl, _, _, [.id 0, .id 1, .id 1], ⟨rfl, rfl⟩, by (refine ⟨by kernel_rfl, ?_, ?_⟩ <;> repeat first | exact okTms_nil | refine okTms_cons ?_ ?_ | exact okBlks_nil | refine okBlks_cons ?_ ?_ | exact lws_nil | refine lws_cons ?_ ?_ | exact lb_dead | exact zy1 | exact zy2 | exact lb_none | refine zy3 ?_ | exact zy4 | exact lw_any | exact lw_int | exact lw_bool | exact zy5 | exact zy6 | exact lw_nils | exact lw_slo_nils | exact zy7 | exact zy8 | exact zy9 | refine lw_tup ?_ | refine lw_agg ?_ | assumption)⟩
    by_cases c2 : 16 ≤ s
    · (with_reducible repeat first | refine zq1 ?_ | refine zq2 ?_ | refine zq3 ?_ | refine zq4 ?_ | refine zq5 ?_ | refine zq6 ?_ | refine zq7 ?_ | refine zq8 ?_ | refine zq9 ?_ | refine zqa ?_ | refine zqb ?_ | refine zqc ?_ | refine zqd ?_ | refine zqe ?_ | refine zqf ?_ | refine zqg ?_ | refine zqh ?_ | refine zqi ?_ | refine zqj ?_ | refine zqk ?_ | refine zql ?_ | refine zqm ?_ | refine zqn ?_ | refine zqo ?_ | refine zqp ?_)
      exact ⟨rfl, _, _, [.id 0, .id 1, .id 1], ⟨rfl, rfl⟩, by (refine ⟨by kernel_rfl, ?_, ?_⟩ <;> repeat first | exact okTms_nil | refine okTms_cons ?_ ?_ | exact okBlks_nil | refine okBlks_cons ?_ ?_ | exact lws_nil | refine lws_cons ?_ ?_ | exact lb_dead | exact zy1 | exact zy2 | exact lb_none | refine zy3 ?_ | exact zy4 | exact lw_any | exact lw_int | exact lw_bool | exact zy5 | exact zy6 | exact lw_nils | exact lw_slo_nils | exact zy7 | exact zy8 | exact zy9 | refine lw_tup ?_ | refine lw_agg ?_ | assumption)⟩
    have c3 : 4611686018427387904 ≤ v := by omega
    (with_reducible repeat first | refine zq1 ?_ | refine zq2 ?_ | refine zq3 ?_ | refine zq4 ?_ | refine zq5 ?_ | refine zq6 ?_ | refine zq7 ?_ | refine zq8 ?_ | refine zq9 ?_ | refine zqa ?_ | refine zqb ?_ | refine zqc ?_ | refine zqd ?_ | refine zqe ?_ | refine zqf ?_ | refine zqg ?_ | refine zqh ?_ | refine zqi ?_ | refine zqj ?_ | refine zqk ?_ | refine zql ?_ | refine zqm ?_ | refine zqn ?_ | refine zqo ?_ | refine zqp ?_)
    exact ⟨rfl, _, _, [.id 0, .id 1, .id 1], ⟨rfl, rfl⟩, by (refine ⟨by kernel_rfl, ?_, ?_⟩ <;> repeat first | exact okTms_nil | refine okTms_cons ?_ ?_ | exact okBlks_nil | refine okBlks_cons ?_ ?_ | exact lws_nil | refine lws_cons ?_ ?_ | exact lb_dead | exact zy1 | exact zy2 | exact lb_none | refine zy3 ?_ | exact zy4 | exact lw_any | exact lw_int | exact lw_bool | exact zy5 | exact zy6 | exact lw_nils | exact lw_slo_nils | exact zy7 | exact zy8 | exact zy9 | refine lw_tup ?_ | refine lw_agg ?_ | assumption)⟩
  have c1 : ¬ s < 0 := fun h => c (.inl h)
  have c2 : ¬ 16 ≤ s := fun h => c (.inr (.inl h))
  have c3 : ¬ 4611686018427387904 ≤ v := fun h => c (.inr (.inr h))
  simp only [getV, getB, decC_enc, fV, fB, ok, cond_true]
  cases hf : fndV xs s with
  | some u =>
    have e : addF most xs s v = (if u ≠ v then 14 else 0, xs) := by rw [addF, if_neg c, hf]
    rw [e]
    simp only [Option.getD_some, Option.isSome_some, cond_true]
    by_cases c4 : u = v
    · rw [if_neg (by simpa using c4)]
      (with_reducible repeat first | refine zq1 ?_ | refine zq2 ?_ | refine zq3 ?_ | refine zq4 ?_ | refine zq5 ?_ | refine zq6 ?_ | refine zq7 ?_ | refine zq8 ?_ | refine zq9 ?_ | refine zqa ?_ | refine zqb ?_ | refine zqc ?_ | refine zqd ?_ | refine zqe ?_ | refine zqf ?_ | refine zqg ?_ | refine zqh ?_ | refine zqi ?_ | refine zqj ?_ | refine zqk ?_ | refine zql ?_ | refine zqm ?_ | refine zqn ?_ | refine zqo ?_ | refine zqp ?_)
      exact ⟨rfl, _, _, [.id 0, .id 1, .id 1], ⟨rfl, rfl⟩, by (refine ⟨by kernel_rfl, ?_, ?_⟩ <;> repeat first | exact okTms_nil | refine okTms_cons ?_ ?_ | exact okBlks_nil | refine okBlks_cons ?_ ?_ | exact lws_nil | refine lws_cons ?_ ?_ | exact lb_dead | exact zy1 | exact zy2 | exact lb_none | refine zy3 ?_ | exact zy4 | exact lw_any | exact lw_int | exact lw_bool | exact zy5 | exact zy6 | exact lw_nils | exact lw_slo_nils | exact zy7 | exact zy8 | exact zy9 | refine lw_tup ?_ | refine lw_agg ?_ | assumption)⟩
    · rw [if_pos c4]
      (with_reducible repeat first | refine zq1 ?_ | refine zq2 ?_ | refine zq3 ?_ | refine zq4 ?_ | refine zq5 ?_ | refine zq6 ?_ | refine zq7 ?_ | refine zq8 ?_ | refine zq9 ?_ | refine zqa ?_ | refine zqb ?_ | refine zqc ?_ | refine zqd ?_ | refine zqe ?_ | refine zqf ?_ | refine zqg ?_ | refine zqh ?_ | refine zqi ?_ | refine zqj ?_ | refine zqk ?_ | refine zql ?_ | refine zqm ?_ | refine zqn ?_ | refine zqo ?_ | refine zqp ?_)
      exact ⟨rfl, _, _, [.id 0, .id 1, .id 1], ⟨rfl, rfl⟩, by (refine ⟨by kernel_rfl, ?_, ?_⟩ <;> repeat first | exact okTms_nil | refine okTms_cons ?_ ?_ | exact okBlks_nil | refine okBlks_cons ?_ ?_ | exact lws_nil | refine lws_cons ?_ ?_ | exact lb_dead | exact zy1 | exact zy2 | exact lb_none | refine zy3 ?_ | exact zy4 | exact lw_any | exact lw_int | exact lw_bool | exact zy5 | exact zy6 | exact lw_nils | exact lw_slo_nils | exact zy7 | exact zy8 | exact zy9 | refine lw_tup ?_ | refine lw_agg ?_ | assumption)⟩
  | none =>
    have e : addF most xs s v = if most ≤ xs.length then (5, xs) else (0, xs ++ [(s, v)]) := by rw [addF, if_neg c, hf]
    rw [e]
    simp only [Option.isSome_none, cond_false]
    by_cases c4 : most ≤ xs.length
    · rw [if_pos c4]
      (with_reducible repeat first | refine zq1 ?_ | refine zq2 ?_ | refine zq3 ?_ | refine zq4 ?_ | refine zq5 ?_ | refine zq6 ?_ | refine zq7 ?_ | refine zq8 ?_ | refine zq9 ?_ | refine zqa ?_ | refine zqb ?_ | refine zqc ?_ | refine zqd ?_ | refine zqe ?_ | refine zqf ?_ | refine zqg ?_ | refine zqh ?_ | refine zqi ?_ | refine zqj ?_ | refine zqk ?_ | refine zql ?_ | refine zqm ?_ | refine zqn ?_ | refine zqo ?_ | refine zqp ?_)
      exact ⟨rfl, _, _, [.id 0, .id 1, .id 1], ⟨rfl, rfl⟩, by (refine ⟨by kernel_rfl, ?_, ?_⟩ <;> repeat first | exact okTms_nil | refine okTms_cons ?_ ?_ | exact okBlks_nil | refine okBlks_cons ?_ ?_ | exact lws_nil | refine lws_cons ?_ ?_ | exact lb_dead | exact zy1 | exact zy2 | exact lb_none | refine zy3 ?_ | exact zy4 | exact lw_any | exact lw_int | exact lw_bool | exact zy5 | exact zy6 | exact lw_nils | exact lw_slo_nils | exact zy7 | exact zy8 | exact zy9 | refine lw_tup ?_ | refine lw_agg ?_ | assumption)⟩
    · rw [if_neg c4]
      have nz := noids_c (xs ++ [(s, v)])
      have e2 : (xs ++ [(s, v)]).length = xs.length + 1 := by simp
      simp only [wd_nat, wd_asV, wd_isV, wd_ix, wd_add, wd_mul, wd_ln, Nat.zero_add, Nat.mul_one, wd_isI, wd_asI, wd_isB, wd_asB, wd_nn, cI_tlen, cB_tlen, cII_tlen, decide_true, cond_true, wd_not_t, wd_not_f, wd_and_t, wd_and_f, cell_push, cell_n]
      (with_reducible repeat first | refine zq1 ?_ | refine zq2 ?_ | refine zq3 ?_ | refine zq4 ?_ | refine zq5 ?_ | refine zq6 ?_ | refine zq7 ?_ | refine zq8 ?_ | refine zq9 ?_ | refine zqa ?_ | refine zqb ?_ | refine zqc ?_ | refine zqd ?_ | refine zqe ?_ | refine zqf ?_ | refine zqg ?_ | refine zqh ?_ | refine zqi ?_ | refine zqj ?_ | refine zqk ?_ | refine zql ?_ | refine zqm ?_ | refine zqn ?_ | refine zqo ?_ | refine zqp ?_)
      exact ⟨rfl, _, _, [.id 0, .id 1, .id 4], ⟨rfl, rfl⟩, by rw [e2]; (refine ⟨by kernel_rfl, ?_, ?_⟩ <;> repeat first | exact okTms_nil | refine okTms_cons ?_ ?_ | exact okBlks_nil | refine okBlks_cons ?_ ?_ | exact lws_nil | refine lws_cons ?_ ?_ | exact lb_dead | exact zy1 | exact zy2 | exact lb_none | refine zy3 ?_ | exact zy4 | exact lw_any | exact lw_int | exact lw_bool | exact zy5 | exact zy6 | exact lw_nils | exact lw_slo_nils | exact zy7 | exact zy8 | exact zy9 | refine lw_tup ?_ | refine lw_agg ?_ | assumption)⟩
theorem oadd_ok (most s v : Int) (xs : List (Int × Int)) (hn : xs.length < 1000000) : SFun Go.Proofs.Try.prog 15 [.ptr 0 0, .agg [.int .i64 s, .int .u64 v]] (mkS (raH most xs.length (encL cell xs))) fun l t => l = .int .i64 (addF most xs s v).1 ∧ t = mkS (raF most (addF most xs s v).2.length (encL cell (addF most xs s v).2)) := by
  refine SFun.mono (SFun.pieces (Q := raQ most (addF most xs s v)) 83 2 oaL [4] (by kernel_rfl) rfl rfl rfl ?_) fun l s' ⟨b0, ⟨h1, h2⟩, h3⟩ => ⟨h1, by rw [h3, h2]⟩
  have nx := noids_c xs
  refine SSp.to noCx_ok (n := 40) (g := []) 4 4 rfl (σ := {_k : Unit // ¬ (s < 0 ∨ 16 ≤ s ∨ 4611686018427387904 ≤ v)}) (fun _ => oaT 0) (fun _ => oaH most s v xs.length (encL cell xs)) (mkS_le (Nat.le_refl _)) (by kernel_rfl) ?_ fun ⟨_, c⟩ => ?_
  · rw [oa_a]
    by_cases c : s < 0 ∨ 16 ≤ s ∨ 4611686018427387904 ≤ v
    · have e : addF most xs s v = (1, xs) := if_pos c
      rw [e]
      by_cases c1 : s < 0
      · (with_reducible repeat first | refine zq1 ?_ | refine zq2 ?_ | refine zq3 ?_ | refine zq4 ?_ | refine zq5 ?_ | refine zq6 ?_ | refine zq7 ?_ | refine zq8 ?_ | refine zq9 ?_ | refine zqa ?_ | refine zqb ?_ | refine zqc ?_ | refine zqd ?_ | refine zqe ?_ | refine zqf ?_ | refine zqg ?_ | refine zqh ?_ | refine zqi ?_ | refine zqj ?_ | refine zqk ?_ | refine zql ?_ | refine zqm ?_ | refine zqn ?_ | refine zqo ?_ | refine zqp ?_)
        exact ⟨trivial, rfl, _, _, [.id 0, .id 1, .id 1], ⟨rfl, rfl⟩, by (refine ⟨by kernel_rfl, ?_, ?_⟩ <;> repeat first | exact okTms_nil | refine okTms_cons ?_ ?_ | exact okBlks_nil | refine okBlks_cons ?_ ?_ | exact lws_nil | refine lws_cons ?_ ?_ | exact lb_dead | exact zy1 | exact zy2 | exact lb_none | refine zy3 ?_ | exact zy4 | exact lw_any | exact lw_int | exact lw_bool | exact zy5 | exact zy6 | exact lw_nils | exact lw_slo_nils | exact zy7 | exact zy8 | exact zy9 | refine lw_tup ?_ | refine lw_agg ?_ | assumption)⟩
      by_cases c2 : 16 ≤ s
      · (with_reducible repeat first | refine zq1 ?_ | refine zq2 ?_ | refine zq3 ?_ | refine zq4 ?_ | refine zq5 ?_ | refine zq6 ?_ | refine zq7 ?_ | refine zq8 ?_ | refine zq9 ?_ | refine zqa ?_ | refine zqb ?_ | refine zqc ?_ | refine zqd ?_ | refine zqe ?_ | refine zqf ?_ | refine zqg ?_ | refine zqh ?_ | refine zqi ?_ | refine zqj ?_ | refine zqk ?_ | refine zql ?_ | refine zqm ?_ | refine zqn ?_ | refine zqo ?_ | refine zqp ?_)
        exact ⟨trivial, rfl, _, _, [.id 0, .id 1, .id 1], ⟨rfl, rfl⟩, by (refine ⟨by kernel_rfl, ?_, ?_⟩ <;> repeat first | exact okTms_nil | refine okTms_cons ?_ ?_ | exact okBlks_nil | refine okBlks_cons ?_ ?_ | exact lws_nil | refine lws_cons ?_ ?_ | exact lb_dead | exact zy1 | exact zy2 | exact lb_none | refine zy3 ?_ | exact zy4 | exact lw_any | exact lw_int | exact lw_bool | exact zy5 | exact zy6 | exact lw_nils | exact lw_slo_nils | exact zy7 | exact zy8 | exact zy9 | refine lw_tup ?_ | refine lw_agg ?_ | assumption)⟩
      have c3 : 4611686018427387904 ≤ v := by omega
      (with_reducible repeat first | refine zq1 ?_ | refine zq2 ?_ | refine zq3 ?_ | refine zq4 ?_ | refine zq5 ?_ | refine zq6 ?_ | refine zq7 ?_ | refine zq8 ?_ | refine zq9 ?_ | refine zqa ?_ | refine zqb ?_ | refine zqc ?_ | refine zqd ?_ | refine zqe ?_ | refine zqf ?_ | refine zqg ?_ | refine zqh ?_ | refine zqi ?_ | refine zqj ?_ | refine zqk ?_ | refine zql ?_ | refine zqm ?_ | refine zqn ?_ | refine zqo ?_ | refine zqp ?_)
      exact ⟨trivial, rfl, _, _, [.id 0, .id 1, .id 1], ⟨rfl, rfl⟩, by (refine ⟨by kernel_rfl, ?_, ?_⟩ <;> repeat first | exact okTms_nil | refine okTms_cons ?_ ?_ | exact okBlks_nil | refine okBlks_cons ?_ ?_ | exact lws_nil | refine lws_cons ?_ ?_ | exact lb_dead | exact zy1 | exact zy2 | exact lb_none | refine zy3 ?_ | exact zy4 | exact lw_any | exact lw_int | exact lw_bool | exact zy5 | exact zy6 | exact lw_nils | exact lw_slo_nils | exact zy7 | exact zy8 | exact zy9 | refine lw_tup ?_ | refine lw_agg ?_ | assumption)⟩
    have c1 : ¬ s < 0 := fun h => c (.inl h)
    have c2 : ¬ 16 ≤ s := fun h => c (.inr (.inl h))
    have c3 : ¬ 4611686018427387904 ≤ v := fun h => c (.inr (.inr h))
    (with_reducible repeat first | refine zq1 ?_ | refine zq2 ?_ | refine zq3 ?_ | refine zq4 ?_ | refine zq5 ?_ | refine zq6 ?_ | refine zq7 ?_ | refine zq8 ?_ | refine zq9 ?_ | refine zqa ?_ | refine zqb ?_ | refine zqc ?_ | refine zqd ?_ | refine zqe ?_ | refine zqf ?_ | refine zqg ?_ | refine zqh ?_ | refine zqi ?_ | refine zqj ?_ | refine zqk ?_ | refine zql ?_ | refine zqm ?_ | refine zqn ?_ | refine zqo ?_ | refine zqp ?_)
    exact ⟨rfl, ⟨(), c⟩, [.id 0, .id 1, .id 2], by (refine ⟨by kernel_rfl, ?_, ?_⟩ <;> repeat first | exact okTms_nil | refine okTms_cons ?_ ?_ | exact okBlks_nil | refine okBlks_cons ?_ ?_ | exact lws_nil | refine lws_cons ?_ ?_ | exact lb_dead | exact zy1 | exact zy2 | exact lb_none | refine zy3 ?_ | exact zy4 | exact lw_any | exact lw_int | exact lw_bool | exact zy5 | exact zy6 | exact lw_nils | exact lw_slo_nils | exact zy7 | exact zy8 | exact zy9 | refine lw_tup ?_ | refine lw_agg ?_ | assumption)⟩
  refine SSp.code_to (g := []) 5 rfl (σ := {_k : Nat // fndV xs s = none}) (fun i => oaT i.1) (fun _ => oaH most s v xs.length (encL cell xs)) (by kernel_rfl) ?_ fun ⟨i0, hf⟩ => ?_
  · refine SCode.loop_vc noCx_ok (n := 40) 0 (by kernel_rfl) (σ := {i : Nat // i ≤ xs.length ∧ ∀ j (hj : j < xs.length), j < i → xs[j].1 ≠ s}) (fun i => oaT i.1) (fun _ => oaH most s v xs.length (encL cell xs)) (fun i => xs.length - i.1) (fun _ => Nat.le_of_ble_eq_true rfl) (fun ⟨i, hi, hall⟩ => ?_) ⟨0, Nat.zero_le _, fun j hj h => absurd h (by omega)⟩
    dsimp only
    rw [oa_b, wd_lss]
    refine ite_way (fun hk => ?_) (fun hk => ⟨rfl, ⟨i, fndV_none fun j hj => hall j hj (by omega)⟩, [.id 0, .id 1, .id 2], by (refine ⟨by kernel_rfl, ?_, ?_⟩ <;> repeat first | exact okTms_nil | refine okTms_cons ?_ ?_ | exact okBlks_nil | refine okBlks_cons ?_ ?_ | exact lws_nil | refine lws_cons ?_ ?_ | exact lb_dead | exact zy1 | exact zy2 | exact lb_none | refine zy3 ?_ | exact zy4 | exact lw_any | exact lw_int | exact lw_bool | exact zy5 | exact zy6 | exact lw_nils | exact lw_slo_nils | exact zy7 | exact zy8 | exact zy9 | refine lw_tup ?_ | refine lw_agg ?_ | assumption)⟩)
    have e3 : xar .add .i64 (i : Int) 1 = ((i + 1 : Nat) : Int) := inc_i64 hk (by omega)
    simp only [wd_nat, wd_asV, wd_isV, wd_ix, wd_add, wd_mul, wd_ln, Nat.zero_add, Nat.mul_one, wd_isI, wd_asI, wd_isB, wd_asB, wd_nn, cI_tlen, cB_tlen, cII_tlen, decide_true, cond_true, wd_not_t, wd_not_f, wd_and_t, wd_and_f, Nat.add_assoc, Nat.reduceAdd, cell_0 hk, cell_1 hk, cell_n, e3]
    (repeat (with_reducible refine must (by (first | with_reducible rfl | exact t_le (by omega) | exact t_eq (by omega) | exact t_nn (by omega) | exact t_lss (by omega) | exact t_leq (by omega) | exact t_gtr (by omega) | exact t_geq (by omega) | exact t_eql (by omega) | exact t_neq (by omega) | exact t_z (by omega) | exact wd_not_f | assumption)) ?_))
    by_cases h1 : xs[i].1 = s
    · have hf := fndV_some hk hall h1
      have e : addF most xs s v = (if xs[i].2 ≠ v then 14 else 0, xs) := by rw [addF, if_neg c, hf]
      rw [e]
      by_cases c4 : xs[i].2 = v
      · rw [if_neg (by simpa using c4)]
        (with_reducible repeat first | refine zq1 ?_ | refine zq2 ?_ | refine zq3 ?_ | refine zq4 ?_ | refine zq5 ?_ | refine zq6 ?_ | refine zq7 ?_ | refine zq8 ?_ | refine zq9 ?_ | refine zqa ?_ | refine zqb ?_ | refine zqc ?_ | refine zqd ?_ | refine zqe ?_ | refine zqf ?_ | refine zqg ?_ | refine zqh ?_ | refine zqi ?_ | refine zqj ?_ | refine zqk ?_ | refine zql ?_ | refine zqm ?_ | refine zqn ?_ | refine zqo ?_ | refine zqp ?_)
        exact ⟨trivial, rfl, _, _, [.id 0, .id 1, .id 1], ⟨rfl, rfl⟩, by (refine ⟨by kernel_rfl, ?_, ?_⟩ <;> repeat first | exact okTms_nil | refine okTms_cons ?_ ?_ | exact okBlks_nil | refine okBlks_cons ?_ ?_ | exact lws_nil | refine lws_cons ?_ ?_ | exact lb_dead | exact zy1 | exact zy2 | exact lb_none | refine zy3 ?_ | exact zy4 | exact lw_any | exact lw_int | exact lw_bool | exact zy5 | exact zy6 | exact lw_nils | exact lw_slo_nils | exact zy7 | exact zy8 | exact zy9 | refine lw_tup ?_ | refine lw_agg ?_ | assumption)⟩
      · rw [if_pos c4]
        (with_reducible repeat first | refine zq1 ?_ | refine zq2 ?_ | refine zq3 ?_ | refine zq4 ?_ | refine zq5 ?_ | refine zq6 ?_ | refine zq7 ?_ | refine zq8 ?_ | refine zq9 ?_ | refine zqa ?_ | refine zqb ?_ | refine zqc ?_ | refine zqd ?_ | refine zqe ?_ | refine zqf ?_ | refine zqg ?_ | refine zqh ?_ | refine zqi ?_ | refine zqj ?_ | refine zqk ?_ | refine zql ?_ | refine zqm ?_ | refine zqn ?_ | refine zqo ?_ | refine zqp ?_)
        exact ⟨trivial, rfl, _, _, [.id 0, .id 1, .id 1], ⟨rfl, rfl⟩, by (refine ⟨by kernel_rfl, ?_, ?_⟩ <;> repeat first | exact okTms_nil | refine okTms_cons ?_ ?_ | exact okBlks_nil | refine okBlks_cons ?_ ?_ | exact lws_nil | refine lws_cons ?_ ?_ | exact lb_dead | exact zy1 | exact zy2 | exact lb_none | refine zy3 ?_ | exact zy4 | exact lw_any | exact lw_int | exact lw_bool | exact zy5 | exact zy6 | exact lw_nils | exact lw_slo_nils | exact zy7 | exact zy8 | exact zy9 | refine lw_tup ?_ | refine lw_agg ?_ | assumption)⟩
    · (with_reducible repeat first | refine zq1 ?_ | refine zq2 ?_ | refine zq3 ?_ | refine zq4 ?_ | refine zq5 ?_ | refine zq6 ?_ | refine zq7 ?_ | refine zq8 ?_ | refine zq9 ?_ | refine zqa ?_ | refine zqb ?_ | refine zqc ?_ | refine zqd ?_ | refine zqe ?_ | refine zqf ?_ | refine zqg ?_ | refine zqh ?_ | refine zqi ?_ | refine zqj ?_ | refine zqk ?_ | refine zql ?_ | refine zqm ?_ | refine zqn ?_ | refine zqo ?_ | refine zqp ?_)
      refine ⟨rfl, ⟨i + 1, hk, fun j hj hji => ?_⟩, by simp only; omega, [.id 0, .id 1, .id 2], by (refine ⟨by kernel_rfl, ?_, ?_⟩ <;> repeat first | exact okTms_nil | refine okTms_cons ?_ ?_ | exact okBlks_nil | refine okBlks_cons ?_ ?_ | exact lws_nil | refine lws_cons ?_ ?_ | exact lb_dead | exact zy1 | exact zy2 | exact lb_none | refine zy3 ?_ | exact zy4 | exact lw_any | exact lw_int | exact lw_bool | exact zy5 | exact zy6 | exact lw_nils | exact lw_slo_nils | exact zy7 | exact zy8 | exact zy9 | refine lw_tup ?_ | refine lw_agg ?_ | assumption)⟩
      rcases Nat.lt_succ_iff_lt_or_eq.1 hji with h | rfl
      · exact hall j hj h
      · exact h1
  refine SSp.last noCx_ok (n := 40) (mkS_le (Nat.le_of_ble_eq_true rfl)) ?_
  have e : addF most xs s v = if most ≤ xs.length then (5, xs) else (0, xs ++ [(s, v)]) := by rw [addF, if_neg c, hf]
  rw [oa_z, e]
  by_cases c4 : most ≤ xs.length
  · rw [if_pos c4]
    (with_reducible repeat first | refine zq1 ?_ | refine zq2 ?_ | refine zq3 ?_ | refine zq4 ?_ | refine zq5 ?_ | refine zq6 ?_ | refine zq7 ?_ | refine zq8 ?_ | refine zq9 ?_ | refine zqa ?_ | refine zqb ?_ | refine zqc ?_ | refine zqd ?_ | refine zqe ?_ | refine zqf ?_ | refine zqg ?_ | refine zqh ?_ | refine zqi ?_ | refine zqj ?_ | refine zqk ?_ | refine zql ?_ | refine zqm ?_ | refine zqn ?_ | refine zqo ?_ | refine zqp ?_)
    exact ⟨trivial, rfl, _, _, [.id 0, .id 1, .id 1], ⟨rfl, rfl⟩, by (refine ⟨by kernel_rfl, ?_, ?_⟩ <;> repeat first | exact okTms_nil | refine okTms_cons ?_ ?_ | exact okBlks_nil | refine okBlks_cons ?_ ?_ | exact lws_nil | refine lws_cons ?_ ?_ | exact lb_dead | exact zy1 | exact zy2 | exact lb_none | refine zy3 ?_ | exact zy4 | exact lw_any | exact lw_int | exact lw_bool | exact zy5 | exact zy6 | exact lw_nils | exact lw_slo_nils | exact zy7 | exact zy8 | exact zy9 | refine lw_tup ?_ | refine lw_agg ?_ | assumption)⟩
  · rw [if_neg c4]
    have nz := noids_c (xs ++ [(s, v)])
    have e2 : (xs ++ [(s, v)]).length = xs.length + 1 := by simp
    simp only [wd_nat, wd_asV, wd_isV, wd_ix, wd_add, wd_mul, wd_ln, Nat.zero_add, Nat.mul_one, wd_isI, wd_asI, wd_isB, wd_asB, wd_nn, cI_tlen, cB_tlen, cII_tlen, decide_true, cond_true, wd_not_t, wd_not_f, wd_and_t, wd_and_f, cell_push, cell_n]
    (with_reducible repeat first | refine zq1 ?_ | refine zq2 ?_ | refine zq3 ?_ | refine zq4 ?_ | refine zq5 ?_ | refine zq6 ?_ | refine zq7 ?_ | refine zq8 ?_ | refine zq9 ?_ | refine zqa ?_ | refine zqb ?_ | refine zqc ?_ | refine zqd ?_ | refine zqe ?_ | refine zqf ?_ | refine zqg ?_ | refine zqh ?_ | refine zqi ?_ | refine zqj ?_ | refine zqk ?_ | refine zql ?_ | refine zqm ?_ | refine zqn ?_ | refine zqo ?_ | refine zqp ?_)
    exact ⟨trivial, rfl, _, _, [.id 0, .id 1, .id 4], ⟨rfl, rfl⟩, by rw [e2]; (refine ⟨by kernel_rfl, ?_, ?_⟩ <;> repeat first | exact okTms_nil | refine okTms_cons ?_ ?_ | exact okBlks_nil | refine okBlks_cons ?_ ?_ | exact lws_nil | refine lws_cons ?_ ?_ | exact lb_dead | exact zy1 | exact zy2 | exact lb_none | refine zy3 ?_ | exact zy4 | exact lw_any | exact lw_int | exact lw_bool | exact zy5 | exact zy6 | exact lw_nils | exact lw_slo_nils | exact zy7 | exact zy8 | exact zy9 | refine lw_tup ?_ | refine lw_agg ?_ | assumption)⟩
theorem add_c (most p v : Int) (n : Nat) (qc : List LV) (k1 : okC qc n = true) (k2 : xle (xadd n 1) 1000000 = true) : SFun Go.Proofs.Try.prog 8 [.ptr 0 0, .agg [.int .i64 p, .int .u64 v]] (mkS (raH most n qc)) fun l t => l = .int .i64 (addE most qc p v) ∧ t = mkS (raF most (addN most qc p v) (addC most qc p v)) := by
  obtain ⟨xs, rfl, rfl, _⟩ := okC_iff.1 k1
  rw [wd_le, wd_add, decide_eq_true_eq] at k2
  simp only [addE, addN, addC, decC_enc]
  exact add_ok most p v xs k2
theorem oadd_c (most p v : Int) (n : Nat) (qc : List LV) (k1 : okC qc n = true) (k2 : xle (xadd n 1) 1000000 = true) : SFun Go.Proofs.Try.prog 15 [.ptr 0 0, .agg [.int .i64 p, .int .u64 v]] (mkS (raH most n qc)) fun l t => l = .int .i64 (addE most qc p v) ∧ t = mkS (raF most (addN most qc p v) (addC most qc p v)) := by
  obtain ⟨xs, rfl, rfl, _⟩ := okC_iff.1 k1
  rw [wd_le, wd_add, decide_eq_true_eq] at k2
  simp only [addE, addN, addC, decC_enc]
  exact oadd_ok most p v xs k2
def addG : Gc := fun args s => match args, s.g with
  | [.ptr b 0, .agg [.int .i64 p, .int .u64 v]], [] => (match s.h.get b with
    | some (.cells [.int .i64 most, .slo q 0 n 0] none) => (match s.h.get q with
      | some (.cells qc (some 2)) => cond (nodupB [b, q]) (match s.lay [b, q] [.cells [.int .i64 most, .slo s.n 0 (addN most qc p v) 0] none, .dead] [.cells (addC most qc p v) (some 2)] with
        | some s' => some ([okC qc n, xle (xadd n 1) 1000000], .int .i64 (addE most qc p v), s')
        | none => none) none
      | _ => none)
    | _ => none)
  | _, _ => none
theorem addG_ok : GOk Go.Proofs.Try.prog 8 addG := by
  intro args s bs l s' hg hb hfr
  unfold addG at hg
  split at hg
  · rename_i b p v hgl
    split at hg
    · rename_i most q n hb0
      split at hg
      · rename_i qc hb1
        cases hbc : nodupB [b, q] with
        | false => rw [hbc] at hg; cases hg
        | true =>
          rw [hbc] at hg
          simp only [cond_true] at hg
          split at hg
          · rename_i s1 hs1
            simp only [Option.some.injEq, Prod.mk.injEq] at hg
            obtain ⟨rfl, rfl, rfl⟩ := hg
            simp only [allT_cons] at hb
            obtain ⟨k1, k2, _⟩ := hb
            have no : noIds qc = true := noids_ok k1
            refine SFun.lay (bs := [.cells [.int .i64 most, .slo 1 0 n 0] none, .cells qc (some 2)]) (args0 := [.ptr 0 0, .agg [.int .i64 p, .int .u64 v]]) (bs' := [.cells [.int .i64 most, .slo 2 0 (addN most qc p v) 0] none, .dead, .cells (addC most qc p v) (some 2)]) (v0 := .int .i64 (addE most qc p v)) hfr hs1 (nodupB_nd hbc)
              ⟨⟨there hfr hb0, _, hb0, by first | exact lb_same rfl | exact lb_cells (lws_cons (lw_int) (lws_cons (lw_slo rfl) lws_nil)) (by simp), fun κ hκ => lb_cells (lws_cons (lw_int) (lws_cons (lw_slo (hκ 1 q rfl)) lws_nil)) (by simp)⟩, ⟨there hfr hb1, _, hb1, lb_same (by (first | assumption | exact noIds_tab (fun _ => rfl) _ _ | exact noIds_encL (fun _ => rfl) _ | rfl)), fun κ hκ => lb_same (by (first | assumption | exact noIds_tab (fun _ => rfl) _ _ | exact noIds_encL (fun _ => rfl) _ | rfl))⟩, trivial⟩ (by ((repeat refine lws_cons (by (first | exact lw_any | exact lw_int | exact lw_bool | exact lw_ptr rfl | exact lw_slo rfl | exact lw_nilp | exact lw_nils | exact lw_str | exact lw_slo_nils | exact lw_slo_sle | exact lw_sl rfl | exact lw_unb | exact lw_gptr | exact lw_noid rfl | exact lw_cap rfl (Nat.le_refl _) | exact lw_cap rfl (by omega) | assumption | exact lw_tup (by ((repeat refine lws_cons (by (first | exact lw_any | exact lw_int | exact lw_bool | exact lw_ptr rfl | exact lw_slo rfl | exact lw_nilp | exact lw_nils | exact lw_str | exact lw_slo_nils | exact lw_slo_sle | exact lw_sl rfl | exact lw_unb | exact lw_gptr | exact lw_noid rfl | exact lw_cap rfl (Nat.le_refl _) | exact lw_cap rfl (by omega) | assumption)) ?_); exact lws_nil)))) ?_); exact lws_nil)) ?_
              fun κ h1 h2 => ⟨⟨lb_cells (lws_cons (lw_int) (lws_cons (lw_slo (h2 0 (by simp))) lws_nil)) (by simp), lb_dead, lb_same (noids_c _), trivial⟩, lw_int⟩
            rw [hgl]; exact (add_c most p v n qc k1 k2)
          · cases hg
      · cases hg
    · cases hg
  · cases hg
def oaddG : Gc := fun args s => match args, s.g with
  | [.ptr b 0, .agg [.int .i64 p, .int .u64 v]], [] => (match s.h.get b with
    | some (.cells [.int .i64 most, .slo q 0 n 0] none) => (match s.h.get q with
      | some (.cells qc (some 2)) => cond (nodupB [b, q]) (match s.lay [b, q] [.cells [.int .i64 most, .slo s.n 0 (addN most qc p v) 0] none, .dead] [.cells (addC most qc p v) (some 2)] with
        | some s' => some ([okC qc n, xle (xadd n 1) 1000000], .int .i64 (addE most qc p v), s')
        | none => none) none
      | _ => none)
    | _ => none)
  | _, _ => none
theorem oaddG_ok : GOk Go.Proofs.Try.prog 15 oaddG := by
  intro args s bs l s' hg hb hfr
  unfold oaddG at hg
  split at hg
  · rename_i b p v hgl
    split at hg
    · rename_i most q n hb0
      split at hg
      · rename_i qc hb1
        cases hbc : nodupB [b, q] with
        | false => rw [hbc] at hg; cases hg
        | true =>
          rw [hbc] at hg
          simp only [cond_true] at hg
          split at hg
          · rename_i s1 hs1
            simp only [Option.some.injEq, Prod.mk.injEq] at hg
            obtain ⟨rfl, rfl, rfl⟩ := hg
            simp only [allT_cons] at hb
            obtain ⟨k1, k2, _⟩ := hb
            have no : noIds qc = true := noids_ok k1
            refine SFun.lay (bs := [.cells [.int .i64 most, .slo 1 0 n 0] none, .cells qc (some 2)]) (args0 := [.ptr 0 0, .agg [.int .i64 p, .int .u64 v]]) (bs' := [.cells [.int .i64 most, .slo 2 0 (addN most qc p v) 0] none, .dead, .cells (addC most qc p v) (some 2)]) (v0 := .int .i64 (addE most qc p v)) hfr hs1 (nodupB_nd hbc)
              ⟨⟨there hfr hb0, _, hb0, by first | exact lb_same rfl | exact lb_cells (lws_cons (lw_int) (lws_cons (lw_slo rfl) lws_nil)) (by simp), fun κ hκ => lb_cells (lws_cons (lw_int) (lws_cons (lw_slo (hκ 1 q rfl)) lws_nil)) (by simp)⟩, ⟨there hfr hb1, _, hb1, lb_same (by (first | assumption | exact noIds_tab (fun _ => rfl) _ _ | exact noIds_encL (fun _ => rfl) _ | rfl)), fun κ hκ => lb_same (by (first | assumption | exact noIds_tab (fun _ => rfl) _ _ | exact noIds_encL (fun _ => rfl) _ | rfl))⟩, trivial⟩ (by ((repeat refine lws_cons (by (first | exact lw_any | exact lw_int | exact lw_bool | exact lw_ptr rfl | exact lw_slo rfl | exact lw_nilp | exact lw_nils | exact lw_str | exact lw_slo_nils | exact lw_slo_sle | exact lw_sl rfl | exact lw_unb | exact lw_gptr | exact lw_noid rfl | exact lw_cap rfl (Nat.le_refl _) | exact lw_cap rfl (by omega) | assumption | exact lw_tup (by ((repeat refine lws_cons (by (first | exact lw_any | exact lw_int | exact lw_bool | exact lw_ptr rfl | exact lw_slo rfl | exact lw_nilp | exact lw_nils | exact lw_str | exact lw_slo_nils | exact lw_slo_sle | exact lw_sl rfl | exact lw_unb | exact lw_gptr | exact lw_noid rfl | exact lw_cap rfl (Nat.le_refl _) | exact lw_cap rfl (by omega) | assumption)) ?_); exact lws_nil)))) ?_); exact lws_nil)) ?_
              fun κ h1 h2 => ⟨⟨lb_cells (lws_cons (lw_int) (lws_cons (lw_slo (h2 0 (by simp))) lws_nil)) (by simp), lb_dead, lb_same (noids_c _), trivial⟩, lw_int⟩
            rw [hgl]; exact (oadd_c most p v n qc k1 k2)
          · cases hg
      · cases hg
    · cases hg
  · cases hg
theorem nw_x (m : Int) (K : Fk) : (xfun Go.Proofs.Try.prog (fun _ => none) 60 7 [.int .i64 m] (mkS []) (vF K)) = (
 K (.ptr 0 0) [some (.cells [.int .i64 (xmn (xmx m 1) 16), .nils] none)] []) := by kernel_rfl
theorem no_x (m : Int) (K : Fk) : (xfun Go.Proofs.Try.prog (fun _ => none) 60 13 [.int .i64 m] (mkS []) (vF K)) = (
 bif xcm .lss m 1 then (
 K (.ptr 0 0) [some (.cells [.int .i64 1, .nils] none)] [])
 else (
 bif xcm .gtr m 16 then (
 K (.ptr 0 0) [some (.cells [.int .i64 16, .nils] none)] [])
 else (
 K (.ptr 0 0) [some (.cells [.int .i64 m, .nils] none)] []))) := by kernel_rfl
/-! Stands -/
abbrev saL : List Nat := [0, 1, 4, 11, 12, 13]
abbrev saT (m n i : Nat) : List (Nat × LV) := [(0, .ptr 0 0), (1, .slo 2 0 m 0), (11, .slo 1 0 n 0), (12, .int .i64 n), (13, .int .i64 i)]
abbrev saH (most : Int) (n : Nat) (qc lc : List LV) : List LB := [.cells [.int .i64 most, .slo 1 0 n 0] none, .cells qc (some 2), .cells lc (some 3)]
abbrev sbL : List Nat := [0, 1, 4, 5]
abbrev sbT (n m i : Nat) : List (Nat × LV) := [(0, .slo 0 0 n 0), (1, .slo 1 0 m 0), (5, .int .i64 i)]
abbrev sbH (qc lc : List LV) : List LB := [.cells qc (some 2), .cells lc (some 3)]
theorem sa_a (most : Int) (n m : Nat) (qc lc : List LV) (K : Pk) : (xsp Go.Proofs.Try.prog (fun _ => none) 40 37 (seg (sp Go.Proofs.Try.prog 12) 0 2) (tm0 [.ptr 0 0, .slo 2 0 m 0]) (mkS (saH most n qc lc)) (vK saL K)) = (
 K .normal [.ptr 0 0, .slo 2 0 m 0, .bool false, .slo 1 0 n 0, .int .i64 ↑n, .int .i64 0] [some (.cells [.int .i64 most, .slo 1 0 n 0] none), some (.cells qc (some 2)), some (.cells lc (some 3))] []) := by kernel_rfl
abbrev sa_b_b1 (most : Int) (n : Nat) (i : Nat) (qc : List LV) (lc : List LV) : List (Option LB) := [some (.cells [.int .i64 most, .slo 1 0 n 0] none), some (.cells qc (some 2)), some (.cells lc (some 3)), some (.cells [.int .i64 (asI (nthD qc (xix 0 (xnat ↑i) 2))), .int .u64 (asI (nthD qc (xadd (xix 0 (xnat ↑i) 2) 1)))] none), some (.cells [.int .u64 (asI (nthD lc (xix 0 (xnat (asI (nthD qc (xix 0 (xnat ↑i) 2)))) 3))), .bool (asB (nthD lc (xadd (xix 0 (xnat (asI (nthD qc (xix 0 (xnat ↑i) 2)))) 3) 1))), .int .i64 (asI (nthD lc (xadd (xadd (xix 0 (xnat (asI (nthD qc (xix 0 (xnat ↑i) 2)))) 3) 1) 1)))] none)]
theorem sa_b (most : Int) (n m i : Nat) (qc lc : List LV) (K : Pk) : (xcode Go.Proofs.Try.prog (fun _ => none) 40 37 (loopOf (nthC (sp Go.Proofs.Try.prog 12) 2)) (mkTm 37 (saT m n i)) (mkS (saH most n qc lc)) (vK saL K)) = (
 bif xcm .lss ↑i ↑n then (
 bif xle (xadd (xnat ↑i) 1) n then bif xle (xadd (xix 0 (xnat ↑i) 2) 2) (xln qc) then bif isI .i64 (nthD qc (xix 0 (xnat ↑i) 2)) then bif isI .u64 (nthD qc (xadd (xix 0 (xnat ↑i) 2) 1)) then bif xcm .geq (asI (nthD qc (xix 0 (xnat ↑i) 2))) ↑m then (
 K .ret [.ptr 0 0, .slo 2 0 m 0, .bool false, .slo 1 0 n 0, .int .i64 ↑n, .int .i64 ↑i] [some (.cells [.int .i64 most, .slo 1 0 n 0] none), some (.cells qc (some 2)), some (.cells lc (some 3)), some (.cells [.int .i64 (asI (nthD qc (xix 0 (xnat ↑i) 2))), .int .u64 (asI (nthD qc (xadd (xix 0 (xnat ↑i) 2) 1)))] none)] [])
 else (
 bif xnn (asI (nthD qc (xix 0 (xnat ↑i) 2))) then bif xle (xadd (xnat (asI (nthD qc (xix 0 (xnat ↑i) 2)))) 1) m then bif xle (xadd (xix 0 (xnat (asI (nthD qc (xix 0 (xnat ↑i) 2)))) 3) 3) (xln lc) then bif isI .u64 (nthD lc (xix 0 (xnat (asI (nthD qc (xix 0 (xnat ↑i) 2)))) 3)) then bif isB (nthD lc (xadd (xix 0 (xnat (asI (nthD qc (xix 0 (xnat ↑i) 2)))) 3) 1)) then bif isI .i64 (nthD lc (xadd (xadd (xix 0 (xnat (asI (nthD qc (xix 0 (xnat ↑i) 2)))) 3) 1) 1)) then bif asB (nthD lc (xadd (xix 0 (xnat (asI (nthD qc (xix 0 (xnat ↑i) 2)))) 3) 1)) then (
 K .ret [.ptr 0 0, .slo 2 0 m 0, .bool false, .slo 1 0 n 0, .int .i64 ↑n, .int .i64 ↑i] (sa_b_b1 most n i qc lc) [])
 else (
 bif xcm .neq (asI (nthD lc (xix 0 (xnat (asI (nthD qc (xix 0 (xnat ↑i) 2)))) 3))) (asI (nthD qc (xadd (xix 0 (xnat ↑i) 2) 1))) then (
 K .ret [.ptr 0 0, .slo 2 0 m 0, .bool false, .slo 1 0 n 0, .int .i64 ↑n, .int .i64 ↑i] (sa_b_b1 most n i qc lc) [])
 else (
 K .normal [.ptr 0 0, .slo 2 0 m 0, .any, .slo 1 0 n 0, .int .i64 ↑n, .int .i64 (xar .add .i64 (↑i) 1)] (sa_b_b1 most n i qc lc) [])) else False else False else False else False else False else False) else False else False else False else False)
 else (
 K (.exit 0) [.ptr 0 0, .slo 2 0 m 0, .any, .slo 1 0 n 0, .int .i64 ↑n, .int .i64 ↑i] [some (.cells [.int .i64 most, .slo 1 0 n 0] none), some (.cells qc (some 2)), some (.cells lc (some 3))] [])) := by kernel_rfl
theorem sa_z (most : Int) (n : Nat) (qc lc : List LV) (K : Pk) : (xsp Go.Proofs.Try.prog (fun _ => none) 40 37 ((sp Go.Proofs.Try.prog 12).drop 3) (mkTm 37 []) (mkS (saH most n qc lc)) (vK saL K)) = (
 K .ret [.any, .any, .bool true, .any, .any, .any] [some (.cells [.int .i64 most, .slo 1 0 n 0] none), some (.cells qc (some 2)), some (.cells lc (some 3))] []) := by kernel_rfl
theorem sb_a (n m : Nat) (qc lc : List LV) (K : Pk) : (xsp Go.Proofs.Try.prog (fun _ => none) 40 46 (seg (sp Go.Proofs.Try.prog 17) 0 2) (tm0 [.slo 0 0 n 0, .slo 1 0 m 0]) (mkS (sbH qc lc)) (vK sbL K)) = (
 K .normal [.slo 0 0 n 0, .slo 1 0 m 0, .bool false, .int .i64 0] [some (.cells qc (some 2)), some (.cells lc (some 3))] []) := by kernel_rfl
theorem sb_b (n m i : Nat) (qc lc : List LV) (K : Pk) : (xcode Go.Proofs.Try.prog (fun _ => none) 40 46 (loopOf (nthC (sp Go.Proofs.Try.prog 17) 2)) (mkTm 46 (sbT n m i)) (mkS (sbH qc lc)) (vK sbL K)) = (
 bif xcm .lss ↑i ↑n then (
 bif xle (xadd (xnat ↑i) 1) n then bif xle (xadd (xix 0 (xnat ↑i) 2) 1) (xln qc) then bif isI .i64 (nthD qc (xix 0 (xnat ↑i) 2)) then bif xcm .lss (asI (nthD qc (xix 0 (xnat ↑i) 2))) 0 then (
 K .ret [.slo 0 0 n 0, .slo 1 0 m 0, .bool false, .int .i64 ↑i] [some (.cells qc (some 2)), some (.cells lc (some 3))] [])
 else (
 bif xcm .geq (asI (nthD qc (xix 0 (xnat ↑i) 2))) ↑m then (
 K .ret [.slo 0 0 n 0, .slo 1 0 m 0, .bool false, .int .i64 ↑i] [some (.cells qc (some 2)), some (.cells lc (some 3))] [])
 else (
 bif xnn (asI (nthD qc (xix 0 (xnat ↑i) 2))) then bif xle (xadd (xnat (asI (nthD qc (xix 0 (xnat ↑i) 2)))) 1) m then bif xle (xadd (xadd (xix 0 (xnat (asI (nthD qc (xix 0 (xnat ↑i) 2)))) 3) 1) 1) (xln lc) then bif isB (nthD lc (xadd (xix 0 (xnat (asI (nthD qc (xix 0 (xnat ↑i) 2)))) 3) 1)) then bif asB (nthD lc (xadd (xix 0 (xnat (asI (nthD qc (xix 0 (xnat ↑i) 2)))) 3) 1)) then (
 K .ret [.slo 0 0 n 0, .slo 1 0 m 0, .bool false, .int .i64 ↑i] [some (.cells qc (some 2)), some (.cells lc (some 3))] [])
 else (
 bif xnn (asI (nthD qc (xix 0 (xnat ↑i) 2))) then bif xle (xadd (xnat (asI (nthD qc (xix 0 (xnat ↑i) 2)))) 1) m then bif xle (xadd (xix 0 (xnat (asI (nthD qc (xix 0 (xnat ↑i) 2)))) 3) 1) (xln lc) then bif isI .u64 (nthD lc (xix 0 (xnat (asI (nthD qc (xix 0 (xnat ↑i) 2)))) 3)) then bif xle (xadd (xnat ↑i) 1) n then bif xle (xadd (xadd (xix 0 (xnat ↑i) 2) 1) 1) (xln qc) then bif isI .u64 (nthD qc (xadd (xix 0 (xnat ↑i) 2) 1)) then bif xcm .neq (asI (nthD lc (xix 0 (xnat (asI (nthD qc (xix 0 (xnat ↑i) 2)))) 3))) (asI (nthD qc (xadd (xix 0 (xnat ↑i) 2) 1))) then (
 K .ret [.slo 0 0 n 0, .slo 1 0 m 0, .bool false, .int .i64 ↑i] [some (.cells qc (some 2)), some (.cells lc (some 3))] [])
 else (
 K .normal [.slo 0 0 n 0, .slo 1 0 m 0, .any, .int .i64 (xar .add .i64 (↑i) 1)] [some (.cells qc (some 2)), some (.cells lc (some 3))] []) else False else False else False else False else False else False else False) else False else False else False else False)) else False else False else False)
 else (
 K (.exit 0) [.slo 0 0 n 0, .slo 1 0 m 0, .any, .int .i64 ↑i] [some (.cells qc (some 2)), some (.cells lc (some 3))] [])) := by kernel_rfl
theorem sb_z (qc lc : List LV) (K : Pk) : (xsp Go.Proofs.Try.prog (fun _ => none) 40 46 ((sp Go.Proofs.Try.prog 17).drop 3) (mkTm 46 []) (mkS (sbH qc lc)) (vK sbL K)) = (
 K .ret [.any, .any, .bool true, .any] [some (.cells qc (some 2)), some (.cells lc (some 3))] []) := by kernel_rfl
end
end Go.Lev
