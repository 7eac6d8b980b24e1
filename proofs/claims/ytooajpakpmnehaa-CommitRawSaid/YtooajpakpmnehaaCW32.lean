/- chapter 25: the reference's look -/
import Derived.Test.YtooajpakpmnehaaCW31
import Derived.Test.YtooajpakpmnehaaLc
import Derived.Test.YtooajpakpmnehaaChecked
import Derived.KernelRfl

namespace Go.Lev
open Go.RowKit
set_option linter.unusedVariables false
set_option linter.unusedSimpArgs false
set_option maxRecDepth 100000
noncomputable section
abbrev CS.into (s : CS) (p : Int) (a : Nat) : CS := ⟨s.tk, s.su, s.en, s.bu, s.er, s.lk, p, a, s.now, s.st, s.ve, s.vb, s.vr⟩
abbrev CS.endd (s : CS) : CS := ⟨s.tk, s.su, 2, s.bu, s.er, s.lk, 6, 0, s.now, s.st, s.ve, s.vb, s.vr⟩
def rOut (s : CS) (e r b : Int) : CS := if s.tk.length = 0 then ⟨s.tk, s.su, e, b, r, s.lk, s.ph, s.at', s.now, s.st, s.ve, s.vb, s.vr⟩ else ⟨s.tk, s.su, 0, -1, 0, s.lk, 7, 0, s.now, s.st, e, b, r⟩
def rWrite (nc ns : Nat) (s : CS) : CS := if nc = 0 then (if ns = 0 then s.endd else s.into 6 0) else s.into 5 0
def rLk (qs : List (Int × Int)) (nc : Nat) (ss : List Int) : Nat → CS → CS
  | 0, s => rWrite nc ss.length s
  | f + 1, s => if s.at' < qs.length then (if ownB ss s.tk (qs.getD s.at' q0).1 = true then (if ownV ss s.tk (qs.getD s.at' q0).1 ≠ (qs.getD s.at' q0).2 then rOut s 5 0 (-1) else rLk qs nc ss f s.step) else s) else rWrite nc ss.length s
def rLook (qs : List (Int × Int)) (nc : Nat) (ss : List Int) (s : CS) : CS := rLk qs nc ss (qs.length - s.at') s
theorem rLook_end {qs : List (Int × Int)} {nc : Nat} {ss : List Int} {s : CS} (h : ¬ s.at' < qs.length) : rLook qs nc ss s = rWrite nc ss.length s := by
  rw [rLook, show qs.length - s.at' = 0 by omega]; rfl
theorem rLook_go {qs : List (Int × Int)} {nc : Nat} {ss : List Int} {s : CS} (h : s.at' < qs.length) : rLook qs nc ss s = if ownB ss s.tk (qs.getD s.at' q0).1 = true then (if ownV ss s.tk (qs.getD s.at' q0).1 ≠ (qs.getD s.at' q0).2 then rOut s 5 0 (-1) else rLook qs nc ss s.step) else s := by
  rw [rLook, show qs.length - s.at' = (qs.length - (s.at' + 1)) + 1 by omega, rLk, if_pos h]
  rfl
theorem cxr_ok : CtrOk Go.Proofs.Try.prog (ctrOf cxr) := cxl_ok ⟨ownG_ok, trivial⟩
theorem owV_enc (ss : List Int) (tk : List Lk) (v : Int) : owV (encL (cI .i64) ss) (encL cL tk) tk.length v = ownV ss tk v := by
  simp only [owV, ownV, decIi64_enc, decL_enc]
theorem owB_enc (ss : List Int) (tk : List Lk) (v : Int) : owB (encL (cI .i64) ss) tk.length v = ownB ss tk v := by
  simp only [owB, ownB, decIi64_enc]
theorem look_ok (me stm : Int) (qs cs : List (Int × Int)) (ss : List Int) (s : CS) (hq : qs.length ≤ 1000000) (hcs : cs.length ≤ 1000000) (hs : ss.length ≤ 1000000) (ht : s.tk.length ≤ ss.length) (h0 : s.en = 0) (h4 : s.ph = 4) :
    SFun Go.Proofs.Try.prog 61 [.ptr 0 0] (mkS (rES me stm qs cs ss s)) fun l t => l = .tup [] ∧ t = mkS (rES me stm qs cs ss (rLook qs cs.length ss s)) := by
  refine SFun.mono (SFun.pieces (Q := fun l b => l = .tup [] ∧ b = rES me stm qs cs ss (rLook qs cs.length ss s)) 56 5 lkL [] (by kernel_rfl) rfl rfl rfl ?_) fun l s' ⟨b0, ⟨h1, h2⟩, h3⟩ => ⟨h1, by rw [h3, h2]⟩
  have nq := noids_c qs
  have nc := noids_c cs
  have nss := noIds_Ii64 ss
  have fld : ∀ t : CS, t.en = 0 → t.ph = 4 → rES me stm qs cs ss t = rE me stm qs.length cs.length ss.length t.tk.length (encL cell qs) (encL cell cs) (encL (cI .i64) ss) (encL cL t.tk) t.su 0 t.bu t.er t.lk.1 t.lk.2.1 t.lk.2.2 4 t.at' t.now t.ve t.vb t.vr := fun t a b => by rw [rES, a, b]
  refine SSp.to cxr_ok (n := 40) (g := []) 0 0 rfl (σ := Unit) (fun _ => lkT) (fun _ => rES me stm qs cs ss s) (mkS_le (Nat.le_refl _)) (by kernel_rfl) ?_ fun _ => ?_
  · have nt := noids_l s.tk
    rw [fld s h0 h4, lk_a]; exact ⟨rfl, (), [.id 0, .id 1, .id 2, .id 3, .id 4], by (refine ⟨by kernel_rfl, ?_, ?_⟩ <;> repeat first | exact okTms_nil | refine okTms_cons ?_ ?_ | exact okBlks_nil | refine okBlks_cons ?_ ?_ | exact lws_nil | refine lws_cons ?_ ?_ | exact lb_dead | exact zy1 | exact zy2 | exact lb_none | refine zy3 ?_ | exact zy4 | exact lw_any | exact lw_int | exact lw_bool | exact zy5 | exact zy6 | exact lw_nils | exact lw_slo_nils | exact zy7 | exact zy8 | exact zy9 | refine lw_tup ?_ | refine lw_agg ?_ | assumption)⟩
  refine SSp.code_to (g := []) 1 rfl (σ := {t : CS // (t.en = 0 ∧ t.ph = 4 ∧ t.tk = s.tk) ∧ rWrite cs.length ss.length t = rLook qs cs.length ss s}) (fun _ => lkT) (fun t => rES me stm qs cs ss t.1) (by kernel_rfl) ?_ fun ⟨t, ⟨a1, a2, a3⟩, he⟩ => ?_
  · refine SCode.loop_vc cxr_ok (n := 40) 0 (by kernel_rfl) (σ := {t : CS // (t.en = 0 ∧ t.ph = 4 ∧ t.tk = s.tk) ∧ rLook qs cs.length ss t = rLook qs cs.length ss s}) (fun _ => lkT) (fun t => rES me stm qs cs ss t.1) (fun t => qs.length - t.1.at') (fun _ => Nat.le_of_ble_eq_true rfl) (fun ⟨t, ⟨a1, a2, a3⟩, he⟩ => ?_) ⟨s, ⟨h0, h4, rfl⟩, rfl⟩
    dsimp only
    have nt := noids_l t.tk
    have hl : t.tk.length ≤ ss.length := by rw [a3]; exact ht
    have ok := okK_enc hq hcs hs hl
    rw [fld t a1 a2, lk_b, wd_lss]
    refine ite_way (fun h2 => ?_) (fun h2 => by rw [rLook_end h2] at he; exact ⟨rfl, ⟨t, ⟨a1, a2, a3⟩, he⟩, [.id 0, .id 1, .id 2, .id 3, .id 4], by dsimp only; rw [fld t a1 a2]; (refine ⟨by kernel_rfl, ?_, ?_⟩ <;> repeat first | exact okTms_nil | refine okTms_cons ?_ ?_ | exact okBlks_nil | refine okBlks_cons ?_ ?_ | exact lws_nil | refine lws_cons ?_ ?_ | exact lb_dead | exact zy1 | exact zy2 | exact lb_none | refine zy3 ?_ | exact zy4 | exact lw_any | exact lw_int | exact lw_bool | exact zy5 | exact zy6 | exact lw_nils | exact lw_slo_nils | exact zy7 | exact zy8 | exact zy9 | refine lw_tup ?_ | refine lw_agg ?_ | assumption)⟩)
    rw [rLook_go h2] at he
    have e3 : xar .add .i64 (t.at' : Int) 1 = ((t.at' + 1 : Nat) : Int) := inc_i64 h2 (by omega)
    simp only [wd_nat, wd_asV, wd_isV, wd_ix, wd_add, wd_mul, wd_ln, Nat.zero_add, Nat.mul_one, wd_isI, wd_asI, wd_isB, wd_asB, wd_nn, cI_tlen, cB_tlen, cII_tlen, decide_true, cond_true, wd_not_t, wd_not_f, wd_and_t, wd_and_f, Nat.add_assoc, Nat.reduceAdd, cell_0 h2, cell_1 h2, cell_n, ok, owV_enc, owB_enc, e3]
    rw [getD_q h2] at he
    cases hB : ownB ss t.tk qs[t.at'].1 with
    | false =>
      rw [hB, if_neg (by simp)] at he
      (with_reducible repeat first | refine zq1 ?_ | refine zq2 ?_ | refine zq3 ?_ | refine zq4 ?_ | refine zq5 ?_ | refine zq6 ?_ | refine zq7 ?_ | refine zq8 ?_ | refine zq9 ?_ | refine zqa ?_ | refine zqb ?_ | refine zqc ?_ | refine zqd ?_ | refine zqe ?_ | refine zqf ?_ | refine zqg ?_ | refine zqh ?_ | refine zqi ?_ | refine zqj ?_ | refine zqk ?_ | refine zql ?_ | refine zqm ?_ | refine zqn ?_ | refine zqo ?_ | refine zqp ?_)
      exact ⟨trivial, rfl, _, _, [.id 0, .id 1, .id 2, .id 3, .id 4], ⟨rfl, rfl⟩, by rw [← he, fld t a1 a2]; (refine ⟨by kernel_rfl, ?_, ?_⟩ <;> repeat first | exact okTms_nil | refine okTms_cons ?_ ?_ | exact okBlks_nil | refine okBlks_cons ?_ ?_ | exact lws_nil | refine lws_cons ?_ ?_ | exact lb_dead | exact zy1 | exact zy2 | exact lb_none | refine zy3 ?_ | exact zy4 | exact lw_any | exact lw_int | exact lw_bool | exact zy5 | exact zy6 | exact lw_nils | exact lw_slo_nils | exact zy7 | exact zy8 | exact zy9 | refine lw_tup ?_ | refine lw_agg ?_ | assumption)⟩
    | true =>
      rw [hB, if_pos rfl] at he
      by_cases h3 : ownV ss t.tk qs[t.at'].1 = qs[t.at'].2
      · rw [if_neg (by simpa using h3)] at he
        (with_reducible repeat first | refine zq1 ?_ | refine zq2 ?_ | refine zq3 ?_ | refine zq4 ?_ | refine zq5 ?_ | refine zq6 ?_ | refine zq7 ?_ | refine zq8 ?_ | refine zq9 ?_ | refine zqa ?_ | refine zqb ?_ | refine zqc ?_ | refine zqd ?_ | refine zqe ?_ | refine zqf ?_ | refine zqg ?_ | refine zqh ?_ | refine zqi ?_ | refine zqj ?_ | refine zqk ?_ | refine zql ?_ | refine zqm ?_ | refine zqn ?_ | refine zqo ?_ | refine zqp ?_)
        exact ⟨rfl, ⟨t.step, ⟨a1, a2, a3⟩, he⟩, by simp only; omega, [.id 0, .id 1, .id 2, .id 3, .id 4], by dsimp only; rw [fld t.step a1 a2]; (refine ⟨by kernel_rfl, ?_, ?_⟩ <;> repeat first | exact okTms_nil | refine okTms_cons ?_ ?_ | exact okBlks_nil | refine okBlks_cons ?_ ?_ | exact lws_nil | refine lws_cons ?_ ?_ | exact lb_dead | exact zy1 | exact zy2 | exact lb_none | refine zy3 ?_ | exact zy4 | exact lw_any | exact lw_int | exact lw_bool | exact zy5 | exact zy6 | exact lw_nils | exact lw_slo_nils | exact zy7 | exact zy8 | exact zy9 | refine lw_tup ?_ | refine lw_agg ?_ | assumption)⟩
      · rw [if_pos (by simpa using h3)] at he
        by_cases h5 : t.tk.length = 0
        · rw [rOut, if_pos h5] at he
          (with_reducible repeat first | refine zq1 ?_ | refine zq2 ?_ | refine zq3 ?_ | refine zq4 ?_ | refine zq5 ?_ | refine zq6 ?_ | refine zq7 ?_ | refine zq8 ?_ | refine zq9 ?_ | refine zqa ?_ | refine zqb ?_ | refine zqc ?_ | refine zqd ?_ | refine zqe ?_ | refine zqf ?_ | refine zqg ?_ | refine zqh ?_ | refine zqi ?_ | refine zqj ?_ | refine zqk ?_ | refine zql ?_ | refine zqm ?_ | refine zqn ?_ | refine zqo ?_ | refine zqp ?_)
          exact ⟨trivial, rfl, _, _, [.id 0, .id 1, .id 2, .id 3, .id 4], ⟨rfl, rfl⟩, by rw [← he, rES, a2]; (refine ⟨by kernel_rfl, ?_, ?_⟩ <;> repeat first | exact okTms_nil | refine okTms_cons ?_ ?_ | exact okBlks_nil | refine okBlks_cons ?_ ?_ | exact lws_nil | refine lws_cons ?_ ?_ | exact lb_dead | exact zy1 | exact zy2 | exact lb_none | refine zy3 ?_ | exact zy4 | exact lw_any | exact lw_int | exact lw_bool | exact zy5 | exact zy6 | exact lw_nils | exact lw_slo_nils | exact zy7 | exact zy8 | exact zy9 | refine lw_tup ?_ | refine lw_agg ?_ | assumption)⟩
        · rw [rOut, if_neg h5] at he
          (with_reducible repeat first | refine zq1 ?_ | refine zq2 ?_ | refine zq3 ?_ | refine zq4 ?_ | refine zq5 ?_ | refine zq6 ?_ | refine zq7 ?_ | refine zq8 ?_ | refine zq9 ?_ | refine zqa ?_ | refine zqb ?_ | refine zqc ?_ | refine zqd ?_ | refine zqe ?_ | refine zqf ?_ | refine zqg ?_ | refine zqh ?_ | refine zqi ?_ | refine zqj ?_ | refine zqk ?_ | refine zql ?_ | refine zqm ?_ | refine zqn ?_ | refine zqo ?_ | refine zqp ?_)
          exact ⟨trivial, rfl, _, _, [.id 0, .id 1, .id 2, .id 3, .id 4], ⟨rfl, rfl⟩, by rw [← he]; (refine ⟨by kernel_rfl, ?_, ?_⟩ <;> repeat first | exact okTms_nil | refine okTms_cons ?_ ?_ | exact okBlks_nil | refine okBlks_cons ?_ ?_ | exact lws_nil | refine lws_cons ?_ ?_ | exact lb_dead | exact zy1 | exact zy2 | exact lb_none | refine zy3 ?_ | exact zy4 | exact lw_any | exact lw_int | exact lw_bool | exact zy5 | exact zy6 | exact lw_nils | exact lw_slo_nils | exact zy7 | exact zy8 | exact zy9 | refine lw_tup ?_ | refine lw_agg ?_ | assumption)⟩
  refine SSp.last cxr_ok (n := 40) (mkS_le (Nat.le_of_ble_eq_true rfl)) ?_
  have nt := noids_l t.tk
  dsimp only
  rw [fld t a1 a2, lk_z, ← he, rWrite]
  by_cases h5 : cs.length = 0
  · rw [if_pos h5]
    by_cases h6 : ss.length = 0
    · rw [if_pos h6]
      (with_reducible repeat first | refine zq1 ?_ | refine zq2 ?_ | refine zq3 ?_ | refine zq4 ?_ | refine zq5 ?_ | refine zq6 ?_ | refine zq7 ?_ | refine zq8 ?_ | refine zq9 ?_ | refine zqa ?_ | refine zqb ?_ | refine zqc ?_ | refine zqd ?_ | refine zqe ?_ | refine zqf ?_ | refine zqg ?_ | refine zqh ?_ | refine zqi ?_ | refine zqj ?_ | refine zqk ?_ | refine zql ?_ | refine zqm ?_ | refine zqn ?_ | refine zqo ?_ | refine zqp ?_)
      exact ⟨trivial, rfl, _, _, [.id 0, .id 1, .id 2, .id 3, .id 4], ⟨rfl, rfl⟩, by (refine ⟨by kernel_rfl, ?_, ?_⟩ <;> repeat first | exact okTms_nil | refine okTms_cons ?_ ?_ | exact okBlks_nil | refine okBlks_cons ?_ ?_ | exact lws_nil | refine lws_cons ?_ ?_ | exact lb_dead | exact zy1 | exact zy2 | exact lb_none | refine zy3 ?_ | exact zy4 | exact lw_any | exact lw_int | exact lw_bool | exact zy5 | exact zy6 | exact lw_nils | exact lw_slo_nils | exact zy7 | exact zy8 | exact zy9 | refine lw_tup ?_ | refine lw_agg ?_ | assumption)⟩
    · rw [if_neg h6]
      (with_reducible repeat first | refine zq1 ?_ | refine zq2 ?_ | refine zq3 ?_ | refine zq4 ?_ | refine zq5 ?_ | refine zq6 ?_ | refine zq7 ?_ | refine zq8 ?_ | refine zq9 ?_ | refine zqa ?_ | refine zqb ?_ | refine zqc ?_ | refine zqd ?_ | refine zqe ?_ | refine zqf ?_ | refine zqg ?_ | refine zqh ?_ | refine zqi ?_ | refine zqj ?_ | refine zqk ?_ | refine zql ?_ | refine zqm ?_ | refine zqn ?_ | refine zqo ?_ | refine zqp ?_)
      exact ⟨trivial, rfl, _, _, [.id 0, .id 1, .id 2, .id 3, .id 4], ⟨rfl, rfl⟩, by rw [rES, show (t.into 6 0).en = 0 from a1]; (refine ⟨by kernel_rfl, ?_, ?_⟩ <;> repeat first | exact okTms_nil | refine okTms_cons ?_ ?_ | exact okBlks_nil | refine okBlks_cons ?_ ?_ | exact lws_nil | refine lws_cons ?_ ?_ | exact lb_dead | exact zy1 | exact zy2 | exact lb_none | refine zy3 ?_ | exact zy4 | exact lw_any | exact lw_int | exact lw_bool | exact zy5 | exact zy6 | exact lw_nils | exact lw_slo_nils | exact zy7 | exact zy8 | exact zy9 | refine lw_tup ?_ | refine lw_agg ?_ | assumption)⟩
  · rw [if_neg h5]
    (with_reducible repeat first | refine zq1 ?_ | refine zq2 ?_ | refine zq3 ?_ | refine zq4 ?_ | refine zq5 ?_ | refine zq6 ?_ | refine zq7 ?_ | refine zq8 ?_ | refine zq9 ?_ | refine zqa ?_ | refine zqb ?_ | refine zqc ?_ | refine zqd ?_ | refine zqe ?_ | refine zqf ?_ | refine zqg ?_ | refine zqh ?_ | refine zqi ?_ | refine zqj ?_ | refine zqk ?_ | refine zql ?_ | refine zqm ?_ | refine zqn ?_ | refine zqo ?_ | refine zqp ?_)
    exact ⟨trivial, rfl, _, _, [.id 0, .id 1, .id 2, .id 3, .id 4], ⟨rfl, rfl⟩, by rw [rES, show (t.into 5 0).en = 0 from a1]; (refine ⟨by kernel_rfl, ?_, ?_⟩ <;> repeat first | exact okTms_nil | refine okTms_cons ?_ ?_ | exact okBlks_nil | refine okBlks_cons ?_ ?_ | exact lws_nil | refine lws_cons ?_ ?_ | exact lb_dead | exact zy1 | exact zy2 | exact lb_none | refine zy3 ?_ | exact zy4 | exact lw_any | exact lw_int | exact lw_bool | exact zy5 | exact zy6 | exact lw_nils | exact lw_slo_nils | exact zy7 | exact zy8 | exact zy9 | refine lw_tup ?_ | refine lw_agg ?_ | assumption)⟩
end
end Go.Lev
