/- chapter 25: the reference's Next and Tell as contracts -/
import Derived.Test.YtooajpakpmnehaaCW35
import Derived.Test.YtooajpakpmnehaaLc
import Derived.Test.YtooajpakpmnehaaChecked
import Derived.KernelRfl

namespace Go.Lev
open Go.RowKit
set_option linter.unusedVariables false
set_option linter.unusedSimpArgs false
set_option maxRecDepth 100000
noncomputable section
set_option maxHeartbeats 1000000 in
theorem rnext_ok (me stm : Int) (qs cs : List (Int × Int)) (ss : List Int) (s : CS) (hq : qs.length ≤ 1000000) (hcs : cs.length ≤ 1000000) (hs : ss.length ≤ 1000000) (hc : s.Ok qs.length cs.length ss.length) (h0 : s.en = 0) :
    SFun Go.Proofs.Try.prog 20 [.ptr 0 0] (mkS (rES me stm qs cs ss s)) fun l t => l = .agg (opL (opOf me qs cs ss s)) ∧ t = mkS (rES me stm qs cs ss s) := by
  refine SFun.mono (SFun.vc (Q := fun l b => l = .agg (opL (opOf me qs cs ss s)) ∧ b = rES me stm qs cs ss s) cxw_ok (n := 60) 5 rfl ?_) fun l s' ⟨b0, ⟨h1, h2⟩, h3⟩ => ⟨h1, by rw [h3, h2]⟩
  have nq := noids_c qs
  have nc := noids_c cs
  have nss := noIds_Ii64 ss
  have nt := noids_l s.tk
  obtain ⟨hsu, htk, hat, hgo⟩ := hc
  obtain ⟨h5, h6, h8, h9, h10, h11, h12, h13, h14, h15⟩ := hgo h0
  rw [show rES me stm qs cs ss s = rE me stm qs.length cs.length ss.length s.tk.length (encL cell qs) (encL cell cs) (encL (cI .i64) ss) (encL cL s.tk) s.su 0 s.bu s.er s.lk.1 s.lk.2.1 s.lk.2.2 s.ph s.at' s.now s.ve s.vb s.vr by rw [rES, h0]]
  rw [rn_x]
  have E0 : opOf me qs cs ss s = if s.ph = 0 then ⟨3, ss.getD s.at' 0, 0, 0, d0, d0⟩
    else if s.ph = 1 then ⟨4, ss.getD s.at' 0, 0, 0, s.lk, (s.lk.1, true, me)⟩
    else if s.ph = 2 then ⟨6, 0, 0, 0, d0, d0⟩
    else if s.ph = 3 then ⟨7, 0, s.now, s.now + 1, d0, d0⟩
    else if s.ph = 4 then ⟨3, (qs.getD s.at' q0).1, 0, 0, d0, d0⟩
    else if s.ph = 5 then ⟨2, (cs.getD s.at' q0).1, 0, (cs.getD s.at' q0).2, d0, d0⟩
    else if s.ph = 6 then ⟨5, ss.getD s.at' 0, 0, 0, d0, (s.now + 1, false, 0)⟩
    else ⟨5, ss.getD s.at' 0, 0, 0, d0, s.tk.getD s.at' d0⟩ := by rw [opOf, if_neg (by simpa using h0)]
  rw [E0]
  clear E0
  by_cases p0 : s.ph = 0
  · obtain ⟨g1, g2⟩ := h6 (.inl p0)
    rw [if_pos p0, getD_i g2]
    simp only [wd_nat, wd_asV, wd_isV, wd_ix, wd_add, wd_mul, wd_ln, Nat.zero_add, Nat.mul_one, wd_isI, wd_asI, wd_isB, wd_asB, wd_nn, cI_tlen, cB_tlen, cII_tlen, decide_true, cond_true, wd_not_t, wd_not_f, wd_and_t, wd_and_f, encIi64_nth g2, encIi64_len]
    (with_reducible repeat first | refine zq1 ?_ | refine zq2 ?_ | refine zq3 ?_ | refine zq4 ?_ | refine zq5 ?_ | refine zq6 ?_ | refine zq7 ?_ | refine zq8 ?_ | refine zq9 ?_ | refine zqa ?_ | refine zqb ?_ | refine zqc ?_ | refine zqd ?_ | refine zqe ?_ | refine zqf ?_ | refine zqg ?_ | refine zqh ?_ | refine zqi ?_ | refine zqj ?_ | refine zqk ?_ | refine zql ?_ | refine zqm ?_ | refine zqn ?_ | refine zqo ?_ | refine zqp ?_)
    exact ⟨rfl, _, _, [.id 0, .id 1, .id 2, .id 3, .id 4], ⟨rfl, rfl⟩, by (refine ⟨by kernel_rfl, ?_, ?_⟩ <;> repeat first | exact okTms_nil | refine okTms_cons ?_ ?_ | exact okBlks_nil | refine okBlks_cons ?_ ?_ | exact lws_nil | refine lws_cons ?_ ?_ | exact lb_dead | exact zy1 | exact zy2 | exact lb_none | refine zy3 ?_ | exact zy4 | exact lw_any | exact lw_int | exact lw_bool | exact zy5 | exact zy6 | exact lw_nils | exact lw_slo_nils | exact zy7 | exact zy8 | exact zy9 | refine lw_tup ?_ | refine lw_agg ?_ | assumption)⟩
  rw [if_neg p0]
  by_cases p1 : s.ph = 1
  · obtain ⟨g1, g2⟩ := h6 (.inr p1)
    rw [if_pos p1, getD_i g2]
    simp only [wd_nat, wd_asV, wd_isV, wd_ix, wd_add, wd_mul, wd_ln, Nat.zero_add, Nat.mul_one, wd_isI, wd_asI, wd_isB, wd_asB, wd_nn, cI_tlen, cB_tlen, cII_tlen, decide_true, cond_true, wd_not_t, wd_not_f, wd_and_t, wd_and_f, encIi64_nth g2, encIi64_len]
    (with_reducible repeat first | refine zq1 ?_ | refine zq2 ?_ | refine zq3 ?_ | refine zq4 ?_ | refine zq5 ?_ | refine zq6 ?_ | refine zq7 ?_ | refine zq8 ?_ | refine zq9 ?_ | refine zqa ?_ | refine zqb ?_ | refine zqc ?_ | refine zqd ?_ | refine zqe ?_ | refine zqf ?_ | refine zqg ?_ | refine zqh ?_ | refine zqi ?_ | refine zqj ?_ | refine zqk ?_ | refine zql ?_ | refine zqm ?_ | refine zqn ?_ | refine zqo ?_ | refine zqp ?_)
    exact ⟨rfl, _, _, [.id 0, .id 1, .id 2, .id 3, .id 4], ⟨rfl, rfl⟩, by (refine ⟨by kernel_rfl, ?_, ?_⟩ <;> repeat first | exact okTms_nil | refine okTms_cons ?_ ?_ | exact okBlks_nil | refine okBlks_cons ?_ ?_ | exact lws_nil | refine lws_cons ?_ ?_ | exact lb_dead | exact zy1 | exact zy2 | exact lb_none | refine zy3 ?_ | exact zy4 | exact lw_any | exact lw_int | exact lw_bool | exact zy5 | exact zy6 | exact lw_nils | exact lw_slo_nils | exact zy7 | exact zy8 | exact zy9 | refine lw_tup ?_ | refine lw_agg ?_ | assumption)⟩
  rw [if_neg p1]
  by_cases p2 : s.ph = 2
  · rw [if_pos p2]
    simp only [wd_nat, wd_asV, wd_isV, wd_ix, wd_add, wd_mul, wd_ln, Nat.zero_add, Nat.mul_one, wd_isI, wd_asI, wd_isB, wd_asB, wd_nn, cI_tlen, cB_tlen, cII_tlen, decide_true, cond_true, wd_not_t, wd_not_f, wd_and_t, wd_and_f, cm_self]
    (with_reducible repeat first | refine zq1 ?_ | refine zq2 ?_ | refine zq3 ?_ | refine zq4 ?_ | refine zq5 ?_ | refine zq6 ?_ | refine zq7 ?_ | refine zq8 ?_ | refine zq9 ?_ | refine zqa ?_ | refine zqb ?_ | refine zqc ?_ | refine zqd ?_ | refine zqe ?_ | refine zqf ?_ | refine zqg ?_ | refine zqh ?_ | refine zqi ?_ | refine zqj ?_ | refine zqk ?_ | refine zql ?_ | refine zqm ?_ | refine zqn ?_ | refine zqo ?_ | refine zqp ?_)
    exact ⟨rfl, _, _, [.id 0, .id 1, .id 2, .id 3, .id 4], ⟨rfl, rfl⟩, by (refine ⟨by kernel_rfl, ?_, ?_⟩ <;> repeat first | exact okTms_nil | refine okTms_cons ?_ ?_ | exact okBlks_nil | refine okBlks_cons ?_ ?_ | exact lws_nil | refine lws_cons ?_ ?_ | exact lb_dead | exact zy1 | exact zy2 | exact lb_none | refine zy3 ?_ | exact zy4 | exact lw_any | exact lw_int | exact lw_bool | exact zy5 | exact zy6 | exact lw_nils | exact lw_slo_nils | exact zy7 | exact zy8 | exact zy9 | refine lw_tup ?_ | refine lw_agg ?_ | assumption)⟩
  rw [if_neg p2]
  by_cases p3 : s.ph = 3
  · obtain ⟨n1, n2⟩ := h13 (by omega) (by omega)
    have e1 : xar .add .u64 s.now 1 = s.now + 1 := by rw [xar_add]; exact wr_u64 (by omega) (by omega)
    rw [if_pos p3]
    simp only [wd_nat, wd_asV, wd_isV, wd_ix, wd_add, wd_mul, wd_ln, Nat.zero_add, Nat.mul_one, wd_isI, wd_asI, wd_isB, wd_asB, wd_nn, cI_tlen, cB_tlen, cII_tlen, decide_true, cond_true, wd_not_t, wd_not_f, wd_and_t, wd_and_f, e1]
    (with_reducible repeat first | refine zq1 ?_ | refine zq2 ?_ | refine zq3 ?_ | refine zq4 ?_ | refine zq5 ?_ | refine zq6 ?_ | refine zq7 ?_ | refine zq8 ?_ | refine zq9 ?_ | refine zqa ?_ | refine zqb ?_ | refine zqc ?_ | refine zqd ?_ | refine zqe ?_ | refine zqf ?_ | refine zqg ?_ | refine zqh ?_ | refine zqi ?_ | refine zqj ?_ | refine zqk ?_ | refine zql ?_ | refine zqm ?_ | refine zqn ?_ | refine zqo ?_ | refine zqp ?_)
    exact ⟨rfl, _, _, [.id 0, .id 1, .id 2, .id 3, .id 4], ⟨rfl, rfl⟩, by (refine ⟨by kernel_rfl, ?_, ?_⟩ <;> repeat first | exact okTms_nil | refine okTms_cons ?_ ?_ | exact okBlks_nil | refine okBlks_cons ?_ ?_ | exact lws_nil | refine lws_cons ?_ ?_ | exact lb_dead | exact zy1 | exact zy2 | exact lb_none | refine zy3 ?_ | exact zy4 | exact lw_any | exact lw_int | exact lw_bool | exact zy5 | exact zy6 | exact lw_nils | exact lw_slo_nils | exact zy7 | exact zy8 | exact zy9 | refine lw_tup ?_ | refine lw_agg ?_ | assumption)⟩
  rw [if_neg p3]
  by_cases p4 : s.ph = 4
  · have g2 := h9 p4
    rw [if_pos p4, getD_q g2]
    simp only [wd_nat, wd_asV, wd_isV, wd_ix, wd_add, wd_mul, wd_ln, Nat.zero_add, Nat.mul_one, wd_isI, wd_asI, wd_isB, wd_asB, wd_nn, cI_tlen, cB_tlen, cII_tlen, decide_true, cond_true, wd_not_t, wd_not_f, wd_and_t, wd_and_f, cell_0 g2, cell_n]
    (with_reducible repeat first | refine zq1 ?_ | refine zq2 ?_ | refine zq3 ?_ | refine zq4 ?_ | refine zq5 ?_ | refine zq6 ?_ | refine zq7 ?_ | refine zq8 ?_ | refine zq9 ?_ | refine zqa ?_ | refine zqb ?_ | refine zqc ?_ | refine zqd ?_ | refine zqe ?_ | refine zqf ?_ | refine zqg ?_ | refine zqh ?_ | refine zqi ?_ | refine zqj ?_ | refine zqk ?_ | refine zql ?_ | refine zqm ?_ | refine zqn ?_ | refine zqo ?_ | refine zqp ?_)
    exact ⟨rfl, _, _, [.id 0, .id 1, .id 2, .id 3, .id 4], ⟨rfl, rfl⟩, by (refine ⟨by kernel_rfl, ?_, ?_⟩ <;> repeat first | exact okTms_nil | refine okTms_cons ?_ ?_ | exact okBlks_nil | refine okBlks_cons ?_ ?_ | exact lws_nil | refine lws_cons ?_ ?_ | exact lb_dead | exact zy1 | exact zy2 | exact lb_none | refine zy3 ?_ | exact zy4 | exact lw_any | exact lw_int | exact lw_bool | exact zy5 | exact zy6 | exact lw_nils | exact lw_slo_nils | exact zy7 | exact zy8 | exact zy9 | refine lw_tup ?_ | refine lw_agg ?_ | assumption)⟩
  rw [if_neg p4]
  by_cases p5 : s.ph = 5
  · have g2 := h10 p5
    rw [if_pos p5, getD_q g2]
    simp only [wd_nat, wd_asV, wd_isV, wd_ix, wd_add, wd_mul, wd_ln, Nat.zero_add, Nat.mul_one, wd_isI, wd_asI, wd_isB, wd_asB, wd_nn, cI_tlen, cB_tlen, cII_tlen, decide_true, cond_true, wd_not_t, wd_not_f, wd_and_t, wd_and_f, Nat.add_assoc, Nat.reduceAdd, cell_0 g2, cell_1 g2, cell_n]
    (with_reducible repeat first | refine zq1 ?_ | refine zq2 ?_ | refine zq3 ?_ | refine zq4 ?_ | refine zq5 ?_ | refine zq6 ?_ | refine zq7 ?_ | refine zq8 ?_ | refine zq9 ?_ | refine zqa ?_ | refine zqb ?_ | refine zqc ?_ | refine zqd ?_ | refine zqe ?_ | refine zqf ?_ | refine zqg ?_ | refine zqh ?_ | refine zqi ?_ | refine zqj ?_ | refine zqk ?_ | refine zql ?_ | refine zqm ?_ | refine zqn ?_ | refine zqo ?_ | refine zqp ?_)
    exact ⟨rfl, _, _, [.id 0, .id 1, .id 2, .id 3, .id 4], ⟨rfl, rfl⟩, by (refine ⟨by kernel_rfl, ?_, ?_⟩ <;> repeat first | exact okTms_nil | refine okTms_cons ?_ ?_ | exact okBlks_nil | refine okBlks_cons ?_ ?_ | exact lws_nil | refine lws_cons ?_ ?_ | exact lb_dead | exact zy1 | exact zy2 | exact lb_none | refine zy3 ?_ | exact zy4 | exact lw_any | exact lw_int | exact lw_bool | exact zy5 | exact zy6 | exact lw_nils | exact lw_slo_nils | exact zy7 | exact zy8 | exact zy9 | refine lw_tup ?_ | refine lw_agg ?_ | assumption)⟩
  rw [if_neg p5]
  by_cases p6 : s.ph = 6
  · obtain ⟨n1, n2⟩ := h13 (by omega) (by omega)
    have e1 : xar .add .u64 s.now 1 = s.now + 1 := by rw [xar_add]; exact wr_u64 (by omega) (by omega)
    have g1 := h12 (.inl p6)
    have g2 : s.at' < ss.length := by omega
    rw [if_pos p6, getD_i g2]
    simp only [wd_nat, wd_asV, wd_isV, wd_ix, wd_add, wd_mul, wd_ln, Nat.zero_add, Nat.mul_one, wd_isI, wd_asI, wd_isB, wd_asB, wd_nn, cI_tlen, cB_tlen, cII_tlen, decide_true, cond_true, wd_not_t, wd_not_f, wd_and_t, wd_and_f, encIi64_nth g2, encIi64_len, e1]
    (with_reducible repeat first | refine zq1 ?_ | refine zq2 ?_ | refine zq3 ?_ | refine zq4 ?_ | refine zq5 ?_ | refine zq6 ?_ | refine zq7 ?_ | refine zq8 ?_ | refine zq9 ?_ | refine zqa ?_ | refine zqb ?_ | refine zqc ?_ | refine zqd ?_ | refine zqe ?_ | refine zqf ?_ | refine zqg ?_ | refine zqh ?_ | refine zqi ?_ | refine zqj ?_ | refine zqk ?_ | refine zql ?_ | refine zqm ?_ | refine zqn ?_ | refine zqo ?_ | refine zqp ?_)
    exact ⟨rfl, _, _, [.id 0, .id 1, .id 2, .id 3, .id 4], ⟨rfl, rfl⟩, by (refine ⟨by kernel_rfl, ?_, ?_⟩ <;> repeat first | exact okTms_nil | refine okTms_cons ?_ ?_ | exact okBlks_nil | refine okBlks_cons ?_ ?_ | exact lws_nil | refine lws_cons ?_ ?_ | exact lb_dead | exact zy1 | exact zy2 | exact lb_none | refine zy3 ?_ | exact zy4 | exact lw_any | exact lw_int | exact lw_bool | exact zy5 | exact zy6 | exact lw_nils | exact lw_slo_nils | exact zy7 | exact zy8 | exact zy9 | refine lw_tup ?_ | refine lw_agg ?_ | assumption)⟩
  rw [if_neg p6]
  have g1 := h12 (.inr (by omega))
  have g2 : s.at' < ss.length := by omega
  rw [getD_i g2, getD_l g1]
  simp only [wd_nat, wd_asV, wd_isV, wd_ix, wd_add, wd_mul, wd_ln, Nat.zero_add, Nat.mul_one, wd_isI, wd_asI, wd_isB, wd_asB, wd_nn, cI_tlen, cB_tlen, cII_tlen, decide_true, cond_true, wd_not_t, wd_not_f, wd_and_t, wd_and_f, Nat.add_assoc, Nat.reduceAdd, encIi64_nth g2, encIi64_len, lk_0 g1, lk_1 g1, lk_2 g1, lk_n]
  (with_reducible repeat first | refine zq1 ?_ | refine zq2 ?_ | refine zq3 ?_ | refine zq4 ?_ | refine zq5 ?_ | refine zq6 ?_ | refine zq7 ?_ | refine zq8 ?_ | refine zq9 ?_ | refine zqa ?_ | refine zqb ?_ | refine zqc ?_ | refine zqd ?_ | refine zqe ?_ | refine zqf ?_ | refine zqg ?_ | refine zqh ?_ | refine zqi ?_ | refine zqj ?_ | refine zqk ?_ | refine zql ?_ | refine zqm ?_ | refine zqn ?_ | refine zqo ?_ | refine zqp ?_)
  exact ⟨rfl, _, _, [.id 0, .id 1, .id 2, .id 3, .id 4], ⟨rfl, rfl⟩, by (refine ⟨by kernel_rfl, ?_, ?_⟩ <;> repeat first | exact okTms_nil | refine okTms_cons ?_ ?_ | exact okBlks_nil | refine okBlks_cons ?_ ?_ | exact lws_nil | refine lws_cons ?_ ?_ | exact lb_dead | exact zy1 | exact zy2 | exact lb_none | refine zy3 ?_ | exact zy4 | exact lw_any | exact lw_int | exact lw_bool | exact zy5 | exact zy6 | exact lw_nils | exact lw_slo_nils | exact zy7 | exact zy8 | exact zy9 | refine lw_tup ?_ | refine lw_agg ?_ | assumption)⟩
/-- What holds of the reference's, whether it goes or not. -/
structure CS.RB (nq ns : Nat) (s : CS) : Prop where
  su : 0 ≤ s.su ∧ s.su ≤ 4
  tk : s.tk.length ≤ ns
  at1 : s.at' ≤ 1000000
  st : s.st = false
theorem Sm.rok {qs : List (Int × Int)} {nc : Nat} {ss : List Int} {c r : CS} (h : Sm qs ss c r) (hok : c.Ok qs.length nc ss.length) (q0 : c.en = 0) : r.Ok qs.length nc ss.length := by
  obtain ⟨s1, s2, s3, s4⟩ := h
  obtain ⟨k1, k2, k3, k4⟩ := hok
  obtain ⟨k5, ka, kz, kb, kc, kf, kd, kn, kv, ke⟩ := k4 q0
  obtain ⟨⟨t1, t2, t3, t4, t5⟩, t6, t7, t8⟩ := s4 q0
  rw [t1] at ka kf kd k2
  rw [t2] at k1
  rw [t3] at k5 ka kz kb kc kf kd kn kv t6 t7
  rw [t4] at ka kz kb kc kd k3
  refine ⟨k1, k2, k3, fun _ => ⟨k5, ka, kz, kb, kc, kf, kd, fun a b => by rw [← t6 a b]; exact kn a b, fun a => by rw [← (t7 a).1]; exact kv a, ⟨by rw [← s2]; exact ke.1, by rw [← s3]; exact ke.2⟩⟩⟩
theorem rOut_rb {nq ns : Nat} {s : CS} (h : s.RB nq ns) (e r b : Int) : (rOut s e r b).RB nq ns := by
  unfold rOut; split
  · exact ⟨h.su, h.tk, h.at1, h.st⟩
  · exact ⟨h.su, h.tk, Nat.zero_le _, h.st⟩
theorem rWrite_rb {nq ns : Nat} {s : CS} (h : s.RB nq ns) (nc n : Nat) : (rWrite nc n s).RB nq ns := by
  unfold rWrite; split
  · split <;> exact ⟨h.su, h.tk, Nat.zero_le _, h.st⟩
  · exact ⟨h.su, h.tk, Nat.zero_le _, h.st⟩
theorem rLk_rb {qs : List (Int × Int)} {nc : Nat} {ss : List Int} (hq : qs.length ≤ 1000000) : ∀ (f : Nat) {s : CS}, s.RB qs.length ss.length → (rLk qs nc ss f s).RB qs.length ss.length
  | 0, s, h => rWrite_rb h _ _
  | f + 1, s, h => by
    rw [rLk]
    split
    · split
      · split
        · exact rOut_rb h _ _ _
        · exact rLk_rb hq f ⟨h.su, h.tk, by simp only; omega, h.st⟩
      · exact h
    · exact rWrite_rb h _ _
theorem rTell_rb {me stm : Int} {qs : List (Int × Int)} {nc : Nat} {ss : List Int} {c r : CS} (h : Sm qs ss c r) (hok : c.Ok qs.length nc ss.length) (hb : qs.length ≤ 1000000 ∧ nc ≤ 1000000 ∧ ss.length ≤ 1000000) (hr : r.RB qs.length ss.length) (w v : Int) (hh : Bool) (o : Int) (d : Bool) (e : Int) : (rTell me stm qs nc ss r w v hh o d e).RB qs.length ss.length := by
  obtain ⟨b1, b2, b3, b4⟩ := hr
  have hr : r.RB qs.length ss.length := ⟨b1, b2, b3, b4⟩
  unfold rTell
  by_cases z0 : r.en = 0
  case neg => rw [if_pos z0]; exact hr
  rw [if_neg (by simpa using z0)]
  by_cases z1 : e = 0
  case neg => rw [if_pos z1]; exact ⟨b1, b2, b3, b4⟩
  rw [if_neg (by simpa using z1)]
  have rok := h.rok hok (by rw [h.en]; exact z0)
  obtain ⟨k5, ka, kz, kb, kc, kf, kd, kn, kv, ke⟩ := rok.go z0
  have aw : (rAw me r o).RB qs.length ss.length := by
    unfold rAw; split
    · exact hr
    · split
      · exact ⟨by simp only; omega, b2, b3, b4⟩
      · exact rOut_rb hr _ _ _
  have stp : (r.ph = 4 ∨ r.ph = 5 ∨ r.ph = 6 ∨ r.ph = 7) → r.at' + 1 ≤ 1000000 := fun p => by
    rcases p with p | p | p | p
    · have := kb p; omega
    · have := kc p; omega
    · have := kd (.inl p); omega
    · have := kd (.inr p); omega
  unfold rSw
  by_cases p0 : r.ph = 0
  · rw [if_pos p0]; split
    · exact aw
    · exact ⟨b1, b2, b3, b4⟩
  rw [if_neg p0]
  by_cases p1 : r.ph = 1
  · rw [if_pos p1]
    have := ka (.inr p1)
    split
    · split
      · exact ⟨b1, by simp only [List.length_append, List.length_cons, List.length_nil]; omega, Nat.zero_le _, b4⟩
      · exact ⟨b1, by simp only [List.length_append, List.length_cons, List.length_nil]; omega, by simp only; omega, b4⟩
    · exact ⟨b1, b2, b3, b4⟩
  rw [if_neg p1]
  by_cases p2 : r.ph = 2
  · rw [if_pos p2]; split
    · exact rOut_rb (s := r.dated w) ⟨b1, b2, b3, b4⟩ _ _ _
    · exact ⟨b1, b2, b3, b4⟩
  rw [if_neg p2]
  by_cases p3 : r.ph = 3
  · rw [if_pos p3]; split
    · split
      · exact rWrite_rb (s := r.into 4 0) ⟨b1, b2, Nat.zero_le _, b4⟩ _ _
      · exact rLk_rb hb.1 _ (s := r.into 4 0) ⟨b1, b2, Nat.zero_le _, b4⟩
    · exact ⟨b1, b2, b3, b4⟩
  rw [if_neg p3]
  by_cases p4 : r.ph = 4
  · rw [if_pos p4]; split
    · exact aw
    · split
      · exact rOut_rb hr _ _ _
      · exact rLk_rb hb.1 _ (s := r.step) ⟨b1, b2, stp (.inl p4), b4⟩
  rw [if_neg p4]
  by_cases p5 : r.ph = 5
  · rw [if_pos p5]; split
    · split <;> exact ⟨b1, b2, Nat.zero_le _, b4⟩
    · exact ⟨b1, b2, stp (.inr (.inl p5)), b4⟩
  rw [if_neg p5]
  by_cases p6 : r.ph = 6
  · rw [if_pos p6]; split <;> exact ⟨b1, b2, stp (.inr (.inr (.inl p6))), b4⟩
  rw [if_neg p6]
  split <;> exact ⟨b1, b2, stp (.inr (.inr (.inr (by omega)))), b4⟩
def rW (me stm : Int) (qc cc sc : List LV) (s : CS) (w v : Int) (h : Bool) (o : Int) (d : Bool) (e : Int) : CS := rTell me stm (decC qc) (decC cc).length (decIi64 sc) s w v h o d e

def okR (nq nc ns : Nat) (s : CS) : Bool := @decide (s.RB nq ns ∧ (s.en = 0 → s.Ok nq nc ns)) (Classical.propDecidable _)

theorem okR_iff {nq nc ns : Nat} {s : CS} : okR nq nc ns s = true ↔ s.RB nq ns ∧ (s.en = 0 → s.Ok nq nc ns) := by simp only [okR, decide_eq_true_eq]
theorem rnext_c (me stm : Int) (nq nc ns nt : Nat) (qc cc sc tc : List LV) (su en bu er lv : Int) (lh : Bool) (lo ph a now ve vb vr : Int) (k1 : okK qc cc sc tc nq nc ns nt = true) (k2 : xnn a = true) (k3 : okR nq nc ns (mkC tc su en bu er lv lh lo ph a now false ve vb vr) = true) (k4 : xcm .eql en 0 = true) :
    SFun Go.Proofs.Try.prog 20 [.ptr 0 0] (mkS (rEi me stm nq nc ns nt qc cc sc tc su en bu er lv lh lo ph a now ve vb vr)) fun l t => l = .agg (nOp me qc cc sc (mkC tc su en bu er lv lh lo ph a now false ve vb vr)) ∧ t = mkS (rEi me stm nq nc ns nt qc cc sc tc su en bu er lv lh lo ph a now ve vb vr) := by
  obtain ⟨qs, cs, ss, tk, ⟨rfl, rfl, rfl, rfl⟩, ⟨rfl, rfl, rfl, rfl⟩, h1, h2, h3, h4⟩ := okK_iff.1 k1
  rw [wd_nni, decide_eq_true_eq] at k2
  obtain ⟨n, rfl⟩ := Int.eq_ofNat_of_zero_le k2
  have k5 := okR_iff.1 k3
  rw [mkC_enc] at k5
  have j4 : en = 0 := by simpa [xcm_eql] using k4
  simp only [nOp, nK, nA, nO, nW, nWv, nWh, nWo, nLv, nLh, nLo, opW, decC_enc, decIi64_enc, mkC_enc]
  exact rnext_ok me stm qs cs ss _ h1 h2 h3 (k5.2 j4) j4
theorem rtell_c (me stm : Int) (nq nc ns nt : Nat) (qc cc sc tc : List LV) (su en bu er lv : Int) (lh : Bool) (lo ph a now ve vb vr : Int) (w v : Int) (h : Bool) (o : Int) (d : Bool) (e : Int) (k1 : okK qc cc sc tc nq nc ns nt = true) (k2 : xnn a = true) (k3 : okR nq nc ns (mkC tc su en bu er lv lh lo ph a now false ve vb vr) = true) :
    SFun Go.Proofs.Try.prog 23 [.ptr 0 0, .agg (ansC w v h o d e)] (mkS (rEi me stm nq nc ns nt qc cc sc tc su en bu er lv lh lo ph a now ve vb vr)) fun l t => l = .tup [] ∧ t = mkS [.cells [.int .i64 me, .int .i64 (kSu (rW me stm qc cc sc (mkC tc su en bu er lv lh lo ph a now false ve vb vr) w v h o d e)), .int .i64 (kEn (rW me stm qc cc sc (mkC tc su en bu er lv lh lo ph a now false ve vb vr) w v h o d e)), .int .i64 (kEr (rW me stm qc cc sc (mkC tc su en bu er lv lh lo ph a now false ve vb vr) w v h o d e)), .int .i64 (kBu (rW me stm qc cc sc (mkC tc su en bu er lv lh lo ph a now false ve vb vr) w v h o d e)), .int .u64 stm, .slo 1 0 nq 0, .slo 2 0 nc 0, .slo 3 0 ns 0, .slo 5 0 (kTn (rW me stm qc cc sc (mkC tc su en bu er lv lh lo ph a now false ve vb vr) w v h o d e)) 0, .int .u64 (kLv (rW me stm qc cc sc (mkC tc su en bu er lv lh lo ph a now false ve vb vr) w v h o d e)), .bool (kLh (rW me stm qc cc sc (mkC tc su en bu er lv lh lo ph a now false ve vb vr) w v h o d e)), .int .i64 (kLo (rW me stm qc cc sc (mkC tc su en bu er lv lh lo ph a now false ve vb vr) w v h o d e)), .int .i64 (kPh (rW me stm qc cc sc (mkC tc su en bu er lv lh lo ph a now false ve vb vr) w v h o d e)), .int .i64 (kAt (rW me stm qc cc sc (mkC tc su en bu er lv lh lo ph a now false ve vb vr) w v h o d e)), .int .u64 (kNow (rW me stm qc cc sc (mkC tc su en bu er lv lh lo ph a now false ve vb vr) w v h o d e)), .int .i64 (kVe (rW me stm qc cc sc (mkC tc su en bu er lv lh lo ph a now false ve vb vr) w v h o d e)), .int .i64 (kVr (rW me stm qc cc sc (mkC tc su en bu er lv lh lo ph a now false ve vb vr) w v h o d e)), .int .i64 (kVb (rW me stm qc cc sc (mkC tc su en bu er lv lh lo ph a now false ve vb vr) w v h o d e))] none, .cells qc (some 2), .cells cc (some 2), .cells sc (some 1), .dead, .cells (kTc (rW me stm qc cc sc (mkC tc su en bu er lv lh lo ph a now false ve vb vr) w v h o d e)) (some 3)] := by
  obtain ⟨qs, cs, ss, tk, ⟨rfl, rfl, rfl, rfl⟩, ⟨rfl, rfl, rfl, rfl⟩, h1, h2, h3, h4⟩ := okK_iff.1 k1
  rw [wd_nni, decide_eq_true_eq] at k2
  obtain ⟨n, rfl⟩ := Int.eq_ofNat_of_zero_le k2
  have k5 := okR_iff.1 k3
  rw [mkC_enc] at k5
  simp only [rW, decC_enc, decIi64_enc, mkC_enc]
  exact rtell_ok me stm qs cs ss _ rfl h1 h2 h3 ⟨k5.1.su, k5.1.tk, k5.1.at1, fun z p => (((k5.2 z).go z).a (.inr p)).2 |> fun q => by have := (((k5.2 z).go z).a (.inr p)).1; simp only at *; omega, fun z p => ((k5.2 z).go z).b p⟩ w v h o d (fun z => ((k5.2 z).go z).ph) e
def rnextG : Gc := fun args s => match args, s.g with
  | [.ptr b 0], [] => (match s.h.get b with
    | some (.cells [.int .i64 me, .int .i64 su, .int .i64 en, .int .i64 er, .int .i64 bu, .int .u64 stm, .slo q 0 nq 0, .slo y 0 nc 0, .slo f 0 ns 0, .slo g 0 nt 0, .int .u64 lv, .bool lh, .int .i64 lo, .int .i64 ph, .int .i64 a, .int .u64 now, .int .i64 ve, .int .i64 vr, .int .i64 vb] none) => (match s.h.get q with
      | some (.cells qc (some 2)) => (match s.h.get y with
        | some (.cells cc (some 2)) => (match s.h.get f with
          | some (.cells sc (some 1)) => (match s.h.get g with
            | some (.cells tc (some 3)) => cond (nodupB [b, q, y, f, g]) (match s.lay [b, q, y, f, g] [.cells [.int .i64 me, .int .i64 su, .int .i64 en, .int .i64 er, .int .i64 bu, .int .u64 stm, .slo q 0 nq 0, .slo y 0 nc 0, .slo f 0 ns 0, .slo g 0 nt 0, .int .u64 lv, .bool lh, .int .i64 lo, .int .i64 ph, .int .i64 a, .int .u64 now, .int .i64 ve, .int .i64 vr, .int .i64 vb] none, .cells qc (some 2), .cells cc (some 2), .cells sc (some 1), .cells tc (some 3)] [] with
              | some s' => some ([okK qc cc sc tc nq nc ns nt, xnn a, okR nq nc ns (mkC tc su en bu er lv lh lo ph a now false ve vb vr), xcm .eql en 0], .agg [.int .i64 (nK me qc cc sc (mkC tc su en bu er lv lh lo ph a now false ve vb vr)), .int .i64 (nA me qc cc sc (mkC tc su en bu er lv lh lo ph a now false ve vb vr)), .int .u64 (nO me qc cc sc (mkC tc su en bu er lv lh lo ph a now false ve vb vr)), .int .u64 (nW me qc cc sc (mkC tc su en bu er lv lh lo ph a now false ve vb vr)), .int .u64 (nWv me qc cc sc (mkC tc su en bu er lv lh lo ph a now false ve vb vr)), .bool (nWh me qc cc sc (mkC tc su en bu er lv lh lo ph a now false ve vb vr)), .int .i64 (nWo me qc cc sc (mkC tc su en bu er lv lh lo ph a now false ve vb vr)), .int .u64 (nLv me qc cc sc (mkC tc su en bu er lv lh lo ph a now false ve vb vr)), .bool (nLh me qc cc sc (mkC tc su en bu er lv lh lo ph a now false ve vb vr)), .int .i64 (nLo me qc cc sc (mkC tc su en bu er lv lh lo ph a now false ve vb vr))], s')
              | none => none) none
            | _ => none)
          | _ => none)
        | _ => none)
      | _ => none)
    | _ => none)
  | _, _ => none
theorem rnextG_ok : GOk Go.Proofs.Try.prog 20 rnextG := by
  intro args s bs l s' hg hb hfr
  unfold rnextG at hg
  split at hg
  · rename_i b hgl
    split at hg
    · rename_i me su en er bu stm q nq y nc f ns g nt lv lh lo ph a now ve vr vb hb0
      split at hg
      · rename_i qc hb1
        split at hg
        · rename_i cc hb2
          split at hg
          · rename_i sc hb3
            split at hg
            · rename_i tc hb4
              cases hbc : nodupB [b, q, y, f, g] with
              | false => rw [hbc] at hg; cases hg
              | true =>
                rw [hbc] at hg
                simp only [cond_true] at hg
                split at hg
                · rename_i s1 hs1
                  simp only [Option.some.injEq, Prod.mk.injEq] at hg
                  obtain ⟨rfl, rfl, rfl⟩ := hg
                  simp only [allT_cons] at hb
                  obtain ⟨k1, k2, k3, k4, _⟩ := hb
                  have no : noIds qc = true := by obtain ⟨_, _, _, _, ⟨e, _, _, _⟩, _⟩ := okK_iff.1 k1; rw [e]; exact noids_c _
                  have no2 : noIds cc = true := by obtain ⟨_, _, _, _, ⟨_, e, _, _⟩, _⟩ := okK_iff.1 k1; rw [e]; exact noids_c _
                  have no3 : noIds sc = true := by obtain ⟨_, _, _, _, ⟨_, _, e, _⟩, _⟩ := okK_iff.1 k1; rw [e]; exact noIds_Ii64 _
                  have no4 : noIds tc = true := by obtain ⟨_, _, _, _, ⟨_, _, _, e⟩, _⟩ := okK_iff.1 k1; rw [e]; exact noids_l _
                  refine SFun.lay (bs := [.cells [.int .i64 me, .int .i64 su, .int .i64 en, .int .i64 er, .int .i64 bu, .int .u64 stm, .slo 1 0 nq 0, .slo 2 0 nc 0, .slo 3 0 ns 0, .slo 4 0 nt 0, .int .u64 lv, .bool lh, .int .i64 lo, .int .i64 ph, .int .i64 a, .int .u64 now, .int .i64 ve, .int .i64 vr, .int .i64 vb] none, .cells qc (some 2), .cells cc (some 2), .cells sc (some 1), .cells tc (some 3)]) (args0 := [.ptr 0 0]) (bs' := [.cells [.int .i64 me, .int .i64 su, .int .i64 en, .int .i64 er, .int .i64 bu, .int .u64 stm, .slo 1 0 nq 0, .slo 2 0 nc 0, .slo 3 0 ns 0, .slo 4 0 nt 0, .int .u64 lv, .bool lh, .int .i64 lo, .int .i64 ph, .int .i64 a, .int .u64 now, .int .i64 ve, .int .i64 vr, .int .i64 vb] none, .cells qc (some 2), .cells cc (some 2), .cells sc (some 1), .cells tc (some 3)]) (v0 := .agg [.int .i64 (nK me qc cc sc (mkC tc su en bu er lv lh lo ph a now false ve vb vr)), .int .i64 (nA me qc cc sc (mkC tc su en bu er lv lh lo ph a now false ve vb vr)), .int .u64 (nO me qc cc sc (mkC tc su en bu er lv lh lo ph a now false ve vb vr)), .int .u64 (nW me qc cc sc (mkC tc su en bu er lv lh lo ph a now false ve vb vr)), .int .u64 (nWv me qc cc sc (mkC tc su en bu er lv lh lo ph a now false ve vb vr)), .bool (nWh me qc cc sc (mkC tc su en bu er lv lh lo ph a now false ve vb vr)), .int .i64 (nWo me qc cc sc (mkC tc su en bu er lv lh lo ph a now false ve vb vr)), .int .u64 (nLv me qc cc sc (mkC tc su en bu er lv lh lo ph a now false ve vb vr)), .bool (nLh me qc cc sc (mkC tc su en bu er lv lh lo ph a now false ve vb vr)), .int .i64 (nLo me qc cc sc (mkC tc su en bu er lv lh lo ph a now false ve vb vr))]) hfr hs1 (nodupB_nd hbc)
                    ⟨⟨there hfr hb0, _, hb0, by first | exact lb_same rfl | exact lb_cells (lws_cons (lw_int) (lws_cons (lw_int) (lws_cons (lw_int) (lws_cons (lw_int) (lws_cons (lw_int) (lws_cons (lw_int) (lws_cons (lw_slo rfl) (lws_cons (lw_slo rfl) (lws_cons (lw_slo rfl) (lws_cons (lw_slo rfl) (lws_cons (lw_int) (lws_cons (lw_bool) (lws_cons (lw_int) (lws_cons (lw_int) (lws_cons (lw_int) (lws_cons (lw_int) (lws_cons (lw_int) (lws_cons (lw_int) (lws_cons (lw_int) lws_nil))))))))))))))))))) (by simp), fun κ hκ => lb_cells (lws_cons (lw_int) (lws_cons (lw_int) (lws_cons (lw_int) (lws_cons (lw_int) (lws_cons (lw_int) (lws_cons (lw_int) (lws_cons (lw_slo (hκ 1 q rfl)) (lws_cons (lw_slo (hκ 2 y rfl)) (lws_cons (lw_slo (hκ 3 f rfl)) (lws_cons (lw_slo (hκ 4 g rfl)) (lws_cons (lw_int) (lws_cons (lw_bool) (lws_cons (lw_int) (lws_cons (lw_int) (lws_cons (lw_int) (lws_cons (lw_int) (lws_cons (lw_int) (lws_cons (lw_int) (lws_cons (lw_int) lws_nil))))))))))))))))))) (by simp)⟩, ⟨there hfr hb1, _, hb1, lb_same (by (first | assumption | exact noIds_tab (fun _ => rfl) _ _ | exact noIds_encL (fun _ => rfl) _ | rfl)), fun κ hκ => lb_same (by (first | assumption | exact noIds_tab (fun _ => rfl) _ _ | exact noIds_encL (fun _ => rfl) _ | rfl))⟩, ⟨there hfr hb2, _, hb2, lb_same (by (first | assumption | exact noIds_tab (fun _ => rfl) _ _ | exact noIds_encL (fun _ => rfl) _ | rfl)), fun κ hκ => lb_same (by (first | assumption | exact noIds_tab (fun _ => rfl) _ _ | exact noIds_encL (fun _ => rfl) _ | rfl))⟩, ⟨there hfr hb3, _, hb3, lb_same (by (first | assumption | exact noIds_tab (fun _ => rfl) _ _ | exact noIds_encL (fun _ => rfl) _ | rfl)), fun κ hκ => lb_same (by (first | assumption | exact noIds_tab (fun _ => rfl) _ _ | exact noIds_encL (fun _ => rfl) _ | rfl))⟩, ⟨there hfr hb4, _, hb4, lb_same (by (first | assumption | exact noIds_tab (fun _ => rfl) _ _ | exact noIds_encL (fun _ => rfl) _ | rfl)), fun κ hκ => lb_same (by (first | assumption | exact noIds_tab (fun _ => rfl) _ _ | exact noIds_encL (fun _ => rfl) _ | rfl))⟩, trivial⟩ (by ((repeat refine lws_cons (by (first | exact lw_any | exact lw_int | exact lw_bool | exact lw_ptr rfl | exact lw_slo rfl | exact lw_nilp | exact lw_nils | exact lw_str | exact lw_slo_nils | exact lw_slo_sle | exact lw_sl rfl | exact lw_unb | exact lw_gptr | exact lw_noid rfl | exact lw_cap rfl (Nat.le_refl _) | exact lw_cap rfl (by omega) | assumption | exact lw_tup (by ((repeat refine lws_cons (by (first | exact lw_any | exact lw_int | exact lw_bool | exact lw_ptr rfl | exact lw_slo rfl | exact lw_nilp | exact lw_nils | exact lw_str | exact lw_slo_nils | exact lw_slo_sle | exact lw_sl rfl | exact lw_unb | exact lw_gptr | exact lw_noid rfl | exact lw_cap rfl (Nat.le_refl _) | exact lw_cap rfl (by omega) | assumption)) ?_); exact lws_nil)))) ?_); exact lws_nil)) ?_
                    fun κ h1 h2 => ⟨⟨lb_cells (lws_cons (lw_int) (lws_cons (lw_int) (lws_cons (lw_int) (lws_cons (lw_int) (lws_cons (lw_int) (lws_cons (lw_int) (lws_cons (lw_slo (h1 1 q rfl)) (lws_cons (lw_slo (h1 2 y rfl)) (lws_cons (lw_slo (h1 3 f rfl)) (lws_cons (lw_slo (h1 4 g rfl)) (lws_cons (lw_int) (lws_cons (lw_bool) (lws_cons (lw_int) (lws_cons (lw_int) (lws_cons (lw_int) (lws_cons (lw_int) (lws_cons (lw_int) (lws_cons (lw_int) (lws_cons (lw_int) lws_nil))))))))))))))))))) (by simp), lb_same (by (first | assumption | exact noIds_tab (fun _ => rfl) _ _ | exact noIds_encL (fun _ => rfl) _ | rfl)), lb_same (by (first | assumption | exact noIds_tab (fun _ => rfl) _ _ | exact noIds_encL (fun _ => rfl) _ | rfl)), lb_same (by (first | assumption | exact noIds_tab (fun _ => rfl) _ _ | exact noIds_encL (fun _ => rfl) _ | rfl)), lb_same (by (first | assumption | exact noIds_tab (fun _ => rfl) _ _ | exact noIds_encL (fun _ => rfl) _ | rfl)), trivial⟩, lw_noid rfl⟩
                  rw [hgl]; exact (rnext_c me stm nq nc ns nt qc cc sc tc su en bu er lv lh lo ph a now ve vb vr k1 k2 k3 k4)
                · cases hg
            · cases hg
          · cases hg
        · cases hg
      · cases hg
    · cases hg
  · cases hg
def rtellG : Gc := fun args s => match args, s.g with
  | [.ptr b 0, .agg [.int .u64 w, .int .u64 v, .bool h, .int .i64 o, .bool d, .int .i64 e]], [] => (match s.h.get b with
    | some (.cells [.int .i64 me, .int .i64 su, .int .i64 en, .int .i64 er, .int .i64 bu, .int .u64 stm, .slo q 0 nq 0, .slo y 0 nc 0, .slo f 0 ns 0, .slo g 0 nt 0, .int .u64 lv, .bool lh, .int .i64 lo, .int .i64 ph, .int .i64 a, .int .u64 now, .int .i64 ve, .int .i64 vr, .int .i64 vb] none) => (match s.h.get q with
      | some (.cells qc (some 2)) => (match s.h.get y with
        | some (.cells cc (some 2)) => (match s.h.get f with
          | some (.cells sc (some 1)) => (match s.h.get g with
            | some (.cells tc (some 3)) => cond (nodupB [b, q, y, f, g]) (match s.lay [b, q, y, f, g] [.cells [.int .i64 me, .int .i64 (kSu (rW me stm qc cc sc (mkC tc su en bu er lv lh lo ph a now false ve vb vr) w v h o d e)), .int .i64 (kEn (rW me stm qc cc sc (mkC tc su en bu er lv lh lo ph a now false ve vb vr) w v h o d e)), .int .i64 (kEr (rW me stm qc cc sc (mkC tc su en bu er lv lh lo ph a now false ve vb vr) w v h o d e)), .int .i64 (kBu (rW me stm qc cc sc (mkC tc su en bu er lv lh lo ph a now false ve vb vr) w v h o d e)), .int .u64 stm, .slo q 0 nq 0, .slo y 0 nc 0, .slo f 0 ns 0, .slo s.n 0 (kTn (rW me stm qc cc sc (mkC tc su en bu er lv lh lo ph a now false ve vb vr) w v h o d e)) 0, .int .u64 (kLv (rW me stm qc cc sc (mkC tc su en bu er lv lh lo ph a now false ve vb vr) w v h o d e)), .bool (kLh (rW me stm qc cc sc (mkC tc su en bu er lv lh lo ph a now false ve vb vr) w v h o d e)), .int .i64 (kLo (rW me stm qc cc sc (mkC tc su en bu er lv lh lo ph a now false ve vb vr) w v h o d e)), .int .i64 (kPh (rW me stm qc cc sc (mkC tc su en bu er lv lh lo ph a now false ve vb vr) w v h o d e)), .int .i64 (kAt (rW me stm qc cc sc (mkC tc su en bu er lv lh lo ph a now false ve vb vr) w v h o d e)), .int .u64 (kNow (rW me stm qc cc sc (mkC tc su en bu er lv lh lo ph a now false ve vb vr) w v h o d e)), .int .i64 (kVe (rW me stm qc cc sc (mkC tc su en bu er lv lh lo ph a now false ve vb vr) w v h o d e)), .int .i64 (kVr (rW me stm qc cc sc (mkC tc su en bu er lv lh lo ph a now false ve vb vr) w v h o d e)), .int .i64 (kVb (rW me stm qc cc sc (mkC tc su en bu er lv lh lo ph a now false ve vb vr) w v h o d e))] none, .cells qc (some 2), .cells cc (some 2), .cells sc (some 1), .dead] [.cells (kTc (rW me stm qc cc sc (mkC tc su en bu er lv lh lo ph a now false ve vb vr) w v h o d e)) (some 3)] with
              | some s' => some ([okK qc cc sc tc nq nc ns nt, xnn a, okR nq nc ns (mkC tc su en bu er lv lh lo ph a now false ve vb vr)], .tup [], s')
              | none => none) none
            | _ => none)
          | _ => none)
        | _ => none)
      | _ => none)
    | _ => none)
  | _, _ => none
theorem rtellG_ok : GOk Go.Proofs.Try.prog 23 rtellG := by
  intro args s bs l s' hg hb hfr
  unfold rtellG at hg
  split at hg
  · rename_i b w v h o d e hgl
    split at hg
    · rename_i me su en er bu stm q nq y nc f ns g nt lv lh lo ph a now ve vr vb hb0
      split at hg
      · rename_i qc hb1
        split at hg
        · rename_i cc hb2
          split at hg
          · rename_i sc hb3
            split at hg
            · rename_i tc hb4
              cases hbc : nodupB [b, q, y, f, g] with
              | false => rw [hbc] at hg; cases hg
              | true =>
                rw [hbc] at hg
                simp only [cond_true] at hg
                split at hg
                · rename_i s1 hs1
                  simp only [Option.some.injEq, Prod.mk.injEq] at hg
                  obtain ⟨rfl, rfl, rfl⟩ := hg
                  simp only [allT_cons] at hb
                  obtain ⟨k1, k2, k3, _⟩ := hb
                  have no : noIds qc = true := by obtain ⟨_, _, _, _, ⟨e, _, _, _⟩, _⟩ := okK_iff.1 k1; rw [e]; exact noids_c _
                  have no2 : noIds cc = true := by obtain ⟨_, _, _, _, ⟨_, e, _, _⟩, _⟩ := okK_iff.1 k1; rw [e]; exact noids_c _
                  have no3 : noIds sc = true := by obtain ⟨_, _, _, _, ⟨_, _, e, _⟩, _⟩ := okK_iff.1 k1; rw [e]; exact noIds_Ii64 _
                  have no4 : noIds tc = true := by obtain ⟨_, _, _, _, ⟨_, _, _, e⟩, _⟩ := okK_iff.1 k1; rw [e]; exact noids_l _
                  refine SFun.lay (bs := [.cells [.int .i64 me, .int .i64 su, .int .i64 en, .int .i64 er, .int .i64 bu, .int .u64 stm, .slo 1 0 nq 0, .slo 2 0 nc 0, .slo 3 0 ns 0, .slo 4 0 nt 0, .int .u64 lv, .bool lh, .int .i64 lo, .int .i64 ph, .int .i64 a, .int .u64 now, .int .i64 ve, .int .i64 vr, .int .i64 vb] none, .cells qc (some 2), .cells cc (some 2), .cells sc (some 1), .cells tc (some 3)]) (args0 := [.ptr 0 0, .agg [.int .u64 w, .int .u64 v, .bool h, .int .i64 o, .bool d, .int .i64 e]]) (bs' := [.cells [.int .i64 me, .int .i64 (kSu (rW me stm qc cc sc (mkC tc su en bu er lv lh lo ph a now false ve vb vr) w v h o d e)), .int .i64 (kEn (rW me stm qc cc sc (mkC tc su en bu er lv lh lo ph a now false ve vb vr) w v h o d e)), .int .i64 (kEr (rW me stm qc cc sc (mkC tc su en bu er lv lh lo ph a now false ve vb vr) w v h o d e)), .int .i64 (kBu (rW me stm qc cc sc (mkC tc su en bu er lv lh lo ph a now false ve vb vr) w v h o d e)), .int .u64 stm, .slo 1 0 nq 0, .slo 2 0 nc 0, .slo 3 0 ns 0, .slo 5 0 (kTn (rW me stm qc cc sc (mkC tc su en bu er lv lh lo ph a now false ve vb vr) w v h o d e)) 0, .int .u64 (kLv (rW me stm qc cc sc (mkC tc su en bu er lv lh lo ph a now false ve vb vr) w v h o d e)), .bool (kLh (rW me stm qc cc sc (mkC tc su en bu er lv lh lo ph a now false ve vb vr) w v h o d e)), .int .i64 (kLo (rW me stm qc cc sc (mkC tc su en bu er lv lh lo ph a now false ve vb vr) w v h o d e)), .int .i64 (kPh (rW me stm qc cc sc (mkC tc su en bu er lv lh lo ph a now false ve vb vr) w v h o d e)), .int .i64 (kAt (rW me stm qc cc sc (mkC tc su en bu er lv lh lo ph a now false ve vb vr) w v h o d e)), .int .u64 (kNow (rW me stm qc cc sc (mkC tc su en bu er lv lh lo ph a now false ve vb vr) w v h o d e)), .int .i64 (kVe (rW me stm qc cc sc (mkC tc su en bu er lv lh lo ph a now false ve vb vr) w v h o d e)), .int .i64 (kVr (rW me stm qc cc sc (mkC tc su en bu er lv lh lo ph a now false ve vb vr) w v h o d e)), .int .i64 (kVb (rW me stm qc cc sc (mkC tc su en bu er lv lh lo ph a now false ve vb vr) w v h o d e))] none, .cells qc (some 2), .cells cc (some 2), .cells sc (some 1), .dead, .cells (kTc (rW me stm qc cc sc (mkC tc su en bu er lv lh lo ph a now false ve vb vr) w v h o d e)) (some 3)]) (v0 := .tup []) hfr hs1 (nodupB_nd hbc)
                    ⟨⟨there hfr hb0, _, hb0, by first | exact lb_same rfl | exact lb_cells (lws_cons (lw_int) (lws_cons (lw_int) (lws_cons (lw_int) (lws_cons (lw_int) (lws_cons (lw_int) (lws_cons (lw_int) (lws_cons (lw_slo rfl) (lws_cons (lw_slo rfl) (lws_cons (lw_slo rfl) (lws_cons (lw_slo rfl) (lws_cons (lw_int) (lws_cons (lw_bool) (lws_cons (lw_int) (lws_cons (lw_int) (lws_cons (lw_int) (lws_cons (lw_int) (lws_cons (lw_int) (lws_cons (lw_int) (lws_cons (lw_int) lws_nil))))))))))))))))))) (by simp), fun κ hκ => lb_cells (lws_cons (lw_int) (lws_cons (lw_int) (lws_cons (lw_int) (lws_cons (lw_int) (lws_cons (lw_int) (lws_cons (lw_int) (lws_cons (lw_slo (hκ 1 q rfl)) (lws_cons (lw_slo (hκ 2 y rfl)) (lws_cons (lw_slo (hκ 3 f rfl)) (lws_cons (lw_slo (hκ 4 g rfl)) (lws_cons (lw_int) (lws_cons (lw_bool) (lws_cons (lw_int) (lws_cons (lw_int) (lws_cons (lw_int) (lws_cons (lw_int) (lws_cons (lw_int) (lws_cons (lw_int) (lws_cons (lw_int) lws_nil))))))))))))))))))) (by simp)⟩, ⟨there hfr hb1, _, hb1, lb_same (by (first | assumption | exact noIds_tab (fun _ => rfl) _ _ | exact noIds_encL (fun _ => rfl) _ | rfl)), fun κ hκ => lb_same (by (first | assumption | exact noIds_tab (fun _ => rfl) _ _ | exact noIds_encL (fun _ => rfl) _ | rfl))⟩, ⟨there hfr hb2, _, hb2, lb_same (by (first | assumption | exact noIds_tab (fun _ => rfl) _ _ | exact noIds_encL (fun _ => rfl) _ | rfl)), fun κ hκ => lb_same (by (first | assumption | exact noIds_tab (fun _ => rfl) _ _ | exact noIds_encL (fun _ => rfl) _ | rfl))⟩, ⟨there hfr hb3, _, hb3, lb_same (by (first | assumption | exact noIds_tab (fun _ => rfl) _ _ | exact noIds_encL (fun _ => rfl) _ | rfl)), fun κ hκ => lb_same (by (first | assumption | exact noIds_tab (fun _ => rfl) _ _ | exact noIds_encL (fun _ => rfl) _ | rfl))⟩, ⟨there hfr hb4, _, hb4, lb_same (by (first | assumption | exact noIds_tab (fun _ => rfl) _ _ | exact noIds_encL (fun _ => rfl) _ | rfl)), fun κ hκ => lb_same (by (first | assumption | exact noIds_tab (fun _ => rfl) _ _ | exact noIds_encL (fun _ => rfl) _ | rfl))⟩, trivial⟩ (by ((repeat refine lws_cons (by (first | exact lw_any | exact lw_int | exact lw_bool | exact lw_ptr rfl | exact lw_slo rfl | exact lw_nilp | exact lw_nils | exact lw_str | exact lw_slo_nils | exact lw_slo_sle | exact lw_sl rfl | exact lw_unb | exact lw_gptr | exact lw_noid rfl | exact lw_cap rfl (Nat.le_refl _) | exact lw_cap rfl (by omega) | assumption | exact lw_tup (by ((repeat refine lws_cons (by (first | exact lw_any | exact lw_int | exact lw_bool | exact lw_ptr rfl | exact lw_slo rfl | exact lw_nilp | exact lw_nils | exact lw_str | exact lw_slo_nils | exact lw_slo_sle | exact lw_sl rfl | exact lw_unb | exact lw_gptr | exact lw_noid rfl | exact lw_cap rfl (Nat.le_refl _) | exact lw_cap rfl (by omega) | assumption)) ?_); exact lws_nil)))) ?_); exact lws_nil)) ?_
                    fun κ h1 h2 => ⟨⟨lb_cells (lws_cons (lw_int) (lws_cons (lw_int) (lws_cons (lw_int) (lws_cons (lw_int) (lws_cons (lw_int) (lws_cons (lw_int) (lws_cons (lw_slo (h1 1 q rfl)) (lws_cons (lw_slo (h1 2 y rfl)) (lws_cons (lw_slo (h1 3 f rfl)) (lws_cons (lw_slo (h2 0 (by simp))) (lws_cons (lw_int) (lws_cons (lw_bool) (lws_cons (lw_int) (lws_cons (lw_int) (lws_cons (lw_int) (lws_cons (lw_int) (lws_cons (lw_int) (lws_cons (lw_int) (lws_cons (lw_int) lws_nil))))))))))))))))))) (by simp), lb_same (by (first | assumption | exact noIds_tab (fun _ => rfl) _ _ | exact noIds_encL (fun _ => rfl) _ | rfl)), lb_same (by (first | assumption | exact noIds_tab (fun _ => rfl) _ _ | exact noIds_encL (fun _ => rfl) _ | rfl)), lb_same (by (first | assumption | exact noIds_tab (fun _ => rfl) _ _ | exact noIds_encL (fun _ => rfl) _ | rfl)), lb_dead, lb_same (noids_l _), trivial⟩, lw_noid rfl⟩
                  rw [hgl]; exact (rtell_c me stm nq nc ns nt qc cc sc tc su en bu er lv lh lo ph a now ve vb vr w v h o d e k1 k2 k3)
                · cases hg
            · cases hg
          · cases hg
        · cases hg
      · cases hg
    · cases hg
  · cases hg
end
end Go.Lev
