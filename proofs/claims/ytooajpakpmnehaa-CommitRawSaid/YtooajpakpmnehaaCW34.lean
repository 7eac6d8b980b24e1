/- chapter 25: the reference's Tell, Next: what they do -/
import Derived.Test.YtooajpakpmnehaaCW33
import Derived.Test.YtooajpakpmnehaaLc
import Derived.Test.YtooajpakpmnehaaChecked
import Derived.KernelRfl

namespace Go.Lev
open Go.RowKit
set_option linter.unusedVariables false
set_option linter.unusedSimpArgs false
set_option maxRecDepth 100000
noncomputable section
abbrev CS.fin6 (s : CS) : CS := ⟨s.tk, s.su, 2, s.bu, s.er, s.lk, s.ph, s.at' + 1, s.now, s.st, s.ve, s.vb, s.vr⟩
abbrev CS.fin7 (s : CS) : CS := ⟨s.tk, s.su, s.ve, s.vb, s.vr, s.lk, s.ph, s.at' + 1, s.now, s.st, s.ve, s.vb, s.vr⟩
abbrev CS.less (s : CS) : CS := ⟨s.tk, s.su - 1, s.en, s.bu, s.er, s.lk, s.ph, s.at', s.now, s.st, s.ve, s.vb, s.vr⟩
abbrev CS.errd (s : CS) (e : Int) : CS := ⟨s.tk, s.su, 4, s.bu, e, s.lk, s.ph, s.at', s.now, s.st, s.ve, s.vb, s.vr⟩
def rAw (me : Int) (s : CS) (o : Int) : CS := if me < o then s else if 0 < s.su then s.less else rOut s 5 s.er o
def rSw (me stm : Int) (qs : List (Int × Int)) (nc : Nat) (ss : List Int) (s : CS) (w v : Int) (h : Bool) (o : Int) (d : Bool) : CS :=
  if s.ph = 0 then (if h = true then rAw me s o else s.lok (v, h, o))
  else if s.ph = 1 then (if d = true then (if s.at' + 1 = ss.length then s.got.into 2 0 else s.got) else s.again)
  else if s.ph = 2 then (if 4611686018427387903 ≤ w then rOut (s.dated w) 4 7 (-1) else s.dated w)
  else if s.ph = 3 then (if d = true then (if s.now = stm then rWrite nc ss.length (s.into 4 0) else rLook qs nc ss (s.into 4 0)) else s.into 2 s.at')
  else if s.ph = 4 then (if h = true then rAw me s o else if v ≠ (qs.getD s.at' q0).2 then rOut s 5 0 (-1) else rLook qs nc ss s.step)
  else if s.ph = 5 then (if s.at' + 1 = nc then (if ss.length = 0 then s.endd else s.into 6 0) else s.step)
  else if s.ph = 6 then (if s.at' + 1 = ss.length then s.fin6 else s.step)
  else (if s.at' + 1 = s.tk.length then s.fin7 else s.step)
def rTell (me stm : Int) (qs : List (Int × Int)) (nc : Nat) (ss : List Int) (s : CS) (w v : Int) (h : Bool) (o : Int) (d : Bool) (e : Int) : CS :=
  if s.en ≠ 0 then s else if e ≠ 0 then s.errd e else rSw me stm qs nc ss s w v h o d
abbrev rED (me stm : Int) (nq nc ns nt : Nat) (qc cc sc tc : List LV) (su en bu er lv : Int) (lh : Bool) (lo ph : Int) (at' : Nat) (now ve vb vr : Int) : List LB := [.cells [.int .i64 me, .int .i64 su, .int .i64 en, .int .i64 er, .int .i64 bu, .int .u64 stm, .slo 1 0 nq 0, .slo 2 0 nc 0, .slo 3 0 ns 0, .slo 5 0 nt 0, .int .u64 lv, .bool lh, .int .i64 lo, .int .i64 ph, .int .i64 at', .int .u64 now, .int .i64 ve, .int .i64 vr, .int .i64 vb] none, .cells qc (some 2), .cells cc (some 2), .cells sc (some 1), .dead, .cells tc (some 3)]
abbrev rET (me stm : Int) (qs cs : List (Int × Int)) (ss : List Int) (s : CS) : List LB := rED me stm qs.length cs.length ss.length s.tk.length (encL cell qs) (encL cell cs) (encL (cI .i64) ss) (encL cL s.tk) s.su s.en s.bu s.er s.lk.1 s.lk.2.1 s.lk.2.2 s.ph s.at' s.now s.ve s.vb s.vr
theorem cxw_ok : CtrOk Go.Proofs.Try.prog (ctrOf cxw) := cxl_ok ⟨lookG_ok, trivial⟩
theorem cxwd_ok : CtrOk Go.Proofs.Try.prog (ctrOf cxwd) := cxl_ok ⟨dumG_ok _, dumG_ok _, dumG_ok _, dumG_ok _, dumG_ok _, trivial⟩
theorem lkW_mk (qs cs : List (Int × Int)) (ss : List Int) (tk : List Lk) (su en bu er lv : Int) (lh : Bool) (lo ph : Int) (n : Nat) (now : Int) (st : Bool) (ve vb vr : Int) : lkW (encL cell qs) (encL cell cs) (encL (cI .i64) ss) (mkC (encL cL tk) su en bu er lv lh lo ph (n : Int) now st ve vb vr) = rLook qs cs.length ss ⟨tk, su, en, bu, er, (lv, lh, lo), ph, n, now, st, ve, vb, vr⟩ := by
  simp only [lkW, mkC_enc, decC_enc, decIi64_enc]
theorem lkW_mk0 (qs cs : List (Int × Int)) (ss : List Int) (tk : List Lk) (su en bu er lv : Int) (lh : Bool) (lo ph now : Int) (st : Bool) (ve vb vr : Int) : lkW (encL cell qs) (encL cell cs) (encL (cI .i64) ss) (mkC (encL cL tk) su en bu er lv lh lo ph 0 now st ve vb vr) = rLook qs cs.length ss ⟨tk, su, en, bu, er, (lv, lh, lo), ph, 0, now, st, ve, vb, vr⟩ := lkW_mk qs cs ss tk su en bu er lv lh lo ph 0 now st ve vb vr
set_option maxHeartbeats 1000000 in
theorem rtell_0 (me stm : Int) (qs cs : List (Int × Int)) (ss : List Int) (s : CS) (hst : s.st = false) (hq : qs.length ≤ 1000000) (hcs : cs.length ≤ 1000000) (hs : ss.length ≤ 1000000) (hc : s.Can qs.length ss.length) (w v : Int) (h : Bool) (o : Int) (d : Bool) (q0 : s.en = 0) (p0 : s.ph = 0) :
    SFun Go.Proofs.Try.prog 23 [.ptr 0 0, .agg (ansC w v h o d 0)] (mkS (rES me stm qs cs ss s)) fun l t => l = .tup [] ∧ t = mkS (rET me stm qs cs ss (rTell me stm qs cs.length ss s w v h o d 0)) := by
  refine SFun.mono (SFun.vc (Q := fun l b => l = .tup [] ∧ b = rET me stm qs cs ss (rTell me stm qs cs.length ss s w v h o d 0)) cxw_ok (n := 60) 5 rfl ?_) fun l s' ⟨b0, ⟨h1, h2⟩, h3⟩ => ⟨h1, by rw [h3, h2]⟩
  have nq := noids_c qs
  have nc := noids_c cs
  have nss := noIds_Ii64 ss
  have nt := noids_l s.tk
  obtain ⟨hsu, htk, hat, ha, hb⟩ := hc
  have ok := okK_enc hq hcs hs htk
  have lq := cell_n qs
  have lt := lk_n s.tk
  have E0 : rTell me stm qs cs.length ss s w v h o d 0 = rSw me stm qs cs.length ss s w v h o d := by rw [rTell, if_neg (by simpa using q0), if_neg (by simp)]
  have e3 : xar .add .i64 (s.at' : Int) 1 = ((s.at' + 1 : Nat) : Int) := inc_i64 (Nat.lt_succ_self s.at') (by omega)
  rw [E0]
  obtain ⟨tk, su, en, bu, er, lk, ph, at', now, st, ve, vb, vr⟩ := s
  dsimp only at *
  subst q0 p0 hst
  rw [rt_0]
  simp only [nt_eql, cm_self, cond_true, lkW_mk, lkW_mk0, ok, e3]
  cases h with
  | true =>
    by_cases u1 : me < o
    · skip
      have E : rSw me stm qs cs.length ss (⟨tk, su, 0, bu, er, lk, 0, at', now, false, ve, vb, vr⟩ : CS) w v true o d = (⟨tk, su, 0, bu, er, lk, 0, at', now, false, ve, vb, vr⟩ : CS) := by rw [rSw, if_pos rfl, if_pos rfl, rAw, if_pos u1]
      rw [E]
      try dsimp only
      (with_reducible repeat first | refine zq1 ?_ | refine zq2 ?_ | refine zq3 ?_ | refine zq4 ?_ | refine zq5 ?_ | refine zq6 ?_ | refine zq7 ?_ | refine zq8 ?_ | refine zq9 ?_ | refine zqa ?_ | refine zqb ?_ | refine zqc ?_ | refine zqd ?_ | refine zqe ?_ | refine zqf ?_ | refine zqg ?_ | refine zqh ?_ | refine zqi ?_ | refine zqj ?_ | refine zqk ?_ | refine zql ?_ | refine zqm ?_ | refine zqn ?_ | refine zqo ?_ | refine zqp ?_)
      try simp only [kEn, kBu, kEr, kPh, kAt, kSt, kVe, kVb, kVr, lkW_mk, lkW_mk0]
      exact ⟨rfl, _, _, [.id 0, .id 1, .id 2, .id 3, .id 4, .id 4], ⟨rfl, rfl⟩, by simp only [rET]; (refine ⟨by kernel_rfl, ?_, ?_⟩ <;> repeat first | exact okTms_nil | refine okTms_cons ?_ ?_ | exact okBlks_nil | refine okBlks_cons ?_ ?_ | exact lws_nil | refine lws_cons ?_ ?_ | exact lb_dead | exact zy1 | exact zy2 | exact lb_none | refine zy3 ?_ | exact zy4 | exact lw_any | exact lw_int | exact lw_bool | exact zy5 | exact zy6 | exact lw_nils | exact lw_slo_nils | exact zy7 | exact zy8 | exact zy9 | refine lw_tup ?_ | refine lw_agg ?_ | assumption)⟩
    by_cases u2 : 0 < su
    · have e4 : xar .sub .i64 su 1 = su - 1 := sub_i64 (by omega) (by omega)
      have E : rSw me stm qs cs.length ss (⟨tk, su, 0, bu, er, lk, 0, at', now, false, ve, vb, vr⟩ : CS) w v true o d = ((⟨tk, su, 0, bu, er, lk, 0, at', now, false, ve, vb, vr⟩ : CS)).less := by rw [rSw, if_pos rfl, if_pos rfl, rAw, if_neg u1, if_pos u2]
      rw [E]
      try dsimp only
      simp only [e4]
      (with_reducible repeat first | refine zq1 ?_ | refine zq2 ?_ | refine zq3 ?_ | refine zq4 ?_ | refine zq5 ?_ | refine zq6 ?_ | refine zq7 ?_ | refine zq8 ?_ | refine zq9 ?_ | refine zqa ?_ | refine zqb ?_ | refine zqc ?_ | refine zqd ?_ | refine zqe ?_ | refine zqf ?_ | refine zqg ?_ | refine zqh ?_ | refine zqi ?_ | refine zqj ?_ | refine zqk ?_ | refine zql ?_ | refine zqm ?_ | refine zqn ?_ | refine zqo ?_ | refine zqp ?_)
      try simp only [kEn, kBu, kEr, kPh, kAt, kSt, kVe, kVb, kVr, lkW_mk, lkW_mk0]
      exact ⟨rfl, _, _, [.id 0, .id 1, .id 2, .id 3, .id 4, .id 4], ⟨rfl, rfl⟩, by simp only [rET]; (refine ⟨by kernel_rfl, ?_, ?_⟩ <;> repeat first | exact okTms_nil | refine okTms_cons ?_ ?_ | exact okBlks_nil | refine okBlks_cons ?_ ?_ | exact lws_nil | refine lws_cons ?_ ?_ | exact lb_dead | exact zy1 | exact zy2 | exact lb_none | refine zy3 ?_ | exact zy4 | exact lw_any | exact lw_int | exact lw_bool | exact zy5 | exact zy6 | exact lw_nils | exact lw_slo_nils | exact zy7 | exact zy8 | exact zy9 | refine lw_tup ?_ | refine lw_agg ?_ | assumption)⟩
    by_cases u9 : tk.length = 0
    · skip
      have E : rSw me stm qs cs.length ss (⟨tk, su, 0, bu, er, lk, 0, at', now, false, ve, vb, vr⟩ : CS) w v true o d = ⟨(⟨tk, su, 0, bu, er, lk, 0, at', now, false, ve, vb, vr⟩ : CS).tk, (⟨tk, su, 0, bu, er, lk, 0, at', now, false, ve, vb, vr⟩ : CS).su, 5, o, er, (⟨tk, su, 0, bu, er, lk, 0, at', now, false, ve, vb, vr⟩ : CS).lk, (⟨tk, su, 0, bu, er, lk, 0, at', now, false, ve, vb, vr⟩ : CS).ph, (⟨tk, su, 0, bu, er, lk, 0, at', now, false, ve, vb, vr⟩ : CS).at', (⟨tk, su, 0, bu, er, lk, 0, at', now, false, ve, vb, vr⟩ : CS).now, (⟨tk, su, 0, bu, er, lk, 0, at', now, false, ve, vb, vr⟩ : CS).st, (⟨tk, su, 0, bu, er, lk, 0, at', now, false, ve, vb, vr⟩ : CS).ve, (⟨tk, su, 0, bu, er, lk, 0, at', now, false, ve, vb, vr⟩ : CS).vb, (⟨tk, su, 0, bu, er, lk, 0, at', now, false, ve, vb, vr⟩ : CS).vr⟩ := by rw [rSw, if_pos rfl, if_pos rfl, rAw, if_neg u1, if_neg u2, rOut, if_pos u9]
      rw [E]
      try dsimp only
      (with_reducible repeat first | refine zq1 ?_ | refine zq2 ?_ | refine zq3 ?_ | refine zq4 ?_ | refine zq5 ?_ | refine zq6 ?_ | refine zq7 ?_ | refine zq8 ?_ | refine zq9 ?_ | refine zqa ?_ | refine zqb ?_ | refine zqc ?_ | refine zqd ?_ | refine zqe ?_ | refine zqf ?_ | refine zqg ?_ | refine zqh ?_ | refine zqi ?_ | refine zqj ?_ | refine zqk ?_ | refine zql ?_ | refine zqm ?_ | refine zqn ?_ | refine zqo ?_ | refine zqp ?_)
      try simp only [kEn, kBu, kEr, kPh, kAt, kSt, kVe, kVb, kVr, lkW_mk, lkW_mk0]
      exact ⟨rfl, _, _, [.id 0, .id 1, .id 2, .id 3, .id 4, .id 4], ⟨rfl, rfl⟩, by simp only [rET]; (refine ⟨by kernel_rfl, ?_, ?_⟩ <;> repeat first | exact okTms_nil | refine okTms_cons ?_ ?_ | exact okBlks_nil | refine okBlks_cons ?_ ?_ | exact lws_nil | refine lws_cons ?_ ?_ | exact lb_dead | exact zy1 | exact zy2 | exact lb_none | refine zy3 ?_ | exact zy4 | exact lw_any | exact lw_int | exact lw_bool | exact zy5 | exact zy6 | exact lw_nils | exact lw_slo_nils | exact zy7 | exact zy8 | exact zy9 | refine lw_tup ?_ | refine lw_agg ?_ | assumption)⟩
    · skip
      have E : rSw me stm qs cs.length ss (⟨tk, su, 0, bu, er, lk, 0, at', now, false, ve, vb, vr⟩ : CS) w v true o d = ⟨(⟨tk, su, 0, bu, er, lk, 0, at', now, false, ve, vb, vr⟩ : CS).tk, (⟨tk, su, 0, bu, er, lk, 0, at', now, false, ve, vb, vr⟩ : CS).su, 0, -1, 0, (⟨tk, su, 0, bu, er, lk, 0, at', now, false, ve, vb, vr⟩ : CS).lk, 7, 0, (⟨tk, su, 0, bu, er, lk, 0, at', now, false, ve, vb, vr⟩ : CS).now, (⟨tk, su, 0, bu, er, lk, 0, at', now, false, ve, vb, vr⟩ : CS).st, 5, o, er⟩ := by rw [rSw, if_pos rfl, if_pos rfl, rAw, if_neg u1, if_neg u2, rOut, if_neg u9]
      rw [E]
      try dsimp only
      (with_reducible repeat first | refine zq1 ?_ | refine zq2 ?_ | refine zq3 ?_ | refine zq4 ?_ | refine zq5 ?_ | refine zq6 ?_ | refine zq7 ?_ | refine zq8 ?_ | refine zq9 ?_ | refine zqa ?_ | refine zqb ?_ | refine zqc ?_ | refine zqd ?_ | refine zqe ?_ | refine zqf ?_ | refine zqg ?_ | refine zqh ?_ | refine zqi ?_ | refine zqj ?_ | refine zqk ?_ | refine zql ?_ | refine zqm ?_ | refine zqn ?_ | refine zqo ?_ | refine zqp ?_)
      try simp only [kEn, kBu, kEr, kPh, kAt, kSt, kVe, kVb, kVr, lkW_mk, lkW_mk0]
      exact ⟨rfl, _, _, [.id 0, .id 1, .id 2, .id 3, .id 4, .id 4], ⟨rfl, rfl⟩, by simp only [rET]; (refine ⟨by kernel_rfl, ?_, ?_⟩ <;> repeat first | exact okTms_nil | refine okTms_cons ?_ ?_ | exact okBlks_nil | refine okBlks_cons ?_ ?_ | exact lws_nil | refine lws_cons ?_ ?_ | exact lb_dead | exact zy1 | exact zy2 | exact lb_none | refine zy3 ?_ | exact zy4 | exact lw_any | exact lw_int | exact lw_bool | exact zy5 | exact zy6 | exact lw_nils | exact lw_slo_nils | exact zy7 | exact zy8 | exact zy9 | refine lw_tup ?_ | refine lw_agg ?_ | assumption)⟩
  | false =>
    have E : rSw me stm qs cs.length ss (⟨tk, su, 0, bu, er, lk, 0, at', now, false, ve, vb, vr⟩ : CS) w v false o d = ((⟨tk, su, 0, bu, er, lk, 0, at', now, false, ve, vb, vr⟩ : CS)).lok (v, false, o) := by rw [rSw, if_pos rfl, if_neg (by simp)]
    rw [E]
    try dsimp only
    (with_reducible repeat first | refine zq1 ?_ | refine zq2 ?_ | refine zq3 ?_ | refine zq4 ?_ | refine zq5 ?_ | refine zq6 ?_ | refine zq7 ?_ | refine zq8 ?_ | refine zq9 ?_ | refine zqa ?_ | refine zqb ?_ | refine zqc ?_ | refine zqd ?_ | refine zqe ?_ | refine zqf ?_ | refine zqg ?_ | refine zqh ?_ | refine zqi ?_ | refine zqj ?_ | refine zqk ?_ | refine zql ?_ | refine zqm ?_ | refine zqn ?_ | refine zqo ?_ | refine zqp ?_)
    try simp only [kEn, kBu, kEr, kPh, kAt, kSt, kVe, kVb, kVr, lkW_mk, lkW_mk0]
    exact ⟨rfl, _, _, [.id 0, .id 1, .id 2, .id 3, .id 4, .id 4], ⟨rfl, rfl⟩, by simp only [rET]; (refine ⟨by kernel_rfl, ?_, ?_⟩ <;> repeat first | exact okTms_nil | refine okTms_cons ?_ ?_ | exact okBlks_nil | refine okBlks_cons ?_ ?_ | exact lws_nil | refine lws_cons ?_ ?_ | exact lb_dead | exact zy1 | exact zy2 | exact lb_none | refine zy3 ?_ | exact zy4 | exact lw_any | exact lw_int | exact lw_bool | exact zy5 | exact zy6 | exact lw_nils | exact lw_slo_nils | exact zy7 | exact zy8 | exact zy9 | refine lw_tup ?_ | refine lw_agg ?_ | assumption)⟩
set_option maxHeartbeats 1000000 in
theorem rtell_1 (me stm : Int) (qs cs : List (Int × Int)) (ss : List Int) (s : CS) (hst : s.st = false) (hq : qs.length ≤ 1000000) (hcs : cs.length ≤ 1000000) (hs : ss.length ≤ 1000000) (hc : s.Can qs.length ss.length) (w v : Int) (h : Bool) (o : Int) (d : Bool) (q0 : s.en = 0) (p1 : s.ph = 1) :
    SFun Go.Proofs.Try.prog 23 [.ptr 0 0, .agg (ansC w v h o d 0)] (mkS (rES me stm qs cs ss s)) fun l t => l = .tup [] ∧ t = mkS (rET me stm qs cs ss (rTell me stm qs cs.length ss s w v h o d 0)) := by
  refine SFun.mono (SFun.vc (Q := fun l b => l = .tup [] ∧ b = rET me stm qs cs ss (rTell me stm qs cs.length ss s w v h o d 0)) cxw_ok (n := 60) 5 rfl ?_) fun l s' ⟨b0, ⟨h1, h2⟩, h3⟩ => ⟨h1, by rw [h3, h2]⟩
  have nq := noids_c qs
  have nc := noids_c cs
  have nss := noIds_Ii64 ss
  have nt := noids_l s.tk
  obtain ⟨hsu, htk, hat, ha, hb⟩ := hc
  have ok := okK_enc hq hcs hs htk
  have lq := cell_n qs
  have lt := lk_n s.tk
  have E0 : rTell me stm qs cs.length ss s w v h o d 0 = rSw me stm qs cs.length ss s w v h o d := by rw [rTell, if_neg (by simpa using q0), if_neg (by simp)]
  have e3 : xar .add .i64 (s.at' : Int) 1 = ((s.at' + 1 : Nat) : Int) := inc_i64 (Nat.lt_succ_self s.at') (by omega)
  rw [E0]
  obtain ⟨tk, su, en, bu, er, lk, ph, at', now, st, ve, vb, vr⟩ := s
  dsimp only at *
  subst q0 p1 hst
  rw [rt_1]
  simp only [nt_eql, cm_self, cond_true, lkW_mk, lkW_mk0, ok, e3]
  have hlt := ha rfl rfl
  cases d with
  | true =>
    have nt2 := noids_l (tk ++ [lk])
    have ll : (tk ++ [lk]).length = tk.length + 1 := by simp
    by_cases u1 : at' + 1 = ss.length
    · skip
      have E : rSw me stm qs cs.length ss (⟨tk, su, 0, bu, er, lk, 1, at', now, false, ve, vb, vr⟩ : CS) w v h o true = ((⟨tk, su, 0, bu, er, lk, 1, at', now, false, ve, vb, vr⟩ : CS)).got.into 2 0 := by rw [rSw, if_neg (by simp), if_pos rfl, if_pos rfl, if_pos u1]
      rw [E]
      try dsimp only
      simp only [wd_nat, wd_asV, wd_isV, wd_ix, wd_add, wd_mul, wd_ln, Nat.zero_add, Nat.mul_one, wd_isI, wd_asI, wd_isB, wd_asB, wd_nn, cI_tlen, cB_tlen, cII_tlen, decide_true, cond_true, wd_not_t, wd_not_f, wd_and_t, wd_and_f, lk_push, lk_n]
      (with_reducible repeat first | refine zq1 ?_ | refine zq2 ?_ | refine zq3 ?_ | refine zq4 ?_ | refine zq5 ?_ | refine zq6 ?_ | refine zq7 ?_ | refine zq8 ?_ | refine zq9 ?_ | refine zqa ?_ | refine zqb ?_ | refine zqc ?_ | refine zqd ?_ | refine zqe ?_ | refine zqf ?_ | refine zqg ?_ | refine zqh ?_ | refine zqi ?_ | refine zqj ?_ | refine zqk ?_ | refine zql ?_ | refine zqm ?_ | refine zqn ?_ | refine zqo ?_ | refine zqp ?_)
      try simp only [kEn, kBu, kEr, kPh, kAt, kSt, kVe, kVb, kVr, lkW_mk, lkW_mk0]
      exact ⟨rfl, _, _, [.id 0, .id 1, .id 2, .id 3, .id 4, .id 9], ⟨rfl, rfl⟩, by simp only [rET, ll]; (refine ⟨by kernel_rfl, ?_, ?_⟩ <;> repeat first | exact okTms_nil | refine okTms_cons ?_ ?_ | exact okBlks_nil | refine okBlks_cons ?_ ?_ | exact lws_nil | refine lws_cons ?_ ?_ | exact lb_dead | exact zy1 | exact zy2 | exact lb_none | refine zy3 ?_ | exact zy4 | exact lw_any | exact lw_int | exact lw_bool | exact zy5 | exact zy6 | exact lw_nils | exact lw_slo_nils | exact zy7 | exact zy8 | exact zy9 | refine lw_tup ?_ | refine lw_agg ?_ | assumption)⟩
    · skip
      have E : rSw me stm qs cs.length ss (⟨tk, su, 0, bu, er, lk, 1, at', now, false, ve, vb, vr⟩ : CS) w v h o true = ((⟨tk, su, 0, bu, er, lk, 1, at', now, false, ve, vb, vr⟩ : CS)).got := by rw [rSw, if_neg (by simp), if_pos rfl, if_pos rfl, if_neg u1]
      rw [E]
      try dsimp only
      simp only [wd_nat, wd_asV, wd_isV, wd_ix, wd_add, wd_mul, wd_ln, Nat.zero_add, Nat.mul_one, wd_isI, wd_asI, wd_isB, wd_asB, wd_nn, cI_tlen, cB_tlen, cII_tlen, decide_true, cond_true, wd_not_t, wd_not_f, wd_and_t, wd_and_f, lk_push, lk_n]
      (with_reducible repeat first | refine zq1 ?_ | refine zq2 ?_ | refine zq3 ?_ | refine zq4 ?_ | refine zq5 ?_ | refine zq6 ?_ | refine zq7 ?_ | refine zq8 ?_ | refine zq9 ?_ | refine zqa ?_ | refine zqb ?_ | refine zqc ?_ | refine zqd ?_ | refine zqe ?_ | refine zqf ?_ | refine zqg ?_ | refine zqh ?_ | refine zqi ?_ | refine zqj ?_ | refine zqk ?_ | refine zql ?_ | refine zqm ?_ | refine zqn ?_ | refine zqo ?_ | refine zqp ?_)
      try simp only [kEn, kBu, kEr, kPh, kAt, kSt, kVe, kVb, kVr, lkW_mk, lkW_mk0]
      exact ⟨rfl, _, _, [.id 0, .id 1, .id 2, .id 3, .id 4, .id 9], ⟨rfl, rfl⟩, by simp only [rET, ll]; (refine ⟨by kernel_rfl, ?_, ?_⟩ <;> repeat first | exact okTms_nil | refine okTms_cons ?_ ?_ | exact okBlks_nil | refine okBlks_cons ?_ ?_ | exact lws_nil | refine lws_cons ?_ ?_ | exact lb_dead | exact zy1 | exact zy2 | exact lb_none | refine zy3 ?_ | exact zy4 | exact lw_any | exact lw_int | exact lw_bool | exact zy5 | exact zy6 | exact lw_nils | exact lw_slo_nils | exact zy7 | exact zy8 | exact zy9 | refine lw_tup ?_ | refine lw_agg ?_ | assumption)⟩
  | false =>
    have E : rSw me stm qs cs.length ss (⟨tk, su, 0, bu, er, lk, 1, at', now, false, ve, vb, vr⟩ : CS) w v h o false = ((⟨tk, su, 0, bu, er, lk, 1, at', now, false, ve, vb, vr⟩ : CS)).again := by rw [rSw, if_neg (by simp), if_pos rfl, if_neg (by simp)]
    rw [E]
    try dsimp only
    (with_reducible repeat first | refine zq1 ?_ | refine zq2 ?_ | refine zq3 ?_ | refine zq4 ?_ | refine zq5 ?_ | refine zq6 ?_ | refine zq7 ?_ | refine zq8 ?_ | refine zq9 ?_ | refine zqa ?_ | refine zqb ?_ | refine zqc ?_ | refine zqd ?_ | refine zqe ?_ | refine zqf ?_ | refine zqg ?_ | refine zqh ?_ | refine zqi ?_ | refine zqj ?_ | refine zqk ?_ | refine zql ?_ | refine zqm ?_ | refine zqn ?_ | refine zqo ?_ | refine zqp ?_)
    try simp only [kEn, kBu, kEr, kPh, kAt, kSt, kVe, kVb, kVr, lkW_mk, lkW_mk0]
    exact ⟨rfl, _, _, [.id 0, .id 1, .id 2, .id 3, .id 4, .id 4], ⟨rfl, rfl⟩, by simp only [rET]; (refine ⟨by kernel_rfl, ?_, ?_⟩ <;> repeat first | exact okTms_nil | refine okTms_cons ?_ ?_ | exact okBlks_nil | refine okBlks_cons ?_ ?_ | exact lws_nil | refine lws_cons ?_ ?_ | exact lb_dead | exact zy1 | exact zy2 | exact lb_none | refine zy3 ?_ | exact zy4 | exact lw_any | exact lw_int | exact lw_bool | exact zy5 | exact zy6 | exact lw_nils | exact lw_slo_nils | exact zy7 | exact zy8 | exact zy9 | refine lw_tup ?_ | refine lw_agg ?_ | assumption)⟩
set_option maxHeartbeats 1000000 in
theorem rtell_2 (me stm : Int) (qs cs : List (Int × Int)) (ss : List Int) (s : CS) (hst : s.st = false) (hq : qs.length ≤ 1000000) (hcs : cs.length ≤ 1000000) (hs : ss.length ≤ 1000000) (hc : s.Can qs.length ss.length) (w v : Int) (h : Bool) (o : Int) (d : Bool) (q0 : s.en = 0) (p2 : s.ph = 2) :
    SFun Go.Proofs.Try.prog 23 [.ptr 0 0, .agg (ansC w v h o d 0)] (mkS (rES me stm qs cs ss s)) fun l t => l = .tup [] ∧ t = mkS (rET me stm qs cs ss (rTell me stm qs cs.length ss s w v h o d 0)) := by
  refine SFun.mono (SFun.vc (Q := fun l b => l = .tup [] ∧ b = rET me stm qs cs ss (rTell me stm qs cs.length ss s w v h o d 0)) cxw_ok (n := 60) 5 rfl ?_) fun l s' ⟨b0, ⟨h1, h2⟩, h3⟩ => ⟨h1, by rw [h3, h2]⟩
  have nq := noids_c qs
  have nc := noids_c cs
  have nss := noIds_Ii64 ss
  have nt := noids_l s.tk
  obtain ⟨hsu, htk, hat, ha, hb⟩ := hc
  have ok := okK_enc hq hcs hs htk
  have lq := cell_n qs
  have lt := lk_n s.tk
  have E0 : rTell me stm qs cs.length ss s w v h o d 0 = rSw me stm qs cs.length ss s w v h o d := by rw [rTell, if_neg (by simpa using q0), if_neg (by simp)]
  have e3 : xar .add .i64 (s.at' : Int) 1 = ((s.at' + 1 : Nat) : Int) := inc_i64 (Nat.lt_succ_self s.at') (by omega)
  rw [E0]
  obtain ⟨tk, su, en, bu, er, lk, ph, at', now, st, ve, vb, vr⟩ := s
  dsimp only at *
  subst q0 p2 hst
  rw [rt_2]
  simp only [nt_eql, cm_self, cond_true, lkW_mk, lkW_mk0, ok, e3]
  by_cases u1 : 4611686018427387903 ≤ w
  · skip
    by_cases u9 : tk.length = 0
    · skip
      have E : rSw me stm qs cs.length ss (⟨tk, su, 0, bu, er, lk, 2, at', now, false, ve, vb, vr⟩ : CS) w v h o d = ⟨(((⟨tk, su, 0, bu, er, lk, 2, at', now, false, ve, vb, vr⟩ : CS)).dated w).tk, (((⟨tk, su, 0, bu, er, lk, 2, at', now, false, ve, vb, vr⟩ : CS)).dated w).su, 4, (-1), 7, (((⟨tk, su, 0, bu, er, lk, 2, at', now, false, ve, vb, vr⟩ : CS)).dated w).lk, (((⟨tk, su, 0, bu, er, lk, 2, at', now, false, ve, vb, vr⟩ : CS)).dated w).ph, (((⟨tk, su, 0, bu, er, lk, 2, at', now, false, ve, vb, vr⟩ : CS)).dated w).at', (((⟨tk, su, 0, bu, er, lk, 2, at', now, false, ve, vb, vr⟩ : CS)).dated w).now, (((⟨tk, su, 0, bu, er, lk, 2, at', now, false, ve, vb, vr⟩ : CS)).dated w).st, (((⟨tk, su, 0, bu, er, lk, 2, at', now, false, ve, vb, vr⟩ : CS)).dated w).ve, (((⟨tk, su, 0, bu, er, lk, 2, at', now, false, ve, vb, vr⟩ : CS)).dated w).vb, (((⟨tk, su, 0, bu, er, lk, 2, at', now, false, ve, vb, vr⟩ : CS)).dated w).vr⟩ := by rw [rSw, if_neg (by simp), if_neg (by simp), if_pos rfl, if_pos u1, rOut, if_pos u9]
      rw [E]
      try dsimp only
      (with_reducible repeat first | refine zq1 ?_ | refine zq2 ?_ | refine zq3 ?_ | refine zq4 ?_ | refine zq5 ?_ | refine zq6 ?_ | refine zq7 ?_ | refine zq8 ?_ | refine zq9 ?_ | refine zqa ?_ | refine zqb ?_ | refine zqc ?_ | refine zqd ?_ | refine zqe ?_ | refine zqf ?_ | refine zqg ?_ | refine zqh ?_ | refine zqi ?_ | refine zqj ?_ | refine zqk ?_ | refine zql ?_ | refine zqm ?_ | refine zqn ?_ | refine zqo ?_ | refine zqp ?_)
      try simp only [kEn, kBu, kEr, kPh, kAt, kSt, kVe, kVb, kVr, lkW_mk, lkW_mk0]
      exact ⟨rfl, _, _, [.id 0, .id 1, .id 2, .id 3, .id 4, .id 4], ⟨rfl, rfl⟩, by simp only [rET]; (refine ⟨by kernel_rfl, ?_, ?_⟩ <;> repeat first | exact okTms_nil | refine okTms_cons ?_ ?_ | exact okBlks_nil | refine okBlks_cons ?_ ?_ | exact lws_nil | refine lws_cons ?_ ?_ | exact lb_dead | exact zy1 | exact zy2 | exact lb_none | refine zy3 ?_ | exact zy4 | exact lw_any | exact lw_int | exact lw_bool | exact zy5 | exact zy6 | exact lw_nils | exact lw_slo_nils | exact zy7 | exact zy8 | exact zy9 | refine lw_tup ?_ | refine lw_agg ?_ | assumption)⟩
    · skip
      have E : rSw me stm qs cs.length ss (⟨tk, su, 0, bu, er, lk, 2, at', now, false, ve, vb, vr⟩ : CS) w v h o d = ⟨(((⟨tk, su, 0, bu, er, lk, 2, at', now, false, ve, vb, vr⟩ : CS)).dated w).tk, (((⟨tk, su, 0, bu, er, lk, 2, at', now, false, ve, vb, vr⟩ : CS)).dated w).su, 0, -1, 0, (((⟨tk, su, 0, bu, er, lk, 2, at', now, false, ve, vb, vr⟩ : CS)).dated w).lk, 7, 0, (((⟨tk, su, 0, bu, er, lk, 2, at', now, false, ve, vb, vr⟩ : CS)).dated w).now, (((⟨tk, su, 0, bu, er, lk, 2, at', now, false, ve, vb, vr⟩ : CS)).dated w).st, 4, (-1), 7⟩ := by rw [rSw, if_neg (by simp), if_neg (by simp), if_pos rfl, if_pos u1, rOut, if_neg u9]
      rw [E]
      try dsimp only
      (with_reducible repeat first | refine zq1 ?_ | refine zq2 ?_ | refine zq3 ?_ | refine zq4 ?_ | refine zq5 ?_ | refine zq6 ?_ | refine zq7 ?_ | refine zq8 ?_ | refine zq9 ?_ | refine zqa ?_ | refine zqb ?_ | refine zqc ?_ | refine zqd ?_ | refine zqe ?_ | refine zqf ?_ | refine zqg ?_ | refine zqh ?_ | refine zqi ?_ | refine zqj ?_ | refine zqk ?_ | refine zql ?_ | refine zqm ?_ | refine zqn ?_ | refine zqo ?_ | refine zqp ?_)
      try simp only [kEn, kBu, kEr, kPh, kAt, kSt, kVe, kVb, kVr, lkW_mk, lkW_mk0]
      exact ⟨rfl, _, _, [.id 0, .id 1, .id 2, .id 3, .id 4, .id 4], ⟨rfl, rfl⟩, by simp only [rET]; (refine ⟨by kernel_rfl, ?_, ?_⟩ <;> repeat first | exact okTms_nil | refine okTms_cons ?_ ?_ | exact okBlks_nil | refine okBlks_cons ?_ ?_ | exact lws_nil | refine lws_cons ?_ ?_ | exact lb_dead | exact zy1 | exact zy2 | exact lb_none | refine zy3 ?_ | exact zy4 | exact lw_any | exact lw_int | exact lw_bool | exact zy5 | exact zy6 | exact lw_nils | exact lw_slo_nils | exact zy7 | exact zy8 | exact zy9 | refine lw_tup ?_ | refine lw_agg ?_ | assumption)⟩
  · skip
    have E : rSw me stm qs cs.length ss (⟨tk, su, 0, bu, er, lk, 2, at', now, false, ve, vb, vr⟩ : CS) w v h o d = ((⟨tk, su, 0, bu, er, lk, 2, at', now, false, ve, vb, vr⟩ : CS)).dated w := by rw [rSw, if_neg (by simp), if_neg (by simp), if_pos rfl, if_neg u1]
    rw [E]
    try dsimp only
    (with_reducible repeat first | refine zq1 ?_ | refine zq2 ?_ | refine zq3 ?_ | refine zq4 ?_ | refine zq5 ?_ | refine zq6 ?_ | refine zq7 ?_ | refine zq8 ?_ | refine zq9 ?_ | refine zqa ?_ | refine zqb ?_ | refine zqc ?_ | refine zqd ?_ | refine zqe ?_ | refine zqf ?_ | refine zqg ?_ | refine zqh ?_ | refine zqi ?_ | refine zqj ?_ | refine zqk ?_ | refine zql ?_ | refine zqm ?_ | refine zqn ?_ | refine zqo ?_ | refine zqp ?_)
    try simp only [kEn, kBu, kEr, kPh, kAt, kSt, kVe, kVb, kVr, lkW_mk, lkW_mk0]
    exact ⟨rfl, _, _, [.id 0, .id 1, .id 2, .id 3, .id 4, .id 4], ⟨rfl, rfl⟩, by simp only [rET]; (refine ⟨by kernel_rfl, ?_, ?_⟩ <;> repeat first | exact okTms_nil | refine okTms_cons ?_ ?_ | exact okBlks_nil | refine okBlks_cons ?_ ?_ | exact lws_nil | refine lws_cons ?_ ?_ | exact lb_dead | exact zy1 | exact zy2 | exact lb_none | refine zy3 ?_ | exact zy4 | exact lw_any | exact lw_int | exact lw_bool | exact zy5 | exact zy6 | exact lw_nils | exact lw_slo_nils | exact zy7 | exact zy8 | exact zy9 | refine lw_tup ?_ | refine lw_agg ?_ | assumption)⟩
set_option maxHeartbeats 1000000 in
theorem rtell_3 (me stm : Int) (qs cs : List (Int × Int)) (ss : List Int) (s : CS) (hst : s.st = false) (hq : qs.length ≤ 1000000) (hcs : cs.length ≤ 1000000) (hs : ss.length ≤ 1000000) (hc : s.Can qs.length ss.length) (w v : Int) (h : Bool) (o : Int) (d : Bool) (q0 : s.en = 0) (p3 : s.ph = 3) :
    SFun Go.Proofs.Try.prog 23 [.ptr 0 0, .agg (ansC w v h o d 0)] (mkS (rES me stm qs cs ss s)) fun l t => l = .tup [] ∧ t = mkS (rET me stm qs cs ss (rTell me stm qs cs.length ss s w v h o d 0)) := by
  refine SFun.mono (SFun.vc (Q := fun l b => l = .tup [] ∧ b = rET me stm qs cs ss (rTell me stm qs cs.length ss s w v h o d 0)) cxw_ok (n := 60) 5 rfl ?_) fun l s' ⟨b0, ⟨h1, h2⟩, h3⟩ => ⟨h1, by rw [h3, h2]⟩
  have nq := noids_c qs
  have nc := noids_c cs
  have nss := noIds_Ii64 ss
  have nt := noids_l s.tk
  obtain ⟨hsu, htk, hat, ha, hb⟩ := hc
  have ok := okK_enc hq hcs hs htk
  have lq := cell_n qs
  have lt := lk_n s.tk
  have E0 : rTell me stm qs cs.length ss s w v h o d 0 = rSw me stm qs cs.length ss s w v h o d := by rw [rTell, if_neg (by simpa using q0), if_neg (by simp)]
  have e3 : xar .add .i64 (s.at' : Int) 1 = ((s.at' + 1 : Nat) : Int) := inc_i64 (Nat.lt_succ_self s.at') (by omega)
  rw [E0]
  obtain ⟨tk, su, en, bu, er, lk, ph, at', now, st, ve, vb, vr⟩ := s
  dsimp only at *
  subst q0 p3 hst
  rw [rt_3]
  simp only [nt_eql, cm_self, cond_true, lkW_mk, lkW_mk0, ok, e3]
  cases d with
  | true =>
    by_cases u1 : now = stm
    · by_cases u2 : cs.length = 0
      · by_cases u3 : ss.length = 0
        · skip
          have E : rSw me stm qs cs.length ss (⟨tk, su, 0, bu, er, lk, 3, at', now, false, ve, vb, vr⟩ : CS) w v h o true = (((⟨tk, su, 0, bu, er, lk, 3, at', now, false, ve, vb, vr⟩ : CS)).into 4 0).endd := by rw [rSw, if_neg (by simp), if_neg (by simp), if_neg (by simp), if_pos rfl, if_pos rfl, if_pos u1, rWrite, if_pos u2, if_pos u3]
          rw [E]
          try dsimp only
          (with_reducible repeat first | refine zq1 ?_ | refine zq2 ?_ | refine zq3 ?_ | refine zq4 ?_ | refine zq5 ?_ | refine zq6 ?_ | refine zq7 ?_ | refine zq8 ?_ | refine zq9 ?_ | refine zqa ?_ | refine zqb ?_ | refine zqc ?_ | refine zqd ?_ | refine zqe ?_ | refine zqf ?_ | refine zqg ?_ | refine zqh ?_ | refine zqi ?_ | refine zqj ?_ | refine zqk ?_ | refine zql ?_ | refine zqm ?_ | refine zqn ?_ | refine zqo ?_ | refine zqp ?_)
          try simp only [kEn, kBu, kEr, kPh, kAt, kSt, kVe, kVb, kVr, lkW_mk, lkW_mk0]
          exact ⟨rfl, _, _, [.id 0, .id 1, .id 2, .id 3, .id 4, .id 4], ⟨rfl, rfl⟩, by simp only [rET]; (refine ⟨by kernel_rfl, ?_, ?_⟩ <;> repeat first | exact okTms_nil | refine okTms_cons ?_ ?_ | exact okBlks_nil | refine okBlks_cons ?_ ?_ | exact lws_nil | refine lws_cons ?_ ?_ | exact lb_dead | exact zy1 | exact zy2 | exact lb_none | refine zy3 ?_ | exact zy4 | exact lw_any | exact lw_int | exact lw_bool | exact zy5 | exact zy6 | exact lw_nils | exact lw_slo_nils | exact zy7 | exact zy8 | exact zy9 | refine lw_tup ?_ | refine lw_agg ?_ | assumption)⟩
        · skip
          have E : rSw me stm qs cs.length ss (⟨tk, su, 0, bu, er, lk, 3, at', now, false, ve, vb, vr⟩ : CS) w v h o true = ((⟨tk, su, 0, bu, er, lk, 3, at', now, false, ve, vb, vr⟩ : CS)).into 6 0 := by rw [rSw, if_neg (by simp), if_neg (by simp), if_neg (by simp), if_pos rfl, if_pos rfl, if_pos u1, rWrite, if_pos u2, if_neg u3]
          rw [E]
          try dsimp only
          (with_reducible repeat first | refine zq1 ?_ | refine zq2 ?_ | refine zq3 ?_ | refine zq4 ?_ | refine zq5 ?_ | refine zq6 ?_ | refine zq7 ?_ | refine zq8 ?_ | refine zq9 ?_ | refine zqa ?_ | refine zqb ?_ | refine zqc ?_ | refine zqd ?_ | refine zqe ?_ | refine zqf ?_ | refine zqg ?_ | refine zqh ?_ | refine zqi ?_ | refine zqj ?_ | refine zqk ?_ | refine zql ?_ | refine zqm ?_ | refine zqn ?_ | refine zqo ?_ | refine zqp ?_)
          try simp only [kEn, kBu, kEr, kPh, kAt, kSt, kVe, kVb, kVr, lkW_mk, lkW_mk0]
          exact ⟨rfl, _, _, [.id 0, .id 1, .id 2, .id 3, .id 4, .id 4], ⟨rfl, rfl⟩, by simp only [rET]; (refine ⟨by kernel_rfl, ?_, ?_⟩ <;> repeat first | exact okTms_nil | refine okTms_cons ?_ ?_ | exact okBlks_nil | refine okBlks_cons ?_ ?_ | exact lws_nil | refine lws_cons ?_ ?_ | exact lb_dead | exact zy1 | exact zy2 | exact lb_none | refine zy3 ?_ | exact zy4 | exact lw_any | exact lw_int | exact lw_bool | exact zy5 | exact zy6 | exact lw_nils | exact lw_slo_nils | exact zy7 | exact zy8 | exact zy9 | refine lw_tup ?_ | refine lw_agg ?_ | assumption)⟩
      · skip
        have E : rSw me stm qs cs.length ss (⟨tk, su, 0, bu, er, lk, 3, at', now, false, ve, vb, vr⟩ : CS) w v h o true = ((⟨tk, su, 0, bu, er, lk, 3, at', now, false, ve, vb, vr⟩ : CS)).into 5 0 := by rw [rSw, if_neg (by simp), if_neg (by simp), if_neg (by simp), if_pos rfl, if_pos rfl, if_pos u1, rWrite, if_neg u2]
        rw [E]
        try dsimp only
        (with_reducible repeat first | refine zq1 ?_ | refine zq2 ?_ | refine zq3 ?_ | refine zq4 ?_ | refine zq5 ?_ | refine zq6 ?_ | refine zq7 ?_ | refine zq8 ?_ | refine zq9 ?_ | refine zqa ?_ | refine zqb ?_ | refine zqc ?_ | refine zqd ?_ | refine zqe ?_ | refine zqf ?_ | refine zqg ?_ | refine zqh ?_ | refine zqi ?_ | refine zqj ?_ | refine zqk ?_ | refine zql ?_ | refine zqm ?_ | refine zqn ?_ | refine zqo ?_ | refine zqp ?_)
        try simp only [kEn, kBu, kEr, kPh, kAt, kSt, kVe, kVb, kVr, lkW_mk, lkW_mk0]
        exact ⟨rfl, _, _, [.id 0, .id 1, .id 2, .id 3, .id 4, .id 4], ⟨rfl, rfl⟩, by simp only [rET]; (refine ⟨by kernel_rfl, ?_, ?_⟩ <;> repeat first | exact okTms_nil | refine okTms_cons ?_ ?_ | exact okBlks_nil | refine okBlks_cons ?_ ?_ | exact lws_nil | refine lws_cons ?_ ?_ | exact lb_dead | exact zy1 | exact zy2 | exact lb_none | refine zy3 ?_ | exact zy4 | exact lw_any | exact lw_int | exact lw_bool | exact zy5 | exact zy6 | exact lw_nils | exact lw_slo_nils | exact zy7 | exact zy8 | exact zy9 | refine lw_tup ?_ | refine lw_agg ?_ | assumption)⟩
    · skip
      have E : rSw me stm qs cs.length ss (⟨tk, su, 0, bu, er, lk, 3, at', now, false, ve, vb, vr⟩ : CS) w v h o true = rLook qs cs.length ss (((⟨tk, su, 0, bu, er, lk, 3, at', now, false, ve, vb, vr⟩ : CS)).into 4 0) := by rw [rSw, if_neg (by simp), if_neg (by simp), if_neg (by simp), if_pos rfl, if_pos rfl, if_neg u1]
      rw [E]
      obtain ⟨a1, a2, a3, a4⟩ := rLook_same qs cs.length ss (((⟨tk, su, 0, bu, er, lk, 3, at', now, false, ve, vb, vr⟩ : CS)).into 4 0)
      try dsimp only at a1 a2 a3 a4 ⊢
      (with_reducible repeat first | refine zq1 ?_ | refine zq2 ?_ | refine zq3 ?_ | refine zq4 ?_ | refine zq5 ?_ | refine zq6 ?_ | refine zq7 ?_ | refine zq8 ?_ | refine zq9 ?_ | refine zqa ?_ | refine zqb ?_ | refine zqc ?_ | refine zqd ?_ | refine zqe ?_ | refine zqf ?_ | refine zqg ?_ | refine zqh ?_ | refine zqi ?_ | refine zqj ?_ | refine zqk ?_ | refine zql ?_ | refine zqm ?_ | refine zqn ?_ | refine zqo ?_ | refine zqp ?_)
      try simp only [kEn, kBu, kEr, kPh, kAt, kSt, kVe, kVb, kVr, lkW_mk, lkW_mk0]
      exact ⟨rfl, _, _, [.id 0, .id 1, .id 2, .id 3, .id 4, .id 4], ⟨rfl, rfl⟩, by simp only [rET, a1, a2, a3, a4]; (refine ⟨by kernel_rfl, ?_, ?_⟩ <;> repeat first | exact okTms_nil | refine okTms_cons ?_ ?_ | exact okBlks_nil | refine okBlks_cons ?_ ?_ | exact lws_nil | refine lws_cons ?_ ?_ | exact lb_dead | exact zy1 | exact zy2 | exact lb_none | refine zy3 ?_ | exact zy4 | exact lw_any | exact lw_int | exact lw_bool | exact zy5 | exact zy6 | exact lw_nils | exact lw_slo_nils | exact zy7 | exact zy8 | exact zy9 | refine lw_tup ?_ | refine lw_agg ?_ | assumption)⟩
  | false =>
    have E : rSw me stm qs cs.length ss (⟨tk, su, 0, bu, er, lk, 3, at', now, false, ve, vb, vr⟩ : CS) w v h o false = ((⟨tk, su, 0, bu, er, lk, 3, at', now, false, ve, vb, vr⟩ : CS)).into 2 at' := by rw [rSw, if_neg (by simp), if_neg (by simp), if_neg (by simp), if_pos rfl, if_neg (by simp)]
    rw [E]
    try dsimp only
    (with_reducible repeat first | refine zq1 ?_ | refine zq2 ?_ | refine zq3 ?_ | refine zq4 ?_ | refine zq5 ?_ | refine zq6 ?_ | refine zq7 ?_ | refine zq8 ?_ | refine zq9 ?_ | refine zqa ?_ | refine zqb ?_ | refine zqc ?_ | refine zqd ?_ | refine zqe ?_ | refine zqf ?_ | refine zqg ?_ | refine zqh ?_ | refine zqi ?_ | refine zqj ?_ | refine zqk ?_ | refine zql ?_ | refine zqm ?_ | refine zqn ?_ | refine zqo ?_ | refine zqp ?_)
    try simp only [kEn, kBu, kEr, kPh, kAt, kSt, kVe, kVb, kVr, lkW_mk, lkW_mk0]
    exact ⟨rfl, _, _, [.id 0, .id 1, .id 2, .id 3, .id 4, .id 4], ⟨rfl, rfl⟩, by simp only [rET]; (refine ⟨by kernel_rfl, ?_, ?_⟩ <;> repeat first | exact okTms_nil | refine okTms_cons ?_ ?_ | exact okBlks_nil | refine okBlks_cons ?_ ?_ | exact lws_nil | refine lws_cons ?_ ?_ | exact lb_dead | exact zy1 | exact zy2 | exact lb_none | refine zy3 ?_ | exact zy4 | exact lw_any | exact lw_int | exact lw_bool | exact zy5 | exact zy6 | exact lw_nils | exact lw_slo_nils | exact zy7 | exact zy8 | exact zy9 | refine lw_tup ?_ | refine lw_agg ?_ | assumption)⟩
set_option maxHeartbeats 1000000 in
theorem rtell_4 (me stm : Int) (qs cs : List (Int × Int)) (ss : List Int) (s : CS) (hst : s.st = false) (hq : qs.length ≤ 1000000) (hcs : cs.length ≤ 1000000) (hs : ss.length ≤ 1000000) (hc : s.Can qs.length ss.length) (w v : Int) (h : Bool) (o : Int) (d : Bool) (q0 : s.en = 0) (p4 : s.ph = 4) :
    SFun Go.Proofs.Try.prog 23 [.ptr 0 0, .agg (ansC w v h o d 0)] (mkS (rES me stm qs cs ss s)) fun l t => l = .tup [] ∧ t = mkS (rET me stm qs cs ss (rTell me stm qs cs.length ss s w v h o d 0)) := by
  refine SFun.mono (SFun.vc (Q := fun l b => l = .tup [] ∧ b = rET me stm qs cs ss (rTell me stm qs cs.length ss s w v h o d 0)) cxw_ok (n := 60) 5 rfl ?_) fun l s' ⟨b0, ⟨h1, h2⟩, h3⟩ => ⟨h1, by rw [h3, h2]⟩
  have nq := noids_c qs
  have nc := noids_c cs
  have nss := noIds_Ii64 ss
  have nt := noids_l s.tk
  obtain ⟨hsu, htk, hat, ha, hb⟩ := hc
  have ok := okK_enc hq hcs hs htk
  have lq := cell_n qs
  have lt := lk_n s.tk
  have E0 : rTell me stm qs cs.length ss s w v h o d 0 = rSw me stm qs cs.length ss s w v h o d := by rw [rTell, if_neg (by simpa using q0), if_neg (by simp)]
  have e3 : xar .add .i64 (s.at' : Int) 1 = ((s.at' + 1 : Nat) : Int) := inc_i64 (Nat.lt_succ_self s.at') (by omega)
  rw [E0]
  obtain ⟨tk, su, en, bu, er, lk, ph, at', now, st, ve, vb, vr⟩ := s
  dsimp only at *
  subst q0 p4 hst
  rw [rt_4]
  simp only [nt_eql, cm_self, cond_true, lkW_mk, lkW_mk0, ok, e3]
  have hlt := hb rfl rfl
  cases h with
  | true =>
    by_cases u1 : me < o
    · skip
      have E : rSw me stm qs cs.length ss (⟨tk, su, 0, bu, er, lk, 4, at', now, false, ve, vb, vr⟩ : CS) w v true o d = (⟨tk, su, 0, bu, er, lk, 4, at', now, false, ve, vb, vr⟩ : CS) := by rw [rSw, if_neg (by simp), if_neg (by simp), if_neg (by simp), if_neg (by simp), if_pos rfl, if_pos rfl, rAw, if_pos u1]
      rw [E]
      try dsimp only
      (with_reducible repeat first | refine zq1 ?_ | refine zq2 ?_ | refine zq3 ?_ | refine zq4 ?_ | refine zq5 ?_ | refine zq6 ?_ | refine zq7 ?_ | refine zq8 ?_ | refine zq9 ?_ | refine zqa ?_ | refine zqb ?_ | refine zqc ?_ | refine zqd ?_ | refine zqe ?_ | refine zqf ?_ | refine zqg ?_ | refine zqh ?_ | refine zqi ?_ | refine zqj ?_ | refine zqk ?_ | refine zql ?_ | refine zqm ?_ | refine zqn ?_ | refine zqo ?_ | refine zqp ?_)
      try simp only [kEn, kBu, kEr, kPh, kAt, kSt, kVe, kVb, kVr, lkW_mk, lkW_mk0]
      exact ⟨rfl, _, _, [.id 0, .id 1, .id 2, .id 3, .id 4, .id 4], ⟨rfl, rfl⟩, by simp only [rET]; (refine ⟨by kernel_rfl, ?_, ?_⟩ <;> repeat first | exact okTms_nil | refine okTms_cons ?_ ?_ | exact okBlks_nil | refine okBlks_cons ?_ ?_ | exact lws_nil | refine lws_cons ?_ ?_ | exact lb_dead | exact zy1 | exact zy2 | exact lb_none | refine zy3 ?_ | exact zy4 | exact lw_any | exact lw_int | exact lw_bool | exact zy5 | exact zy6 | exact lw_nils | exact lw_slo_nils | exact zy7 | exact zy8 | exact zy9 | refine lw_tup ?_ | refine lw_agg ?_ | assumption)⟩
    by_cases u2 : 0 < su
    · have e4 : xar .sub .i64 su 1 = su - 1 := sub_i64 (by omega) (by omega)
      have E : rSw me stm qs cs.length ss (⟨tk, su, 0, bu, er, lk, 4, at', now, false, ve, vb, vr⟩ : CS) w v true o d = ((⟨tk, su, 0, bu, er, lk, 4, at', now, false, ve, vb, vr⟩ : CS)).less := by rw [rSw, if_neg (by simp), if_neg (by simp), if_neg (by simp), if_neg (by simp), if_pos rfl, if_pos rfl, rAw, if_neg u1, if_pos u2]
      rw [E]
      try dsimp only
      simp only [e4]
      (with_reducible repeat first | refine zq1 ?_ | refine zq2 ?_ | refine zq3 ?_ | refine zq4 ?_ | refine zq5 ?_ | refine zq6 ?_ | refine zq7 ?_ | refine zq8 ?_ | refine zq9 ?_ | refine zqa ?_ | refine zqb ?_ | refine zqc ?_ | refine zqd ?_ | refine zqe ?_ | refine zqf ?_ | refine zqg ?_ | refine zqh ?_ | refine zqi ?_ | refine zqj ?_ | refine zqk ?_ | refine zql ?_ | refine zqm ?_ | refine zqn ?_ | refine zqo ?_ | refine zqp ?_)
      try simp only [kEn, kBu, kEr, kPh, kAt, kSt, kVe, kVb, kVr, lkW_mk, lkW_mk0]
      exact ⟨rfl, _, _, [.id 0, .id 1, .id 2, .id 3, .id 4, .id 4], ⟨rfl, rfl⟩, by simp only [rET]; (refine ⟨by kernel_rfl, ?_, ?_⟩ <;> repeat first | exact okTms_nil | refine okTms_cons ?_ ?_ | exact okBlks_nil | refine okBlks_cons ?_ ?_ | exact lws_nil | refine lws_cons ?_ ?_ | exact lb_dead | exact zy1 | exact zy2 | exact lb_none | refine zy3 ?_ | exact zy4 | exact lw_any | exact lw_int | exact lw_bool | exact zy5 | exact zy6 | exact lw_nils | exact lw_slo_nils | exact zy7 | exact zy8 | exact zy9 | refine lw_tup ?_ | refine lw_agg ?_ | assumption)⟩
    by_cases u9 : tk.length = 0
    · skip
      have E : rSw me stm qs cs.length ss (⟨tk, su, 0, bu, er, lk, 4, at', now, false, ve, vb, vr⟩ : CS) w v true o d = ⟨(⟨tk, su, 0, bu, er, lk, 4, at', now, false, ve, vb, vr⟩ : CS).tk, (⟨tk, su, 0, bu, er, lk, 4, at', now, false, ve, vb, vr⟩ : CS).su, 5, o, er, (⟨tk, su, 0, bu, er, lk, 4, at', now, false, ve, vb, vr⟩ : CS).lk, (⟨tk, su, 0, bu, er, lk, 4, at', now, false, ve, vb, vr⟩ : CS).ph, (⟨tk, su, 0, bu, er, lk, 4, at', now, false, ve, vb, vr⟩ : CS).at', (⟨tk, su, 0, bu, er, lk, 4, at', now, false, ve, vb, vr⟩ : CS).now, (⟨tk, su, 0, bu, er, lk, 4, at', now, false, ve, vb, vr⟩ : CS).st, (⟨tk, su, 0, bu, er, lk, 4, at', now, false, ve, vb, vr⟩ : CS).ve, (⟨tk, su, 0, bu, er, lk, 4, at', now, false, ve, vb, vr⟩ : CS).vb, (⟨tk, su, 0, bu, er, lk, 4, at', now, false, ve, vb, vr⟩ : CS).vr⟩ := by rw [rSw, if_neg (by simp), if_neg (by simp), if_neg (by simp), if_neg (by simp), if_pos rfl, if_pos rfl, rAw, if_neg u1, if_neg u2, rOut, if_pos u9]
      rw [E]
      try dsimp only
      (with_reducible repeat first | refine zq1 ?_ | refine zq2 ?_ | refine zq3 ?_ | refine zq4 ?_ | refine zq5 ?_ | refine zq6 ?_ | refine zq7 ?_ | refine zq8 ?_ | refine zq9 ?_ | refine zqa ?_ | refine zqb ?_ | refine zqc ?_ | refine zqd ?_ | refine zqe ?_ | refine zqf ?_ | refine zqg ?_ | refine zqh ?_ | refine zqi ?_ | refine zqj ?_ | refine zqk ?_ | refine zql ?_ | refine zqm ?_ | refine zqn ?_ | refine zqo ?_ | refine zqp ?_)
      try simp only [kEn, kBu, kEr, kPh, kAt, kSt, kVe, kVb, kVr, lkW_mk, lkW_mk0]
      exact ⟨rfl, _, _, [.id 0, .id 1, .id 2, .id 3, .id 4, .id 4], ⟨rfl, rfl⟩, by simp only [rET]; (refine ⟨by kernel_rfl, ?_, ?_⟩ <;> repeat first | exact okTms_nil | refine okTms_cons ?_ ?_ | exact okBlks_nil | refine okBlks_cons ?_ ?_ | exact lws_nil | refine lws_cons ?_ ?_ | exact lb_dead | exact zy1 | exact zy2 | exact lb_none | refine zy3 ?_ | exact zy4 | exact lw_any | exact lw_int | exact lw_bool | exact zy5 | exact zy6 | exact lw_nils | exact lw_slo_nils | exact zy7 | exact zy8 | exact zy9 | refine lw_tup ?_ | refine lw_agg ?_ | assumption)⟩
    · skip
      have E : rSw me stm qs cs.length ss (⟨tk, su, 0, bu, er, lk, 4, at', now, false, ve, vb, vr⟩ : CS) w v true o d = ⟨(⟨tk, su, 0, bu, er, lk, 4, at', now, false, ve, vb, vr⟩ : CS).tk, (⟨tk, su, 0, bu, er, lk, 4, at', now, false, ve, vb, vr⟩ : CS).su, 0, -1, 0, (⟨tk, su, 0, bu, er, lk, 4, at', now, false, ve, vb, vr⟩ : CS).lk, 7, 0, (⟨tk, su, 0, bu, er, lk, 4, at', now, false, ve, vb, vr⟩ : CS).now, (⟨tk, su, 0, bu, er, lk, 4, at', now, false, ve, vb, vr⟩ : CS).st, 5, o, er⟩ := by rw [rSw, if_neg (by simp), if_neg (by simp), if_neg (by simp), if_neg (by simp), if_pos rfl, if_pos rfl, rAw, if_neg u1, if_neg u2, rOut, if_neg u9]
      rw [E]
      try dsimp only
      (with_reducible repeat first | refine zq1 ?_ | refine zq2 ?_ | refine zq3 ?_ | refine zq4 ?_ | refine zq5 ?_ | refine zq6 ?_ | refine zq7 ?_ | refine zq8 ?_ | refine zq9 ?_ | refine zqa ?_ | refine zqb ?_ | refine zqc ?_ | refine zqd ?_ | refine zqe ?_ | refine zqf ?_ | refine zqg ?_ | refine zqh ?_ | refine zqi ?_ | refine zqj ?_ | refine zqk ?_ | refine zql ?_ | refine zqm ?_ | refine zqn ?_ | refine zqo ?_ | refine zqp ?_)
      try simp only [kEn, kBu, kEr, kPh, kAt, kSt, kVe, kVb, kVr, lkW_mk, lkW_mk0]
      exact ⟨rfl, _, _, [.id 0, .id 1, .id 2, .id 3, .id 4, .id 4], ⟨rfl, rfl⟩, by simp only [rET]; (refine ⟨by kernel_rfl, ?_, ?_⟩ <;> repeat first | exact okTms_nil | refine okTms_cons ?_ ?_ | exact okBlks_nil | refine okBlks_cons ?_ ?_ | exact lws_nil | refine lws_cons ?_ ?_ | exact lb_dead | exact zy1 | exact zy2 | exact lb_none | refine zy3 ?_ | exact zy4 | exact lw_any | exact lw_int | exact lw_bool | exact zy5 | exact zy6 | exact lw_nils | exact lw_slo_nils | exact zy7 | exact zy8 | exact zy9 | refine lw_tup ?_ | refine lw_agg ?_ | assumption)⟩
  | false =>
    simp only [wd_nat, wd_asV, wd_isV, wd_ix, wd_add, wd_mul, wd_ln, Nat.zero_add, Nat.mul_one, wd_isI, wd_asI, wd_isB, wd_asB, wd_nn, cI_tlen, cB_tlen, cII_tlen, decide_true, cond_true, wd_not_t, wd_not_f, wd_and_t, wd_and_f, Nat.add_assoc, Nat.reduceAdd, cell_1 hlt, cell_n]
    by_cases u1 : v = qs[at'].2
    · skip
      have E : rSw me stm qs cs.length ss (⟨tk, su, 0, bu, er, lk, 4, at', now, false, ve, vb, vr⟩ : CS) w v false o d = rLook qs cs.length ss ((⟨tk, su, 0, bu, er, lk, 4, at', now, false, ve, vb, vr⟩ : CS)).step := by rw [rSw, if_neg (by simp), if_neg (by simp), if_neg (by simp), if_neg (by simp), if_pos rfl, if_neg (by simp), if_neg (by rw [getD_q hlt]; simpa using u1)]
      rw [E]
      obtain ⟨a1, a2, a3, a4⟩ := rLook_same qs cs.length ss (((⟨tk, su, 0, bu, er, lk, 4, at', now, false, ve, vb, vr⟩ : CS)).step)
      try dsimp only at a1 a2 a3 a4 ⊢
      (with_reducible repeat first | refine zq1 ?_ | refine zq2 ?_ | refine zq3 ?_ | refine zq4 ?_ | refine zq5 ?_ | refine zq6 ?_ | refine zq7 ?_ | refine zq8 ?_ | refine zq9 ?_ | refine zqa ?_ | refine zqb ?_ | refine zqc ?_ | refine zqd ?_ | refine zqe ?_ | refine zqf ?_ | refine zqg ?_ | refine zqh ?_ | refine zqi ?_ | refine zqj ?_ | refine zqk ?_ | refine zql ?_ | refine zqm ?_ | refine zqn ?_ | refine zqo ?_ | refine zqp ?_)
      try simp only [kEn, kBu, kEr, kPh, kAt, kSt, kVe, kVb, kVr, lkW_mk, lkW_mk0]
      exact ⟨rfl, _, _, [.id 0, .id 1, .id 2, .id 3, .id 4, .id 4], ⟨rfl, rfl⟩, by simp only [rET, a1, a2, a3, a4]; (refine ⟨by kernel_rfl, ?_, ?_⟩ <;> repeat first | exact okTms_nil | refine okTms_cons ?_ ?_ | exact okBlks_nil | refine okBlks_cons ?_ ?_ | exact lws_nil | refine lws_cons ?_ ?_ | exact lb_dead | exact zy1 | exact zy2 | exact lb_none | refine zy3 ?_ | exact zy4 | exact lw_any | exact lw_int | exact lw_bool | exact zy5 | exact zy6 | exact lw_nils | exact lw_slo_nils | exact zy7 | exact zy8 | exact zy9 | refine lw_tup ?_ | refine lw_agg ?_ | assumption)⟩
    · skip
      by_cases u9 : tk.length = 0
      · skip
        have E : rSw me stm qs cs.length ss (⟨tk, su, 0, bu, er, lk, 4, at', now, false, ve, vb, vr⟩ : CS) w v false o d = ⟨(⟨tk, su, 0, bu, er, lk, 4, at', now, false, ve, vb, vr⟩ : CS).tk, (⟨tk, su, 0, bu, er, lk, 4, at', now, false, ve, vb, vr⟩ : CS).su, 5, (-1), 0, (⟨tk, su, 0, bu, er, lk, 4, at', now, false, ve, vb, vr⟩ : CS).lk, (⟨tk, su, 0, bu, er, lk, 4, at', now, false, ve, vb, vr⟩ : CS).ph, (⟨tk, su, 0, bu, er, lk, 4, at', now, false, ve, vb, vr⟩ : CS).at', (⟨tk, su, 0, bu, er, lk, 4, at', now, false, ve, vb, vr⟩ : CS).now, (⟨tk, su, 0, bu, er, lk, 4, at', now, false, ve, vb, vr⟩ : CS).st, (⟨tk, su, 0, bu, er, lk, 4, at', now, false, ve, vb, vr⟩ : CS).ve, (⟨tk, su, 0, bu, er, lk, 4, at', now, false, ve, vb, vr⟩ : CS).vb, (⟨tk, su, 0, bu, er, lk, 4, at', now, false, ve, vb, vr⟩ : CS).vr⟩ := by rw [rSw, if_neg (by simp), if_neg (by simp), if_neg (by simp), if_neg (by simp), if_pos rfl, if_neg (by simp), if_pos (by rw [getD_q hlt]; simpa using u1), rOut, if_pos u9]
        rw [E]
        try dsimp only
        (with_reducible repeat first | refine zq1 ?_ | refine zq2 ?_ | refine zq3 ?_ | refine zq4 ?_ | refine zq5 ?_ | refine zq6 ?_ | refine zq7 ?_ | refine zq8 ?_ | refine zq9 ?_ | refine zqa ?_ | refine zqb ?_ | refine zqc ?_ | refine zqd ?_ | refine zqe ?_ | refine zqf ?_ | refine zqg ?_ | refine zqh ?_ | refine zqi ?_ | refine zqj ?_ | refine zqk ?_ | refine zql ?_ | refine zqm ?_ | refine zqn ?_ | refine zqo ?_ | refine zqp ?_)
        try simp only [kEn, kBu, kEr, kPh, kAt, kSt, kVe, kVb, kVr, lkW_mk, lkW_mk0]
        exact ⟨rfl, _, _, [.id 0, .id 1, .id 2, .id 3, .id 4, .id 4], ⟨rfl, rfl⟩, by simp only [rET]; (refine ⟨by kernel_rfl, ?_, ?_⟩ <;> repeat first | exact okTms_nil | refine okTms_cons ?_ ?_ | exact okBlks_nil | refine okBlks_cons ?_ ?_ | exact lws_nil | refine lws_cons ?_ ?_ | exact lb_dead | exact zy1 | exact zy2 | exact lb_none | refine zy3 ?_ | exact zy4 | exact lw_any | exact lw_int | exact lw_bool | exact zy5 | exact zy6 | exact lw_nils | exact lw_slo_nils | exact zy7 | exact zy8 | exact zy9 | refine lw_tup ?_ | refine lw_agg ?_ | assumption)⟩
      · skip
        have E : rSw me stm qs cs.length ss (⟨tk, su, 0, bu, er, lk, 4, at', now, false, ve, vb, vr⟩ : CS) w v false o d = ⟨(⟨tk, su, 0, bu, er, lk, 4, at', now, false, ve, vb, vr⟩ : CS).tk, (⟨tk, su, 0, bu, er, lk, 4, at', now, false, ve, vb, vr⟩ : CS).su, 0, -1, 0, (⟨tk, su, 0, bu, er, lk, 4, at', now, false, ve, vb, vr⟩ : CS).lk, 7, 0, (⟨tk, su, 0, bu, er, lk, 4, at', now, false, ve, vb, vr⟩ : CS).now, (⟨tk, su, 0, bu, er, lk, 4, at', now, false, ve, vb, vr⟩ : CS).st, 5, (-1), 0⟩ := by rw [rSw, if_neg (by simp), if_neg (by simp), if_neg (by simp), if_neg (by simp), if_pos rfl, if_neg (by simp), if_pos (by rw [getD_q hlt]; simpa using u1), rOut, if_neg u9]
        rw [E]
        try dsimp only
        (with_reducible repeat first | refine zq1 ?_ | refine zq2 ?_ | refine zq3 ?_ | refine zq4 ?_ | refine zq5 ?_ | refine zq6 ?_ | refine zq7 ?_ | refine zq8 ?_ | refine zq9 ?_ | refine zqa ?_ | refine zqb ?_ | refine zqc ?_ | refine zqd ?_ | refine zqe ?_ | refine zqf ?_ | refine zqg ?_ | refine zqh ?_ | refine zqi ?_ | refine zqj ?_ | refine zqk ?_ | refine zql ?_ | refine zqm ?_ | refine zqn ?_ | refine zqo ?_ | refine zqp ?_)
        try simp only [kEn, kBu, kEr, kPh, kAt, kSt, kVe, kVb, kVr, lkW_mk, lkW_mk0]
        exact ⟨rfl, _, _, [.id 0, .id 1, .id 2, .id 3, .id 4, .id 4], ⟨rfl, rfl⟩, by simp only [rET]; (refine ⟨by kernel_rfl, ?_, ?_⟩ <;> repeat first | exact okTms_nil | refine okTms_cons ?_ ?_ | exact okBlks_nil | refine okBlks_cons ?_ ?_ | exact lws_nil | refine lws_cons ?_ ?_ | exact lb_dead | exact zy1 | exact zy2 | exact lb_none | refine zy3 ?_ | exact zy4 | exact lw_any | exact lw_int | exact lw_bool | exact zy5 | exact zy6 | exact lw_nils | exact lw_slo_nils | exact zy7 | exact zy8 | exact zy9 | refine lw_tup ?_ | refine lw_agg ?_ | assumption)⟩
set_option maxHeartbeats 1000000 in
theorem rtell_5 (me stm : Int) (qs cs : List (Int × Int)) (ss : List Int) (s : CS) (hst : s.st = false) (hq : qs.length ≤ 1000000) (hcs : cs.length ≤ 1000000) (hs : ss.length ≤ 1000000) (hc : s.Can qs.length ss.length) (w v : Int) (h : Bool) (o : Int) (d : Bool) (q0 : s.en = 0) (p5 : s.ph = 5) :
    SFun Go.Proofs.Try.prog 23 [.ptr 0 0, .agg (ansC w v h o d 0)] (mkS (rES me stm qs cs ss s)) fun l t => l = .tup [] ∧ t = mkS (rET me stm qs cs ss (rTell me stm qs cs.length ss s w v h o d 0)) := by
  refine SFun.mono (SFun.vc (Q := fun l b => l = .tup [] ∧ b = rET me stm qs cs ss (rTell me stm qs cs.length ss s w v h o d 0)) cxw_ok (n := 60) 5 rfl ?_) fun l s' ⟨b0, ⟨h1, h2⟩, h3⟩ => ⟨h1, by rw [h3, h2]⟩
  have nq := noids_c qs
  have nc := noids_c cs
  have nss := noIds_Ii64 ss
  have nt := noids_l s.tk
  obtain ⟨hsu, htk, hat, ha, hb⟩ := hc
  have ok := okK_enc hq hcs hs htk
  have lq := cell_n qs
  have lt := lk_n s.tk
  have E0 : rTell me stm qs cs.length ss s w v h o d 0 = rSw me stm qs cs.length ss s w v h o d := by rw [rTell, if_neg (by simpa using q0), if_neg (by simp)]
  have e3 : xar .add .i64 (s.at' : Int) 1 = ((s.at' + 1 : Nat) : Int) := inc_i64 (Nat.lt_succ_self s.at') (by omega)
  rw [E0]
  obtain ⟨tk, su, en, bu, er, lk, ph, at', now, st, ve, vb, vr⟩ := s
  dsimp only at *
  subst q0 p5 hst
  rw [rt_5]
  simp only [nt_eql, cm_self, cond_true, lkW_mk, lkW_mk0, ok, e3]
  by_cases u1 : at' + 1 = cs.length
  · by_cases u3 : ss.length = 0
    · skip
      have E : rSw me stm qs cs.length ss (⟨tk, su, 0, bu, er, lk, 5, at', now, false, ve, vb, vr⟩ : CS) w v h o d = ((⟨tk, su, 0, bu, er, lk, 5, at', now, false, ve, vb, vr⟩ : CS)).endd := by rw [rSw, if_neg (by simp), if_neg (by simp), if_neg (by simp), if_neg (by simp), if_neg (by simp), if_pos rfl, if_pos u1, if_pos u3]
      rw [E]
      try dsimp only
      (with_reducible repeat first | refine zq1 ?_ | refine zq2 ?_ | refine zq3 ?_ | refine zq4 ?_ | refine zq5 ?_ | refine zq6 ?_ | refine zq7 ?_ | refine zq8 ?_ | refine zq9 ?_ | refine zqa ?_ | refine zqb ?_ | refine zqc ?_ | refine zqd ?_ | refine zqe ?_ | refine zqf ?_ | refine zqg ?_ | refine zqh ?_ | refine zqi ?_ | refine zqj ?_ | refine zqk ?_ | refine zql ?_ | refine zqm ?_ | refine zqn ?_ | refine zqo ?_ | refine zqp ?_)
      try simp only [kEn, kBu, kEr, kPh, kAt, kSt, kVe, kVb, kVr, lkW_mk, lkW_mk0]
      exact ⟨rfl, _, _, [.id 0, .id 1, .id 2, .id 3, .id 4, .id 4], ⟨rfl, rfl⟩, by simp only [rET]; (refine ⟨by kernel_rfl, ?_, ?_⟩ <;> repeat first | exact okTms_nil | refine okTms_cons ?_ ?_ | exact okBlks_nil | refine okBlks_cons ?_ ?_ | exact lws_nil | refine lws_cons ?_ ?_ | exact lb_dead | exact zy1 | exact zy2 | exact lb_none | refine zy3 ?_ | exact zy4 | exact lw_any | exact lw_int | exact lw_bool | exact zy5 | exact zy6 | exact lw_nils | exact lw_slo_nils | exact zy7 | exact zy8 | exact zy9 | refine lw_tup ?_ | refine lw_agg ?_ | assumption)⟩
    · skip
      have E : rSw me stm qs cs.length ss (⟨tk, su, 0, bu, er, lk, 5, at', now, false, ve, vb, vr⟩ : CS) w v h o d = ((⟨tk, su, 0, bu, er, lk, 5, at', now, false, ve, vb, vr⟩ : CS)).into 6 0 := by rw [rSw, if_neg (by simp), if_neg (by simp), if_neg (by simp), if_neg (by simp), if_neg (by simp), if_pos rfl, if_pos u1, if_neg u3]
      rw [E]
      try dsimp only
      (with_reducible repeat first | refine zq1 ?_ | refine zq2 ?_ | refine zq3 ?_ | refine zq4 ?_ | refine zq5 ?_ | refine zq6 ?_ | refine zq7 ?_ | refine zq8 ?_ | refine zq9 ?_ | refine zqa ?_ | refine zqb ?_ | refine zqc ?_ | refine zqd ?_ | refine zqe ?_ | refine zqf ?_ | refine zqg ?_ | refine zqh ?_ | refine zqi ?_ | refine zqj ?_ | refine zqk ?_ | refine zql ?_ | refine zqm ?_ | refine zqn ?_ | refine zqo ?_ | refine zqp ?_)
      try simp only [kEn, kBu, kEr, kPh, kAt, kSt, kVe, kVb, kVr, lkW_mk, lkW_mk0]
      exact ⟨rfl, _, _, [.id 0, .id 1, .id 2, .id 3, .id 4, .id 4], ⟨rfl, rfl⟩, by simp only [rET]; (refine ⟨by kernel_rfl, ?_, ?_⟩ <;> repeat first | exact okTms_nil | refine okTms_cons ?_ ?_ | exact okBlks_nil | refine okBlks_cons ?_ ?_ | exact lws_nil | refine lws_cons ?_ ?_ | exact lb_dead | exact zy1 | exact zy2 | exact lb_none | refine zy3 ?_ | exact zy4 | exact lw_any | exact lw_int | exact lw_bool | exact zy5 | exact zy6 | exact lw_nils | exact lw_slo_nils | exact zy7 | exact zy8 | exact zy9 | refine lw_tup ?_ | refine lw_agg ?_ | assumption)⟩
  · skip
    have E : rSw me stm qs cs.length ss (⟨tk, su, 0, bu, er, lk, 5, at', now, false, ve, vb, vr⟩ : CS) w v h o d = ((⟨tk, su, 0, bu, er, lk, 5, at', now, false, ve, vb, vr⟩ : CS)).step := by rw [rSw, if_neg (by simp), if_neg (by simp), if_neg (by simp), if_neg (by simp), if_neg (by simp), if_pos rfl, if_neg u1]
    rw [E]
    try dsimp only
    (with_reducible repeat first | refine zq1 ?_ | refine zq2 ?_ | refine zq3 ?_ | refine zq4 ?_ | refine zq5 ?_ | refine zq6 ?_ | refine zq7 ?_ | refine zq8 ?_ | refine zq9 ?_ | refine zqa ?_ | refine zqb ?_ | refine zqc ?_ | refine zqd ?_ | refine zqe ?_ | refine zqf ?_ | refine zqg ?_ | refine zqh ?_ | refine zqi ?_ | refine zqj ?_ | refine zqk ?_ | refine zql ?_ | refine zqm ?_ | refine zqn ?_ | refine zqo ?_ | refine zqp ?_)
    try simp only [kEn, kBu, kEr, kPh, kAt, kSt, kVe, kVb, kVr, lkW_mk, lkW_mk0]
    exact ⟨rfl, _, _, [.id 0, .id 1, .id 2, .id 3, .id 4, .id 4], ⟨rfl, rfl⟩, by simp only [rET]; (refine ⟨by kernel_rfl, ?_, ?_⟩ <;> repeat first | exact okTms_nil | refine okTms_cons ?_ ?_ | exact okBlks_nil | refine okBlks_cons ?_ ?_ | exact lws_nil | refine lws_cons ?_ ?_ | exact lb_dead | exact zy1 | exact zy2 | exact lb_none | refine zy3 ?_ | exact zy4 | exact lw_any | exact lw_int | exact lw_bool | exact zy5 | exact zy6 | exact lw_nils | exact lw_slo_nils | exact zy7 | exact zy8 | exact zy9 | refine lw_tup ?_ | refine lw_agg ?_ | assumption)⟩
set_option maxHeartbeats 1000000 in
theorem rtell_6 (me stm : Int) (qs cs : List (Int × Int)) (ss : List Int) (s : CS) (hst : s.st = false) (hq : qs.length ≤ 1000000) (hcs : cs.length ≤ 1000000) (hs : ss.length ≤ 1000000) (hc : s.Can qs.length ss.length) (w v : Int) (h : Bool) (o : Int) (d : Bool) (q0 : s.en = 0) (p6 : s.ph = 6) :
    SFun Go.Proofs.Try.prog 23 [.ptr 0 0, .agg (ansC w v h o d 0)] (mkS (rES me stm qs cs ss s)) fun l t => l = .tup [] ∧ t = mkS (rET me stm qs cs ss (rTell me stm qs cs.length ss s w v h o d 0)) := by
  refine SFun.mono (SFun.vc (Q := fun l b => l = .tup [] ∧ b = rET me stm qs cs ss (rTell me stm qs cs.length ss s w v h o d 0)) cxw_ok (n := 60) 5 rfl ?_) fun l s' ⟨b0, ⟨h1, h2⟩, h3⟩ => ⟨h1, by rw [h3, h2]⟩
  have nq := noids_c qs
  have nc := noids_c cs
  have nss := noIds_Ii64 ss
  have nt := noids_l s.tk
  obtain ⟨hsu, htk, hat, ha, hb⟩ := hc
  have ok := okK_enc hq hcs hs htk
  have lq := cell_n qs
  have lt := lk_n s.tk
  have E0 : rTell me stm qs cs.length ss s w v h o d 0 = rSw me stm qs cs.length ss s w v h o d := by rw [rTell, if_neg (by simpa using q0), if_neg (by simp)]
  have e3 : xar .add .i64 (s.at' : Int) 1 = ((s.at' + 1 : Nat) : Int) := inc_i64 (Nat.lt_succ_self s.at') (by omega)
  rw [E0]
  obtain ⟨tk, su, en, bu, er, lk, ph, at', now, st, ve, vb, vr⟩ := s
  dsimp only at *
  subst q0 p6 hst
  rw [rt_6]
  simp only [nt_eql, cm_self, cond_true, lkW_mk, lkW_mk0, ok, e3]
  by_cases u1 : at' + 1 = ss.length
  · skip
    have E : rSw me stm qs cs.length ss (⟨tk, su, 0, bu, er, lk, 6, at', now, false, ve, vb, vr⟩ : CS) w v h o d = ((⟨tk, su, 0, bu, er, lk, 6, at', now, false, ve, vb, vr⟩ : CS)).fin6 := by rw [rSw, if_neg (by simp), if_neg (by simp), if_neg (by simp), if_neg (by simp), if_neg (by simp), if_neg (by simp), if_pos rfl, if_pos u1]
    rw [E]
    try dsimp only
    (with_reducible repeat first | refine zq1 ?_ | refine zq2 ?_ | refine zq3 ?_ | refine zq4 ?_ | refine zq5 ?_ | refine zq6 ?_ | refine zq7 ?_ | refine zq8 ?_ | refine zq9 ?_ | refine zqa ?_ | refine zqb ?_ | refine zqc ?_ | refine zqd ?_ | refine zqe ?_ | refine zqf ?_ | refine zqg ?_ | refine zqh ?_ | refine zqi ?_ | refine zqj ?_ | refine zqk ?_ | refine zql ?_ | refine zqm ?_ | refine zqn ?_ | refine zqo ?_ | refine zqp ?_)
    try simp only [kEn, kBu, kEr, kPh, kAt, kSt, kVe, kVb, kVr, lkW_mk, lkW_mk0]
    exact ⟨rfl, _, _, [.id 0, .id 1, .id 2, .id 3, .id 4, .id 4], ⟨rfl, rfl⟩, by simp only [rET]; (refine ⟨by kernel_rfl, ?_, ?_⟩ <;> repeat first | exact okTms_nil | refine okTms_cons ?_ ?_ | exact okBlks_nil | refine okBlks_cons ?_ ?_ | exact lws_nil | refine lws_cons ?_ ?_ | exact lb_dead | exact zy1 | exact zy2 | exact lb_none | refine zy3 ?_ | exact zy4 | exact lw_any | exact lw_int | exact lw_bool | exact zy5 | exact zy6 | exact lw_nils | exact lw_slo_nils | exact zy7 | exact zy8 | exact zy9 | refine lw_tup ?_ | refine lw_agg ?_ | assumption)⟩
  · skip
    have E : rSw me stm qs cs.length ss (⟨tk, su, 0, bu, er, lk, 6, at', now, false, ve, vb, vr⟩ : CS) w v h o d = ((⟨tk, su, 0, bu, er, lk, 6, at', now, false, ve, vb, vr⟩ : CS)).step := by rw [rSw, if_neg (by simp), if_neg (by simp), if_neg (by simp), if_neg (by simp), if_neg (by simp), if_neg (by simp), if_pos rfl, if_neg u1]
    rw [E]
    try dsimp only
    (with_reducible repeat first | refine zq1 ?_ | refine zq2 ?_ | refine zq3 ?_ | refine zq4 ?_ | refine zq5 ?_ | refine zq6 ?_ | refine zq7 ?_ | refine zq8 ?_ | refine zq9 ?_ | refine zqa ?_ | refine zqb ?_ | refine zqc ?_ | refine zqd ?_ | refine zqe ?_ | refine zqf ?_ | refine zqg ?_ | refine zqh ?_ | refine zqi ?_ | refine zqj ?_ | refine zqk ?_ | refine zql ?_ | refine zqm ?_ | refine zqn ?_ | refine zqo ?_ | refine zqp ?_)
    try simp only [kEn, kBu, kEr, kPh, kAt, kSt, kVe, kVb, kVr, lkW_mk, lkW_mk0]
    exact ⟨rfl, _, _, [.id 0, .id 1, .id 2, .id 3, .id 4, .id 4], ⟨rfl, rfl⟩, by simp only [rET]; (refine ⟨by kernel_rfl, ?_, ?_⟩ <;> repeat first | exact okTms_nil | refine okTms_cons ?_ ?_ | exact okBlks_nil | refine okBlks_cons ?_ ?_ | exact lws_nil | refine lws_cons ?_ ?_ | exact lb_dead | exact zy1 | exact zy2 | exact lb_none | refine zy3 ?_ | exact zy4 | exact lw_any | exact lw_int | exact lw_bool | exact zy5 | exact zy6 | exact lw_nils | exact lw_slo_nils | exact zy7 | exact zy8 | exact zy9 | refine lw_tup ?_ | refine lw_agg ?_ | assumption)⟩
set_option maxHeartbeats 1000000 in
theorem rtell_7 (me stm : Int) (qs cs : List (Int × Int)) (ss : List Int) (s : CS) (hst : s.st = false) (hq : qs.length ≤ 1000000) (hcs : cs.length ≤ 1000000) (hs : ss.length ≤ 1000000) (hc : s.Can qs.length ss.length) (w v : Int) (h : Bool) (o : Int) (d : Bool) (q0 : s.en = 0) (p7 : s.ph = 7) :
    SFun Go.Proofs.Try.prog 23 [.ptr 0 0, .agg (ansC w v h o d 0)] (mkS (rES me stm qs cs ss s)) fun l t => l = .tup [] ∧ t = mkS (rET me stm qs cs ss (rTell me stm qs cs.length ss s w v h o d 0)) := by
  refine SFun.mono (SFun.vc (Q := fun l b => l = .tup [] ∧ b = rET me stm qs cs ss (rTell me stm qs cs.length ss s w v h o d 0)) cxw_ok (n := 60) 5 rfl ?_) fun l s' ⟨b0, ⟨h1, h2⟩, h3⟩ => ⟨h1, by rw [h3, h2]⟩
  have nq := noids_c qs
  have nc := noids_c cs
  have nss := noIds_Ii64 ss
  have nt := noids_l s.tk
  obtain ⟨hsu, htk, hat, ha, hb⟩ := hc
  have ok := okK_enc hq hcs hs htk
  have lq := cell_n qs
  have lt := lk_n s.tk
  have E0 : rTell me stm qs cs.length ss s w v h o d 0 = rSw me stm qs cs.length ss s w v h o d := by rw [rTell, if_neg (by simpa using q0), if_neg (by simp)]
  have e3 : xar .add .i64 (s.at' : Int) 1 = ((s.at' + 1 : Nat) : Int) := inc_i64 (Nat.lt_succ_self s.at') (by omega)
  rw [E0]
  obtain ⟨tk, su, en, bu, er, lk, ph, at', now, st, ve, vb, vr⟩ := s
  dsimp only at *
  subst q0 p7 hst
  rw [rt_7]
  simp only [nt_eql, cm_self, cond_true, lkW_mk, lkW_mk0, ok, e3]
  by_cases u1 : at' + 1 = tk.length
  · skip
    have E : rSw me stm qs cs.length ss (⟨tk, su, 0, bu, er, lk, 7, at', now, false, ve, vb, vr⟩ : CS) w v h o d = ((⟨tk, su, 0, bu, er, lk, 7, at', now, false, ve, vb, vr⟩ : CS)).fin7 := by rw [rSw, if_neg (by simp), if_neg (by simp), if_neg (by simp), if_neg (by simp), if_neg (by simp), if_neg (by simp), if_neg (by simp), if_pos u1]
    rw [E]
    try dsimp only
    (with_reducible repeat first | refine zq1 ?_ | refine zq2 ?_ | refine zq3 ?_ | refine zq4 ?_ | refine zq5 ?_ | refine zq6 ?_ | refine zq7 ?_ | refine zq8 ?_ | refine zq9 ?_ | refine zqa ?_ | refine zqb ?_ | refine zqc ?_ | refine zqd ?_ | refine zqe ?_ | refine zqf ?_ | refine zqg ?_ | refine zqh ?_ | refine zqi ?_ | refine zqj ?_ | refine zqk ?_ | refine zql ?_ | refine zqm ?_ | refine zqn ?_ | refine zqo ?_ | refine zqp ?_)
    try simp only [kEn, kBu, kEr, kPh, kAt, kSt, kVe, kVb, kVr, lkW_mk, lkW_mk0]
    exact ⟨rfl, _, _, [.id 0, .id 1, .id 2, .id 3, .id 4, .id 4], ⟨rfl, rfl⟩, by simp only [rET]; (refine ⟨by kernel_rfl, ?_, ?_⟩ <;> repeat first | exact okTms_nil | refine okTms_cons ?_ ?_ | exact okBlks_nil | refine okBlks_cons ?_ ?_ | exact lws_nil | refine lws_cons ?_ ?_ | exact lb_dead | exact zy1 | exact zy2 | exact lb_none | refine zy3 ?_ | exact zy4 | exact lw_any | exact lw_int | exact lw_bool | exact zy5 | exact zy6 | exact lw_nils | exact lw_slo_nils | exact zy7 | exact zy8 | exact zy9 | refine lw_tup ?_ | refine lw_agg ?_ | assumption)⟩
  · skip
    have E : rSw me stm qs cs.length ss (⟨tk, su, 0, bu, er, lk, 7, at', now, false, ve, vb, vr⟩ : CS) w v h o d = ((⟨tk, su, 0, bu, er, lk, 7, at', now, false, ve, vb, vr⟩ : CS)).step := by rw [rSw, if_neg (by simp), if_neg (by simp), if_neg (by simp), if_neg (by simp), if_neg (by simp), if_neg (by simp), if_neg (by simp), if_neg u1]
    rw [E]
    try dsimp only
    (with_reducible repeat first | refine zq1 ?_ | refine zq2 ?_ | refine zq3 ?_ | refine zq4 ?_ | refine zq5 ?_ | refine zq6 ?_ | refine zq7 ?_ | refine zq8 ?_ | refine zq9 ?_ | refine zqa ?_ | refine zqb ?_ | refine zqc ?_ | refine zqd ?_ | refine zqe ?_ | refine zqf ?_ | refine zqg ?_ | refine zqh ?_ | refine zqi ?_ | refine zqj ?_ | refine zqk ?_ | refine zql ?_ | refine zqm ?_ | refine zqn ?_ | refine zqo ?_ | refine zqp ?_)
    try simp only [kEn, kBu, kEr, kPh, kAt, kSt, kVe, kVb, kVr, lkW_mk, lkW_mk0]
    exact ⟨rfl, _, _, [.id 0, .id 1, .id 2, .id 3, .id 4, .id 4], ⟨rfl, rfl⟩, by simp only [rET]; (refine ⟨by kernel_rfl, ?_, ?_⟩ <;> repeat first | exact okTms_nil | refine okTms_cons ?_ ?_ | exact okBlks_nil | refine okBlks_cons ?_ ?_ | exact lws_nil | refine lws_cons ?_ ?_ | exact lb_dead | exact zy1 | exact zy2 | exact lb_none | refine zy3 ?_ | exact zy4 | exact lw_any | exact lw_int | exact lw_bool | exact zy5 | exact zy6 | exact lw_nils | exact lw_slo_nils | exact zy7 | exact zy8 | exact zy9 | refine lw_tup ?_ | refine lw_agg ?_ | assumption)⟩
set_option maxHeartbeats 1000000 in
theorem rtell_n (me stm : Int) (qs cs : List (Int × Int)) (ss : List Int) (s : CS) (hst : s.st = false) (hq : qs.length ≤ 1000000) (hcs : cs.length ≤ 1000000) (hs : ss.length ≤ 1000000) (hc : s.Can qs.length ss.length) (w v : Int) (h : Bool) (o : Int) (d : Bool) (e : Int) (q0 : ¬ s.en = 0) :
    SFun Go.Proofs.Try.prog 23 [.ptr 0 0, .agg (ansC w v h o d e)] (mkS (rES me stm qs cs ss s)) fun l t => l = .tup [] ∧ t = mkS (rET me stm qs cs ss (rTell me stm qs cs.length ss s w v h o d e)) := by
  refine SFun.mono (SFun.vc (Q := fun l b => l = .tup [] ∧ b = rET me stm qs cs ss (rTell me stm qs cs.length ss s w v h o d e)) cxwd_ok (n := 60) 5 rfl ?_) fun l s' ⟨b0, ⟨h1, h2⟩, h3⟩ => ⟨h1, by rw [h3, h2]⟩
  have nq := noids_c qs
  have nc := noids_c cs
  have nss := noIds_Ii64 ss
  have nt := noids_l s.tk
  obtain ⟨hsu, htk, hat, ha, hb⟩ := hc
  have ok := okK_enc hq hcs hs htk
  have lq := cell_n qs
  have lt := lk_n s.tk
  have E : rTell me stm qs cs.length ss s w v h o d e = s := if_pos q0
  rw [E]
  rw [rt_x]; simp only [rt_x_b1, rt_x_b2, rt_x_b3, rt_x_b4, rt_x_b5]
  (with_reducible repeat first | refine zq1 ?_ | refine zq2 ?_ | refine zq3 ?_ | refine zq4 ?_ | refine zq5 ?_ | refine zq6 ?_ | refine zq7 ?_ | refine zq8 ?_ | refine zq9 ?_ | refine zqa ?_ | refine zqb ?_ | refine zqc ?_ | refine zqd ?_ | refine zqe ?_ | refine zqf ?_ | refine zqg ?_ | refine zqh ?_ | refine zqi ?_ | refine zqj ?_ | refine zqk ?_ | refine zql ?_ | refine zqm ?_ | refine zqn ?_ | refine zqo ?_ | refine zqp ?_)
  exact ⟨rfl, _, _, [.id 0, .id 1, .id 2, .id 3, .id 4, .id 4], ⟨rfl, rfl⟩, by (refine ⟨by kernel_rfl, ?_, ?_⟩ <;> repeat first | exact okTms_nil | refine okTms_cons ?_ ?_ | exact okBlks_nil | refine okBlks_cons ?_ ?_ | exact lws_nil | refine lws_cons ?_ ?_ | exact lb_dead | exact zy1 | exact zy2 | exact lb_none | refine zy3 ?_ | exact zy4 | exact lw_any | exact lw_int | exact lw_bool | exact zy5 | exact zy6 | exact lw_nils | exact lw_slo_nils | exact zy7 | exact zy8 | exact zy9 | refine lw_tup ?_ | refine lw_agg ?_ | assumption)⟩
set_option maxHeartbeats 1000000 in
theorem rtell_e (me stm : Int) (qs cs : List (Int × Int)) (ss : List Int) (s : CS) (hst : s.st = false) (hq : qs.length ≤ 1000000) (hcs : cs.length ≤ 1000000) (hs : ss.length ≤ 1000000) (hc : s.Can qs.length ss.length) (w v : Int) (h : Bool) (o : Int) (d : Bool) (e : Int) (q0 : s.en = 0) (q1 : ¬ e = 0) :
    SFun Go.Proofs.Try.prog 23 [.ptr 0 0, .agg (ansC w v h o d e)] (mkS (rES me stm qs cs ss s)) fun l t => l = .tup [] ∧ t = mkS (rET me stm qs cs ss (rTell me stm qs cs.length ss s w v h o d e)) := by
  refine SFun.mono (SFun.vc (Q := fun l b => l = .tup [] ∧ b = rET me stm qs cs ss (rTell me stm qs cs.length ss s w v h o d e)) cxwd_ok (n := 60) 5 rfl ?_) fun l s' ⟨b0, ⟨h1, h2⟩, h3⟩ => ⟨h1, by rw [h3, h2]⟩
  have nq := noids_c qs
  have nc := noids_c cs
  have nss := noIds_Ii64 ss
  have nt := noids_l s.tk
  obtain ⟨hsu, htk, hat, ha, hb⟩ := hc
  have ok := okK_enc hq hcs hs htk
  have lq := cell_n qs
  have lt := lk_n s.tk
  have E : rTell me stm qs cs.length ss s w v h o d e = s.errd e := by rw [rTell, if_neg (by simpa using q0), if_pos q1]
  rw [E]
  rw [rt_x]; simp only [rt_x_b1, rt_x_b2, rt_x_b3, rt_x_b4, rt_x_b5]
  (with_reducible repeat first | refine zq1 ?_ | refine zq2 ?_ | refine zq3 ?_ | refine zq4 ?_ | refine zq5 ?_ | refine zq6 ?_ | refine zq7 ?_ | refine zq8 ?_ | refine zq9 ?_ | refine zqa ?_ | refine zqb ?_ | refine zqc ?_ | refine zqd ?_ | refine zqe ?_ | refine zqf ?_ | refine zqg ?_ | refine zqh ?_ | refine zqi ?_ | refine zqj ?_ | refine zqk ?_ | refine zql ?_ | refine zqm ?_ | refine zqn ?_ | refine zqo ?_ | refine zqp ?_)
  exact ⟨rfl, _, _, [.id 0, .id 1, .id 2, .id 3, .id 4, .id 4], ⟨rfl, rfl⟩, by (refine ⟨by kernel_rfl, ?_, ?_⟩ <;> repeat first | exact okTms_nil | refine okTms_cons ?_ ?_ | exact okBlks_nil | refine okBlks_cons ?_ ?_ | exact lws_nil | refine lws_cons ?_ ?_ | exact lb_dead | exact zy1 | exact zy2 | exact lb_none | refine zy3 ?_ | exact zy4 | exact lw_any | exact lw_int | exact lw_bool | exact zy5 | exact zy6 | exact lw_nils | exact lw_slo_nils | exact zy7 | exact zy8 | exact zy9 | refine lw_tup ?_ | refine lw_agg ?_ | assumption)⟩
theorem rtell_ok (me stm : Int) (qs cs : List (Int × Int)) (ss : List Int) (s : CS) (hst : s.st = false) (hq : qs.length ≤ 1000000) (hcs : cs.length ≤ 1000000) (hs : ss.length ≤ 1000000) (hc : s.Can qs.length ss.length) (w v : Int) (h : Bool) (o : Int) (d : Bool) (hp : s.en = 0 → 0 ≤ s.ph ∧ s.ph ≤ 7) (e : Int) :
    SFun Go.Proofs.Try.prog 23 [.ptr 0 0, .agg (ansC w v h o d e)] (mkS (rES me stm qs cs ss s)) fun l t => l = .tup [] ∧ t = mkS (rET me stm qs cs ss (rTell me stm qs cs.length ss s w v h o d e)) := by
  by_cases q0 : s.en = 0
  case neg => exact rtell_n me stm qs cs ss s hst hq hcs hs hc w v h o d e q0
  by_cases q1 : e = 0
  case neg => exact rtell_e me stm qs cs ss s hst hq hcs hs hc w v h o d e q0 q1
  subst q1
  have hp := hp q0
  by_cases p0 : s.ph = 0
  · exact rtell_0 me stm qs cs ss s hst hq hcs hs hc w v h o d q0 p0
  by_cases p1 : s.ph = 1
  · exact rtell_1 me stm qs cs ss s hst hq hcs hs hc w v h o d q0 p1
  by_cases p2 : s.ph = 2
  · exact rtell_2 me stm qs cs ss s hst hq hcs hs hc w v h o d q0 p2
  by_cases p3 : s.ph = 3
  · exact rtell_3 me stm qs cs ss s hst hq hcs hs hc w v h o d q0 p3
  by_cases p4 : s.ph = 4
  · exact rtell_4 me stm qs cs ss s hst hq hcs hs hc w v h o d q0 p4
  by_cases p5 : s.ph = 5
  · exact rtell_5 me stm qs cs ss s hst hq hcs hs hc w v h o d q0 p5
  by_cases p6 : s.ph = 6
  · exact rtell_6 me stm qs cs ss s hst hq hcs hs hc w v h o d q0 p6
  exact rtell_7 me stm qs cs ss s hst hq hcs hs hc w v h o d q0 (by omega)
end
end Go.Lev
