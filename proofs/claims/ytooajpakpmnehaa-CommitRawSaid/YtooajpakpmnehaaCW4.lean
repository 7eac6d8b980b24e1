/- chapter 25: Tell of a commit, what it does -/
import Derived.Test.YtooajpakpmnehaaCW3
import Derived.Test.YtooajpakpmnehaaLc
import Derived.Test.YtooajpakpmnehaaChecked
import Derived.KernelRfl

namespace Go.Lev
open Go.RowKit
set_option linter.unusedVariables false
set_option linter.unusedSimpArgs false
set_option maxRecDepth 100000
noncomputable section
def gAw (me : Int) (s : CS) (o : Int) : CS := if me < o then s else if s.su = 0 then s.letGo 5 o 0 else ⟨s.tk, s.su - 1, s.en, s.bu, s.er, s.lk, s.ph, s.at', s.now, s.st, s.ve, s.vb, s.vr⟩
abbrev CS.lok (s : CS) (l : Lk) : CS := ⟨s.tk, s.su, s.en, s.bu, s.er, l, 1, s.at', s.now, s.st, s.ve, s.vb, s.vr⟩
abbrev CS.got (s : CS) : CS := ⟨s.tk ++ [s.lk], s.su, s.en, s.bu, s.er, s.lk, 0, s.at' + 1, s.now, s.st, s.ve, s.vb, s.vr⟩
abbrev CS.again (s : CS) : CS := ⟨s.tk, s.su, s.en, s.bu, s.er, s.lk, 0, s.at', s.now, s.st, s.ve, s.vb, s.vr⟩
abbrev CS.dated (s : CS) (w : Int) : CS := ⟨s.tk, s.su, s.en, s.bu, s.er, s.lk, 3, s.at', w, s.st, s.ve, s.vb, s.vr⟩
abbrev CS.skip (s : CS) (nq : Nat) : CS := ⟨s.tk, s.su, s.en, s.bu, s.er, s.lk, 4, nq, s.now, s.st, s.ve, s.vb, s.vr⟩
def gSw (me stm : Int) (qs : List (Int × Int)) (s : CS) (w v : Int) (h : Bool) (o : Int) (d : Bool) : CS :=
  if s.ph = 0 then (if h = true then gAw me s o else s.lok (v, h, o))
  else if s.ph = 1 then (if d = true then s.got else s.again)
  else if s.ph = 2 then (if 4611686018427387903 ≤ w then s.letGo 4 (-1) 7 else s.dated w)
  else if s.ph = 3 then (if d = true then (if s.now = stm then s.skip qs.length else s.enter 4) else s.enter 2)
  else if s.ph = 4 then (if h = true then gAw me s o else gcmp qs s v)
  else s.step
def gTell (me stm : Int) (qs : List (Int × Int)) (nc : Nat) (ss : List Int) (s : CS) (w v : Int) (h : Bool) (o : Int) (d : Bool) (e : Int) : CS :=
  if s.en ≠ 0 then s else if e ≠ 0 then s.stop 4 e (-1) else gGo qs nc ss (gSw me stm qs s w v h o d)
theorem gW_mk (qs cs : List (Int × Int)) (ss : List Int) (tk : List Lk) (su en bu er lv : Int) (lh : Bool) (lo ph : Int) (n : Nat) (now : Int) (st : Bool) (ve vb vr : Int) : gW (encL cell qs) (encL cell cs) (encL (cI .i64) ss) (mkC (encL cL tk) su en bu er lv lh lo ph (n : Int) now st ve vb vr) = gGo qs cs.length ss ⟨tk, su, en, bu, er, (lv, lh, lo), ph, n, now, st, ve, vb, vr⟩ := by
  simp only [gW, mkC, decC_enc, decIi64_enc, decL_enc, Int.toNat_natCast]
theorem gW_mk0 (qs cs : List (Int × Int)) (ss : List Int) (tk : List Lk) (su en bu er lv : Int) (lh : Bool) (lo ph now : Int) (st : Bool) (ve vb vr : Int) : gW (encL cell qs) (encL cell cs) (encL (cI .i64) ss) (mkC (encL cL tk) su en bu er lv lh lo ph 0 now st ve vb vr) = gGo qs cs.length ss ⟨tk, su, en, bu, er, (lv, lh, lo), ph, 0, now, st, ve, vb, vr⟩ := gW_mk qs cs ss tk su en bu er lv lh lo ph 0 now st ve vb vr
theorem lk_push (xs : List Lk) (y : Lk) : xcat (xcut (encL cL xs) 0 (xs.length * 3)) [.int .u64 y.1, .bool y.2.1, .int .i64 y.2.2] = encL cL (xs ++ [y]) := by
  rw [xcut_all (by rw [lk_n]; omega), encL_append]; rfl
theorem okK_enc {qs cs : List (Int × Int)} {ss : List Int} {tk : List Lk} (h1 : qs.length ≤ 1000000) (h2 : cs.length ≤ 1000000) (h3 : ss.length ≤ 1000000) (h4 : tk.length ≤ ss.length) : okK (encL cell qs) (encL cell cs) (encL (cI .i64) ss) (encL cL tk) qs.length cs.length ss.length tk.length = true := okK_iff.2 ⟨qs, cs, ss, tk, ⟨rfl, rfl, rfl, rfl⟩, ⟨rfl, rfl, rfl, rfl⟩, h1, h2, h3, h4⟩
abbrev cED (me stm : Int) (nq nc ns nt : Nat) (qc cc sc tc : List LV) (su en bu er lv : Int) (lh : Bool) (lo ph : Int) (at' : Nat) (now : Int) (st : Bool) (ve vb vr : Int) : List LB := [.cells [.ptr 1 0, .int .i64 me, .int .u64 stm, .slo 2 0 nq 0, .slo 3 0 nc 0, .slo 4 0 ns 0, .slo 6 0 nt 0, .int .u64 lv, .bool lh, .int .i64 lo, .int .i64 ph, .int .i64 at', .int .u64 now, .bool st, .int .i64 ve, .int .i64 vb, .int .i64 vr] none, .cells [.int .i64 me, .int .i64 su, .int .i64 en, .int .i64 bu, .int .i64 er] none, .cells qc (some 2), .cells cc (some 2), .cells sc (some 1), .dead, .cells tc (some 3)]
abbrev cET (me stm : Int) (qs cs : List (Int × Int)) (ss : List Int) (s : CS) : List LB := cED me stm qs.length cs.length ss.length s.tk.length (encL cell qs) (encL cell cs) (encL (cI .i64) ss) (encL cL s.tk) s.su s.en s.bu s.er s.lk.1 s.lk.2.1 s.lk.2.2 s.ph s.at' s.now s.st s.ve s.vb s.vr
structure CS.Can (nq ns : Nat) (s : CS) : Prop where
  su : 0 ≤ s.su ∧ s.su ≤ 4
  tk : s.tk.length ≤ ns
  at1 : s.at' ≤ 1000000
  a : s.en = 0 → s.ph = 1 → s.tk.length < ns
  b : s.en = 0 → s.ph = 4 → s.at' < nq
theorem dumG_ok {P : Program} (f : Nat) : GOk P f dumG := by
  intro args s bs l s' hg hb hfr
  simp only [dumG, Option.some.injEq, Prod.mk.injEq] at hg
  obtain ⟨rfl, rfl, rfl⟩ := hg
  exact absurd (allT_cons.1 hb).1 Bool.false_ne_true
theorem cxgd_ok : CtrOk Go.Proofs.Try.prog (ctrOf cxgd) := cxl_ok ⟨goG_ok, dumG_ok _, dumG_ok _, dumG_ok _, dumG_ok _, dumG_ok _, trivial⟩
theorem cxg_ok : CtrOk Go.Proofs.Try.prog (ctrOf cxg) := cxl_ok ⟨goG_ok, trivial⟩
theorem nt_eql (x y : Int) : xnot (xcm .eql x y) = xcm .neq x y := by rw [wd_not, xcm_eql, xcm_neq]
theorem cm_self (x : Int) : xcm .eql x x = true := t_eql rfl

set_option maxHeartbeats 1000000 in
theorem tell_0 (me stm : Int) (qs cs : List (Int × Int)) (ss : List Int) (s : CS) (hq : qs.length ≤ 1000000) (hcs : cs.length ≤ 1000000) (hs : ss.length ≤ 1000000) (hc : s.Can qs.length ss.length) (w v : Int) (h : Bool) (o : Int) (d : Bool) (q0 : s.en = 0) (p0 : s.ph = 0) :
    SFun Go.Proofs.Try.prog 11 [.ptr 0 0, .agg (ansC w v h o d 0)] (mkS (cES me stm qs cs ss s)) fun l t => l = .tup [] ∧ t = mkS (cET me stm qs cs ss (gTell me stm qs cs.length ss s w v h o d 0)) := by
  refine SFun.mono (SFun.vc (Q := fun l b => l = .tup [] ∧ b = cET me stm qs cs ss (gTell me stm qs cs.length ss s w v h o d 0)) cxg_ok (n := 60) 6 rfl ?_) fun l s' ⟨b0, ⟨h1, h2⟩, h3⟩ => ⟨h1, by rw [h3, h2]⟩
  have nq := noids_c qs
  have nc := noids_c cs
  have nss := noIds_Ii64 ss
  have nt := noids_l s.tk
  obtain ⟨hsu, htk, hat, ha, hb⟩ := hc
  have ok := okK_enc hq hcs hs htk
  have lq := cell_n qs
  have lt := lk_n s.tk
  have E0 : gTell me stm qs cs.length ss s w v h o d 0 = gGo qs cs.length ss (gSw me stm qs s w v h o d) := by rw [gTell, if_neg (by simpa using q0), if_neg (by simp)]
  have e3 : xar .add .i64 (s.at' : Int) 1 = ((s.at' + 1 : Nat) : Int) := inc_i64 (Nat.lt_succ_self s.at') (by omega)
  rw [E0]
  obtain ⟨tk, su, en, bu, er, lk, ph, at', now, st, ve, vb, vr⟩ := s
  dsimp only at *
  subst q0 p0
  rw [tl_0]
  simp only [nt_eql, cm_self, cond_true, gW_mk, gW_mk0, ok, e3]
  cases h with
  | true =>
    by_cases u1 : me < o
    · skip
      have E : gSw me stm qs (⟨tk, su, 0, bu, er, lk, 0, at', now, st, ve, vb, vr⟩ : CS) w v true o d = (⟨tk, su, 0, bu, er, lk, 0, at', now, st, ve, vb, vr⟩ : CS) := by rw [gSw, if_pos rfl, if_pos rfl, gAw, if_pos u1]
      obtain ⟨a1, a2, a3, a4⟩ := gGo_same qs cs.length ss ((⟨tk, su, 0, bu, er, lk, 0, at', now, st, ve, vb, vr⟩ : CS))
      rw [E]
      dsimp only at a1 a2 a3 a4 ⊢
      (with_reducible repeat first | refine zq1 ?_ | refine zq2 ?_ | refine zq3 ?_ | refine zq4 ?_ | refine zq5 ?_ | refine zq6 ?_ | refine zq7 ?_ | refine zq8 ?_ | refine zq9 ?_ | refine zqa ?_ | refine zqb ?_ | refine zqc ?_ | refine zqd ?_ | refine zqe ?_ | refine zqf ?_ | refine zqg ?_ | refine zqh ?_ | refine zqi ?_ | refine zqj ?_ | refine zqk ?_ | refine zql ?_ | refine zqm ?_ | refine zqn ?_ | refine zqo ?_ | refine zqp ?_)
      try simp only [kEn, kBu, kEr, kPh, kAt, kSt, kVe, kVb, kVr, gW_mk, gW_mk0]
      exact ⟨rfl, _, _, [.id 0, .id 1, .id 2, .id 3, .id 4, .id 5, .id 5], ⟨rfl, rfl⟩, by simp only [cET, a1, a2, a3, a4]; (refine ⟨by kernel_rfl, ?_, ?_⟩ <;> repeat first | exact okTms_nil | refine okTms_cons ?_ ?_ | exact okBlks_nil | refine okBlks_cons ?_ ?_ | exact lws_nil | refine lws_cons ?_ ?_ | exact lb_dead | exact zy1 | exact zy2 | exact lb_none | refine zy3 ?_ | exact zy4 | exact lw_any | exact lw_int | exact lw_bool | exact zy5 | exact zy6 | exact lw_nils | exact lw_slo_nils | exact zy7 | exact zy8 | exact zy9 | refine lw_tup ?_ | refine lw_agg ?_ | assumption)⟩
    by_cases u2 : su = 0
    · skip
      have E : gSw me stm qs (⟨tk, su, 0, bu, er, lk, 0, at', now, st, ve, vb, vr⟩ : CS) w v true o d = (⟨tk, su, 0, bu, er, lk, 0, at', now, st, ve, vb, vr⟩ : CS).letGo 5 o 0 := by rw [gSw, if_pos rfl, if_pos rfl, gAw, if_neg u1, if_pos u2]
      obtain ⟨a1, a2, a3, a4⟩ := gGo_same qs cs.length ss ((⟨tk, su, 0, bu, er, lk, 0, at', now, st, ve, vb, vr⟩ : CS).letGo 5 o 0)
      rw [E]
      dsimp only at a1 a2 a3 a4 ⊢
      (with_reducible repeat first | refine zq1 ?_ | refine zq2 ?_ | refine zq3 ?_ | refine zq4 ?_ | refine zq5 ?_ | refine zq6 ?_ | refine zq7 ?_ | refine zq8 ?_ | refine zq9 ?_ | refine zqa ?_ | refine zqb ?_ | refine zqc ?_ | refine zqd ?_ | refine zqe ?_ | refine zqf ?_ | refine zqg ?_ | refine zqh ?_ | refine zqi ?_ | refine zqj ?_ | refine zqk ?_ | refine zql ?_ | refine zqm ?_ | refine zqn ?_ | refine zqo ?_ | refine zqp ?_)
      try simp only [kEn, kBu, kEr, kPh, kAt, kSt, kVe, kVb, kVr, gW_mk, gW_mk0]
      exact ⟨rfl, _, _, [.id 0, .id 1, .id 2, .id 3, .id 4, .id 5, .id 5], ⟨rfl, rfl⟩, by simp only [cET, a1, a2, a3, a4]; (refine ⟨by kernel_rfl, ?_, ?_⟩ <;> repeat first | exact okTms_nil | refine okTms_cons ?_ ?_ | exact okBlks_nil | refine okBlks_cons ?_ ?_ | exact lws_nil | refine lws_cons ?_ ?_ | exact lb_dead | exact zy1 | exact zy2 | exact lb_none | refine zy3 ?_ | exact zy4 | exact lw_any | exact lw_int | exact lw_bool | exact zy5 | exact zy6 | exact lw_nils | exact lw_slo_nils | exact zy7 | exact zy8 | exact zy9 | refine lw_tup ?_ | refine lw_agg ?_ | assumption)⟩
    · have e4 : xar .sub .i64 su 1 = su - 1 := sub_i64 (by omega) (by omega)
      have E : gSw me stm qs (⟨tk, su, 0, bu, er, lk, 0, at', now, st, ve, vb, vr⟩ : CS) w v true o d = (⟨tk, su - 1, 0, bu, er, lk, 0, at', now, st, ve, vb, vr⟩ : CS) := by rw [gSw, if_pos rfl, if_pos rfl, gAw, if_neg u1, if_neg u2]
      obtain ⟨a1, a2, a3, a4⟩ := gGo_same qs cs.length ss ((⟨tk, su - 1, 0, bu, er, lk, 0, at', now, st, ve, vb, vr⟩ : CS))
      rw [E]
      dsimp only at a1 a2 a3 a4 ⊢
      simp only [e4]
      (with_reducible repeat first | refine zq1 ?_ | refine zq2 ?_ | refine zq3 ?_ | refine zq4 ?_ | refine zq5 ?_ | refine zq6 ?_ | refine zq7 ?_ | refine zq8 ?_ | refine zq9 ?_ | refine zqa ?_ | refine zqb ?_ | refine zqc ?_ | refine zqd ?_ | refine zqe ?_ | refine zqf ?_ | refine zqg ?_ | refine zqh ?_ | refine zqi ?_ | refine zqj ?_ | refine zqk ?_ | refine zql ?_ | refine zqm ?_ | refine zqn ?_ | refine zqo ?_ | refine zqp ?_)
      try simp only [kEn, kBu, kEr, kPh, kAt, kSt, kVe, kVb, kVr, gW_mk, gW_mk0]
      exact ⟨rfl, _, _, [.id 0, .id 1, .id 2, .id 3, .id 4, .id 5, .id 5], ⟨rfl, rfl⟩, by simp only [cET, a1, a2, a3, a4]; (refine ⟨by kernel_rfl, ?_, ?_⟩ <;> repeat first | exact okTms_nil | refine okTms_cons ?_ ?_ | exact okBlks_nil | refine okBlks_cons ?_ ?_ | exact lws_nil | refine lws_cons ?_ ?_ | exact lb_dead | exact zy1 | exact zy2 | exact lb_none | refine zy3 ?_ | exact zy4 | exact lw_any | exact lw_int | exact lw_bool | exact zy5 | exact zy6 | exact lw_nils | exact lw_slo_nils | exact zy7 | exact zy8 | exact zy9 | refine lw_tup ?_ | refine lw_agg ?_ | assumption)⟩
  | false =>
    have E : gSw me stm qs (⟨tk, su, 0, bu, er, lk, 0, at', now, st, ve, vb, vr⟩ : CS) w v false o d = (⟨tk, su, 0, bu, er, lk, 0, at', now, st, ve, vb, vr⟩ : CS).lok (v, false, o) := by rw [gSw, if_pos rfl, if_neg (by simp)]
    obtain ⟨a1, a2, a3, a4⟩ := gGo_same qs cs.length ss ((⟨tk, su, 0, bu, er, lk, 0, at', now, st, ve, vb, vr⟩ : CS).lok (v, false, o))
    rw [E]
    dsimp only at a1 a2 a3 a4 ⊢
    (with_reducible repeat first | refine zq1 ?_ | refine zq2 ?_ | refine zq3 ?_ | refine zq4 ?_ | refine zq5 ?_ | refine zq6 ?_ | refine zq7 ?_ | refine zq8 ?_ | refine zq9 ?_ | refine zqa ?_ | refine zqb ?_ | refine zqc ?_ | refine zqd ?_ | refine zqe ?_ | refine zqf ?_ | refine zqg ?_ | refine zqh ?_ | refine zqi ?_ | refine zqj ?_ | refine zqk ?_ | refine zql ?_ | refine zqm ?_ | refine zqn ?_ | refine zqo ?_ | refine zqp ?_)
    try simp only [kEn, kBu, kEr, kPh, kAt, kSt, kVe, kVb, kVr, gW_mk, gW_mk0]
    exact ⟨rfl, _, _, [.id 0, .id 1, .id 2, .id 3, .id 4, .id 5, .id 5], ⟨rfl, rfl⟩, by simp only [cET, a1, a2, a3, a4]; (refine ⟨by kernel_rfl, ?_, ?_⟩ <;> repeat first | exact okTms_nil | refine okTms_cons ?_ ?_ | exact okBlks_nil | refine okBlks_cons ?_ ?_ | exact lws_nil | refine lws_cons ?_ ?_ | exact lb_dead | exact zy1 | exact zy2 | exact lb_none | refine zy3 ?_ | exact zy4 | exact lw_any | exact lw_int | exact lw_bool | exact zy5 | exact zy6 | exact lw_nils | exact lw_slo_nils | exact zy7 | exact zy8 | exact zy9 | refine lw_tup ?_ | refine lw_agg ?_ | assumption)⟩
set_option maxHeartbeats 1000000 in
theorem tell_1 (me stm : Int) (qs cs : List (Int × Int)) (ss : List Int) (s : CS) (hq : qs.length ≤ 1000000) (hcs : cs.length ≤ 1000000) (hs : ss.length ≤ 1000000) (hc : s.Can qs.length ss.length) (w v : Int) (h : Bool) (o : Int) (d : Bool) (q0 : s.en = 0) (p1 : s.ph = 1) :
    SFun Go.Proofs.Try.prog 11 [.ptr 0 0, .agg (ansC w v h o d 0)] (mkS (cES me stm qs cs ss s)) fun l t => l = .tup [] ∧ t = mkS (cET me stm qs cs ss (gTell me stm qs cs.length ss s w v h o d 0)) := by
  refine SFun.mono (SFun.vc (Q := fun l b => l = .tup [] ∧ b = cET me stm qs cs ss (gTell me stm qs cs.length ss s w v h o d 0)) cxg_ok (n := 60) 6 rfl ?_) fun l s' ⟨b0, ⟨h1, h2⟩, h3⟩ => ⟨h1, by rw [h3, h2]⟩
  have nq := noids_c qs
  have nc := noids_c cs
  have nss := noIds_Ii64 ss
  have nt := noids_l s.tk
  obtain ⟨hsu, htk, hat, ha, hb⟩ := hc
  have ok := okK_enc hq hcs hs htk
  have lq := cell_n qs
  have lt := lk_n s.tk
  have E0 : gTell me stm qs cs.length ss s w v h o d 0 = gGo qs cs.length ss (gSw me stm qs s w v h o d) := by rw [gTell, if_neg (by simpa using q0), if_neg (by simp)]
  have e3 : xar .add .i64 (s.at' : Int) 1 = ((s.at' + 1 : Nat) : Int) := inc_i64 (Nat.lt_succ_self s.at') (by omega)
  rw [E0]
  obtain ⟨tk, su, en, bu, er, lk, ph, at', now, st, ve, vb, vr⟩ := s
  dsimp only at *
  subst q0 p1
  rw [tl_1]
  simp only [nt_eql, cm_self, cond_true, gW_mk, gW_mk0, ok, e3]
  have hlt := ha rfl rfl
  cases d with
  | true =>
    have ok2 := okK_enc (tk := tk ++ [lk]) hq hcs hs (by simp; omega)
    have nt2 := noids_l (tk ++ [lk])
    have ll : (tk ++ [lk]).length = tk.length + 1 := by simp
    rw [ll] at ok2
    have E : gSw me stm qs (⟨tk, su, 0, bu, er, lk, 1, at', now, st, ve, vb, vr⟩ : CS) w v h o true = (⟨tk, su, 0, bu, er, lk, 1, at', now, st, ve, vb, vr⟩ : CS).got := by rw [gSw, if_neg (by simp), if_pos rfl, if_pos rfl]
    obtain ⟨a1, a2, a3, a4⟩ := gGo_same qs cs.length ss ((⟨tk, su, 0, bu, er, lk, 1, at', now, st, ve, vb, vr⟩ : CS).got)
    rw [E]
    dsimp only at a1 a2 a3 a4 ⊢
    simp only [wd_nat, wd_asV, wd_isV, wd_ix, wd_add, wd_mul, wd_ln, Nat.zero_add, Nat.mul_one, wd_isI, wd_asI, wd_isB, wd_asB, wd_nn, cI_tlen, cB_tlen, cII_tlen, decide_true, cond_true, wd_not_t, wd_not_f, wd_and_t, wd_and_f, lk_push, lk_n, ok2]
    (with_reducible repeat first | refine zq1 ?_ | refine zq2 ?_ | refine zq3 ?_ | refine zq4 ?_ | refine zq5 ?_ | refine zq6 ?_ | refine zq7 ?_ | refine zq8 ?_ | refine zq9 ?_ | refine zqa ?_ | refine zqb ?_ | refine zqc ?_ | refine zqd ?_ | refine zqe ?_ | refine zqf ?_ | refine zqg ?_ | refine zqh ?_ | refine zqi ?_ | refine zqj ?_ | refine zqk ?_ | refine zql ?_ | refine zqm ?_ | refine zqn ?_ | refine zqo ?_ | refine zqp ?_)
    try simp only [kEn, kBu, kEr, kPh, kAt, kSt, kVe, kVb, kVr, gW_mk, gW_mk0]
    exact ⟨rfl, _, _, [.id 0, .id 1, .id 2, .id 3, .id 4, .id 5, .id 8], ⟨rfl, rfl⟩, by simp only [cET, a1, a2, a3, a4, ll]; (refine ⟨by kernel_rfl, ?_, ?_⟩ <;> repeat first | exact okTms_nil | refine okTms_cons ?_ ?_ | exact okBlks_nil | refine okBlks_cons ?_ ?_ | exact lws_nil | refine lws_cons ?_ ?_ | exact lb_dead | exact zy1 | exact zy2 | exact lb_none | refine zy3 ?_ | exact zy4 | exact lw_any | exact lw_int | exact lw_bool | exact zy5 | exact zy6 | exact lw_nils | exact lw_slo_nils | exact zy7 | exact zy8 | exact zy9 | refine lw_tup ?_ | refine lw_agg ?_ | assumption)⟩
  | false =>
    have E : gSw me stm qs (⟨tk, su, 0, bu, er, lk, 1, at', now, st, ve, vb, vr⟩ : CS) w v h o false = (⟨tk, su, 0, bu, er, lk, 1, at', now, st, ve, vb, vr⟩ : CS).again := by rw [gSw, if_neg (by simp), if_pos rfl, if_neg (by simp)]
    obtain ⟨a1, a2, a3, a4⟩ := gGo_same qs cs.length ss ((⟨tk, su, 0, bu, er, lk, 1, at', now, st, ve, vb, vr⟩ : CS).again)
    rw [E]
    dsimp only at a1 a2 a3 a4 ⊢
    (with_reducible repeat first | refine zq1 ?_ | refine zq2 ?_ | refine zq3 ?_ | refine zq4 ?_ | refine zq5 ?_ | refine zq6 ?_ | refine zq7 ?_ | refine zq8 ?_ | refine zq9 ?_ | refine zqa ?_ | refine zqb ?_ | refine zqc ?_ | refine zqd ?_ | refine zqe ?_ | refine zqf ?_ | refine zqg ?_ | refine zqh ?_ | refine zqi ?_ | refine zqj ?_ | refine zqk ?_ | refine zql ?_ | refine zqm ?_ | refine zqn ?_ | refine zqo ?_ | refine zqp ?_)
    try simp only [kEn, kBu, kEr, kPh, kAt, kSt, kVe, kVb, kVr, gW_mk, gW_mk0]
    exact ⟨rfl, _, _, [.id 0, .id 1, .id 2, .id 3, .id 4, .id 5, .id 5], ⟨rfl, rfl⟩, by simp only [cET, a1, a2, a3, a4]; (refine ⟨by kernel_rfl, ?_, ?_⟩ <;> repeat first | exact okTms_nil | refine okTms_cons ?_ ?_ | exact okBlks_nil | refine okBlks_cons ?_ ?_ | exact lws_nil | refine lws_cons ?_ ?_ | exact lb_dead | exact zy1 | exact zy2 | exact lb_none | refine zy3 ?_ | exact zy4 | exact lw_any | exact lw_int | exact lw_bool | exact zy5 | exact zy6 | exact lw_nils | exact lw_slo_nils | exact zy7 | exact zy8 | exact zy9 | refine lw_tup ?_ | refine lw_agg ?_ | assumption)⟩
set_option maxHeartbeats 1000000 in
theorem tell_2 (me stm : Int) (qs cs : List (Int × Int)) (ss : List Int) (s : CS) (hq : qs.length ≤ 1000000) (hcs : cs.length ≤ 1000000) (hs : ss.length ≤ 1000000) (hc : s.Can qs.length ss.length) (w v : Int) (h : Bool) (o : Int) (d : Bool) (q0 : s.en = 0) (p2 : s.ph = 2) :
    SFun Go.Proofs.Try.prog 11 [.ptr 0 0, .agg (ansC w v h o d 0)] (mkS (cES me stm qs cs ss s)) fun l t => l = .tup [] ∧ t = mkS (cET me stm qs cs ss (gTell me stm qs cs.length ss s w v h o d 0)) := by
  refine SFun.mono (SFun.vc (Q := fun l b => l = .tup [] ∧ b = cET me stm qs cs ss (gTell me stm qs cs.length ss s w v h o d 0)) cxg_ok (n := 60) 6 rfl ?_) fun l s' ⟨b0, ⟨h1, h2⟩, h3⟩ => ⟨h1, by rw [h3, h2]⟩
  have nq := noids_c qs
  have nc := noids_c cs
  have nss := noIds_Ii64 ss
  have nt := noids_l s.tk
  obtain ⟨hsu, htk, hat, ha, hb⟩ := hc
  have ok := okK_enc hq hcs hs htk
  have lq := cell_n qs
  have lt := lk_n s.tk
  have E0 : gTell me stm qs cs.length ss s w v h o d 0 = gGo qs cs.length ss (gSw me stm qs s w v h o d) := by rw [gTell, if_neg (by simpa using q0), if_neg (by simp)]
  have e3 : xar .add .i64 (s.at' : Int) 1 = ((s.at' + 1 : Nat) : Int) := inc_i64 (Nat.lt_succ_self s.at') (by omega)
  rw [E0]
  obtain ⟨tk, su, en, bu, er, lk, ph, at', now, st, ve, vb, vr⟩ := s
  dsimp only at *
  subst q0 p2
  rw [tl_2]
  simp only [nt_eql, cm_self, cond_true, gW_mk, gW_mk0, ok, e3]
  by_cases u1 : 4611686018427387903 ≤ w
  · skip
    have E : gSw me stm qs (⟨tk, su, 0, bu, er, lk, 2, at', now, st, ve, vb, vr⟩ : CS) w v h o d = (⟨tk, su, 0, bu, er, lk, 2, at', now, st, ve, vb, vr⟩ : CS).letGo 4 (-1) 7 := by rw [gSw, if_neg (by simp), if_neg (by simp), if_pos rfl, if_pos u1]
    obtain ⟨a1, a2, a3, a4⟩ := gGo_same qs cs.length ss ((⟨tk, su, 0, bu, er, lk, 2, at', now, st, ve, vb, vr⟩ : CS).letGo 4 (-1) 7)
    rw [E]
    dsimp only at a1 a2 a3 a4 ⊢
    (with_reducible repeat first | refine zq1 ?_ | refine zq2 ?_ | refine zq3 ?_ | refine zq4 ?_ | refine zq5 ?_ | refine zq6 ?_ | refine zq7 ?_ | refine zq8 ?_ | refine zq9 ?_ | refine zqa ?_ | refine zqb ?_ | refine zqc ?_ | refine zqd ?_ | refine zqe ?_ | refine zqf ?_ | refine zqg ?_ | refine zqh ?_ | refine zqi ?_ | refine zqj ?_ | refine zqk ?_ | refine zql ?_ | refine zqm ?_ | refine zqn ?_ | refine zqo ?_ | refine zqp ?_)
    try simp only [kEn, kBu, kEr, kPh, kAt, kSt, kVe, kVb, kVr, gW_mk, gW_mk0]
    exact ⟨rfl, _, _, [.id 0, .id 1, .id 2, .id 3, .id 4, .id 5, .id 5], ⟨rfl, rfl⟩, by simp only [cET, a1, a2, a3, a4]; (refine ⟨by kernel_rfl, ?_, ?_⟩ <;> repeat first | exact okTms_nil | refine okTms_cons ?_ ?_ | exact okBlks_nil | refine okBlks_cons ?_ ?_ | exact lws_nil | refine lws_cons ?_ ?_ | exact lb_dead | exact zy1 | exact zy2 | exact lb_none | refine zy3 ?_ | exact zy4 | exact lw_any | exact lw_int | exact lw_bool | exact zy5 | exact zy6 | exact lw_nils | exact lw_slo_nils | exact zy7 | exact zy8 | exact zy9 | refine lw_tup ?_ | refine lw_agg ?_ | assumption)⟩
  · skip
    have E : gSw me stm qs (⟨tk, su, 0, bu, er, lk, 2, at', now, st, ve, vb, vr⟩ : CS) w v h o d = (⟨tk, su, 0, bu, er, lk, 2, at', now, st, ve, vb, vr⟩ : CS).dated w := by rw [gSw, if_neg (by simp), if_neg (by simp), if_pos rfl, if_neg u1]
    obtain ⟨a1, a2, a3, a4⟩ := gGo_same qs cs.length ss ((⟨tk, su, 0, bu, er, lk, 2, at', now, st, ve, vb, vr⟩ : CS).dated w)
    rw [E]
    dsimp only at a1 a2 a3 a4 ⊢
    (with_reducible repeat first | refine zq1 ?_ | refine zq2 ?_ | refine zq3 ?_ | refine zq4 ?_ | refine zq5 ?_ | refine zq6 ?_ | refine zq7 ?_ | refine zq8 ?_ | refine zq9 ?_ | refine zqa ?_ | refine zqb ?_ | refine zqc ?_ | refine zqd ?_ | refine zqe ?_ | refine zqf ?_ | refine zqg ?_ | refine zqh ?_ | refine zqi ?_ | refine zqj ?_ | refine zqk ?_ | refine zql ?_ | refine zqm ?_ | refine zqn ?_ | refine zqo ?_ | refine zqp ?_)
    try simp only [kEn, kBu, kEr, kPh, kAt, kSt, kVe, kVb, kVr, gW_mk, gW_mk0]
    exact ⟨rfl, _, _, [.id 0, .id 1, .id 2, .id 3, .id 4, .id 5, .id 5], ⟨rfl, rfl⟩, by simp only [cET, a1, a2, a3, a4]; (refine ⟨by kernel_rfl, ?_, ?_⟩ <;> repeat first | exact okTms_nil | refine okTms_cons ?_ ?_ | exact okBlks_nil | refine okBlks_cons ?_ ?_ | exact lws_nil | refine lws_cons ?_ ?_ | exact lb_dead | exact zy1 | exact zy2 | exact lb_none | refine zy3 ?_ | exact zy4 | exact lw_any | exact lw_int | exact lw_bool | exact zy5 | exact zy6 | exact lw_nils | exact lw_slo_nils | exact zy7 | exact zy8 | exact zy9 | refine lw_tup ?_ | refine lw_agg ?_ | assumption)⟩
set_option maxHeartbeats 1000000 in
theorem tell_3 (me stm : Int) (qs cs : List (Int × Int)) (ss : List Int) (s : CS) (hq : qs.length ≤ 1000000) (hcs : cs.length ≤ 1000000) (hs : ss.length ≤ 1000000) (hc : s.Can qs.length ss.length) (w v : Int) (h : Bool) (o : Int) (d : Bool) (q0 : s.en = 0) (p3 : s.ph = 3) :
    SFun Go.Proofs.Try.prog 11 [.ptr 0 0, .agg (ansC w v h o d 0)] (mkS (cES me stm qs cs ss s)) fun l t => l = .tup [] ∧ t = mkS (cET me stm qs cs ss (gTell me stm qs cs.length ss s w v h o d 0)) := by
  refine SFun.mono (SFun.vc (Q := fun l b => l = .tup [] ∧ b = cET me stm qs cs ss (gTell me stm qs cs.length ss s w v h o d 0)) cxg_ok (n := 60) 6 rfl ?_) fun l s' ⟨b0, ⟨h1, h2⟩, h3⟩ => ⟨h1, by rw [h3, h2]⟩
  have nq := noids_c qs
  have nc := noids_c cs
  have nss := noIds_Ii64 ss
  have nt := noids_l s.tk
  obtain ⟨hsu, htk, hat, ha, hb⟩ := hc
  have ok := okK_enc hq hcs hs htk
  have lq := cell_n qs
  have lt := lk_n s.tk
  have E0 : gTell me stm qs cs.length ss s w v h o d 0 = gGo qs cs.length ss (gSw me stm qs s w v h o d) := by rw [gTell, if_neg (by simpa using q0), if_neg (by simp)]
  have e3 : xar .add .i64 (s.at' : Int) 1 = ((s.at' + 1 : Nat) : Int) := inc_i64 (Nat.lt_succ_self s.at') (by omega)
  rw [E0]
  obtain ⟨tk, su, en, bu, er, lk, ph, at', now, st, ve, vb, vr⟩ := s
  dsimp only at *
  subst q0 p3
  rw [tl_3]
  simp only [nt_eql, cm_self, cond_true, gW_mk, gW_mk0, ok, e3]
  cases d with
  | true =>
    by_cases u1 : now = stm
    · skip
      have E : gSw me stm qs (⟨tk, su, 0, bu, er, lk, 3, at', now, st, ve, vb, vr⟩ : CS) w v h o true = (⟨tk, su, 0, bu, er, lk, 3, at', now, st, ve, vb, vr⟩ : CS).skip qs.length := by rw [gSw, if_neg (by simp), if_neg (by simp), if_neg (by simp), if_pos rfl, if_pos rfl, if_pos u1]
      obtain ⟨a1, a2, a3, a4⟩ := gGo_same qs cs.length ss ((⟨tk, su, 0, bu, er, lk, 3, at', now, st, ve, vb, vr⟩ : CS).skip qs.length)
      rw [E]
      dsimp only at a1 a2 a3 a4 ⊢
      (with_reducible repeat first | refine zq1 ?_ | refine zq2 ?_ | refine zq3 ?_ | refine zq4 ?_ | refine zq5 ?_ | refine zq6 ?_ | refine zq7 ?_ | refine zq8 ?_ | refine zq9 ?_ | refine zqa ?_ | refine zqb ?_ | refine zqc ?_ | refine zqd ?_ | refine zqe ?_ | refine zqf ?_ | refine zqg ?_ | refine zqh ?_ | refine zqi ?_ | refine zqj ?_ | refine zqk ?_ | refine zql ?_ | refine zqm ?_ | refine zqn ?_ | refine zqo ?_ | refine zqp ?_)
      try simp only [kEn, kBu, kEr, kPh, kAt, kSt, kVe, kVb, kVr, gW_mk, gW_mk0]
      exact ⟨rfl, _, _, [.id 0, .id 1, .id 2, .id 3, .id 4, .id 5, .id 5], ⟨rfl, rfl⟩, by simp only [cET, a1, a2, a3, a4]; (refine ⟨by kernel_rfl, ?_, ?_⟩ <;> repeat first | exact okTms_nil | refine okTms_cons ?_ ?_ | exact okBlks_nil | refine okBlks_cons ?_ ?_ | exact lws_nil | refine lws_cons ?_ ?_ | exact lb_dead | exact zy1 | exact zy2 | exact lb_none | refine zy3 ?_ | exact zy4 | exact lw_any | exact lw_int | exact lw_bool | exact zy5 | exact zy6 | exact lw_nils | exact lw_slo_nils | exact zy7 | exact zy8 | exact zy9 | refine lw_tup ?_ | refine lw_agg ?_ | assumption)⟩
    · skip
      have E : gSw me stm qs (⟨tk, su, 0, bu, er, lk, 3, at', now, st, ve, vb, vr⟩ : CS) w v h o true = (⟨tk, su, 0, bu, er, lk, 3, at', now, st, ve, vb, vr⟩ : CS).enter 4 := by rw [gSw, if_neg (by simp), if_neg (by simp), if_neg (by simp), if_pos rfl, if_pos rfl, if_neg u1]
      obtain ⟨a1, a2, a3, a4⟩ := gGo_same qs cs.length ss ((⟨tk, su, 0, bu, er, lk, 3, at', now, st, ve, vb, vr⟩ : CS).enter 4)
      rw [E]
      dsimp only at a1 a2 a3 a4 ⊢
      (with_reducible repeat first | refine zq1 ?_ | refine zq2 ?_ | refine zq3 ?_ | refine zq4 ?_ | refine zq5 ?_ | refine zq6 ?_ | refine zq7 ?_ | refine zq8 ?_ | refine zq9 ?_ | refine zqa ?_ | refine zqb ?_ | refine zqc ?_ | refine zqd ?_ | refine zqe ?_ | refine zqf ?_ | refine zqg ?_ | refine zqh ?_ | refine zqi ?_ | refine zqj ?_ | refine zqk ?_ | refine zql ?_ | refine zqm ?_ | refine zqn ?_ | refine zqo ?_ | refine zqp ?_)
      try simp only [kEn, kBu, kEr, kPh, kAt, kSt, kVe, kVb, kVr, gW_mk, gW_mk0]
      exact ⟨rfl, _, _, [.id 0, .id 1, .id 2, .id 3, .id 4, .id 5, .id 5], ⟨rfl, rfl⟩, by simp only [cET, a1, a2, a3, a4]; (refine ⟨by kernel_rfl, ?_, ?_⟩ <;> repeat first | exact okTms_nil | refine okTms_cons ?_ ?_ | exact okBlks_nil | refine okBlks_cons ?_ ?_ | exact lws_nil | refine lws_cons ?_ ?_ | exact lb_dead | exact zy1 | exact zy2 | exact lb_none | refine zy3 ?_ | exact zy4 | exact lw_any | exact lw_int | exact lw_bool | exact zy5 | exact zy6 | exact lw_nils | exact lw_slo_nils | exact zy7 | exact zy8 | exact zy9 | refine lw_tup ?_ | refine lw_agg ?_ | assumption)⟩
  | false =>
    have E : gSw me stm qs (⟨tk, su, 0, bu, er, lk, 3, at', now, st, ve, vb, vr⟩ : CS) w v h o false = (⟨tk, su, 0, bu, er, lk, 3, at', now, st, ve, vb, vr⟩ : CS).enter 2 := by rw [gSw, if_neg (by simp), if_neg (by simp), if_neg (by simp), if_pos rfl, if_neg (by simp)]
    obtain ⟨a1, a2, a3, a4⟩ := gGo_same qs cs.length ss ((⟨tk, su, 0, bu, er, lk, 3, at', now, st, ve, vb, vr⟩ : CS).enter 2)
    rw [E]
    dsimp only at a1 a2 a3 a4 ⊢
    (with_reducible repeat first | refine zq1 ?_ | refine zq2 ?_ | refine zq3 ?_ | refine zq4 ?_ | refine zq5 ?_ | refine zq6 ?_ | refine zq7 ?_ | refine zq8 ?_ | refine zq9 ?_ | refine zqa ?_ | refine zqb ?_ | refine zqc ?_ | refine zqd ?_ | refine zqe ?_ | refine zqf ?_ | refine zqg ?_ | refine zqh ?_ | refine zqi ?_ | refine zqj ?_ | refine zqk ?_ | refine zql ?_ | refine zqm ?_ | refine zqn ?_ | refine zqo ?_ | refine zqp ?_)
    try simp only [kEn, kBu, kEr, kPh, kAt, kSt, kVe, kVb, kVr, gW_mk, gW_mk0]
    exact ⟨rfl, _, _, [.id 0, .id 1, .id 2, .id 3, .id 4, .id 5, .id 5], ⟨rfl, rfl⟩, by simp only [cET, a1, a2, a3, a4]; (refine ⟨by kernel_rfl, ?_, ?_⟩ <;> repeat first | exact okTms_nil | refine okTms_cons ?_ ?_ | exact okBlks_nil | refine okBlks_cons ?_ ?_ | exact lws_nil | refine lws_cons ?_ ?_ | exact lb_dead | exact zy1 | exact zy2 | exact lb_none | refine zy3 ?_ | exact zy4 | exact lw_any | exact lw_int | exact lw_bool | exact zy5 | exact zy6 | exact lw_nils | exact lw_slo_nils | exact zy7 | exact zy8 | exact zy9 | refine lw_tup ?_ | refine lw_agg ?_ | assumption)⟩
set_option maxHeartbeats 1000000 in
theorem tell_4 (me stm : Int) (qs cs : List (Int × Int)) (ss : List Int) (s : CS) (hq : qs.length ≤ 1000000) (hcs : cs.length ≤ 1000000) (hs : ss.length ≤ 1000000) (hc : s.Can qs.length ss.length) (w v : Int) (h : Bool) (o : Int) (d : Bool) (q0 : s.en = 0) (p4 : s.ph = 4) :
    SFun Go.Proofs.Try.prog 11 [.ptr 0 0, .agg (ansC w v h o d 0)] (mkS (cES me stm qs cs ss s)) fun l t => l = .tup [] ∧ t = mkS (cET me stm qs cs ss (gTell me stm qs cs.length ss s w v h o d 0)) := by
  refine SFun.mono (SFun.vc (Q := fun l b => l = .tup [] ∧ b = cET me stm qs cs ss (gTell me stm qs cs.length ss s w v h o d 0)) cxg_ok (n := 60) 6 rfl ?_) fun l s' ⟨b0, ⟨h1, h2⟩, h3⟩ => ⟨h1, by rw [h3, h2]⟩
  have nq := noids_c qs
  have nc := noids_c cs
  have nss := noIds_Ii64 ss
  have nt := noids_l s.tk
  obtain ⟨hsu, htk, hat, ha, hb⟩ := hc
  have ok := okK_enc hq hcs hs htk
  have lq := cell_n qs
  have lt := lk_n s.tk
  have E0 : gTell me stm qs cs.length ss s w v h o d 0 = gGo qs cs.length ss (gSw me stm qs s w v h o d) := by rw [gTell, if_neg (by simpa using q0), if_neg (by simp)]
  have e3 : xar .add .i64 (s.at' : Int) 1 = ((s.at' + 1 : Nat) : Int) := inc_i64 (Nat.lt_succ_self s.at') (by omega)
  rw [E0]
  obtain ⟨tk, su, en, bu, er, lk, ph, at', now, st, ve, vb, vr⟩ := s
  dsimp only at *
  subst q0 p4
  rw [tl_4]
  simp only [nt_eql, cm_self, cond_true, gW_mk, gW_mk0, ok, e3]
  have hlt := hb rfl rfl
  cases h with
  | true =>
    by_cases u1 : me < o
    · skip
      have E : gSw me stm qs (⟨tk, su, 0, bu, er, lk, 4, at', now, st, ve, vb, vr⟩ : CS) w v true o d = (⟨tk, su, 0, bu, er, lk, 4, at', now, st, ve, vb, vr⟩ : CS) := by rw [gSw, if_neg (by simp), if_neg (by simp), if_neg (by simp), if_neg (by simp), if_pos rfl, if_pos rfl, gAw, if_pos u1]
      obtain ⟨a1, a2, a3, a4⟩ := gGo_same qs cs.length ss ((⟨tk, su, 0, bu, er, lk, 4, at', now, st, ve, vb, vr⟩ : CS))
      rw [E]
      dsimp only at a1 a2 a3 a4 ⊢
      (with_reducible repeat first | refine zq1 ?_ | refine zq2 ?_ | refine zq3 ?_ | refine zq4 ?_ | refine zq5 ?_ | refine zq6 ?_ | refine zq7 ?_ | refine zq8 ?_ | refine zq9 ?_ | refine zqa ?_ | refine zqb ?_ | refine zqc ?_ | refine zqd ?_ | refine zqe ?_ | refine zqf ?_ | refine zqg ?_ | refine zqh ?_ | refine zqi ?_ | refine zqj ?_ | refine zqk ?_ | refine zql ?_ | refine zqm ?_ | refine zqn ?_ | refine zqo ?_ | refine zqp ?_)
      try simp only [kEn, kBu, kEr, kPh, kAt, kSt, kVe, kVb, kVr, gW_mk, gW_mk0]
      exact ⟨rfl, _, _, [.id 0, .id 1, .id 2, .id 3, .id 4, .id 5, .id 5], ⟨rfl, rfl⟩, by simp only [cET, a1, a2, a3, a4]; (refine ⟨by kernel_rfl, ?_, ?_⟩ <;> repeat first | exact okTms_nil | refine okTms_cons ?_ ?_ | exact okBlks_nil | refine okBlks_cons ?_ ?_ | exact lws_nil | refine lws_cons ?_ ?_ | exact lb_dead | exact zy1 | exact zy2 | exact lb_none | refine zy3 ?_ | exact zy4 | exact lw_any | exact lw_int | exact lw_bool | exact zy5 | exact zy6 | exact lw_nils | exact lw_slo_nils | exact zy7 | exact zy8 | exact zy9 | refine lw_tup ?_ | refine lw_agg ?_ | assumption)⟩
    by_cases u2 : su = 0
    · skip
      have E : gSw me stm qs (⟨tk, su, 0, bu, er, lk, 4, at', now, st, ve, vb, vr⟩ : CS) w v true o d = (⟨tk, su, 0, bu, er, lk, 4, at', now, st, ve, vb, vr⟩ : CS).letGo 5 o 0 := by rw [gSw, if_neg (by simp), if_neg (by simp), if_neg (by simp), if_neg (by simp), if_pos rfl, if_pos rfl, gAw, if_neg u1, if_pos u2]
      obtain ⟨a1, a2, a3, a4⟩ := gGo_same qs cs.length ss ((⟨tk, su, 0, bu, er, lk, 4, at', now, st, ve, vb, vr⟩ : CS).letGo 5 o 0)
      rw [E]
      dsimp only at a1 a2 a3 a4 ⊢
      (with_reducible repeat first | refine zq1 ?_ | refine zq2 ?_ | refine zq3 ?_ | refine zq4 ?_ | refine zq5 ?_ | refine zq6 ?_ | refine zq7 ?_ | refine zq8 ?_ | refine zq9 ?_ | refine zqa ?_ | refine zqb ?_ | refine zqc ?_ | refine zqd ?_ | refine zqe ?_ | refine zqf ?_ | refine zqg ?_ | refine zqh ?_ | refine zqi ?_ | refine zqj ?_ | refine zqk ?_ | refine zql ?_ | refine zqm ?_ | refine zqn ?_ | refine zqo ?_ | refine zqp ?_)
      try simp only [kEn, kBu, kEr, kPh, kAt, kSt, kVe, kVb, kVr, gW_mk, gW_mk0]
      exact ⟨rfl, _, _, [.id 0, .id 1, .id 2, .id 3, .id 4, .id 5, .id 5], ⟨rfl, rfl⟩, by simp only [cET, a1, a2, a3, a4]; (refine ⟨by kernel_rfl, ?_, ?_⟩ <;> repeat first | exact okTms_nil | refine okTms_cons ?_ ?_ | exact okBlks_nil | refine okBlks_cons ?_ ?_ | exact lws_nil | refine lws_cons ?_ ?_ | exact lb_dead | exact zy1 | exact zy2 | exact lb_none | refine zy3 ?_ | exact zy4 | exact lw_any | exact lw_int | exact lw_bool | exact zy5 | exact zy6 | exact lw_nils | exact lw_slo_nils | exact zy7 | exact zy8 | exact zy9 | refine lw_tup ?_ | refine lw_agg ?_ | assumption)⟩
    · have e4 : xar .sub .i64 su 1 = su - 1 := sub_i64 (by omega) (by omega)
      have E : gSw me stm qs (⟨tk, su, 0, bu, er, lk, 4, at', now, st, ve, vb, vr⟩ : CS) w v true o d = (⟨tk, su - 1, 0, bu, er, lk, 4, at', now, st, ve, vb, vr⟩ : CS) := by rw [gSw, if_neg (by simp), if_neg (by simp), if_neg (by simp), if_neg (by simp), if_pos rfl, if_pos rfl, gAw, if_neg u1, if_neg u2]
      obtain ⟨a1, a2, a3, a4⟩ := gGo_same qs cs.length ss ((⟨tk, su - 1, 0, bu, er, lk, 4, at', now, st, ve, vb, vr⟩ : CS))
      rw [E]
      dsimp only at a1 a2 a3 a4 ⊢
      simp only [e4]
      (with_reducible repeat first | refine zq1 ?_ | refine zq2 ?_ | refine zq3 ?_ | refine zq4 ?_ | refine zq5 ?_ | refine zq6 ?_ | refine zq7 ?_ | refine zq8 ?_ | refine zq9 ?_ | refine zqa ?_ | refine zqb ?_ | refine zqc ?_ | refine zqd ?_ | refine zqe ?_ | refine zqf ?_ | refine zqg ?_ | refine zqh ?_ | refine zqi ?_ | refine zqj ?_ | refine zqk ?_ | refine zql ?_ | refine zqm ?_ | refine zqn ?_ | refine zqo ?_ | refine zqp ?_)
      try simp only [kEn, kBu, kEr, kPh, kAt, kSt, kVe, kVb, kVr, gW_mk, gW_mk0]
      exact ⟨rfl, _, _, [.id 0, .id 1, .id 2, .id 3, .id 4, .id 5, .id 5], ⟨rfl, rfl⟩, by simp only [cET, a1, a2, a3, a4]; (refine ⟨by kernel_rfl, ?_, ?_⟩ <;> repeat first | exact okTms_nil | refine okTms_cons ?_ ?_ | exact okBlks_nil | refine okBlks_cons ?_ ?_ | exact lws_nil | refine lws_cons ?_ ?_ | exact lb_dead | exact zy1 | exact zy2 | exact lb_none | refine zy3 ?_ | exact zy4 | exact lw_any | exact lw_int | exact lw_bool | exact zy5 | exact zy6 | exact lw_nils | exact lw_slo_nils | exact zy7 | exact zy8 | exact zy9 | refine lw_tup ?_ | refine lw_agg ?_ | assumption)⟩
  | false =>
    simp only [wd_nat, wd_asV, wd_isV, wd_ix, wd_add, wd_mul, wd_ln, Nat.zero_add, Nat.mul_one, wd_isI, wd_asI, wd_isB, wd_asB, wd_nn, cI_tlen, cB_tlen, cII_tlen, decide_true, cond_true, wd_not_t, wd_not_f, wd_and_t, wd_and_f, Nat.add_assoc, Nat.reduceAdd, cell_1 hlt, cell_n]
    by_cases u1 : v = qs[at'].2
    · skip
      have E : gSw me stm qs (⟨tk, su, 0, bu, er, lk, 4, at', now, st, ve, vb, vr⟩ : CS) w v false o d = (⟨tk, su, 0, bu, er, lk, 4, at', now, st, ve, vb, vr⟩ : CS).step := by rw [gSw, if_neg (by simp), if_neg (by simp), if_neg (by simp), if_neg (by simp), if_pos rfl, if_neg (by simp), gcmp, if_neg (by rw [getD_q hlt]; simpa using u1)]
      obtain ⟨a1, a2, a3, a4⟩ := gGo_same qs cs.length ss ((⟨tk, su, 0, bu, er, lk, 4, at', now, st, ve, vb, vr⟩ : CS).step)
      rw [E]
      dsimp only at a1 a2 a3 a4 ⊢
      (with_reducible repeat first | refine zq1 ?_ | refine zq2 ?_ | refine zq3 ?_ | refine zq4 ?_ | refine zq5 ?_ | refine zq6 ?_ | refine zq7 ?_ | refine zq8 ?_ | refine zq9 ?_ | refine zqa ?_ | refine zqb ?_ | refine zqc ?_ | refine zqd ?_ | refine zqe ?_ | refine zqf ?_ | refine zqg ?_ | refine zqh ?_ | refine zqi ?_ | refine zqj ?_ | refine zqk ?_ | refine zql ?_ | refine zqm ?_ | refine zqn ?_ | refine zqo ?_ | refine zqp ?_)
      try simp only [kEn, kBu, kEr, kPh, kAt, kSt, kVe, kVb, kVr, gW_mk, gW_mk0]
      exact ⟨rfl, _, _, [.id 0, .id 1, .id 2, .id 3, .id 4, .id 5, .id 5], ⟨rfl, rfl⟩, by simp only [cET, a1, a2, a3, a4]; (refine ⟨by kernel_rfl, ?_, ?_⟩ <;> repeat first | exact okTms_nil | refine okTms_cons ?_ ?_ | exact okBlks_nil | refine okBlks_cons ?_ ?_ | exact lws_nil | refine lws_cons ?_ ?_ | exact lb_dead | exact zy1 | exact zy2 | exact lb_none | refine zy3 ?_ | exact zy4 | exact lw_any | exact lw_int | exact lw_bool | exact zy5 | exact zy6 | exact lw_nils | exact lw_slo_nils | exact zy7 | exact zy8 | exact zy9 | refine lw_tup ?_ | refine lw_agg ?_ | assumption)⟩
    · skip
      have E : gSw me stm qs (⟨tk, su, 0, bu, er, lk, 4, at', now, st, ve, vb, vr⟩ : CS) w v false o d = (⟨tk, su, 0, bu, er, lk, 4, at', now, st, ve, vb, vr⟩ : CS).letGo 5 (-1) 0 := by rw [gSw, if_neg (by simp), if_neg (by simp), if_neg (by simp), if_neg (by simp), if_pos rfl, if_neg (by simp), gcmp, if_pos (by rw [getD_q hlt]; simpa using u1)]
      obtain ⟨a1, a2, a3, a4⟩ := gGo_same qs cs.length ss ((⟨tk, su, 0, bu, er, lk, 4, at', now, st, ve, vb, vr⟩ : CS).letGo 5 (-1) 0)
      rw [E]
      dsimp only at a1 a2 a3 a4 ⊢
      (with_reducible repeat first | refine zq1 ?_ | refine zq2 ?_ | refine zq3 ?_ | refine zq4 ?_ | refine zq5 ?_ | refine zq6 ?_ | refine zq7 ?_ | refine zq8 ?_ | refine zq9 ?_ | refine zqa ?_ | refine zqb ?_ | refine zqc ?_ | refine zqd ?_ | refine zqe ?_ | refine zqf ?_ | refine zqg ?_ | refine zqh ?_ | refine zqi ?_ | refine zqj ?_ | refine zqk ?_ | refine zql ?_ | refine zqm ?_ | refine zqn ?_ | refine zqo ?_ | refine zqp ?_)
      try simp only [kEn, kBu, kEr, kPh, kAt, kSt, kVe, kVb, kVr, gW_mk, gW_mk0]
      exact ⟨rfl, _, _, [.id 0, .id 1, .id 2, .id 3, .id 4, .id 5, .id 5], ⟨rfl, rfl⟩, by simp only [cET, a1, a2, a3, a4]; (refine ⟨by kernel_rfl, ?_, ?_⟩ <;> repeat first | exact okTms_nil | refine okTms_cons ?_ ?_ | exact okBlks_nil | refine okBlks_cons ?_ ?_ | exact lws_nil | refine lws_cons ?_ ?_ | exact lb_dead | exact zy1 | exact zy2 | exact lb_none | refine zy3 ?_ | exact zy4 | exact lw_any | exact lw_int | exact lw_bool | exact zy5 | exact zy6 | exact lw_nils | exact lw_slo_nils | exact zy7 | exact zy8 | exact zy9 | refine lw_tup ?_ | refine lw_agg ?_ | assumption)⟩
set_option maxHeartbeats 1000000 in
theorem tell_n (me stm : Int) (qs cs : List (Int × Int)) (ss : List Int) (s : CS) (hq : qs.length ≤ 1000000) (hcs : cs.length ≤ 1000000) (hs : ss.length ≤ 1000000) (hc : s.Can qs.length ss.length) (w v : Int) (h : Bool) (o : Int) (d : Bool) (e : Int) (q0 : ¬ s.en = 0) :
    SFun Go.Proofs.Try.prog 11 [.ptr 0 0, .agg (ansC w v h o d e)] (mkS (cES me stm qs cs ss s)) fun l t => l = .tup [] ∧ t = mkS (cET me stm qs cs ss (gTell me stm qs cs.length ss s w v h o d e)) := by
  refine SFun.mono (SFun.vc (Q := fun l b => l = .tup [] ∧ b = cET me stm qs cs ss (gTell me stm qs cs.length ss s w v h o d e)) cxgd_ok (n := 60) 6 rfl ?_) fun l s' ⟨b0, ⟨h1, h2⟩, h3⟩ => ⟨h1, by rw [h3, h2]⟩
  have nq := noids_c qs
  have nc := noids_c cs
  have nss := noIds_Ii64 ss
  have nt := noids_l s.tk
  obtain ⟨hsu, htk, hat, ha, hb⟩ := hc
  have ok := okK_enc hq hcs hs htk
  have lq := cell_n qs
  have lt := lk_n s.tk
  have E : gTell me stm qs cs.length ss s w v h o d e = s := if_pos q0
  rw [E]
  rw [tl_x]
  rw [nt_eql]
  (with_reducible repeat first | refine zq1 ?_ | refine zq2 ?_ | refine zq3 ?_ | refine zq4 ?_ | refine zq5 ?_ | refine zq6 ?_ | refine zq7 ?_ | refine zq8 ?_ | refine zq9 ?_ | refine zqa ?_ | refine zqb ?_ | refine zqc ?_ | refine zqd ?_ | refine zqe ?_ | refine zqf ?_ | refine zqg ?_ | refine zqh ?_ | refine zqi ?_ | refine zqj ?_ | refine zqk ?_ | refine zql ?_ | refine zqm ?_ | refine zqn ?_ | refine zqo ?_ | refine zqp ?_)
  exact ⟨rfl, _, _, [.id 0, .id 1, .id 2, .id 3, .id 4, .id 5, .id 5], ⟨rfl, rfl⟩, by (refine ⟨by kernel_rfl, ?_, ?_⟩ <;> repeat first | exact okTms_nil | refine okTms_cons ?_ ?_ | exact okBlks_nil | refine okBlks_cons ?_ ?_ | exact lws_nil | refine lws_cons ?_ ?_ | exact lb_dead | exact zy1 | exact zy2 | exact lb_none | refine zy3 ?_ | exact zy4 | exact lw_any | exact lw_int | exact lw_bool | exact zy5 | exact zy6 | exact lw_nils | exact lw_slo_nils | exact zy7 | exact zy8 | exact zy9 | refine lw_tup ?_ | refine lw_agg ?_ | assumption)⟩
set_option maxHeartbeats 1000000 in
theorem tell_e (me stm : Int) (qs cs : List (Int × Int)) (ss : List Int) (s : CS) (hq : qs.length ≤ 1000000) (hcs : cs.length ≤ 1000000) (hs : ss.length ≤ 1000000) (hc : s.Can qs.length ss.length) (w v : Int) (h : Bool) (o : Int) (d : Bool) (e : Int) (q0 : s.en = 0) (q1 : ¬ e = 0) :
    SFun Go.Proofs.Try.prog 11 [.ptr 0 0, .agg (ansC w v h o d e)] (mkS (cES me stm qs cs ss s)) fun l t => l = .tup [] ∧ t = mkS (cET me stm qs cs ss (gTell me stm qs cs.length ss s w v h o d e)) := by
  refine SFun.mono (SFun.vc (Q := fun l b => l = .tup [] ∧ b = cET me stm qs cs ss (gTell me stm qs cs.length ss s w v h o d e)) cxgd_ok (n := 60) 6 rfl ?_) fun l s' ⟨b0, ⟨h1, h2⟩, h3⟩ => ⟨h1, by rw [h3, h2]⟩
  have nq := noids_c qs
  have nc := noids_c cs
  have nss := noIds_Ii64 ss
  have nt := noids_l s.tk
  obtain ⟨hsu, htk, hat, ha, hb⟩ := hc
  have ok := okK_enc hq hcs hs htk
  have lq := cell_n qs
  have lt := lk_n s.tk
  have E : gTell me stm qs cs.length ss s w v h o d e = s.stop 4 e (-1) := by rw [gTell, if_neg (by simpa using q0), if_pos q1]
  rw [E]
  rw [tl_x]
  rw [nt_eql]
  (with_reducible repeat first | refine zq1 ?_ | refine zq2 ?_ | refine zq3 ?_ | refine zq4 ?_ | refine zq5 ?_ | refine zq6 ?_ | refine zq7 ?_ | refine zq8 ?_ | refine zq9 ?_ | refine zqa ?_ | refine zqb ?_ | refine zqc ?_ | refine zqd ?_ | refine zqe ?_ | refine zqf ?_ | refine zqg ?_ | refine zqh ?_ | refine zqi ?_ | refine zqj ?_ | refine zqk ?_ | refine zql ?_ | refine zqm ?_ | refine zqn ?_ | refine zqo ?_ | refine zqp ?_)
  exact ⟨rfl, _, _, [.id 0, .id 1, .id 2, .id 3, .id 4, .id 5, .id 5], ⟨rfl, rfl⟩, by (refine ⟨by kernel_rfl, ?_, ?_⟩ <;> repeat first | exact okTms_nil | refine okTms_cons ?_ ?_ | exact okBlks_nil | refine okBlks_cons ?_ ?_ | exact lws_nil | refine lws_cons ?_ ?_ | exact lb_dead | exact zy1 | exact zy2 | exact lb_none | refine zy3 ?_ | exact zy4 | exact lw_any | exact lw_int | exact lw_bool | exact zy5 | exact zy6 | exact lw_nils | exact lw_slo_nils | exact zy7 | exact zy8 | exact zy9 | refine lw_tup ?_ | refine lw_agg ?_ | assumption)⟩
set_option maxHeartbeats 1000000 in
theorem tell_5 (me stm : Int) (qs cs : List (Int × Int)) (ss : List Int) (s : CS) (hq : qs.length ≤ 1000000) (hcs : cs.length ≤ 1000000) (hs : ss.length ≤ 1000000) (hc : s.Can qs.length ss.length) (w v : Int) (h : Bool) (o : Int) (d : Bool) (q0 : s.en = 0) (p0 : ¬ s.ph = 0) (p1 : ¬ s.ph = 1) (p2 : ¬ s.ph = 2) (p3 : ¬ s.ph = 3) (p4 : ¬ s.ph = 4) :
    SFun Go.Proofs.Try.prog 11 [.ptr 0 0, .agg (ansC w v h o d 0)] (mkS (cES me stm qs cs ss s)) fun l t => l = .tup [] ∧ t = mkS (cET me stm qs cs ss (gTell me stm qs cs.length ss s w v h o d 0)) := by
  refine SFun.mono (SFun.vc (Q := fun l b => l = .tup [] ∧ b = cET me stm qs cs ss (gTell me stm qs cs.length ss s w v h o d 0)) cxgd_ok (n := 60) 6 rfl ?_) fun l s' ⟨b0, ⟨h1, h2⟩, h3⟩ => ⟨h1, by rw [h3, h2]⟩
  have nq := noids_c qs
  have nc := noids_c cs
  have nss := noIds_Ii64 ss
  have nt := noids_l s.tk
  obtain ⟨hsu, htk, hat, ha, hb⟩ := hc
  have ok := okK_enc hq hcs hs htk
  have lq := cell_n qs
  have lt := lk_n s.tk
  have E0 : gTell me stm qs cs.length ss s w v h o d 0 = gGo qs cs.length ss (gSw me stm qs s w v h o d) := by rw [gTell, if_neg (by simpa using q0), if_neg (by simp)]
  have e3 : xar .add .i64 (s.at' : Int) 1 = ((s.at' + 1 : Nat) : Int) := inc_i64 (Nat.lt_succ_self s.at') (by omega)
  rw [E0]
  rw [tl_x]
  rw [nt_eql]
  (with_reducible repeat first | refine zq1 ?_ | refine zq2 ?_ | refine zq3 ?_ | refine zq4 ?_ | refine zq5 ?_ | refine zq6 ?_ | refine zq7 ?_ | refine zq8 ?_ | refine zq9 ?_ | refine zqa ?_ | refine zqb ?_ | refine zqc ?_ | refine zqd ?_ | refine zqe ?_ | refine zqf ?_ | refine zqg ?_ | refine zqh ?_ | refine zqi ?_ | refine zqj ?_ | refine zqk ?_ | refine zql ?_ | refine zqm ?_ | refine zqn ?_ | refine zqo ?_ | refine zqp ?_)
  simp only [e3, gW_mk, gW_mk0, ok, cm_self, cond_true]
  have E : gSw me stm qs s w v h o d = s.step := by rw [gSw, if_neg p0, if_neg p1, if_neg p2, if_neg p3, if_neg p4]
  obtain ⟨a1, a2, a3, a4⟩ := gGo_same qs cs.length ss (s.step)
  rw [E]
  (with_reducible repeat first | refine zq1 ?_ | refine zq2 ?_ | refine zq3 ?_ | refine zq4 ?_ | refine zq5 ?_ | refine zq6 ?_ | refine zq7 ?_ | refine zq8 ?_ | refine zq9 ?_ | refine zqa ?_ | refine zqb ?_ | refine zqc ?_ | refine zqd ?_ | refine zqe ?_ | refine zqf ?_ | refine zqg ?_ | refine zqh ?_ | refine zqi ?_ | refine zqj ?_ | refine zqk ?_ | refine zql ?_ | refine zqm ?_ | refine zqn ?_ | refine zqo ?_ | refine zqp ?_)
  try simp only [kEn, kBu, kEr, kPh, kAt, kSt, kVe, kVb, kVr, gW_mk, gW_mk0]
  exact ⟨rfl, _, _, [.id 0, .id 1, .id 2, .id 3, .id 4, .id 5, .id 5], ⟨rfl, rfl⟩, by simp only [cET, a1, a2, a3, a4]; (refine ⟨by kernel_rfl, ?_, ?_⟩ <;> repeat first | exact okTms_nil | refine okTms_cons ?_ ?_ | exact okBlks_nil | refine okBlks_cons ?_ ?_ | exact lws_nil | refine lws_cons ?_ ?_ | exact lb_dead | exact zy1 | exact zy2 | exact lb_none | refine zy3 ?_ | exact zy4 | exact lw_any | exact lw_int | exact lw_bool | exact zy5 | exact zy6 | exact lw_nils | exact lw_slo_nils | exact zy7 | exact zy8 | exact zy9 | refine lw_tup ?_ | refine lw_agg ?_ | assumption)⟩
theorem tell_ok (me stm : Int) (qs cs : List (Int × Int)) (ss : List Int) (s : CS) (hq : qs.length ≤ 1000000) (hcs : cs.length ≤ 1000000) (hs : ss.length ≤ 1000000) (hc : s.Can qs.length ss.length) (w v : Int) (h : Bool) (o : Int) (d : Bool) (e : Int) :
    SFun Go.Proofs.Try.prog 11 [.ptr 0 0, .agg (ansC w v h o d e)] (mkS (cES me stm qs cs ss s)) fun l t => l = .tup [] ∧ t = mkS (cET me stm qs cs ss (gTell me stm qs cs.length ss s w v h o d e)) := by
  by_cases q0 : s.en = 0
  case neg => exact tell_n me stm qs cs ss s hq hcs hs hc w v h o d e q0
  by_cases q1 : e = 0
  case neg => exact tell_e me stm qs cs ss s hq hcs hs hc w v h o d e q0 q1
  subst q1
  by_cases p0 : s.ph = 0
  · exact tell_0 me stm qs cs ss s hq hcs hs hc w v h o d q0 p0
  by_cases p1 : s.ph = 1
  · exact tell_1 me stm qs cs ss s hq hcs hs hc w v h o d q0 p1
  by_cases p2 : s.ph = 2
  · exact tell_2 me stm qs cs ss s hq hcs hs hc w v h o d q0 p2
  by_cases p3 : s.ph = 3
  · exact tell_3 me stm qs cs ss s hq hcs hs hc w v h o d q0 p3
  by_cases p4 : s.ph = 4
  · exact tell_4 me stm qs cs ss s hq hcs hs hc w v h o d q0 p4
  exact tell_5 me stm qs cs ss s hq hcs hs hc w v h o d q0 p0 p1 p2 p3 p4
end
end Go.Lev
