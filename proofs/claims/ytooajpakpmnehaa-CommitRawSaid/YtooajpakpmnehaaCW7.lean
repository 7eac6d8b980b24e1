/- chapter 25: Next, Tell of a commit as contracts -/
import Derived.Test.YtooajpakpmnehaaCW6
import Derived.Test.YtooajpakpmnehaaLc
import Derived.Test.YtooajpakpmnehaaChecked
import Derived.KernelRfl

namespace Go.Lev
open Go.RowKit
set_option linter.unusedVariables false
set_option linter.unusedSimpArgs false
set_option maxRecDepth 100000
noncomputable section
def opW (me : Int) (qc cc sc : List LV) (s : CS) : OpR := opOf me (decC qc) (decC cc) (decIi64 sc) s
def nK (me : Int) (qc cc sc : List LV) (s : CS) : Int := (opW me qc cc sc s).k

def nA (me : Int) (qc cc sc : List LV) (s : CS) : Int := (opW me qc cc sc s).at'

def nO (me : Int) (qc cc sc : List LV) (s : CS) : Int := (opW me qc cc sc s).old

def nW (me : Int) (qc cc sc : List LV) (s : CS) : Int := (opW me qc cc sc s).w

def nWv (me : Int) (qc cc sc : List LV) (s : CS) : Int := (opW me qc cc sc s).was.1

def nWh (me : Int) (qc cc sc : List LV) (s : CS) : Bool := (opW me qc cc sc s).was.2.1

def nWo (me : Int) (qc cc sc : List LV) (s : CS) : Int := (opW me qc cc sc s).was.2.2

def nLv (me : Int) (qc cc sc : List LV) (s : CS) : Int := (opW me qc cc sc s).lk.1

def nLh (me : Int) (qc cc sc : List LV) (s : CS) : Bool := (opW me qc cc sc s).lk.2.1

def nLo (me : Int) (qc cc sc : List LV) (s : CS) : Int := (opW me qc cc sc s).lk.2.2

def tW (me stm : Int) (qc cc sc : List LV) (s : CS) (w v : Int) (h : Bool) (o : Int) (d : Bool) (e : Int) : CS := gTell me stm (decC qc) (decC cc).length (decIi64 sc) s w v h o d e

def okS (nq nc ns : Nat) (s : CS) : Bool := @decide (s.Ok nq nc ns) (Classical.propDecidable _)

theorem okS_iff {nq nc ns : Nat} {s : CS} : okS nq nc ns s = true ↔ s.Ok nq nc ns := by simp only [okS, decide_eq_true_eq]
theorem mkC_enc (tk : List Lk) (su en bu er lv : Int) (lh : Bool) (lo ph : Int) (n : Nat) (now : Int) (st : Bool) (ve vb vr : Int) : mkC (encL cL tk) su en bu er lv lh lo ph (n : Int) now st ve vb vr = ⟨tk, su, en, bu, er, (lv, lh, lo), ph, n, now, st, ve, vb, vr⟩ := by simp only [mkC, decL_enc, Int.toNat_natCast]
abbrev nOp (me : Int) (qc cc sc : List LV) (s : CS) : List LV := opC (nK me qc cc sc s) (nA me qc cc sc s) (nO me qc cc sc s) (nW me qc cc sc s) (nWv me qc cc sc s) (nWh me qc cc sc s) (nWo me qc cc sc s) (nLv me qc cc sc s) (nLh me qc cc sc s) (nLo me qc cc sc s)

theorem next_c (me stm : Int) (nq nc ns nt : Nat) (qc cc sc tc : List LV) (su en bu er lv : Int) (lh : Bool) (lo ph a now : Int) (st : Bool) (ve vb vr : Int) (k1 : okK qc cc sc tc nq nc ns nt = true) (k2 : xnn a = true) (k4 : okS nq nc ns (mkC tc su en bu er lv lh lo ph a now st ve vb vr) = true) :
    SFun Go.Proofs.Try.prog 9 [.ptr 0 0] (mkS (cEi me stm nq nc ns nt qc cc sc tc su en bu er lv lh lo ph a now st ve vb vr)) fun l t => l = .tup [.agg (nOp me qc cc sc (mkC tc su en bu er lv lh lo ph a now st ve vb vr)), .bool (xcm .eql en 0)] ∧ t = mkS (cEi me stm nq nc ns nt qc cc sc tc su en bu er lv lh lo ph a now st ve vb vr) := by
  obtain ⟨qs, cs, ss, tk, ⟨rfl, rfl, rfl, rfl⟩, ⟨rfl, rfl, rfl, rfl⟩, h1, h2, h3, h4⟩ := okK_iff.1 k1
  rw [wd_nni, decide_eq_true_eq] at k2
  obtain ⟨n, rfl⟩ := Int.eq_ofNat_of_zero_le k2
  have k5 := okS_iff.1 k4
  rw [mkC_enc] at k5
  simp only [nOp, nK, nA, nO, nW, nWv, nWh, nWo, nLv, nLh, nLo, opW, decC_enc, decIi64_enc, mkC_enc]
  exact next_ok me stm qs cs ss _ h1 h2 h3 k5
theorem tell_c (me stm : Int) (nq nc ns nt : Nat) (qc cc sc tc : List LV) (su en bu er lv : Int) (lh : Bool) (lo ph a now : Int) (st : Bool) (ve vb vr : Int) (w v : Int) (h : Bool) (o : Int) (d : Bool) (e : Int) (k1 : okK qc cc sc tc nq nc ns nt = true) (k2 : xnn a = true) (k4 : okS nq nc ns (mkC tc su en bu er lv lh lo ph a now st ve vb vr) = true) :
    SFun Go.Proofs.Try.prog 11 [.ptr 0 0, .agg (ansC w v h o d e)] (mkS (cEi me stm nq nc ns nt qc cc sc tc su en bu er lv lh lo ph a now st ve vb vr)) fun l t => l = .tup [] ∧ t = mkS [.cells [.ptr 1 0, .int .i64 me, .int .u64 stm, .slo 2 0 nq 0, .slo 3 0 nc 0, .slo 4 0 ns 0, .slo 6 0 (kTn (tW me stm qc cc sc (mkC tc su en bu er lv lh lo ph a now st ve vb vr) w v h o d e)) 0, .int .u64 (kLv (tW me stm qc cc sc (mkC tc su en bu er lv lh lo ph a now st ve vb vr) w v h o d e)), .bool (kLh (tW me stm qc cc sc (mkC tc su en bu er lv lh lo ph a now st ve vb vr) w v h o d e)), .int .i64 (kLo (tW me stm qc cc sc (mkC tc su en bu er lv lh lo ph a now st ve vb vr) w v h o d e)), .int .i64 (kPh (tW me stm qc cc sc (mkC tc su en bu er lv lh lo ph a now st ve vb vr) w v h o d e)), .int .i64 (kAt (tW me stm qc cc sc (mkC tc su en bu er lv lh lo ph a now st ve vb vr) w v h o d e)), .int .u64 (kNow (tW me stm qc cc sc (mkC tc su en bu er lv lh lo ph a now st ve vb vr) w v h o d e)), .bool (kSt (tW me stm qc cc sc (mkC tc su en bu er lv lh lo ph a now st ve vb vr) w v h o d e)), .int .i64 (kVe (tW me stm qc cc sc (mkC tc su en bu er lv lh lo ph a now st ve vb vr) w v h o d e)), .int .i64 (kVb (tW me stm qc cc sc (mkC tc su en bu er lv lh lo ph a now st ve vb vr) w v h o d e)), .int .i64 (kVr (tW me stm qc cc sc (mkC tc su en bu er lv lh lo ph a now st ve vb vr) w v h o d e))] none, .cells [.int .i64 me, .int .i64 (kSu (tW me stm qc cc sc (mkC tc su en bu er lv lh lo ph a now st ve vb vr) w v h o d e)), .int .i64 (kEn (tW me stm qc cc sc (mkC tc su en bu er lv lh lo ph a now st ve vb vr) w v h o d e)), .int .i64 (kBu (tW me stm qc cc sc (mkC tc su en bu er lv lh lo ph a now st ve vb vr) w v h o d e)), .int .i64 (kEr (tW me stm qc cc sc (mkC tc su en bu er lv lh lo ph a now st ve vb vr) w v h o d e))] none, .cells qc (some 2), .cells cc (some 2), .cells sc (some 1), .dead, .cells (kTc (tW me stm qc cc sc (mkC tc su en bu er lv lh lo ph a now st ve vb vr) w v h o d e)) (some 3)] := by
  obtain ⟨qs, cs, ss, tk, ⟨rfl, rfl, rfl, rfl⟩, ⟨rfl, rfl, rfl, rfl⟩, h1, h2, h3, h4⟩ := okK_iff.1 k1
  rw [wd_nni, decide_eq_true_eq] at k2
  obtain ⟨n, rfl⟩ := Int.eq_ofNat_of_zero_le k2
  have k5 := okS_iff.1 k4
  rw [mkC_enc] at k5
  simp only [tW, decC_enc, decIi64_enc, mkC_enc]
  exact tell_ok me stm qs cs ss _ h1 h2 h3 k5.can w v h o d e
def nextG : Gc := fun args s => match args, s.g with
  | [.ptr b 0], [] => (match s.h.get b with
    | some (.cells [.ptr k 0, .int .i64 me, .int .u64 stm, .slo q 0 nq 0, .slo y 0 nc 0, .slo f 0 ns 0, .slo g 0 nt 0, .int .u64 lv, .bool lh, .int .i64 lo, .int .i64 ph, .int .i64 a, .int .u64 now, .bool st, .int .i64 ve, .int .i64 vb, .int .i64 vr] none) => (match s.h.get k with
      | some (.cells [.int .i64 me', .int .i64 su, .int .i64 en, .int .i64 bu, .int .i64 er] none) => (match s.h.get q with
        | some (.cells qc (some 2)) => (match s.h.get y with
          | some (.cells cc (some 2)) => (match s.h.get f with
            | some (.cells sc (some 1)) => (match s.h.get g with
              | some (.cells tc (some 3)) => cond (nodupB [b, k, q, y, f, g]) (match s.lay [b, k, q, y, f, g] [.cells [.ptr k 0, .int .i64 me, .int .u64 stm, .slo q 0 nq 0, .slo y 0 nc 0, .slo f 0 ns 0, .slo g 0 nt 0, .int .u64 lv, .bool lh, .int .i64 lo, .int .i64 ph, .int .i64 a, .int .u64 now, .bool st, .int .i64 ve, .int .i64 vb, .int .i64 vr] none, .cells [.int .i64 me', .int .i64 su, .int .i64 en, .int .i64 bu, .int .i64 er] none, .cells qc (some 2), .cells cc (some 2), .cells sc (some 1), .cells tc (some 3)] [] with
                | some s' => some ([okK qc cc sc tc nq nc ns nt, xnn a, xcm .eql me me', okS nq nc ns (mkC tc su en bu er lv lh lo ph a now st ve vb vr)], .tup [.agg [.int .i64 (nK me qc cc sc (mkC tc su en bu er lv lh lo ph a now st ve vb vr)), .int .i64 (nA me qc cc sc (mkC tc su en bu er lv lh lo ph a now st ve vb vr)), .int .u64 (nO me qc cc sc (mkC tc su en bu er lv lh lo ph a now st ve vb vr)), .int .u64 (nW me qc cc sc (mkC tc su en bu er lv lh lo ph a now st ve vb vr)), .int .u64 (nWv me qc cc sc (mkC tc su en bu er lv lh lo ph a now st ve vb vr)), .bool (nWh me qc cc sc (mkC tc su en bu er lv lh lo ph a now st ve vb vr)), .int .i64 (nWo me qc cc sc (mkC tc su en bu er lv lh lo ph a now st ve vb vr)), .int .u64 (nLv me qc cc sc (mkC tc su en bu er lv lh lo ph a now st ve vb vr)), .bool (nLh me qc cc sc (mkC tc su en bu er lv lh lo ph a now st ve vb vr)), .int .i64 (nLo me qc cc sc (mkC tc su en bu er lv lh lo ph a now st ve vb vr))], .bool (xcm .eql en 0)], s')
                | none => none) none
              | _ => none)
            | _ => none)
          | _ => none)
        | _ => none)
      | _ => none)
    | _ => none)
  | _, _ => none
theorem nextG_ok : GOk Go.Proofs.Try.prog 9 nextG := by
  intro args s bs l s' hg hb hfr
  unfold nextG at hg
  split at hg
  · rename_i b hgl
    split at hg
    · rename_i k me stm q nq y nc f ns g nt lv lh lo ph a now st ve vb vr hb0
      split at hg
      · rename_i me' su en bu er hb1
        split at hg
        · rename_i qc hb2
          split at hg
          · rename_i cc hb3
            split at hg
            · rename_i sc hb4
              split at hg
              · rename_i tc hb5
                cases hbc : nodupB [b, k, q, y, f, g] with
                | false => rw [hbc] at hg; cases hg
                | true =>
                  rw [hbc] at hg
                  simp only [cond_true] at hg
                  split at hg
                  · rename_i s1 hs1
                    simp only [Option.some.injEq, Prod.mk.injEq] at hg
                    obtain ⟨rfl, rfl, rfl⟩ := hg
                    simp only [allT_cons] at hb
                    obtain ⟨k1, k2, k3, k4, _⟩ := hb
                    have no : noIds qc = true := by obtain ⟨_, _, _, _, ⟨e, _, _, _⟩, _⟩ := okK_iff.1 k1; rw [e]; exact noids_c _
                    have no2 : noIds cc = true := by obtain ⟨_, _, _, _, ⟨_, e, _, _⟩, _⟩ := okK_iff.1 k1; rw [e]; exact noids_c _
                    have no3 : noIds sc = true := by obtain ⟨_, _, _, _, ⟨_, _, e, _⟩, _⟩ := okK_iff.1 k1; rw [e]; exact noIds_Ii64 _
                    have no4 : noIds tc = true := by obtain ⟨_, _, _, _, ⟨_, _, _, e⟩, _⟩ := okK_iff.1 k1; rw [e]; exact noids_l _
                    have e3 : me = me' := by simpa [xcm_eql] using k3
                    refine SFun.lay (bs := [.cells [.ptr 1 0, .int .i64 me, .int .u64 stm, .slo 2 0 nq 0, .slo 3 0 nc 0, .slo 4 0 ns 0, .slo 5 0 nt 0, .int .u64 lv, .bool lh, .int .i64 lo, .int .i64 ph, .int .i64 a, .int .u64 now, .bool st, .int .i64 ve, .int .i64 vb, .int .i64 vr] none, .cells [.int .i64 me', .int .i64 su, .int .i64 en, .int .i64 bu, .int .i64 er] none, .cells qc (some 2), .cells cc (some 2), .cells sc (some 1), .cells tc (some 3)]) (args0 := [.ptr 0 0]) (bs' := [.cells [.ptr 1 0, .int .i64 me, .int .u64 stm, .slo 2 0 nq 0, .slo 3 0 nc 0, .slo 4 0 ns 0, .slo 5 0 nt 0, .int .u64 lv, .bool lh, .int .i64 lo, .int .i64 ph, .int .i64 a, .int .u64 now, .bool st, .int .i64 ve, .int .i64 vb, .int .i64 vr] none, .cells [.int .i64 me', .int .i64 su, .int .i64 en, .int .i64 bu, .int .i64 er] none, .cells qc (some 2), .cells cc (some 2), .cells sc (some 1), .cells tc (some 3)]) (v0 := .tup [.agg [.int .i64 (nK me qc cc sc (mkC tc su en bu er lv lh lo ph a now st ve vb vr)), .int .i64 (nA me qc cc sc (mkC tc su en bu er lv lh lo ph a now st ve vb vr)), .int .u64 (nO me qc cc sc (mkC tc su en bu er lv lh lo ph a now st ve vb vr)), .int .u64 (nW me qc cc sc (mkC tc su en bu er lv lh lo ph a now st ve vb vr)), .int .u64 (nWv me qc cc sc (mkC tc su en bu er lv lh lo ph a now st ve vb vr)), .bool (nWh me qc cc sc (mkC tc su en bu er lv lh lo ph a now st ve vb vr)), .int .i64 (nWo me qc cc sc (mkC tc su en bu er lv lh lo ph a now st ve vb vr)), .int .u64 (nLv me qc cc sc (mkC tc su en bu er lv lh lo ph a now st ve vb vr)), .bool (nLh me qc cc sc (mkC tc su en bu er lv lh lo ph a now st ve vb vr)), .int .i64 (nLo me qc cc sc (mkC tc su en bu er lv lh lo ph a now st ve vb vr))], .bool (xcm .eql en 0)]) hfr hs1 (nodupB_nd hbc)
                      ⟨⟨there hfr hb0, _, hb0, by first | exact lb_same rfl | exact lb_cells (lws_cons (lw_ptr rfl) (lws_cons (lw_int) (lws_cons (lw_int) (lws_cons (lw_slo rfl) (lws_cons (lw_slo rfl) (lws_cons (lw_slo rfl) (lws_cons (lw_slo rfl) (lws_cons (lw_int) (lws_cons (lw_bool) (lws_cons (lw_int) (lws_cons (lw_int) (lws_cons (lw_int) (lws_cons (lw_int) (lws_cons (lw_bool) (lws_cons (lw_int) (lws_cons (lw_int) (lws_cons (lw_int) lws_nil))))))))))))))))) (by simp), fun κ hκ => lb_cells (lws_cons (lw_ptr (hκ 1 k rfl)) (lws_cons (lw_int) (lws_cons (lw_int) (lws_cons (lw_slo (hκ 2 q rfl)) (lws_cons (lw_slo (hκ 3 y rfl)) (lws_cons (lw_slo (hκ 4 f rfl)) (lws_cons (lw_slo (hκ 5 g rfl)) (lws_cons (lw_int) (lws_cons (lw_bool) (lws_cons (lw_int) (lws_cons (lw_int) (lws_cons (lw_int) (lws_cons (lw_int) (lws_cons (lw_bool) (lws_cons (lw_int) (lws_cons (lw_int) (lws_cons (lw_int) lws_nil))))))))))))))))) (by simp)⟩, ⟨there hfr hb1, _, hb1, by first | exact lb_same rfl | exact lb_cells (lws_cons (lw_int) (lws_cons (lw_int) (lws_cons (lw_int) (lws_cons (lw_int) (lws_cons (lw_int) lws_nil))))) (by simp), fun κ hκ => lb_cells (lws_cons (lw_int) (lws_cons (lw_int) (lws_cons (lw_int) (lws_cons (lw_int) (lws_cons (lw_int) lws_nil))))) (by simp)⟩, ⟨there hfr hb2, _, hb2, lb_same (by (first | assumption | exact noIds_tab (fun _ => rfl) _ _ | exact noIds_encL (fun _ => rfl) _ | rfl)), fun κ hκ => lb_same (by (first | assumption | exact noIds_tab (fun _ => rfl) _ _ | exact noIds_encL (fun _ => rfl) _ | rfl))⟩, ⟨there hfr hb3, _, hb3, lb_same (by (first | assumption | exact noIds_tab (fun _ => rfl) _ _ | exact noIds_encL (fun _ => rfl) _ | rfl)), fun κ hκ => lb_same (by (first | assumption | exact noIds_tab (fun _ => rfl) _ _ | exact noIds_encL (fun _ => rfl) _ | rfl))⟩, ⟨there hfr hb4, _, hb4, lb_same (by (first | assumption | exact noIds_tab (fun _ => rfl) _ _ | exact noIds_encL (fun _ => rfl) _ | rfl)), fun κ hκ => lb_same (by (first | assumption | exact noIds_tab (fun _ => rfl) _ _ | exact noIds_encL (fun _ => rfl) _ | rfl))⟩, ⟨there hfr hb5, _, hb5, lb_same (by (first | assumption | exact noIds_tab (fun _ => rfl) _ _ | exact noIds_encL (fun _ => rfl) _ | rfl)), fun κ hκ => lb_same (by (first | assumption | exact noIds_tab (fun _ => rfl) _ _ | exact noIds_encL (fun _ => rfl) _ | rfl))⟩, trivial⟩ (by ((repeat refine lws_cons (by (first | exact lw_any | exact lw_int | exact lw_bool | exact lw_ptr rfl | exact lw_slo rfl | exact lw_nilp | exact lw_nils | exact lw_str | exact lw_slo_nils | exact lw_slo_sle | exact lw_sl rfl | exact lw_unb | exact lw_gptr | exact lw_noid rfl | exact lw_cap rfl (Nat.le_refl _) | exact lw_cap rfl (by omega) | assumption | exact lw_tup (by ((repeat refine lws_cons (by (first | exact lw_any | exact lw_int | exact lw_bool | exact lw_ptr rfl | exact lw_slo rfl | exact lw_nilp | exact lw_nils | exact lw_str | exact lw_slo_nils | exact lw_slo_sle | exact lw_sl rfl | exact lw_unb | exact lw_gptr | exact lw_noid rfl | exact lw_cap rfl (Nat.le_refl _) | exact lw_cap rfl (by omega) | assumption)) ?_); exact lws_nil)))) ?_); exact lws_nil)) ?_
                      fun κ h1 h2 => ⟨⟨lb_cells (lws_cons (lw_ptr (h1 1 k rfl)) (lws_cons (lw_int) (lws_cons (lw_int) (lws_cons (lw_slo (h1 2 q rfl)) (lws_cons (lw_slo (h1 3 y rfl)) (lws_cons (lw_slo (h1 4 f rfl)) (lws_cons (lw_slo (h1 5 g rfl)) (lws_cons (lw_int) (lws_cons (lw_bool) (lws_cons (lw_int) (lws_cons (lw_int) (lws_cons (lw_int) (lws_cons (lw_int) (lws_cons (lw_bool) (lws_cons (lw_int) (lws_cons (lw_int) (lws_cons (lw_int) lws_nil))))))))))))))))) (by simp), lb_cells (lws_cons (lw_int) (lws_cons (lw_int) (lws_cons (lw_int) (lws_cons (lw_int) (lws_cons (lw_int) lws_nil))))) (by simp), lb_same (by (first | assumption | exact noIds_tab (fun _ => rfl) _ _ | exact noIds_encL (fun _ => rfl) _ | rfl)), lb_same (by (first | assumption | exact noIds_tab (fun _ => rfl) _ _ | exact noIds_encL (fun _ => rfl) _ | rfl)), lb_same (by (first | assumption | exact noIds_tab (fun _ => rfl) _ _ | exact noIds_encL (fun _ => rfl) _ | rfl)), lb_same (by (first | assumption | exact noIds_tab (fun _ => rfl) _ _ | exact noIds_encL (fun _ => rfl) _ | rfl)), trivial⟩, lw_noid rfl⟩
                    rw [hgl]; exact (by rw [← e3]; exact next_c me stm nq nc ns nt qc cc sc tc su en bu er lv lh lo ph a now st ve vb vr k1 k2 k4)
                  · cases hg
              · cases hg
            · cases hg
          · cases hg
        · cases hg
      · cases hg
    · cases hg
  · cases hg
def tellG : Gc := fun args s => match args, s.g with
  | [.ptr b 0, .agg [.int .u64 w, .int .u64 v, .bool h, .int .i64 o, .bool d, .int .i64 e]], [] => (match s.h.get b with
    | some (.cells [.ptr k 0, .int .i64 me, .int .u64 stm, .slo q 0 nq 0, .slo y 0 nc 0, .slo f 0 ns 0, .slo g 0 nt 0, .int .u64 lv, .bool lh, .int .i64 lo, .int .i64 ph, .int .i64 a, .int .u64 now, .bool st, .int .i64 ve, .int .i64 vb, .int .i64 vr] none) => (match s.h.get k with
      | some (.cells [.int .i64 me', .int .i64 su, .int .i64 en, .int .i64 bu, .int .i64 er] none) => (match s.h.get q with
        | some (.cells qc (some 2)) => (match s.h.get y with
          | some (.cells cc (some 2)) => (match s.h.get f with
            | some (.cells sc (some 1)) => (match s.h.get g with
              | some (.cells tc (some 3)) => cond (nodupB [b, k, q, y, f, g]) (match s.lay [b, k, q, y, f, g] [.cells [.ptr k 0, .int .i64 me, .int .u64 stm, .slo q 0 nq 0, .slo y 0 nc 0, .slo f 0 ns 0, .slo s.n 0 (kTn (tW me stm qc cc sc (mkC tc su en bu er lv lh lo ph a now st ve vb vr) w v h o d e)) 0, .int .u64 (kLv (tW me stm qc cc sc (mkC tc su en bu er lv lh lo ph a now st ve vb vr) w v h o d e)), .bool (kLh (tW me stm qc cc sc (mkC tc su en bu er lv lh lo ph a now st ve vb vr) w v h o d e)), .int .i64 (kLo (tW me stm qc cc sc (mkC tc su en bu er lv lh lo ph a now st ve vb vr) w v h o d e)), .int .i64 (kPh (tW me stm qc cc sc (mkC tc su en bu er lv lh lo ph a now st ve vb vr) w v h o d e)), .int .i64 (kAt (tW me stm qc cc sc (mkC tc su en bu er lv lh lo ph a now st ve vb vr) w v h o d e)), .int .u64 (kNow (tW me stm qc cc sc (mkC tc su en bu er lv lh lo ph a now st ve vb vr) w v h o d e)), .bool (kSt (tW me stm qc cc sc (mkC tc su en bu er lv lh lo ph a now st ve vb vr) w v h o d e)), .int .i64 (kVe (tW me stm qc cc sc (mkC tc su en bu er lv lh lo ph a now st ve vb vr) w v h o d e)), .int .i64 (kVb (tW me stm qc cc sc (mkC tc su en bu er lv lh lo ph a now st ve vb vr) w v h o d e)), .int .i64 (kVr (tW me stm qc cc sc (mkC tc su en bu er lv lh lo ph a now st ve vb vr) w v h o d e))] none, .cells [.int .i64 me', .int .i64 (kSu (tW me stm qc cc sc (mkC tc su en bu er lv lh lo ph a now st ve vb vr) w v h o d e)), .int .i64 (kEn (tW me stm qc cc sc (mkC tc su en bu er lv lh lo ph a now st ve vb vr) w v h o d e)), .int .i64 (kBu (tW me stm qc cc sc (mkC tc su en bu er lv lh lo ph a now st ve vb vr) w v h o d e)), .int .i64 (kEr (tW me stm qc cc sc (mkC tc su en bu er lv lh lo ph a now st ve vb vr) w v h o d e))] none, .cells qc (some 2), .cells cc (some 2), .cells sc (some 1), .dead] [.cells (kTc (tW me stm qc cc sc (mkC tc su en bu er lv lh lo ph a now st ve vb vr) w v h o d e)) (some 3)] with
                | some s' => some ([okK qc cc sc tc nq nc ns nt, xnn a, xcm .eql me me', okS nq nc ns (mkC tc su en bu er lv lh lo ph a now st ve vb vr)], .tup [], s')
                | none => none) none
              | _ => none)
            | _ => none)
          | _ => none)
        | _ => none)
      | _ => none)
    | _ => none)
  | _, _ => none
theorem tellG_ok : GOk Go.Proofs.Try.prog 11 tellG := by
  intro args s bs l s' hg hb hfr
  unfold tellG at hg
  split at hg
  · rename_i b w v h o d e hgl
    split at hg
    · rename_i k me stm q nq y nc f ns g nt lv lh lo ph a now st ve vb vr hb0
      split at hg
      · rename_i me' su en bu er hb1
        split at hg
        · rename_i qc hb2
          split at hg
          · rename_i cc hb3
            split at hg
            · rename_i sc hb4
              split at hg
              · rename_i tc hb5
                cases hbc : nodupB [b, k, q, y, f, g] with
                | false => rw [hbc] at hg; cases hg
                | true =>
                  rw [hbc] at hg
                  simp only [cond_true] at hg
                  split at hg
                  · rename_i s1 hs1
                    simp only [Option.some.injEq, Prod.mk.injEq] at hg
                    obtain ⟨rfl, rfl, rfl⟩ := hg
                    simp only [allT_cons] at hb
                    obtain ⟨k1, k2, k3, k4, _⟩ := hb
                    have no : noIds qc = true := by obtain ⟨_, _, _, _, ⟨e, _, _, _⟩, _⟩ := okK_iff.1 k1; rw [e]; exact noids_c _
                    have no2 : noIds cc = true := by obtain ⟨_, _, _, _, ⟨_, e, _, _⟩, _⟩ := okK_iff.1 k1; rw [e]; exact noids_c _
                    have no3 : noIds sc = true := by obtain ⟨_, _, _, _, ⟨_, _, e, _⟩, _⟩ := okK_iff.1 k1; rw [e]; exact noIds_Ii64 _
                    have no4 : noIds tc = true := by obtain ⟨_, _, _, _, ⟨_, _, _, e⟩, _⟩ := okK_iff.1 k1; rw [e]; exact noids_l _
                    have e3 : me = me' := by simpa [xcm_eql] using k3
                    refine SFun.lay (bs := [.cells [.ptr 1 0, .int .i64 me, .int .u64 stm, .slo 2 0 nq 0, .slo 3 0 nc 0, .slo 4 0 ns 0, .slo 5 0 nt 0, .int .u64 lv, .bool lh, .int .i64 lo, .int .i64 ph, .int .i64 a, .int .u64 now, .bool st, .int .i64 ve, .int .i64 vb, .int .i64 vr] none, .cells [.int .i64 me', .int .i64 su, .int .i64 en, .int .i64 bu, .int .i64 er] none, .cells qc (some 2), .cells cc (some 2), .cells sc (some 1), .cells tc (some 3)]) (args0 := [.ptr 0 0, .agg [.int .u64 w, .int .u64 v, .bool h, .int .i64 o, .bool d, .int .i64 e]]) (bs' := [.cells [.ptr 1 0, .int .i64 me, .int .u64 stm, .slo 2 0 nq 0, .slo 3 0 nc 0, .slo 4 0 ns 0, .slo 6 0 (kTn (tW me stm qc cc sc (mkC tc su en bu er lv lh lo ph a now st ve vb vr) w v h o d e)) 0, .int .u64 (kLv (tW me stm qc cc sc (mkC tc su en bu er lv lh lo ph a now st ve vb vr) w v h o d e)), .bool (kLh (tW me stm qc cc sc (mkC tc su en bu er lv lh lo ph a now st ve vb vr) w v h o d e)), .int .i64 (kLo (tW me stm qc cc sc (mkC tc su en bu er lv lh lo ph a now st ve vb vr) w v h o d e)), .int .i64 (kPh (tW me stm qc cc sc (mkC tc su en bu er lv lh lo ph a now st ve vb vr) w v h o d e)), .int .i64 (kAt (tW me stm qc cc sc (mkC tc su en bu er lv lh lo ph a now st ve vb vr) w v h o d e)), .int .u64 (kNow (tW me stm qc cc sc (mkC tc su en bu er lv lh lo ph a now st ve vb vr) w v h o d e)), .bool (kSt (tW me stm qc cc sc (mkC tc su en bu er lv lh lo ph a now st ve vb vr) w v h o d e)), .int .i64 (kVe (tW me stm qc cc sc (mkC tc su en bu er lv lh lo ph a now st ve vb vr) w v h o d e)), .int .i64 (kVb (tW me stm qc cc sc (mkC tc su en bu er lv lh lo ph a now st ve vb vr) w v h o d e)), .int .i64 (kVr (tW me stm qc cc sc (mkC tc su en bu er lv lh lo ph a now st ve vb vr) w v h o d e))] none, .cells [.int .i64 me', .int .i64 (kSu (tW me stm qc cc sc (mkC tc su en bu er lv lh lo ph a now st ve vb vr) w v h o d e)), .int .i64 (kEn (tW me stm qc cc sc (mkC tc su en bu er lv lh lo ph a now st ve vb vr) w v h o d e)), .int .i64 (kBu (tW me stm qc cc sc (mkC tc su en bu er lv lh lo ph a now st ve vb vr) w v h o d e)), .int .i64 (kEr (tW me stm qc cc sc (mkC tc su en bu er lv lh lo ph a now st ve vb vr) w v h o d e))] none, .cells qc (some 2), .cells cc (some 2), .cells sc (some 1), .dead, .cells (kTc (tW me stm qc cc sc (mkC tc su en bu er lv lh lo ph a now st ve vb vr) w v h o d e)) (some 3)]) (v0 := .tup []) hfr hs1 (nodupB_nd hbc)
                      ⟨⟨there hfr hb0, _, hb0, by first | exact lb_same rfl | exact lb_cells (lws_cons (lw_ptr rfl) (lws_cons (lw_int) (lws_cons (lw_int) (lws_cons (lw_slo rfl) (lws_cons (lw_slo rfl) (lws_cons (lw_slo rfl) (lws_cons (lw_slo rfl) (lws_cons (lw_int) (lws_cons (lw_bool) (lws_cons (lw_int) (lws_cons (lw_int) (lws_cons (lw_int) (lws_cons (lw_int) (lws_cons (lw_bool) (lws_cons (lw_int) (lws_cons (lw_int) (lws_cons (lw_int) lws_nil))))))))))))))))) (by simp), fun κ hκ => lb_cells (lws_cons (lw_ptr (hκ 1 k rfl)) (lws_cons (lw_int) (lws_cons (lw_int) (lws_cons (lw_slo (hκ 2 q rfl)) (lws_cons (lw_slo (hκ 3 y rfl)) (lws_cons (lw_slo (hκ 4 f rfl)) (lws_cons (lw_slo (hκ 5 g rfl)) (lws_cons (lw_int) (lws_cons (lw_bool) (lws_cons (lw_int) (lws_cons (lw_int) (lws_cons (lw_int) (lws_cons (lw_int) (lws_cons (lw_bool) (lws_cons (lw_int) (lws_cons (lw_int) (lws_cons (lw_int) lws_nil))))))))))))))))) (by simp)⟩, ⟨there hfr hb1, _, hb1, by first | exact lb_same rfl | exact lb_cells (lws_cons (lw_int) (lws_cons (lw_int) (lws_cons (lw_int) (lws_cons (lw_int) (lws_cons (lw_int) lws_nil))))) (by simp), fun κ hκ => lb_cells (lws_cons (lw_int) (lws_cons (lw_int) (lws_cons (lw_int) (lws_cons (lw_int) (lws_cons (lw_int) lws_nil))))) (by simp)⟩, ⟨there hfr hb2, _, hb2, lb_same (by (first | assumption | exact noIds_tab (fun _ => rfl) _ _ | exact noIds_encL (fun _ => rfl) _ | rfl)), fun κ hκ => lb_same (by (first | assumption | exact noIds_tab (fun _ => rfl) _ _ | exact noIds_encL (fun _ => rfl) _ | rfl))⟩, ⟨there hfr hb3, _, hb3, lb_same (by (first | assumption | exact noIds_tab (fun _ => rfl) _ _ | exact noIds_encL (fun _ => rfl) _ | rfl)), fun κ hκ => lb_same (by (first | assumption | exact noIds_tab (fun _ => rfl) _ _ | exact noIds_encL (fun _ => rfl) _ | rfl))⟩, ⟨there hfr hb4, _, hb4, lb_same (by (first | assumption | exact noIds_tab (fun _ => rfl) _ _ | exact noIds_encL (fun _ => rfl) _ | rfl)), fun κ hκ => lb_same (by (first | assumption | exact noIds_tab (fun _ => rfl) _ _ | exact noIds_encL (fun _ => rfl) _ | rfl))⟩, ⟨there hfr hb5, _, hb5, lb_same (by (first | assumption | exact noIds_tab (fun _ => rfl) _ _ | exact noIds_encL (fun _ => rfl) _ | rfl)), fun κ hκ => lb_same (by (first | assumption | exact noIds_tab (fun _ => rfl) _ _ | exact noIds_encL (fun _ => rfl) _ | rfl))⟩, trivial⟩ (by ((repeat refine lws_cons (by (first | exact lw_any | exact lw_int | exact lw_bool | exact lw_ptr rfl | exact lw_slo rfl | exact lw_nilp | exact lw_nils | exact lw_str | exact lw_slo_nils | exact lw_slo_sle | exact lw_sl rfl | exact lw_unb | exact lw_gptr | exact lw_noid rfl | exact lw_cap rfl (Nat.le_refl _) | exact lw_cap rfl (by omega) | assumption | exact lw_tup (by ((repeat refine lws_cons (by (first | exact lw_any | exact lw_int | exact lw_bool | exact lw_ptr rfl | exact lw_slo rfl | exact lw_nilp | exact lw_nils | exact lw_str | exact lw_slo_nils | exact lw_slo_sle | exact lw_sl rfl | exact lw_unb | exact lw_gptr | exact lw_noid rfl | exact lw_cap rfl (Nat.le_refl _) | exact lw_cap rfl (by omega) | assumption)) ?_); exact lws_nil)))) ?_); exact lws_nil)) ?_
                      fun κ h1 h2 => ⟨⟨lb_cells (lws_cons (lw_ptr (h1 1 k rfl)) (lws_cons (lw_int) (lws_cons (lw_int) (lws_cons (lw_slo (h1 2 q rfl)) (lws_cons (lw_slo (h1 3 y rfl)) (lws_cons (lw_slo (h1 4 f rfl)) (lws_cons (lw_slo (h2 0 (by simp))) (lws_cons (lw_int) (lws_cons (lw_bool) (lws_cons (lw_int) (lws_cons (lw_int) (lws_cons (lw_int) (lws_cons (lw_int) (lws_cons (lw_bool) (lws_cons (lw_int) (lws_cons (lw_int) (lws_cons (lw_int) lws_nil))))))))))))))))) (by simp), lb_cells (lws_cons (lw_int) (lws_cons (lw_int) (lws_cons (lw_int) (lws_cons (lw_int) (lws_cons (lw_int) lws_nil))))) (by simp), lb_same (by (first | assumption | exact noIds_tab (fun _ => rfl) _ _ | exact noIds_encL (fun _ => rfl) _ | rfl)), lb_same (by (first | assumption | exact noIds_tab (fun _ => rfl) _ _ | exact noIds_encL (fun _ => rfl) _ | rfl)), lb_same (by (first | assumption | exact noIds_tab (fun _ => rfl) _ _ | exact noIds_encL (fun _ => rfl) _ | rfl)), lb_dead, lb_same (noids_l _), trivial⟩, lw_noid rfl⟩
                    rw [hgl]; exact (by rw [← e3]; exact tell_c me stm nq nc ns nt qc cc sc tc su en bu er lv lh lo ph a now st ve vb vr w v h o d e k1 k2 k4)
                  · cases hg
              · cases hg
            · cases hg
          · cases hg
        · cases hg
      · cases hg
    · cases hg
  · cases hg
end
end Go.Lev
