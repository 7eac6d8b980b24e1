/- stripes of cells -/
import Derived.Test.YtooajpakpmnehaaCW10
import Derived.Test.YtooajpakpmnehaaLc
import Derived.Test.YtooajpakpmnehaaChecked
import Derived.KernelRfl

namespace Go.Lev
open Go.RowKit
set_option linter.unusedVariables false
set_option linter.unusedSimpArgs false
set_option maxRecDepth 100000
noncomputable section
def cxo : Cx := cxl [(67, ofG), (26, ofG)]
abbrev saL : List Nat := [0, 1, 2, 6, 7, 11, 14, 15, 16, 30, 31]
abbrev saT (nl k : Nat) (n w : Int) : List (Nat × LV) := [(1, .int .i64 n), (2, .int .i64 w), (7, .ptr 1 0), (14, .slo 0 0 nl 0), (15, .int .i64 nl), (16, .int .i64 k)]
abbrev saH (ls ms : List LV) : List LB := [.cells ls (some 2), .cells ms none]
theorem wst_a (n w : Int) (nl : Nat) (ls : List LV) (K : Pk) : (xsp Go.Proofs.Try.prog cxo 40 42 (seg (sp Go.Proofs.Try.prog 37) 0 3) (tm0 [.slo 0 0 nl 0, .int .i64 n, .int .i64 w]) (mkS [.cells ls (some 2)]) (vK saL K)) = (
 K .normal [.slo 0 0 nl 0, .int .i64 n, .int .i64 w, .nils, .ptr 1 0, .tup [], .slo 0 0 nl 0, .int .i64 ↑nl, .int .i64 0, .tup [], .tup []] [some (.cells ls (some 2)), some (.cells [.bool false, .bool false, .bool false, .bool false, .bool false, .bool false, .bool false, .bool false, .bool false, .bool false, .bool false, .bool false, .bool false, .bool false, .bool false, .bool false] none)] []) := by kernel_rfl
theorem wst_b (n w : Int) (nl k : Nat) (ls ms : List LV) (K : Pk) : (xcode Go.Proofs.Try.prog cxo 40 42 (loopOf (nthC (sp Go.Proofs.Try.prog 37) 3)) (mkTm 42 (saT nl k n w)) (mkS (saH ls ms)) (vK saL K)) = (
 bif xcm .lss ↑k ↑nl then (
 bif xle (xadd (xnat ↑k) 1) nl then bif xle (xadd (xix 0 (xnat ↑k) 2) 2) (xln ls) then bif isI .i64 (nthD ls (xix 0 (xnat ↑k) 2)) then bif isI .u64 (nthD ls (xadd (xix 0 (xnat ↑k) 2) 1)) then bif xcm .geq (ofV (asI (nthD ls (xix 0 (xnat ↑k) 2))) n w) 0 then (
 bif xnn (ofV (asI (nthD ls (xix 0 (xnat ↑k) 2))) n w) then bif xle (xadd (xnat (ofV (asI (nthD ls (xix 0 (xnat ↑k) 2))) n w)) 1) 16 then bif xle (xadd (xix 0 (xnat (ofV (asI (nthD ls (xix 0 (xnat ↑k) 2))) n w)) 1) 1) (xln ms) then
 K .normal [.any, .int .i64 n, .int .i64 w, .any, .ptr 1 0, .any, .slo 0 0 nl 0, .int .i64 ↑nl, .int .i64 (xar .add .i64 (↑k) 1), .any, .any] [some (.cells ls (some 2)), some (.cells (xlay ms (xix 0 (xnat (ofV (asI (nthD ls (xix 0 (xnat ↑k) 2))) n w)) 1) [.bool true]) none), some (.cells [.int .i64 (asI (nthD ls (xix 0 (xnat ↑k) 2))), .int .u64 (asI (nthD ls (xadd (xix 0 (xnat ↑k) 2) 1)))] none)] [] else False else False else False)
 else (
 K .normal [.any, .int .i64 n, .int .i64 w, .any, .ptr 1 0, .any, .slo 0 0 nl 0, .int .i64 ↑nl, .int .i64 (xar .add .i64 (↑k) 1), .any, .any] [some (.cells ls (some 2)), some (.cells ms none), some (.cells [.int .i64 (asI (nthD ls (xix 0 (xnat ↑k) 2))), .int .u64 (asI (nthD ls (xadd (xix 0 (xnat ↑k) 2) 1)))] none)] []) else False else False else False else False)
 else (
 K (.exit 0) [.any, .int .i64 n, .int .i64 w, .any, .ptr 1 0, .any, .slo 0 0 nl 0, .int .i64 ↑nl, .int .i64 ↑k, .any, .any] [some (.cells ls (some 2)), some (.cells ms none)] [])) := by kernel_rfl
theorem wst_c (n w : Int) (nl k : Nat) (ls ms : List LV) (K : Pk) : (xsp Go.Proofs.Try.prog cxo 40 42 (seg (sp Go.Proofs.Try.prog 37) 4 2) (mkTm 42 (saT nl k n w)) (mkS (saH ls ms)) (vK saL K)) = (
 bif xle 16 (xln ms) then bif isB (nthD ms 0) then bif isB (nthD ms 1) then bif isB (nthD ms 2) then bif isB (nthD ms 3) then bif isB (nthD ms 4) then bif isB (nthD ms 5) then bif isB (nthD ms 6) then bif isB (nthD ms 7) then bif isB (nthD ms 8) then bif isB (nthD ms 9) then bif isB (nthD ms 10) then bif isB (nthD ms 11) then bif isB (nthD ms 12) then bif isB (nthD ms 13) then bif isB (nthD ms 14) then bif isB (nthD ms 15) then
 K .normal [.any, .int .i64 n, .int .i64 w, .any, .ptr 1 0, .nils, .slo 0 0 nl 0, .int .i64 ↑nl, .int .i64 ↑k, .agg [.bool (asB (nthD ms 0)), .bool (asB (nthD ms 1)), .bool (asB (nthD ms 2)), .bool (asB (nthD ms 3)), .bool (asB (nthD ms 4)), .bool (asB (nthD ms 5)), .bool (asB (nthD ms 6)), .bool (asB (nthD ms 7)), .bool (asB (nthD ms 8)), .bool (asB (nthD ms 9)), .bool (asB (nthD ms 10)), .bool (asB (nthD ms 11)), .bool (asB (nthD ms 12)), .bool (asB (nthD ms 13)), .bool (asB (nthD ms 14)), .bool (asB (nthD ms 15))], .int .i64 0] [some (.cells ls (some 2)), some (.cells ms none)] [] else False else False else False else False else False else False else False else False else False else False else False else False else False else False else False else False else False) := by kernel_rfl
abbrev sbT (ms : List LV) (n : Nat) (s : Nat) : List (Nat × LV) := [(11, .slo 1 0 n 0), (30, .agg ms), (31, .int .i64 s)]
abbrev sbH (ls cs : List LV) : List LB := [.cells ls (some 2), .cells cs (some 1)]
theorem wst_d (n s : Nat) (ls ms cs : List LV) (K : Pk) : (xcode Go.Proofs.Try.prog cxo 40 42 (loopOf (nthC (sp Go.Proofs.Try.prog 37) 6)) (mkTm 42 (sbT ms n s)) (mkS (sbH ls cs)) (vK saL K)) = (
 bif xcm .lss (↑s) 16 then (
 bif xle (xadd (xnat ↑s) 1) 16 then bif xle (xadd (xmul (xnat ↑s) 1) 1) (xln ms) then bif isB (nthD ms (xmul (xnat ↑s) 1)) then bif asB (nthD ms (xmul (xnat ↑s) 1)) then (
 bif xle (xadd n 1) 1000000 then bif xle (xadd 0 (xmul n 1)) (xln cs) then
 K .normal [.any, .any, .any, .any, .any, .slo 3 0 (xadd n 1) 0, .any, .any, .any, .agg ms, .int .i64 (xar .add .i64 (↑s) 1)] [some (.cells ls (some 2)), some .dead, some (.cells [.int .i64 ↑s] none), some (.cells (xcat (xcut cs 0 (xmul n 1)) [.int .i64 ↑s]) (some 1))] [] else False else False)
 else (
 K .normal [.any, .any, .any, .any, .any, .slo 1 0 n 0, .any, .any, .any, .agg ms, .int .i64 (xar .add .i64 (↑s) 1)] [some (.cells ls (some 2)), some (.cells cs (some 1))] []) else False else False else False)
 else (
 K (.exit 2) [.any, .any, .any, .any, .any, .slo 1 0 n 0, .any, .any, .any, .agg ms, .int .i64 ↑s] [some (.cells ls (some 2)), some (.cells cs (some 1))] [])) := by kernel_rfl
theorem wst_z (n s : Nat) (ls ms cs : List LV) (K : Pk) : (xsp Go.Proofs.Try.prog cxo 40 42 ((sp Go.Proofs.Try.prog 37).drop 7) (mkTm 42 (sbT ms n s)) (mkS (sbH ls cs)) (vK saL K)) = (
 K .ret [.any, .any, .any, .slo 1 0 n 0, .any, .slo 1 0 n 0, .any, .any, .any, .agg ms, .int .i64 ↑s] [some (.cells ls (some 2)), some (.cells cs (some 1))] []) := by kernel_rfl
abbrev scL : List Nat := [0, 1, 2, 6, 7, 8, 10, 11]
abbrev scT (nl k : Nat) (n w : Int) : List (Nat × LV) := [(0, .slo 0 0 nl 0), (1, .int .i64 n), (2, .int .i64 w), (7, .ptr 1 0), (8, .int .i64 k)]
abbrev sdT (n s : Nat) : List (Nat × LV) := [(7, .ptr 1 0), (10, .slo 2 0 n 0), (11, .int .i64 s)]
abbrev sdH (ls ms cs : List LV) : List LB := [.cells ls (some 2), .cells ms none, .cells cs (some 1)]
theorem rst_a (n w : Int) (nl : Nat) (ls : List LV) (K : Pk) : (xsp Go.Proofs.Try.prog cxo 40 42 (seg (sp Go.Proofs.Try.prog 54) 0 3) (tm0 [.slo 0 0 nl 0, .int .i64 n, .int .i64 w]) (mkS [.cells ls (some 2)]) (vK scL K)) = (
 K .normal [.slo 0 0 nl 0, .int .i64 n, .int .i64 w, .nils, .ptr 1 0, .int .i64 0, .tup [], .tup []] [some (.cells ls (some 2)), some (.cells [.bool false, .bool false, .bool false, .bool false, .bool false, .bool false, .bool false, .bool false, .bool false, .bool false, .bool false, .bool false, .bool false, .bool false, .bool false, .bool false] none)] []) := by kernel_rfl
theorem rst_b (n w : Int) (nl k : Nat) (ls ms : List LV) (K : Pk) : (xcode Go.Proofs.Try.prog cxo 40 42 (loopOf (nthC (sp Go.Proofs.Try.prog 54) 3)) (mkTm 42 (scT nl k n w)) (mkS (saH ls ms)) (vK scL K)) = (
 bif xcm .lss ↑k ↑nl then (
 bif xle (xadd (xnat ↑k) 1) nl then bif xle (xadd (xix 0 (xnat ↑k) 2) 1) (xln ls) then bif isI .i64 (nthD ls (xix 0 (xnat ↑k) 2)) then bif xcm .geq (ofV (asI (nthD ls (xix 0 (xnat ↑k) 2))) n w) 0 then (
 bif xnn (ofV (asI (nthD ls (xix 0 (xnat ↑k) 2))) n w) then bif xle (xadd (xnat (ofV (asI (nthD ls (xix 0 (xnat ↑k) 2))) n w)) 1) 16 then bif xle (xadd (xix 0 (xnat (ofV (asI (nthD ls (xix 0 (xnat ↑k) 2))) n w)) 1) 1) (xln ms) then
 K .normal [.slo 0 0 nl 0, .int .i64 n, .int .i64 w, .any, .ptr 1 0, .int .i64 (xar .add .i64 (↑k) 1), .any, .any] [some (.cells ls (some 2)), some (.cells (xlay ms (xix 0 (xnat (ofV (asI (nthD ls (xix 0 (xnat ↑k) 2))) n w)) 1) [.bool true]) none)] [] else False else False else False)
 else (
 K .normal [.slo 0 0 nl 0, .int .i64 n, .int .i64 w, .any, .ptr 1 0, .int .i64 (xar .add .i64 (↑k) 1), .any, .any] [some (.cells ls (some 2)), some (.cells ms none)] []) else False else False else False)
 else (
 K (.exit 0) [.slo 0 0 nl 0, .int .i64 n, .int .i64 w, .any, .ptr 1 0, .int .i64 ↑k, .any, .any] [some (.cells ls (some 2)), some (.cells ms none)] [])) := by kernel_rfl
theorem rst_c (n w : Int) (nl k : Nat) (ls ms : List LV) (K : Pk) : (xsp Go.Proofs.Try.prog cxo 40 42 (seg (sp Go.Proofs.Try.prog 54) 4 2) (mkTm 42 (scT nl k n w)) (mkS (saH ls ms)) (vK scL K)) = (
 K .normal [.slo 0 0 nl 0, .int .i64 n, .int .i64 w, .any, .ptr 1 0, .int .i64 ↑k, .nils, .int .i64 0] [some (.cells ls (some 2)), some (.cells ms none)] []) := by kernel_rfl
abbrev rst_d_b1 (ls : List LV) (ms : List LV) (cs : List LV) : List (Option LB) := [some (.cells ls (some 2)), some (.cells ms none), some (.cells cs (some 1))]
theorem rst_d (n s : Nat) (ls ms cs : List LV) (K : Pk) : (xcode Go.Proofs.Try.prog cxo 40 42 (loopOf (nthC (sp Go.Proofs.Try.prog 54) 6)) (mkTm 42 (sdT n s)) (mkS (sdH ls ms cs)) (vK scL K)) = (
 bif xcm .lss (↑s) 16 then (
 bif xle (xadd (xnat ↑s) 1) 16 then bif xle (xadd (xix 0 (xnat ↑s) 1) 1) (xln ms) then bif isB (nthD ms (xix 0 (xnat ↑s) 1)) then bif asB (nthD ms (xix 0 (xnat ↑s) 1)) then (
 bif xle (xadd n 1) 1000000 then bif xle (xadd 0 (xmul n 1)) (xln cs) then
 K .normal [.any, .any, .any, .any, .ptr 1 0, .any, .slo 4 0 (xadd n 1) 0, .int .i64 (xar .add .i64 (↑s) 1)] [some (.cells ls (some 2)), some (.cells ms none), some .dead, some (.cells [.int .i64 ↑s] none), some (.cells (xcat (xcut cs 0 (xmul n 1)) [.int .i64 ↑s]) (some 1))] [] else False else False)
 else (
 K .normal [.any, .any, .any, .any, .ptr 1 0, .any, .slo 2 0 n 0, .int .i64 (xar .add .i64 (↑s) 1)] (rst_d_b1 ls ms cs) []) else False else False else False)
 else (
 K (.exit 2) [.any, .any, .any, .any, .ptr 1 0, .any, .slo 2 0 n 0, .int .i64 ↑s] (rst_d_b1 ls ms cs) [])) := by kernel_rfl
theorem rst_z (n s : Nat) (ls ms cs : List LV) (K : Pk) : (xsp Go.Proofs.Try.prog cxo 40 42 ((sp Go.Proofs.Try.prog 54).drop 7) (mkTm 42 (sdT n s)) (mkS (sdH ls ms cs)) (vK scL K)) = (
 K .ret [.any, .any, .any, .slo 2 0 n 0, .ptr 1 0, .any, .slo 2 0 n 0, .int .i64 ↑s] [some (.cells ls (some 2)), some (.cells ms none), some (.cells cs (some 1))] []) := by kernel_rfl
theorem cxo_ok : CtrOk Go.Proofs.Try.prog (ctrOf cxo) := cxl_ok ⟨ofG_ok, ofG_ok', trivial⟩
/-- Which stripes were met among the first k cells. -/
def metR (lg : Nat → Int × Int) (n w : Int) : Nat → Nat → Bool
  | 0 => fun _ => false
  | k + 1 => if 0 ≤ ofV (lg k).1 n w then upd (metR lg n w k) (ofV (lg k).1 n w).toNat true else metR lg n w k
/-- The stripes below s that were met, rising. -/
def gat (m : Nat → Bool) : Nat → List Int
  | 0 => []
  | s + 1 => if m s = true then gat m s ++ [(s : Int)] else gat m s
theorem gat_len (m : Nat → Bool) : ∀ s, (gat m s).length ≤ s
  | 0 => by simp [gat]
  | s + 1 => by have := gat_len m s; rw [gat]; split <;> simp <;> omega
def stN (nl : Nat) (ls : List LV) (n w : Int) : Nat := (gat (metR (decG ls) n w nl) 16).length

def stC (nl : Nat) (ls : List LV) (n w : Int) : List LV := encL (cI .i64) (gat (metR (decG ls) n w nl) 16)

theorem met0 (m : Nat → Bool) : [.bool (m 0), .bool (m 1), .bool (m 2), .bool (m 3), .bool (m 4), .bool (m 5), .bool (m 6), .bool (m 7), .bool (m 8), .bool (m 9), .bool (m 10), .bool (m 11), .bool (m 12), .bool (m 13), .bool (m 14), .bool (m 15)] = tab cB 16 m := by kernel_rfl
theorem met_init : ([.bool false, .bool false, .bool false, .bool false, .bool false, .bool false, .bool false, .bool false, .bool false, .bool false, .bool false, .bool false, .bool false, .bool false, .bool false, .bool false] : List LV) = tab cB 16 (fun _ => false) := met0 (fun _ => false)
theorem wst_ok (n w : Int) (nl : Nat) (ls : List LV) (hl : okC ls nl = true) : SFun Go.Proofs.Try.prog 37 [.slo 0 0 nl 0, .int .i64 n, .int .i64 w] (mkS [.cells ls (some 2)])
    fun l s => l = .slo 1 0 (stN nl ls n w) 0 ∧ s = mkS [.cells ls (some 2), .cells (stC nl ls n w) (some 1)] := by
  refine SFun.mono (SFun.pieces (Q := fun l b => l = .slo 1 0 (stN nl ls n w) 0 ∧ b = [.cells ls (some 2), .cells (stC nl ls n w) (some 1)]) 42 1 saL [6] (by kernel_rfl) rfl rfl rfl ?_) fun l s' ⟨b0, ⟨h1, h2⟩, h3⟩ => ⟨h1, by rw [h3, h2]⟩
  have nl0 := noids_ok hl
  obtain ⟨hls, hnl⟩ := okC_dec hl
  refine SSp.to cxo_ok (n := 40) (g := []) 3 3 rfl (σ := Unit) (fun _ => saT nl 0 n w) (fun _ => saH ls (tab cB 16 (metR (decG ls) n w 0))) (mkS_le (Nat.le_refl _)) (by kernel_rfl) ?_ fun _ => ?_
  · rw [wst_a, met_init]
    exact ⟨rfl, (), [.id 0, .id 1], by (refine ⟨by kernel_rfl, ?_, ?_⟩ <;> repeat first | exact okTms_nil | refine okTms_cons ?_ ?_ | exact okBlks_nil | refine okBlks_cons ?_ ?_ | exact lws_nil | refine lws_cons ?_ ?_ | exact lb_dead | exact zy1 | exact zy2 | exact lb_none | refine zy3 ?_ | exact zy4 | exact lw_any | exact lw_int | exact lw_bool | exact zy5 | exact zy6 | exact lw_nils | exact lw_slo_nils | exact zy7 | exact zy8 | exact zy9 | refine lw_tup ?_ | refine lw_agg ?_ | assumption)⟩
  refine SSp.code_to (g := []) 4 rfl (σ := Unit) (fun _ => saT nl nl n w) (fun _ => saH ls (tab cB 16 (metR (decG ls) n w nl))) (by kernel_rfl) ?_ fun _ => ?_
  · refine SCode.loop_vc cxo_ok (n := 40) 0 (by kernel_rfl) (σ := {k : Nat // k ≤ nl}) (fun k => saT nl k.1 n w) (fun k => saH ls (tab cB 16 (metR (decG ls) n w k.1))) (fun k => nl - k.1) (fun _ => Nat.le_of_ble_eq_true rfl) (fun ⟨k, hk⟩ => ?_) ⟨0, Nat.zero_le _⟩
    dsimp only
    rw [wst_b, wd_lss]
    refine ite_way (fun hkl => ?_) (fun hkl => ?_)
    · simp only [wd_nat, wd_asV, wd_isV, wd_ix, wd_add, wd_mul, wd_ln, Nat.zero_add, Nat.mul_one, wd_isI, wd_asI, wd_isB, wd_asB, wd_nn, cI_tlen, cB_tlen, cII_tlen, decide_true, cond_true, wd_not_t, wd_not_f, wd_and_t, wd_and_f, nth_ok0 hl hkl, nth_ok1 hl hkl, len_ok hl, inc_i64 hkl hnl]
      (repeat (with_reducible refine must (by (first | with_reducible rfl | exact t_le (by omega) | exact t_eq (by omega) | exact t_nn (by omega) | exact t_lss (by omega) | exact t_leq (by omega) | exact t_gtr (by omega) | exact t_geq (by omega) | exact t_eql (by omega) | exact t_neq (by omega) | exact t_z (by omega) | exact wd_not_f | assumption)) ?_))
      rw [xcm_geq]
      refine ite_way (fun h0 => ?_) (fun h0 => ?_)
      · have hlt := ofV_lt (decG ls k).1 n w
        have e : metR (decG ls) n w (k + 1) = upd (metR (decG ls) n w k) (ofV (decG ls k).1 n w).toNat true := by rw [metR, if_pos h0]
        obtain ⟨q, hq⟩ := Int.eq_ofNat_of_zero_le h0
        rw [hq] at hlt e
        have hq16 : q < 16 := by omega
        simp only [wd_nat, wd_asV, wd_isV, wd_ix, wd_add, wd_mul, wd_ln, Nat.zero_add, Nat.mul_one, wd_isI, wd_asI, wd_isB, wd_asB, wd_nn, cI_tlen, cB_tlen, cII_tlen, decide_true, cond_true, wd_not_t, wd_not_f, wd_and_t, wd_and_f, hq, cB_set (metR (decG ls) n w k) true hq16]
        (repeat (with_reducible refine must (by (first | with_reducible rfl | exact t_le (by omega) | exact t_eq (by omega) | exact t_nn (by omega) | exact t_lss (by omega) | exact t_leq (by omega) | exact t_gtr (by omega) | exact t_geq (by omega) | exact t_eql (by omega) | exact t_neq (by omega) | exact t_z (by omega) | exact wd_not_f | assumption)) ?_))
        exact ⟨rfl, ⟨k + 1, hkl⟩, by simp only; omega, [.id 0, .id 1], by simp only [e, Int.toNat_natCast]; (refine ⟨by kernel_rfl, ?_, ?_⟩ <;> repeat first | exact okTms_nil | refine okTms_cons ?_ ?_ | exact okBlks_nil | refine okBlks_cons ?_ ?_ | exact lws_nil | refine lws_cons ?_ ?_ | exact lb_dead | exact zy1 | exact zy2 | exact lb_none | refine zy3 ?_ | exact zy4 | exact lw_any | exact lw_int | exact lw_bool | exact zy5 | exact zy6 | exact lw_nils | exact lw_slo_nils | exact zy7 | exact zy8 | exact zy9 | refine lw_tup ?_ | refine lw_agg ?_ | assumption)⟩
      · have e : metR (decG ls) n w (k + 1) = metR (decG ls) n w k := by rw [metR, if_neg h0]
        exact ⟨rfl, ⟨k + 1, hkl⟩, by simp only; omega, [.id 0, .id 1], by simp only [e]; (refine ⟨by kernel_rfl, ?_, ?_⟩ <;> repeat first | exact okTms_nil | refine okTms_cons ?_ ?_ | exact okBlks_nil | refine okBlks_cons ?_ ?_ | exact lws_nil | refine lws_cons ?_ ?_ | exact lb_dead | exact zy1 | exact zy2 | exact lb_none | refine zy3 ?_ | exact zy4 | exact lw_any | exact lw_int | exact lw_bool | exact zy5 | exact zy6 | exact lw_nils | exact lw_slo_nils | exact zy7 | exact zy8 | exact zy9 | refine lw_tup ?_ | refine lw_agg ?_ | assumption)⟩
    · obtain rfl : k = nl := by omega
      exact ⟨rfl, (), [.id 0, .id 1], by (refine ⟨by kernel_rfl, ?_, ?_⟩ <;> repeat first | exact okTms_nil | refine okTms_cons ?_ ?_ | exact okBlks_nil | refine okBlks_cons ?_ ?_ | exact lws_nil | refine lws_cons ?_ ?_ | exact lb_dead | exact zy1 | exact zy2 | exact lb_none | refine zy3 ?_ | exact zy4 | exact lw_any | exact lw_int | exact lw_bool | exact zy5 | exact zy6 | exact lw_nils | exact lw_slo_nils | exact zy7 | exact zy8 | exact zy9 | refine lw_tup ?_ | refine lw_agg ?_ | assumption)⟩
  refine SSp.to cxo_ok (n := 40) (g := []) 2 6 rfl (σ := Unit) (fun _ => sbT (tab cB 16 (metR (decG ls) n w nl)) 0 0) (fun _ => sbH ls []) (mkS_le (by simp)) (by kernel_rfl) ?_ fun _ => ?_
  · rw [wst_c]
    have hB : ∀ i, i < 16 → nthD (tab cB 16 (metR (decG ls) n w nl)) i = .bool (metR (decG ls) n w nl i) := fun i h => cB_nth _ h
    simp only [hB 0 (by omega), hB 1 (by omega), hB 2 (by omega), hB 3 (by omega), hB 4 (by omega), hB 5 (by omega), hB 6 (by omega), hB 7 (by omega), hB 8 (by omega), hB 9 (by omega), hB 10 (by omega), hB 11 (by omega), hB 12 (by omega), hB 13 (by omega), hB 14 (by omega), hB 15 (by omega), wd_isB, wd_asB, cond_true, met0]
    simp only [wd_nat, wd_asV, wd_isV, wd_ix, wd_add, wd_mul, wd_ln, Nat.zero_add, Nat.mul_one, wd_isI, wd_asI, wd_isB, wd_asB, wd_nn, cI_tlen, cB_tlen, cII_tlen, decide_true, cond_true, wd_not_t, wd_not_f, wd_and_t, wd_and_f]
    (repeat (with_reducible refine must (by (first | with_reducible rfl | exact t_le (by omega) | exact t_eq (by omega) | exact t_nn (by omega) | exact t_lss (by omega) | exact t_leq (by omega) | exact t_gtr (by omega) | exact t_geq (by omega) | exact t_eql (by omega) | exact t_neq (by omega) | exact t_z (by omega) | exact wd_not_f | assumption)) ?_))
    exact ⟨rfl, (), [.id 0, .none], by (refine ⟨by kernel_rfl, ?_, ?_⟩ <;> repeat first | exact okTms_nil | refine okTms_cons ?_ ?_ | exact okBlks_nil | refine okBlks_cons ?_ ?_ | exact lws_nil | refine lws_cons ?_ ?_ | exact lb_dead | exact zy1 | exact zy2 | exact lb_none | refine zy3 ?_ | exact zy4 | exact lw_any | exact lw_int | exact lw_bool | exact zy5 | exact zy6 | exact lw_nils | exact lw_slo_nils | exact zy7 | exact zy8 | exact zy9 | refine lw_tup ?_ | refine lw_agg ?_ | assumption)⟩
  refine SSp.code_to (g := []) 7 rfl (σ := Unit) (fun _ => sbT (tab cB 16 (metR (decG ls) n w nl)) (gat (metR (decG ls) n w nl) 16).length 16) (fun _ => sbH ls (encL (cI .i64) (gat (metR (decG ls) n w nl) 16))) (by kernel_rfl) ?_ fun _ => ?_
  · generalize metR (decG ls) n w nl = m
    refine SCode.loop_vc cxo_ok (n := 40) 2 (by kernel_rfl) (σ := {s : Nat // s ≤ 16}) (fun s => sbT (tab cB 16 m) (gat m s.1).length s.1) (fun s => sbH ls (encL (cI .i64) (gat m s.1))) (fun s => 16 - s.1) (fun _ => Nat.le_of_ble_eq_true rfl) (fun ⟨s, hs⟩ => ?_) ⟨0, Nat.zero_le _⟩
    dsimp only
    have hg := gat_len m s
    have ng := noIds_Ii64 (gat m s)
    rw [wst_d, show (16 : Int) = ((16 : Nat) : Int) from rfl, wd_lss]
    refine ite_way (fun hlt => ?_) (fun hlt => ?_)
    · simp only [wd_nat, wd_asV, wd_isV, wd_ix, wd_add, wd_mul, wd_ln, Nat.zero_add, Nat.mul_one, wd_isI, wd_asI, wd_isB, wd_asB, wd_nn, cI_tlen, cB_tlen, cII_tlen, decide_true, cond_true, wd_not_t, wd_not_f, wd_and_t, wd_and_f, cB_nth m hlt, inc_i64 hlt (by omega), encIi64_len, encIi64_push]
      (repeat (with_reducible refine must (by (first | with_reducible rfl | exact t_le (by omega) | exact t_eq (by omega) | exact t_nn (by omega) | exact t_lss (by omega) | exact t_leq (by omega) | exact t_gtr (by omega) | exact t_geq (by omega) | exact t_eql (by omega) | exact t_neq (by omega) | exact t_z (by omega) | exact wd_not_f | assumption)) ?_))
      refine ways (fun hm => ?_) (fun hm => ?_)
      · have e : gat m (s + 1) = gat m s ++ [(s : Int)] := by rw [gat, if_pos hm]
        have ng' := noIds_Ii64 (gat m s ++ [(s : Int)])
        (repeat (with_reducible refine must (by (first | with_reducible rfl | exact t_le (by omega) | exact t_eq (by omega) | exact t_nn (by omega) | exact t_lss (by omega) | exact t_leq (by omega) | exact t_gtr (by omega) | exact t_geq (by omega) | exact t_eql (by omega) | exact t_neq (by omega) | exact t_z (by omega) | exact wd_not_f | assumption)) ?_))
        exact ⟨rfl, ⟨s + 1, hlt⟩, by simp only; omega, [.id 0, .id 3], by simp only [e, List.length_append, List.length_cons, List.length_nil, Nat.zero_add]; (refine ⟨by kernel_rfl, ?_, ?_⟩ <;> repeat first | exact okTms_nil | refine okTms_cons ?_ ?_ | exact okBlks_nil | refine okBlks_cons ?_ ?_ | exact lws_nil | refine lws_cons ?_ ?_ | exact lb_dead | exact zy1 | exact zy2 | exact lb_none | refine zy3 ?_ | exact zy4 | exact lw_any | exact lw_int | exact lw_bool | exact zy5 | exact zy6 | exact lw_nils | exact lw_slo_nils | exact zy7 | exact zy8 | exact zy9 | refine lw_tup ?_ | refine lw_agg ?_ | assumption)⟩
      · have e : gat m (s + 1) = gat m s := by rw [gat, if_neg (by rw [hm]; exact Bool.false_ne_true)]
        exact ⟨rfl, ⟨s + 1, hlt⟩, by simp only; omega, [.id 0, .id 1], by simp only [e]; (refine ⟨by kernel_rfl, ?_, ?_⟩ <;> repeat first | exact okTms_nil | refine okTms_cons ?_ ?_ | exact okBlks_nil | refine okBlks_cons ?_ ?_ | exact lws_nil | refine lws_cons ?_ ?_ | exact lb_dead | exact zy1 | exact zy2 | exact lb_none | refine zy3 ?_ | exact zy4 | exact lw_any | exact lw_int | exact lw_bool | exact zy5 | exact zy6 | exact lw_nils | exact lw_slo_nils | exact zy7 | exact zy8 | exact zy9 | refine lw_tup ?_ | refine lw_agg ?_ | assumption)⟩
    · obtain rfl : s = 16 := by omega
      exact ⟨rfl, (), [.id 0, .id 1], by (refine ⟨by kernel_rfl, ?_, ?_⟩ <;> repeat first | exact okTms_nil | refine okTms_cons ?_ ?_ | exact okBlks_nil | refine okBlks_cons ?_ ?_ | exact lws_nil | refine lws_cons ?_ ?_ | exact lb_dead | exact zy1 | exact zy2 | exact lb_none | refine zy3 ?_ | exact zy4 | exact lw_any | exact lw_int | exact lw_bool | exact zy5 | exact zy6 | exact lw_nils | exact lw_slo_nils | exact zy7 | exact zy8 | exact zy9 | refine lw_tup ?_ | refine lw_agg ?_ | assumption)⟩
  refine SSp.last cxo_ok (n := 40) (mkS_le (by simp)) ?_
  rw [wst_z]
  have ng := noIds_Ii64 (gat (metR (decG ls) n w nl) 16)
  exact ⟨trivial, rfl, _, _, [.id 0, .id 1], ⟨rfl, rfl⟩, by simp only [stN, stC]; (refine ⟨by kernel_rfl, ?_, ?_⟩ <;> repeat first | exact okTms_nil | refine okTms_cons ?_ ?_ | exact okBlks_nil | refine okBlks_cons ?_ ?_ | exact lws_nil | refine lws_cons ?_ ?_ | exact lb_dead | exact zy1 | exact zy2 | exact lb_none | refine zy3 ?_ | exact zy4 | exact lw_any | exact lw_int | exact lw_bool | exact zy5 | exact zy6 | exact lw_nils | exact lw_slo_nils | exact zy7 | exact zy8 | exact zy9 | refine lw_tup ?_ | refine lw_agg ?_ | assumption)⟩
theorem rst_ok (n w : Int) (nl : Nat) (ls : List LV) (hl : okC ls nl = true) : SFun Go.Proofs.Try.prog 54 [.slo 0 0 nl 0, .int .i64 n, .int .i64 w] (mkS [.cells ls (some 2)])
    fun l s => l = .slo 1 0 (stN nl ls n w) 0 ∧ s = mkS [.cells ls (some 2), .cells (stC nl ls n w) (some 1)] := by
  refine SFun.mono (SFun.pieces (Q := fun l b => l = .slo 1 0 (stN nl ls n w) 0 ∧ b = [.cells ls (some 2), .cells (stC nl ls n w) (some 1)]) 42 1 scL [6] (by kernel_rfl) rfl rfl rfl ?_) fun l s' ⟨b0, ⟨h1, h2⟩, h3⟩ => ⟨h1, by rw [h3, h2]⟩
  have nl0 := noids_ok hl
  obtain ⟨hls, hnl⟩ := okC_dec hl
  refine SSp.to cxo_ok (n := 40) (g := []) 3 3 rfl (σ := Unit) (fun _ => scT nl 0 n w) (fun _ => saH ls (tab cB 16 (metR (decG ls) n w 0))) (mkS_le (Nat.le_refl _)) (by kernel_rfl) ?_ fun _ => ?_
  · rw [rst_a, met_init]
    exact ⟨rfl, (), [.id 0, .id 1], by (refine ⟨by kernel_rfl, ?_, ?_⟩ <;> repeat first | exact okTms_nil | refine okTms_cons ?_ ?_ | exact okBlks_nil | refine okBlks_cons ?_ ?_ | exact lws_nil | refine lws_cons ?_ ?_ | exact lb_dead | exact zy1 | exact zy2 | exact lb_none | refine zy3 ?_ | exact zy4 | exact lw_any | exact lw_int | exact lw_bool | exact zy5 | exact zy6 | exact lw_nils | exact lw_slo_nils | exact zy7 | exact zy8 | exact zy9 | refine lw_tup ?_ | refine lw_agg ?_ | assumption)⟩
  refine SSp.code_to (g := []) 4 rfl (σ := Unit) (fun _ => scT nl nl n w) (fun _ => saH ls (tab cB 16 (metR (decG ls) n w nl))) (by kernel_rfl) ?_ fun _ => ?_
  · refine SCode.loop_vc cxo_ok (n := 40) 0 (by kernel_rfl) (σ := {k : Nat // k ≤ nl}) (fun k => scT nl k.1 n w) (fun k => saH ls (tab cB 16 (metR (decG ls) n w k.1))) (fun k => nl - k.1) (fun _ => Nat.le_of_ble_eq_true rfl) (fun ⟨k, hk⟩ => ?_) ⟨0, Nat.zero_le _⟩
    dsimp only
    rw [rst_b, wd_lss]
    refine ite_way (fun hkl => ?_) (fun hkl => ?_)
    · simp only [wd_nat, wd_asV, wd_isV, wd_ix, wd_add, wd_mul, wd_ln, Nat.zero_add, Nat.mul_one, wd_isI, wd_asI, wd_isB, wd_asB, wd_nn, cI_tlen, cB_tlen, cII_tlen, decide_true, cond_true, wd_not_t, wd_not_f, wd_and_t, wd_and_f, nth_ok0 hl hkl, nth_ok1 hl hkl, len_ok hl, inc_i64 hkl hnl]
      (repeat (with_reducible refine must (by (first | with_reducible rfl | exact t_le (by omega) | exact t_eq (by omega) | exact t_nn (by omega) | exact t_lss (by omega) | exact t_leq (by omega) | exact t_gtr (by omega) | exact t_geq (by omega) | exact t_eql (by omega) | exact t_neq (by omega) | exact t_z (by omega) | exact wd_not_f | assumption)) ?_))
      rw [xcm_geq]
      refine ite_way (fun h0 => ?_) (fun h0 => ?_)
      · have hlt := ofV_lt (decG ls k).1 n w
        have e : metR (decG ls) n w (k + 1) = upd (metR (decG ls) n w k) (ofV (decG ls k).1 n w).toNat true := by rw [metR, if_pos h0]
        obtain ⟨q, hq⟩ := Int.eq_ofNat_of_zero_le h0
        rw [hq] at hlt e
        have hq16 : q < 16 := by omega
        simp only [wd_nat, wd_asV, wd_isV, wd_ix, wd_add, wd_mul, wd_ln, Nat.zero_add, Nat.mul_one, wd_isI, wd_asI, wd_isB, wd_asB, wd_nn, cI_tlen, cB_tlen, cII_tlen, decide_true, cond_true, wd_not_t, wd_not_f, wd_and_t, wd_and_f, hq, cB_set (metR (decG ls) n w k) true hq16]
        (repeat (with_reducible refine must (by (first | with_reducible rfl | exact t_le (by omega) | exact t_eq (by omega) | exact t_nn (by omega) | exact t_lss (by omega) | exact t_leq (by omega) | exact t_gtr (by omega) | exact t_geq (by omega) | exact t_eql (by omega) | exact t_neq (by omega) | exact t_z (by omega) | exact wd_not_f | assumption)) ?_))
        exact ⟨rfl, ⟨k + 1, hkl⟩, by simp only; omega, [.id 0, .id 1], by simp only [e, Int.toNat_natCast]; (refine ⟨by kernel_rfl, ?_, ?_⟩ <;> repeat first | exact okTms_nil | refine okTms_cons ?_ ?_ | exact okBlks_nil | refine okBlks_cons ?_ ?_ | exact lws_nil | refine lws_cons ?_ ?_ | exact lb_dead | exact zy1 | exact zy2 | exact lb_none | refine zy3 ?_ | exact zy4 | exact lw_any | exact lw_int | exact lw_bool | exact zy5 | exact zy6 | exact lw_nils | exact lw_slo_nils | exact zy7 | exact zy8 | exact zy9 | refine lw_tup ?_ | refine lw_agg ?_ | assumption)⟩
      · have e : metR (decG ls) n w (k + 1) = metR (decG ls) n w k := by rw [metR, if_neg h0]
        exact ⟨rfl, ⟨k + 1, hkl⟩, by simp only; omega, [.id 0, .id 1], by simp only [e]; (refine ⟨by kernel_rfl, ?_, ?_⟩ <;> repeat first | exact okTms_nil | refine okTms_cons ?_ ?_ | exact okBlks_nil | refine okBlks_cons ?_ ?_ | exact lws_nil | refine lws_cons ?_ ?_ | exact lb_dead | exact zy1 | exact zy2 | exact lb_none | refine zy3 ?_ | exact zy4 | exact lw_any | exact lw_int | exact lw_bool | exact zy5 | exact zy6 | exact lw_nils | exact lw_slo_nils | exact zy7 | exact zy8 | exact zy9 | refine lw_tup ?_ | refine lw_agg ?_ | assumption)⟩
    · obtain rfl : k = nl := by omega
      exact ⟨rfl, (), [.id 0, .id 1], by (refine ⟨by kernel_rfl, ?_, ?_⟩ <;> repeat first | exact okTms_nil | refine okTms_cons ?_ ?_ | exact okBlks_nil | refine okBlks_cons ?_ ?_ | exact lws_nil | refine lws_cons ?_ ?_ | exact lb_dead | exact zy1 | exact zy2 | exact lb_none | refine zy3 ?_ | exact zy4 | exact lw_any | exact lw_int | exact lw_bool | exact zy5 | exact zy6 | exact lw_nils | exact lw_slo_nils | exact zy7 | exact zy8 | exact zy9 | refine lw_tup ?_ | refine lw_agg ?_ | assumption)⟩
  refine SSp.to cxo_ok (n := 40) (g := []) 2 6 rfl (σ := Unit) (fun _ => sdT 0 0) (fun _ => sdH ls (tab cB 16 (metR (decG ls) n w nl)) []) (mkS_le (by simp)) (by kernel_rfl) ?_ fun _ => ?_
  · rw [rst_c]
    exact ⟨rfl, (), [.id 0, .id 1, .none], by (refine ⟨by kernel_rfl, ?_, ?_⟩ <;> repeat first | exact okTms_nil | refine okTms_cons ?_ ?_ | exact okBlks_nil | refine okBlks_cons ?_ ?_ | exact lws_nil | refine lws_cons ?_ ?_ | exact lb_dead | exact zy1 | exact zy2 | exact lb_none | refine zy3 ?_ | exact zy4 | exact lw_any | exact lw_int | exact lw_bool | exact zy5 | exact zy6 | exact lw_nils | exact lw_slo_nils | exact zy7 | exact zy8 | exact zy9 | refine lw_tup ?_ | refine lw_agg ?_ | assumption)⟩
  refine SSp.code_to (g := []) 7 rfl (σ := Unit) (fun _ => sdT (gat (metR (decG ls) n w nl) 16).length 16) (fun _ => sdH ls (tab cB 16 (metR (decG ls) n w nl)) (encL (cI .i64) (gat (metR (decG ls) n w nl) 16))) (by kernel_rfl) ?_ fun _ => ?_
  · generalize metR (decG ls) n w nl = m
    refine SCode.loop_vc cxo_ok (n := 40) 2 (by kernel_rfl) (σ := {s : Nat // s ≤ 16}) (fun s => sdT (gat m s.1).length s.1) (fun s => sdH ls (tab cB 16 m) (encL (cI .i64) (gat m s.1))) (fun s => 16 - s.1) (fun _ => Nat.le_of_ble_eq_true rfl) (fun ⟨s, hs⟩ => ?_) ⟨0, Nat.zero_le _⟩
    dsimp only
    have hg := gat_len m s
    have ng := noIds_Ii64 (gat m s)
    rw [rst_d, show (16 : Int) = ((16 : Nat) : Int) from rfl, wd_lss]
    refine ite_way (fun hlt => ?_) (fun hlt => ?_)
    · simp only [wd_nat, wd_asV, wd_isV, wd_ix, wd_add, wd_mul, wd_ln, Nat.zero_add, Nat.mul_one, wd_isI, wd_asI, wd_isB, wd_asB, wd_nn, cI_tlen, cB_tlen, cII_tlen, decide_true, cond_true, wd_not_t, wd_not_f, wd_and_t, wd_and_f, cB_nth m hlt, inc_i64 hlt (by omega), encIi64_len, encIi64_push]
      (repeat (with_reducible refine must (by (first | with_reducible rfl | exact t_le (by omega) | exact t_eq (by omega) | exact t_nn (by omega) | exact t_lss (by omega) | exact t_leq (by omega) | exact t_gtr (by omega) | exact t_geq (by omega) | exact t_eql (by omega) | exact t_neq (by omega) | exact t_z (by omega) | exact wd_not_f | assumption)) ?_))
      refine ways (fun hm => ?_) (fun hm => ?_)
      · have e : gat m (s + 1) = gat m s ++ [(s : Int)] := by rw [gat, if_pos hm]
        have ng' := noIds_Ii64 (gat m s ++ [(s : Int)])
        (repeat (with_reducible refine must (by (first | with_reducible rfl | exact t_le (by omega) | exact t_eq (by omega) | exact t_nn (by omega) | exact t_lss (by omega) | exact t_leq (by omega) | exact t_gtr (by omega) | exact t_geq (by omega) | exact t_eql (by omega) | exact t_neq (by omega) | exact t_z (by omega) | exact wd_not_f | assumption)) ?_))
        exact ⟨rfl, ⟨s + 1, hlt⟩, by simp only; omega, [.id 0, .id 1, .id 4], by simp only [e, List.length_append, List.length_cons, List.length_nil, Nat.zero_add]; (refine ⟨by kernel_rfl, ?_, ?_⟩ <;> repeat first | exact okTms_nil | refine okTms_cons ?_ ?_ | exact okBlks_nil | refine okBlks_cons ?_ ?_ | exact lws_nil | refine lws_cons ?_ ?_ | exact lb_dead | exact zy1 | exact zy2 | exact lb_none | refine zy3 ?_ | exact zy4 | exact lw_any | exact lw_int | exact lw_bool | exact zy5 | exact zy6 | exact lw_nils | exact lw_slo_nils | exact zy7 | exact zy8 | exact zy9 | refine lw_tup ?_ | refine lw_agg ?_ | assumption)⟩
      · have e : gat m (s + 1) = gat m s := by rw [gat, if_neg (by rw [hm]; exact Bool.false_ne_true)]
        exact ⟨rfl, ⟨s + 1, hlt⟩, by simp only; omega, [.id 0, .id 1, .id 2], by simp only [e]; (refine ⟨by kernel_rfl, ?_, ?_⟩ <;> repeat first | exact okTms_nil | refine okTms_cons ?_ ?_ | exact okBlks_nil | refine okBlks_cons ?_ ?_ | exact lws_nil | refine lws_cons ?_ ?_ | exact lb_dead | exact zy1 | exact zy2 | exact lb_none | refine zy3 ?_ | exact zy4 | exact lw_any | exact lw_int | exact lw_bool | exact zy5 | exact zy6 | exact lw_nils | exact lw_slo_nils | exact zy7 | exact zy8 | exact zy9 | refine lw_tup ?_ | refine lw_agg ?_ | assumption)⟩
    · obtain rfl : s = 16 := by omega
      exact ⟨rfl, (), [.id 0, .id 1, .id 2], by (refine ⟨by kernel_rfl, ?_, ?_⟩ <;> repeat first | exact okTms_nil | refine okTms_cons ?_ ?_ | exact okBlks_nil | refine okBlks_cons ?_ ?_ | exact lws_nil | refine lws_cons ?_ ?_ | exact lb_dead | exact zy1 | exact zy2 | exact lb_none | refine zy3 ?_ | exact zy4 | exact lw_any | exact lw_int | exact lw_bool | exact zy5 | exact zy6 | exact lw_nils | exact lw_slo_nils | exact zy7 | exact zy8 | exact zy9 | refine lw_tup ?_ | refine lw_agg ?_ | assumption)⟩
  refine SSp.last cxo_ok (n := 40) (mkS_le (by simp)) ?_
  rw [rst_z]
  have ng := noIds_Ii64 (gat (metR (decG ls) n w nl) 16)
  exact ⟨trivial, rfl, _, _, [.id 0, .id 2], ⟨rfl, rfl⟩, by simp only [stN, stC]; (refine ⟨by kernel_rfl, ?_, ?_⟩ <;> repeat first | exact okTms_nil | refine okTms_cons ?_ ?_ | exact okBlks_nil | refine okBlks_cons ?_ ?_ | exact lws_nil | refine lws_cons ?_ ?_ | exact lb_dead | exact zy1 | exact zy2 | exact lb_none | refine zy3 ?_ | exact zy4 | exact lw_any | exact lw_int | exact lw_bool | exact zy5 | exact zy6 | exact lw_nils | exact lw_slo_nils | exact zy7 | exact zy8 | exact zy9 | refine lw_tup ?_ | refine lw_agg ?_ | assumption)⟩
def stG : Gc := fun args s => match args with
  | [.slo b 0 nl 0, .int .i64 n, .int .i64 w] => (match s.h.get b, s.g with
    | some (.cells ls (some 2)), [] => (match s.lay [b] [.cells ls (some 2)] [.cells (stC nl ls n w) (some 1)] with
      | some s' => some ([okC ls nl], .slo s.n 0 (stN nl ls n w) 0, s')
      | none => none)
    | _, _ => none)
  | _ => none
theorem stG_of {f : Nat} (hf : ∀ n w nl ls, okC ls nl = true → SFun Go.Proofs.Try.prog f [.slo 0 0 nl 0, .int .i64 n, .int .i64 w] (mkS [.cells ls (some 2)])
    fun l s => l = .slo 1 0 (stN nl ls n w) 0 ∧ s = mkS [.cells ls (some 2), .cells (stC nl ls n w) (some 1)]) : GOk Go.Proofs.Try.prog f stG := by
  intro args s bs l s' hg hb hfr
  unfold stG at hg
  split at hg
  · rename_i b nl n w
    split at hg
    · rename_i ls hb1 hgl
      split at hg
      · rename_i s1 hs1
        simp only [Option.some.injEq, Prod.mk.injEq] at hg
        obtain ⟨rfl, rfl, rfl⟩ := hg
        have k1 := (allT_cons.1 hb).1
        have no1 := noids_ok k1
        refine SFun.lay (bs := [.cells ls (some 2)]) (bs' := [.cells ls (some 2), .cells (stC nl ls n w) (some 1)]) (args0 := [.slo 0 0 nl 0, .int .i64 n, .int .i64 w]) (v0 := .slo 1 0 (stN nl ls n w) 0) hfr hs1 (by simp)
          ⟨⟨there hfr hb1, _, hb1, by (first | exact lb_dead | exact lb_same (by (first | assumption | exact noIds_tab (fun _ => rfl) _ _ | exact noIds_encL (fun _ => rfl) _ | rfl)) | exact lb_ro (by (first | assumption | exact noIds_tab (fun _ => rfl) _ _ | exact noIds_encL (fun _ => rfl) _ | rfl)) | exact lb_none | exact lb_cells (by ((repeat refine lws_cons (by (first | exact lw_any | exact lw_int | exact lw_bool | exact lw_ptr rfl | exact lw_slo rfl | exact lw_nilp | exact lw_nils | exact lw_str | exact lw_slo_nils | exact lw_slo_sle | exact lw_sl rfl | exact lw_unb | exact lw_gptr | exact lw_noid rfl | exact lw_cap rfl (Nat.le_refl _) | exact lw_cap rfl (by omega) | assumption | exact lw_tup (by ((repeat refine lws_cons (by (first | exact lw_any | exact lw_int | exact lw_bool | exact lw_ptr rfl | exact lw_slo rfl | exact lw_nilp | exact lw_nils | exact lw_str | exact lw_slo_nils | exact lw_slo_sle | exact lw_sl rfl | exact lw_unb | exact lw_gptr | exact lw_noid rfl | exact lw_cap rfl (Nat.le_refl _) | exact lw_cap rfl (by omega) | assumption)) ?_); exact lws_nil)))) ?_); exact lws_nil)) (by simp) | exact lb_iter | exact lb_cap (Nat.le_refl _) (Nat.le_refl _) rfl rfl | exact lb_capn (by assumption) (by (first | assumption | exact noIds_tab (fun _ => rfl) _ _ | exact noIds_encL (fun _ => rfl) _ | rfl)) | assumption), fun κ hκ => by (first | exact lb_dead | exact lb_same (by (first | assumption | exact noIds_tab (fun _ => rfl) _ _ | exact noIds_encL (fun _ => rfl) _ | rfl)) | exact lb_ro (by (first | assumption | exact noIds_tab (fun _ => rfl) _ _ | exact noIds_encL (fun _ => rfl) _ | rfl)) | exact lb_none | exact lb_cells (by ((repeat refine lws_cons (by (first | exact lw_any | exact lw_int | exact lw_bool | exact lw_ptr rfl | exact lw_slo rfl | exact lw_nilp | exact lw_nils | exact lw_str | exact lw_slo_nils | exact lw_slo_sle | exact lw_sl rfl | exact lw_unb | exact lw_gptr | exact lw_noid rfl | exact lw_cap rfl (Nat.le_refl _) | exact lw_cap rfl (by omega) | assumption | exact lw_tup (by ((repeat refine lws_cons (by (first | exact lw_any | exact lw_int | exact lw_bool | exact lw_ptr rfl | exact lw_slo rfl | exact lw_nilp | exact lw_nils | exact lw_str | exact lw_slo_nils | exact lw_slo_sle | exact lw_sl rfl | exact lw_unb | exact lw_gptr | exact lw_noid rfl | exact lw_cap rfl (Nat.le_refl _) | exact lw_cap rfl (by omega) | assumption)) ?_); exact lws_nil)))) ?_); exact lws_nil)) (by simp) | exact lb_iter | exact lb_cap (Nat.le_refl _) (Nat.le_refl _) rfl rfl | exact lb_capn (by assumption) (by (first | assumption | exact noIds_tab (fun _ => rfl) _ _ | exact noIds_encL (fun _ => rfl) _ | rfl)) | assumption)⟩, trivial⟩ (by ((repeat refine lws_cons (by (first | exact lw_any | exact lw_int | exact lw_bool | exact lw_ptr rfl | exact lw_slo rfl | exact lw_nilp | exact lw_nils | exact lw_str | exact lw_slo_nils | exact lw_slo_sle | exact lw_sl rfl | exact lw_unb | exact lw_gptr | exact lw_noid rfl | exact lw_cap rfl (Nat.le_refl _) | exact lw_cap rfl (by omega) | assumption | exact lw_tup (by ((repeat refine lws_cons (by (first | exact lw_any | exact lw_int | exact lw_bool | exact lw_ptr rfl | exact lw_slo rfl | exact lw_nilp | exact lw_nils | exact lw_str | exact lw_slo_nils | exact lw_slo_sle | exact lw_sl rfl | exact lw_unb | exact lw_gptr | exact lw_noid rfl | exact lw_cap rfl (Nat.le_refl _) | exact lw_cap rfl (by omega) | assumption)) ?_); exact lws_nil)))) ?_); exact lws_nil)) ?_ fun κ h1 h2 => ⟨⟨lb_same no1, lb_same (noIds_Ii64 _), trivial⟩, lw_slo (h2 0 Nat.one_pos)⟩
        rw [hgl]
        exact hf n w nl ls k1
      · cases hg
    · cases hg
  · cases hg
theorem wstG_ok : GOk Go.Proofs.Try.prog 37 stG := stG_of wst_ok
theorem rstG_ok : GOk Go.Proofs.Try.prog 54 stG := stG_of rst_ok
end
end Go.Lev
