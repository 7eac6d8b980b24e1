/- contracts of writes: Same, Take -/
import Derived.Test.YtfigockmbphnfaaCW0
import Derived.Test.YtfigockmbphnfaaCW4
import Derived.Test.YtfigockmbphnfaaLc
import Derived.Test.YtfigockmbphnfaaChecked
import Derived.KernelRfl

namespace Go.Lev
open Go.RowKit
set_option linter.unusedVariables false
set_option linter.unusedSimpArgs false
set_option maxRecDepth 100000
noncomputable section
abbrev sT (n m k : Nat) : List (Nat × LV) := [(0, .slo 0 0 n 0), (1, .slo 1 0 m 0), (5, .int .i64 k)]
abbrev sH (cs ds : List LV) : List LB := [.cells cs (some 2), .cells ds (some 2)]
abbrev sL : List Nat := [0, 1, 4, 5]
theorem same_a (n m : Nat) (cs ds : List LV) (K : Pk) : (xsp Go.Proofs.Try.prog (fun _ => none) 40 26 (seg (sp Go.Proofs.Try.prog 24) 0 4) (tm0 [.slo 0 0 n 0, .slo 1 0 m 0]) (mkS (sH cs ds)) (vK sL K)) = (
  bif xcm .neq ↑n ↑m then (
   K .ret [.slo 0 0 n 0, .slo 1 0 m 0, .bool false, .tup []] [some (.cells cs (some 2)), some (.cells ds (some 2))] [])
  else (
   K .normal [.slo 0 0 n 0, .slo 1 0 m 0, .bool false, .int .i64 0] [some (.cells cs (some 2)), some (.cells ds (some 2))] [])) := by kernel_rfl
theorem same_b (n m k : Nat) (cs ds : List LV) (K : Pk) : (xcode Go.Proofs.Try.prog (fun _ => none) 40 26 (loopOf (nthC (sp Go.Proofs.Try.prog 24) 4)) (mkTm 26 (sT n m k)) (mkS (sH cs ds)) (vK sL K)) = (
  bif xcm .lss ↑k ↑n then (
   bif xle (xadd (xnat ↑k) 1) n then
   bif xle (xadd (xix 0 (xnat ↑k) 2) 2) (xln cs) then
   bif isI .i64 (nthD cs (xix 0 (xnat ↑k) 2)) then
   bif isI .u64 (nthD cs (xadd (xix 0 (xnat ↑k) 2) 1)) then
   bif xle (xadd (xnat ↑k) 1) m then
   bif xle (xadd (xix 0 (xnat ↑k) 2) 2) (xln ds) then
   bif isI .i64 (nthD ds (xix 0 (xnat ↑k) 2)) then
   bif isI .u64 (nthD ds (xadd (xix 0 (xnat ↑k) 2) 1)) then
   bif xnot (xand (xcm .eql (asI (nthD cs (xix 0 (xnat ↑k) 2))) (asI (nthD ds (xix 0 (xnat ↑k) 2)))) (xand (xcm .eql (asI (nthD cs (xadd (xix 0 (xnat ↑k) 2) 1))) (asI (nthD ds (xadd (xix 0 (xnat ↑k) 2) 1)))) true)) then (
    K .ret [.slo 0 0 n 0, .slo 1 0 m 0, .bool false, .int .i64 ↑k] [some (.cells cs (some 2)), some (.cells ds (some 2))] [])
   else (
    K .normal [.slo 0 0 n 0, .slo 1 0 m 0, .any, .int .i64 (xar .add .i64 (↑k) 1)] [some (.cells cs (some 2)), some (.cells ds (some 2))] [])
   else False
   else False
   else False
   else False
   else False
   else False
   else False
   else False)
  else (
   K (.exit 0) [.slo 0 0 n 0, .slo 1 0 m 0, .any, .int .i64 ↑k] [some (.cells cs (some 2)), some (.cells ds (some 2))] [])) := by kernel_rfl
theorem same_z (cs ds : List LV) (K : Pk) : (xsp Go.Proofs.Try.prog (fun _ => none) 40 26 ((sp Go.Proofs.Try.prog 24).drop 5) (mkTm 26 []) (mkS (sH cs ds)) (vK sL K)) = (
  K .ret [.any, .any, .bool true, .any] [some (.cells cs (some 2)), some (.cells ds (some 2))] []) := by kernel_rfl
open Classical in
def sameW (n m : Nat) (cs ds : List LV) : Bool := @decide (n = m ∧ cs = ds) (Classical.propDecidable _)

theorem same_ok (n m : Nat) (g h : Nat → Int × Int) (hn : n ≤ 9223372036854775807) (hm : m ≤ 9223372036854775807) : SFun Go.Proofs.Try.prog 24 [.slo 0 0 n 0, .slo 1 0 m 0] (mkS (sH (tab cell n g) (tab cell m h)))
    fun l s => l = .bool (sameW n m (tab cell n g) (tab cell m h)) ∧ s = mkS (sH (tab cell n g) (tab cell m h)) := by
  refine SFun.mono (SFun.pieces (Q := fun l b => l = .bool (sameW n m (tab cell n g) (tab cell m h)) ∧ b = sH (tab cell n g) (tab cell m h)) 26 2 sL [4] (by kernel_rfl) rfl rfl rfl ?_) fun l s' ⟨b0, ⟨h1, h2⟩, h3⟩ => ⟨h1, by rw [h3, h2]⟩
  have no : ∀ {p : Prop}, (¬ p) → (p ↔ (n = m ∧ tab cell n g = tab cell m h)) → sameW n m (tab cell n g) (tab cell m h) = false := fun h1 h2 => by simp only [sameW, decide_eq_false_iff_not]; exact fun e => h1 (h2.2 e)
  refine SSp.to noCx_ok (n := 40) (g := []) 4 4 rfl (σ := {_k : Unit // n = m}) (fun _ => sT n m 0) (fun _ => sH (tab cell n g) (tab cell m h)) (mkS_le (Nat.le_refl _)) (by kernel_rfl) ?_ fun ⟨_, hnm⟩ => ?_
  · rw [same_a, wd_neq]
    by_cases e : n = m
    · simp only [e, decide_true, Bool.not_true, cond_false]
      exact ⟨rfl, ⟨(), e⟩, [.id 0, .id 1], by subst e; (exact ⟨by kernel_rfl, by ((repeat refine okTms_cons (by (first | exact lw_any | exact lw_int | exact lw_bool | exact lw_ptr rfl | exact lw_slo rfl | exact lw_nilp | exact lw_nils | exact lw_str | exact lw_slo_nils | exact lw_slo_sle | exact lw_sl rfl | exact lw_unb | exact lw_gptr | exact lw_noid rfl | exact lw_cap rfl (Nat.le_refl _) | exact lw_cap rfl (by omega) | assumption | exact lw_tup (by ((repeat refine lws_cons (by (first | exact lw_any | exact lw_int | exact lw_bool | exact lw_ptr rfl | exact lw_slo rfl | exact lw_nilp | exact lw_nils | exact lw_str | exact lw_slo_nils | exact lw_slo_sle | exact lw_sl rfl | exact lw_unb | exact lw_gptr | exact lw_noid rfl | exact lw_cap rfl (Nat.le_refl _) | exact lw_cap rfl (by omega) | assumption)) ?_); exact lws_nil)))) ?_); exact okTms_nil), by ((repeat refine okBlks_cons (by (first | exact lb_dead | exact lb_same (by (first | assumption | exact noIds_tab (fun _ => rfl) _ _ | exact noIds_encL (fun _ => rfl) _ | rfl)) | exact lb_ro (by (first | assumption | exact noIds_tab (fun _ => rfl) _ _ | exact noIds_encL (fun _ => rfl) _ | rfl)) | exact lb_none | exact lb_cells (by ((repeat refine lws_cons (by (first | exact lw_any | exact lw_int | exact lw_bool | exact lw_ptr rfl | exact lw_slo rfl | exact lw_nilp | exact lw_nils | exact lw_str | exact lw_slo_nils | exact lw_slo_sle | exact lw_sl rfl | exact lw_unb | exact lw_gptr | exact lw_noid rfl | exact lw_cap rfl (Nat.le_refl _) | exact lw_cap rfl (by omega) | assumption | exact lw_tup (by ((repeat refine lws_cons (by (first | exact lw_any | exact lw_int | exact lw_bool | exact lw_ptr rfl | exact lw_slo rfl | exact lw_nilp | exact lw_nils | exact lw_str | exact lw_slo_nils | exact lw_slo_sle | exact lw_sl rfl | exact lw_unb | exact lw_gptr | exact lw_noid rfl | exact lw_cap rfl (Nat.le_refl _) | exact lw_cap rfl (by omega) | assumption)) ?_); exact lws_nil)))) ?_); exact lws_nil)) (by simp) | exact lb_iter | exact lb_cap (Nat.le_refl _) (Nat.le_refl _) rfl rfl | exact lb_capn (by assumption) (by (first | assumption | exact noIds_tab (fun _ => rfl) _ _ | exact noIds_encL (fun _ => rfl) _ | rfl)) | assumption)) ?_); exact okBlks_nil)⟩)⟩
    · simp only [e, decide_false, Bool.not_false, cond_true]
      have hs : sameW n m (tab cell n g) (tab cell m h) = false := by simp only [sameW, decide_eq_false_iff_not]; exact fun k => e k.1
      exact ⟨trivial, rfl, _, _, [.id 0, .id 1], ⟨rfl, rfl⟩, by rw [hs]; (exact ⟨by kernel_rfl, by ((repeat refine okTms_cons (by (first | exact lw_any | exact lw_int | exact lw_bool | exact lw_ptr rfl | exact lw_slo rfl | exact lw_nilp | exact lw_nils | exact lw_str | exact lw_slo_nils | exact lw_slo_sle | exact lw_sl rfl | exact lw_unb | exact lw_gptr | exact lw_noid rfl | exact lw_cap rfl (Nat.le_refl _) | exact lw_cap rfl (by omega) | assumption | exact lw_tup (by ((repeat refine lws_cons (by (first | exact lw_any | exact lw_int | exact lw_bool | exact lw_ptr rfl | exact lw_slo rfl | exact lw_nilp | exact lw_nils | exact lw_str | exact lw_slo_nils | exact lw_slo_sle | exact lw_sl rfl | exact lw_unb | exact lw_gptr | exact lw_noid rfl | exact lw_cap rfl (Nat.le_refl _) | exact lw_cap rfl (by omega) | assumption)) ?_); exact lws_nil)))) ?_); exact okTms_nil), by ((repeat refine okBlks_cons (by (first | exact lb_dead | exact lb_same (by (first | assumption | exact noIds_tab (fun _ => rfl) _ _ | exact noIds_encL (fun _ => rfl) _ | rfl)) | exact lb_ro (by (first | assumption | exact noIds_tab (fun _ => rfl) _ _ | exact noIds_encL (fun _ => rfl) _ | rfl)) | exact lb_none | exact lb_cells (by ((repeat refine lws_cons (by (first | exact lw_any | exact lw_int | exact lw_bool | exact lw_ptr rfl | exact lw_slo rfl | exact lw_nilp | exact lw_nils | exact lw_str | exact lw_slo_nils | exact lw_slo_sle | exact lw_sl rfl | exact lw_unb | exact lw_gptr | exact lw_noid rfl | exact lw_cap rfl (Nat.le_refl _) | exact lw_cap rfl (by omega) | assumption | exact lw_tup (by ((repeat refine lws_cons (by (first | exact lw_any | exact lw_int | exact lw_bool | exact lw_ptr rfl | exact lw_slo rfl | exact lw_nilp | exact lw_nils | exact lw_str | exact lw_slo_nils | exact lw_slo_sle | exact lw_sl rfl | exact lw_unb | exact lw_gptr | exact lw_noid rfl | exact lw_cap rfl (Nat.le_refl _) | exact lw_cap rfl (by omega) | assumption)) ?_); exact lws_nil)))) ?_); exact lws_nil)) (by simp) | exact lb_iter | exact lb_cap (Nat.le_refl _) (Nat.le_refl _) rfl rfl | exact lb_capn (by assumption) (by (first | assumption | exact noIds_tab (fun _ => rfl) _ _ | exact noIds_encL (fun _ => rfl) _ | rfl)) | assumption)) ?_); exact okBlks_nil)⟩)⟩
  subst hnm
  refine SSp.code_to (g := []) 5 rfl (σ := {_k : Unit // ∀ i, i < n → g i = h i}) (fun _ => []) (fun _ => sH (tab cell n g) (tab cell n h)) (by kernel_rfl) ?_ fun ⟨_, hall⟩ => ?_
  · refine SCode.loop_vc noCx_ok (n := 40) 0 (by kernel_rfl) (σ := {k : Nat // k ≤ n ∧ ∀ i, i < k → g i = h i}) (fun k => sT n n k.1) (fun _ => sH (tab cell n g) (tab cell n h)) (fun k => n - k.1) (fun _ => Nat.le_refl _) (fun ⟨k, hk, hall⟩ => ?_) ⟨0, Nat.zero_le _, fun i hi => absurd hi (by omega)⟩
    rw [same_b, wd_lss]
    refine ite_way (fun h0 => ?_) (fun h0 => ⟨rfl, ⟨(), fun i hi => hall i (by have h0 : ¬ k < n := h0; omega)⟩, [.id 0, .id 1], by (exact ⟨by kernel_rfl, by ((repeat refine okTms_cons (by (first | exact lw_any | exact lw_int | exact lw_bool | exact lw_ptr rfl | exact lw_slo rfl | exact lw_nilp | exact lw_nils | exact lw_str | exact lw_slo_nils | exact lw_slo_sle | exact lw_sl rfl | exact lw_unb | exact lw_gptr | exact lw_noid rfl | exact lw_cap rfl (Nat.le_refl _) | exact lw_cap rfl (by omega) | assumption | exact lw_tup (by ((repeat refine lws_cons (by (first | exact lw_any | exact lw_int | exact lw_bool | exact lw_ptr rfl | exact lw_slo rfl | exact lw_nilp | exact lw_nils | exact lw_str | exact lw_slo_nils | exact lw_slo_sle | exact lw_sl rfl | exact lw_unb | exact lw_gptr | exact lw_noid rfl | exact lw_cap rfl (Nat.le_refl _) | exact lw_cap rfl (by omega) | assumption)) ?_); exact lws_nil)))) ?_); exact okTms_nil), by ((repeat refine okBlks_cons (by (first | exact lb_dead | exact lb_same (by (first | assumption | exact noIds_tab (fun _ => rfl) _ _ | exact noIds_encL (fun _ => rfl) _ | rfl)) | exact lb_ro (by (first | assumption | exact noIds_tab (fun _ => rfl) _ _ | exact noIds_encL (fun _ => rfl) _ | rfl)) | exact lb_none | exact lb_cells (by ((repeat refine lws_cons (by (first | exact lw_any | exact lw_int | exact lw_bool | exact lw_ptr rfl | exact lw_slo rfl | exact lw_nilp | exact lw_nils | exact lw_str | exact lw_slo_nils | exact lw_slo_sle | exact lw_sl rfl | exact lw_unb | exact lw_gptr | exact lw_noid rfl | exact lw_cap rfl (Nat.le_refl _) | exact lw_cap rfl (by omega) | assumption | exact lw_tup (by ((repeat refine lws_cons (by (first | exact lw_any | exact lw_int | exact lw_bool | exact lw_ptr rfl | exact lw_slo rfl | exact lw_nilp | exact lw_nils | exact lw_str | exact lw_slo_nils | exact lw_slo_sle | exact lw_sl rfl | exact lw_unb | exact lw_gptr | exact lw_noid rfl | exact lw_cap rfl (Nat.le_refl _) | exact lw_cap rfl (by omega) | assumption)) ?_); exact lws_nil)))) ?_); exact lws_nil)) (by simp) | exact lb_iter | exact lb_cap (Nat.le_refl _) (Nat.le_refl _) rfl rfl | exact lb_capn (by assumption) (by (first | assumption | exact noIds_tab (fun _ => rfl) _ _ | exact noIds_encL (fun _ => rfl) _ | rfl)) | assumption)) ?_); exact okBlks_nil)⟩)⟩)
    have h0 : k < n := h0
    simp only [wd_nat, wd_asV, wd_isV, wd_ix, wd_add, wd_mul, wd_ln, Nat.zero_add, Nat.mul_one, wd_isI, wd_asI, wd_isB, wd_asB, wd_nn, cI_tlen, cB_tlen, cII_tlen, decide_true, cond_true, wd_not_t, wd_not_f, wd_and_t, wd_and_f, cII_nth0 .i64 .u64 g h0, cII_nth1 .i64 .u64 g h0, cII_nth0 .i64 .u64 h h0, cII_nth1 .i64 .u64 h h0, inc_i64 h0 hn, xcm_eql]
    (repeat (with_reducible refine must (by (first | with_reducible rfl | exact t_le (by omega) | exact t_eq (by omega) | exact t_nn (by omega) | exact t_lss (by omega) | exact t_leq (by omega) | exact t_gtr (by omega) | exact t_geq (by omega) | exact t_eql (by omega) | exact t_neq (by omega) | exact t_z (by omega) | exact wd_not_f | assumption)) ?_))
    by_cases e : g k = h k
    · simp only [e, decide_true, wd_and_t, wd_not_t, cond_false]
      exact ⟨rfl, ⟨k + 1, h0, fun i hi => by rcases Nat.lt_succ_iff_lt_or_eq.1 hi with hi | rfl; exact hall i hi; exact e⟩, by simp only; omega, [.id 0, .id 1], by (exact ⟨by kernel_rfl, by ((repeat refine okTms_cons (by (first | exact lw_any | exact lw_int | exact lw_bool | exact lw_ptr rfl | exact lw_slo rfl | exact lw_nilp | exact lw_nils | exact lw_str | exact lw_slo_nils | exact lw_slo_sle | exact lw_sl rfl | exact lw_unb | exact lw_gptr | exact lw_noid rfl | exact lw_cap rfl (Nat.le_refl _) | exact lw_cap rfl (by omega) | assumption | exact lw_tup (by ((repeat refine lws_cons (by (first | exact lw_any | exact lw_int | exact lw_bool | exact lw_ptr rfl | exact lw_slo rfl | exact lw_nilp | exact lw_nils | exact lw_str | exact lw_slo_nils | exact lw_slo_sle | exact lw_sl rfl | exact lw_unb | exact lw_gptr | exact lw_noid rfl | exact lw_cap rfl (Nat.le_refl _) | exact lw_cap rfl (by omega) | assumption)) ?_); exact lws_nil)))) ?_); exact okTms_nil), by ((repeat refine okBlks_cons (by (first | exact lb_dead | exact lb_same (by (first | assumption | exact noIds_tab (fun _ => rfl) _ _ | exact noIds_encL (fun _ => rfl) _ | rfl)) | exact lb_ro (by (first | assumption | exact noIds_tab (fun _ => rfl) _ _ | exact noIds_encL (fun _ => rfl) _ | rfl)) | exact lb_none | exact lb_cells (by ((repeat refine lws_cons (by (first | exact lw_any | exact lw_int | exact lw_bool | exact lw_ptr rfl | exact lw_slo rfl | exact lw_nilp | exact lw_nils | exact lw_str | exact lw_slo_nils | exact lw_slo_sle | exact lw_sl rfl | exact lw_unb | exact lw_gptr | exact lw_noid rfl | exact lw_cap rfl (Nat.le_refl _) | exact lw_cap rfl (by omega) | assumption | exact lw_tup (by ((repeat refine lws_cons (by (first | exact lw_any | exact lw_int | exact lw_bool | exact lw_ptr rfl | exact lw_slo rfl | exact lw_nilp | exact lw_nils | exact lw_str | exact lw_slo_nils | exact lw_slo_sle | exact lw_sl rfl | exact lw_unb | exact lw_gptr | exact lw_noid rfl | exact lw_cap rfl (Nat.le_refl _) | exact lw_cap rfl (by omega) | assumption)) ?_); exact lws_nil)))) ?_); exact lws_nil)) (by simp) | exact lb_iter | exact lb_cap (Nat.le_refl _) (Nat.le_refl _) rfl rfl | exact lb_capn (by assumption) (by (first | assumption | exact noIds_tab (fun _ => rfl) _ _ | exact noIds_encL (fun _ => rfl) _ | rfl)) | assumption)) ?_); exact okBlks_nil)⟩)⟩
    · have hs : sameW n n (tab cell n g) (tab cell n h) = false := by
        simp only [sameW, decide_eq_false_iff_not]
        intro q
        have e0 := cII_nth0 .i64 .u64 g h0
        have e1 := cII_nth1 .i64 .u64 g h0
        rw [q.2, cII_nth0 .i64 .u64 h h0] at e0
        rw [q.2, cII_nth1 .i64 .u64 h h0] at e1
        simp only [LV.int.injEq, true_and] at e0 e1
        exact e (Prod.ext e0.symm e1.symm)
      have ht : xnot (xand (decide ((g k).1 = (h k).1)) (xand (decide ((g k).2 = (h k).2)) true)) = true := by
        by_cases e1 : (g k).1 = (h k).1
        · have e2 : (g k).2 ≠ (h k).2 := fun e2 => e (Prod.ext e1 e2)
          simp only [e1, e2, decide_true, decide_false]; rfl
        · simp only [e1, decide_false]; rfl
      rw [ht, cond_true]
      exact ⟨trivial, rfl, _, _, [.id 0, .id 1], ⟨rfl, rfl⟩, by rw [hs]; (exact ⟨by kernel_rfl, by ((repeat refine okTms_cons (by (first | exact lw_any | exact lw_int | exact lw_bool | exact lw_ptr rfl | exact lw_slo rfl | exact lw_nilp | exact lw_nils | exact lw_str | exact lw_slo_nils | exact lw_slo_sle | exact lw_sl rfl | exact lw_unb | exact lw_gptr | exact lw_noid rfl | exact lw_cap rfl (Nat.le_refl _) | exact lw_cap rfl (by omega) | assumption | exact lw_tup (by ((repeat refine lws_cons (by (first | exact lw_any | exact lw_int | exact lw_bool | exact lw_ptr rfl | exact lw_slo rfl | exact lw_nilp | exact lw_nils | exact lw_str | exact lw_slo_nils | exact lw_slo_sle | exact lw_sl rfl | exact lw_unb | exact lw_gptr | exact lw_noid rfl | exact lw_cap rfl (Nat.le_refl _) | exact lw_cap rfl (by omega) | assumption)) ?_); exact lws_nil)))) ?_); exact okTms_nil), by ((repeat refine okBlks_cons (by (first | exact lb_dead | exact lb_same (by (first | assumption | exact noIds_tab (fun _ => rfl) _ _ | exact noIds_encL (fun _ => rfl) _ | rfl)) | exact lb_ro (by (first | assumption | exact noIds_tab (fun _ => rfl) _ _ | exact noIds_encL (fun _ => rfl) _ | rfl)) | exact lb_none | exact lb_cells (by ((repeat refine lws_cons (by (first | exact lw_any | exact lw_int | exact lw_bool | exact lw_ptr rfl | exact lw_slo rfl | exact lw_nilp | exact lw_nils | exact lw_str | exact lw_slo_nils | exact lw_slo_sle | exact lw_sl rfl | exact lw_unb | exact lw_gptr | exact lw_noid rfl | exact lw_cap rfl (Nat.le_refl _) | exact lw_cap rfl (by omega) | assumption | exact lw_tup (by ((repeat refine lws_cons (by (first | exact lw_any | exact lw_int | exact lw_bool | exact lw_ptr rfl | exact lw_slo rfl | exact lw_nilp | exact lw_nils | exact lw_str | exact lw_slo_nils | exact lw_slo_sle | exact lw_sl rfl | exact lw_unb | exact lw_gptr | exact lw_noid rfl | exact lw_cap rfl (Nat.le_refl _) | exact lw_cap rfl (by omega) | assumption)) ?_); exact lws_nil)))) ?_); exact lws_nil)) (by simp) | exact lb_iter | exact lb_cap (Nat.le_refl _) (Nat.le_refl _) rfl rfl | exact lb_capn (by assumption) (by (first | assumption | exact noIds_tab (fun _ => rfl) _ _ | exact noIds_encL (fun _ => rfl) _ | rfl)) | assumption)) ?_); exact okBlks_nil)⟩)⟩
  refine SSp.last noCx_ok (n := 40) (mkS_le (Nat.le_refl _)) ?_
  rw [same_z]
  have hs : sameW n n (tab cell n g) (tab cell n h) = true := by
    simp only [sameW, decide_eq_true_eq]; exact ⟨trivial, tab_congr hall⟩
  exact ⟨trivial, rfl, _, _, [.id 0, .id 1], ⟨rfl, rfl⟩, by rw [hs]; (exact ⟨by kernel_rfl, by ((repeat refine okTms_cons (by (first | exact lw_any | exact lw_int | exact lw_bool | exact lw_ptr rfl | exact lw_slo rfl | exact lw_nilp | exact lw_nils | exact lw_str | exact lw_slo_nils | exact lw_slo_sle | exact lw_sl rfl | exact lw_unb | exact lw_gptr | exact lw_noid rfl | exact lw_cap rfl (Nat.le_refl _) | exact lw_cap rfl (by omega) | assumption | exact lw_tup (by ((repeat refine lws_cons (by (first | exact lw_any | exact lw_int | exact lw_bool | exact lw_ptr rfl | exact lw_slo rfl | exact lw_nilp | exact lw_nils | exact lw_str | exact lw_slo_nils | exact lw_slo_sle | exact lw_sl rfl | exact lw_unb | exact lw_gptr | exact lw_noid rfl | exact lw_cap rfl (Nat.le_refl _) | exact lw_cap rfl (by omega) | assumption)) ?_); exact lws_nil)))) ?_); exact okTms_nil), by ((repeat refine okBlks_cons (by (first | exact lb_dead | exact lb_same (by (first | assumption | exact noIds_tab (fun _ => rfl) _ _ | exact noIds_encL (fun _ => rfl) _ | rfl)) | exact lb_ro (by (first | assumption | exact noIds_tab (fun _ => rfl) _ _ | exact noIds_encL (fun _ => rfl) _ | rfl)) | exact lb_none | exact lb_cells (by ((repeat refine lws_cons (by (first | exact lw_any | exact lw_int | exact lw_bool | exact lw_ptr rfl | exact lw_slo rfl | exact lw_nilp | exact lw_nils | exact lw_str | exact lw_slo_nils | exact lw_slo_sle | exact lw_sl rfl | exact lw_unb | exact lw_gptr | exact lw_noid rfl | exact lw_cap rfl (Nat.le_refl _) | exact lw_cap rfl (by omega) | assumption | exact lw_tup (by ((repeat refine lws_cons (by (first | exact lw_any | exact lw_int | exact lw_bool | exact lw_ptr rfl | exact lw_slo rfl | exact lw_nilp | exact lw_nils | exact lw_str | exact lw_slo_nils | exact lw_slo_sle | exact lw_sl rfl | exact lw_unb | exact lw_gptr | exact lw_noid rfl | exact lw_cap rfl (Nat.le_refl _) | exact lw_cap rfl (by omega) | assumption)) ?_); exact lws_nil)))) ?_); exact lws_nil)) (by simp) | exact lb_iter | exact lb_cap (Nat.le_refl _) (Nat.le_refl _) rfl rfl | exact lb_capn (by assumption) (by (first | assumption | exact noIds_tab (fun _ => rfl) _ _ | exact noIds_encL (fun _ => rfl) _ | rfl)) | assumption)) ?_); exact okBlks_nil)⟩)⟩
def sameG : Gc := fun args s => match args with
  | [.slo b 0 n 0, .slo c 0 m 0] => (match s.h.get b, s.h.get c, s.g with
    | some (.cells cs (some 2)), some (.cells ds (some 2)), [] => cond (Nat.beq b c) none (some ([okC cs n, okC ds m], .bool (sameW n m cs ds), s))
    | _, _, _ => none)
  | _ => none
theorem sameG_ok : GOk Go.Proofs.Try.prog 24 sameG := by
  intro args s bs l s' hg hb hfr
  unfold sameG at hg
  split at hg
  · rename_i b n c m
    split at hg
    · rename_i cs ds hb1 hc1 hgl
      cases hbc : Nat.beq b c with
      | true => rw [hbc] at hg; cases hg
      | false =>
        rw [hbc] at hg
        simp only [cond_false, Option.some.injEq, Prod.mk.injEq] at hg
        obtain ⟨rfl, rfl, rfl⟩ := hg
        obtain ⟨k1, k2⟩ := allT_cons.1 hb
        obtain ⟨c1, h1⟩ := okC_dec k1
        obtain ⟨c2, h2⟩ := okC_dec (allT_cons.1 k2).1
        have no1 : noIds cs = true := by rw [c1]; exact noIds_cII _ _ _ _
        have no2 : noIds ds = true := by rw [c2]; exact noIds_cII _ _ _ _
        refine SFun.lift_ro (ρ := [b, c]) (bs := sH cs ds) (args0 := [.slo 0 0 n 0, .slo 1 0 m 0]) hfr (by simp [beq_ne hbc]) ⟨⟨there hfr hb1, _, hb1, by (first | exact lb_dead | exact lb_same (by (first | assumption | exact noIds_tab (fun _ => rfl) _ _ | exact noIds_encL (fun _ => rfl) _ | rfl)) | exact lb_ro (by (first | assumption | exact noIds_tab (fun _ => rfl) _ _ | exact noIds_encL (fun _ => rfl) _ | rfl)) | exact lb_none | exact lb_cells (by ((repeat refine lws_cons (by (first | exact lw_any | exact lw_int | exact lw_bool | exact lw_ptr rfl | exact lw_slo rfl | exact lw_nilp | exact lw_nils | exact lw_str | exact lw_slo_nils | exact lw_slo_sle | exact lw_sl rfl | exact lw_unb | exact lw_gptr | exact lw_noid rfl | exact lw_cap rfl (Nat.le_refl _) | exact lw_cap rfl (by omega) | assumption | exact lw_tup (by ((repeat refine lws_cons (by (first | exact lw_any | exact lw_int | exact lw_bool | exact lw_ptr rfl | exact lw_slo rfl | exact lw_nilp | exact lw_nils | exact lw_str | exact lw_slo_nils | exact lw_slo_sle | exact lw_sl rfl | exact lw_unb | exact lw_gptr | exact lw_noid rfl | exact lw_cap rfl (Nat.le_refl _) | exact lw_cap rfl (by omega) | assumption)) ?_); exact lws_nil)))) ?_); exact lws_nil)) (by simp) | exact lb_iter | exact lb_cap (Nat.le_refl _) (Nat.le_refl _) rfl rfl | exact lb_capn (by assumption) (by (first | assumption | exact noIds_tab (fun _ => rfl) _ _ | exact noIds_encL (fun _ => rfl) _ | rfl)) | assumption), fun κ hκ => by (first | exact lb_dead | exact lb_same (by (first | assumption | exact noIds_tab (fun _ => rfl) _ _ | exact noIds_encL (fun _ => rfl) _ | rfl)) | exact lb_ro (by (first | assumption | exact noIds_tab (fun _ => rfl) _ _ | exact noIds_encL (fun _ => rfl) _ | rfl)) | exact lb_none | exact lb_cells (by ((repeat refine lws_cons (by (first | exact lw_any | exact lw_int | exact lw_bool | exact lw_ptr rfl | exact lw_slo rfl | exact lw_nilp | exact lw_nils | exact lw_str | exact lw_slo_nils | exact lw_slo_sle | exact lw_sl rfl | exact lw_unb | exact lw_gptr | exact lw_noid rfl | exact lw_cap rfl (Nat.le_refl _) | exact lw_cap rfl (by omega) | assumption | exact lw_tup (by ((repeat refine lws_cons (by (first | exact lw_any | exact lw_int | exact lw_bool | exact lw_ptr rfl | exact lw_slo rfl | exact lw_nilp | exact lw_nils | exact lw_str | exact lw_slo_nils | exact lw_slo_sle | exact lw_sl rfl | exact lw_unb | exact lw_gptr | exact lw_noid rfl | exact lw_cap rfl (Nat.le_refl _) | exact lw_cap rfl (by omega) | assumption)) ?_); exact lws_nil)))) ?_); exact lws_nil)) (by simp) | exact lb_iter | exact lb_cap (Nat.le_refl _) (Nat.le_refl _) rfl rfl | exact lb_capn (by assumption) (by (first | assumption | exact noIds_tab (fun _ => rfl) _ _ | exact noIds_encL (fun _ => rfl) _ | rfl)) | assumption)⟩, ⟨there hfr hc1, _, hc1, by (first | exact lb_dead | exact lb_same (by (first | assumption | exact noIds_tab (fun _ => rfl) _ _ | exact noIds_encL (fun _ => rfl) _ | rfl)) | exact lb_ro (by (first | assumption | exact noIds_tab (fun _ => rfl) _ _ | exact noIds_encL (fun _ => rfl) _ | rfl)) | exact lb_none | exact lb_cells (by ((repeat refine lws_cons (by (first | exact lw_any | exact lw_int | exact lw_bool | exact lw_ptr rfl | exact lw_slo rfl | exact lw_nilp | exact lw_nils | exact lw_str | exact lw_slo_nils | exact lw_slo_sle | exact lw_sl rfl | exact lw_unb | exact lw_gptr | exact lw_noid rfl | exact lw_cap rfl (Nat.le_refl _) | exact lw_cap rfl (by omega) | assumption | exact lw_tup (by ((repeat refine lws_cons (by (first | exact lw_any | exact lw_int | exact lw_bool | exact lw_ptr rfl | exact lw_slo rfl | exact lw_nilp | exact lw_nils | exact lw_str | exact lw_slo_nils | exact lw_slo_sle | exact lw_sl rfl | exact lw_unb | exact lw_gptr | exact lw_noid rfl | exact lw_cap rfl (Nat.le_refl _) | exact lw_cap rfl (by omega) | assumption)) ?_); exact lws_nil)))) ?_); exact lws_nil)) (by simp) | exact lb_iter | exact lb_cap (Nat.le_refl _) (Nat.le_refl _) rfl rfl | exact lb_capn (by assumption) (by (first | assumption | exact noIds_tab (fun _ => rfl) _ _ | exact noIds_encL (fun _ => rfl) _ | rfl)) | assumption), fun κ hκ => by (first | exact lb_dead | exact lb_same (by (first | assumption | exact noIds_tab (fun _ => rfl) _ _ | exact noIds_encL (fun _ => rfl) _ | rfl)) | exact lb_ro (by (first | assumption | exact noIds_tab (fun _ => rfl) _ _ | exact noIds_encL (fun _ => rfl) _ | rfl)) | exact lb_none | exact lb_cells (by ((repeat refine lws_cons (by (first | exact lw_any | exact lw_int | exact lw_bool | exact lw_ptr rfl | exact lw_slo rfl | exact lw_nilp | exact lw_nils | exact lw_str | exact lw_slo_nils | exact lw_slo_sle | exact lw_sl rfl | exact lw_unb | exact lw_gptr | exact lw_noid rfl | exact lw_cap rfl (Nat.le_refl _) | exact lw_cap rfl (by omega) | assumption | exact lw_tup (by ((repeat refine lws_cons (by (first | exact lw_any | exact lw_int | exact lw_bool | exact lw_ptr rfl | exact lw_slo rfl | exact lw_nilp | exact lw_nils | exact lw_str | exact lw_slo_nils | exact lw_slo_sle | exact lw_sl rfl | exact lw_unb | exact lw_gptr | exact lw_noid rfl | exact lw_cap rfl (Nat.le_refl _) | exact lw_cap rfl (by omega) | assumption)) ?_); exact lws_nil)))) ?_); exact lws_nil)) (by simp) | exact lb_iter | exact lb_cap (Nat.le_refl _) (Nat.le_refl _) rfl rfl | exact lb_capn (by assumption) (by (first | assumption | exact noIds_tab (fun _ => rfl) _ _ | exact noIds_encL (fun _ => rfl) _ | rfl)) | assumption)⟩, trivial⟩ (by ((repeat refine lws_cons (by (first | exact lw_any | exact lw_int | exact lw_bool | exact lw_ptr rfl | exact lw_slo rfl | exact lw_nilp | exact lw_nils | exact lw_str | exact lw_slo_nils | exact lw_slo_sle | exact lw_sl rfl | exact lw_unb | exact lw_gptr | exact lw_noid rfl | exact lw_cap rfl (Nat.le_refl _) | exact lw_cap rfl (by omega) | assumption | exact lw_tup (by ((repeat refine lws_cons (by (first | exact lw_any | exact lw_int | exact lw_bool | exact lw_ptr rfl | exact lw_slo rfl | exact lw_nilp | exact lw_nils | exact lw_str | exact lw_slo_nils | exact lw_slo_sle | exact lw_sl rfl | exact lw_unb | exact lw_gptr | exact lw_noid rfl | exact lw_cap rfl (Nat.le_refl _) | exact lw_cap rfl (by omega) | assumption)) ?_); exact lws_nil)))) ?_); exact lws_nil)) rfl ?_
        rw [hgl]
        have := same_ok n m (decG cs) (decG ds) h1 h2
        rw [← c1, ← c2] at this
        exact this
    · cases hg
  · cases hg
def cxp : Cx := cxl [(46, putG), (48, cloneG 2)]
abbrev kL : List Nat := [0, 1, 4, 5, 17, 18, 19]
abbrev kT (nl k : Nat) : List (Nat × LV) := [(0, .ptr 0 0), (5, .ptr 3 0), (17, .slo 2 0 nl 0), (18, .int .i64 nl), (19, .int .i64 k)]
abbrev kH (m : Int) (n n' : Nat) (cs ls cs' : List LV) : List LB := [.cells [.int .i64 m, .slo 1 0 n 0] none, .cells cs (some 2), .cells ls (some 2), .cells [.int .i64 m, .slo 4 0 n' 0] none, .cells cs' (some 2)]
theorem take_a (m : Int) (n nl : Nat) (cs ls : List LV) (K : Pk) : (xsp Go.Proofs.Try.prog cxp 40 40 (seg (sp Go.Proofs.Try.prog 30) 0 3) (tm0 [.ptr 0 0, .slo 2 0 nl 0]) (mkS [.cells [.int .i64 m, .slo 1 0 n 0] none, .cells cs (some 2), .cells ls (some 2)]) (vK kL K)) = (
  bif xle n 1000000 then
  bif xeq (xln cs) (xmul n 2) then
  bif xnoid cs then
  bif xcm .eql m m then
  bif xcm .eql m m then
  K .normal [.ptr 0 0, .slo 2 0 nl 0, .int .i64 0, .ptr 4 0, .slo 2 0 nl 0, .int .i64 ↑nl, .int .i64 0] [some (.cells [.int .i64 m, .slo 1 0 n 0] none), some (.cells cs (some 2)), some (.cells ls (some 2)), some (.cells cs (some 2)), some (.cells [.int .i64 m, .slo 3 0 n 0] none)] []
  else False
  else False
  else False
  else False
  else False) := by kernel_rfl
theorem take_b (m : Int) (n n' nl k : Nat) (cs ls cs' : List LV) (K : Pk) : (xcode Go.Proofs.Try.prog cxp 40 40 (loopOf (nthC (sp Go.Proofs.Try.prog 30) 3)) (mkTm 40 (kT nl k)) (mkS (kH m n n' cs ls cs')) (vK kL K)) = (
  bif xcm .lss ↑k ↑nl then (
   bif xle (xadd (xnat ↑k) 1) nl then
   bif xle (xadd (xix 0 (xnat ↑k) 2) 2) (xln ls) then
   bif isI .i64 (nthD ls (xix 0 (xnat ↑k) 2)) then
   bif isI .u64 (nthD ls (xadd (xix 0 (xnat ↑k) 2) 1)) then
   bif okC cs' n' then
   bif xle (xadd n' 1) 1000000 then
   bif xcm .neq (putE m n' cs' (asI (nthD ls (xix 0 (xnat ↑k) 2))) (asI (nthD ls (xadd (xix 0 (xnat ↑k) 2) 1)))) 0 then (
    K .ret [.ptr 0 0, .any, .int .i64 (putE m n' cs' (asI (nthD ls (xix 0 (xnat ↑k) 2))) (asI (nthD ls (xadd (xix 0 (xnat ↑k) 2) 1)))), .ptr 3 0, .slo 2 0 nl 0, .int .i64 ↑nl, .int .i64 ↑k] [some (.cells [.int .i64 m, .slo 1 0 n 0] none), some (.cells cs (some 2)), some (.cells ls (some 2)), some (.cells [.int .i64 m, .slo 6 0 (putN m n' cs' (asI (nthD ls (xix 0 (xnat ↑k) 2))) (asI (nthD ls (xadd (xix 0 (xnat ↑k) 2) 1)))) 0] none), some .dead, some (.cells [.int .i64 (asI (nthD ls (xix 0 (xnat ↑k) 2))), .int .u64 (asI (nthD ls (xadd (xix 0 (xnat ↑k) 2) 1)))] none), some (.cells (putC m n' cs' (asI (nthD ls (xix 0 (xnat ↑k) 2))) (asI (nthD ls (xadd (xix 0 (xnat ↑k) 2) 1)))) (some 2))] [])
   else (
    K .normal [.ptr 0 0, .any, .any, .ptr 3 0, .slo 2 0 nl 0, .int .i64 ↑nl, .int .i64 (xar .add .i64 (↑k) 1)] [some (.cells [.int .i64 m, .slo 1 0 n 0] none), some (.cells cs (some 2)), some (.cells ls (some 2)), some (.cells [.int .i64 m, .slo 6 0 (putN m n' cs' (asI (nthD ls (xix 0 (xnat ↑k) 2))) (asI (nthD ls (xadd (xix 0 (xnat ↑k) 2) 1)))) 0] none), some .dead, some (.cells [.int .i64 (asI (nthD ls (xix 0 (xnat ↑k) 2))), .int .u64 (asI (nthD ls (xadd (xix 0 (xnat ↑k) 2) 1)))] none), some (.cells (putC m n' cs' (asI (nthD ls (xix 0 (xnat ↑k) 2))) (asI (nthD ls (xadd (xix 0 (xnat ↑k) 2) 1)))) (some 2))] [])
   else False
   else False
   else False
   else False
   else False
   else False)
  else (
   K (.exit 0) [.ptr 0 0, .any, .any, .ptr 3 0, .slo 2 0 nl 0, .int .i64 ↑nl, .int .i64 ↑k] [some (.cells [.int .i64 m, .slo 1 0 n 0] none), some (.cells cs (some 2)), some (.cells ls (some 2)), some (.cells [.int .i64 m, .slo 4 0 n' 0] none), some (.cells cs' (some 2))] [])) := by kernel_rfl
theorem take_z (m : Int) (n n' nl k : Nat) (cs ls cs' : List LV) (K : Pk) : (xsp Go.Proofs.Try.prog cxp 40 40 ((sp Go.Proofs.Try.prog 30).drop 4) (mkTm 40 (kT nl k)) (mkS (kH m n n' cs ls cs')) (vK kL K)) = (
  K .ret [.ptr 0 0, .any, .int .i64 0, .ptr 3 0, .slo 2 0 nl 0, .int .i64 ↑nl, .int .i64 ↑k] [some (.cells [.int .i64 m, .slo 4 0 n' 0] none), some (.cells cs (some 2)), some (.cells ls (some 2)), some (.cells [.int .i64 m, .slo 4 0 n' 0] none), some (.cells cs' (some 2))] []) := by kernel_rfl
theorem okC_put {m : Int} {n : Nat} {cs : List LV} (a z : Int) (h : n < 1000000) : okC (putC m n cs a z) (putN m n cs a z) = true := by
  simp only [putC, putN]
  refine okC_tab _ ?_
  simp only [pRes]
  split
  · simp only; omega
  · split
    · simp only; omega
    · split <;> simp only <;> omega
theorem putN_le (m : Int) (n : Nat) (cs : List LV) (a z : Int) : putN m n cs a z ≤ n ∨ (putN m n cs a z = n + 1 ∧ (n : Int) < m) := by
  simp only [putN, pRes]
  split
  · simp
  · split
    · simp
    · split
      · simp
      · exact .inr ⟨rfl, by omega⟩
/-- What is there after k of the cells were put, as long as they could be. -/
def tk (m : Int) (lg : Nat → Int × Int) (n : Nat) (cs : List LV) : Nat → Int × Nat × List LV
  | 0 => (0, n, cs)
  | k + 1 => if (tk m lg n cs k).1 = 0 then (putE m (tk m lg n cs k).2.1 (tk m lg n cs k).2.2 (lg k).1 (lg k).2, putN m (tk m lg n cs k).2.1 (tk m lg n cs k).2.2 (lg k).1 (lg k).2, putC m (tk m lg n cs k).2.1 (tk m lg n cs k).2.2 (lg k).1 (lg k).2) else tk m lg n cs k
theorem tk_stay {m : Int} {lg : Nat → Int × Int} {n : Nat} {cs : List LV} {k : Nat} (h : (tk m lg n cs k).1 ≠ 0) : ∀ j, tk m lg n cs (k + j) = tk m lg n cs k
  | 0 => rfl
  | j + 1 => by rw [← Nat.add_assoc, tk, tk_stay h j, if_neg h]
theorem tk_congr {m : Int} {lg lg' : Nat → Int × Int} {n : Nat} {cs : List LV} : ∀ k, (∀ i, i < k → lg i = lg' i) → tk m lg n cs k = tk m lg' n cs k
  | 0, _ => rfl
  | k + 1, h => by simp only [tk, tk_congr k fun i hi => h i (by omega), h k (by omega)]
theorem tk_ok {m : Int} {lg : Nat → Int × Int} {n : Nat} {cs : List LV} (h0 : okC cs n = true) (hn : n < 1000000) (hm : m ≤ 1000) : ∀ k, okC (tk m lg n cs k).2.2 (tk m lg n cs k).2.1 = true ∧ (tk m lg n cs k).2.1 < 1000000
  | 0 => ⟨h0, hn⟩
  | k + 1 => by
    obtain ⟨h1, h2⟩ := tk_ok h0 hn hm k
    simp only [tk]
    split
    · refine ⟨okC_put _ _ h2, ?_⟩
      rcases putN_le m (tk m lg n cs k).2.1 (tk m lg n cs k).2.2 (lg k).1 (lg k).2 with h | ⟨h, h'⟩ <;> simp only <;> omega
    · exact ⟨h1, h2⟩
def takeE (m : Int) (n : Nat) (cs : List LV) (nl : Nat) (ls : List LV) : Int := (tk m (decG ls) n cs nl).1

def takeN (m : Int) (n : Nat) (cs : List LV) (nl : Nat) (ls : List LV) : Nat := if (tk m (decG ls) n cs nl).1 = 0 then (tk m (decG ls) n cs nl).2.1 else n

def takeC (m : Int) (n : Nat) (cs : List LV) (nl : Nat) (ls : List LV) : List LV := if (tk m (decG ls) n cs nl).1 = 0 then (tk m (decG ls) n cs nl).2.2 else cs

theorem cxp_ok : CtrOk Go.Proofs.Try.prog (ctrOf cxp) := cxl_ok ⟨putG_ok, cloneCell_ok, trivial⟩
theorem xnoid_ok {cs : List LV} {n : Nat} (h : okC cs n = true) : xnoid cs = true := by rw [(okC_dec h).1]; exact xnoid_cII _ _ _ _
theorem noids_ok {cs : List LV} {n : Nat} (h : okC cs n = true) : noIds cs = true := by rw [(okC_dec h).1]; exact noIds_cII _ _ _ _
theorem len_ok {cs : List LV} {n : Nat} (h : okC cs n = true) : cs.length = n * 2 := by rw [(okC_dec h).1]; exact cII_tlen _ _ _ _
theorem decG_enc {xs : List (Int × Int)} {k : Nat} (h : k < xs.length) : decG (encL cell xs) k = xs[k] := by
  show (decC (encL cell xs)).getD k (0, 0) = xs[k]
  rw [decC_enc]; simp [List.getD_eq_getElem?_getD, h]
theorem nth_ok0 {cs : List LV} {n k : Nat} (h : okC cs n = true) (hk : k < n) : nthD cs (k * 2) = .int .i64 (decG cs k).1 := by
  obtain ⟨xs, rfl, rfl, _⟩ := okC_iff.1 h
  rw [decG_enc hk]; exact cell_0 hk
theorem nth_ok1 {cs : List LV} {n k : Nat} (h : okC cs n = true) (hk : k < n) : nthD cs (k * 2 + 1) = .int .u64 (decG cs k).2 := by
  obtain ⟨xs, rfl, rfl, _⟩ := okC_iff.1 h
  rw [decG_enc hk]; exact cell_1 hk
theorem take_ok (m : Int) (n nl : Nat) (cs ls : List LV) (h0 : okC cs n = true) (hl : okC ls nl = true) (hn : n < 1000000) (hm : m ≤ 1000) :
    SFun Go.Proofs.Try.prog 30 [.ptr 0 0, .slo 2 0 nl 0] (mkS [.cells [.int .i64 m, .slo 1 0 n 0] none, .cells cs (some 2), .cells ls (some 2)])
    fun l s => l = .int .i64 (takeE m n cs nl ls) ∧ s = mkS [.cells [.int .i64 m, .slo 3 0 (takeN m n cs nl ls) 0] none, .dead, .cells ls (some 2), .cells (takeC m n cs nl ls) (some 2)] := by
  refine SFun.mono (SFun.pieces (Q := fun l b => l = .int .i64 (takeE m n cs nl ls) ∧ b = [.cells [.int .i64 m, .slo 3 0 (takeN m n cs nl ls) 0] none, .dead, .cells ls (some 2), .cells (takeC m n cs nl ls) (some 2)]) 40 3 kL [4] (by kernel_rfl) rfl rfl rfl ?_) fun l s' ⟨b0, ⟨h1, h2⟩, h3⟩ => ⟨h1, by rw [h3, h2]⟩
  have n0 := noids_ok h0
  have nl0 := noids_ok hl
  obtain ⟨hls, hnl⟩ := okC_dec hl
  have lc := len_ok h0
  have x0 := xnoid_ok h0
  refine SSp.to cxp_ok (n := 40) (g := []) 3 3 rfl (σ := Unit) (fun _ => kT nl 0) (fun _ => kH m n n cs ls cs) (mkS_le (Nat.le_refl _)) (by kernel_rfl) ?_ fun _ => ?_
  · rw [take_a]
    simp only [wd_nat, wd_asV, wd_isV, wd_ix, wd_add, wd_mul, wd_ln, Nat.zero_add, Nat.mul_one, wd_isI, wd_asI, wd_isB, wd_asB, wd_nn, cI_tlen, cB_tlen, cII_tlen, decide_true, cond_true, wd_not_t, wd_not_f, wd_and_t, wd_and_f, lc]
    (repeat (with_reducible refine must (by (first | with_reducible rfl | exact t_le (by omega) | exact t_eq (by omega) | exact t_nn (by omega) | exact t_lss (by omega) | exact t_leq (by omega) | exact t_gtr (by omega) | exact t_geq (by omega) | exact t_eql (by omega) | exact t_neq (by omega) | exact t_z (by omega) | exact wd_not_f | assumption)) ?_))
    exact ⟨rfl, (), [.id 0, .id 1, .id 2, .id 4, .id 3], by (exact ⟨by kernel_rfl, by ((repeat refine okTms_cons (by (first | exact lw_any | exact lw_int | exact lw_bool | exact lw_ptr rfl | exact lw_slo rfl | exact lw_nilp | exact lw_nils | exact lw_str | exact lw_slo_nils | exact lw_slo_sle | exact lw_sl rfl | exact lw_unb | exact lw_gptr | exact lw_noid rfl | exact lw_cap rfl (Nat.le_refl _) | exact lw_cap rfl (by omega) | assumption | exact lw_tup (by ((repeat refine lws_cons (by (first | exact lw_any | exact lw_int | exact lw_bool | exact lw_ptr rfl | exact lw_slo rfl | exact lw_nilp | exact lw_nils | exact lw_str | exact lw_slo_nils | exact lw_slo_sle | exact lw_sl rfl | exact lw_unb | exact lw_gptr | exact lw_noid rfl | exact lw_cap rfl (Nat.le_refl _) | exact lw_cap rfl (by omega) | assumption)) ?_); exact lws_nil)))) ?_); exact okTms_nil), by ((repeat refine okBlks_cons (by (first | exact lb_dead | exact lb_same (by (first | assumption | exact noIds_tab (fun _ => rfl) _ _ | exact noIds_encL (fun _ => rfl) _ | rfl)) | exact lb_ro (by (first | assumption | exact noIds_tab (fun _ => rfl) _ _ | exact noIds_encL (fun _ => rfl) _ | rfl)) | exact lb_none | exact lb_cells (by ((repeat refine lws_cons (by (first | exact lw_any | exact lw_int | exact lw_bool | exact lw_ptr rfl | exact lw_slo rfl | exact lw_nilp | exact lw_nils | exact lw_str | exact lw_slo_nils | exact lw_slo_sle | exact lw_sl rfl | exact lw_unb | exact lw_gptr | exact lw_noid rfl | exact lw_cap rfl (Nat.le_refl _) | exact lw_cap rfl (by omega) | assumption | exact lw_tup (by ((repeat refine lws_cons (by (first | exact lw_any | exact lw_int | exact lw_bool | exact lw_ptr rfl | exact lw_slo rfl | exact lw_nilp | exact lw_nils | exact lw_str | exact lw_slo_nils | exact lw_slo_sle | exact lw_sl rfl | exact lw_unb | exact lw_gptr | exact lw_noid rfl | exact lw_cap rfl (Nat.le_refl _) | exact lw_cap rfl (by omega) | assumption)) ?_); exact lws_nil)))) ?_); exact lws_nil)) (by simp) | exact lb_iter | exact lb_cap (Nat.le_refl _) (Nat.le_refl _) rfl rfl | exact lb_capn (by assumption) (by (first | assumption | exact noIds_tab (fun _ => rfl) _ _ | exact noIds_encL (fun _ => rfl) _ | rfl)) | assumption)) ?_); exact okBlks_nil)⟩)⟩
  refine SSp.code_to (g := []) 4 rfl (σ := {_k : Unit // (tk m (decG ls) n cs nl).1 = 0}) (fun _ => kT nl nl) (fun _ => kH m n (tk m (decG ls) n cs nl).2.1 cs ls (tk m (decG ls) n cs nl).2.2) (by kernel_rfl) ?_ fun ⟨_, he⟩ => ?_
  · refine SCode.loop_vc cxp_ok (n := 40) 0 (by kernel_rfl) (σ := {k : Nat // k ≤ nl ∧ (tk m (decG ls) n cs k).1 = 0}) (fun k => kT nl k.1) (fun k => kH m n (tk m (decG ls) n cs k.1).2.1 cs ls (tk m (decG ls) n cs k.1).2.2) (fun k => nl - k.1) (fun _ => Nat.le_of_ble_eq_true rfl) (fun ⟨k, hk, he⟩ => ?_) ⟨0, Nat.zero_le _, rfl⟩
    dsimp only
    obtain ⟨o1, o2⟩ := tk_ok (lg := decG ls) h0 hn hm k
    have no1 := noids_ok o1
    rw [take_b, wd_lss]
    refine ite_way (fun hkl => ?_) (fun hkl => ?_)
    · simp only [wd_nat, wd_asV, wd_isV, wd_ix, wd_add, wd_mul, wd_ln, Nat.zero_add, Nat.mul_one, wd_isI, wd_asI, wd_isB, wd_asB, wd_nn, cI_tlen, cB_tlen, cII_tlen, decide_true, cond_true, wd_not_t, wd_not_f, wd_and_t, wd_and_f, nth_ok0 hl hkl, nth_ok1 hl hkl, len_ok hl, o1, inc_i64 hkl hnl]
      (repeat (with_reducible refine must (by (first | with_reducible rfl | exact t_le (by omega) | exact t_eq (by omega) | exact t_nn (by omega) | exact t_lss (by omega) | exact t_leq (by omega) | exact t_gtr (by omega) | exact t_geq (by omega) | exact t_eql (by omega) | exact t_neq (by omega) | exact t_z (by omega) | exact wd_not_f | assumption)) ?_))
      have o3 := noids_ok (okC_put (m := m) (cs := (tk m (decG ls) n cs k).2.2) (decG ls k).1 (decG ls k).2 o2)
      have step : tk m (decG ls) n cs (k + 1) = (putE m (tk m (decG ls) n cs k).2.1 (tk m (decG ls) n cs k).2.2 (decG ls k).1 (decG ls k).2, putN m (tk m (decG ls) n cs k).2.1 (tk m (decG ls) n cs k).2.2 (decG ls k).1 (decG ls k).2, putC m (tk m (decG ls) n cs k).2.1 (tk m (decG ls) n cs k).2.2 (decG ls k).1 (decG ls k).2) := by rw [tk, if_pos he]
      rw [xcm_neq]
      by_cases hz : putE m (tk m (decG ls) n cs k).2.1 (tk m (decG ls) n cs k).2.2 (decG ls k).1 (decG ls k).2 = 0
      · simp only [hz, decide_true, Bool.not_true, cond_false]
        refine ⟨rfl, ⟨k + 1, hkl, by rw [step]; exact hz⟩, by simp only; omega, [.id 0, .id 1, .id 2, .id 3, .id 6], ?_⟩
        simp only [step]
        (exact ⟨by kernel_rfl, by ((repeat refine okTms_cons (by (first | exact lw_any | exact lw_int | exact lw_bool | exact lw_ptr rfl | exact lw_slo rfl | exact lw_nilp | exact lw_nils | exact lw_str | exact lw_slo_nils | exact lw_slo_sle | exact lw_sl rfl | exact lw_unb | exact lw_gptr | exact lw_noid rfl | exact lw_cap rfl (Nat.le_refl _) | exact lw_cap rfl (by omega) | assumption | exact lw_tup (by ((repeat refine lws_cons (by (first | exact lw_any | exact lw_int | exact lw_bool | exact lw_ptr rfl | exact lw_slo rfl | exact lw_nilp | exact lw_nils | exact lw_str | exact lw_slo_nils | exact lw_slo_sle | exact lw_sl rfl | exact lw_unb | exact lw_gptr | exact lw_noid rfl | exact lw_cap rfl (Nat.le_refl _) | exact lw_cap rfl (by omega) | assumption)) ?_); exact lws_nil)))) ?_); exact okTms_nil), by ((repeat refine okBlks_cons (by (first | exact lb_dead | exact lb_same (by (first | assumption | exact noIds_tab (fun _ => rfl) _ _ | exact noIds_encL (fun _ => rfl) _ | rfl)) | exact lb_ro (by (first | assumption | exact noIds_tab (fun _ => rfl) _ _ | exact noIds_encL (fun _ => rfl) _ | rfl)) | exact lb_none | exact lb_cells (by ((repeat refine lws_cons (by (first | exact lw_any | exact lw_int | exact lw_bool | exact lw_ptr rfl | exact lw_slo rfl | exact lw_nilp | exact lw_nils | exact lw_str | exact lw_slo_nils | exact lw_slo_sle | exact lw_sl rfl | exact lw_unb | exact lw_gptr | exact lw_noid rfl | exact lw_cap rfl (Nat.le_refl _) | exact lw_cap rfl (by omega) | assumption | exact lw_tup (by ((repeat refine lws_cons (by (first | exact lw_any | exact lw_int | exact lw_bool | exact lw_ptr rfl | exact lw_slo rfl | exact lw_nilp | exact lw_nils | exact lw_str | exact lw_slo_nils | exact lw_slo_sle | exact lw_sl rfl | exact lw_unb | exact lw_gptr | exact lw_noid rfl | exact lw_cap rfl (Nat.le_refl _) | exact lw_cap rfl (by omega) | assumption)) ?_); exact lws_nil)))) ?_); exact lws_nil)) (by simp) | exact lb_iter | exact lb_cap (Nat.le_refl _) (Nat.le_refl _) rfl rfl | exact lb_capn (by assumption) (by (first | assumption | exact noIds_tab (fun _ => rfl) _ _ | exact noIds_encL (fun _ => rfl) _ | rfl)) | assumption)) ?_); exact okBlks_nil)⟩)
      · simp only [hz, decide_false, Bool.not_false, cond_true]
        have hs : (tk m (decG ls) n cs (k + 1)).1 ≠ 0 := by rw [step]; exact hz
        have hst := tk_stay hs (nl - (k + 1))
        rw [show k + 1 + (nl - (k + 1)) = nl by omega, step] at hst
        exact ⟨trivial, rfl, _, _, [.id 0, .id 1, .id 2, .id 1], ⟨rfl, rfl⟩, by simp only [takeE, takeN, takeC, hst, if_neg hz]; (exact ⟨by kernel_rfl, by ((repeat refine okTms_cons (by (first | exact lw_any | exact lw_int | exact lw_bool | exact lw_ptr rfl | exact lw_slo rfl | exact lw_nilp | exact lw_nils | exact lw_str | exact lw_slo_nils | exact lw_slo_sle | exact lw_sl rfl | exact lw_unb | exact lw_gptr | exact lw_noid rfl | exact lw_cap rfl (Nat.le_refl _) | exact lw_cap rfl (by omega) | assumption | exact lw_tup (by ((repeat refine lws_cons (by (first | exact lw_any | exact lw_int | exact lw_bool | exact lw_ptr rfl | exact lw_slo rfl | exact lw_nilp | exact lw_nils | exact lw_str | exact lw_slo_nils | exact lw_slo_sle | exact lw_sl rfl | exact lw_unb | exact lw_gptr | exact lw_noid rfl | exact lw_cap rfl (Nat.le_refl _) | exact lw_cap rfl (by omega) | assumption)) ?_); exact lws_nil)))) ?_); exact okTms_nil), by ((repeat refine okBlks_cons (by (first | exact lb_dead | exact lb_same (by (first | assumption | exact noIds_tab (fun _ => rfl) _ _ | exact noIds_encL (fun _ => rfl) _ | rfl)) | exact lb_ro (by (first | assumption | exact noIds_tab (fun _ => rfl) _ _ | exact noIds_encL (fun _ => rfl) _ | rfl)) | exact lb_none | exact lb_cells (by ((repeat refine lws_cons (by (first | exact lw_any | exact lw_int | exact lw_bool | exact lw_ptr rfl | exact lw_slo rfl | exact lw_nilp | exact lw_nils | exact lw_str | exact lw_slo_nils | exact lw_slo_sle | exact lw_sl rfl | exact lw_unb | exact lw_gptr | exact lw_noid rfl | exact lw_cap rfl (Nat.le_refl _) | exact lw_cap rfl (by omega) | assumption | exact lw_tup (by ((repeat refine lws_cons (by (first | exact lw_any | exact lw_int | exact lw_bool | exact lw_ptr rfl | exact lw_slo rfl | exact lw_nilp | exact lw_nils | exact lw_str | exact lw_slo_nils | exact lw_slo_sle | exact lw_sl rfl | exact lw_unb | exact lw_gptr | exact lw_noid rfl | exact lw_cap rfl (Nat.le_refl _) | exact lw_cap rfl (by omega) | assumption)) ?_); exact lws_nil)))) ?_); exact lws_nil)) (by simp) | exact lb_iter | exact lb_cap (Nat.le_refl _) (Nat.le_refl _) rfl rfl | exact lb_capn (by assumption) (by (first | assumption | exact noIds_tab (fun _ => rfl) _ _ | exact noIds_encL (fun _ => rfl) _ | rfl)) | assumption)) ?_); exact okBlks_nil)⟩)⟩
    · obtain rfl : k = nl := by omega
      exact ⟨rfl, ⟨(), he⟩, [.id 0, .id 1, .id 2, .id 3, .id 4], by (exact ⟨by kernel_rfl, by ((repeat refine okTms_cons (by (first | exact lw_any | exact lw_int | exact lw_bool | exact lw_ptr rfl | exact lw_slo rfl | exact lw_nilp | exact lw_nils | exact lw_str | exact lw_slo_nils | exact lw_slo_sle | exact lw_sl rfl | exact lw_unb | exact lw_gptr | exact lw_noid rfl | exact lw_cap rfl (Nat.le_refl _) | exact lw_cap rfl (by omega) | assumption | exact lw_tup (by ((repeat refine lws_cons (by (first | exact lw_any | exact lw_int | exact lw_bool | exact lw_ptr rfl | exact lw_slo rfl | exact lw_nilp | exact lw_nils | exact lw_str | exact lw_slo_nils | exact lw_slo_sle | exact lw_sl rfl | exact lw_unb | exact lw_gptr | exact lw_noid rfl | exact lw_cap rfl (Nat.le_refl _) | exact lw_cap rfl (by omega) | assumption)) ?_); exact lws_nil)))) ?_); exact okTms_nil), by ((repeat refine okBlks_cons (by (first | exact lb_dead | exact lb_same (by (first | assumption | exact noIds_tab (fun _ => rfl) _ _ | exact noIds_encL (fun _ => rfl) _ | rfl)) | exact lb_ro (by (first | assumption | exact noIds_tab (fun _ => rfl) _ _ | exact noIds_encL (fun _ => rfl) _ | rfl)) | exact lb_none | exact lb_cells (by ((repeat refine lws_cons (by (first | exact lw_any | exact lw_int | exact lw_bool | exact lw_ptr rfl | exact lw_slo rfl | exact lw_nilp | exact lw_nils | exact lw_str | exact lw_slo_nils | exact lw_slo_sle | exact lw_sl rfl | exact lw_unb | exact lw_gptr | exact lw_noid rfl | exact lw_cap rfl (Nat.le_refl _) | exact lw_cap rfl (by omega) | assumption | exact lw_tup (by ((repeat refine lws_cons (by (first | exact lw_any | exact lw_int | exact lw_bool | exact lw_ptr rfl | exact lw_slo rfl | exact lw_nilp | exact lw_nils | exact lw_str | exact lw_slo_nils | exact lw_slo_sle | exact lw_sl rfl | exact lw_unb | exact lw_gptr | exact lw_noid rfl | exact lw_cap rfl (Nat.le_refl _) | exact lw_cap rfl (by omega) | assumption)) ?_); exact lws_nil)))) ?_); exact lws_nil)) (by simp) | exact lb_iter | exact lb_cap (Nat.le_refl _) (Nat.le_refl _) rfl rfl | exact lb_capn (by assumption) (by (first | assumption | exact noIds_tab (fun _ => rfl) _ _ | exact noIds_encL (fun _ => rfl) _ | rfl)) | assumption)) ?_); exact okBlks_nil)⟩)⟩
  refine SSp.last cxp_ok (n := 40) (mkS_le (by simp)) ?_
  rw [take_z]
  have no1 := noids_ok (tk_ok (lg := decG ls) h0 hn hm nl).1
  exact ⟨trivial, rfl, _, _, [.id 0, .id 1, .id 2, .id 4], ⟨rfl, rfl⟩, by simp only [takeE, takeN, takeC, he, if_true]; (exact ⟨by kernel_rfl, by ((repeat refine okTms_cons (by (first | exact lw_any | exact lw_int | exact lw_bool | exact lw_ptr rfl | exact lw_slo rfl | exact lw_nilp | exact lw_nils | exact lw_str | exact lw_slo_nils | exact lw_slo_sle | exact lw_sl rfl | exact lw_unb | exact lw_gptr | exact lw_noid rfl | exact lw_cap rfl (Nat.le_refl _) | exact lw_cap rfl (by omega) | assumption | exact lw_tup (by ((repeat refine lws_cons (by (first | exact lw_any | exact lw_int | exact lw_bool | exact lw_ptr rfl | exact lw_slo rfl | exact lw_nilp | exact lw_nils | exact lw_str | exact lw_slo_nils | exact lw_slo_sle | exact lw_sl rfl | exact lw_unb | exact lw_gptr | exact lw_noid rfl | exact lw_cap rfl (Nat.le_refl _) | exact lw_cap rfl (by omega) | assumption)) ?_); exact lws_nil)))) ?_); exact okTms_nil), by ((repeat refine okBlks_cons (by (first | exact lb_dead | exact lb_same (by (first | assumption | exact noIds_tab (fun _ => rfl) _ _ | exact noIds_encL (fun _ => rfl) _ | rfl)) | exact lb_ro (by (first | assumption | exact noIds_tab (fun _ => rfl) _ _ | exact noIds_encL (fun _ => rfl) _ | rfl)) | exact lb_none | exact lb_cells (by ((repeat refine lws_cons (by (first | exact lw_any | exact lw_int | exact lw_bool | exact lw_ptr rfl | exact lw_slo rfl | exact lw_nilp | exact lw_nils | exact lw_str | exact lw_slo_nils | exact lw_slo_sle | exact lw_sl rfl | exact lw_unb | exact lw_gptr | exact lw_noid rfl | exact lw_cap rfl (Nat.le_refl _) | exact lw_cap rfl (by omega) | assumption | exact lw_tup (by ((repeat refine lws_cons (by (first | exact lw_any | exact lw_int | exact lw_bool | exact lw_ptr rfl | exact lw_slo rfl | exact lw_nilp | exact lw_nils | exact lw_str | exact lw_slo_nils | exact lw_slo_sle | exact lw_sl rfl | exact lw_unb | exact lw_gptr | exact lw_noid rfl | exact lw_cap rfl (Nat.le_refl _) | exact lw_cap rfl (by omega) | assumption)) ?_); exact lws_nil)))) ?_); exact lws_nil)) (by simp) | exact lb_iter | exact lb_cap (Nat.le_refl _) (Nat.le_refl _) rfl rfl | exact lb_capn (by assumption) (by (first | assumption | exact noIds_tab (fun _ => rfl) _ _ | exact noIds_encL (fun _ => rfl) _ | rfl)) | assumption)) ?_); exact okBlks_nil)⟩)⟩
def takeG : Gc := fun args s => match args with
  | [.ptr b 0, .slo d 0 nl 0] => (match s.h.get b, s.h.get d with
    | some (.cells [.int .i64 m, .slo c 0 n 0] none), some (.cells ls (some 2)) => (match s.h.get c, s.g with
      | some (.cells cs (some 2)), [] => cond (Nat.beq b c || (Nat.beq b d || Nat.beq c d)) none (match s.lay [b, c, d] [.cells [.int .i64 m, .slo s.n 0 (takeN m n cs nl ls) 0] none, .dead, .cells ls (some 2)] [.cells (takeC m n cs nl ls) (some 2)] with
        | some s' => some ([okC cs n, okC ls nl, xle (xadd n 1) 1000000, xcm .leq m 1000], .int .i64 (takeE m n cs nl ls), s')
        | none => none)
      | _, _ => none)
    | _, _ => none)
  | _ => none
theorem noids_take {m : Int} {n nl : Nat} {cs ls : List LV} (h0 : okC cs n = true) (hn : n < 1000000) (hm : m ≤ 1000) : noIds (takeC m n cs nl ls) = true := by
  simp only [takeC]
  split
  · exact noids_ok (tk_ok h0 hn hm nl).1
  · exact noids_ok h0
theorem takeG_ok : GOk Go.Proofs.Try.prog 30 takeG := by
  intro args s bs l s' hg hb hfr
  unfold takeG at hg
  split at hg
  · rename_i b d nl
    split at hg
    · rename_i m c n ls hb1 hd1
      split at hg
      · rename_i cs hc1 hgl
        cases hbc : Nat.beq b c || (Nat.beq b d || Nat.beq c d) with
        | true => rw [hbc] at hg; cases hg
        | false =>
          rw [hbc] at hg
          simp only [cond_false] at hg
          simp only [Bool.or_eq_false_iff] at hbc
          split at hg
          · rename_i s1 hs1
            simp only [Option.some.injEq, Prod.mk.injEq] at hg
            obtain ⟨rfl, rfl, rfl⟩ := hg
            obtain ⟨k1, hb⟩ := allT_cons.1 hb
            obtain ⟨k2, hb⟩ := allT_cons.1 hb
            obtain ⟨k3, hb⟩ := allT_cons.1 hb
            have k4 := (allT_cons.1 hb).1
            rw [wd_le, wd_add, decide_eq_true_eq] at k3
            rw [xcm_leq, decide_eq_true_eq] at k4
            have no1 := noids_ok k1
            have no2 := noids_ok k2
            have no3 := noids_take (nl := nl) (ls := ls) k1 k3 k4
            refine SFun.lay (bs := [.cells [.int .i64 m, .slo 1 0 n 0] none, .cells cs (some 2), .cells ls (some 2)]) (bs' := [.cells [.int .i64 m, .slo 3 0 (takeN m n cs nl ls) 0] none, .dead, .cells ls (some 2), .cells (takeC m n cs nl ls) (some 2)]) (args0 := [.ptr 0 0, .slo 2 0 nl 0]) (v0 := .int .i64 (takeE m n cs nl ls)) hfr hs1 (by simp [beq_ne hbc.1, beq_ne hbc.2.1, beq_ne hbc.2.2])
              ⟨⟨there hfr hb1, _, hb1, by (first | exact lb_dead | exact lb_same (by (first | assumption | exact noIds_tab (fun _ => rfl) _ _ | exact noIds_encL (fun _ => rfl) _ | rfl)) | exact lb_ro (by (first | assumption | exact noIds_tab (fun _ => rfl) _ _ | exact noIds_encL (fun _ => rfl) _ | rfl)) | exact lb_none | exact lb_cells (by ((repeat refine lws_cons (by (first | exact lw_any | exact lw_int | exact lw_bool | exact lw_ptr rfl | exact lw_slo rfl | exact lw_nilp | exact lw_nils | exact lw_str | exact lw_slo_nils | exact lw_slo_sle | exact lw_sl rfl | exact lw_unb | exact lw_gptr | exact lw_noid rfl | exact lw_cap rfl (Nat.le_refl _) | exact lw_cap rfl (by omega) | assumption | exact lw_tup (by ((repeat refine lws_cons (by (first | exact lw_any | exact lw_int | exact lw_bool | exact lw_ptr rfl | exact lw_slo rfl | exact lw_nilp | exact lw_nils | exact lw_str | exact lw_slo_nils | exact lw_slo_sle | exact lw_sl rfl | exact lw_unb | exact lw_gptr | exact lw_noid rfl | exact lw_cap rfl (Nat.le_refl _) | exact lw_cap rfl (by omega) | assumption)) ?_); exact lws_nil)))) ?_); exact lws_nil)) (by simp) | exact lb_iter | exact lb_cap (Nat.le_refl _) (Nat.le_refl _) rfl rfl | exact lb_capn (by assumption) (by (first | assumption | exact noIds_tab (fun _ => rfl) _ _ | exact noIds_encL (fun _ => rfl) _ | rfl)) | assumption), fun κ hκ => lb_cells (lws_cons lw_int (lws_cons (lw_slo (hκ 1 c rfl)) lws_nil)) (by simp)⟩, ⟨there hfr hc1, _, hc1, by (first | exact lb_dead | exact lb_same (by (first | assumption | exact noIds_tab (fun _ => rfl) _ _ | exact noIds_encL (fun _ => rfl) _ | rfl)) | exact lb_ro (by (first | assumption | exact noIds_tab (fun _ => rfl) _ _ | exact noIds_encL (fun _ => rfl) _ | rfl)) | exact lb_none | exact lb_cells (by ((repeat refine lws_cons (by (first | exact lw_any | exact lw_int | exact lw_bool | exact lw_ptr rfl | exact lw_slo rfl | exact lw_nilp | exact lw_nils | exact lw_str | exact lw_slo_nils | exact lw_slo_sle | exact lw_sl rfl | exact lw_unb | exact lw_gptr | exact lw_noid rfl | exact lw_cap rfl (Nat.le_refl _) | exact lw_cap rfl (by omega) | assumption | exact lw_tup (by ((repeat refine lws_cons (by (first | exact lw_any | exact lw_int | exact lw_bool | exact lw_ptr rfl | exact lw_slo rfl | exact lw_nilp | exact lw_nils | exact lw_str | exact lw_slo_nils | exact lw_slo_sle | exact lw_sl rfl | exact lw_unb | exact lw_gptr | exact lw_noid rfl | exact lw_cap rfl (Nat.le_refl _) | exact lw_cap rfl (by omega) | assumption)) ?_); exact lws_nil)))) ?_); exact lws_nil)) (by simp) | exact lb_iter | exact lb_cap (Nat.le_refl _) (Nat.le_refl _) rfl rfl | exact lb_capn (by assumption) (by (first | assumption | exact noIds_tab (fun _ => rfl) _ _ | exact noIds_encL (fun _ => rfl) _ | rfl)) | assumption), fun κ hκ => by (first | exact lb_dead | exact lb_same (by (first | assumption | exact noIds_tab (fun _ => rfl) _ _ | exact noIds_encL (fun _ => rfl) _ | rfl)) | exact lb_ro (by (first | assumption | exact noIds_tab (fun _ => rfl) _ _ | exact noIds_encL (fun _ => rfl) _ | rfl)) | exact lb_none | exact lb_cells (by ((repeat refine lws_cons (by (first | exact lw_any | exact lw_int | exact lw_bool | exact lw_ptr rfl | exact lw_slo rfl | exact lw_nilp | exact lw_nils | exact lw_str | exact lw_slo_nils | exact lw_slo_sle | exact lw_sl rfl | exact lw_unb | exact lw_gptr | exact lw_noid rfl | exact lw_cap rfl (Nat.le_refl _) | exact lw_cap rfl (by omega) | assumption | exact lw_tup (by ((repeat refine lws_cons (by (first | exact lw_any | exact lw_int | exact lw_bool | exact lw_ptr rfl | exact lw_slo rfl | exact lw_nilp | exact lw_nils | exact lw_str | exact lw_slo_nils | exact lw_slo_sle | exact lw_sl rfl | exact lw_unb | exact lw_gptr | exact lw_noid rfl | exact lw_cap rfl (Nat.le_refl _) | exact lw_cap rfl (by omega) | assumption)) ?_); exact lws_nil)))) ?_); exact lws_nil)) (by simp) | exact lb_iter | exact lb_cap (Nat.le_refl _) (Nat.le_refl _) rfl rfl | exact lb_capn (by assumption) (by (first | assumption | exact noIds_tab (fun _ => rfl) _ _ | exact noIds_encL (fun _ => rfl) _ | rfl)) | assumption)⟩, ⟨there hfr hd1, _, hd1, by (first | exact lb_dead | exact lb_same (by (first | assumption | exact noIds_tab (fun _ => rfl) _ _ | exact noIds_encL (fun _ => rfl) _ | rfl)) | exact lb_ro (by (first | assumption | exact noIds_tab (fun _ => rfl) _ _ | exact noIds_encL (fun _ => rfl) _ | rfl)) | exact lb_none | exact lb_cells (by ((repeat refine lws_cons (by (first | exact lw_any | exact lw_int | exact lw_bool | exact lw_ptr rfl | exact lw_slo rfl | exact lw_nilp | exact lw_nils | exact lw_str | exact lw_slo_nils | exact lw_slo_sle | exact lw_sl rfl | exact lw_unb | exact lw_gptr | exact lw_noid rfl | exact lw_cap rfl (Nat.le_refl _) | exact lw_cap rfl (by omega) | assumption | exact lw_tup (by ((repeat refine lws_cons (by (first | exact lw_any | exact lw_int | exact lw_bool | exact lw_ptr rfl | exact lw_slo rfl | exact lw_nilp | exact lw_nils | exact lw_str | exact lw_slo_nils | exact lw_slo_sle | exact lw_sl rfl | exact lw_unb | exact lw_gptr | exact lw_noid rfl | exact lw_cap rfl (Nat.le_refl _) | exact lw_cap rfl (by omega) | assumption)) ?_); exact lws_nil)))) ?_); exact lws_nil)) (by simp) | exact lb_iter | exact lb_cap (Nat.le_refl _) (Nat.le_refl _) rfl rfl | exact lb_capn (by assumption) (by (first | assumption | exact noIds_tab (fun _ => rfl) _ _ | exact noIds_encL (fun _ => rfl) _ | rfl)) | assumption), fun κ hκ => by (first | exact lb_dead | exact lb_same (by (first | assumption | exact noIds_tab (fun _ => rfl) _ _ | exact noIds_encL (fun _ => rfl) _ | rfl)) | exact lb_ro (by (first | assumption | exact noIds_tab (fun _ => rfl) _ _ | exact noIds_encL (fun _ => rfl) _ | rfl)) | exact lb_none | exact lb_cells (by ((repeat refine lws_cons (by (first | exact lw_any | exact lw_int | exact lw_bool | exact lw_ptr rfl | exact lw_slo rfl | exact lw_nilp | exact lw_nils | exact lw_str | exact lw_slo_nils | exact lw_slo_sle | exact lw_sl rfl | exact lw_unb | exact lw_gptr | exact lw_noid rfl | exact lw_cap rfl (Nat.le_refl _) | exact lw_cap rfl (by omega) | assumption | exact lw_tup (by ((repeat refine lws_cons (by (first | exact lw_any | exact lw_int | exact lw_bool | exact lw_ptr rfl | exact lw_slo rfl | exact lw_nilp | exact lw_nils | exact lw_str | exact lw_slo_nils | exact lw_slo_sle | exact lw_sl rfl | exact lw_unb | exact lw_gptr | exact lw_noid rfl | exact lw_cap rfl (Nat.le_refl _) | exact lw_cap rfl (by omega) | assumption)) ?_); exact lws_nil)))) ?_); exact lws_nil)) (by simp) | exact lb_iter | exact lb_cap (Nat.le_refl _) (Nat.le_refl _) rfl rfl | exact lb_capn (by assumption) (by (first | assumption | exact noIds_tab (fun _ => rfl) _ _ | exact noIds_encL (fun _ => rfl) _ | rfl)) | assumption)⟩, trivial⟩ (by ((repeat refine lws_cons (by (first | exact lw_any | exact lw_int | exact lw_bool | exact lw_ptr rfl | exact lw_slo rfl | exact lw_nilp | exact lw_nils | exact lw_str | exact lw_slo_nils | exact lw_slo_sle | exact lw_sl rfl | exact lw_unb | exact lw_gptr | exact lw_noid rfl | exact lw_cap rfl (Nat.le_refl _) | exact lw_cap rfl (by omega) | assumption | exact lw_tup (by ((repeat refine lws_cons (by (first | exact lw_any | exact lw_int | exact lw_bool | exact lw_ptr rfl | exact lw_slo rfl | exact lw_nilp | exact lw_nils | exact lw_str | exact lw_slo_nils | exact lw_slo_sle | exact lw_sl rfl | exact lw_unb | exact lw_gptr | exact lw_noid rfl | exact lw_cap rfl (Nat.le_refl _) | exact lw_cap rfl (by omega) | assumption)) ?_); exact lws_nil)))) ?_); exact lws_nil)) ?_ fun κ h1 h2 => ⟨⟨lb_cells (lws_cons lw_int (lws_cons (lw_slo (h2 0 Nat.one_pos)) lws_nil)) (by simp), lb_dead, lb_same no2, lb_same no3, trivial⟩, lw_int⟩
            rw [hgl]
            exact take_ok m n nl cs ls k1 k2 k3 k4
          · cases hg
      · cases hg
    · cases hg
  · cases hg
end
end Go.Lev
