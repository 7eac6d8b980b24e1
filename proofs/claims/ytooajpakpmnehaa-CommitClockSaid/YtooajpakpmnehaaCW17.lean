/- CommitClock: trees -/
import Derived.Test.YtooajpakpmnehaaCW16
import Derived.Test.YtooajpakpmnehaaLc
import Derived.Test.YtooajpakpmnehaaChecked
import Derived.KernelRfl

namespace Go.Lev
open Go.RowKit
set_option linter.unusedVariables false
set_option linter.unusedSimpArgs false
set_option maxRecDepth 100000
noncomputable section
abbrev sl_T (n m k : Nat) : List (Nat × LV) := [(0, .slo 0 0 n 0), (1, .slo 1 0 m 0), (5, .int .i64 k)]
abbrev sl_H (cs ds : List LV) : List LB := [.cells cs (some 3), .cells ds (some 3)]
abbrev sl_L : List Nat := [0, 1, 4, 5]
theorem sl__a (n m : Nat) (cs ds : List LV) (K : Pk) : (xsp Go.Proofs.Try.prog (fun _ => none) 40 26 (seg (sp Go.Proofs.Try.prog 28) 0 4) (tm0 [.slo 0 0 n 0, .slo 1 0 m 0]) (mkS (sl_H cs ds)) (vK sl_L K)) = (
 bif xcm .neq ↑n ↑m then (
 K .ret [.slo 0 0 n 0, .slo 1 0 m 0, .bool false, .tup []] [some (.cells cs (some 3)), some (.cells ds (some 3))] [])
 else (
 K .normal [.slo 0 0 n 0, .slo 1 0 m 0, .bool false, .int .i64 0] [some (.cells cs (some 3)), some (.cells ds (some 3))] [])) := by kernel_rfl
theorem sl__b (n m k : Nat) (cs ds : List LV) (K : Pk) : (xcode Go.Proofs.Try.prog (fun _ => none) 40 26 (loopOf (nthC (sp Go.Proofs.Try.prog 28) 4)) (mkTm 26 (sl_T n m k)) (mkS (sl_H cs ds)) (vK sl_L K)) = (
 bif xcm .lss ↑k ↑n then (
 bif xle (xadd (xnat ↑k) 1) n then
 bif xle (xadd (xix 0 (xnat ↑k) 3) 3) (xln cs) then
 bif isI .u64 (nthD cs (xix 0 (xnat ↑k) 3)) then
 bif isB (nthD cs (xadd (xix 0 (xnat ↑k) 3) 1)) then
 bif isI .i64 (nthD cs (xadd (xadd (xix 0 (xnat ↑k) 3) 1) 1)) then
 bif xle (xadd (xnat ↑k) 1) m then
 bif xle (xadd (xix 0 (xnat ↑k) 3) 3) (xln ds) then
 bif isI .u64 (nthD ds (xix 0 (xnat ↑k) 3)) then
 bif isB (nthD ds (xadd (xix 0 (xnat ↑k) 3) 1)) then
 bif isI .i64 (nthD ds (xadd (xadd (xix 0 (xnat ↑k) 3) 1) 1)) then
 bif xnot (xand (xcm .eql (asI (nthD cs (xix 0 (xnat ↑k) 3))) (asI (nthD ds (xix 0 (xnat ↑k) 3)))) (xand (xbq (asB (nthD cs (xadd (xix 0 (xnat ↑k) 3) 1))) (asB (nthD ds (xadd (xix 0 (xnat ↑k) 3) 1)))) (xand (xcm .eql (asI (nthD cs (xadd (xadd (xix 0 (xnat ↑k) 3) 1) 1))) (asI (nthD ds (xadd (xadd (xix 0 (xnat ↑k) 3) 1) 1)))) true))) then (
 K .ret [.slo 0 0 n 0, .slo 1 0 m 0, .bool false, .int .i64 ↑k] [some (.cells cs (some 3)), some (.cells ds (some 3))] [])
 else (
 K .normal [.slo 0 0 n 0, .slo 1 0 m 0, .any, .int .i64 (xar .add .i64 (↑k) 1)] [some (.cells cs (some 3)), some (.cells ds (some 3))] [])
 else False
 else False
 else False
 else False
 else False
 else False
 else False
 else False
 else False
 else False)
 else (
 K (.exit 0) [.slo 0 0 n 0, .slo 1 0 m 0, .any, .int .i64 ↑k] [some (.cells cs (some 3)), some (.cells ds (some 3))] [])) := by kernel_rfl
theorem sl__z (cs ds : List LV) (K : Pk) : (xsp Go.Proofs.Try.prog (fun _ => none) 40 26 ((sp Go.Proofs.Try.prog 28).drop 5) (mkTm 26 []) (mkS (sl_H cs ds)) (vK sl_L K)) = (
 K .ret [.any, .any, .bool true, .any] [some (.cells cs (some 3)), some (.cells ds (some 3))] []) := by kernel_rfl
open Classical in
def sameL (n m : Nat) (cs ds : List LV) : Bool := @decide (n = m ∧ cs = ds) (Classical.propDecidable _)

theorem sameL_ok (xs ys : List Lk) (hn : xs.length ≤ 1000000) (hm : ys.length ≤ 1000000) : SFun Go.Proofs.Try.prog 28 [.slo 0 0 xs.length 0, .slo 1 0 ys.length 0] (mkS (sl_H (encL cL xs) (encL cL ys)))
    fun l s => l = .bool (sameL xs.length ys.length (encL cL xs) (encL cL ys)) ∧ s = mkS (sl_H (encL cL xs) (encL cL ys)) := by
  refine SFun.mono (SFun.pieces (Q := fun l b => l = .bool (sameL xs.length ys.length (encL cL xs) (encL cL ys)) ∧ b = sl_H (encL cL xs) (encL cL ys)) 26 2 sl_L [4] (by kernel_rfl) rfl rfl rfl ?_) fun l s' ⟨b0, ⟨h1, h2⟩, h3⟩ => ⟨h1, by rw [h3, h2]⟩
  have nx := noids_l xs
  have ny := noids_l ys
  have hinj : ∀ a b : List Lk, encL cL a = encL cL b → a = b := fun a b h => by rw [← decL_enc a, h, decL_enc]
  refine SSp.to noCx_ok (n := 40) (g := []) 4 4 rfl (σ := {_k : Unit // xs.length = ys.length}) (fun _ => sl_T xs.length ys.length 0) (fun _ => sl_H (encL cL xs) (encL cL ys)) (mkS_le (Nat.le_refl _)) (by kernel_rfl) ?_ fun ⟨_, hnm⟩ => ?_
  · rw [sl__a, wd_neq]
    by_cases e : xs.length = ys.length
    · simp only [e, decide_true, Bool.not_true, cond_false]
      exact ⟨rfl, ⟨(), e⟩, [.id 0, .id 1], by (refine ⟨by kernel_rfl, ?_, ?_⟩ <;> repeat first | exact okTms_nil | refine okTms_cons ?_ ?_ | exact okBlks_nil | refine okBlks_cons ?_ ?_ | exact lws_nil | refine lws_cons ?_ ?_ | exact lb_dead | exact zy1 | exact zy2 | exact lb_none | refine zy3 ?_ | exact zy4 | exact lw_any | exact lw_int | exact lw_bool | exact zy5 | exact zy6 | exact lw_nils | exact lw_slo_nils | exact zy7 | exact zy8 | exact zy9 | refine lw_tup ?_ | refine lw_agg ?_ | assumption)⟩
    · simp only [e, decide_false, Bool.not_false, cond_true]
      have hs : sameL xs.length ys.length (encL cL xs) (encL cL ys) = false := by simp only [sameL, decide_eq_false_iff_not]; exact fun k => e k.1
      exact ⟨trivial, rfl, _, _, [.id 0, .id 1], ⟨rfl, rfl⟩, by rw [hs]; (refine ⟨by kernel_rfl, ?_, ?_⟩ <;> repeat first | exact okTms_nil | refine okTms_cons ?_ ?_ | exact okBlks_nil | refine okBlks_cons ?_ ?_ | exact lws_nil | refine lws_cons ?_ ?_ | exact lb_dead | exact zy1 | exact zy2 | exact lb_none | refine zy3 ?_ | exact zy4 | exact lw_any | exact lw_int | exact lw_bool | exact zy5 | exact zy6 | exact lw_nils | exact lw_slo_nils | exact zy7 | exact zy8 | exact zy9 | refine lw_tup ?_ | refine lw_agg ?_ | assumption)⟩
  refine SSp.code_to (g := []) 5 rfl (σ := {_k : Unit // xs = ys}) (fun _ => []) (fun _ => sl_H (encL cL xs) (encL cL ys)) (by kernel_rfl) ?_ fun ⟨_, hall⟩ => ?_
  · refine SCode.loop_vc noCx_ok (n := 40) 0 (by kernel_rfl) (σ := {k : Nat // k ≤ xs.length ∧ ∀ i (h : i < xs.length) (h' : i < ys.length), i < k → xs[i] = ys[i]}) (fun k => sl_T xs.length ys.length k.1) (fun _ => sl_H (encL cL xs) (encL cL ys)) (fun k => xs.length - k.1) (fun _ => Nat.le_refl _) (fun ⟨k, hk, hall⟩ => ?_) ⟨0, Nat.zero_le _, fun i _ _ hi => absurd hi (by omega)⟩
    dsimp only
    rw [sl__b, wd_lss]
    refine ite_way (fun h0 => ?_) (fun h0 => ⟨rfl, ⟨(), List.ext_getElem hnm fun i h1 h2 => hall i h1 h2 (by omega)⟩, [.id 0, .id 1], by (refine ⟨by kernel_rfl, ?_, ?_⟩ <;> repeat first | exact okTms_nil | refine okTms_cons ?_ ?_ | exact okBlks_nil | refine okBlks_cons ?_ ?_ | exact lws_nil | refine lws_cons ?_ ?_ | exact lb_dead | exact zy1 | exact zy2 | exact lb_none | refine zy3 ?_ | exact zy4 | exact lw_any | exact lw_int | exact lw_bool | exact zy5 | exact zy6 | exact lw_nils | exact lw_slo_nils | exact zy7 | exact zy8 | exact zy9 | refine lw_tup ?_ | refine lw_agg ?_ | assumption)⟩)
    have h1 : k < ys.length := by omega
    simp only [wd_nat, wd_asV, wd_isV, wd_ix, wd_add, wd_mul, wd_ln, Nat.zero_add, Nat.mul_one, wd_isI, wd_asI, wd_isB, wd_asB, wd_nn, cI_tlen, cB_tlen, cII_tlen, decide_true, cond_true, wd_not_t, wd_not_f, wd_and_t, wd_and_f, lk_0 h0, lk_0 h1, lk_1 h0, lk_1 h1, lk_2' h0, lk_2' h1, lk_n, inc_i64 h0 (show xs.length ≤ 9223372036854775807 by omega), lkEq]
    (repeat (with_reducible refine must (by (first | with_reducible rfl | exact t_le (by omega) | exact t_eq (by omega) | exact t_nn (by omega) | exact t_lss (by omega) | exact t_leq (by omega) | exact t_gtr (by omega) | exact t_geq (by omega) | exact t_eql (by omega) | exact t_neq (by omega) | exact t_z (by omega) | exact wd_not_f | assumption)) ?_))
    by_cases e : xs[k] = ys[k]
    · simp only [show decide (xs[k] = (ys[k].1, ys[k].2.1, ys[k].2.2)) = true from decide_eq_true e, wd_not_t, cond_false]
      exact ⟨rfl, ⟨k + 1, h0, fun i h2 h3 hi => by rcases Nat.lt_succ_iff_lt_or_eq.1 hi with hi | rfl; exact hall i h2 h3 hi; exact e⟩, by simp only; omega, [.id 0, .id 1], by (refine ⟨by kernel_rfl, ?_, ?_⟩ <;> repeat first | exact okTms_nil | refine okTms_cons ?_ ?_ | exact okBlks_nil | refine okBlks_cons ?_ ?_ | exact lws_nil | refine lws_cons ?_ ?_ | exact lb_dead | exact zy1 | exact zy2 | exact lb_none | refine zy3 ?_ | exact zy4 | exact lw_any | exact lw_int | exact lw_bool | exact zy5 | exact zy6 | exact lw_nils | exact lw_slo_nils | exact zy7 | exact zy8 | exact zy9 | refine lw_tup ?_ | refine lw_agg ?_ | assumption)⟩
    · have hs : sameL xs.length ys.length (encL cL xs) (encL cL ys) = false := by
        simp only [sameL, decide_eq_false_iff_not]
        intro q
        have := hinj _ _ q.2
        subst this
        exact e rfl
      have ht : decide (xs[k] = (ys[k].1, ys[k].2.1, ys[k].2.2)) = false := decide_eq_false e
      rw [ht, wd_not_f, cond_true]
      exact ⟨trivial, rfl, _, _, [.id 0, .id 1], ⟨rfl, rfl⟩, by rw [hs]; (refine ⟨by kernel_rfl, ?_, ?_⟩ <;> repeat first | exact okTms_nil | refine okTms_cons ?_ ?_ | exact okBlks_nil | refine okBlks_cons ?_ ?_ | exact lws_nil | refine lws_cons ?_ ?_ | exact lb_dead | exact zy1 | exact zy2 | exact lb_none | refine zy3 ?_ | exact zy4 | exact lw_any | exact lw_int | exact lw_bool | exact zy5 | exact zy6 | exact lw_nils | exact lw_slo_nils | exact zy7 | exact zy8 | exact zy9 | refine lw_tup ?_ | refine lw_agg ?_ | assumption)⟩
  refine SSp.last noCx_ok (n := 40) (mkS_le (Nat.le_refl _)) ?_
  rw [sl__z]
  have hs : sameL xs.length ys.length (encL cL xs) (encL cL ys) = true := by
    simp only [sameL, decide_eq_true_eq]; exact ⟨hnm, by rw [hall]⟩
  exact ⟨trivial, rfl, _, _, [.id 0, .id 1], ⟨rfl, rfl⟩, by rw [hs]; (refine ⟨by kernel_rfl, ?_, ?_⟩ <;> repeat first | exact okTms_nil | refine okTms_cons ?_ ?_ | exact okBlks_nil | refine okBlks_cons ?_ ?_ | exact lws_nil | refine lws_cons ?_ ?_ | exact lb_dead | exact zy1 | exact zy2 | exact lb_none | refine zy3 ?_ | exact zy4 | exact lw_any | exact lw_int | exact lw_bool | exact zy5 | exact zy6 | exact lw_nils | exact lw_slo_nils | exact zy7 | exact zy8 | exact zy9 | refine lw_tup ?_ | refine lw_agg ?_ | assumption)⟩
def sameLG : Gc := fun args s => match args with
  | [.slo b 0 n 0, .slo c 0 m 0] => (match s.h.get b, s.h.get c, s.g with
    | some (.cells cs (some 3)), some (.cells ds (some 3)), [] => cond (Nat.beq b c) none (some ([okL cs n, okL ds m], .bool (sameL n m cs ds), s))
    | _, _, _ => none)
  | _ => none
theorem sameLG_ok : GOk Go.Proofs.Try.prog 28 sameLG := by
  intro args s bs l s' hg hb hfr
  unfold sameLG at hg
  split at hg
  · rename_i b n c m
    split at hg
    · rename_i cs ds hb1 hc1 hgl
      cases hbc : Nat.beq b c with
      | true => rw [hbc] at hg; cases hg
      | false =>
        rw [hbc] at hg
        simp only [cond_false, Option.some.injEq, Prod.mk.injEq] at hg
        obtain ⟨rfl, rfl, rfl⟩ := hg
        obtain ⟨k1, k2⟩ := allT_cons.1 hb
        obtain ⟨xs, rfl, rfl, h1⟩ := okL_iff.1 k1
        obtain ⟨ys, rfl, rfl, h2⟩ := okL_iff.1 (allT_cons.1 k2).1
        have nx := noids_l xs
        have ny := noids_l ys
        refine SFun.lift_ro (ρ := [b, c]) (bs := sl_H (encL cL xs) (encL cL ys)) (args0 := [.slo 0 0 xs.length 0, .slo 1 0 ys.length 0]) hfr (by simp [beq_ne hbc]) ⟨⟨there hfr hb1, _, hb1, by (first | exact lb_dead | exact lb_same (by (first | assumption | exact noIds_tab (fun _ => rfl) _ _ | exact noIds_encL (fun _ => rfl) _ | rfl)) | exact lb_ro (by (first | assumption | exact noIds_tab (fun _ => rfl) _ _ | exact noIds_encL (fun _ => rfl) _ | rfl)) | exact lb_none | exact lb_cells (by ((repeat refine lws_cons (by (first | exact lw_any | exact lw_int | exact lw_bool | exact lw_ptr rfl | exact lw_slo rfl | exact lw_nilp | exact lw_nils | exact lw_str | exact lw_slo_nils | exact lw_slo_sle | exact lw_sl rfl | exact lw_unb | exact lw_gptr | exact lw_noid rfl | exact lw_cap rfl (Nat.le_refl _) | exact lw_cap rfl (by omega) | assumption | exact lw_tup (by ((repeat refine lws_cons (by (first | exact lw_any | exact lw_int | exact lw_bool | exact lw_ptr rfl | exact lw_slo rfl | exact lw_nilp | exact lw_nils | exact lw_str | exact lw_slo_nils | exact lw_slo_sle | exact lw_sl rfl | exact lw_unb | exact lw_gptr | exact lw_noid rfl | exact lw_cap rfl (Nat.le_refl _) | exact lw_cap rfl (by omega) | assumption)) ?_); exact lws_nil)))) ?_); exact lws_nil)) (by simp) | exact lb_iter | exact lb_cap (Nat.le_refl _) (Nat.le_refl _) rfl rfl | exact lb_capn (by assumption) (by (first | assumption | exact noIds_tab (fun _ => rfl) _ _ | exact noIds_encL (fun _ => rfl) _ | rfl)) | assumption), fun κ hκ => by (first | exact lb_dead | exact lb_same (by (first | assumption | exact noIds_tab (fun _ => rfl) _ _ | exact noIds_encL (fun _ => rfl) _ | rfl)) | exact lb_ro (by (first | assumption | exact noIds_tab (fun _ => rfl) _ _ | exact noIds_encL (fun _ => rfl) _ | rfl)) | exact lb_none | exact lb_cells (by ((repeat refine lws_cons (by (first | exact lw_any | exact lw_int | exact lw_bool | exact lw_ptr rfl | exact lw_slo rfl | exact lw_nilp | exact lw_nils | exact lw_str | exact lw_slo_nils | exact lw_slo_sle | exact lw_sl rfl | exact lw_unb | exact lw_gptr | exact lw_noid rfl | exact lw_cap rfl (Nat.le_refl _) | exact lw_cap rfl (by omega) | assumption | exact lw_tup (by ((repeat refine lws_cons (by (first | exact lw_any | exact lw_int | exact lw_bool | exact lw_ptr rfl | exact lw_slo rfl | exact lw_nilp | exact lw_nils | exact lw_str | exact lw_slo_nils | exact lw_slo_sle | exact lw_sl rfl | exact lw_unb | exact lw_gptr | exact lw_noid rfl | exact lw_cap rfl (Nat.le_refl _) | exact lw_cap rfl (by omega) | assumption)) ?_); exact lws_nil)))) ?_); exact lws_nil)) (by simp) | exact lb_iter | exact lb_cap (Nat.le_refl _) (Nat.le_refl _) rfl rfl | exact lb_capn (by assumption) (by (first | assumption | exact noIds_tab (fun _ => rfl) _ _ | exact noIds_encL (fun _ => rfl) _ | rfl)) | assumption)⟩, ⟨there hfr hc1, _, hc1, by (first | exact lb_dead | exact lb_same (by (first | assumption | exact noIds_tab (fun _ => rfl) _ _ | exact noIds_encL (fun _ => rfl) _ | rfl)) | exact lb_ro (by (first | assumption | exact noIds_tab (fun _ => rfl) _ _ | exact noIds_encL (fun _ => rfl) _ | rfl)) | exact lb_none | exact lb_cells (by ((repeat refine lws_cons (by (first | exact lw_any | exact lw_int | exact lw_bool | exact lw_ptr rfl | exact lw_slo rfl | exact lw_nilp | exact lw_nils | exact lw_str | exact lw_slo_nils | exact lw_slo_sle | exact lw_sl rfl | exact lw_unb | exact lw_gptr | exact lw_noid rfl | exact lw_cap rfl (Nat.le_refl _) | exact lw_cap rfl (by omega) | assumption | exact lw_tup (by ((repeat refine lws_cons (by (first | exact lw_any | exact lw_int | exact lw_bool | exact lw_ptr rfl | exact lw_slo rfl | exact lw_nilp | exact lw_nils | exact lw_str | exact lw_slo_nils | exact lw_slo_sle | exact lw_sl rfl | exact lw_unb | exact lw_gptr | exact lw_noid rfl | exact lw_cap rfl (Nat.le_refl _) | exact lw_cap rfl (by omega) | assumption)) ?_); exact lws_nil)))) ?_); exact lws_nil)) (by simp) | exact lb_iter | exact lb_cap (Nat.le_refl _) (Nat.le_refl _) rfl rfl | exact lb_capn (by assumption) (by (first | assumption | exact noIds_tab (fun _ => rfl) _ _ | exact noIds_encL (fun _ => rfl) _ | rfl)) | assumption), fun κ hκ => by (first | exact lb_dead | exact lb_same (by (first | assumption | exact noIds_tab (fun _ => rfl) _ _ | exact noIds_encL (fun _ => rfl) _ | rfl)) | exact lb_ro (by (first | assumption | exact noIds_tab (fun _ => rfl) _ _ | exact noIds_encL (fun _ => rfl) _ | rfl)) | exact lb_none | exact lb_cells (by ((repeat refine lws_cons (by (first | exact lw_any | exact lw_int | exact lw_bool | exact lw_ptr rfl | exact lw_slo rfl | exact lw_nilp | exact lw_nils | exact lw_str | exact lw_slo_nils | exact lw_slo_sle | exact lw_sl rfl | exact lw_unb | exact lw_gptr | exact lw_noid rfl | exact lw_cap rfl (Nat.le_refl _) | exact lw_cap rfl (by omega) | assumption | exact lw_tup (by ((repeat refine lws_cons (by (first | exact lw_any | exact lw_int | exact lw_bool | exact lw_ptr rfl | exact lw_slo rfl | exact lw_nilp | exact lw_nils | exact lw_str | exact lw_slo_nils | exact lw_slo_sle | exact lw_sl rfl | exact lw_unb | exact lw_gptr | exact lw_noid rfl | exact lw_cap rfl (Nat.le_refl _) | exact lw_cap rfl (by omega) | assumption)) ?_); exact lws_nil)))) ?_); exact lws_nil)) (by simp) | exact lb_iter | exact lb_cap (Nat.le_refl _) (Nat.le_refl _) rfl rfl | exact lb_capn (by assumption) (by (first | assumption | exact noIds_tab (fun _ => rfl) _ _ | exact noIds_encL (fun _ => rfl) _ | rfl)) | assumption)⟩, trivial⟩ (by ((repeat refine lws_cons (by (first | exact lw_any | exact lw_int | exact lw_bool | exact lw_ptr rfl | exact lw_slo rfl | exact lw_nilp | exact lw_nils | exact lw_str | exact lw_slo_nils | exact lw_slo_sle | exact lw_sl rfl | exact lw_unb | exact lw_gptr | exact lw_noid rfl | exact lw_cap rfl (Nat.le_refl _) | exact lw_cap rfl (by omega) | assumption | exact lw_tup (by ((repeat refine lws_cons (by (first | exact lw_any | exact lw_int | exact lw_bool | exact lw_ptr rfl | exact lw_slo rfl | exact lw_nilp | exact lw_nils | exact lw_str | exact lw_slo_nils | exact lw_slo_sle | exact lw_sl rfl | exact lw_unb | exact lw_gptr | exact lw_noid rfl | exact lw_cap rfl (Nat.le_refl _) | exact lw_cap rfl (by omega) | assumption)) ?_); exact lws_nil)))) ?_); exact lws_nil)) rfl ?_
        rw [hgl]
        exact sameL_ok xs ys h1 h2
    · cases hg
  · cases hg

def cxk : Cx := cxl [(3, runG), (25, withinG), (24, putG), (83, cloneG 3), (84, cloneG 1), (8, newN), (27, alG), (28, sameLG)]
abbrev ckL : List Nat := [0, 1, 4, 5, 6, 7, 8, 9, 10, 11]
abbrev ckT (n0 k n : Nat) (bk : Int) : List (Nat × LV) := [(0, .slo 0 0 n0 0), (1, .int .u8 bk), (5, .ptr 1 0), (6, .slo 9 0 n 0), (7, .int .i64 k)]
abbrev ckU (bk : Int) : List (Nat × LV) := [(1, .int .u8 bk), (5, .ptr 1 0), (8, .slo 10 0 8 0), (9, .ptr 11 0)]
abbrev ckV (i : Nat) : List (Nat × LV) := [(5, .ptr 1 0), (8, .slo 10 0 8 0), (9, .ptr 11 0), (10, .slo 18 0 64 0), (11, .int .i64 i)]
abbrev ckH (ax : List LV) (sq N C : Int) (ws ls zs r : List LV) : List LB := [.ro ax, .cells [.int .i64 64, .int .i64 8, .int .i64 2, .int .i64 1, .int .u64 sq, .ptr 2 0, .ptr 4 0, .ptr 6 0, .ptr 7 0, .int .i64 C] none, .cells [.slo 3 0 64 0] none, .cells ws (some 1), .cells [.int .i64 2, .slo 5 0 8 0] none, .cells ls (some 3), .cells [.int .u64 N] none, .cells [.slo 8 0 1 0] none, .cells zs (some 1), .cells r (some 2)]
abbrev ckK (ax : List LV) (sq N C : Int) (ws ls zs r wl : List LV) (me stm : Int) (nq nc ns nt : Nat) (qc cc sc tc : List LV) (su en bu er lv : Int) (lh : Bool) (lo ph a now : Int) (st : Bool) (ve vb vr : Int) : List LB := [.ro ax, .cells [.int .i64 64, .int .i64 8, .int .i64 2, .int .i64 1, .int .u64 sq, .ptr 2 0, .ptr 4 0, .ptr 6 0, .ptr 7 0, .int .i64 C] none, .cells [.slo 3 0 64 0] none, .cells ws (some 1), .cells [.int .i64 2, .slo 5 0 8 0] none, .cells ls (some 3), .cells [.int .u64 N] none, .cells [.slo 8 0 1 0] none, .cells zs (some 1), .cells r (some 2), .cells wl (some 3), .cells [.ptr 12 0, .int .i64 me, .int .u64 stm, .slo 13 0 nq 0, .slo 14 0 nc 0, .slo 15 0 ns 0, .slo 16 0 nt 0, .int .u64 lv, .bool lh, .int .i64 lo, .int .i64 ph, .int .i64 a, .int .u64 now, .bool st, .int .i64 ve, .int .i64 vb, .int .i64 vr] none, .cells [.int .i64 me, .int .i64 su, .int .i64 en, .int .i64 bu, .int .i64 er] none, .cells qc (some 2), .cells cc (some 2), .cells sc (some 1), .cells tc (some 3)]
abbrev ckG (ax : List LV) (sq N C : Int) (ws ls zs r wl : List LV) (me stm : Int) (nq nc ns nt : Nat) (qc cc sc tc : List LV) (su en bu er lv : Int) (lh : Bool) (lo ph a now : Int) (st : Bool) (ve vb vr : Int) (ww : List LV) : List LB := ckK ax sq N C ws ls zs r wl me stm nq nc ns nt qc cc sc tc su en bu er lv lh lo ph a now st ve vb vr ++ [.dead, .cells ww (some 1)]
theorem ck_a (n0 : Nat) (bk : Int) (ax : List LV) (K : Pk) : (xsp Go.Proofs.Try.prog cxk 60 113 (seg (sp Go.Proofs.Try.prog 6) 0 8) (tm0 [.slo 0 0 n0 0, .int .u8 bk]) (mkS [.ro ax]) (vK ckL K)) = (
 bif xcm .eql (xmn (xar .sub .u64 4611686018427387903 (xwr .u64 (xar .rem .u8 bk 3))) 4611686018427387903) (xmn (xar .sub .u64 4611686018427387903 (xwr .u64 (xar .rem .u8 bk 3))) 4611686018427387903) then
 bif xcm .eql (xmn (xar .sub .u64 4611686018427387903 (xwr .u64 (xar .rem .u8 bk 3))) 4611686018427387903) (xmn (xar .sub .u64 4611686018427387903 (xwr .u64 (xar .rem .u8 bk 3))) 4611686018427387903) then
 bif xcm .eql (xmn (xar .sub .u64 4611686018427387903 (xwr .u64 (xar .rem .u8 bk 3))) 4611686018427387903) (xmn (xar .sub .u64 4611686018427387903 (xwr .u64 (xar .rem .u8 bk 3))) 4611686018427387903) then
 bif xcm .eql (xmn (xar .sub .u64 4611686018427387903 (xwr .u64 (xar .rem .u8 bk 3))) 4611686018427387903) (xmn (xar .sub .u64 4611686018427387903 (xwr .u64 (xar .rem .u8 bk 3))) 4611686018427387903) then
 bif xcm .eql (xmn (xar .sub .u64 4611686018427387903 (xwr .u64 (xar .rem .u8 bk 3))) 4611686018427387903) (xmn (xar .sub .u64 4611686018427387903 (xwr .u64 (xar .rem .u8 bk 3))) 4611686018427387903) then
 bif xcm .eql (xmn (xar .sub .u64 4611686018427387903 (xwr .u64 (xar .rem .u8 bk 3))) 4611686018427387903) (xmn (xar .sub .u64 4611686018427387903 (xwr .u64 (xar .rem .u8 bk 3))) 4611686018427387903) then
 bif xcm .eql (xmn (xar .sub .u64 4611686018427387903 (xwr .u64 (xar .rem .u8 bk 3))) 4611686018427387903) (xmn (xar .sub .u64 4611686018427387903 (xwr .u64 (xar .rem .u8 bk 3))) 4611686018427387903) then
 bif xcm .eql (xmn (xar .sub .u64 4611686018427387903 (xwr .u64 (xar .rem .u8 bk 3))) 4611686018427387903) (xmn (xar .sub .u64 4611686018427387903 (xwr .u64 (xar .rem .u8 bk 3))) 4611686018427387903) then
 bif xcm .eql (xmn (xar .sub .u64 4611686018427387903 (xwr .u64 (xar .rem .u8 bk 3))) 4611686018427387903) (xmn (xar .sub .u64 4611686018427387903 (xwr .u64 (xar .rem .u8 bk 3))) 4611686018427387903) then
 bif xcm .eql (xmn (xar .sub .u64 4611686018427387903 (xwr .u64 (xar .rem .u8 bk 3))) 4611686018427387903) (xmn (xar .sub .u64 4611686018427387903 (xwr .u64 (xar .rem .u8 bk 3))) 4611686018427387903) then
 bif xcm .eql (xmn (xar .sub .u64 4611686018427387903 (xwr .u64 (xar .rem .u8 bk 3))) 4611686018427387903) (xmn (xar .sub .u64 4611686018427387903 (xwr .u64 (xar .rem .u8 bk 3))) 4611686018427387903) then
 bif xcm .eql (xmn (xar .sub .u64 4611686018427387903 (xwr .u64 (xar .rem .u8 bk 3))) 4611686018427387903) (xmn (xar .sub .u64 4611686018427387903 (xwr .u64 (xar .rem .u8 bk 3))) 4611686018427387903) then
 K .normal [.slo 0 0 n0 0, .int .u8 bk, .bool false, .ptr 11 0, .nils, .int .i64 0, .tup [], .tup [], .tup [], .tup []] [some (.ro ax), some (.cells [.int .i64 64, .int .i64 8, .int .i64 2, .int .i64 1, .int .u64 (xmn (xar .sub .u64 4611686018427387903 (xwr .u64 (xar .rem .u8 bk 3))) 4611686018427387903)] none), some (.cells [.int .i64 64, .int .i64 8, .int .i64 2, .int .i64 1, .int .u64 (xar .sub .u64 4611686018427387903 (xwr .u64 (xar .rem .u8 bk 3)))] none), some (.cells [.int .i64 64, .int .i64 8, .int .i64 2, .int .i64 1, .int .u64 (xmn (xar .sub .u64 4611686018427387903 (xwr .u64 (xar .rem .u8 bk 3))) 4611686018427387903)] none), some (.cells [.int .u64 0, .int .u64 0, .int .u64 0, .int .u64 0, .int .u64 0, .int .u64 0, .int .u64 0, .int .u64 0, .int .u64 0, .int .u64 0, .int .u64 0, .int .u64 0, .int .u64 0, .int .u64 0, .int .u64 0, .int .u64 0, .int .u64 0, .int .u64 0, .int .u64 0, .int .u64 0, .int .u64 0, .int .u64 0, .int .u64 0, .int .u64 0, .int .u64 0, .int .u64 0, .int .u64 0, .int .u64 0, .int .u64 0, .int .u64 0, .int .u64 0, .int .u64 0, .int .u64 0, .int .u64 0, .int .u64 0, .int .u64 0, .int .u64 0, .int .u64 0, .int .u64 0, .int .u64 0, .int .u64 0, .int .u64 0, .int .u64 0, .int .u64 0, .int .u64 0, .int .u64 0, .int .u64 0, .int .u64 0, .int .u64 0, .int .u64 0, .int .u64 0, .int .u64 0, .int .u64 0, .int .u64 0, .int .u64 0, .int .u64 0, .int .u64 0, .int .u64 0, .int .u64 0, .int .u64 0, .int .u64 0, .int .u64 0, .int .u64 0, .int .u64 0] none), some (.cells [.sl 4 0 64 64] none), some (.cells [.int .u64 0, .bool false, .int .i64 0, .int .u64 0, .bool false, .int .i64 0, .int .u64 0, .bool false, .int .i64 0, .int .u64 0, .bool false, .int .i64 0, .int .u64 0, .bool false, .int .i64 0, .int .u64 0, .bool false, .int .i64 0, .int .u64 0, .bool false, .int .i64 0, .int .u64 0, .bool false, .int .i64 0] none), some (.cells [.int .i64 2, .sl 6 0 8 8] none), some (.cells [.int .u64 (xmn (xmn (xar .sub .u64 4611686018427387903 (xwr .u64 (xar .rem .u8 bk 3))) 4611686018427387903) 4611686018427387903)] none), some (.cells [.int .u64 0] none), some (.cells [.sl 9 0 1 1] none), some (.cells [.int .i64 64, .int .i64 8, .int .i64 2, .int .i64 1, .int .u64 (xmn (xar .sub .u64 4611686018427387903 (xwr .u64 (xar .rem .u8 bk 3))) 4611686018427387903), .ptr 5 0, .ptr 7 0, .ptr 8 0, .ptr 10 0, .int .i64 0] none)] []
 else False
 else False
 else False
 else False
 else False
 else False
 else False
 else False
 else False
 else False
 else False
 else False) := by kernel_rfl
abbrev ck_b_b1 (ax : List LV) (sq : Int) (N : Int) (C : Int) (ws : List LV) (ls : List LV) (zs : List LV) (r : List LV) : List (Option LB) := [some (.ro ax), some (.cells [.int .i64 64, .int .i64 8, .int .i64 2, .int .i64 1, .int .u64 sq, .ptr 2 0, .ptr 4 0, .ptr 6 0, .ptr 7 0, .int .i64 C] none), some (.cells [.slo 3 0 64 0] none), some (.cells ws (some 1)), some (.cells [.int .i64 2, .slo 5 0 8 0] none), some (.cells ls (some 3)), some (.cells [.int .u64 N] none), some (.cells [.slo 8 0 1 0] none), some (.cells zs (some 1)), some (.cells r (some 2))]
theorem ck_b (n0 k n : Nat) (bk : Int) (ax : List LV) (sq N C : Int) (ws ls zs r : List LV) (K : Pk) : (xcode Go.Proofs.Try.prog cxk 60 113 (loopOf (nthC (sp Go.Proofs.Try.prog 6) 8)) (mkTm 113 (ckT n0 k n bk)) (mkS (ckH ax sq N C ws ls zs r)) (vK ckL K)) = (
 bif xcm .lss ↑k ↑n0 then (
 bif xcm .lss (↑k) 9 then (
 bif xle (xadd (xnat ↑k) 1) n0 then
 bif xle (xadd (xix 0 (xnat ↑k) 2) 1) (xln ax) then
 bif isI .i64 (nthD ax (xix 0 (xnat ↑k) 2)) then
 bif xle (xadd (xnat ↑k) 1) n0 then
 bif xle (xadd (xadd (xix 0 (xnat ↑k) 2) 1) 1) (xln ax) then
 bif isI .u64 (nthD ax (xadd (xix 0 (xnat ↑k) 2) 1)) then
 bif okC r n then
 bif xle n 99999 then
 bif xle (xadd (xadd (xix 0 (xnat ↑k) 2) 1) 1) (xln ax) then
 bif isI .u64 (nthD ax (xadd (xix 0 (xnat ↑k) 2) 1)) then
 bif xcm .eql (asI (nthD ax (xadd (xix 0 (xnat ↑k) 2) 1))) (asI (nthD ax (xadd (xix 0 (xnat ↑k) 2) 1))) then
 bif xle (xadd (xadd (xix 0 (xnat ↑k) 2) 1) 1) (xln ax) then
 bif isI .u64 (nthD ax (xadd (xix 0 (xnat ↑k) 2) 1)) then
 bif xcm .eql (asI (nthD ax (xadd (xix 0 (xnat ↑k) 2) 1))) (asI (nthD ax (xadd (xix 0 (xnat ↑k) 2) 1))) then
 K .normal [.slo 0 0 n0 0, .int .u8 bk, .any, .ptr 1 0, .slo 10 0 (putN r (wthV (asI (nthD ax (xix 0 (xnat ↑k) 2))) 1 63) (xar .add .u64 (xar .rem .u64 (asI (nthD ax (xadd (xix 0 (xnat ↑k) 2) 1))) 9) 1)) 0, .int .i64 (xar .add .i64 (↑k) 1), .any, .any, .any, .any] [some (.ro ax), some (.cells [.int .i64 64, .int .i64 8, .int .i64 2, .int .i64 1, .int .u64 sq, .ptr 2 0, .ptr 4 0, .ptr 6 0, .ptr 7 0, .int .i64 C] none), some (.cells [.slo 3 0 64 0] none), some (.cells ws (some 1)), some (.cells [.int .i64 2, .slo 5 0 8 0] none), some (.cells ls (some 3)), some (.cells [.int .u64 N] none), some (.cells [.slo 8 0 1 0] none), some (.cells zs (some 1)), some (.cells r (some 2)), some (.cells (putC r (wthV (asI (nthD ax (xix 0 (xnat ↑k) 2))) 1 63) (xar .add .u64 (xar .rem .u64 (asI (nthD ax (xadd (xix 0 (xnat ↑k) 2) 1))) 9) 1)) (some 2))] []
 else False
 else False
 else False
 else False
 else False
 else False
 else False
 else False
 else False
 else False
 else False
 else False
 else False
 else False)
 else (
 K (.exit 0) [.slo 0 0 n0 0, .int .u8 bk, .any, .ptr 1 0, .slo 9 0 n 0, .int .i64 ↑k, .any, .any, .any, .any] (ck_b_b1 ax sq N C ws ls zs r) []))
 else (
 K (.exit 0) [.slo 0 0 n0 0, .int .u8 bk, .any, .ptr 1 0, .slo 9 0 n 0, .int .i64 ↑k, .any, .any, .any, .any] (ck_b_b1 ax sq N C ws ls zs r) [])) := by kernel_rfl
theorem ck_c (n0 k n : Nat) (bk : Int) (ax : List LV) (sq N C : Int) (ws ls zs r : List LV) (K : Pk) : (xsp Go.Proofs.Try.prog cxk 60 113 (seg (sp Go.Proofs.Try.prog 6) 9 2) (mkTm 113 (ckT n0 k n bk)) (mkS (ckH ax sq N C ws ls zs r)) (vK ckL K)) = (
 bif xeq (xln ls) 24 then
 bif xnoid ls then
 bif okC r n then
 bif xle n 1000000 then
 K .normal [.slo 0 0 n0 0, .int .u8 bk, .any, .ptr 1 0, .slo 9 0 n 0, .int .i64 ↑k, .slo 10 0 8 0, .ptr 11 0, .any, .any] [some (.ro ax), some (.cells [.int .i64 64, .int .i64 8, .int .i64 2, .int .i64 1, .int .u64 sq, .ptr 2 0, .ptr 4 0, .ptr 6 0, .ptr 7 0, .int .i64 C] none), some (.cells [.slo 3 0 64 0] none), some (.cells ws (some 1)), some (.cells [.int .i64 2, .slo 5 0 8 0] none), some (.cells ls (some 3)), some (.cells [.int .u64 N] none), some (.cells [.slo 8 0 1 0] none), some (.cells zs (some 1)), some (.cells r (some 2)), some (.cells ls (some 3)), some (.cells [.ptr 12 0, .int .i64 0, .int .u64 N, .slo 13 0 0 0, .slo 14 0 n 0, .slo 15 0 (stN n r 8 2) 0, .slo 16 0 0 0, .int .u64 0, .bool false, .int .i64 0, .int .i64 (phW (stN n r 8 2)), .int .i64 0, .int .u64 0, .bool false, .int .i64 0, .int .i64 0, .int .i64 0] none), some (.cells [.int .i64 0, .int .i64 1, .int .i64 0, .int .i64 (-1), .int .i64 0] none), some (.cells [] (some 2)), some (.cells r (some 2)), some (.cells (stC n r 8 2) (some 1)), some (.cells [] (some 3))] []
 else False
 else False
 else False
 else False) := by kernel_rfl
theorem ck_d (bk : Int) (ax : List LV) (sq N C : Int) (ws ls zs r wl : List LV) (me stm : Int) (nq nc ns nt : Nat) (qc cc sc tc : List LV) (su en bu er lv : Int) (lh : Bool) (lo ph a now : Int) (st : Bool) (ve vb vr : Int) (K : Pk) : (xsp Go.Proofs.Try.prog cxk 60 113 (seg (sp Go.Proofs.Try.prog 6) 11 2) (mkTm 113 (ckU bk)) (mkS (ckK ax sq N C ws ls zs r wl me stm nq nc ns nt qc cc sc tc su en bu er lv lh lo ph a now st ve vb vr)) (vK ckL K)) = (
 bif okK qc cc sc tc nq nc ns nt then
 bif xnn a then
 bif xcm .eql me me then
 bif okS nq nc ns (mkC tc su en bu er lv lh lo ph a now st ve vb vr) then
 bif okIu64 ws 64 then
 bif okL ls 8 then
 bif okIu64 zs 1 then
 bif okAr me stm qc cc sc (mkC tc su en bu er lv lh lo ph a now st ve vb vr) ws ls zs N C then
 K .normal [.any, .int .u8 bk, .any, .ptr 1 0, .any, .any, .slo 10 0 8 0, .ptr 11 0, .any, .any] [some (.ro ax), some (.cells [.int .i64 64, .int .i64 8, .int .i64 2, .int .i64 1, .int .u64 sq, .ptr 2 0, .ptr 4 0, .ptr 6 0, .ptr 7 0, .int .i64 (arC me stm qc cc sc (mkC tc su en bu er lv lh lo ph a now st ve vb vr) ws ls zs N C)] none), some (.cells [.slo 3 0 64 0] none), some (.cells (arW me stm qc cc sc (mkC tc su en bu er lv lh lo ph a now st ve vb vr) ws ls zs N C) (some 1)), some (.cells [.int .i64 2, .slo 5 0 8 0] none), some (.cells (arL me stm qc cc sc (mkC tc su en bu er lv lh lo ph a now st ve vb vr) ws ls zs N C) (some 3)), some (.cells [.int .u64 (arN me stm qc cc sc (mkC tc su en bu er lv lh lo ph a now st ve vb vr) ws ls zs N C)] none), some (.cells [.slo 8 0 1 0] none), some (.cells (arZ me stm qc cc sc (mkC tc su en bu er lv lh lo ph a now st ve vb vr) ws ls zs N C) (some 1)), some (.cells r (some 2)), some (.cells wl (some 3)), some (.cells [.ptr 12 0, .int .i64 me, .int .u64 stm, .slo 13 0 nq 0, .slo 14 0 nc 0, .slo 15 0 ns 0, .slo 17 0 (kTn (arS me stm qc cc sc (mkC tc su en bu er lv lh lo ph a now st ve vb vr) ws ls zs N C)) 0, .int .u64 (kLv (arS me stm qc cc sc (mkC tc su en bu er lv lh lo ph a now st ve vb vr) ws ls zs N C)), .bool (kLh (arS me stm qc cc sc (mkC tc su en bu er lv lh lo ph a now st ve vb vr) ws ls zs N C)), .int .i64 (kLo (arS me stm qc cc sc (mkC tc su en bu er lv lh lo ph a now st ve vb vr) ws ls zs N C)), .int .i64 (kPh (arS me stm qc cc sc (mkC tc su en bu er lv lh lo ph a now st ve vb vr) ws ls zs N C)), .int .i64 (kAt (arS me stm qc cc sc (mkC tc su en bu er lv lh lo ph a now st ve vb vr) ws ls zs N C)), .int .u64 (kNow (arS me stm qc cc sc (mkC tc su en bu er lv lh lo ph a now st ve vb vr) ws ls zs N C)), .bool (kSt (arS me stm qc cc sc (mkC tc su en bu er lv lh lo ph a now st ve vb vr) ws ls zs N C)), .int .i64 (kVe (arS me stm qc cc sc (mkC tc su en bu er lv lh lo ph a now st ve vb vr) ws ls zs N C)), .int .i64 (kVb (arS me stm qc cc sc (mkC tc su en bu er lv lh lo ph a now st ve vb vr) ws ls zs N C)), .int .i64 (kVr (arS me stm qc cc sc (mkC tc su en bu er lv lh lo ph a now st ve vb vr) ws ls zs N C))] none), some (.cells [.int .i64 me, .int .i64 (kSu (arS me stm qc cc sc (mkC tc su en bu er lv lh lo ph a now st ve vb vr) ws ls zs N C)), .int .i64 (kEn (arS me stm qc cc sc (mkC tc su en bu er lv lh lo ph a now st ve vb vr) ws ls zs N C)), .int .i64 (kBu (arS me stm qc cc sc (mkC tc su en bu er lv lh lo ph a now st ve vb vr) ws ls zs N C)), .int .i64 (kEr (arS me stm qc cc sc (mkC tc su en bu er lv lh lo ph a now st ve vb vr) ws ls zs N C))] none), some (.cells qc (some 2)), some (.cells cc (some 2)), some (.cells sc (some 1)), some .dead, some (.cells (kTc (arS me stm qc cc sc (mkC tc su en bu er lv lh lo ph a now st ve vb vr) ws ls zs N C)) (some 3))] []
 else False
 else False
 else False
 else False
 else False
 else False
 else False
 else False) := by kernel_rfl
abbrev ck_e_b1 (ax : List LV) (sq : Int) (N : Int) (C : Int) (ws : List LV) (ls : List LV) (zs : List LV) (r : List LV) (wl : List LV) (me : Int) (stm : Int) (nq : Nat) (nc : Nat) (ns : Nat) (nt : Nat) (qc : List LV) (cc : List LV) (sc : List LV) (tc : List LV) (su : Int) (en : Int) (bu : Int) (er : Int) (lv : Int) (lh : Bool) (lo : Int) (ph : Int) (a : Int) (now : Int) (st : Bool) (ve : Int) (vb : Int) (vr : Int) : List (Option LB) := [some (.ro ax), some (.cells [.int .i64 64, .int .i64 8, .int .i64 2, .int .i64 1, .int .u64 sq, .ptr 2 0, .ptr 4 0, .ptr 6 0, .ptr 7 0, .int .i64 C] none), some (.cells [.slo 3 0 64 0] none), some (.cells ws (some 1)), some (.cells [.int .i64 2, .slo 5 0 8 0] none), some (.cells ls (some 3)), some (.cells [.int .u64 N] none), some (.cells [.slo 8 0 1 0] none), some (.cells zs (some 1)), some (.cells r (some 2)), some (.cells wl (some 3)), some (.cells [.ptr 12 0, .int .i64 me, .int .u64 stm, .slo 13 0 nq 0, .slo 14 0 nc 0, .slo 15 0 ns 0, .slo 16 0 nt 0, .int .u64 lv, .bool lh, .int .i64 lo, .int .i64 ph, .int .i64 a, .int .u64 now, .bool st, .int .i64 ve, .int .i64 vb, .int .i64 vr] none), some (.cells [.int .i64 me, .int .i64 su, .int .i64 en, .int .i64 bu, .int .i64 er] none), some (.cells qc (some 2)), some (.cells cc (some 2)), some (.cells sc (some 1)), some (.cells tc (some 3))]
theorem ck_e (bk : Int) (ax : List LV) (sq N C : Int) (ws ls zs r wl : List LV) (me stm : Int) (nq nc ns nt : Nat) (qc cc sc tc : List LV) (su en bu er lv : Int) (lh : Bool) (lo ph a now : Int) (st : Bool) (ve vb vr : Int) (K : Pk) : (xsp Go.Proofs.Try.prog cxk 60 113 (seg (sp Go.Proofs.Try.prog 6) 13 4) (mkTm 113 (ckU bk)) (mkS (ckK ax sq N C ws ls zs r wl me stm nq nc ns nt qc cc sc tc su en bu er lv lh lo ph a now st ve vb vr)) (vK ckL K)) = (
 bif xcm .gtr (xar .rem .u8 bk 3) 0 then (
 bif xcm .eql en 2 then (
 K .ret [.any, .int .u8 bk, .bool (xcm .eql N (xar .sub .u64 4611686018427387904 (xwr .u64 (xar .rem .u8 bk 3)))), .ptr 1 0, .any, .any, .slo 10 0 8 0, .ptr 11 0, .any, .any] (ck_e_b1 ax sq N C ws ls zs r wl me stm nq nc ns nt qc cc sc tc su en bu er lv lh lo ph a now st ve vb vr) [])
 else (
 K .ret [.any, .int .u8 bk, .bool false, .ptr 1 0, .any, .any, .slo 10 0 8 0, .ptr 11 0, .any, .any] (ck_e_b1 ax sq N C ws ls zs r wl me stm nq nc ns nt qc cc sc tc su en bu er lv lh lo ph a now st ve vb vr) []))
 else (
 bif xeq (xln ws) 64 then
 bif xnoid ws then
 K .normal [.any, .int .u8 bk, .any, .ptr 1 0, .any, .any, .slo 10 0 8 0, .ptr 11 0, .slo 17 0 64 0, .int .i64 0] [some (.ro ax), some (.cells [.int .i64 64, .int .i64 8, .int .i64 2, .int .i64 1, .int .u64 sq, .ptr 2 0, .ptr 4 0, .ptr 6 0, .ptr 7 0, .int .i64 C] none), some (.cells [.slo 3 0 64 0] none), some (.cells ws (some 1)), some (.cells [.int .i64 2, .slo 5 0 8 0] none), some (.cells ls (some 3)), some (.cells [.int .u64 N] none), some (.cells [.slo 8 0 1 0] none), some (.cells zs (some 1)), some (.cells r (some 2)), some (.cells wl (some 3)), some (.cells [.ptr 12 0, .int .i64 me, .int .u64 stm, .slo 13 0 nq 0, .slo 14 0 nc 0, .slo 15 0 ns 0, .slo 16 0 nt 0, .int .u64 lv, .bool lh, .int .i64 lo, .int .i64 ph, .int .i64 a, .int .u64 now, .bool st, .int .i64 ve, .int .i64 vb, .int .i64 vr] none), some (.cells [.int .i64 me, .int .i64 su, .int .i64 en, .int .i64 bu, .int .i64 er] none), some (.cells qc (some 2)), some (.cells cc (some 2)), some (.cells sc (some 1)), some (.cells tc (some 3)), some (.cells ws (some 1))] []
 else False
 else False)) := by kernel_rfl
abbrev ck_g_b1 (ax : List LV) (sq : Int) (N : Int) (C : Int) (ws : List LV) (ls : List LV) (zs : List LV) (r : List LV) (wl : List LV) (me : Int) (stm : Int) (nq : Nat) (nc : Nat) (ns : Nat) (nt : Nat) (qc : List LV) (cc : List LV) (sc : List LV) (tc : List LV) (su : Int) (en : Int) (bu : Int) (er : Int) (lv : Int) (lh : Bool) (lo : Int) (ph : Int) (a : Int) (now : Int) (st : Bool) (ve : Int) (vb : Int) (vr : Int) (ww : List LV) : List (Option LB) := [some (.ro ax), some (.cells [.int .i64 64, .int .i64 8, .int .i64 2, .int .i64 1, .int .u64 sq, .ptr 2 0, .ptr 4 0, .ptr 6 0, .ptr 7 0, .int .i64 C] none), some (.cells [.slo 3 0 64 0] none), some (.cells ws (some 1)), some (.cells [.int .i64 2, .slo 5 0 8 0] none), some (.cells ls (some 3)), some (.cells [.int .u64 N] none), some (.cells [.slo 8 0 1 0] none), some (.cells zs (some 1)), some (.cells r (some 2)), some (.cells wl (some 3)), some (.cells [.ptr 12 0, .int .i64 me, .int .u64 stm, .slo 13 0 nq 0, .slo 14 0 nc 0, .slo 15 0 ns 0, .slo 16 0 nt 0, .int .u64 lv, .bool lh, .int .i64 lo, .int .i64 ph, .int .i64 a, .int .u64 now, .bool st, .int .i64 ve, .int .i64 vb, .int .i64 vr] none), some (.cells [.int .i64 me, .int .i64 su, .int .i64 en, .int .i64 bu, .int .i64 er] none), some (.cells qc (some 2)), some (.cells cc (some 2)), some (.cells sc (some 1)), some (.cells tc (some 3)), some .dead, some (.cells ww (some 1))]
theorem ck_g (i : Nat) (ax : List LV) (sq N C : Int) (ws ls zs r wl : List LV) (me stm : Int) (nq nc ns nt : Nat) (qc cc sc tc : List LV) (su en bu er lv : Int) (lh : Bool) (lo ph a now : Int) (st : Bool) (ve vb vr : Int) (ww : List LV) (K : Pk) : (xcode Go.Proofs.Try.prog cxk 60 113 (loopOf (nthC (sp Go.Proofs.Try.prog 6) 17)) (mkTm 113 (ckV i)) (mkS (ckG ax sq N C ws ls zs r wl me stm nq nc ns nt qc cc sc tc su en bu er lv lh lo ph a now st ve vb vr ww)) (vK ckL K)) = (
 bif xcm .lss (↑i) 64 then (
 bif xle (xadd (xnat ↑i) 1) 64 then
 bif xle (xadd (xix 0 (xnat ↑i) 1) 1) (xln ww) then
 bif isI .u64 (nthD ww (xix 0 (xnat ↑i) 1)) then
 bif xcm .neq (asI (nthD ww (xix 0 (xnat ↑i) 1))) 0 then (
 K .ret [.any, .any, .bool false, .ptr 1 0, .any, .any, .slo 10 0 8 0, .ptr 11 0, .slo 18 0 64 0, .int .i64 ↑i] (ck_g_b1 ax sq N C ws ls zs r wl me stm nq nc ns nt qc cc sc tc su en bu er lv lh lo ph a now st ve vb vr ww) [])
 else (
 K .normal [.any, .any, .any, .ptr 1 0, .any, .any, .slo 10 0 8 0, .ptr 11 0, .slo 18 0 64 0, .int .i64 (xar .add .i64 (↑i) 1)] (ck_g_b1 ax sq N C ws ls zs r wl me stm nq nc ns nt qc cc sc tc su en bu er lv lh lo ph a now st ve vb vr ww) [])
 else False
 else False
 else False)
 else (
 K (.exit 2) [.any, .any, .any, .ptr 1 0, .any, .any, .slo 10 0 8 0, .ptr 11 0, .slo 18 0 64 0, .int .i64 ↑i] (ck_g_b1 ax sq N C ws ls zs r wl me stm nq nc ns nt qc cc sc tc su en bu er lv lh lo ph a now st ve vb vr ww) [])) := by kernel_rfl
abbrev ck_z_b1 (ax : List LV) (sq : Int) (N : Int) (C : Int) (ws : List LV) (ls : List LV) (zs : List LV) (r : List LV) (wl : List LV) (me : Int) (stm : Int) (nq : Nat) (nc : Nat) (ns : Nat) (nt : Nat) (qc : List LV) (cc : List LV) (sc : List LV) (tc : List LV) (su : Int) (en : Int) (bu : Int) (er : Int) (lv : Int) (lh : Bool) (lo : Int) (ph : Int) (a : Int) (now : Int) (st : Bool) (ve : Int) (vb : Int) (vr : Int) (ww : List LV) : List (Option LB) := [some (.ro ax), some (.cells [.int .i64 64, .int .i64 8, .int .i64 2, .int .i64 1, .int .u64 sq, .ptr 2 0, .ptr 4 0, .ptr 6 0, .ptr 7 0, .int .i64 C] none), some (.cells [.slo 3 0 64 0] none), some (.cells ws (some 1)), some (.cells [.int .i64 2, .slo 5 0 8 0] none), some (.cells ls (some 3)), some (.cells [.int .u64 N] none), some (.cells [.slo 8 0 1 0] none), some (.cells zs (some 1)), some (.cells r (some 2)), some (.cells wl (some 3)), some (.cells [.ptr 12 0, .int .i64 me, .int .u64 stm, .slo 13 0 nq 0, .slo 14 0 nc 0, .slo 15 0 ns 0, .slo 16 0 nt 0, .int .u64 lv, .bool lh, .int .i64 lo, .int .i64 ph, .int .i64 a, .int .u64 now, .bool st, .int .i64 ve, .int .i64 vb, .int .i64 vr] none), some (.cells [.int .i64 me, .int .i64 su, .int .i64 en, .int .i64 bu, .int .i64 er] none), some (.cells qc (some 2)), some (.cells cc (some 2)), some (.cells sc (some 1)), some (.cells tc (some 3)), some .dead, some (.cells ww (some 1)), some (.cells ls (some 3))]
abbrev ck_z_b2 (ax : List LV) (sq : Int) (N : Int) (C : Int) (ws : List LV) (ls : List LV) (zs : List LV) (r : List LV) (wl : List LV) (me : Int) (stm : Int) (nq : Nat) (nc : Nat) (ns : Nat) (nt : Nat) (qc : List LV) (cc : List LV) (sc : List LV) (tc : List LV) (su : Int) (en : Int) (bu : Int) (er : Int) (lv : Int) (lh : Bool) (lo : Int) (ph : Int) (a : Int) (now : Int) (st : Bool) (ve : Int) (vb : Int) (vr : Int) (ww : List LV) : List (Option LB) := [some (.ro ax), some (.cells [.int .i64 64, .int .i64 8, .int .i64 2, .int .i64 1, .int .u64 sq, .ptr 2 0, .ptr 4 0, .ptr 6 0, .ptr 7 0, .int .i64 C] none), some (.cells [.slo 3 0 64 0] none), some (.cells ws (some 1)), some (.cells [.int .i64 2, .slo 5 0 8 0] none), some (.cells ls (some 3)), some (.cells [.int .u64 N] none), some (.cells [.slo 8 0 1 0] none), some (.cells zs (some 1)), some (.cells r (some 2)), some (.cells wl (some 3)), some (.cells [.ptr 12 0, .int .i64 me, .int .u64 stm, .slo 13 0 nq 0, .slo 14 0 nc 0, .slo 15 0 ns 0, .slo 16 0 nt 0, .int .u64 lv, .bool lh, .int .i64 lo, .int .i64 ph, .int .i64 a, .int .u64 now, .bool st, .int .i64 ve, .int .i64 vb, .int .i64 vr] none), some (.cells [.int .i64 me, .int .i64 su, .int .i64 en, .int .i64 bu, .int .i64 er] none), some (.cells qc (some 2)), some (.cells cc (some 2)), some (.cells sc (some 1)), some (.cells tc (some 3)), some .dead, some (.cells ww (some 1))]
theorem ck_z (i : Nat) (ax : List LV) (sq N C : Int) (ws ls zs r wl : List LV) (me stm : Int) (nq nc ns nt : Nat) (qc cc sc tc : List LV) (su en bu er lv : Int) (lh : Bool) (lo ph a now : Int) (st : Bool) (ve vb vr : Int) (ww : List LV) (K : Pk) : (xsp Go.Proofs.Try.prog cxk 60 113 ((sp Go.Proofs.Try.prog 6).drop 18) (mkTm 113 (ckV i)) (mkS (ckG ax sq N C ws ls zs r wl me stm nq nc ns nt qc cc sc tc su en bu er lv lh lo ph a now st ve vb vr ww)) (vK ckL K)) = (
 bif xcm .eql en 4 then (
 bif xcm .eql er 7 then (
 bif xnot st then (
 bif xeq (xln ls) 24 then
 bif xnoid ls then
 bif okL ls 8 then
 bif okL wl 8 then
 bif sameL 8 8 ls wl then (
 K .ret [.any, .any, .bool (xcm .eql N 4611686018427387903), .ptr 1 0, .any, .any, .slo 10 0 8 0, .ptr 11 0, .slo 18 0 64 0, .int .i64 ↑i] (ck_z_b1 ax sq N C ws ls zs r wl me stm nq nc ns nt qc cc sc tc su en bu er lv lh lo ph a now st ve vb vr ww) [])
 else (
 K .ret [.any, .any, .bool false, .ptr 1 0, .any, .any, .slo 10 0 8 0, .ptr 11 0, .slo 18 0 64 0, .int .i64 ↑i] (ck_z_b1 ax sq N C ws ls zs r wl me stm nq nc ns nt qc cc sc tc su en bu er lv lh lo ph a now st ve vb vr ww) [])
 else False
 else False
 else False
 else False)
 else (
 bif xcm .eql (xar .add .u64 now 1) 0 then (
 bif xeq (xln ls) 24 then
 bif xnoid ls then
 bif okL ls 8 then
 bif okL wl 8 then
 bif sameL 8 8 ls wl then (
 K .ret [.any, .any, .bool (xcm .eql N 4611686018427387903), .ptr 1 0, .any, .any, .slo 10 0 8 0, .ptr 11 0, .slo 18 0 64 0, .int .i64 ↑i] (ck_z_b1 ax sq N C ws ls zs r wl me stm nq nc ns nt qc cc sc tc su en bu er lv lh lo ph a now st ve vb vr ww) [])
 else (
 K .ret [.any, .any, .bool false, .ptr 1 0, .any, .any, .slo 10 0 8 0, .ptr 11 0, .slo 18 0 64 0, .int .i64 ↑i] (ck_z_b1 ax sq N C ws ls zs r wl me stm nq nc ns nt qc cc sc tc su en bu er lv lh lo ph a now st ve vb vr ww) [])
 else False
 else False
 else False
 else False)
 else (
 K .ret [.any, .any, .bool false, .ptr 1 0, .any, .any, .slo 10 0 8 0, .ptr 11 0, .slo 18 0 64 0, .int .i64 ↑i] (ck_z_b2 ax sq N C ws ls zs r wl me stm nq nc ns nt qc cc sc tc su en bu er lv lh lo ph a now st ve vb vr ww) [])))
 else (
 K .ret [.any, .any, .bool false, .ptr 1 0, .any, .any, .slo 10 0 8 0, .ptr 11 0, .slo 18 0 64 0, .int .i64 ↑i] (ck_z_b2 ax sq N C ws ls zs r wl me stm nq nc ns nt qc cc sc tc su en bu er lv lh lo ph a now st ve vb vr ww) []))
 else (
 K .ret [.any, .any, .bool false, .ptr 1 0, .any, .any, .slo 10 0 8 0, .ptr 11 0, .slo 18 0 64 0, .int .i64 ↑i] (ck_z_b2 ax sq N C ws ls zs r wl me stm nq nc ns nt qc cc sc tc su en bu er lv lh lo ph a now st ve vb vr ww) [])) := by kernel_rfl
end
end Go.Lev
