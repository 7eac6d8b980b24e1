/- contracts of chapter 12: Ripe, Add -/
import Derived.Test.YtjjmgfclenbgfaaCW1
import Derived.Test.YtjjmgfclenbgfaaLc
import Derived.Test.YtjjmgfclenbgfaaChecked
import Derived.KernelRfl

namespace Go.Lev
open Go.RowKit
set_option linter.unusedVariables false
set_option linter.unusedSimpArgs false
set_option maxRecDepth 100000
noncomputable section
def cxr : Cx := cxl [(13, psdG)]
theorem cxr_ok : CtrOk Go.Proofs.Try.prog (ctrOf cxr) := cxl_ok ⟨psdG_ok, trivial⟩
abbrev rpAT (n ns k p q : Nat) : List (Nat × LV) := [(0, .ptr 0 0), (1, .slo 2 0 ns 0), (5, .slo 3 0 p 0), (6, .slo 4 0 q 0), (12, .slo 1 0 n 0), (13, .int .i64 n), (14, .int .i64 k)]
abbrev rpAH (n : Nat) (cs ss ps qs : List LV) : List LB := [.cells [.slo 1 0 n 0] none, .cells cs (some 2), .cells ss (some 1), .cells ps (some 2), .cells qs (some 2)]
abbrev rpAL : List Nat := [0, 1, 4, 5, 6, 12, 13, 14]
theorem rpA_a (n ns : Nat) (cs ss : List LV) (K : Pk) : (xsp Go.Proofs.Try.prog cxr 40 36 (seg (sp Go.Proofs.Try.prog 8) 0 3) (tm0 [.ptr 0 0, .slo 2 0 ns 0]) (mkS [.cells [.slo 1 0 n 0] none, .cells cs (some 2), .cells ss (some 1)]) (vK rpAL K)) = (
  K .normal [.ptr 0 0, .slo 2 0 ns 0, .nils, .nils, .nils, .slo 1 0 n 0, .int .i64 ↑n, .int .i64 0] [some (.cells [.slo 1 0 n 0] none), some (.cells cs (some 2)), some (.cells ss (some 1))] []) := by kernel_rfl
theorem rpA_b (n ns k p q : Nat) (cs ss ps qs : List LV) (K : Pk) : (xcode Go.Proofs.Try.prog cxr 40 36 (loopOf (nthC (sp Go.Proofs.Try.prog 8) 3)) (mkTm 36 (rpAT n ns k p q)) (mkS (rpAH n cs ss ps qs)) (vK rpAL K)) = (
  bif xcm .lss ↑k ↑n then (
   bif xle (xadd (xnat ↑k) 1) n then
   bif xle (xadd (xix 0 (xnat ↑k) 2) 2) (xln cs) then
   bif isI .i64 (nthD cs (xix 0 (xnat ↑k) 2)) then
   bif isI .u64 (nthD cs (xadd (xix 0 (xnat ↑k) 2) 1)) then
   bif okIu64 ss ns then
   bif psdW ss (asI (nthD cs (xadd (xix 0 (xnat ↑k) 2) 1))) then (
    bif xle (xadd p 1) 1000000 then
    bif xle (xadd 0 (xmul p 2)) (xln ps) then
    K .normal [.ptr 0 0, .slo 2 0 ns 0, .any, .slo 7 0 (xadd p 1) 0, .slo 4 0 q 0, .slo 1 0 n 0, .int .i64 ↑n, .int .i64 (xar .add .i64 (↑k) 1)] [some (.cells [.slo 1 0 n 0] none), some (.cells cs (some 2)), some (.cells ss (some 1)), some .dead, some (.cells qs (some 2)), some (.cells [.int .i64 (asI (nthD cs (xix 0 (xnat ↑k) 2))), .int .u64 (asI (nthD cs (xadd (xix 0 (xnat ↑k) 2) 1)))] none), some (.cells [.int .i64 (asI (nthD cs (xix 0 (xnat ↑k) 2))), .int .u64 (asI (nthD cs (xadd (xix 0 (xnat ↑k) 2) 1)))] none), some (.cells (xcat (xcut ps 0 (xmul p 2)) [.int .i64 (asI (nthD cs (xix 0 (xnat ↑k) 2))), .int .u64 (asI (nthD cs (xadd (xix 0 (xnat ↑k) 2) 1)))]) (some 2))] []
    else False
    else False)
   else (
    bif xle (xadd q 1) 1000000 then
    bif xle (xadd 0 (xmul q 2)) (xln qs) then
    K .normal [.ptr 0 0, .slo 2 0 ns 0, .any, .slo 3 0 p 0, .slo 7 0 (xadd q 1) 0, .slo 1 0 n 0, .int .i64 ↑n, .int .i64 (xar .add .i64 (↑k) 1)] [some (.cells [.slo 1 0 n 0] none), some (.cells cs (some 2)), some (.cells ss (some 1)), some (.cells ps (some 2)), some .dead, some (.cells [.int .i64 (asI (nthD cs (xix 0 (xnat ↑k) 2))), .int .u64 (asI (nthD cs (xadd (xix 0 (xnat ↑k) 2) 1)))] none), some (.cells [.int .i64 (asI (nthD cs (xix 0 (xnat ↑k) 2))), .int .u64 (asI (nthD cs (xadd (xix 0 (xnat ↑k) 2) 1)))] none), some (.cells (xcat (xcut qs 0 (xmul q 2)) [.int .i64 (asI (nthD cs (xix 0 (xnat ↑k) 2))), .int .u64 (asI (nthD cs (xadd (xix 0 (xnat ↑k) 2) 1)))]) (some 2))] []
    else False
    else False)
   else False
   else False
   else False
   else False
   else False)
  else (
   K (.exit 0) [.ptr 0 0, .slo 2 0 ns 0, .any, .slo 3 0 p 0, .slo 4 0 q 0, .slo 1 0 n 0, .int .i64 ↑n, .int .i64 ↑k] [some (.cells [.slo 1 0 n 0] none), some (.cells cs (some 2)), some (.cells ss (some 1)), some (.cells ps (some 2)), some (.cells qs (some 2))] [])) := by kernel_rfl
theorem rpA_z (n ns k p q : Nat) (cs ss ps qs : List LV) (K : Pk) : (xsp Go.Proofs.Try.prog cxr 40 36 ((sp Go.Proofs.Try.prog 8).drop 4) (mkTm 36 (rpAT n ns k p q)) (mkS (rpAH n cs ss ps qs)) (vK rpAL K)) = (
  K .ret [.ptr 0 0, .slo 2 0 ns 0, .slo 3 0 p 0, .slo 3 0 p 0, .slo 4 0 q 0, .slo 1 0 n 0, .int .i64 ↑n, .int .i64 ↑k] [some (.cells [.slo 4 0 q 0] none), some (.cells cs (some 2)), some (.cells ss (some 1)), some (.cells ps (some 2)), some (.cells qs (some 2))] []) := by kernel_rfl
theorem rpA_ok (xs : List (Int × Int)) (zs : List Int) (n ns : Nat) (en : xs.length = n) (es : zs.length = ns) (hn : n < 1000000) (hs : ns ≤ 9223372036854775807) (ss : List LV) (ess : ss = encL (cI .u64) zs) :
    SFun Go.Proofs.Try.prog 8 [.ptr 0 0, .slo 2 0 ns 0] (mkS [.cells [.slo 1 0 n 0] none, .cells (encL cell xs) (some 2), .cells ss (some 1)])
    fun l s => l = .slo 3 0 (xs.filter (fun x => psd zs x.2)).length 0 ∧ s = mkS [.cells [.slo 4 0 (xs.filter (fun x => !psd zs x.2)).length 0] none, .dead, .cells ss (some 1), .cells (encL cell (xs.filter (fun x => psd zs x.2))) (some 2), .cells (encL cell (xs.filter (fun x => !psd zs x.2))) (some 2)] := by
  refine SFun.mono (SFun.pieces (Q := fun l b => l = .slo 3 0 (xs.filter (fun x => psd zs x.2)).length 0 ∧ b = [.cells [.slo 4 0 (xs.filter (fun x => !psd zs x.2)).length 0] none, .dead, .cells ss (some 1), .cells (encL cell (xs.filter (fun x => psd zs x.2))) (some 2), .cells (encL cell (xs.filter (fun x => !psd zs x.2))) (some 2)]) 36 3 rpAL [4] (by kernel_rfl) rfl rfl rfl ?_) fun l s' ⟨b0, ⟨h1, h2⟩, h3⟩ => ⟨h1, by rw [h3, h2]⟩
  have nx := noids_c xs
  have nz : noIds ss = true := by rw [ess]; exact noIds_Iu64 zs
  have lx := cell_n xs
  have okz : okIu64 ss ns = true := by rw [ess, ← es]; exact okIu64_enc (by omega)
  have hw : ∀ st, psdW ss st = psd zs st := fun st => by simp only [psdW, ess, decIu64_enc]
  refine SSp.to cxr_ok (n := 40) (g := []) 3 3 rfl (σ := Unit) (fun _ => rpAT n ns 0 0 0) (fun _ => rpAH n (encL cell xs) ss [] []) (mkS_le (Nat.le_refl _)) (by kernel_rfl) ?_ fun _ => ?_
  · rw [rpA_a]
    (repeat (with_reducible refine must (by (first | with_reducible rfl | exact t_le (by omega) | exact t_eq (by omega) | exact t_nn (by omega) | exact t_lss (by omega) | exact t_leq (by omega) | exact t_gtr (by omega) | exact t_geq (by omega) | exact t_eql (by omega) | exact t_neq (by omega) | exact t_z (by omega) | exact wd_not_f | assumption)) ?_))
    exact ⟨rfl, (), [.id 0, .id 1, .id 2, .none, .none], by (exact ⟨by kernel_rfl, by ((repeat refine okTms_cons (by (first | exact lw_any | exact lw_int | exact lw_bool | exact lw_ptr rfl | exact lw_slo rfl | exact lw_nilp | exact lw_nils | exact lw_str | exact lw_slo_nils | exact lw_slo_sle | exact lw_sl rfl | exact lw_unb | exact lw_gptr | exact lw_noid rfl | exact lw_cap rfl (Nat.le_refl _) | exact lw_cap rfl (by omega) | assumption)) ?_); exact okTms_nil), by ((repeat refine okBlks_cons (by (first | exact lb_dead | exact lb_same (by (first | assumption | exact noIds_tab (fun _ => rfl) _ _ | exact noIds_encL (fun _ => rfl) _ | rfl)) | exact lb_ro (by (first | assumption | exact noIds_tab (fun _ => rfl) _ _ | exact noIds_encL (fun _ => rfl) _ | rfl)) | exact lb_none | exact lb_cells (by ((repeat refine lws_cons (by (first | exact lw_any | exact lw_int | exact lw_bool | exact lw_ptr rfl | exact lw_slo rfl | exact lw_nilp | exact lw_nils | exact lw_str | exact lw_slo_nils | exact lw_slo_sle | exact lw_sl rfl | exact lw_unb | exact lw_gptr | exact lw_noid rfl | exact lw_cap rfl (Nat.le_refl _) | exact lw_cap rfl (by omega) | assumption)) ?_); exact lws_nil)) (by simp) | exact lb_iter | exact lb_cap (Nat.le_refl _) (Nat.le_refl _) rfl rfl | assumption)) ?_); exact okBlks_nil)⟩)⟩
  refine SSp.code_to (g := []) 4 rfl (σ := Unit) (fun _ => rpAT n ns n (xs.filter (fun x => psd zs x.2)).length (xs.filter (fun x => !psd zs x.2)).length) (fun _ => rpAH n (encL cell xs) ss (encL cell (xs.filter (fun x => psd zs x.2))) (encL cell (xs.filter (fun x => !psd zs x.2)))) (by kernel_rfl) ?_ fun _ => ?_
  · refine SCode.loop_vc cxr_ok (n := 40) 0 (by kernel_rfl) (σ := {k : Nat // k ≤ n}) (fun k => rpAT n ns k.1 ((xs.take k.1).filter (fun x => psd zs x.2)).length ((xs.take k.1).filter (fun x => !psd zs x.2)).length) (fun k => rpAH n (encL cell xs) ss (encL cell ((xs.take k.1).filter (fun x => psd zs x.2))) (encL cell ((xs.take k.1).filter (fun x => !psd zs x.2)))) (fun k => n - k.1) (fun _ => Nat.le_of_ble_eq_true rfl) (fun ⟨k, hk⟩ => ?_) ⟨0, Nat.zero_le _⟩
    dsimp only
    have n1 := noids_c ((xs.take k).filter (fun x => psd zs x.2))
    have n2 := noids_c ((xs.take k).filter (fun x => !psd zs x.2))
    have l1 := List.length_filter_le (fun x : Int × Int => psd zs x.2) (xs.take k)
    have l2 := List.length_filter_le (fun x : Int × Int => !psd zs x.2) (xs.take k)
    have l3 := List.length_take_le k xs
    rw [rpA_b, wd_lss]
    refine ite_way (fun h0 => ?_) (fun h0 => ?_)
    · have h1 : k < xs.length := by omega
      have et : xs.take (k + 1) = xs.take k ++ [xs[k]] := by rw [List.take_add_one, List.getElem?_eq_getElem h1]; rfl
      simp only [wd_nat, wd_ix, wd_add, wd_mul, wd_ln, Nat.zero_add, Nat.mul_one, wd_isI, wd_asI, wd_isB, wd_asB, wd_nn, cI_tlen, cB_tlen, cII_tlen, decide_true, cond_true, wd_not_t, wd_not_f, wd_and_t, wd_and_f, cell_0 h1, cell_1 h1, cell_n, inc_i64 h0 (show n ≤ 9223372036854775807 by omega), okz, hw, cell_push]
      (repeat (with_reducible refine must (by (first | with_reducible rfl | exact t_le (by omega) | exact t_eq (by omega) | exact t_nn (by omega) | exact t_lss (by omega) | exact t_leq (by omega) | exact t_gtr (by omega) | exact t_geq (by omega) | exact t_eql (by omega) | exact t_neq (by omega) | exact t_z (by omega) | exact wd_not_f | assumption)) ?_))
      refine ways (fun hp => ?_) (fun hp => ?_)
      · have e1 : (xs.take (k + 1)).filter (fun x => psd zs x.2) = (xs.take k).filter (fun x => psd zs x.2) ++ [(xs[k].1, xs[k].2)] := by rw [et, List.filter_append]; simp [hp]
        have e2 : (xs.take (k + 1)).filter (fun x => !psd zs x.2) = (xs.take k).filter (fun x => !psd zs x.2) := by rw [et, List.filter_append]; simp [hp]
        have n3 := noids_c ((xs.take k).filter (fun x => psd zs x.2) ++ [(xs[k].1, xs[k].2)])
        (repeat (with_reducible refine must (by (first | with_reducible rfl | exact t_le (by omega) | exact t_eq (by omega) | exact t_nn (by omega) | exact t_lss (by omega) | exact t_leq (by omega) | exact t_gtr (by omega) | exact t_geq (by omega) | exact t_eql (by omega) | exact t_neq (by omega) | exact t_z (by omega) | exact wd_not_f | assumption)) ?_))
        exact ⟨rfl, ⟨k + 1, h0⟩, by simp only; omega, [.id 0, .id 1, .id 2, .id 7, .id 4], by simp only [e1, e2, List.length_append, List.length_cons, List.length_nil, Nat.zero_add]; (exact ⟨by kernel_rfl, by ((repeat refine okTms_cons (by (first | exact lw_any | exact lw_int | exact lw_bool | exact lw_ptr rfl | exact lw_slo rfl | exact lw_nilp | exact lw_nils | exact lw_str | exact lw_slo_nils | exact lw_slo_sle | exact lw_sl rfl | exact lw_unb | exact lw_gptr | exact lw_noid rfl | exact lw_cap rfl (Nat.le_refl _) | exact lw_cap rfl (by omega) | assumption)) ?_); exact okTms_nil), by ((repeat refine okBlks_cons (by (first | exact lb_dead | exact lb_same (by (first | assumption | exact noIds_tab (fun _ => rfl) _ _ | exact noIds_encL (fun _ => rfl) _ | rfl)) | exact lb_ro (by (first | assumption | exact noIds_tab (fun _ => rfl) _ _ | exact noIds_encL (fun _ => rfl) _ | rfl)) | exact lb_none | exact lb_cells (by ((repeat refine lws_cons (by (first | exact lw_any | exact lw_int | exact lw_bool | exact lw_ptr rfl | exact lw_slo rfl | exact lw_nilp | exact lw_nils | exact lw_str | exact lw_slo_nils | exact lw_slo_sle | exact lw_sl rfl | exact lw_unb | exact lw_gptr | exact lw_noid rfl | exact lw_cap rfl (Nat.le_refl _) | exact lw_cap rfl (by omega) | assumption)) ?_); exact lws_nil)) (by simp) | exact lb_iter | exact lb_cap (Nat.le_refl _) (Nat.le_refl _) rfl rfl | assumption)) ?_); exact okBlks_nil)⟩)⟩
      · have e1 : (xs.take (k + 1)).filter (fun x => !psd zs x.2) = (xs.take k).filter (fun x => !psd zs x.2) ++ [(xs[k].1, xs[k].2)] := by rw [et, List.filter_append]; simp [hp]
        have e2 : (xs.take (k + 1)).filter (fun x => psd zs x.2) = (xs.take k).filter (fun x => psd zs x.2) := by rw [et, List.filter_append]; simp [hp]
        have n3 := noids_c ((xs.take k).filter (fun x => !psd zs x.2) ++ [(xs[k].1, xs[k].2)])
        (repeat (with_reducible refine must (by (first | with_reducible rfl | exact t_le (by omega) | exact t_eq (by omega) | exact t_nn (by omega) | exact t_lss (by omega) | exact t_leq (by omega) | exact t_gtr (by omega) | exact t_geq (by omega) | exact t_eql (by omega) | exact t_neq (by omega) | exact t_z (by omega) | exact wd_not_f | assumption)) ?_))
        exact ⟨rfl, ⟨k + 1, h0⟩, by simp only; omega, [.id 0, .id 1, .id 2, .id 3, .id 7], by simp only [e1, e2, List.length_append, List.length_cons, List.length_nil, Nat.zero_add]; (exact ⟨by kernel_rfl, by ((repeat refine okTms_cons (by (first | exact lw_any | exact lw_int | exact lw_bool | exact lw_ptr rfl | exact lw_slo rfl | exact lw_nilp | exact lw_nils | exact lw_str | exact lw_slo_nils | exact lw_slo_sle | exact lw_sl rfl | exact lw_unb | exact lw_gptr | exact lw_noid rfl | exact lw_cap rfl (Nat.le_refl _) | exact lw_cap rfl (by omega) | assumption)) ?_); exact okTms_nil), by ((repeat refine okBlks_cons (by (first | exact lb_dead | exact lb_same (by (first | assumption | exact noIds_tab (fun _ => rfl) _ _ | exact noIds_encL (fun _ => rfl) _ | rfl)) | exact lb_ro (by (first | assumption | exact noIds_tab (fun _ => rfl) _ _ | exact noIds_encL (fun _ => rfl) _ | rfl)) | exact lb_none | exact lb_cells (by ((repeat refine lws_cons (by (first | exact lw_any | exact lw_int | exact lw_bool | exact lw_ptr rfl | exact lw_slo rfl | exact lw_nilp | exact lw_nils | exact lw_str | exact lw_slo_nils | exact lw_slo_sle | exact lw_sl rfl | exact lw_unb | exact lw_gptr | exact lw_noid rfl | exact lw_cap rfl (Nat.le_refl _) | exact lw_cap rfl (by omega) | assumption)) ?_); exact lws_nil)) (by simp) | exact lb_iter | exact lb_cap (Nat.le_refl _) (Nat.le_refl _) rfl rfl | assumption)) ?_); exact okBlks_nil)⟩)⟩
    · obtain rfl : k = n := by omega
      rw [List.take_of_length_le (by omega)] at n1 n2
      exact ⟨rfl, (), [.id 0, .id 1, .id 2, .id 3, .id 4], by rw [List.take_of_length_le (by omega)]; (exact ⟨by kernel_rfl, by ((repeat refine okTms_cons (by (first | exact lw_any | exact lw_int | exact lw_bool | exact lw_ptr rfl | exact lw_slo rfl | exact lw_nilp | exact lw_nils | exact lw_str | exact lw_slo_nils | exact lw_slo_sle | exact lw_sl rfl | exact lw_unb | exact lw_gptr | exact lw_noid rfl | exact lw_cap rfl (Nat.le_refl _) | exact lw_cap rfl (by omega) | assumption)) ?_); exact okTms_nil), by ((repeat refine okBlks_cons (by (first | exact lb_dead | exact lb_same (by (first | assumption | exact noIds_tab (fun _ => rfl) _ _ | exact noIds_encL (fun _ => rfl) _ | rfl)) | exact lb_ro (by (first | assumption | exact noIds_tab (fun _ => rfl) _ _ | exact noIds_encL (fun _ => rfl) _ | rfl)) | exact lb_none | exact lb_cells (by ((repeat refine lws_cons (by (first | exact lw_any | exact lw_int | exact lw_bool | exact lw_ptr rfl | exact lw_slo rfl | exact lw_nilp | exact lw_nils | exact lw_str | exact lw_slo_nils | exact lw_slo_sle | exact lw_sl rfl | exact lw_unb | exact lw_gptr | exact lw_noid rfl | exact lw_cap rfl (Nat.le_refl _) | exact lw_cap rfl (by omega) | assumption)) ?_); exact lws_nil)) (by simp) | exact lb_iter | exact lb_cap (Nat.le_refl _) (Nat.le_refl _) rfl rfl | assumption)) ?_); exact okBlks_nil)⟩)⟩
  refine SSp.last cxr_ok (n := 40) (mkS_le (by simp)) ?_
  rw [rpA_z]
  have n1 := noids_c (xs.filter (fun x => psd zs x.2))
  have n2 := noids_c (xs.filter (fun x => !psd zs x.2))
  (repeat (with_reducible refine must (by (first | with_reducible rfl | exact t_le (by omega) | exact t_eq (by omega) | exact t_nn (by omega) | exact t_lss (by omega) | exact t_leq (by omega) | exact t_gtr (by omega) | exact t_geq (by omega) | exact t_eql (by omega) | exact t_neq (by omega) | exact t_z (by omega) | exact wd_not_f | assumption)) ?_))
  exact ⟨trivial, rfl, _, _, [.id 0, .id 1, .id 2, .id 3, .id 4], ⟨rfl, rfl⟩, by (exact ⟨by kernel_rfl, by ((repeat refine okTms_cons (by (first | exact lw_any | exact lw_int | exact lw_bool | exact lw_ptr rfl | exact lw_slo rfl | exact lw_nilp | exact lw_nils | exact lw_str | exact lw_slo_nils | exact lw_slo_sle | exact lw_sl rfl | exact lw_unb | exact lw_gptr | exact lw_noid rfl | exact lw_cap rfl (Nat.le_refl _) | exact lw_cap rfl (by omega) | assumption)) ?_); exact okTms_nil), by ((repeat refine okBlks_cons (by (first | exact lb_dead | exact lb_same (by (first | assumption | exact noIds_tab (fun _ => rfl) _ _ | exact noIds_encL (fun _ => rfl) _ | rfl)) | exact lb_ro (by (first | assumption | exact noIds_tab (fun _ => rfl) _ _ | exact noIds_encL (fun _ => rfl) _ | rfl)) | exact lb_none | exact lb_cells (by ((repeat refine lws_cons (by (first | exact lw_any | exact lw_int | exact lw_bool | exact lw_ptr rfl | exact lw_slo rfl | exact lw_nilp | exact lw_nils | exact lw_str | exact lw_slo_nils | exact lw_slo_sle | exact lw_sl rfl | exact lw_unb | exact lw_gptr | exact lw_noid rfl | exact lw_cap rfl (Nat.le_refl _) | exact lw_cap rfl (by omega) | assumption)) ?_); exact lws_nil)) (by simp) | exact lb_iter | exact lb_cap (Nat.le_refl _) (Nat.le_refl _) rfl rfl | assumption)) ?_); exact okBlks_nil)⟩)⟩

abbrev rpBT (n ns k p q : Nat) : List (Nat × LV) := [(0, .ptr 0 0), (1, .sl 2 0 ns ns), (5, .slo 3 0 p 0), (6, .slo 4 0 q 0), (12, .slo 1 0 n 0), (13, .int .i64 n), (14, .int .i64 k)]
abbrev rpBH (n : Nat) (cs ss ps qs : List LV) : List LB := [.cells [.slo 1 0 n 0] none, .cells cs (some 2), .cells ss none, .cells ps (some 2), .cells qs (some 2)]
abbrev rpBL : List Nat := [0, 1, 4, 5, 6, 12, 13, 14]
theorem rpB_a (n ns : Nat) (cs ss : List LV) (K : Pk) : (xsp Go.Proofs.Try.prog cxr 40 36 (seg (sp Go.Proofs.Try.prog 8) 0 3) (tm0 [.ptr 0 0, .sl 2 0 ns ns]) (mkS [.cells [.slo 1 0 n 0] none, .cells cs (some 2), .cells ss none]) (vK rpBL K)) = (
  K .normal [.ptr 0 0, .sl 2 0 ns ns, .nils, .nils, .nils, .slo 1 0 n 0, .int .i64 ↑n, .int .i64 0] [some (.cells [.slo 1 0 n 0] none), some (.cells cs (some 2)), some (.cells ss none)] []) := by kernel_rfl
theorem rpB_b (n ns k p q : Nat) (cs ss ps qs : List LV) (K : Pk) : (xcode Go.Proofs.Try.prog cxr 40 36 (loopOf (nthC (sp Go.Proofs.Try.prog 8) 3)) (mkTm 36 (rpBT n ns k p q)) (mkS (rpBH n cs ss ps qs)) (vK rpBL K)) = (
  bif xcm .lss ↑k ↑n then (
   bif xle (xadd (xnat ↑k) 1) n then
   bif xle (xadd (xix 0 (xnat ↑k) 2) 2) (xln cs) then
   bif isI .i64 (nthD cs (xix 0 (xnat ↑k) 2)) then
   bif isI .u64 (nthD cs (xadd (xix 0 (xnat ↑k) 2) 1)) then
   bif xeq ns ns then
   bif okIu64 ss ns then
   bif psdW ss (asI (nthD cs (xadd (xix 0 (xnat ↑k) 2) 1))) then (
    bif xle (xadd p 1) 1000000 then
    bif xle (xadd 0 (xmul p 2)) (xln ps) then
    K .normal [.ptr 0 0, .sl 2 0 ns ns, .any, .slo 7 0 (xadd p 1) 0, .slo 4 0 q 0, .slo 1 0 n 0, .int .i64 ↑n, .int .i64 (xar .add .i64 (↑k) 1)] [some (.cells [.slo 1 0 n 0] none), some (.cells cs (some 2)), some (.cells ss none), some .dead, some (.cells qs (some 2)), some (.cells [.int .i64 (asI (nthD cs (xix 0 (xnat ↑k) 2))), .int .u64 (asI (nthD cs (xadd (xix 0 (xnat ↑k) 2) 1)))] none), some (.cells [.int .i64 (asI (nthD cs (xix 0 (xnat ↑k) 2))), .int .u64 (asI (nthD cs (xadd (xix 0 (xnat ↑k) 2) 1)))] none), some (.cells (xcat (xcut ps 0 (xmul p 2)) [.int .i64 (asI (nthD cs (xix 0 (xnat ↑k) 2))), .int .u64 (asI (nthD cs (xadd (xix 0 (xnat ↑k) 2) 1)))]) (some 2))] []
    else False
    else False)
   else (
    bif xle (xadd q 1) 1000000 then
    bif xle (xadd 0 (xmul q 2)) (xln qs) then
    K .normal [.ptr 0 0, .sl 2 0 ns ns, .any, .slo 3 0 p 0, .slo 7 0 (xadd q 1) 0, .slo 1 0 n 0, .int .i64 ↑n, .int .i64 (xar .add .i64 (↑k) 1)] [some (.cells [.slo 1 0 n 0] none), some (.cells cs (some 2)), some (.cells ss none), some (.cells ps (some 2)), some .dead, some (.cells [.int .i64 (asI (nthD cs (xix 0 (xnat ↑k) 2))), .int .u64 (asI (nthD cs (xadd (xix 0 (xnat ↑k) 2) 1)))] none), some (.cells [.int .i64 (asI (nthD cs (xix 0 (xnat ↑k) 2))), .int .u64 (asI (nthD cs (xadd (xix 0 (xnat ↑k) 2) 1)))] none), some (.cells (xcat (xcut qs 0 (xmul q 2)) [.int .i64 (asI (nthD cs (xix 0 (xnat ↑k) 2))), .int .u64 (asI (nthD cs (xadd (xix 0 (xnat ↑k) 2) 1)))]) (some 2))] []
    else False
    else False)
   else False
   else False
   else False
   else False
   else False
   else False)
  else (
   K (.exit 0) [.ptr 0 0, .sl 2 0 ns ns, .any, .slo 3 0 p 0, .slo 4 0 q 0, .slo 1 0 n 0, .int .i64 ↑n, .int .i64 ↑k] [some (.cells [.slo 1 0 n 0] none), some (.cells cs (some 2)), some (.cells ss none), some (.cells ps (some 2)), some (.cells qs (some 2))] [])) := by kernel_rfl
theorem rpB_z (n ns k p q : Nat) (cs ss ps qs : List LV) (K : Pk) : (xsp Go.Proofs.Try.prog cxr 40 36 ((sp Go.Proofs.Try.prog 8).drop 4) (mkTm 36 (rpBT n ns k p q)) (mkS (rpBH n cs ss ps qs)) (vK rpBL K)) = (
  K .ret [.ptr 0 0, .sl 2 0 ns ns, .slo 3 0 p 0, .slo 3 0 p 0, .slo 4 0 q 0, .slo 1 0 n 0, .int .i64 ↑n, .int .i64 ↑k] [some (.cells [.slo 4 0 q 0] none), some (.cells cs (some 2)), some (.cells ss none), some (.cells ps (some 2)), some (.cells qs (some 2))] []) := by kernel_rfl
theorem rpB_ok (xs : List (Int × Int)) (zs : List Int) (n ns : Nat) (en : xs.length = n) (es : zs.length = ns) (hn : n < 1000000) (hs : ns ≤ 9223372036854775807) (ss : List LV) (ess : ss = encL (cI .u64) zs) :
    SFun Go.Proofs.Try.prog 8 [.ptr 0 0, .sl 2 0 ns ns] (mkS [.cells [.slo 1 0 n 0] none, .cells (encL cell xs) (some 2), .cells ss none])
    fun l s => l = .slo 3 0 (xs.filter (fun x => psd zs x.2)).length 0 ∧ s = mkS [.cells [.slo 4 0 (xs.filter (fun x => !psd zs x.2)).length 0] none, .dead, .cells ss none, .cells (encL cell (xs.filter (fun x => psd zs x.2))) (some 2), .cells (encL cell (xs.filter (fun x => !psd zs x.2))) (some 2)] := by
  refine SFun.mono (SFun.pieces (Q := fun l b => l = .slo 3 0 (xs.filter (fun x => psd zs x.2)).length 0 ∧ b = [.cells [.slo 4 0 (xs.filter (fun x => !psd zs x.2)).length 0] none, .dead, .cells ss none, .cells (encL cell (xs.filter (fun x => psd zs x.2))) (some 2), .cells (encL cell (xs.filter (fun x => !psd zs x.2))) (some 2)]) 36 3 rpBL [4] (by kernel_rfl) rfl rfl rfl ?_) fun l s' ⟨b0, ⟨h1, h2⟩, h3⟩ => ⟨h1, by rw [h3, h2]⟩
  have nx := noids_c xs
  have nz : noIds ss = true := by rw [ess]; exact noIds_Iu64 zs
  have lx := cell_n xs
  have okz : okIu64 ss ns = true := by rw [ess, ← es]; exact okIu64_enc (by omega)
  have hw : ∀ st, psdW ss st = psd zs st := fun st => by simp only [psdW, ess, decIu64_enc]
  refine SSp.to cxr_ok (n := 40) (g := []) 3 3 rfl (σ := Unit) (fun _ => rpBT n ns 0 0 0) (fun _ => rpBH n (encL cell xs) ss [] []) (mkS_le (Nat.le_refl _)) (by kernel_rfl) ?_ fun _ => ?_
  · rw [rpB_a]
    (repeat (with_reducible refine must (by (first | with_reducible rfl | exact t_le (by omega) | exact t_eq (by omega) | exact t_nn (by omega) | exact t_lss (by omega) | exact t_leq (by omega) | exact t_gtr (by omega) | exact t_geq (by omega) | exact t_eql (by omega) | exact t_neq (by omega) | exact t_z (by omega) | exact wd_not_f | assumption)) ?_))
    exact ⟨rfl, (), [.id 0, .id 1, .id 2, .none, .none], by (exact ⟨by kernel_rfl, by ((repeat refine okTms_cons (by (first | exact lw_any | exact lw_int | exact lw_bool | exact lw_ptr rfl | exact lw_slo rfl | exact lw_nilp | exact lw_nils | exact lw_str | exact lw_slo_nils | exact lw_slo_sle | exact lw_sl rfl | exact lw_unb | exact lw_gptr | exact lw_noid rfl | exact lw_cap rfl (Nat.le_refl _) | exact lw_cap rfl (by omega) | assumption)) ?_); exact okTms_nil), by ((repeat refine okBlks_cons (by (first | exact lb_dead | exact lb_same (by (first | assumption | exact noIds_tab (fun _ => rfl) _ _ | exact noIds_encL (fun _ => rfl) _ | rfl)) | exact lb_ro (by (first | assumption | exact noIds_tab (fun _ => rfl) _ _ | exact noIds_encL (fun _ => rfl) _ | rfl)) | exact lb_none | exact lb_cells (by ((repeat refine lws_cons (by (first | exact lw_any | exact lw_int | exact lw_bool | exact lw_ptr rfl | exact lw_slo rfl | exact lw_nilp | exact lw_nils | exact lw_str | exact lw_slo_nils | exact lw_slo_sle | exact lw_sl rfl | exact lw_unb | exact lw_gptr | exact lw_noid rfl | exact lw_cap rfl (Nat.le_refl _) | exact lw_cap rfl (by omega) | assumption)) ?_); exact lws_nil)) (by simp) | exact lb_iter | exact lb_cap (Nat.le_refl _) (Nat.le_refl _) rfl rfl | assumption)) ?_); exact okBlks_nil)⟩)⟩
  refine SSp.code_to (g := []) 4 rfl (σ := Unit) (fun _ => rpBT n ns n (xs.filter (fun x => psd zs x.2)).length (xs.filter (fun x => !psd zs x.2)).length) (fun _ => rpBH n (encL cell xs) ss (encL cell (xs.filter (fun x => psd zs x.2))) (encL cell (xs.filter (fun x => !psd zs x.2)))) (by kernel_rfl) ?_ fun _ => ?_
  · refine SCode.loop_vc cxr_ok (n := 40) 0 (by kernel_rfl) (σ := {k : Nat // k ≤ n}) (fun k => rpBT n ns k.1 ((xs.take k.1).filter (fun x => psd zs x.2)).length ((xs.take k.1).filter (fun x => !psd zs x.2)).length) (fun k => rpBH n (encL cell xs) ss (encL cell ((xs.take k.1).filter (fun x => psd zs x.2))) (encL cell ((xs.take k.1).filter (fun x => !psd zs x.2)))) (fun k => n - k.1) (fun _ => Nat.le_of_ble_eq_true rfl) (fun ⟨k, hk⟩ => ?_) ⟨0, Nat.zero_le _⟩
    dsimp only
    have n1 := noids_c ((xs.take k).filter (fun x => psd zs x.2))
    have n2 := noids_c ((xs.take k).filter (fun x => !psd zs x.2))
    have l1 := List.length_filter_le (fun x : Int × Int => psd zs x.2) (xs.take k)
    have l2 := List.length_filter_le (fun x : Int × Int => !psd zs x.2) (xs.take k)
    have l3 := List.length_take_le k xs
    rw [rpB_b, wd_lss]
    refine ite_way (fun h0 => ?_) (fun h0 => ?_)
    · have h1 : k < xs.length := by omega
      have et : xs.take (k + 1) = xs.take k ++ [xs[k]] := by rw [List.take_add_one, List.getElem?_eq_getElem h1]; rfl
      simp only [wd_nat, wd_ix, wd_add, wd_mul, wd_ln, Nat.zero_add, Nat.mul_one, wd_isI, wd_asI, wd_isB, wd_asB, wd_nn, cI_tlen, cB_tlen, cII_tlen, decide_true, cond_true, wd_not_t, wd_not_f, wd_and_t, wd_and_f, cell_0 h1, cell_1 h1, cell_n, inc_i64 h0 (show n ≤ 9223372036854775807 by omega), okz, hw, cell_push]
      (repeat (with_reducible refine must (by (first | with_reducible rfl | exact t_le (by omega) | exact t_eq (by omega) | exact t_nn (by omega) | exact t_lss (by omega) | exact t_leq (by omega) | exact t_gtr (by omega) | exact t_geq (by omega) | exact t_eql (by omega) | exact t_neq (by omega) | exact t_z (by omega) | exact wd_not_f | assumption)) ?_))
      refine ways (fun hp => ?_) (fun hp => ?_)
      · have e1 : (xs.take (k + 1)).filter (fun x => psd zs x.2) = (xs.take k).filter (fun x => psd zs x.2) ++ [(xs[k].1, xs[k].2)] := by rw [et, List.filter_append]; simp [hp]
        have e2 : (xs.take (k + 1)).filter (fun x => !psd zs x.2) = (xs.take k).filter (fun x => !psd zs x.2) := by rw [et, List.filter_append]; simp [hp]
        have n3 := noids_c ((xs.take k).filter (fun x => psd zs x.2) ++ [(xs[k].1, xs[k].2)])
        (repeat (with_reducible refine must (by (first | with_reducible rfl | exact t_le (by omega) | exact t_eq (by omega) | exact t_nn (by omega) | exact t_lss (by omega) | exact t_leq (by omega) | exact t_gtr (by omega) | exact t_geq (by omega) | exact t_eql (by omega) | exact t_neq (by omega) | exact t_z (by omega) | exact wd_not_f | assumption)) ?_))
        exact ⟨rfl, ⟨k + 1, h0⟩, by simp only; omega, [.id 0, .id 1, .id 2, .id 7, .id 4], by simp only [e1, e2, List.length_append, List.length_cons, List.length_nil, Nat.zero_add]; (exact ⟨by kernel_rfl, by ((repeat refine okTms_cons (by (first | exact lw_any | exact lw_int | exact lw_bool | exact lw_ptr rfl | exact lw_slo rfl | exact lw_nilp | exact lw_nils | exact lw_str | exact lw_slo_nils | exact lw_slo_sle | exact lw_sl rfl | exact lw_unb | exact lw_gptr | exact lw_noid rfl | exact lw_cap rfl (Nat.le_refl _) | exact lw_cap rfl (by omega) | assumption)) ?_); exact okTms_nil), by ((repeat refine okBlks_cons (by (first | exact lb_dead | exact lb_same (by (first | assumption | exact noIds_tab (fun _ => rfl) _ _ | exact noIds_encL (fun _ => rfl) _ | rfl)) | exact lb_ro (by (first | assumption | exact noIds_tab (fun _ => rfl) _ _ | exact noIds_encL (fun _ => rfl) _ | rfl)) | exact lb_none | exact lb_cells (by ((repeat refine lws_cons (by (first | exact lw_any | exact lw_int | exact lw_bool | exact lw_ptr rfl | exact lw_slo rfl | exact lw_nilp | exact lw_nils | exact lw_str | exact lw_slo_nils | exact lw_slo_sle | exact lw_sl rfl | exact lw_unb | exact lw_gptr | exact lw_noid rfl | exact lw_cap rfl (Nat.le_refl _) | exact lw_cap rfl (by omega) | assumption)) ?_); exact lws_nil)) (by simp) | exact lb_iter | exact lb_cap (Nat.le_refl _) (Nat.le_refl _) rfl rfl | assumption)) ?_); exact okBlks_nil)⟩)⟩
      · have e1 : (xs.take (k + 1)).filter (fun x => !psd zs x.2) = (xs.take k).filter (fun x => !psd zs x.2) ++ [(xs[k].1, xs[k].2)] := by rw [et, List.filter_append]; simp [hp]
        have e2 : (xs.take (k + 1)).filter (fun x => psd zs x.2) = (xs.take k).filter (fun x => psd zs x.2) := by rw [et, List.filter_append]; simp [hp]
        have n3 := noids_c ((xs.take k).filter (fun x => !psd zs x.2) ++ [(xs[k].1, xs[k].2)])
        (repeat (with_reducible refine must (by (first | with_reducible rfl | exact t_le (by omega) | exact t_eq (by omega) | exact t_nn (by omega) | exact t_lss (by omega) | exact t_leq (by omega) | exact t_gtr (by omega) | exact t_geq (by omega) | exact t_eql (by omega) | exact t_neq (by omega) | exact t_z (by omega) | exact wd_not_f | assumption)) ?_))
        exact ⟨rfl, ⟨k + 1, h0⟩, by simp only; omega, [.id 0, .id 1, .id 2, .id 3, .id 7], by simp only [e1, e2, List.length_append, List.length_cons, List.length_nil, Nat.zero_add]; (exact ⟨by kernel_rfl, by ((repeat refine okTms_cons (by (first | exact lw_any | exact lw_int | exact lw_bool | exact lw_ptr rfl | exact lw_slo rfl | exact lw_nilp | exact lw_nils | exact lw_str | exact lw_slo_nils | exact lw_slo_sle | exact lw_sl rfl | exact lw_unb | exact lw_gptr | exact lw_noid rfl | exact lw_cap rfl (Nat.le_refl _) | exact lw_cap rfl (by omega) | assumption)) ?_); exact okTms_nil), by ((repeat refine okBlks_cons (by (first | exact lb_dead | exact lb_same (by (first | assumption | exact noIds_tab (fun _ => rfl) _ _ | exact noIds_encL (fun _ => rfl) _ | rfl)) | exact lb_ro (by (first | assumption | exact noIds_tab (fun _ => rfl) _ _ | exact noIds_encL (fun _ => rfl) _ | rfl)) | exact lb_none | exact lb_cells (by ((repeat refine lws_cons (by (first | exact lw_any | exact lw_int | exact lw_bool | exact lw_ptr rfl | exact lw_slo rfl | exact lw_nilp | exact lw_nils | exact lw_str | exact lw_slo_nils | exact lw_slo_sle | exact lw_sl rfl | exact lw_unb | exact lw_gptr | exact lw_noid rfl | exact lw_cap rfl (Nat.le_refl _) | exact lw_cap rfl (by omega) | assumption)) ?_); exact lws_nil)) (by simp) | exact lb_iter | exact lb_cap (Nat.le_refl _) (Nat.le_refl _) rfl rfl | assumption)) ?_); exact okBlks_nil)⟩)⟩
    · obtain rfl : k = n := by omega
      rw [List.take_of_length_le (by omega)] at n1 n2
      exact ⟨rfl, (), [.id 0, .id 1, .id 2, .id 3, .id 4], by rw [List.take_of_length_le (by omega)]; (exact ⟨by kernel_rfl, by ((repeat refine okTms_cons (by (first | exact lw_any | exact lw_int | exact lw_bool | exact lw_ptr rfl | exact lw_slo rfl | exact lw_nilp | exact lw_nils | exact lw_str | exact lw_slo_nils | exact lw_slo_sle | exact lw_sl rfl | exact lw_unb | exact lw_gptr | exact lw_noid rfl | exact lw_cap rfl (Nat.le_refl _) | exact lw_cap rfl (by omega) | assumption)) ?_); exact okTms_nil), by ((repeat refine okBlks_cons (by (first | exact lb_dead | exact lb_same (by (first | assumption | exact noIds_tab (fun _ => rfl) _ _ | exact noIds_encL (fun _ => rfl) _ | rfl)) | exact lb_ro (by (first | assumption | exact noIds_tab (fun _ => rfl) _ _ | exact noIds_encL (fun _ => rfl) _ | rfl)) | exact lb_none | exact lb_cells (by ((repeat refine lws_cons (by (first | exact lw_any | exact lw_int | exact lw_bool | exact lw_ptr rfl | exact lw_slo rfl | exact lw_nilp | exact lw_nils | exact lw_str | exact lw_slo_nils | exact lw_slo_sle | exact lw_sl rfl | exact lw_unb | exact lw_gptr | exact lw_noid rfl | exact lw_cap rfl (Nat.le_refl _) | exact lw_cap rfl (by omega) | assumption)) ?_); exact lws_nil)) (by simp) | exact lb_iter | exact lb_cap (Nat.le_refl _) (Nat.le_refl _) rfl rfl | assumption)) ?_); exact okBlks_nil)⟩)⟩
  refine SSp.last cxr_ok (n := 40) (mkS_le (by simp)) ?_
  rw [rpB_z]
  have n1 := noids_c (xs.filter (fun x => psd zs x.2))
  have n2 := noids_c (xs.filter (fun x => !psd zs x.2))
  (repeat (with_reducible refine must (by (first | with_reducible rfl | exact t_le (by omega) | exact t_eq (by omega) | exact t_nn (by omega) | exact t_lss (by omega) | exact t_leq (by omega) | exact t_gtr (by omega) | exact t_geq (by omega) | exact t_eql (by omega) | exact t_neq (by omega) | exact t_z (by omega) | exact wd_not_f | assumption)) ?_))
  exact ⟨trivial, rfl, _, _, [.id 0, .id 1, .id 2, .id 3, .id 4], ⟨rfl, rfl⟩, by (exact ⟨by kernel_rfl, by ((repeat refine okTms_cons (by (first | exact lw_any | exact lw_int | exact lw_bool | exact lw_ptr rfl | exact lw_slo rfl | exact lw_nilp | exact lw_nils | exact lw_str | exact lw_slo_nils | exact lw_slo_sle | exact lw_sl rfl | exact lw_unb | exact lw_gptr | exact lw_noid rfl | exact lw_cap rfl (Nat.le_refl _) | exact lw_cap rfl (by omega) | assumption)) ?_); exact okTms_nil), by ((repeat refine okBlks_cons (by (first | exact lb_dead | exact lb_same (by (first | assumption | exact noIds_tab (fun _ => rfl) _ _ | exact noIds_encL (fun _ => rfl) _ | rfl)) | exact lb_ro (by (first | assumption | exact noIds_tab (fun _ => rfl) _ _ | exact noIds_encL (fun _ => rfl) _ | rfl)) | exact lb_none | exact lb_cells (by ((repeat refine lws_cons (by (first | exact lw_any | exact lw_int | exact lw_bool | exact lw_ptr rfl | exact lw_slo rfl | exact lw_nilp | exact lw_nils | exact lw_str | exact lw_slo_nils | exact lw_slo_sle | exact lw_sl rfl | exact lw_unb | exact lw_gptr | exact lw_noid rfl | exact lw_cap rfl (Nat.le_refl _) | exact lw_cap rfl (by omega) | assumption)) ?_); exact lws_nil)) (by simp) | exact lb_iter | exact lb_cap (Nat.le_refl _) (Nat.le_refl _) rfl rfl | assumption)) ?_); exact okBlks_nil)⟩)⟩

abbrev adAT (st : Int) (n k : Nat) : List (Nat × LV) := [(0, .ptr 0 0), (1, .int .u64 st), (8, .sl 2 0 n n), (9, .int .i64 n), (10, .int .i64 k)]
abbrev adAH (m : Nat) (cs bs : List LV) : List LB := [.cells [.slo 3 0 m 0] none, .dead, .cells bs none, .cells cs (some 2)]
abbrev adAI (m : Nat) (cs bs : List LV) : List LB := [.cells [.slo 1 0 m 0] none, .cells cs (some 2), .cells bs none]
abbrev adAL : List Nat := [0, 1, 8, 9, 10]
theorem adA_a (st : Int) (m n : Nat) (cs bs : List LV) (K : Pk) : (xsp Go.Proofs.Try.prog (fun _ => none) 40 27 (seg (sp Go.Proofs.Try.prog 7) 0 1) (tm0 [.ptr 0 0, .int .u64 st, .sl 2 0 n n]) (mkS (adAI m cs bs)) (vK adAL K)) = (
  K .normal [.ptr 0 0, .int .u64 st, .sl 2 0 n n, .int .i64 ↑n, .int .i64 0] [some (.cells [.slo 1 0 m 0] none), some (.cells cs (some 2)), some (.cells bs none)] []) := by kernel_rfl
theorem adA_b (st : Int) (m n k : Nat) (cs bs : List LV) (K : Pk) : (xcode Go.Proofs.Try.prog (fun _ => none) 40 27 (loopOf (nthC (sp Go.Proofs.Try.prog 7) 1)) (mkTm 27 (adAT st n k)) (mkS (adAH m cs bs)) (vK adAL K)) = (
  bif xcm .lss ↑k ↑n then (
   bif xle (xadd (xnat ↑k) 1) n then
   bif xle (xadd (xix 0 (xnat ↑k) 1) 1) (xln bs) then
   bif isI .i64 (nthD bs (xix 0 (xnat ↑k) 1)) then
   bif xle (xadd m 1) 1000000 then
   bif xle (xadd 0 (xmul m 2)) (xln cs) then
   K .normal [.ptr 0 0, .int .u64 st, .sl 2 0 n n, .int .i64 ↑n, .int .i64 (xar .add .i64 (↑k) 1)] [some (.cells [.slo 5 0 (xadd m 1) 0] none), some .dead, some (.cells bs none), some .dead, some (.cells [.int .i64 (asI (nthD bs (xix 0 (xnat ↑k) 1))), .int .u64 st] none), some (.cells (xcat (xcut cs 0 (xmul m 2)) [.int .i64 (asI (nthD bs (xix 0 (xnat ↑k) 1))), .int .u64 st]) (some 2))] []
   else False
   else False
   else False
   else False
   else False)
  else (
   K (.exit 0) [.ptr 0 0, .int .u64 st, .sl 2 0 n n, .int .i64 ↑n, .int .i64 ↑k] [some (.cells [.slo 3 0 m 0] none), some .dead, some (.cells bs none), some (.cells cs (some 2))] [])) := by kernel_rfl
theorem adA_ok (st : Int) (xs : List (Int × Int)) (zs : List Int) (m n : Nat) (en : xs.length = m) (ez : zs.length = n) (hn : m + n < 1000000) (bs : List LV) (ebs : bs = encL (cI .i64) zs) :
    SFun Go.Proofs.Try.prog 7 [.ptr 0 0, .int .u64 st, .sl 2 0 n n] (mkS (adAI m (encL cell xs) bs))
    fun l s => l = .tup [] ∧ s = mkS [.cells [.slo 3 0 (m + n) 0] none, .dead, .cells bs none, .cells (encL cell (xs ++ zs.map (fun z => (z, st)))) (some 2)] := by
  refine SFun.mono (SFun.pieces (Q := fun l b => l = .tup [] ∧ b = [.cells [.slo 3 0 (m + n) 0] none, .dead, .cells bs none, .cells (encL cell (xs ++ zs.map (fun z => (z, st)))) (some 2)]) 27 3 adAL [] (by kernel_rfl) rfl rfl rfl ?_) fun l s' ⟨b0, ⟨h1, h2⟩, h3⟩ => ⟨h1, by rw [h3, h2]⟩
  have nz : noIds bs = true := by rw [ebs]; exact noIds_Ii64 zs
  have nx := noids_c xs
  have e0 : xs ++ (zs.take 0).map (fun z => (z, st)) = xs := by simp
  refine SSp.to noCx_ok (n := 40) (g := []) 1 1 rfl (σ := Unit) (fun _ => adAT st n 0) (fun _ => adAH m (encL cell (xs ++ (zs.take 0).map (fun z => (z, st)))) bs) (mkS_le (Nat.le_refl _)) (by kernel_rfl) ?_ fun _ => ?_
  · rw [adA_a]
    exact ⟨rfl, (), [.id 0, .id 1, .id 2, .id 1], by rw [e0]; (exact ⟨by kernel_rfl, by ((repeat refine okTms_cons (by (first | exact lw_any | exact lw_int | exact lw_bool | exact lw_ptr rfl | exact lw_slo rfl | exact lw_nilp | exact lw_nils | exact lw_str | exact lw_slo_nils | exact lw_slo_sle | exact lw_sl rfl | exact lw_unb | exact lw_gptr | exact lw_noid rfl | exact lw_cap rfl (Nat.le_refl _) | exact lw_cap rfl (by omega) | assumption)) ?_); exact okTms_nil), by ((repeat refine okBlks_cons (by (first | exact lb_dead | exact lb_same (by (first | assumption | exact noIds_tab (fun _ => rfl) _ _ | exact noIds_encL (fun _ => rfl) _ | rfl)) | exact lb_ro (by (first | assumption | exact noIds_tab (fun _ => rfl) _ _ | exact noIds_encL (fun _ => rfl) _ | rfl)) | exact lb_none | exact lb_cells (by ((repeat refine lws_cons (by (first | exact lw_any | exact lw_int | exact lw_bool | exact lw_ptr rfl | exact lw_slo rfl | exact lw_nilp | exact lw_nils | exact lw_str | exact lw_slo_nils | exact lw_slo_sle | exact lw_sl rfl | exact lw_unb | exact lw_gptr | exact lw_noid rfl | exact lw_cap rfl (Nat.le_refl _) | exact lw_cap rfl (by omega) | assumption)) ?_); exact lws_nil)) (by simp) | exact lb_iter | exact lb_cap (Nat.le_refl _) (Nat.le_refl _) rfl rfl | assumption)) ?_); exact okBlks_nil)⟩)⟩
  refine SSp.code_last (by kernel_rfl) ?_
  refine SCode.loop_vc (n0 := 3) noCx_ok (n := 40) 0 (by kernel_rfl) (σ := {k : Nat // k ≤ n}) (fun k => adAT st n k.1) (fun k => adAH (m + k.1) (encL cell (xs ++ (zs.take k.1).map (fun z => (z, st)))) bs) (fun k => n - k.1) (fun _ => Nat.le_of_ble_eq_true rfl) (fun ⟨k, hk⟩ => ?_) ⟨0, Nat.zero_le _⟩
  dsimp only
  have n1 := noids_c (xs ++ (zs.take k).map (fun z => (z, st)))
  rw [adA_b, wd_lss]
  refine ite_way (fun h0 => ?_) (fun h0 => ?_)
  · have h1 : k < zs.length := by omega
    have ll : (xs ++ (zs.take k).map (fun z => (z, st))).length = m + k := by simp; omega
    have et : zs.take (k + 1) = zs.take k ++ [zs[k]] := by rw [List.take_add_one, List.getElem?_eq_getElem h1]; rfl
    have e1 : xs ++ (zs.take (k + 1)).map (fun z => (z, st)) = (xs ++ (zs.take k).map (fun z => (z, st))) ++ [(zs[k], st)] := by rw [et, List.map_append, List.append_assoc]; rfl
    have pu := cell_push (xs ++ (zs.take k).map (fun z => (z, st))) zs[k] st
    rw [ll] at pu
    have n3 := noids_c ((xs ++ (zs.take k).map (fun z => (z, st))) ++ [(zs[k], st)])
    have hb0 : nthD bs k = .int .i64 zs[k] := by rw [ebs]; exact encIi64_nth h1
    have hb1 : bs.length = n := by rw [ebs, encIi64_len, ez]
    simp only [wd_nat, wd_ix, wd_add, wd_mul, wd_ln, Nat.zero_add, Nat.mul_one, wd_isI, wd_asI, wd_isB, wd_asB, wd_nn, cI_tlen, cB_tlen, cII_tlen, decide_true, cond_true, wd_not_t, wd_not_f, wd_and_t, wd_and_f, hb0, hb1, cell_n, ll, inc_i64 h0 (show n ≤ 9223372036854775807 by omega), pu]
    (repeat (with_reducible refine must (by (first | with_reducible rfl | exact t_le (by omega) | exact t_eq (by omega) | exact t_nn (by omega) | exact t_lss (by omega) | exact t_leq (by omega) | exact t_gtr (by omega) | exact t_geq (by omega) | exact t_eql (by omega) | exact t_neq (by omega) | exact t_z (by omega) | exact wd_not_f | assumption)) ?_))
    exact ⟨rfl, ⟨k + 1, h0⟩, by simp only; omega, [.id 0, .id 1, .id 2, .id 5], by dsimp only; rw [e1]; (exact ⟨by kernel_rfl, by ((repeat refine okTms_cons (by (first | exact lw_any | exact lw_int | exact lw_bool | exact lw_ptr rfl | exact lw_slo rfl | exact lw_nilp | exact lw_nils | exact lw_str | exact lw_slo_nils | exact lw_slo_sle | exact lw_sl rfl | exact lw_unb | exact lw_gptr | exact lw_noid rfl | exact lw_cap rfl (Nat.le_refl _) | exact lw_cap rfl (by omega) | assumption)) ?_); exact okTms_nil), by ((repeat refine okBlks_cons (by (first | exact lb_dead | exact lb_same (by (first | assumption | exact noIds_tab (fun _ => rfl) _ _ | exact noIds_encL (fun _ => rfl) _ | rfl)) | exact lb_ro (by (first | assumption | exact noIds_tab (fun _ => rfl) _ _ | exact noIds_encL (fun _ => rfl) _ | rfl)) | exact lb_none | exact lb_cells (by ((repeat refine lws_cons (by (first | exact lw_any | exact lw_int | exact lw_bool | exact lw_ptr rfl | exact lw_slo rfl | exact lw_nilp | exact lw_nils | exact lw_str | exact lw_slo_nils | exact lw_slo_sle | exact lw_sl rfl | exact lw_unb | exact lw_gptr | exact lw_noid rfl | exact lw_cap rfl (Nat.le_refl _) | exact lw_cap rfl (by omega) | assumption)) ?_); exact lws_nil)) (by simp) | exact lb_iter | exact lb_cap (Nat.le_refl _) (Nat.le_refl _) rfl rfl | assumption)) ?_); exact okBlks_nil)⟩)⟩
  · obtain rfl : k = n := by omega
    rw [List.take_of_length_le (by omega)] at n1
    exact ⟨trivial, rfl, _, _, [.id 0, .id 1, .id 2, .id 3], ⟨rfl, rfl⟩, by rw [List.take_of_length_le (by omega)]; (exact ⟨by kernel_rfl, by ((repeat refine okTms_cons (by (first | exact lw_any | exact lw_int | exact lw_bool | exact lw_ptr rfl | exact lw_slo rfl | exact lw_nilp | exact lw_nils | exact lw_str | exact lw_slo_nils | exact lw_slo_sle | exact lw_sl rfl | exact lw_unb | exact lw_gptr | exact lw_noid rfl | exact lw_cap rfl (Nat.le_refl _) | exact lw_cap rfl (by omega) | assumption)) ?_); exact okTms_nil), by ((repeat refine okBlks_cons (by (first | exact lb_dead | exact lb_same (by (first | assumption | exact noIds_tab (fun _ => rfl) _ _ | exact noIds_encL (fun _ => rfl) _ | rfl)) | exact lb_ro (by (first | assumption | exact noIds_tab (fun _ => rfl) _ _ | exact noIds_encL (fun _ => rfl) _ | rfl)) | exact lb_none | exact lb_cells (by ((repeat refine lws_cons (by (first | exact lw_any | exact lw_int | exact lw_bool | exact lw_ptr rfl | exact lw_slo rfl | exact lw_nilp | exact lw_nils | exact lw_str | exact lw_slo_nils | exact lw_slo_sle | exact lw_sl rfl | exact lw_unb | exact lw_gptr | exact lw_noid rfl | exact lw_cap rfl (Nat.le_refl _) | exact lw_cap rfl (by omega) | assumption)) ?_); exact lws_nil)) (by simp) | exact lb_iter | exact lb_cap (Nat.le_refl _) (Nat.le_refl _) rfl rfl | assumption)) ?_); exact okBlks_nil)⟩)⟩

def ripC (cs ss : List LV) : List LV := encL cell ((decC cs).filter (fun x => psd (decIu64 ss) x.2))

def ripN (cs ss : List LV) : Nat := ((decC cs).filter (fun x => psd (decIu64 ss) x.2)).length

def rstC (cs ss : List LV) : List LV := encL cell ((decC cs).filter (fun x => !psd (decIu64 ss) x.2))

def rstN (cs ss : List LV) : Nat := ((decC cs).filter (fun x => !psd (decIu64 ss) x.2)).length

def ripGA : Gc := fun args s => match args, s.g with
  | [.ptr b 0, .slo c 0 ns 0], [] => (match s.h.get b with
    | some (.cells [.slo d 0 n 0] none) => (match s.h.get d, s.h.get c with
      | some (.cells cs (some 2)), some (.cells ss (some 1)) => cond (Nat.beq b d || (Nat.beq b c || Nat.beq d c)) none (match s.lay [b, d, c] [.cells [.slo (Nat.succ s.n) 0 (rstN cs ss) 0] none, .dead, .cells ss (some 1)] [.cells (ripC cs ss) (some 2), .cells (rstC cs ss) (some 2)] with
        | some s' => some ([okC cs n, okIu64 ss ns, xle (xadd n 1) 1000000], .slo s.n 0 (ripN cs ss) 0, s')
        | none => none)
      | _, _ => none)
    | _ => none)
  | _, _ => none
def ripGB : Gc := fun args s => match args, s.g with
  | [.ptr b 0, .sl c 0 ns ms], [] => (match s.h.get b with
    | some (.cells [.slo d 0 n 0] none) => (match s.h.get d, s.h.get c with
      | some (.cells cs (some 2)), some (.cells ss none) => cond (Nat.beq b d || (Nat.beq b c || Nat.beq d c)) none (match s.lay [b, d, c] [.cells [.slo (Nat.succ s.n) 0 (rstN cs ss) 0] none, .dead, .cells ss none] [.cells (ripC cs ss) (some 2), .cells (rstC cs ss) (some 2)] with
        | some s' => some ([okC cs n, okIu64 ss ns, xle (xadd n 1) 1000000, xeq ns ms], .slo s.n 0 (ripN cs ss) 0, s')
        | none => none)
      | _, _ => none)
    | _ => none)
  | _, _ => none
def ripG : Gc := fun args s => match args with
  | [_, .slo _ _ _ _] => ripGA args s
  | _ => ripGB args s
theorem ripGA_ok : GOk Go.Proofs.Try.prog 8 ripGA := by
  intro args s bs l s' hg hb hfr
  unfold ripGA at hg
  split at hg
  · rename_i b c ns hgl
    split at hg
    · rename_i d n hb1
      split at hg
      · rename_i cs ss hd1 hc1
        cases hbc : Nat.beq b d || (Nat.beq b c || Nat.beq d c) with
        | true => rw [hbc] at hg; cases hg
        | false =>
          rw [hbc] at hg
          simp only [cond_false] at hg
          simp only [Bool.or_eq_false_iff] at hbc
          split at hg
          · rename_i s1 hs1
            simp only [Option.some.injEq, Prod.mk.injEq] at hg
            obtain ⟨rfl, rfl, rfl⟩ := hg
            obtain ⟨k1, hb2⟩ := allT_cons.1 hb
            obtain ⟨k2, hb3⟩ := allT_cons.1 hb2
            obtain ⟨k3, hb4⟩ := allT_cons.1 hb3
            rw [wd_le, wd_add, decide_eq_true_eq] at k3
            obtain ⟨xs, rfl, en, h1⟩ := okC_iff.1 k1
            obtain ⟨zs, rfl, es, h2⟩ := okIu64_iff.1 k2
            have n1 := noids_c xs
            have n2 := noIds_Iu64 zs
            simp only [ripC, ripN, rstC, rstN, decC_enc, decIu64_enc] at hs1 ⊢
            refine SFun.lay (bs := [.cells [.slo 1 0 n 0] none, .cells (encL cell xs) (some 2), .cells (encL (cI .u64) zs) (some 1)]) (args0 := [.ptr 0 0, .slo 2 0 ns 0])
              (bs' := [.cells [.slo 4 0 (xs.filter (fun x => !psd zs x.2)).length 0] none, .dead, .cells (encL (cI .u64) zs) (some 1), .cells (encL cell (xs.filter (fun x => psd zs x.2))) (some 2), .cells (encL cell (xs.filter (fun x => !psd zs x.2))) (some 2)])
              (v0 := .slo 3 0 (xs.filter (fun x => psd zs x.2)).length 0) hfr hs1 (by simp [beq_ne hbc.1, beq_ne hbc.2.1, beq_ne hbc.2.2])
              ⟨⟨there hfr hb1, _, hb1, by (first | exact lb_dead | exact lb_same (by (first | assumption | exact noIds_tab (fun _ => rfl) _ _ | exact noIds_encL (fun _ => rfl) _ | rfl)) | exact lb_ro (by (first | assumption | exact noIds_tab (fun _ => rfl) _ _ | exact noIds_encL (fun _ => rfl) _ | rfl)) | exact lb_none | exact lb_cells (by ((repeat refine lws_cons (by (first | exact lw_any | exact lw_int | exact lw_bool | exact lw_ptr rfl | exact lw_slo rfl | exact lw_nilp | exact lw_nils | exact lw_str | exact lw_slo_nils | exact lw_slo_sle | exact lw_sl rfl | exact lw_unb | exact lw_gptr | exact lw_noid rfl | exact lw_cap rfl (Nat.le_refl _) | exact lw_cap rfl (by omega) | assumption)) ?_); exact lws_nil)) (by simp) | exact lb_iter | exact lb_cap (Nat.le_refl _) (Nat.le_refl _) rfl rfl | assumption), fun κ hκ => lb_cells (lws_cons (lw_slo (hκ 1 d rfl)) lws_nil) (by simp)⟩, ⟨there hfr hd1, _, hd1, by (first | exact lb_dead | exact lb_same (by (first | assumption | exact noIds_tab (fun _ => rfl) _ _ | exact noIds_encL (fun _ => rfl) _ | rfl)) | exact lb_ro (by (first | assumption | exact noIds_tab (fun _ => rfl) _ _ | exact noIds_encL (fun _ => rfl) _ | rfl)) | exact lb_none | exact lb_cells (by ((repeat refine lws_cons (by (first | exact lw_any | exact lw_int | exact lw_bool | exact lw_ptr rfl | exact lw_slo rfl | exact lw_nilp | exact lw_nils | exact lw_str | exact lw_slo_nils | exact lw_slo_sle | exact lw_sl rfl | exact lw_unb | exact lw_gptr | exact lw_noid rfl | exact lw_cap rfl (Nat.le_refl _) | exact lw_cap rfl (by omega) | assumption)) ?_); exact lws_nil)) (by simp) | exact lb_iter | exact lb_cap (Nat.le_refl _) (Nat.le_refl _) rfl rfl | assumption), fun κ hκ => by (first | exact lb_dead | exact lb_same (by (first | assumption | exact noIds_tab (fun _ => rfl) _ _ | exact noIds_encL (fun _ => rfl) _ | rfl)) | exact lb_ro (by (first | assumption | exact noIds_tab (fun _ => rfl) _ _ | exact noIds_encL (fun _ => rfl) _ | rfl)) | exact lb_none | exact lb_cells (by ((repeat refine lws_cons (by (first | exact lw_any | exact lw_int | exact lw_bool | exact lw_ptr rfl | exact lw_slo rfl | exact lw_nilp | exact lw_nils | exact lw_str | exact lw_slo_nils | exact lw_slo_sle | exact lw_sl rfl | exact lw_unb | exact lw_gptr | exact lw_noid rfl | exact lw_cap rfl (Nat.le_refl _) | exact lw_cap rfl (by omega) | assumption)) ?_); exact lws_nil)) (by simp) | exact lb_iter | exact lb_cap (Nat.le_refl _) (Nat.le_refl _) rfl rfl | assumption)⟩, ⟨there hfr hc1, _, hc1, by (first | exact lb_dead | exact lb_same (by (first | assumption | exact noIds_tab (fun _ => rfl) _ _ | exact noIds_encL (fun _ => rfl) _ | rfl)) | exact lb_ro (by (first | assumption | exact noIds_tab (fun _ => rfl) _ _ | exact noIds_encL (fun _ => rfl) _ | rfl)) | exact lb_none | exact lb_cells (by ((repeat refine lws_cons (by (first | exact lw_any | exact lw_int | exact lw_bool | exact lw_ptr rfl | exact lw_slo rfl | exact lw_nilp | exact lw_nils | exact lw_str | exact lw_slo_nils | exact lw_slo_sle | exact lw_sl rfl | exact lw_unb | exact lw_gptr | exact lw_noid rfl | exact lw_cap rfl (Nat.le_refl _) | exact lw_cap rfl (by omega) | assumption)) ?_); exact lws_nil)) (by simp) | exact lb_iter | exact lb_cap (Nat.le_refl _) (Nat.le_refl _) rfl rfl | assumption), fun κ hκ => by (first | exact lb_dead | exact lb_same (by (first | assumption | exact noIds_tab (fun _ => rfl) _ _ | exact noIds_encL (fun _ => rfl) _ | rfl)) | exact lb_ro (by (first | assumption | exact noIds_tab (fun _ => rfl) _ _ | exact noIds_encL (fun _ => rfl) _ | rfl)) | exact lb_none | exact lb_cells (by ((repeat refine lws_cons (by (first | exact lw_any | exact lw_int | exact lw_bool | exact lw_ptr rfl | exact lw_slo rfl | exact lw_nilp | exact lw_nils | exact lw_str | exact lw_slo_nils | exact lw_slo_sle | exact lw_sl rfl | exact lw_unb | exact lw_gptr | exact lw_noid rfl | exact lw_cap rfl (Nat.le_refl _) | exact lw_cap rfl (by omega) | assumption)) ?_); exact lws_nil)) (by simp) | exact lb_iter | exact lb_cap (Nat.le_refl _) (Nat.le_refl _) rfl rfl | assumption)⟩, trivial⟩ (by ((repeat refine lws_cons (by (first | exact lw_any | exact lw_int | exact lw_bool | exact lw_ptr rfl | exact lw_slo rfl | exact lw_nilp | exact lw_nils | exact lw_str | exact lw_slo_nils | exact lw_slo_sle | exact lw_sl rfl | exact lw_unb | exact lw_gptr | exact lw_noid rfl | exact lw_cap rfl (Nat.le_refl _) | exact lw_cap rfl (by omega) | assumption)) ?_); exact lws_nil)) ?_
              fun κ h1 h2 => ⟨⟨lb_cells (lws_cons (lw_slo (h2 1 (by simp))) lws_nil) (by simp), lb_dead, lb_same n2, lb_same (noids_c _), lb_same (noids_c _), trivial⟩, lw_slo (h2 0 (by simp))⟩
            rw [hgl]
            exact rpA_ok xs zs n ns en es (by omega) h2 _ rfl
          · cases hg
      · cases hg
    · cases hg
  · cases hg
theorem ripGB_ok : GOk Go.Proofs.Try.prog 8 ripGB := by
  intro args s bs l s' hg hb hfr
  unfold ripGB at hg
  split at hg
  · rename_i b c ns ms hgl
    split at hg
    · rename_i d n hb1
      split at hg
      · rename_i cs ss hd1 hc1
        cases hbc : Nat.beq b d || (Nat.beq b c || Nat.beq d c) with
        | true => rw [hbc] at hg; cases hg
        | false =>
          rw [hbc] at hg
          simp only [cond_false] at hg
          simp only [Bool.or_eq_false_iff] at hbc
          split at hg
          · rename_i s1 hs1
            simp only [Option.some.injEq, Prod.mk.injEq] at hg
            obtain ⟨rfl, rfl, rfl⟩ := hg
            obtain ⟨k1, hb2⟩ := allT_cons.1 hb
            obtain ⟨k2, hb3⟩ := allT_cons.1 hb2
            obtain ⟨k3, hb4⟩ := allT_cons.1 hb3
            have k4 := (allT_cons.1 hb4).1
            rw [wd_eq, decide_eq_true_eq] at k4
            subst k4
            rw [wd_le, wd_add, decide_eq_true_eq] at k3
            obtain ⟨xs, rfl, en, h1⟩ := okC_iff.1 k1
            obtain ⟨zs, rfl, es, h2⟩ := okIu64_iff.1 k2
            have n1 := noids_c xs
            have n2 := noIds_Iu64 zs
            simp only [ripC, ripN, rstC, rstN, decC_enc, decIu64_enc] at hs1 ⊢
            refine SFun.lay (bs := [.cells [.slo 1 0 n 0] none, .cells (encL cell xs) (some 2), .cells (encL (cI .u64) zs) none]) (args0 := [.ptr 0 0, .sl 2 0 ns ns])
              (bs' := [.cells [.slo 4 0 (xs.filter (fun x => !psd zs x.2)).length 0] none, .dead, .cells (encL (cI .u64) zs) none, .cells (encL cell (xs.filter (fun x => psd zs x.2))) (some 2), .cells (encL cell (xs.filter (fun x => !psd zs x.2))) (some 2)])
              (v0 := .slo 3 0 (xs.filter (fun x => psd zs x.2)).length 0) hfr hs1 (by simp [beq_ne hbc.1, beq_ne hbc.2.1, beq_ne hbc.2.2])
              ⟨⟨there hfr hb1, _, hb1, by (first | exact lb_dead | exact lb_same (by (first | assumption | exact noIds_tab (fun _ => rfl) _ _ | exact noIds_encL (fun _ => rfl) _ | rfl)) | exact lb_ro (by (first | assumption | exact noIds_tab (fun _ => rfl) _ _ | exact noIds_encL (fun _ => rfl) _ | rfl)) | exact lb_none | exact lb_cells (by ((repeat refine lws_cons (by (first | exact lw_any | exact lw_int | exact lw_bool | exact lw_ptr rfl | exact lw_slo rfl | exact lw_nilp | exact lw_nils | exact lw_str | exact lw_slo_nils | exact lw_slo_sle | exact lw_sl rfl | exact lw_unb | exact lw_gptr | exact lw_noid rfl | exact lw_cap rfl (Nat.le_refl _) | exact lw_cap rfl (by omega) | assumption)) ?_); exact lws_nil)) (by simp) | exact lb_iter | exact lb_cap (Nat.le_refl _) (Nat.le_refl _) rfl rfl | assumption), fun κ hκ => lb_cells (lws_cons (lw_slo (hκ 1 d rfl)) lws_nil) (by simp)⟩, ⟨there hfr hd1, _, hd1, by (first | exact lb_dead | exact lb_same (by (first | assumption | exact noIds_tab (fun _ => rfl) _ _ | exact noIds_encL (fun _ => rfl) _ | rfl)) | exact lb_ro (by (first | assumption | exact noIds_tab (fun _ => rfl) _ _ | exact noIds_encL (fun _ => rfl) _ | rfl)) | exact lb_none | exact lb_cells (by ((repeat refine lws_cons (by (first | exact lw_any | exact lw_int | exact lw_bool | exact lw_ptr rfl | exact lw_slo rfl | exact lw_nilp | exact lw_nils | exact lw_str | exact lw_slo_nils | exact lw_slo_sle | exact lw_sl rfl | exact lw_unb | exact lw_gptr | exact lw_noid rfl | exact lw_cap rfl (Nat.le_refl _) | exact lw_cap rfl (by omega) | assumption)) ?_); exact lws_nil)) (by simp) | exact lb_iter | exact lb_cap (Nat.le_refl _) (Nat.le_refl _) rfl rfl | assumption), fun κ hκ => by (first | exact lb_dead | exact lb_same (by (first | assumption | exact noIds_tab (fun _ => rfl) _ _ | exact noIds_encL (fun _ => rfl) _ | rfl)) | exact lb_ro (by (first | assumption | exact noIds_tab (fun _ => rfl) _ _ | exact noIds_encL (fun _ => rfl) _ | rfl)) | exact lb_none | exact lb_cells (by ((repeat refine lws_cons (by (first | exact lw_any | exact lw_int | exact lw_bool | exact lw_ptr rfl | exact lw_slo rfl | exact lw_nilp | exact lw_nils | exact lw_str | exact lw_slo_nils | exact lw_slo_sle | exact lw_sl rfl | exact lw_unb | exact lw_gptr | exact lw_noid rfl | exact lw_cap rfl (Nat.le_refl _) | exact lw_cap rfl (by omega) | assumption)) ?_); exact lws_nil)) (by simp) | exact lb_iter | exact lb_cap (Nat.le_refl _) (Nat.le_refl _) rfl rfl | assumption)⟩, ⟨there hfr hc1, _, hc1, by (first | exact lb_dead | exact lb_same (by (first | assumption | exact noIds_tab (fun _ => rfl) _ _ | exact noIds_encL (fun _ => rfl) _ | rfl)) | exact lb_ro (by (first | assumption | exact noIds_tab (fun _ => rfl) _ _ | exact noIds_encL (fun _ => rfl) _ | rfl)) | exact lb_none | exact lb_cells (by ((repeat refine lws_cons (by (first | exact lw_any | exact lw_int | exact lw_bool | exact lw_ptr rfl | exact lw_slo rfl | exact lw_nilp | exact lw_nils | exact lw_str | exact lw_slo_nils | exact lw_slo_sle | exact lw_sl rfl | exact lw_unb | exact lw_gptr | exact lw_noid rfl | exact lw_cap rfl (Nat.le_refl _) | exact lw_cap rfl (by omega) | assumption)) ?_); exact lws_nil)) (by simp) | exact lb_iter | exact lb_cap (Nat.le_refl _) (Nat.le_refl _) rfl rfl | assumption), fun κ hκ => by (first | exact lb_dead | exact lb_same (by (first | assumption | exact noIds_tab (fun _ => rfl) _ _ | exact noIds_encL (fun _ => rfl) _ | rfl)) | exact lb_ro (by (first | assumption | exact noIds_tab (fun _ => rfl) _ _ | exact noIds_encL (fun _ => rfl) _ | rfl)) | exact lb_none | exact lb_cells (by ((repeat refine lws_cons (by (first | exact lw_any | exact lw_int | exact lw_bool | exact lw_ptr rfl | exact lw_slo rfl | exact lw_nilp | exact lw_nils | exact lw_str | exact lw_slo_nils | exact lw_slo_sle | exact lw_sl rfl | exact lw_unb | exact lw_gptr | exact lw_noid rfl | exact lw_cap rfl (Nat.le_refl _) | exact lw_cap rfl (by omega) | assumption)) ?_); exact lws_nil)) (by simp) | exact lb_iter | exact lb_cap (Nat.le_refl _) (Nat.le_refl _) rfl rfl | assumption)⟩, trivial⟩ (by ((repeat refine lws_cons (by (first | exact lw_any | exact lw_int | exact lw_bool | exact lw_ptr rfl | exact lw_slo rfl | exact lw_nilp | exact lw_nils | exact lw_str | exact lw_slo_nils | exact lw_slo_sle | exact lw_sl rfl | exact lw_unb | exact lw_gptr | exact lw_noid rfl | exact lw_cap rfl (Nat.le_refl _) | exact lw_cap rfl (by omega) | assumption)) ?_); exact lws_nil)) ?_
              fun κ h1 h2 => ⟨⟨lb_cells (lws_cons (lw_slo (h2 1 (by simp))) lws_nil) (by simp), lb_dead, lb_same n2, lb_same (noids_c _), lb_same (noids_c _), trivial⟩, lw_slo (h2 0 (by simp))⟩
            rw [hgl]
            exact rpB_ok xs zs n ns en es (by omega) h2 _ rfl
          · cases hg
      · cases hg
    · cases hg
  · cases hg
theorem ripG_ok : GOk Go.Proofs.Try.prog 8 ripG := by
  intro args s bs l s' hg hb hfr
  unfold ripG at hg
  split at hg
  · exact ripGA_ok _ _ _ _ _ hg hb hfr
  · exact ripGB_ok _ _ _ _ _ hg hb hfr
def addC (cs bs : List LV) (st : Int) : List LV := encL cell (decC cs ++ (decIi64 bs).map (fun z => (z, st)))

def addG : Gc := fun args s => match args, s.g with
  | [.ptr b 0, .int .u64 st, .sl c 0 n k], [] => (match s.h.get b, s.h.get c with
    | some (.cells [.slo d 0 m 0] none), some (.cells bs none) => (match s.h.get d with
      | some (.cells cs (some 2)) => cond (Nat.beq b d || (Nat.beq b c || Nat.beq d c)) none (match s.lay [b, d, c] [.cells [.slo s.n 0 (xadd m n) 0] none, .dead, .cells bs none] [.cells (addC cs bs st) (some 2)] with
        | some s' => some ([okC cs m, okIi64 bs n, xle (xadd (xadd m n) 1) 1000000, xeq n k], .tup [], s')
        | none => none)
      | _ => none)
    | _, _ => none)
  | _, _ => none
theorem addG_ok : GOk Go.Proofs.Try.prog 7 addG := by
  intro args s bs l s' hg hb hfr
  unfold addG at hg
  split at hg
  · rename_i b st c n k hgl
    split at hg
    · rename_i d m ds hb1 hc1
      split at hg
      · rename_i cs hd1
        cases hbc : Nat.beq b d || (Nat.beq b c || Nat.beq d c) with
        | true => rw [hbc] at hg; cases hg
        | false =>
          rw [hbc] at hg
          simp only [cond_false] at hg
          simp only [Bool.or_eq_false_iff] at hbc
          split at hg
          · rename_i s1 hs1
            simp only [Option.some.injEq, Prod.mk.injEq] at hg
            obtain ⟨rfl, rfl, rfl⟩ := hg
            obtain ⟨k1, hb⟩ := allT_cons.1 hb
            obtain ⟨k2, hb⟩ := allT_cons.1 hb
            obtain ⟨k3, hb⟩ := allT_cons.1 hb
            have k4 := (allT_cons.1 hb).1
            rw [wd_eq, decide_eq_true_eq] at k4
            subst k4
            rw [wd_le, wd_add, wd_add, decide_eq_true_eq] at k3
            obtain ⟨xs, rfl, en, h1⟩ := okC_iff.1 k1
            obtain ⟨zs, rfl, es, h2⟩ := okIi64_iff.1 k2
            have n1 := noids_c xs
            have n2 := noIds_Ii64 zs
            simp only [addC, decC_enc, decIi64_enc, wd_add] at hs1 ⊢
            refine SFun.lay (bs := [.cells [.slo 1 0 m 0] none, .cells (encL cell xs) (some 2), .cells (encL (cI .i64) zs) none]) (args0 := [.ptr 0 0, .int .u64 st, .sl 2 0 n n])
              (bs' := [.cells [.slo 3 0 (m + n) 0] none, .dead, .cells (encL (cI .i64) zs) none, .cells (encL cell (xs ++ zs.map (fun z => (z, st)))) (some 2)])
              (v0 := .tup []) hfr hs1 (by simp [beq_ne hbc.1, beq_ne hbc.2.1, beq_ne hbc.2.2])
              ⟨⟨there hfr hb1, _, hb1, by (first | exact lb_dead | exact lb_same (by (first | assumption | exact noIds_tab (fun _ => rfl) _ _ | exact noIds_encL (fun _ => rfl) _ | rfl)) | exact lb_ro (by (first | assumption | exact noIds_tab (fun _ => rfl) _ _ | exact noIds_encL (fun _ => rfl) _ | rfl)) | exact lb_none | exact lb_cells (by ((repeat refine lws_cons (by (first | exact lw_any | exact lw_int | exact lw_bool | exact lw_ptr rfl | exact lw_slo rfl | exact lw_nilp | exact lw_nils | exact lw_str | exact lw_slo_nils | exact lw_slo_sle | exact lw_sl rfl | exact lw_unb | exact lw_gptr | exact lw_noid rfl | exact lw_cap rfl (Nat.le_refl _) | exact lw_cap rfl (by omega) | assumption)) ?_); exact lws_nil)) (by simp) | exact lb_iter | exact lb_cap (Nat.le_refl _) (Nat.le_refl _) rfl rfl | assumption), fun κ hκ => lb_cells (lws_cons (lw_slo (hκ 1 d rfl)) lws_nil) (by simp)⟩, ⟨there hfr hd1, _, hd1, by (first | exact lb_dead | exact lb_same (by (first | assumption | exact noIds_tab (fun _ => rfl) _ _ | exact noIds_encL (fun _ => rfl) _ | rfl)) | exact lb_ro (by (first | assumption | exact noIds_tab (fun _ => rfl) _ _ | exact noIds_encL (fun _ => rfl) _ | rfl)) | exact lb_none | exact lb_cells (by ((repeat refine lws_cons (by (first | exact lw_any | exact lw_int | exact lw_bool | exact lw_ptr rfl | exact lw_slo rfl | exact lw_nilp | exact lw_nils | exact lw_str | exact lw_slo_nils | exact lw_slo_sle | exact lw_sl rfl | exact lw_unb | exact lw_gptr | exact lw_noid rfl | exact lw_cap rfl (Nat.le_refl _) | exact lw_cap rfl (by omega) | assumption)) ?_); exact lws_nil)) (by simp) | exact lb_iter | exact lb_cap (Nat.le_refl _) (Nat.le_refl _) rfl rfl | assumption), fun κ hκ => by (first | exact lb_dead | exact lb_same (by (first | assumption | exact noIds_tab (fun _ => rfl) _ _ | exact noIds_encL (fun _ => rfl) _ | rfl)) | exact lb_ro (by (first | assumption | exact noIds_tab (fun _ => rfl) _ _ | exact noIds_encL (fun _ => rfl) _ | rfl)) | exact lb_none | exact lb_cells (by ((repeat refine lws_cons (by (first | exact lw_any | exact lw_int | exact lw_bool | exact lw_ptr rfl | exact lw_slo rfl | exact lw_nilp | exact lw_nils | exact lw_str | exact lw_slo_nils | exact lw_slo_sle | exact lw_sl rfl | exact lw_unb | exact lw_gptr | exact lw_noid rfl | exact lw_cap rfl (Nat.le_refl _) | exact lw_cap rfl (by omega) | assumption)) ?_); exact lws_nil)) (by simp) | exact lb_iter | exact lb_cap (Nat.le_refl _) (Nat.le_refl _) rfl rfl | assumption)⟩, ⟨there hfr hc1, _, hc1, by (first | exact lb_dead | exact lb_same (by (first | assumption | exact noIds_tab (fun _ => rfl) _ _ | exact noIds_encL (fun _ => rfl) _ | rfl)) | exact lb_ro (by (first | assumption | exact noIds_tab (fun _ => rfl) _ _ | exact noIds_encL (fun _ => rfl) _ | rfl)) | exact lb_none | exact lb_cells (by ((repeat refine lws_cons (by (first | exact lw_any | exact lw_int | exact lw_bool | exact lw_ptr rfl | exact lw_slo rfl | exact lw_nilp | exact lw_nils | exact lw_str | exact lw_slo_nils | exact lw_slo_sle | exact lw_sl rfl | exact lw_unb | exact lw_gptr | exact lw_noid rfl | exact lw_cap rfl (Nat.le_refl _) | exact lw_cap rfl (by omega) | assumption)) ?_); exact lws_nil)) (by simp) | exact lb_iter | exact lb_cap (Nat.le_refl _) (Nat.le_refl _) rfl rfl | assumption), fun κ hκ => by (first | exact lb_dead | exact lb_same (by (first | assumption | exact noIds_tab (fun _ => rfl) _ _ | exact noIds_encL (fun _ => rfl) _ | rfl)) | exact lb_ro (by (first | assumption | exact noIds_tab (fun _ => rfl) _ _ | exact noIds_encL (fun _ => rfl) _ | rfl)) | exact lb_none | exact lb_cells (by ((repeat refine lws_cons (by (first | exact lw_any | exact lw_int | exact lw_bool | exact lw_ptr rfl | exact lw_slo rfl | exact lw_nilp | exact lw_nils | exact lw_str | exact lw_slo_nils | exact lw_slo_sle | exact lw_sl rfl | exact lw_unb | exact lw_gptr | exact lw_noid rfl | exact lw_cap rfl (Nat.le_refl _) | exact lw_cap rfl (by omega) | assumption)) ?_); exact lws_nil)) (by simp) | exact lb_iter | exact lb_cap (Nat.le_refl _) (Nat.le_refl _) rfl rfl | assumption)⟩, trivial⟩ (by ((repeat refine lws_cons (by (first | exact lw_any | exact lw_int | exact lw_bool | exact lw_ptr rfl | exact lw_slo rfl | exact lw_nilp | exact lw_nils | exact lw_str | exact lw_slo_nils | exact lw_slo_sle | exact lw_sl rfl | exact lw_unb | exact lw_gptr | exact lw_noid rfl | exact lw_cap rfl (Nat.le_refl _) | exact lw_cap rfl (by omega) | assumption)) ?_); exact lws_nil)) ?_
              fun κ h1 h2 => ⟨⟨lb_cells (lws_cons (lw_slo (h2 0 (by simp))) lws_nil) (by simp), lb_dead, lb_same n2, lb_same (noids_c _), trivial⟩, lw_noid rfl⟩
            rw [hgl]
            exact adA_ok st xs zs m n en es (by omega) _ rfl
          · cases hg
      · cases hg
    · cases hg
  · cases hg
end
end Go.Lev
