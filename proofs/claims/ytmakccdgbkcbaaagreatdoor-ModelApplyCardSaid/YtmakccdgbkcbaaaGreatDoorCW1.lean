/- WritesLast, part 1 -/
import Derived.Test.YtmakccdgbkcbaaaGreatDoorLc
import Derived.Test.YtmakccdgbkcbaaaGreatDoorChecked
import Derived.KernelRfl

namespace Go.Lev
open Go.RowKit
set_option linter.unusedVariables false
set_option linter.unusedSimpArgs false
set_option maxRecDepth 100000
noncomputable section
abbrev cell : Int × Int → List LV := cII .i64 .u64
theorem cell_len (x : Int × Int) : (cell x).length = 2 := rfl
def fnd (xs : List (Int × Int)) (a : Int) : Int := match xs.findIdx? (fun x => x.1 == a) with | some i => i | none => -1
theorem cell_0 {xs : List (Int × Int)} {i : Nat} (h : i < xs.length) : nthD (encL cell xs) (i * 2) = .int .i64 xs[i].1 := encL_nth cell_len (j := 0) h (by omega)
theorem cell_1 {xs : List (Int × Int)} {i : Nat} (h : i < xs.length) : nthD (encL cell xs) (i * 2 + 1) = .int .u64 xs[i].2 := encL_nth cell_len (j := 1) h (by omega)
theorem cell_n (xs : List (Int × Int)) : (encL cell xs).length = xs.length * 2 := encL_length cell_len xs
theorem fnd_hit {xs : List (Int × Int)} {a : Int} {k : Nat} (h : k < xs.length) (e : xs[k].1 = a) (hno : ∀ j (hj : j < xs.length), j < k → xs[j].1 ≠ a) : fnd xs a = k := by
  have : xs.findIdx? (fun x => x.1 == a) = some k := by
    rw [List.findIdx?_eq_some_iff_getElem]
    exact ⟨h, by simp [e], fun j hj => by simpa using hno j (by omega) hj⟩
  simp only [fnd, this]
theorem fnd_no {xs : List (Int × Int)} {a : Int} (hno : ∀ j (hj : j < xs.length), xs[j].1 ≠ a) : fnd xs a = -1 := by
  have : xs.findIdx? (fun x => x.1 == a) = none := by
    rw [List.findIdx?_eq_none_iff]
    intro x hx
    obtain ⟨j, hj, rfl⟩ := List.getElem_of_mem hx
    simpa using hno j hj
  simp only [fnd, this]
abbrev fL : List Nat := [0, 1, 4, 10, 11, 12]
abbrev fT (a : Int) (n k : Nat) : List (Nat × LV) := [(0, .ptr 0 0), (1, .int .i64 a), (10, .slo 1 0 n 0), (11, .int .i64 n), (12, .int .i64 k)]
abbrev wS (m : Int) (n : Nat) (cs : List LV) : List LB := [.cells [.int .i64 m, .slo 1 0 n 0] none, .cells cs (some 2)]
theorem find_b (m a : Int) (n k : Nat) (cs : List LV) (K : Pk) : (xcode Go.Proofs.Tryz.prog (fun _ => none) 40 23 (loopOf (nthC (sp Go.Proofs.Tryz.prog 85) 2)) (mkTm 23 [(0, .ptr 0 0), (1, .int .i64 a), (10, .slo 1 0 n 0), (11, .int .i64 n), (12, .int .i64 k)]) (mkS [.cells [.int .i64 m, .slo 1 0 n 0] none, .cells cs (some 2)]) (vK fL K)) = (
  bif xcm .lss ↑k ↑n then (
   bif xle (xadd (xnat ↑k) 1) n then
   bif xle (xadd (xix 0 (xnat ↑k) 2) 2) (xln cs) then
   bif isI .i64 (nthD cs (xix 0 (xnat ↑k) 2)) then
   bif isI .u64 (nthD cs (xadd (xix 0 (xnat ↑k) 2) 1)) then
   bif xcm .eql (asI (nthD cs (xix 0 (xnat ↑k) 2))) a then (
    K .ret [.ptr 0 0, .int .i64 a, .int .i64 ↑k, .slo 1 0 n 0, .int .i64 ↑n, .int .i64 ↑k] [some (.cells [.int .i64 m, .slo 1 0 n 0] none), some (.cells cs (some 2)), some (.cells [.int .i64 (asI (nthD cs (xix 0 (xnat ↑k) 2))), .int .u64 (asI (nthD cs (xadd (xix 0 (xnat ↑k) 2) 1)))] none)] [])
   else (
    K .normal [.ptr 0 0, .int .i64 a, .any, .slo 1 0 n 0, .int .i64 ↑n, .int .i64 (xar .add .i64 (↑k) 1)] [some (.cells [.int .i64 m, .slo 1 0 n 0] none), some (.cells cs (some 2)), some (.cells [.int .i64 (asI (nthD cs (xix 0 (xnat ↑k) 2))), .int .u64 (asI (nthD cs (xadd (xix 0 (xnat ↑k) 2) 1)))] none)] [])
   else False
   else False
   else False
   else False)
  else (
   K (.exit 0) [.ptr 0 0, .int .i64 a, .any, .slo 1 0 n 0, .int .i64 ↑n, .int .i64 ↑k] [some (.cells [.int .i64 m, .slo 1 0 n 0] none), some (.cells cs (some 2))] [])) := by kernel_rfl
theorem find_loop (m a : Int) (xs : List (Int × Int)) (hn : xs.length ≤ 9223372036854775807) : SCode Go.Proofs.Tryz.prog 23 (nthC (sp Go.Proofs.Tryz.prog 85) 2) 2 (mkTm 23 (fT a xs.length 0)) (mkS (wS m xs.length (encL cell xs)))
    (vK fL (toK (σ := {_k : Unit // fnd xs a = -1}) 2 23 fL [] (fun _ => [(0, .ptr 0 0)]) (fun _ => wS m xs.length (encL cell xs)) (endK 2 [4] fL [] (fun l b => l = .int .i64 (fnd xs a) ∧ b = wS m xs.length (encL cell xs))))) := by
  refine SCode.loop_vc noCx_ok (n := 40) 0 (by kernel_rfl) (σ := {k : Nat // k ≤ xs.length ∧ ∀ j (hj : j < xs.length), j < k → xs[j].1 ≠ a}) (fun k => fT a xs.length k.1) (fun _ => wS m xs.length (encL cell xs)) (fun k => xs.length - k.1) (fun k => Nat.le_refl _) (fun ⟨k, hk, hno⟩ => ?_) ⟨0, Nat.zero_le _, fun j hj h => absurd h (by omega)⟩
  rw [find_b]
  refine ways (fun h => ?_) (fun h => ?_)
  · have hk' : k < xs.length := by simpa [xcm_lss] using h
    have e0 := cell_0 hk'
    have e1 := cell_1 hk'
    have el := cell_n xs
    simp only [wd_nat, wd_ix, wd_add, Nat.zero_add, e0, e1, wd_asI]
    refine must (by (simp only [wd_isI, wd_asI, wd_isB, wd_asB, wd_nat, wd_nn, wd_nni, wd_le, wd_z, wd_eq, wd_add, wd_sub, wd_ix, wd_mul, wd_mn, wd_mx, wd_not, wd_and, wd_bq, wd_ln, xcm_eql, xcm_neq, xcm_lss, xcm_leq, xcm_gtr, xcm_geq, decide_eq_true_eq, decide_eq_false_iff_not, Nat.zero_add, decide_true]); omega) (must (by (simp only [wd_isI, wd_asI, wd_isB, wd_asB, wd_nat, wd_nn, wd_nni, wd_le, wd_z, wd_eq, wd_add, wd_sub, wd_ix, wd_mul, wd_mn, wd_mx, wd_not, wd_and, wd_bq, wd_ln, xcm_eql, xcm_neq, xcm_lss, xcm_leq, xcm_gtr, xcm_geq, decide_eq_true_eq, decide_eq_false_iff_not, Nat.zero_add, decide_true]); rw [el]; omega) (must (by (simp only [wd_isI, wd_asI, wd_isB, wd_asB, wd_nat, wd_nn, wd_nni, wd_le, wd_z, wd_eq, wd_add, wd_sub, wd_ix, wd_mul, wd_mn, wd_mx, wd_not, wd_and, wd_bq, wd_ln, xcm_eql, xcm_neq, xcm_lss, xcm_leq, xcm_gtr, xcm_geq, decide_eq_true_eq, decide_eq_false_iff_not, Nat.zero_add, decide_true])) (must (by (simp only [wd_isI, wd_asI, wd_isB, wd_asB, wd_nat, wd_nn, wd_nni, wd_le, wd_z, wd_eq, wd_add, wd_sub, wd_ix, wd_mul, wd_mn, wd_mx, wd_not, wd_and, wd_bq, wd_ln, xcm_eql, xcm_neq, xcm_lss, xcm_leq, xcm_gtr, xcm_geq, decide_eq_true_eq, decide_eq_false_iff_not, Nat.zero_add, decide_true])) ?_)))
    refine ways (fun h => ?_) (fun h => ?_)
    · have e : xs[k].1 = a := by simpa [xcm_eql] using h
      have hf := fnd_hit hk' e hno
      exact ⟨trivial, rfl, _, _, [.id 0, .id 1], ⟨rfl, rfl⟩, by rw [hf]; (exact ⟨by kernel_rfl, by ((repeat refine okTms_cons (by (first | exact lw_any | exact lw_int | exact lw_bool | exact lw_ptr rfl | exact lw_slo rfl | exact lw_nilp | exact lw_nils | exact lw_str | exact lw_slo_nils | exact lw_slo_sle | exact lw_sl rfl | exact lw_unb | exact lw_gptr | exact lw_noid rfl | exact lw_cap rfl (Nat.le_refl _) | exact lw_cap rfl (by omega) | assumption | exact lw_tup (by ((repeat refine lws_cons (by (first | exact lw_any | exact lw_int | exact lw_bool | exact lw_ptr rfl | exact lw_slo rfl | exact lw_nilp | exact lw_nils | exact lw_str | exact lw_slo_nils | exact lw_slo_sle | exact lw_sl rfl | exact lw_unb | exact lw_gptr | exact lw_noid rfl | exact lw_cap rfl (Nat.le_refl _) | exact lw_cap rfl (by omega) | assumption)) ?_); exact lws_nil)))) ?_); exact okTms_nil), by ((repeat refine okBlks_cons (by (first | exact lb_dead | exact lb_same (by (first | assumption | exact noIds_tab (fun _ => rfl) _ _ | exact noIds_encL (fun _ => rfl) _ | rfl)) | exact lb_ro (by (first | assumption | exact noIds_tab (fun _ => rfl) _ _ | exact noIds_encL (fun _ => rfl) _ | rfl)) | exact lb_none | exact lb_cells (by ((repeat refine lws_cons (by (first | exact lw_any | exact lw_int | exact lw_bool | exact lw_ptr rfl | exact lw_slo rfl | exact lw_nilp | exact lw_nils | exact lw_str | exact lw_slo_nils | exact lw_slo_sle | exact lw_sl rfl | exact lw_unb | exact lw_gptr | exact lw_noid rfl | exact lw_cap rfl (Nat.le_refl _) | exact lw_cap rfl (by omega) | assumption | exact lw_tup (by ((repeat refine lws_cons (by (first | exact lw_any | exact lw_int | exact lw_bool | exact lw_ptr rfl | exact lw_slo rfl | exact lw_nilp | exact lw_nils | exact lw_str | exact lw_slo_nils | exact lw_slo_sle | exact lw_sl rfl | exact lw_unb | exact lw_gptr | exact lw_noid rfl | exact lw_cap rfl (Nat.le_refl _) | exact lw_cap rfl (by omega) | assumption)) ?_); exact lws_nil)))) ?_); exact lws_nil)) (by simp) | exact lb_iter | exact lb_cap (Nat.le_refl _) (Nat.le_refl _) rfl rfl | exact lb_capn (by assumption) (by (first | assumption | exact noIds_tab (fun _ => rfl) _ _ | exact noIds_encL (fun _ => rfl) _ | rfl)) | assumption)) ?_); exact okBlks_nil)⟩)⟩
    · have e : xs[k].1 ≠ a := by simpa [xcm_eql] using h
      rw [inc_i64 hk' hn]
      exact ⟨rfl, ⟨k + 1, hk', fun j hj hjk => by rcases Nat.lt_succ_iff_lt_or_eq.1 hjk with h | rfl; exact hno j hj h; exact e⟩, by simp only; omega, [.id 0, .id 1], by (exact ⟨by kernel_rfl, by ((repeat refine okTms_cons (by (first | exact lw_any | exact lw_int | exact lw_bool | exact lw_ptr rfl | exact lw_slo rfl | exact lw_nilp | exact lw_nils | exact lw_str | exact lw_slo_nils | exact lw_slo_sle | exact lw_sl rfl | exact lw_unb | exact lw_gptr | exact lw_noid rfl | exact lw_cap rfl (Nat.le_refl _) | exact lw_cap rfl (by omega) | assumption | exact lw_tup (by ((repeat refine lws_cons (by (first | exact lw_any | exact lw_int | exact lw_bool | exact lw_ptr rfl | exact lw_slo rfl | exact lw_nilp | exact lw_nils | exact lw_str | exact lw_slo_nils | exact lw_slo_sle | exact lw_sl rfl | exact lw_unb | exact lw_gptr | exact lw_noid rfl | exact lw_cap rfl (Nat.le_refl _) | exact lw_cap rfl (by omega) | assumption)) ?_); exact lws_nil)))) ?_); exact okTms_nil), by ((repeat refine okBlks_cons (by (first | exact lb_dead | exact lb_same (by (first | assumption | exact noIds_tab (fun _ => rfl) _ _ | exact noIds_encL (fun _ => rfl) _ | rfl)) | exact lb_ro (by (first | assumption | exact noIds_tab (fun _ => rfl) _ _ | exact noIds_encL (fun _ => rfl) _ | rfl)) | exact lb_none | exact lb_cells (by ((repeat refine lws_cons (by (first | exact lw_any | exact lw_int | exact lw_bool | exact lw_ptr rfl | exact lw_slo rfl | exact lw_nilp | exact lw_nils | exact lw_str | exact lw_slo_nils | exact lw_slo_sle | exact lw_sl rfl | exact lw_unb | exact lw_gptr | exact lw_noid rfl | exact lw_cap rfl (Nat.le_refl _) | exact lw_cap rfl (by omega) | assumption | exact lw_tup (by ((repeat refine lws_cons (by (first | exact lw_any | exact lw_int | exact lw_bool | exact lw_ptr rfl | exact lw_slo rfl | exact lw_nilp | exact lw_nils | exact lw_str | exact lw_slo_nils | exact lw_slo_sle | exact lw_sl rfl | exact lw_unb | exact lw_gptr | exact lw_noid rfl | exact lw_cap rfl (Nat.le_refl _) | exact lw_cap rfl (by omega) | assumption)) ?_); exact lws_nil)))) ?_); exact lws_nil)) (by simp) | exact lb_iter | exact lb_cap (Nat.le_refl _) (Nat.le_refl _) rfl rfl | exact lb_capn (by assumption) (by (first | assumption | exact noIds_tab (fun _ => rfl) _ _ | exact noIds_encL (fun _ => rfl) _ | rfl)) | assumption)) ?_); exact okBlks_nil)⟩)⟩
  · have hk' : xs.length ≤ k := by simpa [xcm_lss] using h
    have hf := fnd_no (xs := xs) (a := a) fun j hj => hno j hj (by omega)
    exact ⟨rfl, ⟨(), hf⟩, [.id 0, .id 1], by (exact ⟨by kernel_rfl, by ((repeat refine okTms_cons (by (first | exact lw_any | exact lw_int | exact lw_bool | exact lw_ptr rfl | exact lw_slo rfl | exact lw_nilp | exact lw_nils | exact lw_str | exact lw_slo_nils | exact lw_slo_sle | exact lw_sl rfl | exact lw_unb | exact lw_gptr | exact lw_noid rfl | exact lw_cap rfl (Nat.le_refl _) | exact lw_cap rfl (by omega) | assumption | exact lw_tup (by ((repeat refine lws_cons (by (first | exact lw_any | exact lw_int | exact lw_bool | exact lw_ptr rfl | exact lw_slo rfl | exact lw_nilp | exact lw_nils | exact lw_str | exact lw_slo_nils | exact lw_slo_sle | exact lw_sl rfl | exact lw_unb | exact lw_gptr | exact lw_noid rfl | exact lw_cap rfl (Nat.le_refl _) | exact lw_cap rfl (by omega) | assumption)) ?_); exact lws_nil)))) ?_); exact okTms_nil), by ((repeat refine okBlks_cons (by (first | exact lb_dead | exact lb_same (by (first | assumption | exact noIds_tab (fun _ => rfl) _ _ | exact noIds_encL (fun _ => rfl) _ | rfl)) | exact lb_ro (by (first | assumption | exact noIds_tab (fun _ => rfl) _ _ | exact noIds_encL (fun _ => rfl) _ | rfl)) | exact lb_none | exact lb_cells (by ((repeat refine lws_cons (by (first | exact lw_any | exact lw_int | exact lw_bool | exact lw_ptr rfl | exact lw_slo rfl | exact lw_nilp | exact lw_nils | exact lw_str | exact lw_slo_nils | exact lw_slo_sle | exact lw_sl rfl | exact lw_unb | exact lw_gptr | exact lw_noid rfl | exact lw_cap rfl (Nat.le_refl _) | exact lw_cap rfl (by omega) | assumption | exact lw_tup (by ((repeat refine lws_cons (by (first | exact lw_any | exact lw_int | exact lw_bool | exact lw_ptr rfl | exact lw_slo rfl | exact lw_nilp | exact lw_nils | exact lw_str | exact lw_slo_nils | exact lw_slo_sle | exact lw_sl rfl | exact lw_unb | exact lw_gptr | exact lw_noid rfl | exact lw_cap rfl (Nat.le_refl _) | exact lw_cap rfl (by omega) | assumption)) ?_); exact lws_nil)))) ?_); exact lws_nil)) (by simp) | exact lb_iter | exact lb_cap (Nat.le_refl _) (Nat.le_refl _) rfl rfl | exact lb_capn (by assumption) (by (first | assumption | exact noIds_tab (fun _ => rfl) _ _ | exact noIds_encL (fun _ => rfl) _ | rfl)) | assumption)) ?_); exact okBlks_nil)⟩)⟩
theorem find_a (m a : Int) (n : Nat) (cs : List LV) (K : Pk) : (xsp Go.Proofs.Tryz.prog (fun _ => none) 40 23 (seg (sp Go.Proofs.Tryz.prog 85) 0 2) (tm0 [.ptr 0 0, .int .i64 a]) (mkS [.cells [.int .i64 m, .slo 1 0 n 0] none, .cells cs (some 2)]) (vK fL K)) = (
  K .normal [.ptr 0 0, .int .i64 a, .int .i64 0, .slo 1 0 n 0, .int .i64 ↑n, .int .i64 0] [some (.cells [.int .i64 m, .slo 1 0 n 0] none), some (.cells cs (some 2))] []) := by kernel_rfl
theorem find_z (m : Int) (n : Nat) (cs : List LV) (K : Pk) : (xsp Go.Proofs.Tryz.prog (fun _ => none) 40 23 ((sp Go.Proofs.Tryz.prog 85).drop 3) (mkTm 23 [(0, .ptr 0 0)]) (mkS [.cells [.int .i64 m, .slo 1 0 n 0] none, .cells cs (some 2)]) (vK fL K)) = (
  K .ret [.ptr 0 0, .any, .int .i64 (-1), .any, .any, .any] [some (.cells [.int .i64 m, .slo 1 0 n 0] none), some (.cells cs (some 2))] []) := by kernel_rfl
theorem find_ok (m a : Int) (xs : List (Int × Int)) (hn : xs.length ≤ 9223372036854775807) : SFun Go.Proofs.Tryz.prog 85 [.ptr 0 0, .int .i64 a] (mkS (wS m xs.length (encL cell xs))) fun l s' => l = .int .i64 (fnd xs a) ∧ s' = mkS (wS m xs.length (encL cell xs)) := by
  refine SFun.mono (SFun.pieces (Q := fun l b => l = .int .i64 (fnd xs a) ∧ b = wS m xs.length (encL cell xs)) 23 2 fL [4] (by kernel_rfl) rfl rfl rfl ?_) fun l s' ⟨b0, ⟨h1, h2⟩, h3⟩ => ⟨h1, by rw [h3, h2]⟩
  refine SSp.to noCx_ok (n := 40) (g := []) 2 2 rfl (σ := Unit) (fun _ => fT a xs.length 0) (fun _ => wS m xs.length (encL cell xs)) (mkS_le (Nat.le_refl _)) (by kernel_rfl) ?_ fun _ => ?_
  · rw [find_a]; exact ⟨rfl, (), [.id 0, .id 1], by (exact ⟨by kernel_rfl, by ((repeat refine okTms_cons (by (first | exact lw_any | exact lw_int | exact lw_bool | exact lw_ptr rfl | exact lw_slo rfl | exact lw_nilp | exact lw_nils | exact lw_str | exact lw_slo_nils | exact lw_slo_sle | exact lw_sl rfl | exact lw_unb | exact lw_gptr | exact lw_noid rfl | exact lw_cap rfl (Nat.le_refl _) | exact lw_cap rfl (by omega) | assumption | exact lw_tup (by ((repeat refine lws_cons (by (first | exact lw_any | exact lw_int | exact lw_bool | exact lw_ptr rfl | exact lw_slo rfl | exact lw_nilp | exact lw_nils | exact lw_str | exact lw_slo_nils | exact lw_slo_sle | exact lw_sl rfl | exact lw_unb | exact lw_gptr | exact lw_noid rfl | exact lw_cap rfl (Nat.le_refl _) | exact lw_cap rfl (by omega) | assumption)) ?_); exact lws_nil)))) ?_); exact okTms_nil), by ((repeat refine okBlks_cons (by (first | exact lb_dead | exact lb_same (by (first | assumption | exact noIds_tab (fun _ => rfl) _ _ | exact noIds_encL (fun _ => rfl) _ | rfl)) | exact lb_ro (by (first | assumption | exact noIds_tab (fun _ => rfl) _ _ | exact noIds_encL (fun _ => rfl) _ | rfl)) | exact lb_none | exact lb_cells (by ((repeat refine lws_cons (by (first | exact lw_any | exact lw_int | exact lw_bool | exact lw_ptr rfl | exact lw_slo rfl | exact lw_nilp | exact lw_nils | exact lw_str | exact lw_slo_nils | exact lw_slo_sle | exact lw_sl rfl | exact lw_unb | exact lw_gptr | exact lw_noid rfl | exact lw_cap rfl (Nat.le_refl _) | exact lw_cap rfl (by omega) | assumption | exact lw_tup (by ((repeat refine lws_cons (by (first | exact lw_any | exact lw_int | exact lw_bool | exact lw_ptr rfl | exact lw_slo rfl | exact lw_nilp | exact lw_nils | exact lw_str | exact lw_slo_nils | exact lw_slo_sle | exact lw_sl rfl | exact lw_unb | exact lw_gptr | exact lw_noid rfl | exact lw_cap rfl (Nat.le_refl _) | exact lw_cap rfl (by omega) | assumption)) ?_); exact lws_nil)))) ?_); exact lws_nil)) (by simp) | exact lb_iter | exact lb_cap (Nat.le_refl _) (Nat.le_refl _) rfl rfl | exact lb_capn (by assumption) (by (first | assumption | exact noIds_tab (fun _ => rfl) _ _ | exact noIds_encL (fun _ => rfl) _ | rfl)) | assumption)) ?_); exact okBlks_nil)⟩)⟩
  refine SSp.code_to (g := []) 3 rfl (σ := {_k : Unit // fnd xs a = -1}) (fun _ => [(0, .ptr 0 0)]) (fun _ => wS m xs.length (encL cell xs)) (by kernel_rfl) (find_loop m a xs hn) fun ⟨_, hf⟩ => ?_
  refine SSp.last noCx_ok (n := 40) (mkS_le (Nat.le_refl _)) ?_
  rw [find_z]
  exact ⟨trivial, rfl, _, _, [.id 0, .id 1], ⟨rfl, rfl⟩, by rw [hf]; (exact ⟨by kernel_rfl, by ((repeat refine okTms_cons (by (first | exact lw_any | exact lw_int | exact lw_bool | exact lw_ptr rfl | exact lw_slo rfl | exact lw_nilp | exact lw_nils | exact lw_str | exact lw_slo_nils | exact lw_slo_sle | exact lw_sl rfl | exact lw_unb | exact lw_gptr | exact lw_noid rfl | exact lw_cap rfl (Nat.le_refl _) | exact lw_cap rfl (by omega) | assumption | exact lw_tup (by ((repeat refine lws_cons (by (first | exact lw_any | exact lw_int | exact lw_bool | exact lw_ptr rfl | exact lw_slo rfl | exact lw_nilp | exact lw_nils | exact lw_str | exact lw_slo_nils | exact lw_slo_sle | exact lw_sl rfl | exact lw_unb | exact lw_gptr | exact lw_noid rfl | exact lw_cap rfl (Nat.le_refl _) | exact lw_cap rfl (by omega) | assumption)) ?_); exact lws_nil)))) ?_); exact okTms_nil), by ((repeat refine okBlks_cons (by (first | exact lb_dead | exact lb_same (by (first | assumption | exact noIds_tab (fun _ => rfl) _ _ | exact noIds_encL (fun _ => rfl) _ | rfl)) | exact lb_ro (by (first | assumption | exact noIds_tab (fun _ => rfl) _ _ | exact noIds_encL (fun _ => rfl) _ | rfl)) | exact lb_none | exact lb_cells (by ((repeat refine lws_cons (by (first | exact lw_any | exact lw_int | exact lw_bool | exact lw_ptr rfl | exact lw_slo rfl | exact lw_nilp | exact lw_nils | exact lw_str | exact lw_slo_nils | exact lw_slo_sle | exact lw_sl rfl | exact lw_unb | exact lw_gptr | exact lw_noid rfl | exact lw_cap rfl (Nat.le_refl _) | exact lw_cap rfl (by omega) | assumption | exact lw_tup (by ((repeat refine lws_cons (by (first | exact lw_any | exact lw_int | exact lw_bool | exact lw_ptr rfl | exact lw_slo rfl | exact lw_nilp | exact lw_nils | exact lw_str | exact lw_slo_nils | exact lw_slo_sle | exact lw_sl rfl | exact lw_unb | exact lw_gptr | exact lw_noid rfl | exact lw_cap rfl (Nat.le_refl _) | exact lw_cap rfl (by omega) | assumption)) ?_); exact lws_nil)))) ?_); exact lws_nil)) (by simp) | exact lb_iter | exact lb_cap (Nat.le_refl _) (Nat.le_refl _) rfl rfl | exact lb_capn (by assumption) (by (first | assumption | exact noIds_tab (fun _ => rfl) _ _ | exact noIds_encL (fun _ => rfl) _ | rfl)) | assumption)) ?_); exact okBlks_nil)⟩)⟩
/-! the contract -/
def decC : List LV → List (Int × Int)
  | .int _ a :: .int _ b :: r => (a, b) :: decC r
  | _ => []
theorem decC_enc : ∀ xs, decC (encL cell xs) = xs
  | [] => rfl
  | x :: r => by simp [encL, cell, cII, decC, decC_enc r]
def okC (cs : List LV) (n : Nat) : Bool := @decide (cs = encL cell (decC cs) ∧ (decC cs).length = n ∧ n ≤ 9223372036854775807) (Classical.propDecidable _)

theorem okC_iff {cs : List LV} {n : Nat} : okC cs n = true ↔ ∃ xs, cs = encL cell xs ∧ xs.length = n ∧ n ≤ 9223372036854775807 := by
  simp only [okC, decide_eq_true_eq]
  exact ⟨fun h => ⟨_, h⟩, fun ⟨xs, h1, h2⟩ => by subst h1; rw [decC_enc]; exact ⟨rfl, h2⟩⟩
def fndW (cs : List LV) (a : Int) : Int := fnd (decC cs) a

def findG (args : List LV) (s : St) : Option (List Bool × LV × St) := match args with
  | [.ptr b 0, .int .i64 a] => (match s.h.get b with
    | some (.cells [.int .i64 m, .slo c 0 n 0] none) => (match s.h.get c, s.g with
      | some (.cells cs (some 2)), [] => cond (Nat.beq b c) none (some ([okC cs n], .int .i64 (fndW cs a), s))
      | _, _ => none)
    | _ => none)
  | _ => none
theorem findG_ok : GOk Go.Proofs.Tryz.prog 85 findG := by
  intro args s bs l s' hg hb hfr
  unfold findG at hg
  split at hg
  · rename_i b a
    split at hg
    · rename_i m c n hb1
      split at hg
      · rename_i cs hc1 hgl
        cases hbc : Nat.beq b c with
        | true => rw [hbc] at hg; cases hg
        | false =>
          rw [hbc] at hg
          simp only [cond_false, Option.some.injEq, Prod.mk.injEq] at hg
          obtain ⟨rfl, rfl, rfl⟩ := hg
          obtain ⟨xs, rfl, rfl, hn⟩ := okC_iff.1 (allT_cons.1 hb).1
          have hne : b ≠ c := fun e => by subst e; simp [beq_dec] at hbc
          have hlt : ∀ x, (s.h.get x).isSome = true → x < s.n := fun x hx => by
            rcases Nat.lt_or_ge x s.n with h | h
            · exact h
            · rw [hfr x h] at hx; cases hx
          have hs : s = ⟨s.h, s.n, []⟩ := by rw [← hgl]
          refine SFun.lift_ro (ρ := [b, c]) (bs := wS m xs.length (encL cell xs)) (args0 := [.ptr 0 0, .int .i64 a]) hfr (by simp [hne]) ⟨⟨hlt b (by rw [hb1]; rfl), _, hb1, by (first | exact lb_dead | exact lb_same (by (first | assumption | exact noIds_tab (fun _ => rfl) _ _ | exact noIds_encL (fun _ => rfl) _ | rfl)) | exact lb_ro (by (first | assumption | exact noIds_tab (fun _ => rfl) _ _ | exact noIds_encL (fun _ => rfl) _ | rfl)) | exact lb_none | exact lb_cells (by ((repeat refine lws_cons (by (first | exact lw_any | exact lw_int | exact lw_bool | exact lw_ptr rfl | exact lw_slo rfl | exact lw_nilp | exact lw_nils | exact lw_str | exact lw_slo_nils | exact lw_slo_sle | exact lw_sl rfl | exact lw_unb | exact lw_gptr | exact lw_noid rfl | exact lw_cap rfl (Nat.le_refl _) | exact lw_cap rfl (by omega) | assumption | exact lw_tup (by ((repeat refine lws_cons (by (first | exact lw_any | exact lw_int | exact lw_bool | exact lw_ptr rfl | exact lw_slo rfl | exact lw_nilp | exact lw_nils | exact lw_str | exact lw_slo_nils | exact lw_slo_sle | exact lw_sl rfl | exact lw_unb | exact lw_gptr | exact lw_noid rfl | exact lw_cap rfl (Nat.le_refl _) | exact lw_cap rfl (by omega) | assumption)) ?_); exact lws_nil)))) ?_); exact lws_nil)) (by simp) | exact lb_iter | exact lb_cap (Nat.le_refl _) (Nat.le_refl _) rfl rfl | exact lb_capn (by assumption) (by (first | assumption | exact noIds_tab (fun _ => rfl) _ _ | exact noIds_encL (fun _ => rfl) _ | rfl)) | assumption), fun κ hκ => lb_cells (lws_cons lw_int (lws_cons (lw_slo (hκ 1 c rfl)) lws_nil)) (by simp)⟩, ⟨hlt c (by rw [hc1]; rfl), _, hc1, by (first | exact lb_dead | exact lb_same (by (first | assumption | exact noIds_tab (fun _ => rfl) _ _ | exact noIds_encL (fun _ => rfl) _ | rfl)) | exact lb_ro (by (first | assumption | exact noIds_tab (fun _ => rfl) _ _ | exact noIds_encL (fun _ => rfl) _ | rfl)) | exact lb_none | exact lb_cells (by ((repeat refine lws_cons (by (first | exact lw_any | exact lw_int | exact lw_bool | exact lw_ptr rfl | exact lw_slo rfl | exact lw_nilp | exact lw_nils | exact lw_str | exact lw_slo_nils | exact lw_slo_sle | exact lw_sl rfl | exact lw_unb | exact lw_gptr | exact lw_noid rfl | exact lw_cap rfl (Nat.le_refl _) | exact lw_cap rfl (by omega) | assumption | exact lw_tup (by ((repeat refine lws_cons (by (first | exact lw_any | exact lw_int | exact lw_bool | exact lw_ptr rfl | exact lw_slo rfl | exact lw_nilp | exact lw_nils | exact lw_str | exact lw_slo_nils | exact lw_slo_sle | exact lw_sl rfl | exact lw_unb | exact lw_gptr | exact lw_noid rfl | exact lw_cap rfl (Nat.le_refl _) | exact lw_cap rfl (by omega) | assumption)) ?_); exact lws_nil)))) ?_); exact lws_nil)) (by simp) | exact lb_iter | exact lb_cap (Nat.le_refl _) (Nat.le_refl _) rfl rfl | exact lb_capn (by assumption) (by (first | assumption | exact noIds_tab (fun _ => rfl) _ _ | exact noIds_encL (fun _ => rfl) _ | rfl)) | assumption), fun κ hκ => by (first | exact lb_dead | exact lb_same (by (first | assumption | exact noIds_tab (fun _ => rfl) _ _ | exact noIds_encL (fun _ => rfl) _ | rfl)) | exact lb_ro (by (first | assumption | exact noIds_tab (fun _ => rfl) _ _ | exact noIds_encL (fun _ => rfl) _ | rfl)) | exact lb_none | exact lb_cells (by ((repeat refine lws_cons (by (first | exact lw_any | exact lw_int | exact lw_bool | exact lw_ptr rfl | exact lw_slo rfl | exact lw_nilp | exact lw_nils | exact lw_str | exact lw_slo_nils | exact lw_slo_sle | exact lw_sl rfl | exact lw_unb | exact lw_gptr | exact lw_noid rfl | exact lw_cap rfl (Nat.le_refl _) | exact lw_cap rfl (by omega) | assumption | exact lw_tup (by ((repeat refine lws_cons (by (first | exact lw_any | exact lw_int | exact lw_bool | exact lw_ptr rfl | exact lw_slo rfl | exact lw_nilp | exact lw_nils | exact lw_str | exact lw_slo_nils | exact lw_slo_sle | exact lw_sl rfl | exact lw_unb | exact lw_gptr | exact lw_noid rfl | exact lw_cap rfl (Nat.le_refl _) | exact lw_cap rfl (by omega) | assumption)) ?_); exact lws_nil)))) ?_); exact lws_nil)) (by simp) | exact lb_iter | exact lb_cap (Nat.le_refl _) (Nat.le_refl _) rfl rfl | exact lb_capn (by assumption) (by (first | assumption | exact noIds_tab (fun _ => rfl) _ _ | exact noIds_encL (fun _ => rfl) _ | rfl)) | assumption)⟩, trivial⟩ (by ((repeat refine lws_cons (by (first | exact lw_any | exact lw_int | exact lw_bool | exact lw_ptr rfl | exact lw_slo rfl | exact lw_nilp | exact lw_nils | exact lw_str | exact lw_slo_nils | exact lw_slo_sle | exact lw_sl rfl | exact lw_unb | exact lw_gptr | exact lw_noid rfl | exact lw_cap rfl (Nat.le_refl _) | exact lw_cap rfl (by omega) | assumption | exact lw_tup (by ((repeat refine lws_cons (by (first | exact lw_any | exact lw_int | exact lw_bool | exact lw_ptr rfl | exact lw_slo rfl | exact lw_nilp | exact lw_nils | exact lw_str | exact lw_slo_nils | exact lw_slo_sle | exact lw_sl rfl | exact lw_unb | exact lw_gptr | exact lw_noid rfl | exact lw_cap rfl (Nat.le_refl _) | exact lw_cap rfl (by omega) | assumption)) ?_); exact lws_nil)))) ?_); exact lws_nil)) rfl ?_
          rw [hgl]
          refine SFun.mono (find_ok m a xs hn) fun l s' ⟨h1, h2⟩ => ⟨?_, h2⟩
          rw [h1]; simp only [fndW, decC_enc]
      · cases hg
    · cases hg
  · cases hg
/-! rows told by functions -/
def fndT (n : Nat) (g : Nat → Int × Int) (a : Int) : Int := fnd ((List.range n).map g) a
theorem okC_tab {n : Nat} (g : Nat → Int × Int) (h : n ≤ 9223372036854775807) : okC (tab cell n g) n = true := okC_iff.2 ⟨_, rfl, by simp, h⟩
theorem fndW_tab (n : Nat) (g : Nat → Int × Int) (a : Int) : fndW (tab cell n g) a = fndT n g a := by simp only [fndW, fndT, tab, decC_enc]
theorem fndT_cases (n : Nat) (g : Nat → Int × Int) (a : Int) : (∃ i, i < n ∧ (g i).1 = a ∧ (∀ j, j < i → (g j).1 ≠ a) ∧ fndT n g a = i) ∨ ((∀ j, j < n → (g j).1 ≠ a) ∧ fndT n g a = -1) := by
  cases h : ((List.range n).map g).findIdx? (fun x => x.1 == a) with
  | some i =>
    obtain ⟨h1, h2, h3⟩ := List.findIdx?_eq_some_iff_getElem.1 h
    simp only [List.length_map, List.length_range] at h1
    refine .inl ⟨i, h1, by simpa using h2, fun j hj => by simpa using h3 j hj, by simp only [fndT, fnd, h]⟩
  | none =>
    refine .inr ⟨fun j hj => ?_, by simp only [fndT, fnd, h]⟩
    have := List.findIdx?_eq_none_iff.1 h (g j) (List.mem_map.2 ⟨j, by simpa using hj, rfl⟩)
    simpa using this
end
end Go.Lev
