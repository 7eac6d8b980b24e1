/- LevelsKeep: trees -/
import Derived.Test.YtfigockmbphnfaaCW12
import Derived.Test.YtfigockmbphnfaaLc
import Derived.Test.YtfigockmbphnfaaChecked
import Derived.KernelRfl

namespace Go.Lev
open Go.RowKit
set_option linter.unusedVariables false
set_option linter.unusedSimpArgs false
set_option maxRecDepth 100000
noncomputable section
/-! rows of integers -/
def decIi64 : List LV → List Int
  | .int _ a :: r => a :: decIi64 r
  | _ => []
theorem decIi64_enc : ∀ xs, decIi64 (encL (cI .i64) xs) = xs
  | [] => rfl
  | x :: r => by simp [encL, cI, decIi64, decIi64_enc r]
def okIi64 (cs : List LV) (n : Nat) : Bool := @decide (cs = encL (cI .i64) (decIi64 cs) ∧ (decIi64 cs).length = n ∧ n ≤ 9223372036854775807) (Classical.propDecidable _)

theorem okIi64_iff {cs : List LV} {n : Nat} : okIi64 cs n = true ↔ ∃ xs, cs = encL (cI .i64) xs ∧ xs.length = n ∧ n ≤ 9223372036854775807 := by
  simp only [okIi64, decide_eq_true_eq]
  exact ⟨fun h => ⟨_, h⟩, fun ⟨xs, h1, h2⟩ => by subst h1; rw [decIi64_enc]; exact ⟨rfl, h2⟩⟩
theorem okIi64_tab {n : Nat} (g : Nat → Int) (h : n ≤ 9223372036854775807) : okIi64 (tab (cI .i64) n g) n = true := okIi64_iff.2 ⟨_, rfl, by simp, h⟩
theorem okIi64_enc {xs : List Int} (h : xs.length ≤ 9223372036854775807) : okIi64 (encL (cI .i64) xs) xs.length = true := okIi64_iff.2 ⟨_, rfl, rfl, h⟩
theorem encIi64_len (xs : List Int) : (encL (cI .i64) xs).length = xs.length := by rw [encL_length (cI_len .i64)]; omega
theorem encIi64_push (xs : List Int) (y : Int) : xcat (xcut (encL (cI .i64) xs) 0 xs.length) [.int .i64 y] = encL (cI .i64) (xs ++ [y]) := by
  rw [xcut_all (by rw [encIi64_len]; omega), encL_append]; rfl
theorem encIi64_nth {xs : List Int} {i : Nat} (h : i < xs.length) : nthD (encL (cI .i64) xs) i = .int .i64 xs[i] := by
  have := encL_nth (cI_len .i64) (j := 0) h (by omega)
  simp only [Nat.mul_one, Nat.add_zero] at this
  exact this
theorem noIds_Ii64 (xs : List Int) : noIds (encL (cI .i64) xs) = true := noIds_encL (fun _ => rfl) xs
theorem xnoid_Ii64 (xs : List Int) : xnoid (encL (cI .i64) xs) = true := xnoid_encL (fun _ => rfl) xs

abbrev siTi64 (n m k : Nat) : List (Nat × LV) := [(0, .slo 0 0 n 0), (1, .slo 1 0 m 0), (5, .int .i64 k)]
abbrev siHi64 (cs ds : List LV) : List LB := [.cells cs (some 1), .cells ds (some 1)]
abbrev siLi64 : List Nat := [0, 1, 4, 5]
theorem sii64_a (n m : Nat) (cs ds : List LV) (K : Pk) : (xsp Go.Proofs.Try.prog (fun _ => none) 40 26 (seg (sp Go.Proofs.Try.prog 25) 0 4) (tm0 [.slo 0 0 n 0, .slo 1 0 m 0]) (mkS (siHi64 cs ds)) (vK siLi64 K)) = (
  bif xcm .neq ↑n ↑m then (
   K .ret [.slo 0 0 n 0, .slo 1 0 m 0, .bool false, .tup []] [some (.cells cs (some 1)), some (.cells ds (some 1))] [])
  else (
   K .normal [.slo 0 0 n 0, .slo 1 0 m 0, .bool false, .int .i64 0] [some (.cells cs (some 1)), some (.cells ds (some 1))] [])) := by kernel_rfl
theorem sii64_b (n m k : Nat) (cs ds : List LV) (K : Pk) : (xcode Go.Proofs.Try.prog (fun _ => none) 40 26 (loopOf (nthC (sp Go.Proofs.Try.prog 25) 4)) (mkTm 26 (siTi64 n m k)) (mkS (siHi64 cs ds)) (vK siLi64 K)) = (
  bif xcm .lss ↑k ↑n then (
   bif xle (xadd (xnat ↑k) 1) n then
   bif xle (xadd (xix 0 (xnat ↑k) 1) 1) (xln cs) then
   bif isI .i64 (nthD cs (xix 0 (xnat ↑k) 1)) then
   bif xle (xadd (xnat ↑k) 1) m then
   bif xle (xadd (xix 0 (xnat ↑k) 1) 1) (xln ds) then
   bif isI .i64 (nthD ds (xix 0 (xnat ↑k) 1)) then
   bif xcm .neq (asI (nthD cs (xix 0 (xnat ↑k) 1))) (asI (nthD ds (xix 0 (xnat ↑k) 1))) then (
    K .ret [.slo 0 0 n 0, .slo 1 0 m 0, .bool false, .int .i64 ↑k] [some (.cells cs (some 1)), some (.cells ds (some 1))] [])
   else (
    K .normal [.slo 0 0 n 0, .slo 1 0 m 0, .any, .int .i64 (xar .add .i64 (↑k) 1)] [some (.cells cs (some 1)), some (.cells ds (some 1))] [])
   else False
   else False
   else False
   else False
   else False
   else False)
  else (
   K (.exit 0) [.slo 0 0 n 0, .slo 1 0 m 0, .any, .int .i64 ↑k] [some (.cells cs (some 1)), some (.cells ds (some 1))] [])) := by kernel_rfl
theorem sii64_z (cs ds : List LV) (K : Pk) : (xsp Go.Proofs.Try.prog (fun _ => none) 40 26 ((sp Go.Proofs.Try.prog 25).drop 5) (mkTm 26 []) (mkS (siHi64 cs ds)) (vK siLi64 K)) = (
  K .ret [.any, .any, .bool true, .any] [some (.cells cs (some 1)), some (.cells ds (some 1))] []) := by kernel_rfl
open Classical in
def sameIi64 (n m : Nat) (cs ds : List LV) : Bool := @decide (n = m ∧ cs = ds) (Classical.propDecidable _)

theorem sameIi64_self (n : Nat) (cs : List LV) : sameIi64 n n cs cs = true := by simp [sameIi64]
theorem sameIi64_ok (xs ys : List Int) (hn : xs.length ≤ 9223372036854775807) (hm : ys.length ≤ 9223372036854775807) : SFun Go.Proofs.Try.prog 25 [.slo 0 0 xs.length 0, .slo 1 0 ys.length 0] (mkS (siHi64 (encL (cI .i64) xs) (encL (cI .i64) ys)))
    fun l s => l = .bool (sameIi64 xs.length ys.length (encL (cI .i64) xs) (encL (cI .i64) ys)) ∧ s = mkS (siHi64 (encL (cI .i64) xs) (encL (cI .i64) ys)) := by
  refine SFun.mono (SFun.pieces (Q := fun l b => l = .bool (sameIi64 xs.length ys.length (encL (cI .i64) xs) (encL (cI .i64) ys)) ∧ b = siHi64 (encL (cI .i64) xs) (encL (cI .i64) ys)) 26 2 siLi64 [4] (by kernel_rfl) rfl rfl rfl ?_) fun l s' ⟨b0, ⟨h1, h2⟩, h3⟩ => ⟨h1, by rw [h3, h2]⟩
  have nx := noIds_Ii64 xs
  have ny := noIds_Ii64 ys
  have hinj : ∀ a b : List Int, encL (cI .i64) a = encL (cI .i64) b → a = b := fun a b h => by rw [← decIi64_enc a, h, decIi64_enc]
  refine SSp.to noCx_ok (n := 40) (g := []) 4 4 rfl (σ := {_k : Unit // xs.length = ys.length}) (fun _ => siTi64 xs.length ys.length 0) (fun _ => siHi64 (encL (cI .i64) xs) (encL (cI .i64) ys)) (mkS_le (Nat.le_refl _)) (by kernel_rfl) ?_ fun ⟨_, hnm⟩ => ?_
  · rw [sii64_a, wd_neq]
    by_cases e : xs.length = ys.length
    · simp only [e, decide_true, Bool.not_true, cond_false]
      exact ⟨rfl, ⟨(), e⟩, [.id 0, .id 1], by (exact ⟨by kernel_rfl, by ((repeat refine okTms_cons (by (first | exact lw_any | exact lw_int | exact lw_bool | exact lw_ptr rfl | exact lw_slo rfl | exact lw_nilp | exact lw_nils | exact lw_str | exact lw_slo_nils | exact lw_slo_sle | exact lw_sl rfl | exact lw_unb | exact lw_gptr | exact lw_noid rfl | exact lw_cap rfl (Nat.le_refl _) | exact lw_cap rfl (by omega) | assumption | exact lw_tup (by ((repeat refine lws_cons (by (first | exact lw_any | exact lw_int | exact lw_bool | exact lw_ptr rfl | exact lw_slo rfl | exact lw_nilp | exact lw_nils | exact lw_str | exact lw_slo_nils | exact lw_slo_sle | exact lw_sl rfl | exact lw_unb | exact lw_gptr | exact lw_noid rfl | exact lw_cap rfl (Nat.le_refl _) | exact lw_cap rfl (by omega) | assumption)) ?_); exact lws_nil)))) ?_); exact okTms_nil), by ((repeat refine okBlks_cons (by (first | exact lb_dead | exact lb_same (by (first | assumption | exact noIds_tab (fun _ => rfl) _ _ | exact noIds_encL (fun _ => rfl) _ | rfl)) | exact lb_ro (by (first | assumption | exact noIds_tab (fun _ => rfl) _ _ | exact noIds_encL (fun _ => rfl) _ | rfl)) | exact lb_none | exact lb_cells (by ((repeat refine lws_cons (by (first | exact lw_any | exact lw_int | exact lw_bool | exact lw_ptr rfl | exact lw_slo rfl | exact lw_nilp | exact lw_nils | exact lw_str | exact lw_slo_nils | exact lw_slo_sle | exact lw_sl rfl | exact lw_unb | exact lw_gptr | exact lw_noid rfl | exact lw_cap rfl (Nat.le_refl _) | exact lw_cap rfl (by omega) | assumption | exact lw_tup (by ((repeat refine lws_cons (by (first | exact lw_any | exact lw_int | exact lw_bool | exact lw_ptr rfl | exact lw_slo rfl | exact lw_nilp | exact lw_nils | exact lw_str | exact lw_slo_nils | exact lw_slo_sle | exact lw_sl rfl | exact lw_unb | exact lw_gptr | exact lw_noid rfl | exact lw_cap rfl (Nat.le_refl _) | exact lw_cap rfl (by omega) | assumption)) ?_); exact lws_nil)))) ?_); exact lws_nil)) (by simp) | exact lb_iter | exact lb_cap (Nat.le_refl _) (Nat.le_refl _) rfl rfl | exact lb_capn (by assumption) (by (first | assumption | exact noIds_tab (fun _ => rfl) _ _ | exact noIds_encL (fun _ => rfl) _ | rfl)) | assumption)) ?_); exact okBlks_nil)⟩)⟩
    · simp only [e, decide_false, Bool.not_false, cond_true]
      have hs : sameIi64 xs.length ys.length (encL (cI .i64) xs) (encL (cI .i64) ys) = false := by simp only [sameIi64, decide_eq_false_iff_not]; exact fun k => e k.1
      exact ⟨trivial, rfl, _, _, [.id 0, .id 1], ⟨rfl, rfl⟩, by rw [hs]; (exact ⟨by kernel_rfl, by ((repeat refine okTms_cons (by (first | exact lw_any | exact lw_int | exact lw_bool | exact lw_ptr rfl | exact lw_slo rfl | exact lw_nilp | exact lw_nils | exact lw_str | exact lw_slo_nils | exact lw_slo_sle | exact lw_sl rfl | exact lw_unb | exact lw_gptr | exact lw_noid rfl | exact lw_cap rfl (Nat.le_refl _) | exact lw_cap rfl (by omega) | assumption | exact lw_tup (by ((repeat refine lws_cons (by (first | exact lw_any | exact lw_int | exact lw_bool | exact lw_ptr rfl | exact lw_slo rfl | exact lw_nilp | exact lw_nils | exact lw_str | exact lw_slo_nils | exact lw_slo_sle | exact lw_sl rfl | exact lw_unb | exact lw_gptr | exact lw_noid rfl | exact lw_cap rfl (Nat.le_refl _) | exact lw_cap rfl (by omega) | assumption)) ?_); exact lws_nil)))) ?_); exact okTms_nil), by ((repeat refine okBlks_cons (by (first | exact lb_dead | exact lb_same (by (first | assumption | exact noIds_tab (fun _ => rfl) _ _ | exact noIds_encL (fun _ => rfl) _ | rfl)) | exact lb_ro (by (first | assumption | exact noIds_tab (fun _ => rfl) _ _ | exact noIds_encL (fun _ => rfl) _ | rfl)) | exact lb_none | exact lb_cells (by ((repeat refine lws_cons (by (first | exact lw_any | exact lw_int | exact lw_bool | exact lw_ptr rfl | exact lw_slo rfl | exact lw_nilp | exact lw_nils | exact lw_str | exact lw_slo_nils | exact lw_slo_sle | exact lw_sl rfl | exact lw_unb | exact lw_gptr | exact lw_noid rfl | exact lw_cap rfl (Nat.le_refl _) | exact lw_cap rfl (by omega) | assumption | exact lw_tup (by ((repeat refine lws_cons (by (first | exact lw_any | exact lw_int | exact lw_bool | exact lw_ptr rfl | exact lw_slo rfl | exact lw_nilp | exact lw_nils | exact lw_str | exact lw_slo_nils | exact lw_slo_sle | exact lw_sl rfl | exact lw_unb | exact lw_gptr | exact lw_noid rfl | exact lw_cap rfl (Nat.le_refl _) | exact lw_cap rfl (by omega) | assumption)) ?_); exact lws_nil)))) ?_); exact lws_nil)) (by simp) | exact lb_iter | exact lb_cap (Nat.le_refl _) (Nat.le_refl _) rfl rfl | exact lb_capn (by assumption) (by (first | assumption | exact noIds_tab (fun _ => rfl) _ _ | exact noIds_encL (fun _ => rfl) _ | rfl)) | assumption)) ?_); exact okBlks_nil)⟩)⟩
  refine SSp.code_to (g := []) 5 rfl (σ := {_k : Unit // xs = ys}) (fun _ => []) (fun _ => siHi64 (encL (cI .i64) xs) (encL (cI .i64) ys)) (by kernel_rfl) ?_ fun ⟨_, hall⟩ => ?_
  · refine SCode.loop_vc noCx_ok (n := 40) 0 (by kernel_rfl) (σ := {k : Nat // k ≤ xs.length ∧ ∀ i (h : i < xs.length) (h' : i < ys.length), i < k → xs[i] = ys[i]}) (fun k => siTi64 xs.length ys.length k.1) (fun _ => siHi64 (encL (cI .i64) xs) (encL (cI .i64) ys)) (fun k => xs.length - k.1) (fun _ => Nat.le_refl _) (fun ⟨k, hk, hall⟩ => ?_) ⟨0, Nat.zero_le _, fun i _ _ hi => absurd hi (by omega)⟩
    dsimp only
    rw [sii64_b, wd_lss]
    refine ite_way (fun h0 => ?_) (fun h0 => ⟨rfl, ⟨(), List.ext_getElem hnm fun i h1 h2 => hall i h1 h2 (by omega)⟩, [.id 0, .id 1], by (exact ⟨by kernel_rfl, by ((repeat refine okTms_cons (by (first | exact lw_any | exact lw_int | exact lw_bool | exact lw_ptr rfl | exact lw_slo rfl | exact lw_nilp | exact lw_nils | exact lw_str | exact lw_slo_nils | exact lw_slo_sle | exact lw_sl rfl | exact lw_unb | exact lw_gptr | exact lw_noid rfl | exact lw_cap rfl (Nat.le_refl _) | exact lw_cap rfl (by omega) | assumption | exact lw_tup (by ((repeat refine lws_cons (by (first | exact lw_any | exact lw_int | exact lw_bool | exact lw_ptr rfl | exact lw_slo rfl | exact lw_nilp | exact lw_nils | exact lw_str | exact lw_slo_nils | exact lw_slo_sle | exact lw_sl rfl | exact lw_unb | exact lw_gptr | exact lw_noid rfl | exact lw_cap rfl (Nat.le_refl _) | exact lw_cap rfl (by omega) | assumption)) ?_); exact lws_nil)))) ?_); exact okTms_nil), by ((repeat refine okBlks_cons (by (first | exact lb_dead | exact lb_same (by (first | assumption | exact noIds_tab (fun _ => rfl) _ _ | exact noIds_encL (fun _ => rfl) _ | rfl)) | exact lb_ro (by (first | assumption | exact noIds_tab (fun _ => rfl) _ _ | exact noIds_encL (fun _ => rfl) _ | rfl)) | exact lb_none | exact lb_cells (by ((repeat refine lws_cons (by (first | exact lw_any | exact lw_int | exact lw_bool | exact lw_ptr rfl | exact lw_slo rfl | exact lw_nilp | exact lw_nils | exact lw_str | exact lw_slo_nils | exact lw_slo_sle | exact lw_sl rfl | exact lw_unb | exact lw_gptr | exact lw_noid rfl | exact lw_cap rfl (Nat.le_refl _) | exact lw_cap rfl (by omega) | assumption | exact lw_tup (by ((repeat refine lws_cons (by (first | exact lw_any | exact lw_int | exact lw_bool | exact lw_ptr rfl | exact lw_slo rfl | exact lw_nilp | exact lw_nils | exact lw_str | exact lw_slo_nils | exact lw_slo_sle | exact lw_sl rfl | exact lw_unb | exact lw_gptr | exact lw_noid rfl | exact lw_cap rfl (Nat.le_refl _) | exact lw_cap rfl (by omega) | assumption)) ?_); exact lws_nil)))) ?_); exact lws_nil)) (by simp) | exact lb_iter | exact lb_cap (Nat.le_refl _) (Nat.le_refl _) rfl rfl | exact lb_capn (by assumption) (by (first | assumption | exact noIds_tab (fun _ => rfl) _ _ | exact noIds_encL (fun _ => rfl) _ | rfl)) | assumption)) ?_); exact okBlks_nil)⟩)⟩)
    have h1 : k < ys.length := by omega
    simp only [wd_nat, wd_asV, wd_isV, wd_ix, wd_add, wd_mul, wd_ln, Nat.zero_add, Nat.mul_one, wd_isI, wd_asI, wd_isB, wd_asB, wd_nn, cI_tlen, cB_tlen, cII_tlen, decide_true, cond_true, wd_not_t, wd_not_f, wd_and_t, wd_and_f, encIi64_nth h0, encIi64_nth h1, encIi64_len, inc_i64 h0 hn, xcm_neq]
    (repeat (with_reducible refine must (by (first | with_reducible rfl | exact t_le (by omega) | exact t_eq (by omega) | exact t_nn (by omega) | exact t_lss (by omega) | exact t_leq (by omega) | exact t_gtr (by omega) | exact t_geq (by omega) | exact t_eql (by omega) | exact t_neq (by omega) | exact t_z (by omega) | exact wd_not_f | assumption)) ?_))
    by_cases e : xs[k] = ys[k]
    · simp only [e, decide_true, Bool.not_true, cond_false]
      exact ⟨rfl, ⟨k + 1, h0, fun i h2 h3 hi => by rcases Nat.lt_succ_iff_lt_or_eq.1 hi with hi | rfl; exact hall i h2 h3 hi; exact e⟩, by simp only; omega, [.id 0, .id 1], by (exact ⟨by kernel_rfl, by ((repeat refine okTms_cons (by (first | exact lw_any | exact lw_int | exact lw_bool | exact lw_ptr rfl | exact lw_slo rfl | exact lw_nilp | exact lw_nils | exact lw_str | exact lw_slo_nils | exact lw_slo_sle | exact lw_sl rfl | exact lw_unb | exact lw_gptr | exact lw_noid rfl | exact lw_cap rfl (Nat.le_refl _) | exact lw_cap rfl (by omega) | assumption | exact lw_tup (by ((repeat refine lws_cons (by (first | exact lw_any | exact lw_int | exact lw_bool | exact lw_ptr rfl | exact lw_slo rfl | exact lw_nilp | exact lw_nils | exact lw_str | exact lw_slo_nils | exact lw_slo_sle | exact lw_sl rfl | exact lw_unb | exact lw_gptr | exact lw_noid rfl | exact lw_cap rfl (Nat.le_refl _) | exact lw_cap rfl (by omega) | assumption)) ?_); exact lws_nil)))) ?_); exact okTms_nil), by ((repeat refine okBlks_cons (by (first | exact lb_dead | exact lb_same (by (first | assumption | exact noIds_tab (fun _ => rfl) _ _ | exact noIds_encL (fun _ => rfl) _ | rfl)) | exact lb_ro (by (first | assumption | exact noIds_tab (fun _ => rfl) _ _ | exact noIds_encL (fun _ => rfl) _ | rfl)) | exact lb_none | exact lb_cells (by ((repeat refine lws_cons (by (first | exact lw_any | exact lw_int | exact lw_bool | exact lw_ptr rfl | exact lw_slo rfl | exact lw_nilp | exact lw_nils | exact lw_str | exact lw_slo_nils | exact lw_slo_sle | exact lw_sl rfl | exact lw_unb | exact lw_gptr | exact lw_noid rfl | exact lw_cap rfl (Nat.le_refl _) | exact lw_cap rfl (by omega) | assumption | exact lw_tup (by ((repeat refine lws_cons (by (first | exact lw_any | exact lw_int | exact lw_bool | exact lw_ptr rfl | exact lw_slo rfl | exact lw_nilp | exact lw_nils | exact lw_str | exact lw_slo_nils | exact lw_slo_sle | exact lw_sl rfl | exact lw_unb | exact lw_gptr | exact lw_noid rfl | exact lw_cap rfl (Nat.le_refl _) | exact lw_cap rfl (by omega) | assumption)) ?_); exact lws_nil)))) ?_); exact lws_nil)) (by simp) | exact lb_iter | exact lb_cap (Nat.le_refl _) (Nat.le_refl _) rfl rfl | exact lb_capn (by assumption) (by (first | assumption | exact noIds_tab (fun _ => rfl) _ _ | exact noIds_encL (fun _ => rfl) _ | rfl)) | assumption)) ?_); exact okBlks_nil)⟩)⟩
    · have hs : sameIi64 xs.length ys.length (encL (cI .i64) xs) (encL (cI .i64) ys) = false := by
        simp only [sameIi64, decide_eq_false_iff_not]
        intro q
        have := hinj _ _ q.2
        subst this
        exact e rfl
      simp only [e, decide_false, Bool.not_false, cond_true]
      exact ⟨trivial, rfl, _, _, [.id 0, .id 1], ⟨rfl, rfl⟩, by rw [hs]; (exact ⟨by kernel_rfl, by ((repeat refine okTms_cons (by (first | exact lw_any | exact lw_int | exact lw_bool | exact lw_ptr rfl | exact lw_slo rfl | exact lw_nilp | exact lw_nils | exact lw_str | exact lw_slo_nils | exact lw_slo_sle | exact lw_sl rfl | exact lw_unb | exact lw_gptr | exact lw_noid rfl | exact lw_cap rfl (Nat.le_refl _) | exact lw_cap rfl (by omega) | assumption | exact lw_tup (by ((repeat refine lws_cons (by (first | exact lw_any | exact lw_int | exact lw_bool | exact lw_ptr rfl | exact lw_slo rfl | exact lw_nilp | exact lw_nils | exact lw_str | exact lw_slo_nils | exact lw_slo_sle | exact lw_sl rfl | exact lw_unb | exact lw_gptr | exact lw_noid rfl | exact lw_cap rfl (Nat.le_refl _) | exact lw_cap rfl (by omega) | assumption)) ?_); exact lws_nil)))) ?_); exact okTms_nil), by ((repeat refine okBlks_cons (by (first | exact lb_dead | exact lb_same (by (first | assumption | exact noIds_tab (fun _ => rfl) _ _ | exact noIds_encL (fun _ => rfl) _ | rfl)) | exact lb_ro (by (first | assumption | exact noIds_tab (fun _ => rfl) _ _ | exact noIds_encL (fun _ => rfl) _ | rfl)) | exact lb_none | exact lb_cells (by ((repeat refine lws_cons (by (first | exact lw_any | exact lw_int | exact lw_bool | exact lw_ptr rfl | exact lw_slo rfl | exact lw_nilp | exact lw_nils | exact lw_str | exact lw_slo_nils | exact lw_slo_sle | exact lw_sl rfl | exact lw_unb | exact lw_gptr | exact lw_noid rfl | exact lw_cap rfl (Nat.le_refl _) | exact lw_cap rfl (by omega) | assumption | exact lw_tup (by ((repeat refine lws_cons (by (first | exact lw_any | exact lw_int | exact lw_bool | exact lw_ptr rfl | exact lw_slo rfl | exact lw_nilp | exact lw_nils | exact lw_str | exact lw_slo_nils | exact lw_slo_sle | exact lw_sl rfl | exact lw_unb | exact lw_gptr | exact lw_noid rfl | exact lw_cap rfl (Nat.le_refl _) | exact lw_cap rfl (by omega) | assumption)) ?_); exact lws_nil)))) ?_); exact lws_nil)) (by simp) | exact lb_iter | exact lb_cap (Nat.le_refl _) (Nat.le_refl _) rfl rfl | exact lb_capn (by assumption) (by (first | assumption | exact noIds_tab (fun _ => rfl) _ _ | exact noIds_encL (fun _ => rfl) _ | rfl)) | assumption)) ?_); exact okBlks_nil)⟩)⟩
  refine SSp.last noCx_ok (n := 40) (mkS_le (Nat.le_refl _)) ?_
  rw [sii64_z]
  have hs : sameIi64 xs.length ys.length (encL (cI .i64) xs) (encL (cI .i64) ys) = true := by
    simp only [sameIi64, decide_eq_true_eq]; exact ⟨hnm, by rw [hall]⟩
  exact ⟨trivial, rfl, _, _, [.id 0, .id 1], ⟨rfl, rfl⟩, by rw [hs]; (exact ⟨by kernel_rfl, by ((repeat refine okTms_cons (by (first | exact lw_any | exact lw_int | exact lw_bool | exact lw_ptr rfl | exact lw_slo rfl | exact lw_nilp | exact lw_nils | exact lw_str | exact lw_slo_nils | exact lw_slo_sle | exact lw_sl rfl | exact lw_unb | exact lw_gptr | exact lw_noid rfl | exact lw_cap rfl (Nat.le_refl _) | exact lw_cap rfl (by omega) | assumption | exact lw_tup (by ((repeat refine lws_cons (by (first | exact lw_any | exact lw_int | exact lw_bool | exact lw_ptr rfl | exact lw_slo rfl | exact lw_nilp | exact lw_nils | exact lw_str | exact lw_slo_nils | exact lw_slo_sle | exact lw_sl rfl | exact lw_unb | exact lw_gptr | exact lw_noid rfl | exact lw_cap rfl (Nat.le_refl _) | exact lw_cap rfl (by omega) | assumption)) ?_); exact lws_nil)))) ?_); exact okTms_nil), by ((repeat refine okBlks_cons (by (first | exact lb_dead | exact lb_same (by (first | assumption | exact noIds_tab (fun _ => rfl) _ _ | exact noIds_encL (fun _ => rfl) _ | rfl)) | exact lb_ro (by (first | assumption | exact noIds_tab (fun _ => rfl) _ _ | exact noIds_encL (fun _ => rfl) _ | rfl)) | exact lb_none | exact lb_cells (by ((repeat refine lws_cons (by (first | exact lw_any | exact lw_int | exact lw_bool | exact lw_ptr rfl | exact lw_slo rfl | exact lw_nilp | exact lw_nils | exact lw_str | exact lw_slo_nils | exact lw_slo_sle | exact lw_sl rfl | exact lw_unb | exact lw_gptr | exact lw_noid rfl | exact lw_cap rfl (Nat.le_refl _) | exact lw_cap rfl (by omega) | assumption | exact lw_tup (by ((repeat refine lws_cons (by (first | exact lw_any | exact lw_int | exact lw_bool | exact lw_ptr rfl | exact lw_slo rfl | exact lw_nilp | exact lw_nils | exact lw_str | exact lw_slo_nils | exact lw_slo_sle | exact lw_sl rfl | exact lw_unb | exact lw_gptr | exact lw_noid rfl | exact lw_cap rfl (Nat.le_refl _) | exact lw_cap rfl (by omega) | assumption)) ?_); exact lws_nil)))) ?_); exact lws_nil)) (by simp) | exact lb_iter | exact lb_cap (Nat.le_refl _) (Nat.le_refl _) rfl rfl | exact lb_capn (by assumption) (by (first | assumption | exact noIds_tab (fun _ => rfl) _ _ | exact noIds_encL (fun _ => rfl) _ | rfl)) | assumption)) ?_); exact okBlks_nil)⟩)⟩
def sameIi64G : Gc := fun args s => match args with
  | [.slo b 0 n 0, .slo c 0 m 0] => (match s.h.get b, s.h.get c, s.g with
    | some (.cells cs (some 1)), some (.cells ds (some 1)), [] => cond (Nat.beq b c) none (some ([okIi64 cs n, okIi64 ds m], .bool (sameIi64 n m cs ds), s))
    | _, _, _ => none)
  | _ => none
theorem sameIi64G_ok : GOk Go.Proofs.Try.prog 25 sameIi64G := by
  intro args s bs l s' hg hb hfr
  unfold sameIi64G at hg
  split at hg
  · rename_i b n c m
    split at hg
    · rename_i cs ds hb1 hc1 hgl
      cases hbc : Nat.beq b c with
      | true => rw [hbc] at hg; cases hg
      | false =>
        rw [hbc] at hg
        simp only [cond_false, Option.some.injEq, Prod.mk.injEq] at hg
        obtain ⟨rfl, rfl, rfl⟩ := hg
        obtain ⟨k1, k2⟩ := allT_cons.1 hb
        obtain ⟨xs, rfl, rfl, h1⟩ := okIi64_iff.1 k1
        obtain ⟨ys, rfl, rfl, h2⟩ := okIi64_iff.1 (allT_cons.1 k2).1
        have nx := noIds_Ii64 xs
        have ny := noIds_Ii64 ys
        refine SFun.lift_ro (ρ := [b, c]) (bs := siHi64 (encL (cI .i64) xs) (encL (cI .i64) ys)) (args0 := [.slo 0 0 xs.length 0, .slo 1 0 ys.length 0]) hfr (by simp [beq_ne hbc]) ⟨⟨there hfr hb1, _, hb1, by (first | exact lb_dead | exact lb_same (by (first | assumption | exact noIds_tab (fun _ => rfl) _ _ | exact noIds_encL (fun _ => rfl) _ | rfl)) | exact lb_ro (by (first | assumption | exact noIds_tab (fun _ => rfl) _ _ | exact noIds_encL (fun _ => rfl) _ | rfl)) | exact lb_none | exact lb_cells (by ((repeat refine lws_cons (by (first | exact lw_any | exact lw_int | exact lw_bool | exact lw_ptr rfl | exact lw_slo rfl | exact lw_nilp | exact lw_nils | exact lw_str | exact lw_slo_nils | exact lw_slo_sle | exact lw_sl rfl | exact lw_unb | exact lw_gptr | exact lw_noid rfl | exact lw_cap rfl (Nat.le_refl _) | exact lw_cap rfl (by omega) | assumption | exact lw_tup (by ((repeat refine lws_cons (by (first | exact lw_any | exact lw_int | exact lw_bool | exact lw_ptr rfl | exact lw_slo rfl | exact lw_nilp | exact lw_nils | exact lw_str | exact lw_slo_nils | exact lw_slo_sle | exact lw_sl rfl | exact lw_unb | exact lw_gptr | exact lw_noid rfl | exact lw_cap rfl (Nat.le_refl _) | exact lw_cap rfl (by omega) | assumption)) ?_); exact lws_nil)))) ?_); exact lws_nil)) (by simp) | exact lb_iter | exact lb_cap (Nat.le_refl _) (Nat.le_refl _) rfl rfl | exact lb_capn (by assumption) (by (first | assumption | exact noIds_tab (fun _ => rfl) _ _ | exact noIds_encL (fun _ => rfl) _ | rfl)) | assumption), fun κ hκ => by (first | exact lb_dead | exact lb_same (by (first | assumption | exact noIds_tab (fun _ => rfl) _ _ | exact noIds_encL (fun _ => rfl) _ | rfl)) | exact lb_ro (by (first | assumption | exact noIds_tab (fun _ => rfl) _ _ | exact noIds_encL (fun _ => rfl) _ | rfl)) | exact lb_none | exact lb_cells (by ((repeat refine lws_cons (by (first | exact lw_any | exact lw_int | exact lw_bool | exact lw_ptr rfl | exact lw_slo rfl | exact lw_nilp | exact lw_nils | exact lw_str | exact lw_slo_nils | exact lw_slo_sle | exact lw_sl rfl | exact lw_unb | exact lw_gptr | exact lw_noid rfl | exact lw_cap rfl (Nat.le_refl _) | exact lw_cap rfl (by omega) | assumption | exact lw_tup (by ((repeat refine lws_cons (by (first | exact lw_any | exact lw_int | exact lw_bool | exact lw_ptr rfl | exact lw_slo rfl | exact lw_nilp | exact lw_nils | exact lw_str | exact lw_slo_nils | exact lw_slo_sle | exact lw_sl rfl | exact lw_unb | exact lw_gptr | exact lw_noid rfl | exact lw_cap rfl (Nat.le_refl _) | exact lw_cap rfl (by omega) | assumption)) ?_); exact lws_nil)))) ?_); exact lws_nil)) (by simp) | exact lb_iter | exact lb_cap (Nat.le_refl _) (Nat.le_refl _) rfl rfl | exact lb_capn (by assumption) (by (first | assumption | exact noIds_tab (fun _ => rfl) _ _ | exact noIds_encL (fun _ => rfl) _ | rfl)) | assumption)⟩, ⟨there hfr hc1, _, hc1, by (first | exact lb_dead | exact lb_same (by (first | assumption | exact noIds_tab (fun _ => rfl) _ _ | exact noIds_encL (fun _ => rfl) _ | rfl)) | exact lb_ro (by (first | assumption | exact noIds_tab (fun _ => rfl) _ _ | exact noIds_encL (fun _ => rfl) _ | rfl)) | exact lb_none | exact lb_cells (by ((repeat refine lws_cons (by (first | exact lw_any | exact lw_int | exact lw_bool | exact lw_ptr rfl | exact lw_slo rfl | exact lw_nilp | exact lw_nils | exact lw_str | exact lw_slo_nils | exact lw_slo_sle | exact lw_sl rfl | exact lw_unb | exact lw_gptr | exact lw_noid rfl | exact lw_cap rfl (Nat.le_refl _) | exact lw_cap rfl (by omega) | assumption | exact lw_tup (by ((repeat refine lws_cons (by (first | exact lw_any | exact lw_int | exact lw_bool | exact lw_ptr rfl | exact lw_slo rfl | exact lw_nilp | exact lw_nils | exact lw_str | exact lw_slo_nils | exact lw_slo_sle | exact lw_sl rfl | exact lw_unb | exact lw_gptr | exact lw_noid rfl | exact lw_cap rfl (Nat.le_refl _) | exact lw_cap rfl (by omega) | assumption)) ?_); exact lws_nil)))) ?_); exact lws_nil)) (by simp) | exact lb_iter | exact lb_cap (Nat.le_refl _) (Nat.le_refl _) rfl rfl | exact lb_capn (by assumption) (by (first | assumption | exact noIds_tab (fun _ => rfl) _ _ | exact noIds_encL (fun _ => rfl) _ | rfl)) | assumption), fun κ hκ => by (first | exact lb_dead | exact lb_same (by (first | assumption | exact noIds_tab (fun _ => rfl) _ _ | exact noIds_encL (fun _ => rfl) _ | rfl)) | exact lb_ro (by (first | assumption | exact noIds_tab (fun _ => rfl) _ _ | exact noIds_encL (fun _ => rfl) _ | rfl)) | exact lb_none | exact lb_cells (by ((repeat refine lws_cons (by (first | exact lw_any | exact lw_int | exact lw_bool | exact lw_ptr rfl | exact lw_slo rfl | exact lw_nilp | exact lw_nils | exact lw_str | exact lw_slo_nils | exact lw_slo_sle | exact lw_sl rfl | exact lw_unb | exact lw_gptr | exact lw_noid rfl | exact lw_cap rfl (Nat.le_refl _) | exact lw_cap rfl (by omega) | assumption | exact lw_tup (by ((repeat refine lws_cons (by (first | exact lw_any | exact lw_int | exact lw_bool | exact lw_ptr rfl | exact lw_slo rfl | exact lw_nilp | exact lw_nils | exact lw_str | exact lw_slo_nils | exact lw_slo_sle | exact lw_sl rfl | exact lw_unb | exact lw_gptr | exact lw_noid rfl | exact lw_cap rfl (Nat.le_refl _) | exact lw_cap rfl (by omega) | assumption)) ?_); exact lws_nil)))) ?_); exact lws_nil)) (by simp) | exact lb_iter | exact lb_cap (Nat.le_refl _) (Nat.le_refl _) rfl rfl | exact lb_capn (by assumption) (by (first | assumption | exact noIds_tab (fun _ => rfl) _ _ | exact noIds_encL (fun _ => rfl) _ | rfl)) | assumption)⟩, trivial⟩ (by ((repeat refine lws_cons (by (first | exact lw_any | exact lw_int | exact lw_bool | exact lw_ptr rfl | exact lw_slo rfl | exact lw_nilp | exact lw_nils | exact lw_str | exact lw_slo_nils | exact lw_slo_sle | exact lw_sl rfl | exact lw_unb | exact lw_gptr | exact lw_noid rfl | exact lw_cap rfl (Nat.le_refl _) | exact lw_cap rfl (by omega) | assumption | exact lw_tup (by ((repeat refine lws_cons (by (first | exact lw_any | exact lw_int | exact lw_bool | exact lw_ptr rfl | exact lw_slo rfl | exact lw_nilp | exact lw_nils | exact lw_str | exact lw_slo_nils | exact lw_slo_sle | exact lw_sl rfl | exact lw_unb | exact lw_gptr | exact lw_noid rfl | exact lw_cap rfl (Nat.le_refl _) | exact lw_cap rfl (by omega) | assumption)) ?_); exact lws_nil)))) ?_); exact lws_nil)) rfl ?_
        rw [hgl]
        exact sameIi64_ok xs ys h1 h2
    · cases hg
  · cases hg

/-! two rows that are nil -/
theorem same0i64_x (K : Fk) : (xfun Go.Proofs.Try.prog (fun _ => none) 40 25 [.nils, .nils] (mkS []) (vF K)) = (
  K (.bool true) [] []) := by kernel_rfl
theorem same0i64_ok : SFun Go.Proofs.Try.prog 25 [.nils, .nils] (mkS []) fun l s => l = .bool true ∧ s = mkS [] := by
  refine SFun.mono (SFun.vc (Q := fun l b => l = .bool true ∧ b = []) noCx_ok (n := 40) 0 rfl ?_) fun l s' ⟨b0, ⟨h1, h2⟩, h3⟩ => ⟨h1, by rw [h3, h2]⟩
  rw [same0i64_x]
  exact ⟨rfl, _, [], [], ⟨rfl, rfl⟩, by (exact ⟨by kernel_rfl, by ((repeat refine okTms_cons (by (first | exact lw_any | exact lw_int | exact lw_bool | exact lw_ptr rfl | exact lw_slo rfl | exact lw_nilp | exact lw_nils | exact lw_str | exact lw_slo_nils | exact lw_slo_sle | exact lw_sl rfl | exact lw_unb | exact lw_gptr | exact lw_noid rfl | exact lw_cap rfl (Nat.le_refl _) | exact lw_cap rfl (by omega) | assumption | exact lw_tup (by ((repeat refine lws_cons (by (first | exact lw_any | exact lw_int | exact lw_bool | exact lw_ptr rfl | exact lw_slo rfl | exact lw_nilp | exact lw_nils | exact lw_str | exact lw_slo_nils | exact lw_slo_sle | exact lw_sl rfl | exact lw_unb | exact lw_gptr | exact lw_noid rfl | exact lw_cap rfl (Nat.le_refl _) | exact lw_cap rfl (by omega) | assumption)) ?_); exact lws_nil)))) ?_); exact okTms_nil), by ((repeat refine okBlks_cons (by (first | exact lb_dead | exact lb_same (by (first | assumption | exact noIds_tab (fun _ => rfl) _ _ | exact noIds_encL (fun _ => rfl) _ | rfl)) | exact lb_ro (by (first | assumption | exact noIds_tab (fun _ => rfl) _ _ | exact noIds_encL (fun _ => rfl) _ | rfl)) | exact lb_none | exact lb_cells (by ((repeat refine lws_cons (by (first | exact lw_any | exact lw_int | exact lw_bool | exact lw_ptr rfl | exact lw_slo rfl | exact lw_nilp | exact lw_nils | exact lw_str | exact lw_slo_nils | exact lw_slo_sle | exact lw_sl rfl | exact lw_unb | exact lw_gptr | exact lw_noid rfl | exact lw_cap rfl (Nat.le_refl _) | exact lw_cap rfl (by omega) | assumption | exact lw_tup (by ((repeat refine lws_cons (by (first | exact lw_any | exact lw_int | exact lw_bool | exact lw_ptr rfl | exact lw_slo rfl | exact lw_nilp | exact lw_nils | exact lw_str | exact lw_slo_nils | exact lw_slo_sle | exact lw_sl rfl | exact lw_unb | exact lw_gptr | exact lw_noid rfl | exact lw_cap rfl (Nat.le_refl _) | exact lw_cap rfl (by omega) | assumption)) ?_); exact lws_nil)))) ?_); exact lws_nil)) (by simp) | exact lb_iter | exact lb_cap (Nat.le_refl _) (Nat.le_refl _) rfl rfl | exact lb_capn (by assumption) (by (first | assumption | exact noIds_tab (fun _ => rfl) _ _ | exact noIds_encL (fun _ => rfl) _ | rfl)) | assumption)) ?_); exact okBlks_nil)⟩)⟩
def same0i64G : Gc := fun args s => match args, s.g with
  | [.nils, .nils], [] => some ([], .bool true, s)
  | _, _ => none
theorem same0i64G_ok : GOk Go.Proofs.Try.prog 25 same0i64G := by
  intro args s bs l s' hg hb hfr
  unfold same0i64G at hg
  split at hg
  · rename_i hgl
    simp only [Option.some.injEq, Prod.mk.injEq] at hg
    obtain ⟨rfl, rfl, rfl⟩ := hg
    exact SFun.pure hfr hgl rfl rfl same0i64_ok
  · cases hg

/-! a row and one that is nil -/
theorem sameS0_x (n : Nat) (cs : List LV) (K : Fk) : (xfun Go.Proofs.Try.prog (fun _ => none) 40 25 [.slo 0 0 n 0, .nils] (mkS [.cells cs (some 1)]) (vF K)) = (
  bif xcm .neq (↑n) 0 then (
   K (.bool false) [some (.cells cs (some 1))] [])
  else (
   bif xcm .lss 0 ↑n then (
    bif xle 1 n then
    bif xle 1 (xln cs) then
    bif isI .i64 (nthD cs 0) then
    False
    else False
    else False
    else False)
   else (
    K (.bool true) [some (.cells cs (some 1))] []))) := by kernel_rfl
theorem same0S_x (n : Nat) (cs : List LV) (K : Fk) : (xfun Go.Proofs.Try.prog (fun _ => none) 40 25 [.nils, .slo 0 0 n 0] (mkS [.cells cs (some 1)]) (vF K)) = (
  bif xcm .neq 0 ↑n then (
   K (.bool false) [some (.cells cs (some 1))] [])
  else (
   K (.bool true) [some (.cells cs (some 1))] [])) := by kernel_rfl
theorem sameS0_ok (n : Nat) (cs : List LV) (no : noIds cs = true) : SFun Go.Proofs.Try.prog 25 [.slo 0 0 n 0, .nils] (mkS [.cells cs (some 1)]) fun l s => l = .bool (xcm .eql ↑n 0) ∧ s = mkS [.cells cs (some 1)] := by
  refine SFun.mono (SFun.vc (Q := fun l b => l = .bool (xcm .eql ↑n 0) ∧ b = [.cells cs (some 1)]) noCx_ok (n := 40) 1 rfl ?_) fun l s' ⟨b0, ⟨h1, h2⟩, h3⟩ => ⟨h1, by rw [h3, h2]⟩
  rw [sameS0_x]
  by_cases z : n = 0
  · (repeat (first | (with_reducible refine way_t (by (first | with_reducible rfl | exact t_le (by omega) | exact t_eq (by omega) | exact t_nn (by omega) | exact t_lss (by omega) | exact t_leq (by omega) | exact t_gtr (by omega) | exact t_geq (by omega) | exact t_eql (by omega) | exact t_neq (by omega) | exact t_z (by omega) | exact wd_not_f | assumption)) ?_) | (with_reducible refine way_f (by (first | with_reducible rfl | exact f_le (by omega) | exact f_eq (by omega) | exact f_nn (by omega) | exact f_lss (by omega) | exact f_leq (by omega) | exact f_gtr (by omega) | exact f_geq (by omega) | exact f_eql (by omega) | exact f_neq (by omega) | exact f_z (by omega) | exact wd_not_t | assumption)) ?_)))
    exact ⟨rfl, _, _, [.id 0], ⟨rfl, rfl⟩, by rw [show xcm .eql (n : Int) 0 = true from t_eql (by omega)]; (exact ⟨by kernel_rfl, by ((repeat refine okTms_cons (by (first | exact lw_any | exact lw_int | exact lw_bool | exact lw_ptr rfl | exact lw_slo rfl | exact lw_nilp | exact lw_nils | exact lw_str | exact lw_slo_nils | exact lw_slo_sle | exact lw_sl rfl | exact lw_unb | exact lw_gptr | exact lw_noid rfl | exact lw_cap rfl (Nat.le_refl _) | exact lw_cap rfl (by omega) | assumption | exact lw_tup (by ((repeat refine lws_cons (by (first | exact lw_any | exact lw_int | exact lw_bool | exact lw_ptr rfl | exact lw_slo rfl | exact lw_nilp | exact lw_nils | exact lw_str | exact lw_slo_nils | exact lw_slo_sle | exact lw_sl rfl | exact lw_unb | exact lw_gptr | exact lw_noid rfl | exact lw_cap rfl (Nat.le_refl _) | exact lw_cap rfl (by omega) | assumption)) ?_); exact lws_nil)))) ?_); exact okTms_nil), by ((repeat refine okBlks_cons (by (first | exact lb_dead | exact lb_same (by (first | assumption | exact noIds_tab (fun _ => rfl) _ _ | exact noIds_encL (fun _ => rfl) _ | rfl)) | exact lb_ro (by (first | assumption | exact noIds_tab (fun _ => rfl) _ _ | exact noIds_encL (fun _ => rfl) _ | rfl)) | exact lb_none | exact lb_cells (by ((repeat refine lws_cons (by (first | exact lw_any | exact lw_int | exact lw_bool | exact lw_ptr rfl | exact lw_slo rfl | exact lw_nilp | exact lw_nils | exact lw_str | exact lw_slo_nils | exact lw_slo_sle | exact lw_sl rfl | exact lw_unb | exact lw_gptr | exact lw_noid rfl | exact lw_cap rfl (Nat.le_refl _) | exact lw_cap rfl (by omega) | assumption | exact lw_tup (by ((repeat refine lws_cons (by (first | exact lw_any | exact lw_int | exact lw_bool | exact lw_ptr rfl | exact lw_slo rfl | exact lw_nilp | exact lw_nils | exact lw_str | exact lw_slo_nils | exact lw_slo_sle | exact lw_sl rfl | exact lw_unb | exact lw_gptr | exact lw_noid rfl | exact lw_cap rfl (Nat.le_refl _) | exact lw_cap rfl (by omega) | assumption)) ?_); exact lws_nil)))) ?_); exact lws_nil)) (by simp) | exact lb_iter | exact lb_cap (Nat.le_refl _) (Nat.le_refl _) rfl rfl | exact lb_capn (by assumption) (by (first | assumption | exact noIds_tab (fun _ => rfl) _ _ | exact noIds_encL (fun _ => rfl) _ | rfl)) | assumption)) ?_); exact okBlks_nil)⟩)⟩
  · (repeat (first | (with_reducible refine way_t (by (first | with_reducible rfl | exact t_le (by omega) | exact t_eq (by omega) | exact t_nn (by omega) | exact t_lss (by omega) | exact t_leq (by omega) | exact t_gtr (by omega) | exact t_geq (by omega) | exact t_eql (by omega) | exact t_neq (by omega) | exact t_z (by omega) | exact wd_not_f | assumption)) ?_) | (with_reducible refine way_f (by (first | with_reducible rfl | exact f_le (by omega) | exact f_eq (by omega) | exact f_nn (by omega) | exact f_lss (by omega) | exact f_leq (by omega) | exact f_gtr (by omega) | exact f_geq (by omega) | exact f_eql (by omega) | exact f_neq (by omega) | exact f_z (by omega) | exact wd_not_t | assumption)) ?_)))
    exact ⟨rfl, _, _, [.id 0], ⟨rfl, rfl⟩, by rw [show xcm .eql (n : Int) 0 = false from f_eql (by omega)]; (exact ⟨by kernel_rfl, by ((repeat refine okTms_cons (by (first | exact lw_any | exact lw_int | exact lw_bool | exact lw_ptr rfl | exact lw_slo rfl | exact lw_nilp | exact lw_nils | exact lw_str | exact lw_slo_nils | exact lw_slo_sle | exact lw_sl rfl | exact lw_unb | exact lw_gptr | exact lw_noid rfl | exact lw_cap rfl (Nat.le_refl _) | exact lw_cap rfl (by omega) | assumption | exact lw_tup (by ((repeat refine lws_cons (by (first | exact lw_any | exact lw_int | exact lw_bool | exact lw_ptr rfl | exact lw_slo rfl | exact lw_nilp | exact lw_nils | exact lw_str | exact lw_slo_nils | exact lw_slo_sle | exact lw_sl rfl | exact lw_unb | exact lw_gptr | exact lw_noid rfl | exact lw_cap rfl (Nat.le_refl _) | exact lw_cap rfl (by omega) | assumption)) ?_); exact lws_nil)))) ?_); exact okTms_nil), by ((repeat refine okBlks_cons (by (first | exact lb_dead | exact lb_same (by (first | assumption | exact noIds_tab (fun _ => rfl) _ _ | exact noIds_encL (fun _ => rfl) _ | rfl)) | exact lb_ro (by (first | assumption | exact noIds_tab (fun _ => rfl) _ _ | exact noIds_encL (fun _ => rfl) _ | rfl)) | exact lb_none | exact lb_cells (by ((repeat refine lws_cons (by (first | exact lw_any | exact lw_int | exact lw_bool | exact lw_ptr rfl | exact lw_slo rfl | exact lw_nilp | exact lw_nils | exact lw_str | exact lw_slo_nils | exact lw_slo_sle | exact lw_sl rfl | exact lw_unb | exact lw_gptr | exact lw_noid rfl | exact lw_cap rfl (Nat.le_refl _) | exact lw_cap rfl (by omega) | assumption | exact lw_tup (by ((repeat refine lws_cons (by (first | exact lw_any | exact lw_int | exact lw_bool | exact lw_ptr rfl | exact lw_slo rfl | exact lw_nilp | exact lw_nils | exact lw_str | exact lw_slo_nils | exact lw_slo_sle | exact lw_sl rfl | exact lw_unb | exact lw_gptr | exact lw_noid rfl | exact lw_cap rfl (Nat.le_refl _) | exact lw_cap rfl (by omega) | assumption)) ?_); exact lws_nil)))) ?_); exact lws_nil)) (by simp) | exact lb_iter | exact lb_cap (Nat.le_refl _) (Nat.le_refl _) rfl rfl | exact lb_capn (by assumption) (by (first | assumption | exact noIds_tab (fun _ => rfl) _ _ | exact noIds_encL (fun _ => rfl) _ | rfl)) | assumption)) ?_); exact okBlks_nil)⟩)⟩
theorem same0S_ok (n : Nat) (cs : List LV) (no : noIds cs = true) : SFun Go.Proofs.Try.prog 25 [.nils, .slo 0 0 n 0] (mkS [.cells cs (some 1)]) fun l s => l = .bool (xcm .eql ↑n 0) ∧ s = mkS [.cells cs (some 1)] := by
  refine SFun.mono (SFun.vc (Q := fun l b => l = .bool (xcm .eql ↑n 0) ∧ b = [.cells cs (some 1)]) noCx_ok (n := 40) 1 rfl ?_) fun l s' ⟨b0, ⟨h1, h2⟩, h3⟩ => ⟨h1, by rw [h3, h2]⟩
  rw [same0S_x]
  by_cases z : n = 0
  · (repeat (first | (with_reducible refine way_t (by (first | with_reducible rfl | exact t_le (by omega) | exact t_eq (by omega) | exact t_nn (by omega) | exact t_lss (by omega) | exact t_leq (by omega) | exact t_gtr (by omega) | exact t_geq (by omega) | exact t_eql (by omega) | exact t_neq (by omega) | exact t_z (by omega) | exact wd_not_f | assumption)) ?_) | (with_reducible refine way_f (by (first | with_reducible rfl | exact f_le (by omega) | exact f_eq (by omega) | exact f_nn (by omega) | exact f_lss (by omega) | exact f_leq (by omega) | exact f_gtr (by omega) | exact f_geq (by omega) | exact f_eql (by omega) | exact f_neq (by omega) | exact f_z (by omega) | exact wd_not_t | assumption)) ?_)))
    exact ⟨rfl, _, _, [.id 0], ⟨rfl, rfl⟩, by rw [show xcm .eql (n : Int) 0 = true from t_eql (by omega)]; (exact ⟨by kernel_rfl, by ((repeat refine okTms_cons (by (first | exact lw_any | exact lw_int | exact lw_bool | exact lw_ptr rfl | exact lw_slo rfl | exact lw_nilp | exact lw_nils | exact lw_str | exact lw_slo_nils | exact lw_slo_sle | exact lw_sl rfl | exact lw_unb | exact lw_gptr | exact lw_noid rfl | exact lw_cap rfl (Nat.le_refl _) | exact lw_cap rfl (by omega) | assumption | exact lw_tup (by ((repeat refine lws_cons (by (first | exact lw_any | exact lw_int | exact lw_bool | exact lw_ptr rfl | exact lw_slo rfl | exact lw_nilp | exact lw_nils | exact lw_str | exact lw_slo_nils | exact lw_slo_sle | exact lw_sl rfl | exact lw_unb | exact lw_gptr | exact lw_noid rfl | exact lw_cap rfl (Nat.le_refl _) | exact lw_cap rfl (by omega) | assumption)) ?_); exact lws_nil)))) ?_); exact okTms_nil), by ((repeat refine okBlks_cons (by (first | exact lb_dead | exact lb_same (by (first | assumption | exact noIds_tab (fun _ => rfl) _ _ | exact noIds_encL (fun _ => rfl) _ | rfl)) | exact lb_ro (by (first | assumption | exact noIds_tab (fun _ => rfl) _ _ | exact noIds_encL (fun _ => rfl) _ | rfl)) | exact lb_none | exact lb_cells (by ((repeat refine lws_cons (by (first | exact lw_any | exact lw_int | exact lw_bool | exact lw_ptr rfl | exact lw_slo rfl | exact lw_nilp | exact lw_nils | exact lw_str | exact lw_slo_nils | exact lw_slo_sle | exact lw_sl rfl | exact lw_unb | exact lw_gptr | exact lw_noid rfl | exact lw_cap rfl (Nat.le_refl _) | exact lw_cap rfl (by omega) | assumption | exact lw_tup (by ((repeat refine lws_cons (by (first | exact lw_any | exact lw_int | exact lw_bool | exact lw_ptr rfl | exact lw_slo rfl | exact lw_nilp | exact lw_nils | exact lw_str | exact lw_slo_nils | exact lw_slo_sle | exact lw_sl rfl | exact lw_unb | exact lw_gptr | exact lw_noid rfl | exact lw_cap rfl (Nat.le_refl _) | exact lw_cap rfl (by omega) | assumption)) ?_); exact lws_nil)))) ?_); exact lws_nil)) (by simp) | exact lb_iter | exact lb_cap (Nat.le_refl _) (Nat.le_refl _) rfl rfl | exact lb_capn (by assumption) (by (first | assumption | exact noIds_tab (fun _ => rfl) _ _ | exact noIds_encL (fun _ => rfl) _ | rfl)) | assumption)) ?_); exact okBlks_nil)⟩)⟩
  · (repeat (first | (with_reducible refine way_t (by (first | with_reducible rfl | exact t_le (by omega) | exact t_eq (by omega) | exact t_nn (by omega) | exact t_lss (by omega) | exact t_leq (by omega) | exact t_gtr (by omega) | exact t_geq (by omega) | exact t_eql (by omega) | exact t_neq (by omega) | exact t_z (by omega) | exact wd_not_f | assumption)) ?_) | (with_reducible refine way_f (by (first | with_reducible rfl | exact f_le (by omega) | exact f_eq (by omega) | exact f_nn (by omega) | exact f_lss (by omega) | exact f_leq (by omega) | exact f_gtr (by omega) | exact f_geq (by omega) | exact f_eql (by omega) | exact f_neq (by omega) | exact f_z (by omega) | exact wd_not_t | assumption)) ?_)))
    exact ⟨rfl, _, _, [.id 0], ⟨rfl, rfl⟩, by rw [show xcm .eql (n : Int) 0 = false from f_eql (by omega)]; (exact ⟨by kernel_rfl, by ((repeat refine okTms_cons (by (first | exact lw_any | exact lw_int | exact lw_bool | exact lw_ptr rfl | exact lw_slo rfl | exact lw_nilp | exact lw_nils | exact lw_str | exact lw_slo_nils | exact lw_slo_sle | exact lw_sl rfl | exact lw_unb | exact lw_gptr | exact lw_noid rfl | exact lw_cap rfl (Nat.le_refl _) | exact lw_cap rfl (by omega) | assumption | exact lw_tup (by ((repeat refine lws_cons (by (first | exact lw_any | exact lw_int | exact lw_bool | exact lw_ptr rfl | exact lw_slo rfl | exact lw_nilp | exact lw_nils | exact lw_str | exact lw_slo_nils | exact lw_slo_sle | exact lw_sl rfl | exact lw_unb | exact lw_gptr | exact lw_noid rfl | exact lw_cap rfl (Nat.le_refl _) | exact lw_cap rfl (by omega) | assumption)) ?_); exact lws_nil)))) ?_); exact okTms_nil), by ((repeat refine okBlks_cons (by (first | exact lb_dead | exact lb_same (by (first | assumption | exact noIds_tab (fun _ => rfl) _ _ | exact noIds_encL (fun _ => rfl) _ | rfl)) | exact lb_ro (by (first | assumption | exact noIds_tab (fun _ => rfl) _ _ | exact noIds_encL (fun _ => rfl) _ | rfl)) | exact lb_none | exact lb_cells (by ((repeat refine lws_cons (by (first | exact lw_any | exact lw_int | exact lw_bool | exact lw_ptr rfl | exact lw_slo rfl | exact lw_nilp | exact lw_nils | exact lw_str | exact lw_slo_nils | exact lw_slo_sle | exact lw_sl rfl | exact lw_unb | exact lw_gptr | exact lw_noid rfl | exact lw_cap rfl (Nat.le_refl _) | exact lw_cap rfl (by omega) | assumption | exact lw_tup (by ((repeat refine lws_cons (by (first | exact lw_any | exact lw_int | exact lw_bool | exact lw_ptr rfl | exact lw_slo rfl | exact lw_nilp | exact lw_nils | exact lw_str | exact lw_slo_nils | exact lw_slo_sle | exact lw_sl rfl | exact lw_unb | exact lw_gptr | exact lw_noid rfl | exact lw_cap rfl (Nat.le_refl _) | exact lw_cap rfl (by omega) | assumption)) ?_); exact lws_nil)))) ?_); exact lws_nil)) (by simp) | exact lb_iter | exact lb_cap (Nat.le_refl _) (Nat.le_refl _) rfl rfl | exact lb_capn (by assumption) (by (first | assumption | exact noIds_tab (fun _ => rfl) _ _ | exact noIds_encL (fun _ => rfl) _ | rfl)) | assumption)) ?_); exact okBlks_nil)⟩)⟩
def sameS0G : Gc := fun args s => match args, s.g with
  | [.slo b 0 n 0, .nils], [] => (match s.h.get b with
    | some (.cells cs (some 1)) => (match s.lay [b] [.cells cs (some 1)] [] with
      | some s' => some ([okFr cs n], .bool (xcm .eql ↑n 0), s')
      | none => none)
    | _ => none)
  | _, _ => none
theorem sameS0G_ok : GOk Go.Proofs.Try.prog 25 sameS0G := by
  intro args s bs l s' hg hb hfr
  unfold sameS0G at hg
  split at hg
  · rename_i b n hgl
    split at hg
    · rename_i cs hb0
      split at hg
      · rename_i s1 hs1
        simp only [Option.some.injEq, Prod.mk.injEq] at hg
        obtain ⟨rfl, rfl, rfl⟩ := hg
        simp only [allT_cons] at hb
        obtain ⟨k1, _⟩ := hb
        have no := okFr_noids k1
        refine SFun.lay (bs := [.cells cs (some 1)]) (args0 := [.slo 0 0 n 0, .nils]) (bs' := [.cells cs (some 1)]) (v0 := .bool (xcm .eql ↑n 0)) hfr hs1 (by simp)
          ⟨⟨there hfr hb0, _, hb0, by (first | exact lb_dead | exact lb_same (by (first | assumption | exact noIds_tab (fun _ => rfl) _ _ | exact noIds_encL (fun _ => rfl) _ | rfl)) | exact lb_ro (by (first | assumption | exact noIds_tab (fun _ => rfl) _ _ | exact noIds_encL (fun _ => rfl) _ | rfl)) | exact lb_none | exact lb_cells (by ((repeat refine lws_cons (by (first | exact lw_any | exact lw_int | exact lw_bool | exact lw_ptr rfl | exact lw_slo rfl | exact lw_nilp | exact lw_nils | exact lw_str | exact lw_slo_nils | exact lw_slo_sle | exact lw_sl rfl | exact lw_unb | exact lw_gptr | exact lw_noid rfl | exact lw_cap rfl (Nat.le_refl _) | exact lw_cap rfl (by omega) | assumption | exact lw_tup (by ((repeat refine lws_cons (by (first | exact lw_any | exact lw_int | exact lw_bool | exact lw_ptr rfl | exact lw_slo rfl | exact lw_nilp | exact lw_nils | exact lw_str | exact lw_slo_nils | exact lw_slo_sle | exact lw_sl rfl | exact lw_unb | exact lw_gptr | exact lw_noid rfl | exact lw_cap rfl (Nat.le_refl _) | exact lw_cap rfl (by omega) | assumption)) ?_); exact lws_nil)))) ?_); exact lws_nil)) (by simp) | exact lb_iter | exact lb_cap (Nat.le_refl _) (Nat.le_refl _) rfl rfl | exact lb_capn (by assumption) (by (first | assumption | exact noIds_tab (fun _ => rfl) _ _ | exact noIds_encL (fun _ => rfl) _ | rfl)) | assumption), fun κ hκ => by (first | exact lb_dead | exact lb_same (by (first | assumption | exact noIds_tab (fun _ => rfl) _ _ | exact noIds_encL (fun _ => rfl) _ | rfl)) | exact lb_ro (by (first | assumption | exact noIds_tab (fun _ => rfl) _ _ | exact noIds_encL (fun _ => rfl) _ | rfl)) | exact lb_none | exact lb_cells (by ((repeat refine lws_cons (by (first | exact lw_any | exact lw_int | exact lw_bool | exact lw_ptr rfl | exact lw_slo rfl | exact lw_nilp | exact lw_nils | exact lw_str | exact lw_slo_nils | exact lw_slo_sle | exact lw_sl rfl | exact lw_unb | exact lw_gptr | exact lw_noid rfl | exact lw_cap rfl (Nat.le_refl _) | exact lw_cap rfl (by omega) | assumption | exact lw_tup (by ((repeat refine lws_cons (by (first | exact lw_any | exact lw_int | exact lw_bool | exact lw_ptr rfl | exact lw_slo rfl | exact lw_nilp | exact lw_nils | exact lw_str | exact lw_slo_nils | exact lw_slo_sle | exact lw_sl rfl | exact lw_unb | exact lw_gptr | exact lw_noid rfl | exact lw_cap rfl (Nat.le_refl _) | exact lw_cap rfl (by omega) | assumption)) ?_); exact lws_nil)))) ?_); exact lws_nil)) (by simp) | exact lb_iter | exact lb_cap (Nat.le_refl _) (Nat.le_refl _) rfl rfl | exact lb_capn (by assumption) (by (first | assumption | exact noIds_tab (fun _ => rfl) _ _ | exact noIds_encL (fun _ => rfl) _ | rfl)) | assumption)⟩, trivial⟩ (by ((repeat refine lws_cons (by (first | exact lw_any | exact lw_int | exact lw_bool | exact lw_ptr rfl | exact lw_slo rfl | exact lw_nilp | exact lw_nils | exact lw_str | exact lw_slo_nils | exact lw_slo_sle | exact lw_sl rfl | exact lw_unb | exact lw_gptr | exact lw_noid rfl | exact lw_cap rfl (Nat.le_refl _) | exact lw_cap rfl (by omega) | assumption | exact lw_tup (by ((repeat refine lws_cons (by (first | exact lw_any | exact lw_int | exact lw_bool | exact lw_ptr rfl | exact lw_slo rfl | exact lw_nilp | exact lw_nils | exact lw_str | exact lw_slo_nils | exact lw_slo_sle | exact lw_sl rfl | exact lw_unb | exact lw_gptr | exact lw_noid rfl | exact lw_cap rfl (Nat.le_refl _) | exact lw_cap rfl (by omega) | assumption)) ?_); exact lws_nil)))) ?_); exact lws_nil)) ?_
          fun κ h1 h2 => ⟨⟨by (first | exact lb_dead | exact lb_same (by (first | assumption | exact noIds_tab (fun _ => rfl) _ _ | exact noIds_encL (fun _ => rfl) _ | rfl)) | exact lb_ro (by (first | assumption | exact noIds_tab (fun _ => rfl) _ _ | exact noIds_encL (fun _ => rfl) _ | rfl)) | exact lb_none | exact lb_cells (by ((repeat refine lws_cons (by (first | exact lw_any | exact lw_int | exact lw_bool | exact lw_ptr rfl | exact lw_slo rfl | exact lw_nilp | exact lw_nils | exact lw_str | exact lw_slo_nils | exact lw_slo_sle | exact lw_sl rfl | exact lw_unb | exact lw_gptr | exact lw_noid rfl | exact lw_cap rfl (Nat.le_refl _) | exact lw_cap rfl (by omega) | assumption | exact lw_tup (by ((repeat refine lws_cons (by (first | exact lw_any | exact lw_int | exact lw_bool | exact lw_ptr rfl | exact lw_slo rfl | exact lw_nilp | exact lw_nils | exact lw_str | exact lw_slo_nils | exact lw_slo_sle | exact lw_sl rfl | exact lw_unb | exact lw_gptr | exact lw_noid rfl | exact lw_cap rfl (Nat.le_refl _) | exact lw_cap rfl (by omega) | assumption)) ?_); exact lws_nil)))) ?_); exact lws_nil)) (by simp) | exact lb_iter | exact lb_cap (Nat.le_refl _) (Nat.le_refl _) rfl rfl | exact lb_capn (by assumption) (by (first | assumption | exact noIds_tab (fun _ => rfl) _ _ | exact noIds_encL (fun _ => rfl) _ | rfl)) | assumption), trivial⟩, lw_bool⟩
        rw [hgl]; exact sameS0_ok n cs no
      · cases hg
    · cases hg
  · cases hg
def same0SG : Gc := fun args s => match args, s.g with
  | [.nils, .slo b 0 n 0], [] => (match s.h.get b with
    | some (.cells cs (some 1)) => (match s.lay [b] [.cells cs (some 1)] [] with
      | some s' => some ([okFr cs n], .bool (xcm .eql ↑n 0), s')
      | none => none)
    | _ => none)
  | _, _ => none
theorem same0SG_ok : GOk Go.Proofs.Try.prog 25 same0SG := by
  intro args s bs l s' hg hb hfr
  unfold same0SG at hg
  split at hg
  · rename_i b n hgl
    split at hg
    · rename_i cs hb0
      split at hg
      · rename_i s1 hs1
        simp only [Option.some.injEq, Prod.mk.injEq] at hg
        obtain ⟨rfl, rfl, rfl⟩ := hg
        simp only [allT_cons] at hb
        obtain ⟨k1, _⟩ := hb
        have no := okFr_noids k1
        refine SFun.lay (bs := [.cells cs (some 1)]) (args0 := [.nils, .slo 0 0 n 0]) (bs' := [.cells cs (some 1)]) (v0 := .bool (xcm .eql ↑n 0)) hfr hs1 (by simp)
          ⟨⟨there hfr hb0, _, hb0, by (first | exact lb_dead | exact lb_same (by (first | assumption | exact noIds_tab (fun _ => rfl) _ _ | exact noIds_encL (fun _ => rfl) _ | rfl)) | exact lb_ro (by (first | assumption | exact noIds_tab (fun _ => rfl) _ _ | exact noIds_encL (fun _ => rfl) _ | rfl)) | exact lb_none | exact lb_cells (by ((repeat refine lws_cons (by (first | exact lw_any | exact lw_int | exact lw_bool | exact lw_ptr rfl | exact lw_slo rfl | exact lw_nilp | exact lw_nils | exact lw_str | exact lw_slo_nils | exact lw_slo_sle | exact lw_sl rfl | exact lw_unb | exact lw_gptr | exact lw_noid rfl | exact lw_cap rfl (Nat.le_refl _) | exact lw_cap rfl (by omega) | assumption | exact lw_tup (by ((repeat refine lws_cons (by (first | exact lw_any | exact lw_int | exact lw_bool | exact lw_ptr rfl | exact lw_slo rfl | exact lw_nilp | exact lw_nils | exact lw_str | exact lw_slo_nils | exact lw_slo_sle | exact lw_sl rfl | exact lw_unb | exact lw_gptr | exact lw_noid rfl | exact lw_cap rfl (Nat.le_refl _) | exact lw_cap rfl (by omega) | assumption)) ?_); exact lws_nil)))) ?_); exact lws_nil)) (by simp) | exact lb_iter | exact lb_cap (Nat.le_refl _) (Nat.le_refl _) rfl rfl | exact lb_capn (by assumption) (by (first | assumption | exact noIds_tab (fun _ => rfl) _ _ | exact noIds_encL (fun _ => rfl) _ | rfl)) | assumption), fun κ hκ => by (first | exact lb_dead | exact lb_same (by (first | assumption | exact noIds_tab (fun _ => rfl) _ _ | exact noIds_encL (fun _ => rfl) _ | rfl)) | exact lb_ro (by (first | assumption | exact noIds_tab (fun _ => rfl) _ _ | exact noIds_encL (fun _ => rfl) _ | rfl)) | exact lb_none | exact lb_cells (by ((repeat refine lws_cons (by (first | exact lw_any | exact lw_int | exact lw_bool | exact lw_ptr rfl | exact lw_slo rfl | exact lw_nilp | exact lw_nils | exact lw_str | exact lw_slo_nils | exact lw_slo_sle | exact lw_sl rfl | exact lw_unb | exact lw_gptr | exact lw_noid rfl | exact lw_cap rfl (Nat.le_refl _) | exact lw_cap rfl (by omega) | assumption | exact lw_tup (by ((repeat refine lws_cons (by (first | exact lw_any | exact lw_int | exact lw_bool | exact lw_ptr rfl | exact lw_slo rfl | exact lw_nilp | exact lw_nils | exact lw_str | exact lw_slo_nils | exact lw_slo_sle | exact lw_sl rfl | exact lw_unb | exact lw_gptr | exact lw_noid rfl | exact lw_cap rfl (Nat.le_refl _) | exact lw_cap rfl (by omega) | assumption)) ?_); exact lws_nil)))) ?_); exact lws_nil)) (by simp) | exact lb_iter | exact lb_cap (Nat.le_refl _) (Nat.le_refl _) rfl rfl | exact lb_capn (by assumption) (by (first | assumption | exact noIds_tab (fun _ => rfl) _ _ | exact noIds_encL (fun _ => rfl) _ | rfl)) | assumption)⟩, trivial⟩ (by ((repeat refine lws_cons (by (first | exact lw_any | exact lw_int | exact lw_bool | exact lw_ptr rfl | exact lw_slo rfl | exact lw_nilp | exact lw_nils | exact lw_str | exact lw_slo_nils | exact lw_slo_sle | exact lw_sl rfl | exact lw_unb | exact lw_gptr | exact lw_noid rfl | exact lw_cap rfl (Nat.le_refl _) | exact lw_cap rfl (by omega) | assumption | exact lw_tup (by ((repeat refine lws_cons (by (first | exact lw_any | exact lw_int | exact lw_bool | exact lw_ptr rfl | exact lw_slo rfl | exact lw_nilp | exact lw_nils | exact lw_str | exact lw_slo_nils | exact lw_slo_sle | exact lw_sl rfl | exact lw_unb | exact lw_gptr | exact lw_noid rfl | exact lw_cap rfl (Nat.le_refl _) | exact lw_cap rfl (by omega) | assumption)) ?_); exact lws_nil)))) ?_); exact lws_nil)) ?_
          fun κ h1 h2 => ⟨⟨by (first | exact lb_dead | exact lb_same (by (first | assumption | exact noIds_tab (fun _ => rfl) _ _ | exact noIds_encL (fun _ => rfl) _ | rfl)) | exact lb_ro (by (first | assumption | exact noIds_tab (fun _ => rfl) _ _ | exact noIds_encL (fun _ => rfl) _ | rfl)) | exact lb_none | exact lb_cells (by ((repeat refine lws_cons (by (first | exact lw_any | exact lw_int | exact lw_bool | exact lw_ptr rfl | exact lw_slo rfl | exact lw_nilp | exact lw_nils | exact lw_str | exact lw_slo_nils | exact lw_slo_sle | exact lw_sl rfl | exact lw_unb | exact lw_gptr | exact lw_noid rfl | exact lw_cap rfl (Nat.le_refl _) | exact lw_cap rfl (by omega) | assumption | exact lw_tup (by ((repeat refine lws_cons (by (first | exact lw_any | exact lw_int | exact lw_bool | exact lw_ptr rfl | exact lw_slo rfl | exact lw_nilp | exact lw_nils | exact lw_str | exact lw_slo_nils | exact lw_slo_sle | exact lw_sl rfl | exact lw_unb | exact lw_gptr | exact lw_noid rfl | exact lw_cap rfl (Nat.le_refl _) | exact lw_cap rfl (by omega) | assumption)) ?_); exact lws_nil)))) ?_); exact lws_nil)) (by simp) | exact lb_iter | exact lb_cap (Nat.le_refl _) (Nat.le_refl _) rfl rfl | exact lb_capn (by assumption) (by (first | assumption | exact noIds_tab (fun _ => rfl) _ _ | exact noIds_encL (fun _ => rfl) _ | rfl)) | assumption), trivial⟩, lw_bool⟩
        rw [hgl]; exact same0S_ok n cs no
      · cases hg
    · cases hg
  · cases hg
def flatG : Gc := orG flat1G (orG flatSG (orG flat2G flat3G))
def takesG : Gc := orG takeG (orG take1G take0G)
def cxd : Cx := cxl [(3, runG), (23, flatG), (30, takesG), (48, cloneG 2), (24, sameG), (25, orG sameIi64G (orG same0i64G (orG sameS0G same0SG)))]
abbrev lkL : List Nat := [6, 7, 8, 9, 10]
abbrev lkT1 : List (Nat × LV) := [(7, .ptr 3 0), (8, .ptr 17 0)]
abbrev lkT2 (N M : Nat) : List (Nat × LV) := [(7, .ptr 3 0), (8, .ptr 17 0), (9, .slo 23 0 N 0), (10, .slo 24 0 M 0)]
abbrev lkT3 (N M : Nat) : List (Nat × LV) := [(7, .ptr 3 0), (8, .ptr 9 0), (9, .slo 15 0 N 0), (10, .slo 16 0 M 0)]
abbrev lkH1 (ax bx cx : List LV) (n0 f0 : Nat) (c0 r0 : List LV) (n1 f1 : Nat) (c1 r1 : List LV) (n2 f2 : Nat) (c2 r2 : List LV) (N M : Nat) (C R : List LV) : List LB := [.ro ax, .ro bx, .ro cx, .cells [.int .i64 96, .slo 4 0 3 0] none, .cells [.ptr 5 0, .ptr 9 0, .ptr 13 0] (some 1), .cells [.ptr 6 0, .slo 8 0 f0 0] none, .cells [.int .i64 96, .slo 7 0 n0 0] none, .cells c0 (some 2), .cells r0 (some 1), .cells [.ptr 10 0, .slo 12 0 f1 0] none, .cells [.int .i64 96, .slo 11 0 n1 0] none, .cells c1 (some 2), .cells r1 (some 1), .cells [.ptr 14 0, .slo 16 0 f2 0] none, .cells [.int .i64 96, .slo 15 0 n2 0] none, .cells c2 (some 2), .cells r2 (some 1), .cells [.int .i64 96, .sl 18 0 1 1] none, .cells [.ptr 19 0] none, .cells [.ptr 20 0, .slo 22 0 M 0] none, .cells [.int .i64 96, .slo 21 0 N 0] none, .cells C (some 2), .cells R (some 1)]
abbrev lkH2 (ax bx cx : List LV) (n0 f0 : Nat) (c0 r0 : List LV) (n1 f1 : Nat) (c1 r1 : List LV) (n2 f2 : Nat) (c2 r2 : List LV) (N M : Nat) (C R : List LV) : List LB := [.ro ax, .ro bx, .ro cx, .cells [.int .i64 96, .slo 4 0 3 0] none, .cells [.ptr 5 0, .ptr 9 0, .ptr 13 0] (some 1), .cells [.ptr 6 0, .slo 8 0 f0 0] none, .cells [.int .i64 96, .slo 7 0 n0 0] none, .cells c0 (some 2), .cells r0 (some 1), .cells [.ptr 10 0, .slo 12 0 f1 0] none, .cells [.int .i64 96, .slo 11 0 n1 0] none, .cells c1 (some 2), .cells r1 (some 1), .cells [.ptr 14 0, .slo 16 0 f2 0] none, .cells [.int .i64 96, .slo 15 0 n2 0] none, .cells c2 (some 2), .cells r2 (some 1), .cells [.int .i64 96, .sl 18 0 1 1] none, .cells [.ptr 19 0] none, .cells [.ptr 20 0, .slo 22 0 M 0] none, .cells [.int .i64 96, .slo 21 0 N 0] none, .cells C (some 2), .cells R (some 1), .cells C (some 2), .cells R (some 1)]
abbrev lkH3 (ax bx cx : List LV) (N M : Nat) (C R : List LV) : List LB := [.ro ax, .ro bx, .ro cx, .cells [.int .i64 96, .slo 4 0 1 0] none, .cells [.ptr 5 0, .ptr 17 0, .ptr 18 0] (some 1), .cells [.ptr 6 0, .slo 8 0 M 0] none, .cells [.int .i64 96, .slo 7 0 N 0] none, .cells C (some 2), .cells R (some 1), .cells [.int .i64 96, .sl 10 0 1 1] none, .cells [.ptr 11 0] none, .cells [.ptr 12 0, .slo 14 0 M 0] none, .cells [.int .i64 96, .slo 13 0 N 0] none, .cells C (some 2), .cells R (some 1), .cells C (some 2), .cells R (some 1), .dead, .dead]
theorem lk_a (na nb nc : Nat) (ax bx cx : List LV) (K : Pk) : (xsp Go.Proofs.Try.prog cxd 100 109 (seg (sp Go.Proofs.Try.prog 6) 0 10) (tm0 [.slo 0 0 na 0, .slo 1 0 nb 0, .slo 2 0 nc 0]) (mkS [.ro ax, .ro bx, .ro cx]) (vK lkL K)) = (
  bif okA ax na then
  bif okA bx nb then
  bif okC (flC ax na) (flN ax na) then
  bif okFr (flR ax na) (flM ax na) then
  bif xle (flN ax na) 12 then
  bif okA cx nc then
  bif okC (flC ax na) (flN ax na) then
  bif okFr (flR ax na) (flM ax na) then
  bif xle (flN ax na) 12 then
  bif okC (flC bx nb) (flN bx nb) then
  bif okFr (flR bx nb) (flM bx nb) then
  bif xle (flN bx nb) 12 then
  bif okA ax na then
  bif okA bx nb then
  bif okC (flC ax na) (flN ax na) then
  bif okFr (flR ax na) (flM ax na) then
  bif xle (flN ax na) 48 then
  bif xle (flM ax na) 48 then
  bif okA cx nc then
  bif okC (fgC bx nb (flN ax na) (flM ax na) (flC ax na) (flR ax na)) (fgN bx nb (flN ax na) (flM ax na) (flC ax na) (flR ax na)) then
  bif okFr (fgR bx nb (flN ax na) (flM ax na) (flC ax na) (flR ax na)) (fgM bx nb (flN ax na) (flM ax na) (flC ax na) (flR ax na)) then
  bif xle (fgN bx nb (flN ax na) (flM ax na) (flC ax na) (flR ax na)) 48 then
  bif xle (fgM bx nb (flN ax na) (flM ax na) (flC ax na) (flR ax na)) 48 then
  K .normal [.bool false, .ptr 6 0, .ptr 10 0, .tup [], .tup []] [some (.ro ax), some (.ro bx), some (.ro cx), some (.cells [.int .i64 96, .slo 11 0 (flN ax na) 0] none), some (.cells [.ptr 3 0, .slo 12 0 (flM ax na) 0] none), some (.cells [.ptr 4 0] none), some (.cells [.int .i64 96, .slo 22 0 3 0] none), some (.cells [.int .i64 96, .slo 29 0 (fgN cx nc (fgN bx nb (flN ax na) (flM ax na) (flC ax na) (flR ax na)) (fgM bx nb (flN ax na) (flM ax na) (flC ax na) (flR ax na)) (fgC bx nb (flN ax na) (flM ax na) (flC ax na) (flR ax na)) (fgR bx nb (flN ax na) (flM ax na) (flC ax na) (flR ax na))) 0] none), some (.cells [.ptr 7 0, .slo 30 0 (fgM cx nc (fgN bx nb (flN ax na) (flM ax na) (flC ax na) (flR ax na)) (fgM bx nb (flN ax na) (flM ax na) (flC ax na) (flR ax na)) (fgC bx nb (flN ax na) (flM ax na) (flC ax na) (flR ax na)) (fgR bx nb (flN ax na) (flM ax na) (flC ax na) (flR ax na))) 0] none), some (.cells [.ptr 8 0] none), some (.cells [.int .i64 96, .sl 9 0 1 1] none), some (.cells (flC ax na) (some 2)), some (.cells (flR ax na) (some 1)), some (.cells [.int .i64 96, .slo 17 0 (flN bx nb) 0] none), some (.cells [.ptr 13 0, .slo 18 0 (flM bx nb) 0] none), some (.cells [.ptr 14 0] none), some .dead, some (.cells (flC bx nb) (some 2)), some (.cells (flR bx nb) (some 1)), some (.cells [.int .i64 96, .slo 23 0 (flN cx nc) 0] none), some (.cells [.ptr 19 0, .slo 24 0 (flM cx nc) 0] none), some (.cells [.ptr 20 0] none), some (.cells [.ptr 4 0, .ptr 14 0, .ptr 20 0] (some 1)), some (.cells (flC cx nc) (some 2)), some (.cells (flR cx nc) (some 1)), some .dead, some .dead, some .dead, some .dead, some (.cells (fgC cx nc (fgN bx nb (flN ax na) (flM ax na) (flC ax na) (flR ax na)) (fgM bx nb (flN ax na) (flM ax na) (flC ax na) (flR ax na)) (fgC bx nb (flN ax na) (flM ax na) (flC ax na) (flR ax na)) (fgR bx nb (flN ax na) (flM ax na) (flC ax na) (flR ax na))) (some 2)), some (.cells (fgR cx nc (fgN bx nb (flN ax na) (flM ax na) (flC ax na) (flR ax na)) (fgM bx nb (flN ax na) (flM ax na) (flC ax na) (flR ax na)) (fgC bx nb (flN ax na) (flM ax na) (flC ax na) (flR ax na)) (fgR bx nb (flN ax na) (flM ax na) (flC ax na) (flR ax na))) (some 1))] []
  else False
  else False
  else False
  else False
  else False
  else False
  else False
  else False
  else False
  else False
  else False
  else False
  else False
  else False
  else False
  else False
  else False
  else False
  else False
  else False
  else False
  else False
  else False) := by kernel_rfl
theorem lk_b (ax bx cx : List LV) (n0 f0 : Nat) (c0 r0 : List LV) (n1 f1 : Nat) (c1 r1 : List LV) (n2 f2 : Nat) (c2 r2 : List LV) (N M : Nat) (C R : List LV) (K : Pk) : (xsp Go.Proofs.Try.prog cxd 100 109 (seg (sp Go.Proofs.Try.prog 6) 10 1) (mkTm 109 lkT1) (mkS (lkH1 ax bx cx n0 f0 c0 r0 n1 f1 c1 r1 n2 f2 c2 r2 N M C R)) (vK lkL K)) = (
  bif xle n0 1000000 then
  bif xeq (xln c0) (xmul n0 2) then
  bif xnoid c0 then
  bif okC c0 n0 then
  bif xle n1 1000000 then
  bif xeq (xln c1) (xmul n1 2) then
  bif xnoid c1 then
  bif okC (takeC 96 0 [] n0 c0) (takeN 96 0 [] n0 c0) then
  bif okC c1 n1 then
  bif xle (xadd (takeN 96 0 [] n0 c0) 1) 1000000 then
  bif xle n2 1000000 then
  bif xeq (xln c2) (xmul n2 2) then
  bif xnoid c2 then
  bif okC (takeC 96 (takeN 96 0 [] n0 c0) (takeC 96 0 [] n0 c0) n1 c1) (takeN 96 (takeN 96 0 [] n0 c0) (takeC 96 0 [] n0 c0) n1 c1) then
  bif okC c2 n2 then
  bif xle (xadd (takeN 96 (takeN 96 0 [] n0 c0) (takeC 96 0 [] n0 c0) n1 c1) 1) 1000000 then
  bif xle (takeN 96 (takeN 96 (takeN 96 0 [] n0 c0) (takeC 96 0 [] n0 c0) n1 c1) (takeC 96 (takeN 96 0 [] n0 c0) (takeC 96 0 [] n0 c0) n1 c1) n2 c2) 1000000 then
  bif xeq (xln (takeC 96 (takeN 96 (takeN 96 0 [] n0 c0) (takeC 96 0 [] n0 c0) n1 c1) (takeC 96 (takeN 96 0 [] n0 c0) (takeC 96 0 [] n0 c0) n1 c1) n2 c2)) (xmul (takeN 96 (takeN 96 (takeN 96 0 [] n0 c0) (takeC 96 0 [] n0 c0) n1 c1) (takeC 96 (takeN 96 0 [] n0 c0) (takeC 96 0 [] n0 c0) n1 c1) n2 c2) 2) then
  bif xnoid (takeC 96 (takeN 96 (takeN 96 0 [] n0 c0) (takeC 96 0 [] n0 c0) n1 c1) (takeC 96 (takeN 96 0 [] n0 c0) (takeC 96 0 [] n0 c0) n1 c1) n2 c2) then
  bif xle (xadd 0 (xmul f0 1)) (xln r0) then
  bif xz f0 then (
   bif xle (xadd 0 (xmul f1 1)) (xln r1) then
   bif xz f1 then (
    bif xle (xadd 0 (xmul f2 1)) (xln r2) then
    bif xz f2 then (
     K .normal [.any, .ptr 3 0, .ptr 17 0, .slo 30 0 (takeN 96 (takeN 96 (takeN 96 0 [] n0 c0) (takeC 96 0 [] n0 c0) n1 c1) (takeC 96 (takeN 96 0 [] n0 c0) (takeC 96 0 [] n0 c0) n1 c1) n2 c2) 0, .nils] [some (.ro ax), some (.ro bx), some (.ro cx), some (.cells [.int .i64 96, .slo 4 0 3 0] none), some (.cells [.ptr 5 0, .ptr 9 0, .ptr 13 0] (some 1)), some (.cells [.ptr 6 0, .slo 8 0 f0 0] none), some (.cells [.int .i64 96, .slo 7 0 n0 0] none), some (.cells c0 (some 2)), some (.cells r0 (some 1)), some (.cells [.ptr 10 0, .slo 12 0 f1 0] none), some (.cells [.int .i64 96, .slo 11 0 n1 0] none), some (.cells c1 (some 2)), some (.cells r1 (some 1)), some (.cells [.ptr 14 0, .slo 16 0 f2 0] none), some (.cells [.int .i64 96, .slo 15 0 n2 0] none), some (.cells c2 (some 2)), some (.cells r2 (some 1)), some (.cells [.int .i64 96, .sl 18 0 1 1] none), some (.cells [.ptr 19 0] none), some (.cells [.ptr 20 0, .slo 22 0 M 0] none), some (.cells [.int .i64 96, .slo 21 0 N 0] none), some (.cells C (some 2)), some (.cells R (some 1)), some (.cells [.int .i64 96, .slo 29 0 (takeN 96 (takeN 96 (takeN 96 0 [] n0 c0) (takeC 96 0 [] n0 c0) n1 c1) (takeC 96 (takeN 96 0 [] n0 c0) (takeC 96 0 [] n0 c0) n1 c1) n2 c2) 0] none), some (.cells c0 (some 2)), some .dead, some (.cells c1 (some 2)), some .dead, some (.cells c2 (some 2)), some (.cells (takeC 96 (takeN 96 (takeN 96 0 [] n0 c0) (takeC 96 0 [] n0 c0) n1 c1) (takeC 96 (takeN 96 0 [] n0 c0) (takeC 96 0 [] n0 c0) n1 c1) n2 c2) (some 2)), some (.cells (takeC 96 (takeN 96 (takeN 96 0 [] n0 c0) (takeC 96 0 [] n0 c0) n1 c1) (takeC 96 (takeN 96 0 [] n0 c0) (takeC 96 0 [] n0 c0) n1 c1) n2 c2) (some 2))] [])
    else (
     bif xle f2 1000000 then
     K .normal [.any, .ptr 3 0, .ptr 17 0, .slo 30 0 (takeN 96 (takeN 96 (takeN 96 0 [] n0 c0) (takeC 96 0 [] n0 c0) n1 c1) (takeC 96 (takeN 96 0 [] n0 c0) (takeC 96 0 [] n0 c0) n1 c1) n2 c2) 0, .slo 31 0 f2 0] [some (.ro ax), some (.ro bx), some (.ro cx), some (.cells [.int .i64 96, .slo 4 0 3 0] none), some (.cells [.ptr 5 0, .ptr 9 0, .ptr 13 0] (some 1)), some (.cells [.ptr 6 0, .slo 8 0 f0 0] none), some (.cells [.int .i64 96, .slo 7 0 n0 0] none), some (.cells c0 (some 2)), some (.cells r0 (some 1)), some (.cells [.ptr 10 0, .slo 12 0 f1 0] none), some (.cells [.int .i64 96, .slo 11 0 n1 0] none), some (.cells c1 (some 2)), some (.cells r1 (some 1)), some (.cells [.ptr 14 0, .slo 16 0 f2 0] none), some (.cells [.int .i64 96, .slo 15 0 n2 0] none), some (.cells c2 (some 2)), some (.cells r2 (some 1)), some (.cells [.int .i64 96, .sl 18 0 1 1] none), some (.cells [.ptr 19 0] none), some (.cells [.ptr 20 0, .slo 22 0 M 0] none), some (.cells [.int .i64 96, .slo 21 0 N 0] none), some (.cells C (some 2)), some (.cells R (some 1)), some (.cells [.int .i64 96, .slo 29 0 (takeN 96 (takeN 96 (takeN 96 0 [] n0 c0) (takeC 96 0 [] n0 c0) n1 c1) (takeC 96 (takeN 96 0 [] n0 c0) (takeC 96 0 [] n0 c0) n1 c1) n2 c2) 0] none), some (.cells c0 (some 2)), some .dead, some (.cells c1 (some 2)), some .dead, some (.cells c2 (some 2)), some (.cells (takeC 96 (takeN 96 (takeN 96 0 [] n0 c0) (takeC 96 0 [] n0 c0) n1 c1) (takeC 96 (takeN 96 0 [] n0 c0) (takeC 96 0 [] n0 c0) n1 c1) n2 c2) (some 2)), some (.cells (takeC 96 (takeN 96 (takeN 96 0 [] n0 c0) (takeC 96 0 [] n0 c0) n1 c1) (takeC 96 (takeN 96 0 [] n0 c0) (takeC 96 0 [] n0 c0) n1 c1) n2 c2) (some 2)), some (.cells (xcut r2 0 (xmul f2 1)) (some 1))] []
     else False)
    else False)
   else (
    bif xle f1 1000000 then
    bif xle (xadd 0 (xmul f2 1)) (xln r2) then
    bif xle (xadd f1 f2) 1000000 then
    bif xle (xadd 0 (xmul f1 1)) (xln (xcut r1 0 (xmul f1 1))) then
    bif xz f2 then (
     K .normal [.any, .ptr 3 0, .ptr 17 0, .slo 30 0 (takeN 96 (takeN 96 (takeN 96 0 [] n0 c0) (takeC 96 0 [] n0 c0) n1 c1) (takeC 96 (takeN 96 0 [] n0 c0) (takeC 96 0 [] n0 c0) n1 c1) n2 c2) 0, .slo 31 0 f1 0] [some (.ro ax), some (.ro bx), some (.ro cx), some (.cells [.int .i64 96, .slo 4 0 3 0] none), some (.cells [.ptr 5 0, .ptr 9 0, .ptr 13 0] (some 1)), some (.cells [.ptr 6 0, .slo 8 0 f0 0] none), some (.cells [.int .i64 96, .slo 7 0 n0 0] none), some (.cells c0 (some 2)), some (.cells r0 (some 1)), some (.cells [.ptr 10 0, .slo 12 0 f1 0] none), some (.cells [.int .i64 96, .slo 11 0 n1 0] none), some (.cells c1 (some 2)), some (.cells r1 (some 1)), some (.cells [.ptr 14 0, .slo 16 0 f2 0] none), some (.cells [.int .i64 96, .slo 15 0 n2 0] none), some (.cells c2 (some 2)), some (.cells r2 (some 1)), some (.cells [.int .i64 96, .sl 18 0 1 1] none), some (.cells [.ptr 19 0] none), some (.cells [.ptr 20 0, .slo 22 0 M 0] none), some (.cells [.int .i64 96, .slo 21 0 N 0] none), some (.cells C (some 2)), some (.cells R (some 1)), some (.cells [.int .i64 96, .slo 29 0 (takeN 96 (takeN 96 (takeN 96 0 [] n0 c0) (takeC 96 0 [] n0 c0) n1 c1) (takeC 96 (takeN 96 0 [] n0 c0) (takeC 96 0 [] n0 c0) n1 c1) n2 c2) 0] none), some (.cells c0 (some 2)), some .dead, some (.cells c1 (some 2)), some .dead, some (.cells c2 (some 2)), some (.cells (takeC 96 (takeN 96 (takeN 96 0 [] n0 c0) (takeC 96 0 [] n0 c0) n1 c1) (takeC 96 (takeN 96 0 [] n0 c0) (takeC 96 0 [] n0 c0) n1 c1) n2 c2) (some 2)), some (.cells (takeC 96 (takeN 96 (takeN 96 0 [] n0 c0) (takeC 96 0 [] n0 c0) n1 c1) (takeC 96 (takeN 96 0 [] n0 c0) (takeC 96 0 [] n0 c0) n1 c1) n2 c2) (some 2)), some (.cells (xcut r1 0 (xmul f1 1)) (some 1))] [])
    else (
     K .normal [.any, .ptr 3 0, .ptr 17 0, .slo 30 0 (takeN 96 (takeN 96 (takeN 96 0 [] n0 c0) (takeC 96 0 [] n0 c0) n1 c1) (takeC 96 (takeN 96 0 [] n0 c0) (takeC 96 0 [] n0 c0) n1 c1) n2 c2) 0, .slo 32 0 (xadd f1 f2) 0] [some (.ro ax), some (.ro bx), some (.ro cx), some (.cells [.int .i64 96, .slo 4 0 3 0] none), some (.cells [.ptr 5 0, .ptr 9 0, .ptr 13 0] (some 1)), some (.cells [.ptr 6 0, .slo 8 0 f0 0] none), some (.cells [.int .i64 96, .slo 7 0 n0 0] none), some (.cells c0 (some 2)), some (.cells r0 (some 1)), some (.cells [.ptr 10 0, .slo 12 0 f1 0] none), some (.cells [.int .i64 96, .slo 11 0 n1 0] none), some (.cells c1 (some 2)), some (.cells r1 (some 1)), some (.cells [.ptr 14 0, .slo 16 0 f2 0] none), some (.cells [.int .i64 96, .slo 15 0 n2 0] none), some (.cells c2 (some 2)), some (.cells r2 (some 1)), some (.cells [.int .i64 96, .sl 18 0 1 1] none), some (.cells [.ptr 19 0] none), some (.cells [.ptr 20 0, .slo 22 0 M 0] none), some (.cells [.int .i64 96, .slo 21 0 N 0] none), some (.cells C (some 2)), some (.cells R (some 1)), some (.cells [.int .i64 96, .slo 29 0 (takeN 96 (takeN 96 (takeN 96 0 [] n0 c0) (takeC 96 0 [] n0 c0) n1 c1) (takeC 96 (takeN 96 0 [] n0 c0) (takeC 96 0 [] n0 c0) n1 c1) n2 c2) 0] none), some (.cells c0 (some 2)), some .dead, some (.cells c1 (some 2)), some .dead, some (.cells c2 (some 2)), some (.cells (takeC 96 (takeN 96 (takeN 96 0 [] n0 c0) (takeC 96 0 [] n0 c0) n1 c1) (takeC 96 (takeN 96 0 [] n0 c0) (takeC 96 0 [] n0 c0) n1 c1) n2 c2) (some 2)), some (.cells (takeC 96 (takeN 96 (takeN 96 0 [] n0 c0) (takeC 96 0 [] n0 c0) n1 c1) (takeC 96 (takeN 96 0 [] n0 c0) (takeC 96 0 [] n0 c0) n1 c1) n2 c2) (some 2)), some .dead, some (.cells (xcat (xcut (xcut r1 0 (xmul f1 1)) 0 (xmul f1 1)) (xcut r2 0 (xmul f2 1))) (some 1))] [])
    else False
    else False
    else False
    else False)
   else False)
  else (
   bif xle f0 1000000 then
   bif xle (xadd 0 (xmul f1 1)) (xln r1) then
   bif xle (xadd f0 f1) 1000000 then
   bif xle (xadd 0 (xmul f0 1)) (xln (xcut r0 0 (xmul f0 1))) then
   bif xz f1 then (
    bif xle (xadd 0 (xmul f2 1)) (xln r2) then
    bif xle (xadd f0 f2) 1000000 then
    bif xle (xadd 0 (xmul f0 1)) (xln (xcut r0 0 (xmul f0 1))) then
    bif xz f2 then (
     K .normal [.any, .ptr 3 0, .ptr 17 0, .slo 30 0 (takeN 96 (takeN 96 (takeN 96 0 [] n0 c0) (takeC 96 0 [] n0 c0) n1 c1) (takeC 96 (takeN 96 0 [] n0 c0) (takeC 96 0 [] n0 c0) n1 c1) n2 c2) 0, .slo 31 0 f0 0] [some (.ro ax), some (.ro bx), some (.ro cx), some (.cells [.int .i64 96, .slo 4 0 3 0] none), some (.cells [.ptr 5 0, .ptr 9 0, .ptr 13 0] (some 1)), some (.cells [.ptr 6 0, .slo 8 0 f0 0] none), some (.cells [.int .i64 96, .slo 7 0 n0 0] none), some (.cells c0 (some 2)), some (.cells r0 (some 1)), some (.cells [.ptr 10 0, .slo 12 0 f1 0] none), some (.cells [.int .i64 96, .slo 11 0 n1 0] none), some (.cells c1 (some 2)), some (.cells r1 (some 1)), some (.cells [.ptr 14 0, .slo 16 0 f2 0] none), some (.cells [.int .i64 96, .slo 15 0 n2 0] none), some (.cells c2 (some 2)), some (.cells r2 (some 1)), some (.cells [.int .i64 96, .sl 18 0 1 1] none), some (.cells [.ptr 19 0] none), some (.cells [.ptr 20 0, .slo 22 0 M 0] none), some (.cells [.int .i64 96, .slo 21 0 N 0] none), some (.cells C (some 2)), some (.cells R (some 1)), some (.cells [.int .i64 96, .slo 29 0 (takeN 96 (takeN 96 (takeN 96 0 [] n0 c0) (takeC 96 0 [] n0 c0) n1 c1) (takeC 96 (takeN 96 0 [] n0 c0) (takeC 96 0 [] n0 c0) n1 c1) n2 c2) 0] none), some (.cells c0 (some 2)), some .dead, some (.cells c1 (some 2)), some .dead, some (.cells c2 (some 2)), some (.cells (takeC 96 (takeN 96 (takeN 96 0 [] n0 c0) (takeC 96 0 [] n0 c0) n1 c1) (takeC 96 (takeN 96 0 [] n0 c0) (takeC 96 0 [] n0 c0) n1 c1) n2 c2) (some 2)), some (.cells (takeC 96 (takeN 96 (takeN 96 0 [] n0 c0) (takeC 96 0 [] n0 c0) n1 c1) (takeC 96 (takeN 96 0 [] n0 c0) (takeC 96 0 [] n0 c0) n1 c1) n2 c2) (some 2)), some (.cells (xcut r0 0 (xmul f0 1)) (some 1))] [])
    else (
     K .normal [.any, .ptr 3 0, .ptr 17 0, .slo 30 0 (takeN 96 (takeN 96 (takeN 96 0 [] n0 c0) (takeC 96 0 [] n0 c0) n1 c1) (takeC 96 (takeN 96 0 [] n0 c0) (takeC 96 0 [] n0 c0) n1 c1) n2 c2) 0, .slo 32 0 (xadd f0 f2) 0] [some (.ro ax), some (.ro bx), some (.ro cx), some (.cells [.int .i64 96, .slo 4 0 3 0] none), some (.cells [.ptr 5 0, .ptr 9 0, .ptr 13 0] (some 1)), some (.cells [.ptr 6 0, .slo 8 0 f0 0] none), some (.cells [.int .i64 96, .slo 7 0 n0 0] none), some (.cells c0 (some 2)), some (.cells r0 (some 1)), some (.cells [.ptr 10 0, .slo 12 0 f1 0] none), some (.cells [.int .i64 96, .slo 11 0 n1 0] none), some (.cells c1 (some 2)), some (.cells r1 (some 1)), some (.cells [.ptr 14 0, .slo 16 0 f2 0] none), some (.cells [.int .i64 96, .slo 15 0 n2 0] none), some (.cells c2 (some 2)), some (.cells r2 (some 1)), some (.cells [.int .i64 96, .sl 18 0 1 1] none), some (.cells [.ptr 19 0] none), some (.cells [.ptr 20 0, .slo 22 0 M 0] none), some (.cells [.int .i64 96, .slo 21 0 N 0] none), some (.cells C (some 2)), some (.cells R (some 1)), some (.cells [.int .i64 96, .slo 29 0 (takeN 96 (takeN 96 (takeN 96 0 [] n0 c0) (takeC 96 0 [] n0 c0) n1 c1) (takeC 96 (takeN 96 0 [] n0 c0) (takeC 96 0 [] n0 c0) n1 c1) n2 c2) 0] none), some (.cells c0 (some 2)), some .dead, some (.cells c1 (some 2)), some .dead, some (.cells c2 (some 2)), some (.cells (takeC 96 (takeN 96 (takeN 96 0 [] n0 c0) (takeC 96 0 [] n0 c0) n1 c1) (takeC 96 (takeN 96 0 [] n0 c0) (takeC 96 0 [] n0 c0) n1 c1) n2 c2) (some 2)), some (.cells (takeC 96 (takeN 96 (takeN 96 0 [] n0 c0) (takeC 96 0 [] n0 c0) n1 c1) (takeC 96 (takeN 96 0 [] n0 c0) (takeC 96 0 [] n0 c0) n1 c1) n2 c2) (some 2)), some .dead, some (.cells (xcat (xcut (xcut r0 0 (xmul f0 1)) 0 (xmul f0 1)) (xcut r2 0 (xmul f2 1))) (some 1))] [])
    else False
    else False
    else False)
   else (
    bif xle (xadd 0 (xmul f2 1)) (xln r2) then
    bif xle (xadd (xadd f0 f1) f2) 1000000 then
    bif xle (xadd 0 (xmul (xadd f0 f1) 1)) (xln (xcat (xcut (xcut r0 0 (xmul f0 1)) 0 (xmul f0 1)) (xcut r1 0 (xmul f1 1)))) then
    bif xz f2 then (
     K .normal [.any, .ptr 3 0, .ptr 17 0, .slo 30 0 (takeN 96 (takeN 96 (takeN 96 0 [] n0 c0) (takeC 96 0 [] n0 c0) n1 c1) (takeC 96 (takeN 96 0 [] n0 c0) (takeC 96 0 [] n0 c0) n1 c1) n2 c2) 0, .slo 32 0 (xadd f0 f1) 0] [some (.ro ax), some (.ro bx), some (.ro cx), some (.cells [.int .i64 96, .slo 4 0 3 0] none), some (.cells [.ptr 5 0, .ptr 9 0, .ptr 13 0] (some 1)), some (.cells [.ptr 6 0, .slo 8 0 f0 0] none), some (.cells [.int .i64 96, .slo 7 0 n0 0] none), some (.cells c0 (some 2)), some (.cells r0 (some 1)), some (.cells [.ptr 10 0, .slo 12 0 f1 0] none), some (.cells [.int .i64 96, .slo 11 0 n1 0] none), some (.cells c1 (some 2)), some (.cells r1 (some 1)), some (.cells [.ptr 14 0, .slo 16 0 f2 0] none), some (.cells [.int .i64 96, .slo 15 0 n2 0] none), some (.cells c2 (some 2)), some (.cells r2 (some 1)), some (.cells [.int .i64 96, .sl 18 0 1 1] none), some (.cells [.ptr 19 0] none), some (.cells [.ptr 20 0, .slo 22 0 M 0] none), some (.cells [.int .i64 96, .slo 21 0 N 0] none), some (.cells C (some 2)), some (.cells R (some 1)), some (.cells [.int .i64 96, .slo 29 0 (takeN 96 (takeN 96 (takeN 96 0 [] n0 c0) (takeC 96 0 [] n0 c0) n1 c1) (takeC 96 (takeN 96 0 [] n0 c0) (takeC 96 0 [] n0 c0) n1 c1) n2 c2) 0] none), some (.cells c0 (some 2)), some .dead, some (.cells c1 (some 2)), some .dead, some (.cells c2 (some 2)), some (.cells (takeC 96 (takeN 96 (takeN 96 0 [] n0 c0) (takeC 96 0 [] n0 c0) n1 c1) (takeC 96 (takeN 96 0 [] n0 c0) (takeC 96 0 [] n0 c0) n1 c1) n2 c2) (some 2)), some (.cells (takeC 96 (takeN 96 (takeN 96 0 [] n0 c0) (takeC 96 0 [] n0 c0) n1 c1) (takeC 96 (takeN 96 0 [] n0 c0) (takeC 96 0 [] n0 c0) n1 c1) n2 c2) (some 2)), some .dead, some (.cells (xcat (xcut (xcut r0 0 (xmul f0 1)) 0 (xmul f0 1)) (xcut r1 0 (xmul f1 1))) (some 1))] [])
    else (
     K .normal [.any, .ptr 3 0, .ptr 17 0, .slo 30 0 (takeN 96 (takeN 96 (takeN 96 0 [] n0 c0) (takeC 96 0 [] n0 c0) n1 c1) (takeC 96 (takeN 96 0 [] n0 c0) (takeC 96 0 [] n0 c0) n1 c1) n2 c2) 0, .slo 33 0 (xadd (xadd f0 f1) f2) 0] [some (.ro ax), some (.ro bx), some (.ro cx), some (.cells [.int .i64 96, .slo 4 0 3 0] none), some (.cells [.ptr 5 0, .ptr 9 0, .ptr 13 0] (some 1)), some (.cells [.ptr 6 0, .slo 8 0 f0 0] none), some (.cells [.int .i64 96, .slo 7 0 n0 0] none), some (.cells c0 (some 2)), some (.cells r0 (some 1)), some (.cells [.ptr 10 0, .slo 12 0 f1 0] none), some (.cells [.int .i64 96, .slo 11 0 n1 0] none), some (.cells c1 (some 2)), some (.cells r1 (some 1)), some (.cells [.ptr 14 0, .slo 16 0 f2 0] none), some (.cells [.int .i64 96, .slo 15 0 n2 0] none), some (.cells c2 (some 2)), some (.cells r2 (some 1)), some (.cells [.int .i64 96, .sl 18 0 1 1] none), some (.cells [.ptr 19 0] none), some (.cells [.ptr 20 0, .slo 22 0 M 0] none), some (.cells [.int .i64 96, .slo 21 0 N 0] none), some (.cells C (some 2)), some (.cells R (some 1)), some (.cells [.int .i64 96, .slo 29 0 (takeN 96 (takeN 96 (takeN 96 0 [] n0 c0) (takeC 96 0 [] n0 c0) n1 c1) (takeC 96 (takeN 96 0 [] n0 c0) (takeC 96 0 [] n0 c0) n1 c1) n2 c2) 0] none), some (.cells c0 (some 2)), some .dead, some (.cells c1 (some 2)), some .dead, some (.cells c2 (some 2)), some (.cells (takeC 96 (takeN 96 (takeN 96 0 [] n0 c0) (takeC 96 0 [] n0 c0) n1 c1) (takeC 96 (takeN 96 0 [] n0 c0) (takeC 96 0 [] n0 c0) n1 c1) n2 c2) (some 2)), some (.cells (takeC 96 (takeN 96 (takeN 96 0 [] n0 c0) (takeC 96 0 [] n0 c0) n1 c1) (takeC 96 (takeN 96 0 [] n0 c0) (takeC 96 0 [] n0 c0) n1 c1) n2 c2) (some 2)), some .dead, some .dead, some (.cells (xcat (xcut (xcat (xcut (xcut r0 0 (xmul f0 1)) 0 (xmul f0 1)) (xcut r1 0 (xmul f1 1))) 0 (xmul (xadd f0 f1) 1)) (xcut r2 0 (xmul f2 1))) (some 1))] [])
    else False
    else False
    else False)
   else False
   else False
   else False
   else False)
  else False
  else False
  else False
  else False
  else False
  else False
  else False
  else False
  else False
  else False
  else False
  else False
  else False
  else False
  else False
  else False
  else False
  else False
  else False
  else False) := by kernel_rfl
theorem lk_c (ax bx cx : List LV) (n0 f0 : Nat) (c0 r0 : List LV) (n1 f1 : Nat) (c1 r1 : List LV) (n2 f2 : Nat) (c2 r2 : List LV) (N M : Nat) (C R : List LV) (K : Pk) : (xsp Go.Proofs.Try.prog cxd 100 109 (seg (sp Go.Proofs.Try.prog 6) 11 2) (mkTm 109 (lkT2 N M)) (mkS (lkH2 ax bx cx n0 f0 c0 r0 n1 f1 c1 r1 n2 f2 c2 r2 N M C R)) (vK lkL K)) = (
  bif xle n2 1000000 then
  bif xeq (xln c2) (xmul n2 2) then
  bif xnoid c2 then
  bif okC c1 n1 then
  bif okC c2 n2 then
  bif xle (xadd n1 1) 1000000 then
  bif xle (xadd 0 (xmul f2 1)) (xln r2) then
  bif xle (xadd f1 f2) 1000000 then
  bif xle (xadd 0 (xmul f1 1)) (xln r1) then
  bif xz f2 then (
   bif xle (takeN 96 n1 c1 n2 c2) 1000000 then
   bif xeq (xln (takeC 96 n1 c1 n2 c2)) (xmul (takeN 96 n1 c1 n2 c2) 2) then
   bif xnoid (takeC 96 n1 c1 n2 c2) then
   bif okC c0 n0 then
   bif okC (takeC 96 n1 c1 n2 c2) (takeN 96 n1 c1 n2 c2) then
   bif xle (xadd n0 1) 1000000 then
   bif xle (xadd 0 (xmul f1 1)) (xln r1) then
   bif xle (xadd f0 f1) 1000000 then
   bif xle (xadd 0 (xmul f0 1)) (xln r0) then
   bif xz f1 then (
    K .normal [.any, .ptr 3 0, .ptr 17 0, .slo 23 0 N 0, .slo 24 0 M 0] [some (.ro ax), some (.ro bx), some (.ro cx), some (.cells [.int .i64 96, .slo 4 0 1 0] none), some (.cells [.ptr 5 0, .ptr 9 0, .ptr 13 0] (some 1)), some (.cells [.ptr 6 0, .slo 8 0 f0 0] none), some (.cells [.int .i64 96, .slo 28 0 (takeN 96 n0 c0 (takeN 96 n1 c1 n2 c2) (takeC 96 n1 c1 n2 c2)) 0] none), some .dead, some (.cells r0 (some 1)), some (.cells [.ptr 10 0, .slo 12 0 f1 0] none), some (.cells [.int .i64 96, .slo 26 0 (takeN 96 n1 c1 n2 c2) 0] none), some .dead, some (.cells r1 (some 1)), some (.cells [.ptr 14 0, .slo 16 0 f2 0] none), some (.cells [.int .i64 96, .slo 15 0 n2 0] none), some (.cells c2 (some 2)), some (.cells r2 (some 1)), some (.cells [.int .i64 96, .sl 18 0 1 1] none), some (.cells [.ptr 19 0] none), some (.cells [.ptr 20 0, .slo 22 0 M 0] none), some (.cells [.int .i64 96, .slo 21 0 N 0] none), some (.cells C (some 2)), some (.cells R (some 1)), some (.cells C (some 2)), some (.cells R (some 1)), some (.cells c2 (some 2)), some (.cells (takeC 96 n1 c1 n2 c2) (some 2)), some (.cells (takeC 96 n1 c1 n2 c2) (some 2)), some (.cells (takeC 96 n0 c0 (takeN 96 n1 c1 n2 c2) (takeC 96 n1 c1 n2 c2)) (some 2))] [])
   else (
    K .normal [.any, .ptr 3 0, .ptr 17 0, .slo 23 0 N 0, .slo 24 0 M 0] [some (.ro ax), some (.ro bx), some (.ro cx), some (.cells [.int .i64 96, .slo 4 0 1 0] none), some (.cells [.ptr 5 0, .ptr 9 0, .ptr 13 0] (some 1)), some (.cells [.ptr 6 0, .slo 29 0 (xadd f0 f1) 0] none), some (.cells [.int .i64 96, .slo 28 0 (takeN 96 n0 c0 (takeN 96 n1 c1 n2 c2) (takeC 96 n1 c1 n2 c2)) 0] none), some .dead, some .dead, some (.cells [.ptr 10 0, .slo 12 0 f1 0] none), some (.cells [.int .i64 96, .slo 26 0 (takeN 96 n1 c1 n2 c2) 0] none), some .dead, some (.cells r1 (some 1)), some (.cells [.ptr 14 0, .slo 16 0 f2 0] none), some (.cells [.int .i64 96, .slo 15 0 n2 0] none), some (.cells c2 (some 2)), some (.cells r2 (some 1)), some (.cells [.int .i64 96, .sl 18 0 1 1] none), some (.cells [.ptr 19 0] none), some (.cells [.ptr 20 0, .slo 22 0 M 0] none), some (.cells [.int .i64 96, .slo 21 0 N 0] none), some (.cells C (some 2)), some (.cells R (some 1)), some (.cells C (some 2)), some (.cells R (some 1)), some (.cells c2 (some 2)), some (.cells (takeC 96 n1 c1 n2 c2) (some 2)), some (.cells (takeC 96 n1 c1 n2 c2) (some 2)), some (.cells (takeC 96 n0 c0 (takeN 96 n1 c1 n2 c2) (takeC 96 n1 c1 n2 c2)) (some 2)), some (.cells (xcat (xcut r0 0 (xmul f0 1)) (xcut r1 0 (xmul f1 1))) (some 1))] [])
   else False
   else False
   else False
   else False
   else False
   else False
   else False
   else False
   else False)
  else (
   bif xle (takeN 96 n1 c1 n2 c2) 1000000 then
   bif xeq (xln (takeC 96 n1 c1 n2 c2)) (xmul (takeN 96 n1 c1 n2 c2) 2) then
   bif xnoid (takeC 96 n1 c1 n2 c2) then
   bif okC c0 n0 then
   bif okC (takeC 96 n1 c1 n2 c2) (takeN 96 n1 c1 n2 c2) then
   bif xle (xadd n0 1) 1000000 then
   bif xle (xadd 0 (xmul (xadd f1 f2) 1)) (xln (xcat (xcut r1 0 (xmul f1 1)) (xcut r2 0 (xmul f2 1)))) then
   bif xle (xadd f0 (xadd f1 f2)) 1000000 then
   bif xle (xadd 0 (xmul f0 1)) (xln r0) then
   bif xz (xadd f1 f2) then (
    K .normal [.any, .ptr 3 0, .ptr 17 0, .slo 23 0 N 0, .slo 24 0 M 0] [some (.ro ax), some (.ro bx), some (.ro cx), some (.cells [.int .i64 96, .slo 4 0 1 0] none), some (.cells [.ptr 5 0, .ptr 9 0, .ptr 13 0] (some 1)), some (.cells [.ptr 6 0, .slo 8 0 f0 0] none), some (.cells [.int .i64 96, .slo 29 0 (takeN 96 n0 c0 (takeN 96 n1 c1 n2 c2) (takeC 96 n1 c1 n2 c2)) 0] none), some .dead, some (.cells r0 (some 1)), some (.cells [.ptr 10 0, .slo 27 0 (xadd f1 f2) 0] none), some (.cells [.int .i64 96, .slo 26 0 (takeN 96 n1 c1 n2 c2) 0] none), some .dead, some .dead, some (.cells [.ptr 14 0, .slo 16 0 f2 0] none), some (.cells [.int .i64 96, .slo 15 0 n2 0] none), some (.cells c2 (some 2)), some (.cells r2 (some 1)), some (.cells [.int .i64 96, .sl 18 0 1 1] none), some (.cells [.ptr 19 0] none), some (.cells [.ptr 20 0, .slo 22 0 M 0] none), some (.cells [.int .i64 96, .slo 21 0 N 0] none), some (.cells C (some 2)), some (.cells R (some 1)), some (.cells C (some 2)), some (.cells R (some 1)), some (.cells c2 (some 2)), some (.cells (takeC 96 n1 c1 n2 c2) (some 2)), some (.cells (xcat (xcut r1 0 (xmul f1 1)) (xcut r2 0 (xmul f2 1))) (some 1)), some (.cells (takeC 96 n1 c1 n2 c2) (some 2)), some (.cells (takeC 96 n0 c0 (takeN 96 n1 c1 n2 c2) (takeC 96 n1 c1 n2 c2)) (some 2))] [])
   else (
    K .normal [.any, .ptr 3 0, .ptr 17 0, .slo 23 0 N 0, .slo 24 0 M 0] [some (.ro ax), some (.ro bx), some (.ro cx), some (.cells [.int .i64 96, .slo 4 0 1 0] none), some (.cells [.ptr 5 0, .ptr 9 0, .ptr 13 0] (some 1)), some (.cells [.ptr 6 0, .slo 30 0 (xadd f0 (xadd f1 f2)) 0] none), some (.cells [.int .i64 96, .slo 29 0 (takeN 96 n0 c0 (takeN 96 n1 c1 n2 c2) (takeC 96 n1 c1 n2 c2)) 0] none), some .dead, some .dead, some (.cells [.ptr 10 0, .slo 27 0 (xadd f1 f2) 0] none), some (.cells [.int .i64 96, .slo 26 0 (takeN 96 n1 c1 n2 c2) 0] none), some .dead, some .dead, some (.cells [.ptr 14 0, .slo 16 0 f2 0] none), some (.cells [.int .i64 96, .slo 15 0 n2 0] none), some (.cells c2 (some 2)), some (.cells r2 (some 1)), some (.cells [.int .i64 96, .sl 18 0 1 1] none), some (.cells [.ptr 19 0] none), some (.cells [.ptr 20 0, .slo 22 0 M 0] none), some (.cells [.int .i64 96, .slo 21 0 N 0] none), some (.cells C (some 2)), some (.cells R (some 1)), some (.cells C (some 2)), some (.cells R (some 1)), some (.cells c2 (some 2)), some (.cells (takeC 96 n1 c1 n2 c2) (some 2)), some (.cells (xcat (xcut r1 0 (xmul f1 1)) (xcut r2 0 (xmul f2 1))) (some 1)), some (.cells (takeC 96 n1 c1 n2 c2) (some 2)), some (.cells (takeC 96 n0 c0 (takeN 96 n1 c1 n2 c2) (takeC 96 n1 c1 n2 c2)) (some 2)), some (.cells (xcat (xcut r0 0 (xmul f0 1)) (xcut (xcat (xcut r1 0 (xmul f1 1)) (xcut r2 0 (xmul f2 1))) 0 (xmul (xadd f1 f2) 1))) (some 1))] [])
   else False
   else False
   else False
   else False
   else False
   else False
   else False
   else False
   else False)
  else False
  else False
  else False
  else False
  else False
  else False
  else False
  else False
  else False) := by kernel_rfl
theorem lk_z (ax bx cx : List LV) (N M : Nat) (C R : List LV) (K : Pk) : (xsp Go.Proofs.Try.prog cxd 100 109 ((sp Go.Proofs.Try.prog 6).drop 13) (mkTm 109 (lkT3 N M)) (mkS (lkH3 ax bx cx N M C R)) (vK lkL K)) = (
  bif xle N 1000000 then
  bif xeq (xln C) (xmul N 2) then
  bif xnoid C then
  bif okC C N then
  bif xle (takeN 96 0 [] N C) 1000000 then
  bif xeq (xln (takeC 96 0 [] N C)) (xmul (takeN 96 0 [] N C) 2) then
  bif xnoid (takeC 96 0 [] N C) then
  bif okC C N then
  bif okC (takeC 96 0 [] N C) (takeN 96 0 [] N C) then
  bif sameW N (takeN 96 0 [] N C) C (takeC 96 0 [] N C) then (
   bif xle N 1000000 then
   bif xeq (xln C) (xmul N 2) then
   bif xnoid C then
   bif okC C N then
   bif xle (takeN 96 0 [] N C) 1000000 then
   bif xeq (xln (takeC 96 0 [] N C)) (xmul (takeN 96 0 [] N C) 2) then
   bif xnoid (takeC 96 0 [] N C) then
   bif okC (takeC 96 0 [] N C) (takeN 96 0 [] N C) then
   bif okC C N then
   bif sameW (takeN 96 0 [] N C) N (takeC 96 0 [] N C) C then (
    bif xle (xadd 0 (xmul M 1)) (xln R) then
    bif xz M then (
     bif okFr R M then
     bif xcm .eql (↑M) 0 then (
      bif xle (xadd 0 (xmul M 1)) (xln R) then
      bif xz M then (
       bif okFr R M then
       bif xcm .eql (↑M) 0 then (
        K .ret [.bool (xcm .eql (xar .sub .i64 96 ↑N) (xar .sub .i64 96 ↑N)), .ptr 3 0, .ptr 9 0, .slo 15 0 N 0, .slo 16 0 M 0] [some (.ro ax), some (.ro bx), some (.ro cx), some (.cells [.int .i64 96, .slo 4 0 1 0] none), some (.cells [.ptr 5 0, .ptr 17 0, .ptr 18 0] (some 1)), some (.cells [.ptr 6 0, .slo 8 0 M 0] none), some (.cells [.int .i64 96, .slo 7 0 N 0] none), some (.cells C (some 2)), some (.cells R (some 1)), some (.cells [.int .i64 96, .sl 10 0 1 1] none), some (.cells [.ptr 11 0] none), some (.cells [.ptr 12 0, .slo 14 0 M 0] none), some (.cells [.int .i64 96, .slo 13 0 N 0] none), some (.cells C (some 2)), some (.cells R (some 1)), some (.cells C (some 2)), some (.cells R (some 1)), some .dead, some .dead, some (.cells [.int .i64 96, .slo 21 0 (takeN 96 0 [] N C) 0] none), some (.cells C (some 2)), some (.cells (takeC 96 0 [] N C) (some 2)), some (.cells (takeC 96 0 [] N C) (some 2)), some (.cells [.int .i64 96, .slo 25 0 (takeN 96 0 [] N C) 0] none), some (.cells C (some 2)), some (.cells (takeC 96 0 [] N C) (some 2)), some (.cells (takeC 96 0 [] N C) (some 2))] [])
       else (
        K .ret [.bool false, .ptr 3 0, .ptr 9 0, .slo 15 0 N 0, .slo 16 0 M 0] [some (.ro ax), some (.ro bx), some (.ro cx), some (.cells [.int .i64 96, .slo 4 0 1 0] none), some (.cells [.ptr 5 0, .ptr 17 0, .ptr 18 0] (some 1)), some (.cells [.ptr 6 0, .slo 8 0 M 0] none), some (.cells [.int .i64 96, .slo 7 0 N 0] none), some (.cells C (some 2)), some (.cells R (some 1)), some (.cells [.int .i64 96, .sl 10 0 1 1] none), some (.cells [.ptr 11 0] none), some (.cells [.ptr 12 0, .slo 14 0 M 0] none), some (.cells [.int .i64 96, .slo 13 0 N 0] none), some (.cells C (some 2)), some (.cells R (some 1)), some (.cells C (some 2)), some (.cells R (some 1)), some .dead, some .dead, some (.cells [.int .i64 96, .slo 21 0 (takeN 96 0 [] N C) 0] none), some (.cells C (some 2)), some (.cells (takeC 96 0 [] N C) (some 2)), some (.cells (takeC 96 0 [] N C) (some 2)), some (.cells [.int .i64 96, .slo 25 0 (takeN 96 0 [] N C) 0] none), some (.cells C (some 2)), some (.cells (takeC 96 0 [] N C) (some 2)), some (.cells (takeC 96 0 [] N C) (some 2))] [])
       else False)
      else (
       bif xle M 1000000 then
       bif okIi64 (xcut R 0 (xmul M 1)) M then
       bif okIi64 R M then
       bif sameIi64 M M (xcut R 0 (xmul M 1)) R then (
        K .ret [.bool (xcm .eql (xar .sub .i64 96 ↑N) (xar .sub .i64 96 ↑N)), .ptr 3 0, .ptr 9 0, .slo 15 0 N 0, .slo 16 0 M 0] [some (.ro ax), some (.ro bx), some (.ro cx), some (.cells [.int .i64 96, .slo 4 0 1 0] none), some (.cells [.ptr 5 0, .ptr 17 0, .ptr 18 0] (some 1)), some (.cells [.ptr 6 0, .slo 8 0 M 0] none), some (.cells [.int .i64 96, .slo 7 0 N 0] none), some (.cells C (some 2)), some (.cells R (some 1)), some (.cells [.int .i64 96, .sl 10 0 1 1] none), some (.cells [.ptr 11 0] none), some (.cells [.ptr 12 0, .slo 14 0 M 0] none), some (.cells [.int .i64 96, .slo 13 0 N 0] none), some (.cells C (some 2)), some (.cells R (some 1)), some (.cells C (some 2)), some (.cells R (some 1)), some .dead, some .dead, some (.cells [.int .i64 96, .slo 21 0 (takeN 96 0 [] N C) 0] none), some (.cells C (some 2)), some (.cells (takeC 96 0 [] N C) (some 2)), some (.cells (takeC 96 0 [] N C) (some 2)), some (.cells [.int .i64 96, .slo 25 0 (takeN 96 0 [] N C) 0] none), some (.cells C (some 2)), some (.cells (takeC 96 0 [] N C) (some 2)), some (.cells (takeC 96 0 [] N C) (some 2)), some (.cells (xcut R 0 (xmul M 1)) (some 1))] [])
       else (
        K .ret [.bool false, .ptr 3 0, .ptr 9 0, .slo 15 0 N 0, .slo 16 0 M 0] [some (.ro ax), some (.ro bx), some (.ro cx), some (.cells [.int .i64 96, .slo 4 0 1 0] none), some (.cells [.ptr 5 0, .ptr 17 0, .ptr 18 0] (some 1)), some (.cells [.ptr 6 0, .slo 8 0 M 0] none), some (.cells [.int .i64 96, .slo 7 0 N 0] none), some (.cells C (some 2)), some (.cells R (some 1)), some (.cells [.int .i64 96, .sl 10 0 1 1] none), some (.cells [.ptr 11 0] none), some (.cells [.ptr 12 0, .slo 14 0 M 0] none), some (.cells [.int .i64 96, .slo 13 0 N 0] none), some (.cells C (some 2)), some (.cells R (some 1)), some (.cells C (some 2)), some (.cells R (some 1)), some .dead, some .dead, some (.cells [.int .i64 96, .slo 21 0 (takeN 96 0 [] N C) 0] none), some (.cells C (some 2)), some (.cells (takeC 96 0 [] N C) (some 2)), some (.cells (takeC 96 0 [] N C) (some 2)), some (.cells [.int .i64 96, .slo 25 0 (takeN 96 0 [] N C) 0] none), some (.cells C (some 2)), some (.cells (takeC 96 0 [] N C) (some 2)), some (.cells (takeC 96 0 [] N C) (some 2)), some (.cells (xcut R 0 (xmul M 1)) (some 1))] [])
       else False
       else False
       else False)
      else False)
     else (
      K .ret [.bool false, .ptr 3 0, .ptr 9 0, .slo 15 0 N 0, .slo 16 0 M 0] [some (.ro ax), some (.ro bx), some (.ro cx), some (.cells [.int .i64 96, .slo 4 0 1 0] none), some (.cells [.ptr 5 0, .ptr 17 0, .ptr 18 0] (some 1)), some (.cells [.ptr 6 0, .slo 8 0 M 0] none), some (.cells [.int .i64 96, .slo 7 0 N 0] none), some (.cells C (some 2)), some (.cells R (some 1)), some (.cells [.int .i64 96, .sl 10 0 1 1] none), some (.cells [.ptr 11 0] none), some (.cells [.ptr 12 0, .slo 14 0 M 0] none), some (.cells [.int .i64 96, .slo 13 0 N 0] none), some (.cells C (some 2)), some (.cells R (some 1)), some (.cells C (some 2)), some (.cells R (some 1)), some .dead, some .dead, some (.cells [.int .i64 96, .slo 21 0 (takeN 96 0 [] N C) 0] none), some (.cells C (some 2)), some (.cells (takeC 96 0 [] N C) (some 2)), some (.cells (takeC 96 0 [] N C) (some 2)), some (.cells [.int .i64 96, .slo 25 0 (takeN 96 0 [] N C) 0] none), some (.cells C (some 2)), some (.cells (takeC 96 0 [] N C) (some 2)), some (.cells (takeC 96 0 [] N C) (some 2))] [])
     else False)
    else (
     bif xle M 1000000 then
     bif okIi64 R M then
     bif okIi64 (xcut R 0 (xmul M 1)) M then
     bif sameIi64 M M R (xcut R 0 (xmul M 1)) then (
      bif xle (xadd 0 (xmul M 1)) (xln R) then
      bif xz M then (
       bif okFr R M then
       bif xcm .eql (↑M) 0 then (
        K .ret [.bool (xcm .eql (xar .sub .i64 96 ↑N) (xar .sub .i64 96 ↑N)), .ptr 3 0, .ptr 9 0, .slo 15 0 N 0, .slo 16 0 M 0] [some (.ro ax), some (.ro bx), some (.ro cx), some (.cells [.int .i64 96, .slo 4 0 1 0] none), some (.cells [.ptr 5 0, .ptr 17 0, .ptr 18 0] (some 1)), some (.cells [.ptr 6 0, .slo 8 0 M 0] none), some (.cells [.int .i64 96, .slo 7 0 N 0] none), some (.cells C (some 2)), some (.cells R (some 1)), some (.cells [.int .i64 96, .sl 10 0 1 1] none), some (.cells [.ptr 11 0] none), some (.cells [.ptr 12 0, .slo 14 0 M 0] none), some (.cells [.int .i64 96, .slo 13 0 N 0] none), some (.cells C (some 2)), some (.cells R (some 1)), some (.cells C (some 2)), some (.cells R (some 1)), some .dead, some .dead, some (.cells [.int .i64 96, .slo 21 0 (takeN 96 0 [] N C) 0] none), some (.cells C (some 2)), some (.cells (takeC 96 0 [] N C) (some 2)), some (.cells (takeC 96 0 [] N C) (some 2)), some (.cells [.int .i64 96, .slo 25 0 (takeN 96 0 [] N C) 0] none), some (.cells C (some 2)), some (.cells (takeC 96 0 [] N C) (some 2)), some (.cells (takeC 96 0 [] N C) (some 2)), some (.cells (xcut R 0 (xmul M 1)) (some 1))] [])
       else (
        K .ret [.bool false, .ptr 3 0, .ptr 9 0, .slo 15 0 N 0, .slo 16 0 M 0] [some (.ro ax), some (.ro bx), some (.ro cx), some (.cells [.int .i64 96, .slo 4 0 1 0] none), some (.cells [.ptr 5 0, .ptr 17 0, .ptr 18 0] (some 1)), some (.cells [.ptr 6 0, .slo 8 0 M 0] none), some (.cells [.int .i64 96, .slo 7 0 N 0] none), some (.cells C (some 2)), some (.cells R (some 1)), some (.cells [.int .i64 96, .sl 10 0 1 1] none), some (.cells [.ptr 11 0] none), some (.cells [.ptr 12 0, .slo 14 0 M 0] none), some (.cells [.int .i64 96, .slo 13 0 N 0] none), some (.cells C (some 2)), some (.cells R (some 1)), some (.cells C (some 2)), some (.cells R (some 1)), some .dead, some .dead, some (.cells [.int .i64 96, .slo 21 0 (takeN 96 0 [] N C) 0] none), some (.cells C (some 2)), some (.cells (takeC 96 0 [] N C) (some 2)), some (.cells (takeC 96 0 [] N C) (some 2)), some (.cells [.int .i64 96, .slo 25 0 (takeN 96 0 [] N C) 0] none), some (.cells C (some 2)), some (.cells (takeC 96 0 [] N C) (some 2)), some (.cells (takeC 96 0 [] N C) (some 2)), some (.cells (xcut R 0 (xmul M 1)) (some 1))] [])
       else False)
      else (
       bif xle M 1000000 then
       bif okIi64 (xcut R 0 (xmul M 1)) M then
       bif okIi64 R M then
       bif sameIi64 M M (xcut R 0 (xmul M 1)) R then (
        K .ret [.bool (xcm .eql (xar .sub .i64 96 ↑N) (xar .sub .i64 96 ↑N)), .ptr 3 0, .ptr 9 0, .slo 15 0 N 0, .slo 16 0 M 0] [some (.ro ax), some (.ro bx), some (.ro cx), some (.cells [.int .i64 96, .slo 4 0 1 0] none), some (.cells [.ptr 5 0, .ptr 17 0, .ptr 18 0] (some 1)), some (.cells [.ptr 6 0, .slo 8 0 M 0] none), some (.cells [.int .i64 96, .slo 7 0 N 0] none), some (.cells C (some 2)), some (.cells R (some 1)), some (.cells [.int .i64 96, .sl 10 0 1 1] none), some (.cells [.ptr 11 0] none), some (.cells [.ptr 12 0, .slo 14 0 M 0] none), some (.cells [.int .i64 96, .slo 13 0 N 0] none), some (.cells C (some 2)), some (.cells R (some 1)), some (.cells C (some 2)), some (.cells R (some 1)), some .dead, some .dead, some (.cells [.int .i64 96, .slo 21 0 (takeN 96 0 [] N C) 0] none), some (.cells C (some 2)), some (.cells (takeC 96 0 [] N C) (some 2)), some (.cells (takeC 96 0 [] N C) (some 2)), some (.cells [.int .i64 96, .slo 25 0 (takeN 96 0 [] N C) 0] none), some (.cells C (some 2)), some (.cells (takeC 96 0 [] N C) (some 2)), some (.cells (takeC 96 0 [] N C) (some 2)), some (.cells (xcut R 0 (xmul M 1)) (some 1)), some (.cells (xcut R 0 (xmul M 1)) (some 1))] [])
       else (
        K .ret [.bool false, .ptr 3 0, .ptr 9 0, .slo 15 0 N 0, .slo 16 0 M 0] [some (.ro ax), some (.ro bx), some (.ro cx), some (.cells [.int .i64 96, .slo 4 0 1 0] none), some (.cells [.ptr 5 0, .ptr 17 0, .ptr 18 0] (some 1)), some (.cells [.ptr 6 0, .slo 8 0 M 0] none), some (.cells [.int .i64 96, .slo 7 0 N 0] none), some (.cells C (some 2)), some (.cells R (some 1)), some (.cells [.int .i64 96, .sl 10 0 1 1] none), some (.cells [.ptr 11 0] none), some (.cells [.ptr 12 0, .slo 14 0 M 0] none), some (.cells [.int .i64 96, .slo 13 0 N 0] none), some (.cells C (some 2)), some (.cells R (some 1)), some (.cells C (some 2)), some (.cells R (some 1)), some .dead, some .dead, some (.cells [.int .i64 96, .slo 21 0 (takeN 96 0 [] N C) 0] none), some (.cells C (some 2)), some (.cells (takeC 96 0 [] N C) (some 2)), some (.cells (takeC 96 0 [] N C) (some 2)), some (.cells [.int .i64 96, .slo 25 0 (takeN 96 0 [] N C) 0] none), some (.cells C (some 2)), some (.cells (takeC 96 0 [] N C) (some 2)), some (.cells (takeC 96 0 [] N C) (some 2)), some (.cells (xcut R 0 (xmul M 1)) (some 1)), some (.cells (xcut R 0 (xmul M 1)) (some 1))] [])
       else False
       else False
       else False)
      else False)
     else (
      K .ret [.bool false, .ptr 3 0, .ptr 9 0, .slo 15 0 N 0, .slo 16 0 M 0] [some (.ro ax), some (.ro bx), some (.ro cx), some (.cells [.int .i64 96, .slo 4 0 1 0] none), some (.cells [.ptr 5 0, .ptr 17 0, .ptr 18 0] (some 1)), some (.cells [.ptr 6 0, .slo 8 0 M 0] none), some (.cells [.int .i64 96, .slo 7 0 N 0] none), some (.cells C (some 2)), some (.cells R (some 1)), some (.cells [.int .i64 96, .sl 10 0 1 1] none), some (.cells [.ptr 11 0] none), some (.cells [.ptr 12 0, .slo 14 0 M 0] none), some (.cells [.int .i64 96, .slo 13 0 N 0] none), some (.cells C (some 2)), some (.cells R (some 1)), some (.cells C (some 2)), some (.cells R (some 1)), some .dead, some .dead, some (.cells [.int .i64 96, .slo 21 0 (takeN 96 0 [] N C) 0] none), some (.cells C (some 2)), some (.cells (takeC 96 0 [] N C) (some 2)), some (.cells (takeC 96 0 [] N C) (some 2)), some (.cells [.int .i64 96, .slo 25 0 (takeN 96 0 [] N C) 0] none), some (.cells C (some 2)), some (.cells (takeC 96 0 [] N C) (some 2)), some (.cells (takeC 96 0 [] N C) (some 2)), some (.cells (xcut R 0 (xmul M 1)) (some 1))] [])
     else False
     else False
     else False)
    else False)
   else (
    K .ret [.bool false, .ptr 3 0, .ptr 9 0, .slo 15 0 N 0, .slo 16 0 M 0] [some (.ro ax), some (.ro bx), some (.ro cx), some (.cells [.int .i64 96, .slo 4 0 1 0] none), some (.cells [.ptr 5 0, .ptr 17 0, .ptr 18 0] (some 1)), some (.cells [.ptr 6 0, .slo 8 0 M 0] none), some (.cells [.int .i64 96, .slo 7 0 N 0] none), some (.cells C (some 2)), some (.cells R (some 1)), some (.cells [.int .i64 96, .sl 10 0 1 1] none), some (.cells [.ptr 11 0] none), some (.cells [.ptr 12 0, .slo 14 0 M 0] none), some (.cells [.int .i64 96, .slo 13 0 N 0] none), some (.cells C (some 2)), some (.cells R (some 1)), some (.cells C (some 2)), some (.cells R (some 1)), some .dead, some .dead, some (.cells [.int .i64 96, .slo 21 0 (takeN 96 0 [] N C) 0] none), some (.cells C (some 2)), some (.cells (takeC 96 0 [] N C) (some 2)), some (.cells (takeC 96 0 [] N C) (some 2)), some (.cells [.int .i64 96, .slo 25 0 (takeN 96 0 [] N C) 0] none), some (.cells C (some 2)), some (.cells (takeC 96 0 [] N C) (some 2)), some (.cells (takeC 96 0 [] N C) (some 2))] [])
   else False
   else False
   else False
   else False
   else False
   else False
   else False
   else False
   else False)
  else (
   K .ret [.bool false, .ptr 3 0, .ptr 9 0, .slo 15 0 N 0, .slo 16 0 M 0] [some (.ro ax), some (.ro bx), some (.ro cx), some (.cells [.int .i64 96, .slo 4 0 1 0] none), some (.cells [.ptr 5 0, .ptr 17 0, .ptr 18 0] (some 1)), some (.cells [.ptr 6 0, .slo 8 0 M 0] none), some (.cells [.int .i64 96, .slo 7 0 N 0] none), some (.cells C (some 2)), some (.cells R (some 1)), some (.cells [.int .i64 96, .sl 10 0 1 1] none), some (.cells [.ptr 11 0] none), some (.cells [.ptr 12 0, .slo 14 0 M 0] none), some (.cells [.int .i64 96, .slo 13 0 N 0] none), some (.cells C (some 2)), some (.cells R (some 1)), some (.cells C (some 2)), some (.cells R (some 1)), some .dead, some .dead, some (.cells [.int .i64 96, .slo 21 0 (takeN 96 0 [] N C) 0] none), some (.cells C (some 2)), some (.cells (takeC 96 0 [] N C) (some 2)), some (.cells (takeC 96 0 [] N C) (some 2))] [])
  else False
  else False
  else False
  else False
  else False
  else False
  else False
  else False
  else False) := by kernel_rfl
end
end Go.Lev
