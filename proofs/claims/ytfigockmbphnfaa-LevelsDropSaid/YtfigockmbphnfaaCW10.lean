/- LevelsDrop: trees -/
import Derived.Test.YtfigockmbphnfaaCW9
import Derived.Test.YtfigockmbphnfaaLc
import Derived.Test.YtfigockmbphnfaaChecked
import Derived.KernelRfl

namespace Go.Lev
open Go.RowKit
set_option linter.unusedVariables false
set_option linter.unusedSimpArgs false
set_option maxRecDepth 100000
noncomputable section
/-! rows of integers -/
def decIi64 : List LV → List Int
  | .int _ a :: r => a :: decIi64 r
  | _ => []
theorem decIi64_enc : ∀ xs, decIi64 (encL (cI .i64) xs) = xs
  | [] => rfl
  | x :: r => by simp [encL, cI, decIi64, decIi64_enc r]
def okIi64 (cs : List LV) (n : Nat) : Bool := @decide (cs = encL (cI .i64) (decIi64 cs) ∧ (decIi64 cs).length = n ∧ n ≤ 9223372036854775807) (Classical.propDecidable _)

theorem okIi64_iff {cs : List LV} {n : Nat} : okIi64 cs n = true ↔ ∃ xs, cs = encL (cI .i64) xs ∧ xs.length = n ∧ n ≤ 9223372036854775807 := by
  simp only [okIi64, decide_eq_true_eq]
  exact ⟨fun h => ⟨_, h⟩, fun ⟨xs, h1, h2⟩ => by subst h1; rw [decIi64_enc]; exact ⟨rfl, h2⟩⟩
theorem okIi64_tab {n : Nat} (g : Nat → Int) (h : n ≤ 9223372036854775807) : okIi64 (tab (cI .i64) n g) n = true := okIi64_iff.2 ⟨_, rfl, by simp, h⟩
theorem okIi64_enc {xs : List Int} (h : xs.length ≤ 9223372036854775807) : okIi64 (encL (cI .i64) xs) xs.length = true := okIi64_iff.2 ⟨_, rfl, rfl, h⟩
theorem encIi64_len (xs : List Int) : (encL (cI .i64) xs).length = xs.length := by rw [encL_length (cI_len .i64)]; omega
theorem encIi64_push (xs : List Int) (y : Int) : xcat (xcut (encL (cI .i64) xs) 0 xs.length) [.int .i64 y] = encL (cI .i64) (xs ++ [y]) := by
  rw [xcut_all (by rw [encIi64_len]; omega), encL_append]; rfl
theorem encIi64_nth {xs : List Int} {i : Nat} (h : i < xs.length) : nthD (encL (cI .i64) xs) i = .int .i64 xs[i] := by
  have := encL_nth (cI_len .i64) (j := 0) h (by omega)
  simp only [Nat.mul_one, Nat.add_zero] at this
  exact this
theorem noIds_Ii64 (xs : List Int) : noIds (encL (cI .i64) xs) = true := noIds_encL (fun _ => rfl) xs
theorem xnoid_Ii64 (xs : List Int) : xnoid (encL (cI .i64) xs) = true := xnoid_encL (fun _ => rfl) xs

abbrev siTi64 (n m k : Nat) : List (Nat × LV) := [(0, .slo 0 0 n 0), (1, .slo 1 0 m 0), (5, .int .i64 k)]
abbrev siHi64 (cs ds : List LV) : List LB := [.cells cs (some 1), .cells ds (some 1)]
abbrev siLi64 : List Nat := [0, 1, 4, 5]
theorem sii64_a (n m : Nat) (cs ds : List LV) (K : Pk) : (xsp Go.Proofs.Try.prog (fun _ => none) 40 26 (seg (sp Go.Proofs.Try.prog 25) 0 4) (tm0 [.slo 0 0 n 0, .slo 1 0 m 0]) (mkS (siHi64 cs ds)) (vK siLi64 K)) = (
  bif xcm .neq ↑n ↑m then (
   K .ret [.slo 0 0 n 0, .slo 1 0 m 0, .bool false, .tup []] [some (.cells cs (some 1)), some (.cells ds (some 1))] [])
  else (
   K .normal [.slo 0 0 n 0, .slo 1 0 m 0, .bool false, .int .i64 0] [some (.cells cs (some 1)), some (.cells ds (some 1))] [])) := by kernel_rfl
theorem sii64_b (n m k : Nat) (cs ds : List LV) (K : Pk) : (xcode Go.Proofs.Try.prog (fun _ => none) 40 26 (loopOf (nthC (sp Go.Proofs.Try.prog 25) 4)) (mkTm 26 (siTi64 n m k)) (mkS (siHi64 cs ds)) (vK siLi64 K)) = (
  bif xcm .lss ↑k ↑n then (
   bif xle (xadd (xnat ↑k) 1) n then
   bif xle (xadd (xix 0 (xnat ↑k) 1) 1) (xln cs) then
   bif isI .i64 (nthD cs (xix 0 (xnat ↑k) 1)) then
   bif xle (xadd (xnat ↑k) 1) m then
   bif xle (xadd (xix 0 (xnat ↑k) 1) 1) (xln ds) then
   bif isI .i64 (nthD ds (xix 0 (xnat ↑k) 1)) then
   bif xcm .neq (asI (nthD cs (xix 0 (xnat ↑k) 1))) (asI (nthD ds (xix 0 (xnat ↑k) 1))) then (
    K .ret [.slo 0 0 n 0, .slo 1 0 m 0, .bool false, .int .i64 ↑k] [some (.cells cs (some 1)), some (.cells ds (some 1))] [])
   else (
    K .normal [.slo 0 0 n 0, .slo 1 0 m 0, .any, .int .i64 (xar .add .i64 (↑k) 1)] [some (.cells cs (some 1)), some (.cells ds (some 1))] [])
   else False
   else False
   else False
   else False
   else False
   else False)
  else (
   K (.exit 0) [.slo 0 0 n 0, .slo 1 0 m 0, .any, .int .i64 ↑k] [some (.cells cs (some 1)), some (.cells ds (some 1))] [])) := by kernel_rfl
theorem sii64_z (cs ds : List LV) (K : Pk) : (xsp Go.Proofs.Try.prog (fun _ => none) 40 26 ((sp Go.Proofs.Try.prog 25).drop 5) (mkTm 26 []) (mkS (siHi64 cs ds)) (vK siLi64 K)) = (
  K .ret [.any, .any, .bool true, .any] [some (.cells cs (some 1)), some (.cells ds (some 1))] []) := by kernel_rfl
open Classical in
def sameIi64 (n m : Nat) (cs ds : List LV) : Bool := @decide (n = m ∧ cs = ds) (Classical.propDecidable _)

theorem sameIi64_self (n : Nat) (cs : List LV) : sameIi64 n n cs cs = true := by simp [sameIi64]
theorem sameIi64_ok (xs ys : List Int) (hn : xs.length ≤ 9223372036854775807) (hm : ys.length ≤ 9223372036854775807) : SFun Go.Proofs.Try.prog 25 [.slo 0 0 xs.length 0, .slo 1 0 ys.length 0] (mkS (siHi64 (encL (cI .i64) xs) (encL (cI .i64) ys)))
    fun l s => l = .bool (sameIi64 xs.length ys.length (encL (cI .i64) xs) (encL (cI .i64) ys)) ∧ s = mkS (siHi64 (encL (cI .i64) xs) (encL (cI .i64) ys)) := by
  refine SFun.mono (SFun.pieces (Q := fun l b => l = .bool (sameIi64 xs.length ys.length (encL (cI .i64) xs) (encL (cI .i64) ys)) ∧ b = siHi64 (encL (cI .i64) xs) (encL (cI .i64) ys)) 26 2 siLi64 [4] (by kernel_rfl) rfl rfl rfl ?_) fun l s' ⟨b0, ⟨h1, h2⟩, h3⟩ => ⟨h1, by rw [h3, h2]⟩
  have nx := noIds_Ii64 xs
  have ny := noIds_Ii64 ys
  have hinj : ∀ a b : List Int, encL (cI .i64) a = encL (cI .i64) b → a = b := fun a b h => by rw [← decIi64_enc a, h, decIi64_enc]
  refine SSp.to noCx_ok (n := 40) (g := []) 4 4 rfl (σ := {_k : Unit // xs.length = ys.length}) (fun _ => siTi64 xs.length ys.length 0) (fun _ => siHi64 (encL (cI .i64) xs) (encL (cI .i64) ys)) (mkS_le (Nat.le_refl _)) (by kernel_rfl) ?_ fun ⟨_, hnm⟩ => ?_
  · rw [sii64_a, wd_neq]
    by_cases e : xs.length = ys.length
    · simp only [e, decide_true, Bool.not_true, cond_false]
      exact ⟨rfl, ⟨(), e⟩, [.id 0, .id 1], by (exact ⟨by kernel_rfl, by ((repeat refine okTms_cons (by (first | exact lw_any | exact lw_int | exact lw_bool | exact lw_ptr rfl | exact lw_slo rfl | exact lw_nilp | exact lw_nils | exact lw_str | exact lw_slo_nils | exact lw_slo_sle | exact lw_sl rfl | exact lw_unb | exact lw_gptr | exact lw_noid rfl | exact lw_cap rfl (Nat.le_refl _) | exact lw_cap rfl (by omega) | assumption | exact lw_tup (by ((repeat refine lws_cons (by (first | exact lw_any | exact lw_int | exact lw_bool | exact lw_ptr rfl | exact lw_slo rfl | exact lw_nilp | exact lw_nils | exact lw_str | exact lw_slo_nils | exact lw_slo_sle | exact lw_sl rfl | exact lw_unb | exact lw_gptr | exact lw_noid rfl | exact lw_cap rfl (Nat.le_refl _) | exact lw_cap rfl (by omega) | assumption)) ?_); exact lws_nil)))) ?_); exact okTms_nil), by ((repeat refine okBlks_cons (by (first | exact lb_dead | exact lb_same (by (first | assumption | exact noIds_tab (fun _ => rfl) _ _ | exact noIds_encL (fun _ => rfl) _ | rfl)) | exact lb_ro (by (first | assumption | exact noIds_tab (fun _ => rfl) _ _ | exact noIds_encL (fun _ => rfl) _ | rfl)) | exact lb_none | exact lb_cells (by ((repeat refine lws_cons (by (first | exact lw_any | exact lw_int | exact lw_bool | exact lw_ptr rfl | exact lw_slo rfl | exact lw_nilp | exact lw_nils | exact lw_str | exact lw_slo_nils | exact lw_slo_sle | exact lw_sl rfl | exact lw_unb | exact lw_gptr | exact lw_noid rfl | exact lw_cap rfl (Nat.le_refl _) | exact lw_cap rfl (by omega) | assumption | exact lw_tup (by ((repeat refine lws_cons (by (first | exact lw_any | exact lw_int | exact lw_bool | exact lw_ptr rfl | exact lw_slo rfl | exact lw_nilp | exact lw_nils | exact lw_str | exact lw_slo_nils | exact lw_slo_sle | exact lw_sl rfl | exact lw_unb | exact lw_gptr | exact lw_noid rfl | exact lw_cap rfl (Nat.le_refl _) | exact lw_cap rfl (by omega) | assumption)) ?_); exact lws_nil)))) ?_); exact lws_nil)) (by simp) | exact lb_iter | exact lb_cap (Nat.le_refl _) (Nat.le_refl _) rfl rfl | exact lb_capn (by assumption) (by (first | assumption | exact noIds_tab (fun _ => rfl) _ _ | exact noIds_encL (fun _ => rfl) _ | rfl)) | assumption)) ?_); exact okBlks_nil)⟩)⟩
    · simp only [e, decide_false, Bool.not_false, cond_true]
      have hs : sameIi64 xs.length ys.length (encL (cI .i64) xs) (encL (cI .i64) ys) = false := by simp only [sameIi64, decide_eq_false_iff_not]; exact fun k => e k.1
      exact ⟨trivial, rfl, _, _, [.id 0, .id 1], ⟨rfl, rfl⟩, by rw [hs]; (exact ⟨by kernel_rfl, by ((repeat refine okTms_cons (by (first | exact lw_any | exact lw_int | exact lw_bool | exact lw_ptr rfl | exact lw_slo rfl | exact lw_nilp | exact lw_nils | exact lw_str | exact lw_slo_nils | exact lw_slo_sle | exact lw_sl rfl | exact lw_unb | exact lw_gptr | exact lw_noid rfl | exact lw_cap rfl (Nat.le_refl _) | exact lw_cap rfl (by omega) | assumption | exact lw_tup (by ((repeat refine lws_cons (by (first | exact lw_any | exact lw_int | exact lw_bool | exact lw_ptr rfl | exact lw_slo rfl | exact lw_nilp | exact lw_nils | exact lw_str | exact lw_slo_nils | exact lw_slo_sle | exact lw_sl rfl | exact lw_unb | exact lw_gptr | exact lw_noid rfl | exact lw_cap rfl (Nat.le_refl _) | exact lw_cap rfl (by omega) | assumption)) ?_); exact lws_nil)))) ?_); exact okTms_nil), by ((repeat refine okBlks_cons (by (first | exact lb_dead | exact lb_same (by (first | assumption | exact noIds_tab (fun _ => rfl) _ _ | exact noIds_encL (fun _ => rfl) _ | rfl)) | exact lb_ro (by (first | assumption | exact noIds_tab (fun _ => rfl) _ _ | exact noIds_encL (fun _ => rfl) _ | rfl)) | exact lb_none | exact lb_cells (by ((repeat refine lws_cons (by (first | exact lw_any | exact lw_int | exact lw_bool | exact lw_ptr rfl | exact lw_slo rfl | exact lw_nilp | exact lw_nils | exact lw_str | exact lw_slo_nils | exact lw_slo_sle | exact lw_sl rfl | exact lw_unb | exact lw_gptr | exact lw_noid rfl | exact lw_cap rfl (Nat.le_refl _) | exact lw_cap rfl (by omega) | assumption | exact lw_tup (by ((repeat refine lws_cons (by (first | exact lw_any | exact lw_int | exact lw_bool | exact lw_ptr rfl | exact lw_slo rfl | exact lw_nilp | exact lw_nils | exact lw_str | exact lw_slo_nils | exact lw_slo_sle | exact lw_sl rfl | exact lw_unb | exact lw_gptr | exact lw_noid rfl | exact lw_cap rfl (Nat.le_refl _) | exact lw_cap rfl (by omega) | assumption)) ?_); exact lws_nil)))) ?_); exact lws_nil)) (by simp) | exact lb_iter | exact lb_cap (Nat.le_refl _) (Nat.le_refl _) rfl rfl | exact lb_capn (by assumption) (by (first | assumption | exact noIds_tab (fun _ => rfl) _ _ | exact noIds_encL (fun _ => rfl) _ | rfl)) | assumption)) ?_); exact okBlks_nil)⟩)⟩
  refine SSp.code_to (g := []) 5 rfl (σ := {_k : Unit // xs = ys}) (fun _ => []) (fun _ => siHi64 (encL (cI .i64) xs) (encL (cI .i64) ys)) (by kernel_rfl) ?_ fun ⟨_, hall⟩ => ?_
  · refine SCode.loop_vc noCx_ok (n := 40) 0 (by kernel_rfl) (σ := {k : Nat // k ≤ xs.length ∧ ∀ i (h : i < xs.length) (h' : i < ys.length), i < k → xs[i] = ys[i]}) (fun k => siTi64 xs.length ys.length k.1) (fun _ => siHi64 (encL (cI .i64) xs) (encL (cI .i64) ys)) (fun k => xs.length - k.1) (fun _ => Nat.le_refl _) (fun ⟨k, hk, hall⟩ => ?_) ⟨0, Nat.zero_le _, fun i _ _ hi => absurd hi (by omega)⟩
    dsimp only
    rw [sii64_b, wd_lss]
    refine ite_way (fun h0 => ?_) (fun h0 => ⟨rfl, ⟨(), List.ext_getElem hnm fun i h1 h2 => hall i h1 h2 (by omega)⟩, [.id 0, .id 1], by (exact ⟨by kernel_rfl, by ((repeat refine okTms_cons (by (first | exact lw_any | exact lw_int | exact lw_bool | exact lw_ptr rfl | exact lw_slo rfl | exact lw_nilp | exact lw_nils | exact lw_str | exact lw_slo_nils | exact lw_slo_sle | exact lw_sl rfl | exact lw_unb | exact lw_gptr | exact lw_noid rfl | exact lw_cap rfl (Nat.le_refl _) | exact lw_cap rfl (by omega) | assumption | exact lw_tup (by ((repeat refine lws_cons (by (first | exact lw_any | exact lw_int | exact lw_bool | exact lw_ptr rfl | exact lw_slo rfl | exact lw_nilp | exact lw_nils | exact lw_str | exact lw_slo_nils | exact lw_slo_sle | exact lw_sl rfl | exact lw_unb | exact lw_gptr | exact lw_noid rfl | exact lw_cap rfl (Nat.le_refl _) | exact lw_cap rfl (by omega) | assumption)) ?_); exact lws_nil)))) ?_); exact okTms_nil), by ((repeat refine okBlks_cons (by (first | exact lb_dead | exact lb_same (by (first | assumption | exact noIds_tab (fun _ => rfl) _ _ | exact noIds_encL (fun _ => rfl) _ | rfl)) | exact lb_ro (by (first | assumption | exact noIds_tab (fun _ => rfl) _ _ | exact noIds_encL (fun _ => rfl) _ | rfl)) | exact lb_none | exact lb_cells (by ((repeat refine lws_cons (by (first | exact lw_any | exact lw_int | exact lw_bool | exact lw_ptr rfl | exact lw_slo rfl | exact lw_nilp | exact lw_nils | exact lw_str | exact lw_slo_nils | exact lw_slo_sle | exact lw_sl rfl | exact lw_unb | exact lw_gptr | exact lw_noid rfl | exact lw_cap rfl (Nat.le_refl _) | exact lw_cap rfl (by omega) | assumption | exact lw_tup (by ((repeat refine lws_cons (by (first | exact lw_any | exact lw_int | exact lw_bool | exact lw_ptr rfl | exact lw_slo rfl | exact lw_nilp | exact lw_nils | exact lw_str | exact lw_slo_nils | exact lw_slo_sle | exact lw_sl rfl | exact lw_unb | exact lw_gptr | exact lw_noid rfl | exact lw_cap rfl (Nat.le_refl _) | exact lw_cap rfl (by omega) | assumption)) ?_); exact lws_nil)))) ?_); exact lws_nil)) (by simp) | exact lb_iter | exact lb_cap (Nat.le_refl _) (Nat.le_refl _) rfl rfl | exact lb_capn (by assumption) (by (first | assumption | exact noIds_tab (fun _ => rfl) _ _ | exact noIds_encL (fun _ => rfl) _ | rfl)) | assumption)) ?_); exact okBlks_nil)⟩)⟩)
    have h1 : k < ys.length := by omega
    simp only [wd_nat, wd_asV, wd_isV, wd_ix, wd_add, wd_mul, wd_ln, Nat.zero_add, Nat.mul_one, wd_isI, wd_asI, wd_isB, wd_asB, wd_nn, cI_tlen, cB_tlen, cII_tlen, decide_true, cond_true, wd_not_t, wd_not_f, wd_and_t, wd_and_f, encIi64_nth h0, encIi64_nth h1, encIi64_len, inc_i64 h0 hn, xcm_neq]
    (repeat (with_reducible refine must (by (first | with_reducible rfl | exact t_le (by omega) | exact t_eq (by omega) | exact t_nn (by omega) | exact t_lss (by omega) | exact t_leq (by omega) | exact t_gtr (by omega) | exact t_geq (by omega) | exact t_eql (by omega) | exact t_neq (by omega) | exact t_z (by omega) | exact wd_not_f | assumption)) ?_))
    by_cases e : xs[k] = ys[k]
    · simp only [e, decide_true, Bool.not_true, cond_false]
      exact ⟨rfl, ⟨k + 1, h0, fun i h2 h3 hi => by rcases Nat.lt_succ_iff_lt_or_eq.1 hi with hi | rfl; exact hall i h2 h3 hi; exact e⟩, by simp only; omega, [.id 0, .id 1], by (exact ⟨by kernel_rfl, by ((repeat refine okTms_cons (by (first | exact lw_any | exact lw_int | exact lw_bool | exact lw_ptr rfl | exact lw_slo rfl | exact lw_nilp | exact lw_nils | exact lw_str | exact lw_slo_nils | exact lw_slo_sle | exact lw_sl rfl | exact lw_unb | exact lw_gptr | exact lw_noid rfl | exact lw_cap rfl (Nat.le_refl _) | exact lw_cap rfl (by omega) | assumption | exact lw_tup (by ((repeat refine lws_cons (by (first | exact lw_any | exact lw_int | exact lw_bool | exact lw_ptr rfl | exact lw_slo rfl | exact lw_nilp | exact lw_nils | exact lw_str | exact lw_slo_nils | exact lw_slo_sle | exact lw_sl rfl | exact lw_unb | exact lw_gptr | exact lw_noid rfl | exact lw_cap rfl (Nat.le_refl _) | exact lw_cap rfl (by omega) | assumption)) ?_); exact lws_nil)))) ?_); exact okTms_nil), by ((repeat refine okBlks_cons (by (first | exact lb_dead | exact lb_same (by (first | assumption | exact noIds_tab (fun _ => rfl) _ _ | exact noIds_encL (fun _ => rfl) _ | rfl)) | exact lb_ro (by (first | assumption | exact noIds_tab (fun _ => rfl) _ _ | exact noIds_encL (fun _ => rfl) _ | rfl)) | exact lb_none | exact lb_cells (by ((repeat refine lws_cons (by (first | exact lw_any | exact lw_int | exact lw_bool | exact lw_ptr rfl | exact lw_slo rfl | exact lw_nilp | exact lw_nils | exact lw_str | exact lw_slo_nils | exact lw_slo_sle | exact lw_sl rfl | exact lw_unb | exact lw_gptr | exact lw_noid rfl | exact lw_cap rfl (Nat.le_refl _) | exact lw_cap rfl (by omega) | assumption | exact lw_tup (by ((repeat refine lws_cons (by (first | exact lw_any | exact lw_int | exact lw_bool | exact lw_ptr rfl | exact lw_slo rfl | exact lw_nilp | exact lw_nils | exact lw_str | exact lw_slo_nils | exact lw_slo_sle | exact lw_sl rfl | exact lw_unb | exact lw_gptr | exact lw_noid rfl | exact lw_cap rfl (Nat.le_refl _) | exact lw_cap rfl (by omega) | assumption)) ?_); exact lws_nil)))) ?_); exact lws_nil)) (by simp) | exact lb_iter | exact lb_cap (Nat.le_refl _) (Nat.le_refl _) rfl rfl | exact lb_capn (by assumption) (by (first | assumption | exact noIds_tab (fun _ => rfl) _ _ | exact noIds_encL (fun _ => rfl) _ | rfl)) | assumption)) ?_); exact okBlks_nil)⟩)⟩
    · have hs : sameIi64 xs.length ys.length (encL (cI .i64) xs) (encL (cI .i64) ys) = false := by
        simp only [sameIi64, decide_eq_false_iff_not]
        intro q
        have := hinj _ _ q.2
        subst this
        exact e rfl
      simp only [e, decide_false, Bool.not_false, cond_true]
      exact ⟨trivial, rfl, _, _, [.id 0, .id 1], ⟨rfl, rfl⟩, by rw [hs]; (exact ⟨by kernel_rfl, by ((repeat refine okTms_cons (by (first | exact lw_any | exact lw_int | exact lw_bool | exact lw_ptr rfl | exact lw_slo rfl | exact lw_nilp | exact lw_nils | exact lw_str | exact lw_slo_nils | exact lw_slo_sle | exact lw_sl rfl | exact lw_unb | exact lw_gptr | exact lw_noid rfl | exact lw_cap rfl (Nat.le_refl _) | exact lw_cap rfl (by omega) | assumption | exact lw_tup (by ((repeat refine lws_cons (by (first | exact lw_any | exact lw_int | exact lw_bool | exact lw_ptr rfl | exact lw_slo rfl | exact lw_nilp | exact lw_nils | exact lw_str | exact lw_slo_nils | exact lw_slo_sle | exact lw_sl rfl | exact lw_unb | exact lw_gptr | exact lw_noid rfl | exact lw_cap rfl (Nat.le_refl _) | exact lw_cap rfl (by omega) | assumption)) ?_); exact lws_nil)))) ?_); exact okTms_nil), by ((repeat refine okBlks_cons (by (first | exact lb_dead | exact lb_same (by (first | assumption | exact noIds_tab (fun _ => rfl) _ _ | exact noIds_encL (fun _ => rfl) _ | rfl)) | exact lb_ro (by (first | assumption | exact noIds_tab (fun _ => rfl) _ _ | exact noIds_encL (fun _ => rfl) _ | rfl)) | exact lb_none | exact lb_cells (by ((repeat refine lws_cons (by (first | exact lw_any | exact lw_int | exact lw_bool | exact lw_ptr rfl | exact lw_slo rfl | exact lw_nilp | exact lw_nils | exact lw_str | exact lw_slo_nils | exact lw_slo_sle | exact lw_sl rfl | exact lw_unb | exact lw_gptr | exact lw_noid rfl | exact lw_cap rfl (Nat.le_refl _) | exact lw_cap rfl (by omega) | assumption | exact lw_tup (by ((repeat refine lws_cons (by (first | exact lw_any | exact lw_int | exact lw_bool | exact lw_ptr rfl | exact lw_slo rfl | exact lw_nilp | exact lw_nils | exact lw_str | exact lw_slo_nils | exact lw_slo_sle | exact lw_sl rfl | exact lw_unb | exact lw_gptr | exact lw_noid rfl | exact lw_cap rfl (Nat.le_refl _) | exact lw_cap rfl (by omega) | assumption)) ?_); exact lws_nil)))) ?_); exact lws_nil)) (by simp) | exact lb_iter | exact lb_cap (Nat.le_refl _) (Nat.le_refl _) rfl rfl | exact lb_capn (by assumption) (by (first | assumption | exact noIds_tab (fun _ => rfl) _ _ | exact noIds_encL (fun _ => rfl) _ | rfl)) | assumption)) ?_); exact okBlks_nil)⟩)⟩
  refine SSp.last noCx_ok (n := 40) (mkS_le (Nat.le_refl _)) ?_
  rw [sii64_z]
  have hs : sameIi64 xs.length ys.length (encL (cI .i64) xs) (encL (cI .i64) ys) = true := by
    simp only [sameIi64, decide_eq_true_eq]; exact ⟨hnm, by rw [hall]⟩
  exact ⟨trivial, rfl, _, _, [.id 0, .id 1], ⟨rfl, rfl⟩, by rw [hs]; (exact ⟨by kernel_rfl, by ((repeat refine okTms_cons (by (first | exact lw_any | exact lw_int | exact lw_bool | exact lw_ptr rfl | exact lw_slo rfl | exact lw_nilp | exact lw_nils | exact lw_str | exact lw_slo_nils | exact lw_slo_sle | exact lw_sl rfl | exact lw_unb | exact lw_gptr | exact lw_noid rfl | exact lw_cap rfl (Nat.le_refl _) | exact lw_cap rfl (by omega) | assumption | exact lw_tup (by ((repeat refine lws_cons (by (first | exact lw_any | exact lw_int | exact lw_bool | exact lw_ptr rfl | exact lw_slo rfl | exact lw_nilp | exact lw_nils | exact lw_str | exact lw_slo_nils | exact lw_slo_sle | exact lw_sl rfl | exact lw_unb | exact lw_gptr | exact lw_noid rfl | exact lw_cap rfl (Nat.le_refl _) | exact lw_cap rfl (by omega) | assumption)) ?_); exact lws_nil)))) ?_); exact okTms_nil), by ((repeat refine okBlks_cons (by (first | exact lb_dead | exact lb_same (by (first | assumption | exact noIds_tab (fun _ => rfl) _ _ | exact noIds_encL (fun _ => rfl) _ | rfl)) | exact lb_ro (by (first | assumption | exact noIds_tab (fun _ => rfl) _ _ | exact noIds_encL (fun _ => rfl) _ | rfl)) | exact lb_none | exact lb_cells (by ((repeat refine lws_cons (by (first | exact lw_any | exact lw_int | exact lw_bool | exact lw_ptr rfl | exact lw_slo rfl | exact lw_nilp | exact lw_nils | exact lw_str | exact lw_slo_nils | exact lw_slo_sle | exact lw_sl rfl | exact lw_unb | exact lw_gptr | exact lw_noid rfl | exact lw_cap rfl (Nat.le_refl _) | exact lw_cap rfl (by omega) | assumption | exact lw_tup (by ((repeat refine lws_cons (by (first | exact lw_any | exact lw_int | exact lw_bool | exact lw_ptr rfl | exact lw_slo rfl | exact lw_nilp | exact lw_nils | exact lw_str | exact lw_slo_nils | exact lw_slo_sle | exact lw_sl rfl | exact lw_unb | exact lw_gptr | exact lw_noid rfl | exact lw_cap rfl (Nat.le_refl _) | exact lw_cap rfl (by omega) | assumption)) ?_); exact lws_nil)))) ?_); exact lws_nil)) (by simp) | exact lb_iter | exact lb_cap (Nat.le_refl _) (Nat.le_refl _) rfl rfl | exact lb_capn (by assumption) (by (first | assumption | exact noIds_tab (fun _ => rfl) _ _ | exact noIds_encL (fun _ => rfl) _ | rfl)) | assumption)) ?_); exact okBlks_nil)⟩)⟩
def sameIi64G : Gc := fun args s => match args with
  | [.slo b 0 n 0, .slo c 0 m 0] => (match s.h.get b, s.h.get c, s.g with
    | some (.cells cs (some 1)), some (.cells ds (some 1)), [] => cond (Nat.beq b c) none (some ([okIi64 cs n, okIi64 ds m], .bool (sameIi64 n m cs ds), s))
    | _, _, _ => none)
  | _ => none
theorem sameIi64G_ok : GOk Go.Proofs.Try.prog 25 sameIi64G := by
  intro args s bs l s' hg hb hfr
  unfold sameIi64G at hg
  split at hg
  · rename_i b n c m
    split at hg
    · rename_i cs ds hb1 hc1 hgl
      cases hbc : Nat.beq b c with
      | true => rw [hbc] at hg; cases hg
      | false =>
        rw [hbc] at hg
        simp only [cond_false, Option.some.injEq, Prod.mk.injEq] at hg
        obtain ⟨rfl, rfl, rfl⟩ := hg
        obtain ⟨k1, k2⟩ := allT_cons.1 hb
        obtain ⟨xs, rfl, rfl, h1⟩ := okIi64_iff.1 k1
        obtain ⟨ys, rfl, rfl, h2⟩ := okIi64_iff.1 (allT_cons.1 k2).1
        have nx := noIds_Ii64 xs
        have ny := noIds_Ii64 ys
        refine SFun.lift_ro (ρ := [b, c]) (bs := siHi64 (encL (cI .i64) xs) (encL (cI .i64) ys)) (args0 := [.slo 0 0 xs.length 0, .slo 1 0 ys.length 0]) hfr (by simp [beq_ne hbc]) ⟨⟨there hfr hb1, _, hb1, by (first | exact lb_dead | exact lb_same (by (first | assumption | exact noIds_tab (fun _ => rfl) _ _ | exact noIds_encL (fun _ => rfl) _ | rfl)) | exact lb_ro (by (first | assumption | exact noIds_tab (fun _ => rfl) _ _ | exact noIds_encL (fun _ => rfl) _ | rfl)) | exact lb_none | exact lb_cells (by ((repeat refine lws_cons (by (first | exact lw_any | exact lw_int | exact lw_bool | exact lw_ptr rfl | exact lw_slo rfl | exact lw_nilp | exact lw_nils | exact lw_str | exact lw_slo_nils | exact lw_slo_sle | exact lw_sl rfl | exact lw_unb | exact lw_gptr | exact lw_noid rfl | exact lw_cap rfl (Nat.le_refl _) | exact lw_cap rfl (by omega) | assumption | exact lw_tup (by ((repeat refine lws_cons (by (first | exact lw_any | exact lw_int | exact lw_bool | exact lw_ptr rfl | exact lw_slo rfl | exact lw_nilp | exact lw_nils | exact lw_str | exact lw_slo_nils | exact lw_slo_sle | exact lw_sl rfl | exact lw_unb | exact lw_gptr | exact lw_noid rfl | exact lw_cap rfl (Nat.le_refl _) | exact lw_cap rfl (by omega) | assumption)) ?_); exact lws_nil)))) ?_); exact lws_nil)) (by simp) | exact lb_iter | exact lb_cap (Nat.le_refl _) (Nat.le_refl _) rfl rfl | exact lb_capn (by assumption) (by (first | assumption | exact noIds_tab (fun _ => rfl) _ _ | exact noIds_encL (fun _ => rfl) _ | rfl)) | assumption), fun κ hκ => by (first | exact lb_dead | exact lb_same (by (first | assumption | exact noIds_tab (fun _ => rfl) _ _ | exact noIds_encL (fun _ => rfl) _ | rfl)) | exact lb_ro (by (first | assumption | exact noIds_tab (fun _ => rfl) _ _ | exact noIds_encL (fun _ => rfl) _ | rfl)) | exact lb_none | exact lb_cells (by ((repeat refine lws_cons (by (first | exact lw_any | exact lw_int | exact lw_bool | exact lw_ptr rfl | exact lw_slo rfl | exact lw_nilp | exact lw_nils | exact lw_str | exact lw_slo_nils | exact lw_slo_sle | exact lw_sl rfl | exact lw_unb | exact lw_gptr | exact lw_noid rfl | exact lw_cap rfl (Nat.le_refl _) | exact lw_cap rfl (by omega) | assumption | exact lw_tup (by ((repeat refine lws_cons (by (first | exact lw_any | exact lw_int | exact lw_bool | exact lw_ptr rfl | exact lw_slo rfl | exact lw_nilp | exact lw_nils | exact lw_str | exact lw_slo_nils | exact lw_slo_sle | exact lw_sl rfl | exact lw_unb | exact lw_gptr | exact lw_noid rfl | exact lw_cap rfl (Nat.le_refl _) | exact lw_cap rfl (by omega) | assumption)) ?_); exact lws_nil)))) ?_); exact lws_nil)) (by simp) | exact lb_iter | exact lb_cap (Nat.le_refl _) (Nat.le_refl _) rfl rfl | exact lb_capn (by assumption) (by (first | assumption | exact noIds_tab (fun _ => rfl) _ _ | exact noIds_encL (fun _ => rfl) _ | rfl)) | assumption)⟩, ⟨there hfr hc1, _, hc1, by (first | exact lb_dead | exact lb_same (by (first | assumption | exact noIds_tab (fun _ => rfl) _ _ | exact noIds_encL (fun _ => rfl) _ | rfl)) | exact lb_ro (by (first | assumption | exact noIds_tab (fun _ => rfl) _ _ | exact noIds_encL (fun _ => rfl) _ | rfl)) | exact lb_none | exact lb_cells (by ((repeat refine lws_cons (by (first | exact lw_any | exact lw_int | exact lw_bool | exact lw_ptr rfl | exact lw_slo rfl | exact lw_nilp | exact lw_nils | exact lw_str | exact lw_slo_nils | exact lw_slo_sle | exact lw_sl rfl | exact lw_unb | exact lw_gptr | exact lw_noid rfl | exact lw_cap rfl (Nat.le_refl _) | exact lw_cap rfl (by omega) | assumption | exact lw_tup (by ((repeat refine lws_cons (by (first | exact lw_any | exact lw_int | exact lw_bool | exact lw_ptr rfl | exact lw_slo rfl | exact lw_nilp | exact lw_nils | exact lw_str | exact lw_slo_nils | exact lw_slo_sle | exact lw_sl rfl | exact lw_unb | exact lw_gptr | exact lw_noid rfl | exact lw_cap rfl (Nat.le_refl _) | exact lw_cap rfl (by omega) | assumption)) ?_); exact lws_nil)))) ?_); exact lws_nil)) (by simp) | exact lb_iter | exact lb_cap (Nat.le_refl _) (Nat.le_refl _) rfl rfl | exact lb_capn (by assumption) (by (first | assumption | exact noIds_tab (fun _ => rfl) _ _ | exact noIds_encL (fun _ => rfl) _ | rfl)) | assumption), fun κ hκ => by (first | exact lb_dead | exact lb_same (by (first | assumption | exact noIds_tab (fun _ => rfl) _ _ | exact noIds_encL (fun _ => rfl) _ | rfl)) | exact lb_ro (by (first | assumption | exact noIds_tab (fun _ => rfl) _ _ | exact noIds_encL (fun _ => rfl) _ | rfl)) | exact lb_none | exact lb_cells (by ((repeat refine lws_cons (by (first | exact lw_any | exact lw_int | exact lw_bool | exact lw_ptr rfl | exact lw_slo rfl | exact lw_nilp | exact lw_nils | exact lw_str | exact lw_slo_nils | exact lw_slo_sle | exact lw_sl rfl | exact lw_unb | exact lw_gptr | exact lw_noid rfl | exact lw_cap rfl (Nat.le_refl _) | exact lw_cap rfl (by omega) | assumption | exact lw_tup (by ((repeat refine lws_cons (by (first | exact lw_any | exact lw_int | exact lw_bool | exact lw_ptr rfl | exact lw_slo rfl | exact lw_nilp | exact lw_nils | exact lw_str | exact lw_slo_nils | exact lw_slo_sle | exact lw_sl rfl | exact lw_unb | exact lw_gptr | exact lw_noid rfl | exact lw_cap rfl (Nat.le_refl _) | exact lw_cap rfl (by omega) | assumption)) ?_); exact lws_nil)))) ?_); exact lws_nil)) (by simp) | exact lb_iter | exact lb_cap (Nat.le_refl _) (Nat.le_refl _) rfl rfl | exact lb_capn (by assumption) (by (first | assumption | exact noIds_tab (fun _ => rfl) _ _ | exact noIds_encL (fun _ => rfl) _ | rfl)) | assumption)⟩, trivial⟩ (by ((repeat refine lws_cons (by (first | exact lw_any | exact lw_int | exact lw_bool | exact lw_ptr rfl | exact lw_slo rfl | exact lw_nilp | exact lw_nils | exact lw_str | exact lw_slo_nils | exact lw_slo_sle | exact lw_sl rfl | exact lw_unb | exact lw_gptr | exact lw_noid rfl | exact lw_cap rfl (Nat.le_refl _) | exact lw_cap rfl (by omega) | assumption | exact lw_tup (by ((repeat refine lws_cons (by (first | exact lw_any | exact lw_int | exact lw_bool | exact lw_ptr rfl | exact lw_slo rfl | exact lw_nilp | exact lw_nils | exact lw_str | exact lw_slo_nils | exact lw_slo_sle | exact lw_sl rfl | exact lw_unb | exact lw_gptr | exact lw_noid rfl | exact lw_cap rfl (Nat.le_refl _) | exact lw_cap rfl (by omega) | assumption)) ?_); exact lws_nil)))) ?_); exact lws_nil)) rfl ?_
        rw [hgl]
        exact sameIi64_ok xs ys h1 h2
    · cases hg
  · cases hg

/-! two rows that are nil -/
theorem same0i64_x (K : Fk) : (xfun Go.Proofs.Try.prog (fun _ => none) 40 25 [.nils, .nils] (mkS []) (vF K)) = (
  K (.bool true) [] []) := by kernel_rfl
theorem same0i64_ok : SFun Go.Proofs.Try.prog 25 [.nils, .nils] (mkS []) fun l s => l = .bool true ∧ s = mkS [] := by
  refine SFun.mono (SFun.vc (Q := fun l b => l = .bool true ∧ b = []) noCx_ok (n := 40) 0 rfl ?_) fun l s' ⟨b0, ⟨h1, h2⟩, h3⟩ => ⟨h1, by rw [h3, h2]⟩
  rw [same0i64_x]
  exact ⟨rfl, _, [], [], ⟨rfl, rfl⟩, by (exact ⟨by kernel_rfl, by ((repeat refine okTms_cons (by (first | exact lw_any | exact lw_int | exact lw_bool | exact lw_ptr rfl | exact lw_slo rfl | exact lw_nilp | exact lw_nils | exact lw_str | exact lw_slo_nils | exact lw_slo_sle | exact lw_sl rfl | exact lw_unb | exact lw_gptr | exact lw_noid rfl | exact lw_cap rfl (Nat.le_refl _) | exact lw_cap rfl (by omega) | assumption | exact lw_tup (by ((repeat refine lws_cons (by (first | exact lw_any | exact lw_int | exact lw_bool | exact lw_ptr rfl | exact lw_slo rfl | exact lw_nilp | exact lw_nils | exact lw_str | exact lw_slo_nils | exact lw_slo_sle | exact lw_sl rfl | exact lw_unb | exact lw_gptr | exact lw_noid rfl | exact lw_cap rfl (Nat.le_refl _) | exact lw_cap rfl (by omega) | assumption)) ?_); exact lws_nil)))) ?_); exact okTms_nil), by ((repeat refine okBlks_cons (by (first | exact lb_dead | exact lb_same (by (first | assumption | exact noIds_tab (fun _ => rfl) _ _ | exact noIds_encL (fun _ => rfl) _ | rfl)) | exact lb_ro (by (first | assumption | exact noIds_tab (fun _ => rfl) _ _ | exact noIds_encL (fun _ => rfl) _ | rfl)) | exact lb_none | exact lb_cells (by ((repeat refine lws_cons (by (first | exact lw_any | exact lw_int | exact lw_bool | exact lw_ptr rfl | exact lw_slo rfl | exact lw_nilp | exact lw_nils | exact lw_str | exact lw_slo_nils | exact lw_slo_sle | exact lw_sl rfl | exact lw_unb | exact lw_gptr | exact lw_noid rfl | exact lw_cap rfl (Nat.le_refl _) | exact lw_cap rfl (by omega) | assumption | exact lw_tup (by ((repeat refine lws_cons (by (first | exact lw_any | exact lw_int | exact lw_bool | exact lw_ptr rfl | exact lw_slo rfl | exact lw_nilp | exact lw_nils | exact lw_str | exact lw_slo_nils | exact lw_slo_sle | exact lw_sl rfl | exact lw_unb | exact lw_gptr | exact lw_noid rfl | exact lw_cap rfl (Nat.le_refl _) | exact lw_cap rfl (by omega) | assumption)) ?_); exact lws_nil)))) ?_); exact lws_nil)) (by simp) | exact lb_iter | exact lb_cap (Nat.le_refl _) (Nat.le_refl _) rfl rfl | exact lb_capn (by assumption) (by (first | assumption | exact noIds_tab (fun _ => rfl) _ _ | exact noIds_encL (fun _ => rfl) _ | rfl)) | assumption)) ?_); exact okBlks_nil)⟩)⟩
def same0i64G : Gc := fun args s => match args, s.g with
  | [.nils, .nils], [] => some ([], .bool true, s)
  | _, _ => none
theorem same0i64G_ok : GOk Go.Proofs.Try.prog 25 same0i64G := by
  intro args s bs l s' hg hb hfr
  unfold same0i64G at hg
  split at hg
  · rename_i hgl
    simp only [Option.some.injEq, Prod.mk.injEq] at hg
    obtain ⟨rfl, rfl, rfl⟩ := hg
    exact SFun.pure hfr hgl rfl rfl same0i64_ok
  · cases hg

def flatG : Gc := orG flat1G (orG flat2G flat3G)
def takesG : Gc := orG takeG (orG take1G take0G)
def cxd : Cx := cxl [(3, runG), (23, flatG), (30, takesG), (48, cloneG 2), (24, sameG), (25, orG sameIi64G same0i64G)]
theorem ld_x (na nb nc : Nat) (ax bx cx : List LV) (K : Fk) : (xfun Go.Proofs.Try.prog cxd 100 5 [.slo 0 0 na 0, .slo 1 0 nb 0, .slo 2 0 nc 0] (mkS [.ro ax, .ro bx, .ro cx]) (vF K)) = (
  bif okA ax na then
  bif xle (flN ax na) 1000000 then
  bif xeq (xln (flC ax na)) (xmul (flN ax na) 2) then
  bif xnoid (flC ax na) then
  bif okC (flC ax na) (flN ax na) then
  bif xle (takeN 96 0 [] (flN ax na) (flC ax na)) 1000000 then
  bif xeq (xln (takeC 96 0 [] (flN ax na) (flC ax na))) (xmul (takeN 96 0 [] (flN ax na) (flC ax na)) 2) then
  bif xnoid (takeC 96 0 [] (flN ax na) (flC ax na)) then
  bif xle (xadd 0 (xmul (flM ax na) 1)) (xln (flR ax na)) then
  bif xz (flM ax na) then (
   bif okA bx nb then
   bif okC (flC ax na) (flN ax na) then
   bif okFr (flR ax na) (flM ax na) then
   bif xle (flN ax na) 12 then
   bif okA cx nc then
   bif okC (flC ax na) (flN ax na) then
   bif okFr (flR ax na) (flM ax na) then
   bif xle (flN ax na) 12 then
   bif okC (flC bx nb) (flN bx nb) then
   bif okFr (flR bx nb) (flM bx nb) then
   bif xle (flN bx nb) 12 then
   bif xle (flN cx nc) 1000000 then
   bif xeq (xln (flC cx nc)) (xmul (flN cx nc) 2) then
   bif xnoid (flC cx nc) then
   bif okC (flC bx nb) (flN bx nb) then
   bif okC (flC cx nc) (flN cx nc) then
   bif xle (xadd (flN bx nb) 1) 1000000 then
   bif xle (xadd 0 (xmul (flM cx nc) 1)) (xln (flR cx nc)) then
   bif xle (xadd (flM bx nb) (flM cx nc)) 1000000 then
   bif xle (xadd 0 (xmul (flM bx nb) 1)) (xln (flR bx nb)) then
   bif xz (flM cx nc) then (
    bif xle (flN ax na) 1000000 then
    bif xeq (xln (flC ax na)) (xmul (flN ax na) 2) then
    bif xnoid (flC ax na) then
    bif okC (flC ax na) (flN ax na) then
    bif xle (takeN 96 0 [] (flN ax na) (flC ax na)) 1000000 then
    bif xeq (xln (takeC 96 0 [] (flN ax na) (flC ax na))) (xmul (takeN 96 0 [] (flN ax na) (flC ax na)) 2) then
    bif xnoid (takeC 96 0 [] (flN ax na) (flC ax na)) then
    bif okC (takeC 96 0 [] (flN ax na) (flC ax na)) (takeN 96 0 [] (flN ax na) (flC ax na)) then
    bif okC (takeC 96 0 [] (flN ax na) (flC ax na)) (takeN 96 0 [] (flN ax na) (flC ax na)) then
    bif sameW (takeN 96 0 [] (flN ax na) (flC ax na)) (takeN 96 0 [] (flN ax na) (flC ax na)) (takeC 96 0 [] (flN ax na) (flC ax na)) (takeC 96 0 [] (flN ax na) (flC ax na)) then (
     bif xle (xadd 0 (xmul (flM ax na) 1)) (xln (flR ax na)) then
     bif xz (flM ax na) then (
      bif xcm .eql (xar .sub .i64 96 ↑(flN ax na)) (xar .sub .i64 96 ↑(flN ax na)) then (
       K (.bool true) [some (.ro ax), some (.ro bx), some (.ro cx), some (.cells [.int .i64 96, .slo 7 0 (flN ax na) 0] none), some (.cells [.ptr 3 0, .slo 8 0 (flM ax na) 0] none), some (.cells [.ptr 4 0] none), some (.cells [.int .i64 96, .slo 22 0 1 0] none), some (.cells (flC ax na) (some 2)), some (.cells (flR ax na) (some 1)), some (.cells [.int .i64 96, .slo 11 0 (takeN 96 0 [] (flN ax na) (flC ax na)) 0] none), some (.cells (flC ax na) (some 2)), some (.cells (takeC 96 0 [] (flN ax na) (flC ax na)) (some 2)), some (.cells (takeC 96 0 [] (flN ax na) (flC ax na)) (some 2)), some (.cells [.int .i64 96, .slo 26 0 (takeN 96 (flN bx nb) (flC bx nb) (flN cx nc) (flC cx nc)) 0] none), some (.cells [.ptr 13 0, .slo 18 0 (flM bx nb) 0] none), some (.cells [.ptr 14 0] none), some .dead, some .dead, some (.cells (flR bx nb) (some 1)), some (.cells [.int .i64 96, .slo 23 0 (flN cx nc) 0] none), some (.cells [.ptr 19 0, .slo 24 0 (flM cx nc) 0] none), some (.cells [.ptr 20 0] none), some (.cells [.ptr 4 0, .ptr 14 0, .ptr 20 0] (some 1)), some (.cells (flC cx nc) (some 2)), some (.cells (flR cx nc) (some 1)), some (.cells (flC cx nc) (some 2)), some (.cells (takeC 96 (flN bx nb) (flC bx nb) (flN cx nc) (flC cx nc)) (some 2)), some (.cells [.int .i64 96, .slo 29 0 (takeN 96 0 [] (flN ax na) (flC ax na)) 0] none), some (.cells (flC ax na) (some 2)), some (.cells (takeC 96 0 [] (flN ax na) (flC ax na)) (some 2)), some (.cells (takeC 96 0 [] (flN ax na) (flC ax na)) (some 2))] [])
      else (
       K (.bool false) [some (.ro ax), some (.ro bx), some (.ro cx), some (.cells [.int .i64 96, .slo 7 0 (flN ax na) 0] none), some (.cells [.ptr 3 0, .slo 8 0 (flM ax na) 0] none), some (.cells [.ptr 4 0] none), some (.cells [.int .i64 96, .slo 22 0 1 0] none), some (.cells (flC ax na) (some 2)), some (.cells (flR ax na) (some 1)), some (.cells [.int .i64 96, .slo 11 0 (takeN 96 0 [] (flN ax na) (flC ax na)) 0] none), some (.cells (flC ax na) (some 2)), some (.cells (takeC 96 0 [] (flN ax na) (flC ax na)) (some 2)), some (.cells (takeC 96 0 [] (flN ax na) (flC ax na)) (some 2)), some (.cells [.int .i64 96, .slo 26 0 (takeN 96 (flN bx nb) (flC bx nb) (flN cx nc) (flC cx nc)) 0] none), some (.cells [.ptr 13 0, .slo 18 0 (flM bx nb) 0] none), some (.cells [.ptr 14 0] none), some .dead, some .dead, some (.cells (flR bx nb) (some 1)), some (.cells [.int .i64 96, .slo 23 0 (flN cx nc) 0] none), some (.cells [.ptr 19 0, .slo 24 0 (flM cx nc) 0] none), some (.cells [.ptr 20 0] none), some (.cells [.ptr 4 0, .ptr 14 0, .ptr 20 0] (some 1)), some (.cells (flC cx nc) (some 2)), some (.cells (flR cx nc) (some 1)), some (.cells (flC cx nc) (some 2)), some (.cells (takeC 96 (flN bx nb) (flC bx nb) (flN cx nc) (flC cx nc)) (some 2)), some (.cells [.int .i64 96, .slo 29 0 (takeN 96 0 [] (flN ax na) (flC ax na)) 0] none), some (.cells (flC ax na) (some 2)), some (.cells (takeC 96 0 [] (flN ax na) (flC ax na)) (some 2)), some (.cells (takeC 96 0 [] (flN ax na) (flC ax na)) (some 2))] []))
     else (
      bif xle (flM ax na) 1000000 then
      False
      else False)
     else False)
    else (
     K (.bool false) [some (.ro ax), some (.ro bx), some (.ro cx), some (.cells [.int .i64 96, .slo 7 0 (flN ax na) 0] none), some (.cells [.ptr 3 0, .slo 8 0 (flM ax na) 0] none), some (.cells [.ptr 4 0] none), some (.cells [.int .i64 96, .slo 22 0 1 0] none), some (.cells (flC ax na) (some 2)), some (.cells (flR ax na) (some 1)), some (.cells [.int .i64 96, .slo 11 0 (takeN 96 0 [] (flN ax na) (flC ax na)) 0] none), some (.cells (flC ax na) (some 2)), some (.cells (takeC 96 0 [] (flN ax na) (flC ax na)) (some 2)), some (.cells (takeC 96 0 [] (flN ax na) (flC ax na)) (some 2)), some (.cells [.int .i64 96, .slo 26 0 (takeN 96 (flN bx nb) (flC bx nb) (flN cx nc) (flC cx nc)) 0] none), some (.cells [.ptr 13 0, .slo 18 0 (flM bx nb) 0] none), some (.cells [.ptr 14 0] none), some .dead, some .dead, some (.cells (flR bx nb) (some 1)), some (.cells [.int .i64 96, .slo 23 0 (flN cx nc) 0] none), some (.cells [.ptr 19 0, .slo 24 0 (flM cx nc) 0] none), some (.cells [.ptr 20 0] none), some (.cells [.ptr 4 0, .ptr 14 0, .ptr 20 0] (some 1)), some (.cells (flC cx nc) (some 2)), some (.cells (flR cx nc) (some 1)), some (.cells (flC cx nc) (some 2)), some (.cells (takeC 96 (flN bx nb) (flC bx nb) (flN cx nc) (flC cx nc)) (some 2)), some (.cells [.int .i64 96, .slo 29 0 (takeN 96 0 [] (flN ax na) (flC ax na)) 0] none), some (.cells (flC ax na) (some 2)), some (.cells (takeC 96 0 [] (flN ax na) (flC ax na)) (some 2)), some (.cells (takeC 96 0 [] (flN ax na) (flC ax na)) (some 2))] [])
    else False
    else False
    else False
    else False
    else False
    else False
    else False
    else False
    else False)
   else (
    bif xle (flN ax na) 1000000 then
    bif xeq (xln (flC ax na)) (xmul (flN ax na) 2) then
    bif xnoid (flC ax na) then
    bif okC (flC ax na) (flN ax na) then
    bif xle (takeN 96 0 [] (flN ax na) (flC ax na)) 1000000 then
    bif xeq (xln (takeC 96 0 [] (flN ax na) (flC ax na))) (xmul (takeN 96 0 [] (flN ax na) (flC ax na)) 2) then
    bif xnoid (takeC 96 0 [] (flN ax na) (flC ax na)) then
    bif okC (takeC 96 0 [] (flN ax na) (flC ax na)) (takeN 96 0 [] (flN ax na) (flC ax na)) then
    bif okC (takeC 96 0 [] (flN ax na) (flC ax na)) (takeN 96 0 [] (flN ax na) (flC ax na)) then
    bif sameW (takeN 96 0 [] (flN ax na) (flC ax na)) (takeN 96 0 [] (flN ax na) (flC ax na)) (takeC 96 0 [] (flN ax na) (flC ax na)) (takeC 96 0 [] (flN ax na) (flC ax na)) then (
     bif xle (xadd 0 (xmul (flM ax na) 1)) (xln (flR ax na)) then
     bif xz (flM ax na) then (
      bif xcm .eql (xar .sub .i64 96 ↑(flN ax na)) (xar .sub .i64 96 ↑(flN ax na)) then (
       K (.bool true) [some (.ro ax), some (.ro bx), some (.ro cx), some (.cells [.int .i64 96, .slo 7 0 (flN ax na) 0] none), some (.cells [.ptr 3 0, .slo 8 0 (flM ax na) 0] none), some (.cells [.ptr 4 0] none), some (.cells [.int .i64 96, .slo 22 0 1 0] none), some (.cells (flC ax na) (some 2)), some (.cells (flR ax na) (some 1)), some (.cells [.int .i64 96, .slo 11 0 (takeN 96 0 [] (flN ax na) (flC ax na)) 0] none), some (.cells (flC ax na) (some 2)), some (.cells (takeC 96 0 [] (flN ax na) (flC ax na)) (some 2)), some (.cells (takeC 96 0 [] (flN ax na) (flC ax na)) (some 2)), some (.cells [.int .i64 96, .slo 26 0 (takeN 96 (flN bx nb) (flC bx nb) (flN cx nc) (flC cx nc)) 0] none), some (.cells [.ptr 13 0, .slo 27 0 (xadd (flM bx nb) (flM cx nc)) 0] none), some (.cells [.ptr 14 0] none), some .dead, some .dead, some .dead, some (.cells [.int .i64 96, .slo 23 0 (flN cx nc) 0] none), some (.cells [.ptr 19 0, .slo 24 0 (flM cx nc) 0] none), some (.cells [.ptr 20 0] none), some (.cells [.ptr 4 0, .ptr 14 0, .ptr 20 0] (some 1)), some (.cells (flC cx nc) (some 2)), some (.cells (flR cx nc) (some 1)), some (.cells (flC cx nc) (some 2)), some (.cells (takeC 96 (flN bx nb) (flC bx nb) (flN cx nc) (flC cx nc)) (some 2)), some (.cells (xcat (xcut (flR bx nb) 0 (xmul (flM bx nb) 1)) (xcut (flR cx nc) 0 (xmul (flM cx nc) 1))) (some 1)), some (.cells [.int .i64 96, .slo 30 0 (takeN 96 0 [] (flN ax na) (flC ax na)) 0] none), some (.cells (flC ax na) (some 2)), some (.cells (takeC 96 0 [] (flN ax na) (flC ax na)) (some 2)), some (.cells (takeC 96 0 [] (flN ax na) (flC ax na)) (some 2))] [])
      else (
       K (.bool false) [some (.ro ax), some (.ro bx), some (.ro cx), some (.cells [.int .i64 96, .slo 7 0 (flN ax na) 0] none), some (.cells [.ptr 3 0, .slo 8 0 (flM ax na) 0] none), some (.cells [.ptr 4 0] none), some (.cells [.int .i64 96, .slo 22 0 1 0] none), some (.cells (flC ax na) (some 2)), some (.cells (flR ax na) (some 1)), some (.cells [.int .i64 96, .slo 11 0 (takeN 96 0 [] (flN ax na) (flC ax na)) 0] none), some (.cells (flC ax na) (some 2)), some (.cells (takeC 96 0 [] (flN ax na) (flC ax na)) (some 2)), some (.cells (takeC 96 0 [] (flN ax na) (flC ax na)) (some 2)), some (.cells [.int .i64 96, .slo 26 0 (takeN 96 (flN bx nb) (flC bx nb) (flN cx nc) (flC cx nc)) 0] none), some (.cells [.ptr 13 0, .slo 27 0 (xadd (flM bx nb) (flM cx nc)) 0] none), some (.cells [.ptr 14 0] none), some .dead, some .dead, some .dead, some (.cells [.int .i64 96, .slo 23 0 (flN cx nc) 0] none), some (.cells [.ptr 19 0, .slo 24 0 (flM cx nc) 0] none), some (.cells [.ptr 20 0] none), some (.cells [.ptr 4 0, .ptr 14 0, .ptr 20 0] (some 1)), some (.cells (flC cx nc) (some 2)), some (.cells (flR cx nc) (some 1)), some (.cells (flC cx nc) (some 2)), some (.cells (takeC 96 (flN bx nb) (flC bx nb) (flN cx nc) (flC cx nc)) (some 2)), some (.cells (xcat (xcut (flR bx nb) 0 (xmul (flM bx nb) 1)) (xcut (flR cx nc) 0 (xmul (flM cx nc) 1))) (some 1)), some (.cells [.int .i64 96, .slo 30 0 (takeN 96 0 [] (flN ax na) (flC ax na)) 0] none), some (.cells (flC ax na) (some 2)), some (.cells (takeC 96 0 [] (flN ax na) (flC ax na)) (some 2)), some (.cells (takeC 96 0 [] (flN ax na) (flC ax na)) (some 2))] []))
     else (
      bif xle (flM ax na) 1000000 then
      False
      else False)
     else False)
    else (
     K (.bool false) [some (.ro ax), some (.ro bx), some (.ro cx), some (.cells [.int .i64 96, .slo 7 0 (flN ax na) 0] none), some (.cells [.ptr 3 0, .slo 8 0 (flM ax na) 0] none), some (.cells [.ptr 4 0] none), some (.cells [.int .i64 96, .slo 22 0 1 0] none), some (.cells (flC ax na) (some 2)), some (.cells (flR ax na) (some 1)), some (.cells [.int .i64 96, .slo 11 0 (takeN 96 0 [] (flN ax na) (flC ax na)) 0] none), some (.cells (flC ax na) (some 2)), some (.cells (takeC 96 0 [] (flN ax na) (flC ax na)) (some 2)), some (.cells (takeC 96 0 [] (flN ax na) (flC ax na)) (some 2)), some (.cells [.int .i64 96, .slo 26 0 (takeN 96 (flN bx nb) (flC bx nb) (flN cx nc) (flC cx nc)) 0] none), some (.cells [.ptr 13 0, .slo 27 0 (xadd (flM bx nb) (flM cx nc)) 0] none), some (.cells [.ptr 14 0] none), some .dead, some .dead, some .dead, some (.cells [.int .i64 96, .slo 23 0 (flN cx nc) 0] none), some (.cells [.ptr 19 0, .slo 24 0 (flM cx nc) 0] none), some (.cells [.ptr 20 0] none), some (.cells [.ptr 4 0, .ptr 14 0, .ptr 20 0] (some 1)), some (.cells (flC cx nc) (some 2)), some (.cells (flR cx nc) (some 1)), some (.cells (flC cx nc) (some 2)), some (.cells (takeC 96 (flN bx nb) (flC bx nb) (flN cx nc) (flC cx nc)) (some 2)), some (.cells (xcat (xcut (flR bx nb) 0 (xmul (flM bx nb) 1)) (xcut (flR cx nc) 0 (xmul (flM cx nc) 1))) (some 1)), some (.cells [.int .i64 96, .slo 30 0 (takeN 96 0 [] (flN ax na) (flC ax na)) 0] none), some (.cells (flC ax na) (some 2)), some (.cells (takeC 96 0 [] (flN ax na) (flC ax na)) (some 2)), some (.cells (takeC 96 0 [] (flN ax na) (flC ax na)) (some 2))] [])
    else False
    else False
    else False
    else False
    else False
    else False
    else False
    else False
    else False)
   else False
   else False
   else False
   else False
   else False
   else False
   else False
   else False
   else False
   else False
   else False
   else False
   else False
   else False
   else False
   else False
   else False
   else False
   else False
   else False)
  else (
   bif xle (flM ax na) 1000000 then
   bif okA bx nb then
   bif okC (flC ax na) (flN ax na) then
   bif okFr (flR ax na) (flM ax na) then
   bif xle (flN ax na) 12 then
   bif okA cx nc then
   bif okC (flC ax na) (flN ax na) then
   bif okFr (flR ax na) (flM ax na) then
   bif xle (flN ax na) 12 then
   bif okC (flC bx nb) (flN bx nb) then
   bif okFr (flR bx nb) (flM bx nb) then
   bif xle (flN bx nb) 12 then
   bif xle (flN cx nc) 1000000 then
   bif xeq (xln (flC cx nc)) (xmul (flN cx nc) 2) then
   bif xnoid (flC cx nc) then
   bif okC (flC bx nb) (flN bx nb) then
   bif okC (flC cx nc) (flN cx nc) then
   bif xle (xadd (flN bx nb) 1) 1000000 then
   bif xle (xadd 0 (xmul (flM cx nc) 1)) (xln (flR cx nc)) then
   bif xle (xadd (flM bx nb) (flM cx nc)) 1000000 then
   bif xle (xadd 0 (xmul (flM bx nb) 1)) (xln (flR bx nb)) then
   bif xz (flM cx nc) then (
    bif xle (flN ax na) 1000000 then
    bif xeq (xln (flC ax na)) (xmul (flN ax na) 2) then
    bif xnoid (flC ax na) then
    bif okC (flC ax na) (flN ax na) then
    bif xle (takeN 96 0 [] (flN ax na) (flC ax na)) 1000000 then
    bif xeq (xln (takeC 96 0 [] (flN ax na) (flC ax na))) (xmul (takeN 96 0 [] (flN ax na) (flC ax na)) 2) then
    bif xnoid (takeC 96 0 [] (flN ax na) (flC ax na)) then
    bif okC (takeC 96 0 [] (flN ax na) (flC ax na)) (takeN 96 0 [] (flN ax na) (flC ax na)) then
    bif okC (takeC 96 0 [] (flN ax na) (flC ax na)) (takeN 96 0 [] (flN ax na) (flC ax na)) then
    bif sameW (takeN 96 0 [] (flN ax na) (flC ax na)) (takeN 96 0 [] (flN ax na) (flC ax na)) (takeC 96 0 [] (flN ax na) (flC ax na)) (takeC 96 0 [] (flN ax na) (flC ax na)) then (
     bif xle (xadd 0 (xmul (flM ax na) 1)) (xln (flR ax na)) then
     bif xz (flM ax na) then (
      False)
     else (
      bif xle (flM ax na) 1000000 then
      bif okIi64 (xcut (flR ax na) 0 (xmul (flM ax na) 1)) (flM ax na) then
      bif okIi64 (xcut (flR ax na) 0 (xmul (flM ax na) 1)) (flM ax na) then
      bif sameIi64 (flM ax na) (flM ax na) (xcut (flR ax na) 0 (xmul (flM ax na) 1)) (xcut (flR ax na) 0 (xmul (flM ax na) 1)) then (
       bif xcm .eql (xar .sub .i64 96 ↑(flN ax na)) (xar .sub .i64 96 ↑(flN ax na)) then (
        K (.bool true) [some (.ro ax), some (.ro bx), some (.ro cx), some (.cells [.int .i64 96, .slo 7 0 (flN ax na) 0] none), some (.cells [.ptr 3 0, .slo 8 0 (flM ax na) 0] none), some (.cells [.ptr 4 0] none), some (.cells [.int .i64 96, .slo 23 0 1 0] none), some (.cells (flC ax na) (some 2)), some (.cells (flR ax na) (some 1)), some (.cells [.int .i64 96, .slo 11 0 (takeN 96 0 [] (flN ax na) (flC ax na)) 0] none), some (.cells (flC ax na) (some 2)), some (.cells (takeC 96 0 [] (flN ax na) (flC ax na)) (some 2)), some (.cells (takeC 96 0 [] (flN ax na) (flC ax na)) (some 2)), some (.cells (xcut (flR ax na) 0 (xmul (flM ax na) 1)) (some 1)), some (.cells [.int .i64 96, .slo 27 0 (takeN 96 (flN bx nb) (flC bx nb) (flN cx nc) (flC cx nc)) 0] none), some (.cells [.ptr 14 0, .slo 19 0 (flM bx nb) 0] none), some (.cells [.ptr 15 0] none), some .dead, some .dead, some (.cells (flR bx nb) (some 1)), some (.cells [.int .i64 96, .slo 24 0 (flN cx nc) 0] none), some (.cells [.ptr 20 0, .slo 25 0 (flM cx nc) 0] none), some (.cells [.ptr 21 0] none), some (.cells [.ptr 4 0, .ptr 15 0, .ptr 21 0] (some 1)), some (.cells (flC cx nc) (some 2)), some (.cells (flR cx nc) (some 1)), some (.cells (flC cx nc) (some 2)), some (.cells (takeC 96 (flN bx nb) (flC bx nb) (flN cx nc) (flC cx nc)) (some 2)), some (.cells [.int .i64 96, .slo 30 0 (takeN 96 0 [] (flN ax na) (flC ax na)) 0] none), some (.cells (flC ax na) (some 2)), some (.cells (takeC 96 0 [] (flN ax na) (flC ax na)) (some 2)), some (.cells (takeC 96 0 [] (flN ax na) (flC ax na)) (some 2)), some (.cells (xcut (flR ax na) 0 (xmul (flM ax na) 1)) (some 1))] [])
       else (
        K (.bool false) [some (.ro ax), some (.ro bx), some (.ro cx), some (.cells [.int .i64 96, .slo 7 0 (flN ax na) 0] none), some (.cells [.ptr 3 0, .slo 8 0 (flM ax na) 0] none), some (.cells [.ptr 4 0] none), some (.cells [.int .i64 96, .slo 23 0 1 0] none), some (.cells (flC ax na) (some 2)), some (.cells (flR ax na) (some 1)), some (.cells [.int .i64 96, .slo 11 0 (takeN 96 0 [] (flN ax na) (flC ax na)) 0] none), some (.cells (flC ax na) (some 2)), some (.cells (takeC 96 0 [] (flN ax na) (flC ax na)) (some 2)), some (.cells (takeC 96 0 [] (flN ax na) (flC ax na)) (some 2)), some (.cells (xcut (flR ax na) 0 (xmul (flM ax na) 1)) (some 1)), some (.cells [.int .i64 96, .slo 27 0 (takeN 96 (flN bx nb) (flC bx nb) (flN cx nc) (flC cx nc)) 0] none), some (.cells [.ptr 14 0, .slo 19 0 (flM bx nb) 0] none), some (.cells [.ptr 15 0] none), some .dead, some .dead, some (.cells (flR bx nb) (some 1)), some (.cells [.int .i64 96, .slo 24 0 (flN cx nc) 0] none), some (.cells [.ptr 20 0, .slo 25 0 (flM cx nc) 0] none), some (.cells [.ptr 21 0] none), some (.cells [.ptr 4 0, .ptr 15 0, .ptr 21 0] (some 1)), some (.cells (flC cx nc) (some 2)), some (.cells (flR cx nc) (some 1)), some (.cells (flC cx nc) (some 2)), some (.cells (takeC 96 (flN bx nb) (flC bx nb) (flN cx nc) (flC cx nc)) (some 2)), some (.cells [.int .i64 96, .slo 30 0 (takeN 96 0 [] (flN ax na) (flC ax na)) 0] none), some (.cells (flC ax na) (some 2)), some (.cells (takeC 96 0 [] (flN ax na) (flC ax na)) (some 2)), some (.cells (takeC 96 0 [] (flN ax na) (flC ax na)) (some 2)), some (.cells (xcut (flR ax na) 0 (xmul (flM ax na) 1)) (some 1))] []))
      else (
       K (.bool false) [some (.ro ax), some (.ro bx), some (.ro cx), some (.cells [.int .i64 96, .slo 7 0 (flN ax na) 0] none), some (.cells [.ptr 3 0, .slo 8 0 (flM ax na) 0] none), some (.cells [.ptr 4 0] none), some (.cells [.int .i64 96, .slo 23 0 1 0] none), some (.cells (flC ax na) (some 2)), some (.cells (flR ax na) (some 1)), some (.cells [.int .i64 96, .slo 11 0 (takeN 96 0 [] (flN ax na) (flC ax na)) 0] none), some (.cells (flC ax na) (some 2)), some (.cells (takeC 96 0 [] (flN ax na) (flC ax na)) (some 2)), some (.cells (takeC 96 0 [] (flN ax na) (flC ax na)) (some 2)), some (.cells (xcut (flR ax na) 0 (xmul (flM ax na) 1)) (some 1)), some (.cells [.int .i64 96, .slo 27 0 (takeN 96 (flN bx nb) (flC bx nb) (flN cx nc) (flC cx nc)) 0] none), some (.cells [.ptr 14 0, .slo 19 0 (flM bx nb) 0] none), some (.cells [.ptr 15 0] none), some .dead, some .dead, some (.cells (flR bx nb) (some 1)), some (.cells [.int .i64 96, .slo 24 0 (flN cx nc) 0] none), some (.cells [.ptr 20 0, .slo 25 0 (flM cx nc) 0] none), some (.cells [.ptr 21 0] none), some (.cells [.ptr 4 0, .ptr 15 0, .ptr 21 0] (some 1)), some (.cells (flC cx nc) (some 2)), some (.cells (flR cx nc) (some 1)), some (.cells (flC cx nc) (some 2)), some (.cells (takeC 96 (flN bx nb) (flC bx nb) (flN cx nc) (flC cx nc)) (some 2)), some (.cells [.int .i64 96, .slo 30 0 (takeN 96 0 [] (flN ax na) (flC ax na)) 0] none), some (.cells (flC ax na) (some 2)), some (.cells (takeC 96 0 [] (flN ax na) (flC ax na)) (some 2)), some (.cells (takeC 96 0 [] (flN ax na) (flC ax na)) (some 2)), some (.cells (xcut (flR ax na) 0 (xmul (flM ax na) 1)) (some 1))] [])
      else False
      else False
      else False)
     else False)
    else (
     K (.bool false) [some (.ro ax), some (.ro bx), some (.ro cx), some (.cells [.int .i64 96, .slo 7 0 (flN ax na) 0] none), some (.cells [.ptr 3 0, .slo 8 0 (flM ax na) 0] none), some (.cells [.ptr 4 0] none), some (.cells [.int .i64 96, .slo 23 0 1 0] none), some (.cells (flC ax na) (some 2)), some (.cells (flR ax na) (some 1)), some (.cells [.int .i64 96, .slo 11 0 (takeN 96 0 [] (flN ax na) (flC ax na)) 0] none), some (.cells (flC ax na) (some 2)), some (.cells (takeC 96 0 [] (flN ax na) (flC ax na)) (some 2)), some (.cells (takeC 96 0 [] (flN ax na) (flC ax na)) (some 2)), some (.cells (xcut (flR ax na) 0 (xmul (flM ax na) 1)) (some 1)), some (.cells [.int .i64 96, .slo 27 0 (takeN 96 (flN bx nb) (flC bx nb) (flN cx nc) (flC cx nc)) 0] none), some (.cells [.ptr 14 0, .slo 19 0 (flM bx nb) 0] none), some (.cells [.ptr 15 0] none), some .dead, some .dead, some (.cells (flR bx nb) (some 1)), some (.cells [.int .i64 96, .slo 24 0 (flN cx nc) 0] none), some (.cells [.ptr 20 0, .slo 25 0 (flM cx nc) 0] none), some (.cells [.ptr 21 0] none), some (.cells [.ptr 4 0, .ptr 15 0, .ptr 21 0] (some 1)), some (.cells (flC cx nc) (some 2)), some (.cells (flR cx nc) (some 1)), some (.cells (flC cx nc) (some 2)), some (.cells (takeC 96 (flN bx nb) (flC bx nb) (flN cx nc) (flC cx nc)) (some 2)), some (.cells [.int .i64 96, .slo 30 0 (takeN 96 0 [] (flN ax na) (flC ax na)) 0] none), some (.cells (flC ax na) (some 2)), some (.cells (takeC 96 0 [] (flN ax na) (flC ax na)) (some 2)), some (.cells (takeC 96 0 [] (flN ax na) (flC ax na)) (some 2))] [])
    else False
    else False
    else False
    else False
    else False
    else False
    else False
    else False
    else False)
   else (
    bif xle (flN ax na) 1000000 then
    bif xeq (xln (flC ax na)) (xmul (flN ax na) 2) then
    bif xnoid (flC ax na) then
    bif okC (flC ax na) (flN ax na) then
    bif xle (takeN 96 0 [] (flN ax na) (flC ax na)) 1000000 then
    bif xeq (xln (takeC 96 0 [] (flN ax na) (flC ax na))) (xmul (takeN 96 0 [] (flN ax na) (flC ax na)) 2) then
    bif xnoid (takeC 96 0 [] (flN ax na) (flC ax na)) then
    bif okC (takeC 96 0 [] (flN ax na) (flC ax na)) (takeN 96 0 [] (flN ax na) (flC ax na)) then
    bif okC (takeC 96 0 [] (flN ax na) (flC ax na)) (takeN 96 0 [] (flN ax na) (flC ax na)) then
    bif sameW (takeN 96 0 [] (flN ax na) (flC ax na)) (takeN 96 0 [] (flN ax na) (flC ax na)) (takeC 96 0 [] (flN ax na) (flC ax na)) (takeC 96 0 [] (flN ax na) (flC ax na)) then (
     bif xle (xadd 0 (xmul (flM ax na) 1)) (xln (flR ax na)) then
     bif xz (flM ax na) then (
      False)
     else (
      bif xle (flM ax na) 1000000 then
      bif okIi64 (xcut (flR ax na) 0 (xmul (flM ax na) 1)) (flM ax na) then
      bif okIi64 (xcut (flR ax na) 0 (xmul (flM ax na) 1)) (flM ax na) then
      bif sameIi64 (flM ax na) (flM ax na) (xcut (flR ax na) 0 (xmul (flM ax na) 1)) (xcut (flR ax na) 0 (xmul (flM ax na) 1)) then (
       bif xcm .eql (xar .sub .i64 96 ↑(flN ax na)) (xar .sub .i64 96 ↑(flN ax na)) then (
        K (.bool true) [some (.ro ax), some (.ro bx), some (.ro cx), some (.cells [.int .i64 96, .slo 7 0 (flN ax na) 0] none), some (.cells [.ptr 3 0, .slo 8 0 (flM ax na) 0] none), some (.cells [.ptr 4 0] none), some (.cells [.int .i64 96, .slo 23 0 1 0] none), some (.cells (flC ax na) (some 2)), some (.cells (flR ax na) (some 1)), some (.cells [.int .i64 96, .slo 11 0 (takeN 96 0 [] (flN ax na) (flC ax na)) 0] none), some (.cells (flC ax na) (some 2)), some (.cells (takeC 96 0 [] (flN ax na) (flC ax na)) (some 2)), some (.cells (takeC 96 0 [] (flN ax na) (flC ax na)) (some 2)), some (.cells (xcut (flR ax na) 0 (xmul (flM ax na) 1)) (some 1)), some (.cells [.int .i64 96, .slo 27 0 (takeN 96 (flN bx nb) (flC bx nb) (flN cx nc) (flC cx nc)) 0] none), some (.cells [.ptr 14 0, .slo 28 0 (xadd (flM bx nb) (flM cx nc)) 0] none), some (.cells [.ptr 15 0] none), some .dead, some .dead, some .dead, some (.cells [.int .i64 96, .slo 24 0 (flN cx nc) 0] none), some (.cells [.ptr 20 0, .slo 25 0 (flM cx nc) 0] none), some (.cells [.ptr 21 0] none), some (.cells [.ptr 4 0, .ptr 15 0, .ptr 21 0] (some 1)), some (.cells (flC cx nc) (some 2)), some (.cells (flR cx nc) (some 1)), some (.cells (flC cx nc) (some 2)), some (.cells (takeC 96 (flN bx nb) (flC bx nb) (flN cx nc) (flC cx nc)) (some 2)), some (.cells (xcat (xcut (flR bx nb) 0 (xmul (flM bx nb) 1)) (xcut (flR cx nc) 0 (xmul (flM cx nc) 1))) (some 1)), some (.cells [.int .i64 96, .slo 31 0 (takeN 96 0 [] (flN ax na) (flC ax na)) 0] none), some (.cells (flC ax na) (some 2)), some (.cells (takeC 96 0 [] (flN ax na) (flC ax na)) (some 2)), some (.cells (takeC 96 0 [] (flN ax na) (flC ax na)) (some 2)), some (.cells (xcut (flR ax na) 0 (xmul (flM ax na) 1)) (some 1))] [])
       else (
        K (.bool false) [some (.ro ax), some (.ro bx), some (.ro cx), some (.cells [.int .i64 96, .slo 7 0 (flN ax na) 0] none), some (.cells [.ptr 3 0, .slo 8 0 (flM ax na) 0] none), some (.cells [.ptr 4 0] none), some (.cells [.int .i64 96, .slo 23 0 1 0] none), some (.cells (flC ax na) (some 2)), some (.cells (flR ax na) (some 1)), some (.cells [.int .i64 96, .slo 11 0 (takeN 96 0 [] (flN ax na) (flC ax na)) 0] none), some (.cells (flC ax na) (some 2)), some (.cells (takeC 96 0 [] (flN ax na) (flC ax na)) (some 2)), some (.cells (takeC 96 0 [] (flN ax na) (flC ax na)) (some 2)), some (.cells (xcut (flR ax na) 0 (xmul (flM ax na) 1)) (some 1)), some (.cells [.int .i64 96, .slo 27 0 (takeN 96 (flN bx nb) (flC bx nb) (flN cx nc) (flC cx nc)) 0] none), some (.cells [.ptr 14 0, .slo 28 0 (xadd (flM bx nb) (flM cx nc)) 0] none), some (.cells [.ptr 15 0] none), some .dead, some .dead, some .dead, some (.cells [.int .i64 96, .slo 24 0 (flN cx nc) 0] none), some (.cells [.ptr 20 0, .slo 25 0 (flM cx nc) 0] none), some (.cells [.ptr 21 0] none), some (.cells [.ptr 4 0, .ptr 15 0, .ptr 21 0] (some 1)), some (.cells (flC cx nc) (some 2)), some (.cells (flR cx nc) (some 1)), some (.cells (flC cx nc) (some 2)), some (.cells (takeC 96 (flN bx nb) (flC bx nb) (flN cx nc) (flC cx nc)) (some 2)), some (.cells (xcat (xcut (flR bx nb) 0 (xmul (flM bx nb) 1)) (xcut (flR cx nc) 0 (xmul (flM cx nc) 1))) (some 1)), some (.cells [.int .i64 96, .slo 31 0 (takeN 96 0 [] (flN ax na) (flC ax na)) 0] none), some (.cells (flC ax na) (some 2)), some (.cells (takeC 96 0 [] (flN ax na) (flC ax na)) (some 2)), some (.cells (takeC 96 0 [] (flN ax na) (flC ax na)) (some 2)), some (.cells (xcut (flR ax na) 0 (xmul (flM ax na) 1)) (some 1))] []))
      else (
       K (.bool false) [some (.ro ax), some (.ro bx), some (.ro cx), some (.cells [.int .i64 96, .slo 7 0 (flN ax na) 0] none), some (.cells [.ptr 3 0, .slo 8 0 (flM ax na) 0] none), some (.cells [.ptr 4 0] none), some (.cells [.int .i64 96, .slo 23 0 1 0] none), some (.cells (flC ax na) (some 2)), some (.cells (flR ax na) (some 1)), some (.cells [.int .i64 96, .slo 11 0 (takeN 96 0 [] (flN ax na) (flC ax na)) 0] none), some (.cells (flC ax na) (some 2)), some (.cells (takeC 96 0 [] (flN ax na) (flC ax na)) (some 2)), some (.cells (takeC 96 0 [] (flN ax na) (flC ax na)) (some 2)), some (.cells (xcut (flR ax na) 0 (xmul (flM ax na) 1)) (some 1)), some (.cells [.int .i64 96, .slo 27 0 (takeN 96 (flN bx nb) (flC bx nb) (flN cx nc) (flC cx nc)) 0] none), some (.cells [.ptr 14 0, .slo 28 0 (xadd (flM bx nb) (flM cx nc)) 0] none), some (.cells [.ptr 15 0] none), some .dead, some .dead, some .dead, some (.cells [.int .i64 96, .slo 24 0 (flN cx nc) 0] none), some (.cells [.ptr 20 0, .slo 25 0 (flM cx nc) 0] none), some (.cells [.ptr 21 0] none), some (.cells [.ptr 4 0, .ptr 15 0, .ptr 21 0] (some 1)), some (.cells (flC cx nc) (some 2)), some (.cells (flR cx nc) (some 1)), some (.cells (flC cx nc) (some 2)), some (.cells (takeC 96 (flN bx nb) (flC bx nb) (flN cx nc) (flC cx nc)) (some 2)), some (.cells (xcat (xcut (flR bx nb) 0 (xmul (flM bx nb) 1)) (xcut (flR cx nc) 0 (xmul (flM cx nc) 1))) (some 1)), some (.cells [.int .i64 96, .slo 31 0 (takeN 96 0 [] (flN ax na) (flC ax na)) 0] none), some (.cells (flC ax na) (some 2)), some (.cells (takeC 96 0 [] (flN ax na) (flC ax na)) (some 2)), some (.cells (takeC 96 0 [] (flN ax na) (flC ax na)) (some 2)), some (.cells (xcut (flR ax na) 0 (xmul (flM ax na) 1)) (some 1))] [])
      else False
      else False
      else False)
     else False)
    else (
     K (.bool false) [some (.ro ax), some (.ro bx), some (.ro cx), some (.cells [.int .i64 96, .slo 7 0 (flN ax na) 0] none), some (.cells [.ptr 3 0, .slo 8 0 (flM ax na) 0] none), some (.cells [.ptr 4 0] none), some (.cells [.int .i64 96, .slo 23 0 1 0] none), some (.cells (flC ax na) (some 2)), some (.cells (flR ax na) (some 1)), some (.cells [.int .i64 96, .slo 11 0 (takeN 96 0 [] (flN ax na) (flC ax na)) 0] none), some (.cells (flC ax na) (some 2)), some (.cells (takeC 96 0 [] (flN ax na) (flC ax na)) (some 2)), some (.cells (takeC 96 0 [] (flN ax na) (flC ax na)) (some 2)), some (.cells (xcut (flR ax na) 0 (xmul (flM ax na) 1)) (some 1)), some (.cells [.int .i64 96, .slo 27 0 (takeN 96 (flN bx nb) (flC bx nb) (flN cx nc) (flC cx nc)) 0] none), some (.cells [.ptr 14 0, .slo 28 0 (xadd (flM bx nb) (flM cx nc)) 0] none), some (.cells [.ptr 15 0] none), some .dead, some .dead, some .dead, some (.cells [.int .i64 96, .slo 24 0 (flN cx nc) 0] none), some (.cells [.ptr 20 0, .slo 25 0 (flM cx nc) 0] none), some (.cells [.ptr 21 0] none), some (.cells [.ptr 4 0, .ptr 15 0, .ptr 21 0] (some 1)), some (.cells (flC cx nc) (some 2)), some (.cells (flR cx nc) (some 1)), some (.cells (flC cx nc) (some 2)), some (.cells (takeC 96 (flN bx nb) (flC bx nb) (flN cx nc) (flC cx nc)) (some 2)), some (.cells (xcat (xcut (flR bx nb) 0 (xmul (flM bx nb) 1)) (xcut (flR cx nc) 0 (xmul (flM cx nc) 1))) (some 1)), some (.cells [.int .i64 96, .slo 31 0 (takeN 96 0 [] (flN ax na) (flC ax na)) 0] none), some (.cells (flC ax na) (some 2)), some (.cells (takeC 96 0 [] (flN ax na) (flC ax na)) (some 2)), some (.cells (takeC 96 0 [] (flN ax na) (flC ax na)) (some 2))] [])
    else False
    else False
    else False
    else False
    else False
    else False
    else False
    else False
    else False)
   else False
   else False
   else False
   else False
   else False
   else False
   else False
   else False
   else False
   else False
   else False
   else False
   else False
   else False
   else False
   else False
   else False
   else False
   else False
   else False
   else False)
  else False
  else False
  else False
  else False
  else False
  else False
  else False
  else False
  else False) := by kernel_rfl
end
end Go.Lev
