/- ViewReads (P10.2): for any place, any words, whatever is known, written, kept, dropped the law returns true; what was there stays as it was. No condition. -/
import Derived.Test.YtphacbdmhbbilaaCW1
import Derived.Test.YtphacbdmhbbilaaLc
import Derived.Test.YtphacbdmhbbilaaChecked
import Derived.KernelRfl

namespace Go.Lev
open Go.RowKit
set_option linter.unusedVariables false
set_option linter.unusedSimpArgs false
set_option maxRecDepth 100000
noncomputable section
/-! rows of integers -/
def decIi64 : List LV → List Int
  | .int _ a :: r => a :: decIi64 r
  | _ => []
theorem decIi64_enc : ∀ xs, decIi64 (encL (cI .i64) xs) = xs
  | [] => rfl
  | x :: r => by simp [encL, cI, decIi64, decIi64_enc r]
def okIi64 (cs : List LV) (n : Nat) : Bool := @decide (cs = encL (cI .i64) (decIi64 cs) ∧ (decIi64 cs).length = n ∧ n ≤ 9223372036854775807) (Classical.propDecidable _)

theorem okIi64_iff {cs : List LV} {n : Nat} : okIi64 cs n = true ↔ ∃ xs, cs = encL (cI .i64) xs ∧ xs.length = n ∧ n ≤ 9223372036854775807 := by
  simp only [okIi64, decide_eq_true_eq]
  exact ⟨fun h => ⟨_, h⟩, fun ⟨xs, h1, h2⟩ => by subst h1; rw [decIi64_enc]; exact ⟨rfl, h2⟩⟩
theorem okIi64_tab {n : Nat} (g : Nat → Int) (h : n ≤ 9223372036854775807) : okIi64 (tab (cI .i64) n g) n = true := okIi64_iff.2 ⟨_, rfl, by simp, h⟩
theorem okIi64_enc {xs : List Int} (h : xs.length ≤ 9223372036854775807) : okIi64 (encL (cI .i64) xs) xs.length = true := okIi64_iff.2 ⟨_, rfl, rfl, h⟩
theorem encIi64_len (xs : List Int) : (encL (cI .i64) xs).length = xs.length := by rw [encL_length (cI_len .i64)]; omega
theorem encIi64_push (xs : List Int) (y : Int) : xcat (xcut (encL (cI .i64) xs) 0 xs.length) [.int .i64 y] = encL (cI .i64) (xs ++ [y]) := by
  rw [xcut_all (by rw [encIi64_len]; omega), encL_append]; rfl
theorem encIi64_nth {xs : List Int} {i : Nat} (h : i < xs.length) : nthD (encL (cI .i64) xs) i = .int .i64 xs[i] := by
  have := encL_nth (cI_len .i64) (j := 0) h (by omega)
  simp only [Nat.mul_one, Nat.add_zero] at this
  exact this
theorem noIds_Ii64 (xs : List Int) : noIds (encL (cI .i64) xs) = true := noIds_encL (fun _ => rfl) xs
theorem xnoid_Ii64 (xs : List Int) : xnoid (encL (cI .i64) xs) = true := xnoid_encL (fun _ => rfl) xs

theorem runs10 : isTrue (lrun Go.Proofs.Try.prog 4000 3 []) = true := by kernel_rfl
theorem cxv_ok : CtrOk Go.Proofs.Try.prog (ctrOf cxv) := cxl_ok ⟨runG_ok runs10, trivial⟩
theorem nt_lss (a b : Int) : xnot (xcm .lss a b) = xcm .geq a b := by rw [wd_not, xcm_lss, xcm_geq, Bool.eq_iff_iff]; simp
theorem cm_self (x : Int) : xcm .eql x x = true := t_eql rfl
theorem nm_self (x : Int) : xcm .neq x x = false := by rw [xcm_neq]; simp
def zs : List Int := List.replicate 64 0
theorem zs_enc : ([.int .i64 0, .int .i64 0, .int .i64 0, .int .i64 0, .int .i64 0, .int .i64 0, .int .i64 0, .int .i64 0, .int .i64 0, .int .i64 0, .int .i64 0, .int .i64 0, .int .i64 0, .int .i64 0, .int .i64 0, .int .i64 0, .int .i64 0, .int .i64 0, .int .i64 0, .int .i64 0, .int .i64 0, .int .i64 0, .int .i64 0, .int .i64 0, .int .i64 0, .int .i64 0, .int .i64 0, .int .i64 0, .int .i64 0, .int .i64 0, .int .i64 0, .int .i64 0, .int .i64 0, .int .i64 0, .int .i64 0, .int .i64 0, .int .i64 0, .int .i64 0, .int .i64 0, .int .i64 0, .int .i64 0, .int .i64 0, .int .i64 0, .int .i64 0, .int .i64 0, .int .i64 0, .int .i64 0, .int .i64 0, .int .i64 0, .int .i64 0, .int .i64 0, .int .i64 0, .int .i64 0, .int .i64 0, .int .i64 0, .int .i64 0, .int .i64 0, .int .i64 0, .int .i64 0, .int .i64 0, .int .i64 0, .int .i64 0, .int .i64 0, .int .i64 0] : List LV) = encL (cI .i64) zs := by kernel_rfl
theorem zs_nth {k : Nat} (h : k < 64) : nthD (encL (cI .i64) zs) k = .int .i64 0 := by
  rw [encIi64_nth (by simpa [zs] using h)]; simp only [zs, List.getElem_replicate]
theorem zs_set {k : Nat} (h : k < 64) : xlay (encL (cI .i64) zs) k [.int .i64 1] = encL (cI .i64) (zs.set k 1) := by
  have := encL_set (cI_len .i64) zs k 1 (by simpa [zs] using h)
  rw [Nat.mul_one] at this
  exact this
theorem zs_set_nth {k : Nat} (h : k < 64) : nthD (encL (cI .i64) (zs.set k 1)) k = .int .i64 1 := by
  rw [encIi64_nth (by simpa [zs] using h)]; simp
def vspec (b1 b2 b4 b8 : Bool) (kn a b : Int) : Int × Int := bif b4 && !b8 then (b, 0) else bif b2 then (a, 0) else bif b1 then (kn, 0) else (0, 11)
abbrev hb (how m : Int) : Bool := xcm .eql (xar .and .u8 how m) m
abbrev vsp (how kn a b : Int) : Int × Int := vspec (hb how 1) (hb how 2) (hb how 4) (hb how 8) kn a b
theorem b12_all : ((List.range 256).all fun h => (xcm .eql (xar .and .u8 (h : Int) 12) 4) == (hb (h : Int) 4 && !hb (h : Int) 8)) = true := by kernel_rfl
theorem b12 {how : Int} (h : 0 ≤ how ∧ how ≤ 255) : xcm .eql (xar .and .u8 how 12) 4 = (hb how 4 && !hb how 8) := by
  have := List.all_eq_true.1 b12_all how.toNat (List.mem_range.2 (by omega))
  rw [show ((how.toNat : Nat) : Int) = how by omega] at this
  exact eq_of_beq this
theorem leafV {kn a b how x f x' f' : Int} {k : Nat} {bs : List (Option LB)} {Φ : Pk} {so : List LV} (h : x = x' ∧ f = f') : toK (σ := Unit) 0 114 vrL [] (fun _ => vrU kn a b how x' f') (fun _ => []) Φ .normal [.any, .int .u64 kn, .int .u64 a, .int .u64 b, .int .u8 how, .any, .ptr 5 0, .int .i64 (k : Int), .int .u64 x, .int .i64 f] bs [] := by
  obtain ⟨rfl, rfl⟩ := h
  exact ⟨rfl, (), [], by (exact ⟨by kernel_rfl, by ((repeat refine okTms_cons (by (first | exact lw_any | exact lw_int | exact lw_bool | exact lw_ptr rfl | exact lw_slo rfl | exact lw_nilp | exact lw_nils | exact lw_str | exact lw_slo_nils | exact lw_slo_sle | exact lw_sl rfl | exact lw_unb | exact lw_gptr | exact lw_noid rfl | exact lw_cap rfl (Nat.le_refl _) | exact lw_cap rfl (by omega) | assumption | exact lw_tup (by ((repeat refine lws_cons (by (first | exact lw_any | exact lw_int | exact lw_bool | exact lw_ptr rfl | exact lw_slo rfl | exact lw_nilp | exact lw_nils | exact lw_str | exact lw_slo_nils | exact lw_slo_sle | exact lw_sl rfl | exact lw_unb | exact lw_gptr | exact lw_noid rfl | exact lw_cap rfl (Nat.le_refl _) | exact lw_cap rfl (by omega) | assumption)) ?_); exact lws_nil)))) ?_); exact okTms_nil), by ((repeat refine okBlks_cons (by (first | exact lb_dead | exact lb_same (by (first | assumption | exact noIds_tab (fun _ => rfl) _ _ | exact noIds_encL (fun _ => rfl) _ | rfl)) | exact lb_ro (by (first | assumption | exact noIds_tab (fun _ => rfl) _ _ | exact noIds_encL (fun _ => rfl) _ | rfl)) | exact lb_none | exact lb_cells (by ((repeat refine lws_cons (by (first | exact lw_any | exact lw_int | exact lw_bool | exact lw_ptr rfl | exact lw_slo rfl | exact lw_nilp | exact lw_nils | exact lw_str | exact lw_slo_nils | exact lw_slo_sle | exact lw_sl rfl | exact lw_unb | exact lw_gptr | exact lw_noid rfl | exact lw_cap rfl (Nat.le_refl _) | exact lw_cap rfl (by omega) | assumption | exact lw_tup (by ((repeat refine lws_cons (by (first | exact lw_any | exact lw_int | exact lw_bool | exact lw_ptr rfl | exact lw_slo rfl | exact lw_nilp | exact lw_nils | exact lw_str | exact lw_slo_nils | exact lw_slo_sle | exact lw_sl rfl | exact lw_unb | exact lw_gptr | exact lw_noid rfl | exact lw_cap rfl (Nat.le_refl _) | exact lw_cap rfl (by omega) | assumption)) ?_); exact lws_nil)))) ?_); exact lws_nil)) (by simp) | exact lb_iter | exact lb_cap (Nat.le_refl _) (Nat.le_refl _) rfl rfl | exact lb_capn (by assumption) (by (first | assumption | exact noIds_tab (fun _ => rfl) _ _ | exact noIds_encL (fun _ => rfl) _ | rfl)) | assumption)) ?_); exact okBlks_nil)⟩)⟩
set_option maxHeartbeats 2000000 in
theorem reads_fun (at' kn a b how : Int) (ha : 0 ≤ at' ∧ at' ≤ 255) (hh : 0 ≤ how ∧ how ≤ 255) :
    SFun Go.Proofs.Try.prog 6 [.int .u8 at', .int .u64 kn, .int .u64 a, .int .u64 b, .int .u8 how] (mkS []) fun l _ => l = .bool true := by
  refine SFun.mono (SFun.pieces (Q := fun l _ => l = .bool true) 114 0 vrL [10] (by kernel_rfl) rfl rfl rfl ?_) fun l s' ⟨b0, h1, _⟩ => h1
  refine SSp.to cxv_ok (n := 100) (g := []) 7 7 rfl (σ := {k : Nat // 1 ≤ k ∧ k < 64}) (fun k => vrT kn a b how k.1) (fun _ => vrH (encL (cI .i64) zs) 0) (mkS_le (Nat.zero_le _)) (by kernel_rfl) ?_ fun ⟨k, k1, k2⟩ => ?_
  · rw [vr_a, zs_enc]
    have e1 : xwr .i64 at' = at' := wr_i64 (by omega) (by omega)
    have e2 : at'.tmod 63 = at' % 63 := Int.tmod_eq_emod_of_nonneg ha.1
    have e3 : xar .add .i64 (xar .rem .i64 (xwr .i64 at') 63) 1 = (((at' % 63).toNat + 1 : Nat) : Int) := by
      rw [e1, xar_rem _ _ _ (by omega), e2, add_i64 (by omega) (by omega)]; omega
    have no := noIds_Ii64 zs
    rw [e3]
    exact ⟨rfl, ⟨(at' % 63).toNat + 1, by omega, by omega⟩, [.id 0, .id 1, .id 2, .id 3, .id 4, .id 5], by (exact ⟨by kernel_rfl, by ((repeat refine okTms_cons (by (first | exact lw_any | exact lw_int | exact lw_bool | exact lw_ptr rfl | exact lw_slo rfl | exact lw_nilp | exact lw_nils | exact lw_str | exact lw_slo_nils | exact lw_slo_sle | exact lw_sl rfl | exact lw_unb | exact lw_gptr | exact lw_noid rfl | exact lw_cap rfl (Nat.le_refl _) | exact lw_cap rfl (by omega) | assumption | exact lw_tup (by ((repeat refine lws_cons (by (first | exact lw_any | exact lw_int | exact lw_bool | exact lw_ptr rfl | exact lw_slo rfl | exact lw_nilp | exact lw_nils | exact lw_str | exact lw_slo_nils | exact lw_slo_sle | exact lw_sl rfl | exact lw_unb | exact lw_gptr | exact lw_noid rfl | exact lw_cap rfl (Nat.le_refl _) | exact lw_cap rfl (by omega) | assumption)) ?_); exact lws_nil)))) ?_); exact okTms_nil), by ((repeat refine okBlks_cons (by (first | exact lb_dead | exact lb_same (by (first | assumption | exact noIds_tab (fun _ => rfl) _ _ | exact noIds_encL (fun _ => rfl) _ | rfl)) | exact lb_ro (by (first | assumption | exact noIds_tab (fun _ => rfl) _ _ | exact noIds_encL (fun _ => rfl) _ | rfl)) | exact lb_none | exact lb_cells (by ((repeat refine lws_cons (by (first | exact lw_any | exact lw_int | exact lw_bool | exact lw_ptr rfl | exact lw_slo rfl | exact lw_nilp | exact lw_nils | exact lw_str | exact lw_slo_nils | exact lw_slo_sle | exact lw_sl rfl | exact lw_unb | exact lw_gptr | exact lw_noid rfl | exact lw_cap rfl (Nat.le_refl _) | exact lw_cap rfl (by omega) | assumption | exact lw_tup (by ((repeat refine lws_cons (by (first | exact lw_any | exact lw_int | exact lw_bool | exact lw_ptr rfl | exact lw_slo rfl | exact lw_nilp | exact lw_nils | exact lw_str | exact lw_slo_nils | exact lw_slo_sle | exact lw_sl rfl | exact lw_unb | exact lw_gptr | exact lw_noid rfl | exact lw_cap rfl (Nat.le_refl _) | exact lw_cap rfl (by omega) | assumption)) ?_); exact lws_nil)))) ?_); exact lws_nil)) (by simp) | exact lb_iter | exact lb_cap (Nat.le_refl _) (Nat.le_refl _) rfl rfl | exact lb_capn (by assumption) (by (first | assumption | exact noIds_tab (fun _ => rfl) _ _ | exact noIds_encL (fun _ => rfl) _ | rfl)) | assumption)) ?_); exact okBlks_nil)⟩)⟩
  have no := noIds_Ii64 zs
  have lz : (encL (cI .i64) zs).length = 64 := by rw [encIi64_len]; simp [zs]
  have ls : (encL (cI .i64) (zs.set k 1)).length = 64 := by rw [encIi64_len]; simp [zs]
  have z0 := zs_nth k2
  have z1 := zs_set k2
  have z2 := zs_set_nth k2
  refine SSp.to cxv_ok (n := 100) (g := []) 3 10 rfl (σ := Unit) (fun _ => vrT kn a b how k) (fun _ => vrH (encL (cI .i64) zs) k) (mkS_le (Nat.zero_le _)) (by kernel_rfl) ?_ fun _ => ?_
  · rw [vr_b]
    simp only [wd_nat, wd_asV, wd_isV, wd_ix, wd_add, wd_mul, wd_ln, Nat.zero_add, Nat.mul_one, wd_isI, wd_asI, wd_isB, wd_asB, wd_nn, cI_tlen, cB_tlen, cII_tlen, decide_true, cond_true, wd_not_t, wd_not_f, wd_and_t, wd_and_f, nt_lss, Nat.mul_one, z0, lz, nm_self]
    (repeat (first | (with_reducible refine way_t (by (first | with_reducible rfl | exact t_le (by omega) | exact t_eq (by omega) | exact t_nn (by omega) | exact t_lss (by omega) | exact t_leq (by omega) | exact t_gtr (by omega) | exact t_geq (by omega) | exact t_eql (by omega) | exact t_neq (by omega) | exact t_z (by omega) | exact wd_not_f | assumption)) ?_) | (with_reducible refine way_f (by (first | with_reducible rfl | exact f_le (by omega) | exact f_eq (by omega) | exact f_nn (by omega) | exact f_lss (by omega) | exact f_leq (by omega) | exact f_gtr (by omega) | exact f_geq (by omega) | exact f_eql (by omega) | exact f_neq (by omega) | exact f_z (by omega) | exact wd_not_t | assumption)) ?_)))
    exact ⟨rfl, (), [.id 0, .id 1, .id 2, .id 3, .id 4, .id 5], by (exact ⟨by kernel_rfl, by ((repeat refine okTms_cons (by (first | exact lw_any | exact lw_int | exact lw_bool | exact lw_ptr rfl | exact lw_slo rfl | exact lw_nilp | exact lw_nils | exact lw_str | exact lw_slo_nils | exact lw_slo_sle | exact lw_sl rfl | exact lw_unb | exact lw_gptr | exact lw_noid rfl | exact lw_cap rfl (Nat.le_refl _) | exact lw_cap rfl (by omega) | assumption | exact lw_tup (by ((repeat refine lws_cons (by (first | exact lw_any | exact lw_int | exact lw_bool | exact lw_ptr rfl | exact lw_slo rfl | exact lw_nilp | exact lw_nils | exact lw_str | exact lw_slo_nils | exact lw_slo_sle | exact lw_sl rfl | exact lw_unb | exact lw_gptr | exact lw_noid rfl | exact lw_cap rfl (Nat.le_refl _) | exact lw_cap rfl (by omega) | assumption)) ?_); exact lws_nil)))) ?_); exact okTms_nil), by ((repeat refine okBlks_cons (by (first | exact lb_dead | exact lb_same (by (first | assumption | exact noIds_tab (fun _ => rfl) _ _ | exact noIds_encL (fun _ => rfl) _ | rfl)) | exact lb_ro (by (first | assumption | exact noIds_tab (fun _ => rfl) _ _ | exact noIds_encL (fun _ => rfl) _ | rfl)) | exact lb_none | exact lb_cells (by ((repeat refine lws_cons (by (first | exact lw_any | exact lw_int | exact lw_bool | exact lw_ptr rfl | exact lw_slo rfl | exact lw_nilp | exact lw_nils | exact lw_str | exact lw_slo_nils | exact lw_slo_sle | exact lw_sl rfl | exact lw_unb | exact lw_gptr | exact lw_noid rfl | exact lw_cap rfl (Nat.le_refl _) | exact lw_cap rfl (by omega) | assumption | exact lw_tup (by ((repeat refine lws_cons (by (first | exact lw_any | exact lw_int | exact lw_bool | exact lw_ptr rfl | exact lw_slo rfl | exact lw_nilp | exact lw_nils | exact lw_str | exact lw_slo_nils | exact lw_slo_sle | exact lw_sl rfl | exact lw_unb | exact lw_gptr | exact lw_noid rfl | exact lw_cap rfl (Nat.le_refl _) | exact lw_cap rfl (by omega) | assumption)) ?_); exact lws_nil)))) ?_); exact lws_nil)) (by simp) | exact lb_iter | exact lb_cap (Nat.le_refl _) (Nat.le_refl _) rfl rfl | exact lb_capn (by assumption) (by (first | assumption | exact noIds_tab (fun _ => rfl) _ _ | exact noIds_encL (fun _ => rfl) _ | rfl)) | assumption)) ?_); exact okBlks_nil)⟩)⟩
  refine SSp.to cxv_ok (n := 100) (g := []) 10 20 rfl (σ := Unit) (fun _ => vrU kn a b how (vsp how kn a b).1 (vsp how kn a b).2) (fun _ => []) (mkS_le (Nat.zero_le _)) (by kernel_rfl) ?_ fun _ => ?_
  · rw [vr_m]
    have s1 : xar .sub .i64 1 1 = 0 := rfl
    have n1 : nthD [.int .i64 (k : Int), .int .u64 kn] 1 = .int .u64 kn := rfl
    have x0 : xnat 0 = 0 := rfl
    have g1 : xcm .gtr 1 0 = true := rfl
    have g0 : xcm .gtr 0 0 = false := rfl
    have c1 : xcm .geq (k : Int) 1 = true := t_geq (by omega)
    have c2 : xcm .geq (k : Int) 64 = false := f_geq (by omega)
    have c3 : xcm .lss (k : Int) 1 = false := f_lss (by omega)
    have c4 : xcm .geq (k : Int) 256 = false := f_geq (by omega)
    have l1 : xle (k + 1) 64 = true := t_le (by omega)
    have l2 : xle (0 + 1) 1 = true := rfl
    have l3 : xle 2 2 = true := rfl
    have nn : xnn 0 = true := rfl
    simp only [wd_nat, wd_asV, wd_isV, wd_ix, wd_add, wd_mul, wd_ln, Nat.zero_add, Nat.mul_one, wd_isI, wd_asI, wd_isB, wd_asB, wd_nn, cI_tlen, cB_tlen, cII_tlen, decide_true, cond_true, wd_not_t, wd_not_f, wd_and_t, wd_and_f, nt_lss, Nat.mul_one, Nat.zero_mul, Nat.reduceAdd, z0, z1, z2, lz, ls, s1, n1, x0, g1, g0, c1, c2, c3, c4, l1, l2, l3, nn, cm_self, cond_true, cond_false]
    simp only [vsp, hb]
    generalize hh1 : xcm .eql (xar .and .u8 how 1) 1 = b1
    generalize hh2 : xcm .eql (xar .and .u8 how 2) 2 = b2
    generalize hh4 : xcm .eql (xar .and .u8 how 4) 4 = b4
    generalize hh8 : xcm .eql (xar .and .u8 how 8) 8 = b8
    cases b1 <;> cases b2 <;> cases b4 <;> cases b8 <;> simp only [cond_true, cond_false] <;> ((repeat (with_reducible refine must (by (first | with_reducible rfl | exact t_le (by omega) | exact t_eq (by omega) | exact t_nn (by omega) | exact t_lss (by omega) | exact t_leq (by omega) | exact t_gtr (by omega) | exact t_geq (by omega) | exact t_eql (by omega) | exact t_neq (by omega) | exact t_z (by omega) | exact wd_not_f | assumption)) ?_))) <;> exact leafV (so := []) ⟨rfl, rfl⟩
  refine SSp.last cxv_ok (n := 100) (mkS_le (Nat.zero_le _)) ?_
  rw [vr_z, b12 hh]
  simp only [vsp, hb]
  generalize hh1 : xcm .eql (xar .and .u8 how 1) 1 = b1
  generalize hh2 : xcm .eql (xar .and .u8 how 2) 2 = b2
  generalize hh4 : xcm .eql (xar .and .u8 how 4) 4 = b4
  generalize hh8 : xcm .eql (xar .and .u8 how 8) 8 = b8
  have t1 : xcm .eql 0 0 = true := rfl
  have t2 : xcm .eql 11 11 = true := rfl
  cases b1 <;> cases b2 <;> cases b4 <;> cases b8 <;> simp only [vspec, Bool.and_true, Bool.and_false, Bool.true_and, Bool.false_and, Bool.not_true, Bool.not_false, wd_not_t, wd_not_f, cond_true, cond_false, cm_self, t1, t2] <;> exact ⟨trivial, rfl, .bool true, [], [], rfl, by (exact ⟨by kernel_rfl, by ((repeat refine okTms_cons (by (first | exact lw_any | exact lw_int | exact lw_bool | exact lw_ptr rfl | exact lw_slo rfl | exact lw_nilp | exact lw_nils | exact lw_str | exact lw_slo_nils | exact lw_slo_sle | exact lw_sl rfl | exact lw_unb | exact lw_gptr | exact lw_noid rfl | exact lw_cap rfl (Nat.le_refl _) | exact lw_cap rfl (by omega) | assumption | exact lw_tup (by ((repeat refine lws_cons (by (first | exact lw_any | exact lw_int | exact lw_bool | exact lw_ptr rfl | exact lw_slo rfl | exact lw_nilp | exact lw_nils | exact lw_str | exact lw_slo_nils | exact lw_slo_sle | exact lw_sl rfl | exact lw_unb | exact lw_gptr | exact lw_noid rfl | exact lw_cap rfl (Nat.le_refl _) | exact lw_cap rfl (by omega) | assumption)) ?_); exact lws_nil)))) ?_); exact okTms_nil), by ((repeat refine okBlks_cons (by (first | exact lb_dead | exact lb_same (by (first | assumption | exact noIds_tab (fun _ => rfl) _ _ | exact noIds_encL (fun _ => rfl) _ | rfl)) | exact lb_ro (by (first | assumption | exact noIds_tab (fun _ => rfl) _ _ | exact noIds_encL (fun _ => rfl) _ | rfl)) | exact lb_none | exact lb_cells (by ((repeat refine lws_cons (by (first | exact lw_any | exact lw_int | exact lw_bool | exact lw_ptr rfl | exact lw_slo rfl | exact lw_nilp | exact lw_nils | exact lw_str | exact lw_slo_nils | exact lw_slo_sle | exact lw_sl rfl | exact lw_unb | exact lw_gptr | exact lw_noid rfl | exact lw_cap rfl (Nat.le_refl _) | exact lw_cap rfl (by omega) | assumption | exact lw_tup (by ((repeat refine lws_cons (by (first | exact lw_any | exact lw_int | exact lw_bool | exact lw_ptr rfl | exact lw_slo rfl | exact lw_nilp | exact lw_nils | exact lw_str | exact lw_slo_nils | exact lw_slo_sle | exact lw_sl rfl | exact lw_unb | exact lw_gptr | exact lw_noid rfl | exact lw_cap rfl (Nat.le_refl _) | exact lw_cap rfl (by omega) | assumption)) ?_); exact lws_nil)))) ?_); exact lws_nil)) (by simp) | exact lb_iter | exact lb_cap (Nat.le_refl _) (Nat.le_refl _) rfl rfl | exact lb_capn (by assumption) (by (first | assumption | exact noIds_tab (fun _ => rfl) _ _ | exact noIds_encL (fun _ => rfl) _ | rfl)) | assumption)) ?_); exact okBlks_nil)⟩)⟩
theorem reads_any {W : World} (at' kn a b how : Int) (ha : 0 ≤ at' ∧ at' ≤ 255) (hh : 0 ≤ how ∧ how ≤ 255) : Calls Go.Proofs.Try.prog 6 #[.int .u8 at', .int .u64 kn, .int .u64 a, .int .u64 b, .int .u8 how] W fun e W' => e = .returned (.bool true) ∧ Below W.heap.size W W' := by
  refine SFun.top (rows := []) (g := []) (us := [.int .u8 at', .int .u64 kn, .int .u64 a, .int .u64 b, .int .u8 how]) trivial (fun x hx => by cases hx) (fun r h => ?_) (reads_fun at' kn a b how ha hh)
  simp only [VRs, VR]
  exact ⟨_, _, rfl, rfl, _, _, rfl, rfl, _, _, rfl, rfl, _, _, rfl, rfl, _, _, rfl, rfl, rfl⟩
end
end Go.Lev
