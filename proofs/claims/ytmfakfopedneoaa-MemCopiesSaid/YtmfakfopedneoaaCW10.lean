/- MemPlays (P6.1 to P6.3): for any shape, any operations, the law returns true; what was there stays as it was. No condition. -/
import Derived.Test.YtmfakfopedneoaaCW8
import Derived.Test.YtmfakfopedneoaaLc
import Derived.Test.YtmfakfopedneoaaChecked
import Derived.KernelRfl

namespace Go.Lev
open Go.RowKit
set_option linter.unusedVariables false
set_option linter.unusedSimpArgs false
set_option maxRecDepth 100000
noncomputable section
theorem runs6 : isTrue (lrun Go.Proofs.Try.prog 4000 3 []) = true := by kernel_rfl
theorem cxp_ok : CtrOk Go.Proofs.Try.prog (ctrOf cxp) := cxl_ok ⟨runG_ok runs6, newmemG_ok, doG_ok, sameMG_ok, cloneU_ok, cloneL_ok, trivial⟩
theorem cl_id {a lo hi : Int} (h1 : lo ≤ a) (h2 : a ≤ hi) : xmn (xmx a lo) hi = a := by simp only [wd_mn, wd_mx]; split <;> split <;> omega
theorem rep_w (n : Nat) : xrep n [.int .u64 0] = zW n := encL_rep (f := cI .u64) (0 : Int) n
theorem rep_l (n : Nat) : xrep n [.int .u64 0, .bool false, .int .i64 0] = zL n := encL_rep (f := cL) ((0 : Int), false, (0 : Int)) n
theorem zW_len (n : Nat) : (zW n).length = n * 1 := by rw [zW, encIu64_len]; simp
theorem zL_len (n : Nat) : (zL n).length = n * 3 := by rw [zL, lk_n]; simp
theorem noids_zW (n : Nat) : noIds (zW n) = true := noIds_Iu64 _
theorem noids_zL (n : Nat) : noIds (zL n) = true := noids_l _
/-- A memory that is new: so many words, locks, slots. -/
def mz (a b d : Nat) (s : Int) : MS := ⟨List.replicate a 0, List.replicate b (0, false, 0), s, List.replicate d 0, 0⟩
theorem okR_enc {xs : List OpR} {n : Nat} (h : xs.length = n) (hn : n ≤ 9223372036854775807) : okR (encL opL xs) n = true := okR_iff.2 ⟨xs, rfl, h, hn⟩
theorem plays_fun (raw : Bool) (xs : List OpR) (n : Nat) (en : xs.length = n) (hn : n ≤ 9223372036854775807) (sa sb sc sd se : Int) :
    SFun Go.Proofs.Try.prog 4 [.agg (shC sa sb sc sd se), .slo 0 0 n 0, .bool raw] (mkS [.ro (encL opL xs)]) fun l _ => l = .bool true := by
  refine SFun.mono (SFun.pieces (Q := fun l _ => l = .bool true) 38 1 mpL [6] (by kernel_rfl) rfl rfl rfl ?_) fun l s' ⟨b0, h1, _⟩ => h1
  have nx := noids_o xs
  have ok := okR_enc en hn
  obtain ⟨c1, c1'⟩ := cl_in sa (show (32 : Int) ≤ 256 by omega)
  obtain ⟨c2, c2'⟩ := cl_in sb (show (1 : Int) ≤ 16 by omega)
  obtain ⟨c3, c3'⟩ := cl_in sc (show (1 : Int) ≤ 16 by omega)
  obtain ⟨c4, c4'⟩ := cl_in sd (show (1 : Int) ≤ 4 by omega)
  have hmp := mp_a sa sb sc sd se n raw (encL opL xs)
  have hmz := fun N C nw nl ns ws ls ss ax => mp_z n raw (xmn (xmx sa 32) 256) (xmn (xmx sb 1) 16) (xmn (xmx sc 1) 16) (xmn (xmx sd 1) 4) (xmn se 4611686018427387903) N C nw nl ns ws ls ss ax sa sb sc sd se
  have i1 := cl_id c1 c1'
  have i2 := cl_id c2 c2'
  have i3 := cl_id c3 c3'
  have i4 := cl_id c4 c4'
  have i5 : xmn (xmn se 4611686018427387903) 4611686018427387903 = xmn se 4611686018427387903 := by simp only [wd_mn]; split <;> (try split) <;> omega
  simp only [i1, i2, i3, i4, i5, xcm_self, wd_and_t, cond_true] at hmp hmz
  generalize xmn (xmx sa 32) 256 = pa at *
  generalize xmn (xmx sb 1) 16 = pb at *
  generalize xmn (xmx sc 1) 16 = pc at *
  generalize xmn (xmx sd 1) 4 = pd at *
  generalize xmn se 4611686018427387903 = pe at *
  obtain ⟨qa, rfl⟩ := Int.eq_ofNat_of_zero_le (show 0 ≤ pa by omega)
  obtain ⟨qb, rfl⟩ := Int.eq_ofNat_of_zero_le (show 0 ≤ pb by omega)
  obtain ⟨qd, rfl⟩ := Int.eq_ofNat_of_zero_le (show 0 ≤ pd by omega)
  have z1 := zW_len qa
  have z2 := zL_len qb
  have z3 := zW_len qd
  have w1 := noids_zW qa
  have w2 := noids_zL qb
  have w3 := noids_zW qd
  have o1 : okIu64 (zW qa) qa = true := okIu64_iff.2 ⟨_, rfl, by simp, by omega⟩
  have o2 : okL (zL qb) qb = true := okL_iff.2 ⟨_, rfl, by simp, by omega⟩
  have o3 : okIu64 (zW qd) qd = true := okIu64_iff.2 ⟨_, rfl, by simp, by omega⟩
  refine SSp.to cxp_ok (n := 40) (g := []) 4 4 rfl (σ := Unit) (fun _ => mpT n raw) (fun _ => mpH qa qb pc qd pe pe 0 qa qb qd (zW qa) (zL qb) (zW qd) (encL opL xs) sa sb sc sd se) (mkS_le (Nat.le_refl _)) (by kernel_rfl) ?_ fun _ => ?_
  · rw [hmp]
    simp only [wd_nat, rep_w, rep_l]
    (repeat (first | (with_reducible refine way_t (by (first | with_reducible rfl | exact t_le (by omega) | exact t_eq (by omega) | exact t_nn (by omega) | exact t_lss (by omega) | exact t_leq (by omega) | exact t_gtr (by omega) | exact t_geq (by omega) | exact t_eql (by omega) | exact t_neq (by omega) | exact t_z (by omega) | exact wd_not_f | assumption)) ?_) | (with_reducible refine way_f (by (first | with_reducible rfl | exact f_le (by omega) | exact f_eq (by omega) | exact f_nn (by omega) | exact f_lss (by omega) | exact f_leq (by omega) | exact f_gtr (by omega) | exact f_geq (by omega) | exact f_eql (by omega) | exact f_neq (by omega) | exact f_z (by omega) | exact wd_not_t | assumption)) ?_)))
    exact ⟨rfl, (), [.id 0, .id 12, .id 6, .cap 5 0 qa, .id 8, .cap 7 0 qb, .id 9, .id 11, .cap 10 0 qd, .id 13, .id 14, .id 15, .id 16, .id 1], by (exact ⟨by kernel_rfl, by ((repeat refine okTms_cons (by (first | exact lw_any | exact lw_int | exact lw_bool | exact lw_ptr rfl | exact lw_slo rfl | exact lw_nilp | exact lw_nils | exact lw_str | exact lw_slo_nils | exact lw_slo_sle | exact lw_sl rfl | exact lw_unb | exact lw_gptr | exact lw_noid rfl | exact lw_cap rfl (Nat.le_refl _) | exact lw_cap rfl (by omega) | assumption)) ?_); exact okTms_nil), by ((repeat refine okBlks_cons (by (first | exact lb_dead | exact lb_same (by (first | assumption | exact noIds_tab (fun _ => rfl) _ _ | exact noIds_encL (fun _ => rfl) _ | rfl)) | exact lb_ro (by (first | assumption | exact noIds_tab (fun _ => rfl) _ _ | exact noIds_encL (fun _ => rfl) _ | rfl)) | exact lb_none | exact lb_cells (by ((repeat refine lws_cons (by (first | exact lw_any | exact lw_int | exact lw_bool | exact lw_ptr rfl | exact lw_slo rfl | exact lw_nilp | exact lw_nils | exact lw_str | exact lw_slo_nils | exact lw_slo_sle | exact lw_sl rfl | exact lw_unb | exact lw_gptr | exact lw_noid rfl | exact lw_cap rfl (Nat.le_refl _) | exact lw_cap rfl (by omega) | assumption)) ?_); exact lws_nil)) (by simp) | exact lb_iter | exact lb_cap (Nat.le_refl _) (Nat.le_refl _) rfl rfl | exact lb_capn (by assumption) (by (first | assumption | exact noIds_tab (fun _ => rfl) _ _ | exact noIds_encL (fun _ => rfl) _ | rfl)) | assumption)) ?_); exact okBlks_nil)⟩)⟩
  refine SSp.last cxp_ok (n := 40) (mkS_le (Nat.le_of_ble_eq_true rfl)) ?_
  rw [hmz]
  simp only [o1, o2, o3, ok, eqLs_self, cond_true]
  (repeat (first | (with_reducible refine way_t (by (first | with_reducible rfl | exact t_le (by omega) | exact t_eq (by omega) | exact t_nn (by omega) | exact t_lss (by omega) | exact t_leq (by omega) | exact t_gtr (by omega) | exact t_geq (by omega) | exact t_eql (by omega) | exact t_neq (by omega) | exact t_z (by omega) | exact wd_not_f | assumption)) ?_) | (with_reducible refine way_f (by (first | with_reducible rfl | exact f_le (by omega) | exact f_eq (by omega) | exact f_nn (by omega) | exact f_lss (by omega) | exact f_leq (by omega) | exact f_gtr (by omega) | exact f_geq (by omega) | exact f_eql (by omega) | exact f_neq (by omega) | exact f_z (by omega) | exact wd_not_t | assumption)) ?_)))
  exact ⟨trivial, rfl, .bool true, [.ro _], [.id 0], rfl, by (exact ⟨by kernel_rfl, by ((repeat refine okTms_cons (by (first | exact lw_any | exact lw_int | exact lw_bool | exact lw_ptr rfl | exact lw_slo rfl | exact lw_nilp | exact lw_nils | exact lw_str | exact lw_slo_nils | exact lw_slo_sle | exact lw_sl rfl | exact lw_unb | exact lw_gptr | exact lw_noid rfl | exact lw_cap rfl (Nat.le_refl _) | exact lw_cap rfl (by omega) | assumption)) ?_); exact okTms_nil), by ((repeat refine okBlks_cons (by (first | exact lb_dead | exact lb_same (by (first | assumption | exact noIds_tab (fun _ => rfl) _ _ | exact noIds_encL (fun _ => rfl) _ | rfl)) | exact lb_ro (by (first | assumption | exact noIds_tab (fun _ => rfl) _ _ | exact noIds_encL (fun _ => rfl) _ | rfl)) | exact lb_none | exact lb_cells (by ((repeat refine lws_cons (by (first | exact lw_any | exact lw_int | exact lw_bool | exact lw_ptr rfl | exact lw_slo rfl | exact lw_nilp | exact lw_nils | exact lw_str | exact lw_slo_nils | exact lw_slo_sle | exact lw_sl rfl | exact lw_unb | exact lw_gptr | exact lw_noid rfl | exact lw_cap rfl (Nat.le_refl _) | exact lw_cap rfl (by omega) | assumption)) ?_); exact lws_nil)) (by simp) | exact lb_iter | exact lb_cap (Nat.le_refl _) (Nat.le_refl _) rfl rfl | exact lb_capn (by assumption) (by (first | assumption | exact noIds_tab (fun _ => rfl) _ _ | exact noIds_encL (fun _ => rfl) _ | rfl)) | assumption)) ?_); exact okBlks_nil)⟩)⟩
end
end Go.Lev
