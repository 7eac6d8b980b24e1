/- ModelApply (P22.3): for all words and cells, near or not, the law returns true; what was there stays as it was. Condition: the listed package-level variables hold what the program's text lays. -/
import Derived.Test.YtmakccdgbkcbaaaGreatDoorCW3
import Derived.Test.YtmakccdgbkcbaaaGreatDoorLc
import Derived.Test.YtmakccdgbkcbaaaGreatDoorChecked
import Derived.KernelRfl

import Derived.Test.YtmakccdgbkcbaaaGreatDoorLc
import Derived.Test.YtmakccdgbkcbaaaGreatDoorRows
namespace Go.Lev
open Go.RowKit
set_option linter.unusedVariables false
set_option linter.unusedSimpArgs false
set_option maxRecDepth 100000
noncomputable section
def formsL : List LV := flatD Go.Proofs.YtmakccdgbkcbaaaGreatDoor.Rows.laid_quietus_code_forms
def gtab : Glb := [(0, formsL)]
def runGt : Gc := fun args s => match args, s.g with
  | [], [(g0, F0)] => cond (Nat.beq g0 0 && eqbs F0 formsL) (some ([], .bool true, s)) none
  | _, _ => none
def cxm : Cx := cxl [(4, runGt), (5, wrapG withinG), (7, wrapG apG), (8, wrapG raG), (6, wrapG sameIu64G)]
abbrev maL : List Nat := [0, 1, 2, 6, 7, 8]
abbrev maT (n m k : Nat) (near : Bool) : List (Nat × LV) := [(0, .slo 0 0 n 0), (1, .slo 1 0 m 0), (2, .bool near), (7, .slo 2 0 k 0), (8, .int .i64 k)]
abbrev maH (ws cs ys : List LV) : List LB := [.ro ws, .ro cs, .cells ys (some 2)]
theorem ma_a (n m : Nat) (near : Bool) (ws cs : List LV) (K : Pk) : (xsp Go.Proofs.Tryz.prog cxm 60 46 (seg (sp Go.Proofs.Tryz.prog 3) 0 7) (tm0 [.slo 0 0 n 0, .slo 1 0 m 0, .bool near]) (mkS [.ro ws, .ro cs] gtab) (vK maL K)) = (
  bif xcm .gtr (↑n) 600 then (
   K .ret [.slo 0 0 n 0, .slo 1 0 m 0, .bool near, .bool true, .tup [], .tup []] [some (.ro ws), some (.ro cs)] gtab)
  else (
   bif xcm .gtr (↑m) 200 then (
    K .ret [.slo 0 0 n 0, .slo 1 0 m 0, .bool near, .bool true, .tup [], .tup []] [some (.ro ws), some (.ro cs)] gtab)
   else (
    K .normal [.slo 0 0 n 0, .slo 1 0 m 0, .bool near, .bool false, .nils, .int .i64 0] [some (.ro ws), some (.ro cs)] gtab))) := by kernel_rfl
theorem ma_b (n m k : Nat) (near : Bool) (ws cs ys : List LV) (K : Pk) : (xcode Go.Proofs.Tryz.prog cxm 60 46 (loopOf (nthC (sp Go.Proofs.Tryz.prog 3) 7)) (mkTm 46 (maT n m k near)) (mkS (maH ws cs ys) gtab) (vK maL K)) = (
  bif xcm .lss ↑k ↑m then (
   bif xle (xadd (xnat ↑k) 1) m then
   bif xle (xadd (xix 0 (xnat ↑k) 2) 2) (xln cs) then
   bif isI .i64 (nthD cs (xix 0 (xnat ↑k) 2)) then
   bif isI .u64 (nthD cs (xadd (xix 0 (xnat ↑k) 2) 1)) then
   bif near then (
    bif xle (xadd k 1) 1000000 then
    bif xle (xadd 0 (xmul k 2)) (xln ys) then
    K .normal [.slo 0 0 n 0, .slo 1 0 m 0, .bool near, .any, .slo 5 0 (xadd k 1) 0, .int .i64 (xar .add .i64 (↑k) 1)] [some (.ro ws), some (.ro cs), some .dead, some (.cells [.int .i64 (wthV (asI (nthD cs (xix 0 (xnat ↑k) 2))) (-1) 70), .int .u64 (asI (nthD cs (xadd (xix 0 (xnat ↑k) 2) 1)))] none), some (.cells [.int .i64 (wthV (asI (nthD cs (xix 0 (xnat ↑k) 2))) (-1) 70), .int .u64 (asI (nthD cs (xadd (xix 0 (xnat ↑k) 2) 1)))] none), some (.cells (xcat (xcut ys 0 (xmul k 2)) [.int .i64 (wthV (asI (nthD cs (xix 0 (xnat ↑k) 2))) (-1) 70), .int .u64 (asI (nthD cs (xadd (xix 0 (xnat ↑k) 2) 1)))]) (some 2))] gtab
    else False
    else False)
   else (
    bif xle (xadd k 1) 1000000 then
    bif xle (xadd 0 (xmul k 2)) (xln ys) then
    K .normal [.slo 0 0 n 0, .slo 1 0 m 0, .bool near, .any, .slo 5 0 (xadd k 1) 0, .int .i64 (xar .add .i64 (↑k) 1)] [some (.ro ws), some (.ro cs), some .dead, some (.cells [.int .i64 (asI (nthD cs (xix 0 (xnat ↑k) 2))), .int .u64 (asI (nthD cs (xadd (xix 0 (xnat ↑k) 2) 1)))] none), some (.cells [.int .i64 (asI (nthD cs (xix 0 (xnat ↑k) 2))), .int .u64 (asI (nthD cs (xadd (xix 0 (xnat ↑k) 2) 1)))] none), some (.cells (xcat (xcut ys 0 (xmul k 2)) [.int .i64 (asI (nthD cs (xix 0 (xnat ↑k) 2))), .int .u64 (asI (nthD cs (xadd (xix 0 (xnat ↑k) 2) 1)))]) (some 2))] gtab
    else False
    else False)
   else False
   else False
   else False
   else False)
  else (
   K (.exit 0) [.slo 0 0 n 0, .slo 1 0 m 0, .bool near, .any, .slo 2 0 k 0, .int .i64 ↑k] [some (.ro ws), some (.ro cs), some (.cells ys (some 2))] gtab)) := by kernel_rfl
theorem ma_z (n m k : Nat) (near : Bool) (ws cs ys : List LV) (K : Pk) : (xsp Go.Proofs.Tryz.prog cxm 60 46 ((sp Go.Proofs.Tryz.prog 3).drop 8) (mkTm 46 (maT n m k near)) (mkS (maH ws cs ys) gtab) (vK maL K)) = (
  bif okIu64 ws n then
  bif okC ys k then
  bif xle k 1000 then
  bif okIu64 ws n then
  bif okC ys k then
  bif xle k 1000 then
  bif okIu64 (apC ws ys) (clN n) then
  bif okIu64 (apC ws ys) (clN n) then
  K .ret [.slo 0 0 n 0, .slo 1 0 m 0, .bool near, .bool (sameIu64 (clN n) (clN n) (apC ws ys) (apC ws ys)), .slo 2 0 k 0, .int .i64 ↑k] [some (.ro ws), some (.ro cs), some (.cells ys (some 2)), some (.cells (apC ws ys) (some 1)), some (.cells (apC ws ys) (some 1))] gtab
  else False
  else False
  else False
  else False
  else False
  else False
  else False
  else False) := by kernel_rfl
theorem runs22 : isTrue (lrun Go.Proofs.Tryz.prog 20000 4 gtab) = true := by kernel_rfl
theorem runGt_ok : GOk Go.Proofs.Tryz.prog 4 runGt := by
  intro args s bs l s' hg hb hfr
  unfold runGt at hg
  split at hg
  · rename_i g0 F0 hgl
    cases hc : (Nat.beq g0 0 && eqbs F0 formsL) with
    | false => rw [hc] at hg; cases hg
    | true =>
      rw [hc] at hg
      simp only [cond_true, Option.some.injEq, Prod.mk.injEq] at hg
      obtain ⟨rfl, rfl, rfl⟩ := hg
      simp only [Bool.and_eq_true] at hc
      obtain ⟨c1, c2⟩ := hc
      have e : s.g = gtab := by rw [hgl, Nat.eq_of_beq_eq_true c1, eqbs_eq c2]; rfl
      refine SFun.closed (fuel := 20000) hfr ?_
      rw [e]; exact runs22
  · cases hg
theorem cxm_ok : CtrOk Go.Proofs.Tryz.prog (ctrOf cxm) := cxl_ok ⟨runGt_ok, wrapG_ok withinG_ok, wrapG_ok apG_ok, wrapG_ok raG_ok, wrapG_ok sameIu64G_ok, trivial⟩
def nearC (near : Bool) (c : Int × Int) : Int × Int := if near then (wthV c.1 (-1) 70, c.2) else c
def nearL (near : Bool) (cs : List (Int × Int)) (k : Nat) : List (Int × Int) := (cs.take k).map (nearC near)
theorem nearL_len {near : Bool} {cs : List (Int × Int)} {k : Nat} (h : k ≤ cs.length) : (nearL near cs k).length = k := by rw [nearL, List.length_map, List.length_take]; omega
theorem nearL_succ {near : Bool} {cs : List (Int × Int)} {k : Nat} (h : k < cs.length) : nearL near cs (k + 1) = nearL near cs k ++ [nearC near cs[k]] := by rw [nearL, List.take_succ_eq_append_getElem h, List.map_append]; rfl
set_option maxHeartbeats 1000000 in
theorem apply_fun (n m : Nat) (near : Bool) (xs : List Int) (cs : List (Int × Int)) (hn : xs.length = n) (hm : cs.length = m) (hx : n ≤ 9223372036854775807) : SFun Go.Proofs.Tryz.prog 3 [.slo 0 0 n 0, .slo 1 0 m 0, .bool near] (mkS [.ro (encL (cI .u64) xs), .ro (encL cell cs)] gtab) fun l _ => l = .bool true := by
  subst hn hm
  refine SFun.mono (SFun.pieces (Q := fun l _ => l = .bool true) 46 2 maL [6] (by kernel_rfl) rfl rfl rfl ?_) fun l s' ⟨b0, h1, _⟩ => h1
  have nw := noIds_Iu64 xs
  have nc : noIds (encL cell cs) = true := noIds_encL (fun _ => rfl) _
  have ny : ∀ k, noIds (encL cell (nearL near cs k)) = true := fun k => noIds_encL (fun _ => rfl) _
  refine SSp.to cxm_ok (n := 60) (g := gtab) 7 7 rfl (σ := {_k : Unit // cs.length ≤ 200}) (fun _ => maT xs.length cs.length 0 near) (fun _ => maH (encL (cI .u64) xs) (encL cell cs) (encL cell (nearL near cs 0))) (mkS_le (Nat.le_refl _)) (by kernel_rfl) ?_ fun ⟨_, h200⟩ => ?_
  · have n1 := ny 0
    rw [ma_a]
    by_cases h1 : 600 < xs.length
    · (repeat (first | (with_reducible refine way_t (by (first | with_reducible rfl | exact t_le (by omega) | exact t_eq (by omega) | exact t_nn (by omega) | exact t_lss (by omega) | exact t_leq (by omega) | exact t_gtr (by omega) | exact t_geq (by omega) | exact t_eql (by omega) | exact t_neq (by omega) | exact t_z (by omega) | exact wd_not_f | assumption)) ?_) | (with_reducible refine way_f (by (first | with_reducible rfl | exact f_le (by omega) | exact f_eq (by omega) | exact f_nn (by omega) | exact f_lss (by omega) | exact f_leq (by omega) | exact f_gtr (by omega) | exact f_geq (by omega) | exact f_eql (by omega) | exact f_neq (by omega) | exact f_z (by omega) | exact wd_not_t | assumption)) ?_)))
      exact ⟨trivial, rfl, .bool true, [.ro _, .ro _], [.id 0, .id 1], rfl, by (exact ⟨by kernel_rfl, by ((repeat refine okTms_cons (by (first | exact lw_any | exact lw_int | exact lw_bool | exact lw_ptr rfl | exact lw_slo rfl | exact lw_nilp | exact lw_nils | exact lw_str | exact lw_slo_nils | exact lw_slo_sle | exact lw_sl rfl | exact lw_unb | exact lw_gptr | exact lw_noid rfl | exact lw_cap rfl (Nat.le_refl _) | exact lw_cap rfl (by omega) | assumption | exact lw_tup (by ((repeat refine lws_cons (by (first | exact lw_any | exact lw_int | exact lw_bool | exact lw_ptr rfl | exact lw_slo rfl | exact lw_nilp | exact lw_nils | exact lw_str | exact lw_slo_nils | exact lw_slo_sle | exact lw_sl rfl | exact lw_unb | exact lw_gptr | exact lw_noid rfl | exact lw_cap rfl (Nat.le_refl _) | exact lw_cap rfl (by omega) | assumption)) ?_); exact lws_nil)))) ?_); exact okTms_nil), by ((repeat refine okBlks_cons (by (first | exact lb_dead | exact lb_same (by (first | assumption | exact noIds_tab (fun _ => rfl) _ _ | exact noIds_encL (fun _ => rfl) _ | rfl)) | exact lb_ro (by (first | assumption | exact noIds_tab (fun _ => rfl) _ _ | exact noIds_encL (fun _ => rfl) _ | rfl)) | exact lb_none | exact lb_cells (by ((repeat refine lws_cons (by (first | exact lw_any | exact lw_int | exact lw_bool | exact lw_ptr rfl | exact lw_slo rfl | exact lw_nilp | exact lw_nils | exact lw_str | exact lw_slo_nils | exact lw_slo_sle | exact lw_sl rfl | exact lw_unb | exact lw_gptr | exact lw_noid rfl | exact lw_cap rfl (Nat.le_refl _) | exact lw_cap rfl (by omega) | assumption | exact lw_tup (by ((repeat refine lws_cons (by (first | exact lw_any | exact lw_int | exact lw_bool | exact lw_ptr rfl | exact lw_slo rfl | exact lw_nilp | exact lw_nils | exact lw_str | exact lw_slo_nils | exact lw_slo_sle | exact lw_sl rfl | exact lw_unb | exact lw_gptr | exact lw_noid rfl | exact lw_cap rfl (Nat.le_refl _) | exact lw_cap rfl (by omega) | assumption)) ?_); exact lws_nil)))) ?_); exact lws_nil)) (by simp) | exact lb_iter | exact lb_cap (Nat.le_refl _) (Nat.le_refl _) rfl rfl | exact lb_capn (by assumption) (by (first | assumption | exact noIds_tab (fun _ => rfl) _ _ | exact noIds_encL (fun _ => rfl) _ | rfl)) | assumption)) ?_); exact okBlks_nil)⟩)⟩
    · by_cases h2 : 200 < cs.length
      · (repeat (first | (with_reducible refine way_t (by (first | with_reducible rfl | exact t_le (by omega) | exact t_eq (by omega) | exact t_nn (by omega) | exact t_lss (by omega) | exact t_leq (by omega) | exact t_gtr (by omega) | exact t_geq (by omega) | exact t_eql (by omega) | exact t_neq (by omega) | exact t_z (by omega) | exact wd_not_f | assumption)) ?_) | (with_reducible refine way_f (by (first | with_reducible rfl | exact f_le (by omega) | exact f_eq (by omega) | exact f_nn (by omega) | exact f_lss (by omega) | exact f_leq (by omega) | exact f_gtr (by omega) | exact f_geq (by omega) | exact f_eql (by omega) | exact f_neq (by omega) | exact f_z (by omega) | exact wd_not_t | assumption)) ?_)))
        exact ⟨trivial, rfl, .bool true, [.ro _, .ro _], [.id 0, .id 1], rfl, by (exact ⟨by kernel_rfl, by ((repeat refine okTms_cons (by (first | exact lw_any | exact lw_int | exact lw_bool | exact lw_ptr rfl | exact lw_slo rfl | exact lw_nilp | exact lw_nils | exact lw_str | exact lw_slo_nils | exact lw_slo_sle | exact lw_sl rfl | exact lw_unb | exact lw_gptr | exact lw_noid rfl | exact lw_cap rfl (Nat.le_refl _) | exact lw_cap rfl (by omega) | assumption | exact lw_tup (by ((repeat refine lws_cons (by (first | exact lw_any | exact lw_int | exact lw_bool | exact lw_ptr rfl | exact lw_slo rfl | exact lw_nilp | exact lw_nils | exact lw_str | exact lw_slo_nils | exact lw_slo_sle | exact lw_sl rfl | exact lw_unb | exact lw_gptr | exact lw_noid rfl | exact lw_cap rfl (Nat.le_refl _) | exact lw_cap rfl (by omega) | assumption)) ?_); exact lws_nil)))) ?_); exact okTms_nil), by ((repeat refine okBlks_cons (by (first | exact lb_dead | exact lb_same (by (first | assumption | exact noIds_tab (fun _ => rfl) _ _ | exact noIds_encL (fun _ => rfl) _ | rfl)) | exact lb_ro (by (first | assumption | exact noIds_tab (fun _ => rfl) _ _ | exact noIds_encL (fun _ => rfl) _ | rfl)) | exact lb_none | exact lb_cells (by ((repeat refine lws_cons (by (first | exact lw_any | exact lw_int | exact lw_bool | exact lw_ptr rfl | exact lw_slo rfl | exact lw_nilp | exact lw_nils | exact lw_str | exact lw_slo_nils | exact lw_slo_sle | exact lw_sl rfl | exact lw_unb | exact lw_gptr | exact lw_noid rfl | exact lw_cap rfl (Nat.le_refl _) | exact lw_cap rfl (by omega) | assumption | exact lw_tup (by ((repeat refine lws_cons (by (first | exact lw_any | exact lw_int | exact lw_bool | exact lw_ptr rfl | exact lw_slo rfl | exact lw_nilp | exact lw_nils | exact lw_str | exact lw_slo_nils | exact lw_slo_sle | exact lw_sl rfl | exact lw_unb | exact lw_gptr | exact lw_noid rfl | exact lw_cap rfl (Nat.le_refl _) | exact lw_cap rfl (by omega) | assumption)) ?_); exact lws_nil)))) ?_); exact lws_nil)) (by simp) | exact lb_iter | exact lb_cap (Nat.le_refl _) (Nat.le_refl _) rfl rfl | exact lb_capn (by assumption) (by (first | assumption | exact noIds_tab (fun _ => rfl) _ _ | exact noIds_encL (fun _ => rfl) _ | rfl)) | assumption)) ?_); exact okBlks_nil)⟩)⟩
      · (repeat (first | (with_reducible refine way_t (by (first | with_reducible rfl | exact t_le (by omega) | exact t_eq (by omega) | exact t_nn (by omega) | exact t_lss (by omega) | exact t_leq (by omega) | exact t_gtr (by omega) | exact t_geq (by omega) | exact t_eql (by omega) | exact t_neq (by omega) | exact t_z (by omega) | exact wd_not_f | assumption)) ?_) | (with_reducible refine way_f (by (first | with_reducible rfl | exact f_le (by omega) | exact f_eq (by omega) | exact f_nn (by omega) | exact f_lss (by omega) | exact f_leq (by omega) | exact f_gtr (by omega) | exact f_geq (by omega) | exact f_eql (by omega) | exact f_neq (by omega) | exact f_z (by omega) | exact wd_not_t | assumption)) ?_)))
        exact ⟨rfl, ⟨(), by omega⟩, [.id 0, .id 1, .none], by (exact ⟨by kernel_rfl, by ((repeat refine okTms_cons (by (first | exact lw_any | exact lw_int | exact lw_bool | exact lw_ptr rfl | exact lw_slo rfl | exact lw_nilp | exact lw_nils | exact lw_str | exact lw_slo_nils | exact lw_slo_sle | exact lw_sl rfl | exact lw_unb | exact lw_gptr | exact lw_noid rfl | exact lw_cap rfl (Nat.le_refl _) | exact lw_cap rfl (by omega) | assumption | exact lw_tup (by ((repeat refine lws_cons (by (first | exact lw_any | exact lw_int | exact lw_bool | exact lw_ptr rfl | exact lw_slo rfl | exact lw_nilp | exact lw_nils | exact lw_str | exact lw_slo_nils | exact lw_slo_sle | exact lw_sl rfl | exact lw_unb | exact lw_gptr | exact lw_noid rfl | exact lw_cap rfl (Nat.le_refl _) | exact lw_cap rfl (by omega) | assumption)) ?_); exact lws_nil)))) ?_); exact okTms_nil), by ((repeat refine okBlks_cons (by (first | exact lb_dead | exact lb_same (by (first | assumption | exact noIds_tab (fun _ => rfl) _ _ | exact noIds_encL (fun _ => rfl) _ | rfl)) | exact lb_ro (by (first | assumption | exact noIds_tab (fun _ => rfl) _ _ | exact noIds_encL (fun _ => rfl) _ | rfl)) | exact lb_none | exact lb_cells (by ((repeat refine lws_cons (by (first | exact lw_any | exact lw_int | exact lw_bool | exact lw_ptr rfl | exact lw_slo rfl | exact lw_nilp | exact lw_nils | exact lw_str | exact lw_slo_nils | exact lw_slo_sle | exact lw_sl rfl | exact lw_unb | exact lw_gptr | exact lw_noid rfl | exact lw_cap rfl (Nat.le_refl _) | exact lw_cap rfl (by omega) | assumption | exact lw_tup (by ((repeat refine lws_cons (by (first | exact lw_any | exact lw_int | exact lw_bool | exact lw_ptr rfl | exact lw_slo rfl | exact lw_nilp | exact lw_nils | exact lw_str | exact lw_slo_nils | exact lw_slo_sle | exact lw_sl rfl | exact lw_unb | exact lw_gptr | exact lw_noid rfl | exact lw_cap rfl (Nat.le_refl _) | exact lw_cap rfl (by omega) | assumption)) ?_); exact lws_nil)))) ?_); exact lws_nil)) (by simp) | exact lb_iter | exact lb_cap (Nat.le_refl _) (Nat.le_refl _) rfl rfl | exact lb_capn (by assumption) (by (first | assumption | exact noIds_tab (fun _ => rfl) _ _ | exact noIds_encL (fun _ => rfl) _ | rfl)) | assumption)) ?_); exact okBlks_nil)⟩)⟩
  refine SSp.code_to (g := gtab) 8 rfl (σ := Unit) (fun _ => maT xs.length cs.length cs.length near) (fun _ => maH (encL (cI .u64) xs) (encL cell cs) (encL cell (nearL near cs cs.length))) (by kernel_rfl) ?_ fun _ => ?_
  · refine SCode.loop_vc cxm_ok (n := 60) 0 (by kernel_rfl) (σ := {k : Nat // k ≤ cs.length}) (fun k => maT xs.length cs.length k.1 near) (fun k => maH (encL (cI .u64) xs) (encL cell cs) (encL cell (nearL near cs k.1))) (fun k => cs.length - k.1) (fun _ => Nat.le_of_ble_eq_true rfl) (fun ⟨k, hk⟩ => ?_) ⟨0, Nat.zero_le _⟩
    dsimp only
    have hl := nearL_len (near := near) hk
    have n1 := ny k
    rw [ma_b]
    by_cases h0 : k < cs.length
    · have n2 := ny (k + 1)
      have es := nearL_succ (near := near) h0
      have pu := cell_push (nearL near cs k) (nearC near cs[k]).1 (nearC near cs[k]).2
      rw [hl] at pu
      rw [es] at n2
      cases near with
      | true =>
        have pu : xcat (xcut (encL cell (nearL true cs k)) 0 (k * 2)) [.int .i64 (wthV cs[k].1 (-1) 70), .int .u64 cs[k].2] = encL cell (nearL true cs k ++ [nearC true cs[k]]) := pu
        simp only [wd_nat, wd_asV, wd_isV, wd_ix, wd_add, wd_mul, wd_ln, Nat.zero_add, Nat.mul_one, wd_isI, wd_asI, wd_isB, wd_asB, wd_nn, cI_tlen, cB_tlen, cII_tlen, decide_true, cond_true, wd_not_t, wd_not_f, wd_and_t, wd_and_f, cell_0 h0, cell_1 h0, cell_n, inc_i64 h0 (by omega), hl, pu]
        (repeat (first | (with_reducible refine way_t (by (first | with_reducible rfl | exact t_le (by omega) | exact t_eq (by omega) | exact t_nn (by omega) | exact t_lss (by omega) | exact t_leq (by omega) | exact t_gtr (by omega) | exact t_geq (by omega) | exact t_eql (by omega) | exact t_neq (by omega) | exact t_z (by omega) | exact wd_not_f | assumption)) ?_) | (with_reducible refine way_f (by (first | with_reducible rfl | exact f_le (by omega) | exact f_eq (by omega) | exact f_nn (by omega) | exact f_lss (by omega) | exact f_leq (by omega) | exact f_gtr (by omega) | exact f_geq (by omega) | exact f_eql (by omega) | exact f_neq (by omega) | exact f_z (by omega) | exact wd_not_t | assumption)) ?_)))
        exact ⟨rfl, ⟨k + 1, h0⟩, by simp only; omega, [.id 0, .id 1, .id 5], by dsimp only; rw [es]; (exact ⟨by kernel_rfl, by ((repeat refine okTms_cons (by (first | exact lw_any | exact lw_int | exact lw_bool | exact lw_ptr rfl | exact lw_slo rfl | exact lw_nilp | exact lw_nils | exact lw_str | exact lw_slo_nils | exact lw_slo_sle | exact lw_sl rfl | exact lw_unb | exact lw_gptr | exact lw_noid rfl | exact lw_cap rfl (Nat.le_refl _) | exact lw_cap rfl (by omega) | assumption | exact lw_tup (by ((repeat refine lws_cons (by (first | exact lw_any | exact lw_int | exact lw_bool | exact lw_ptr rfl | exact lw_slo rfl | exact lw_nilp | exact lw_nils | exact lw_str | exact lw_slo_nils | exact lw_slo_sle | exact lw_sl rfl | exact lw_unb | exact lw_gptr | exact lw_noid rfl | exact lw_cap rfl (Nat.le_refl _) | exact lw_cap rfl (by omega) | assumption)) ?_); exact lws_nil)))) ?_); exact okTms_nil), by ((repeat refine okBlks_cons (by (first | exact lb_dead | exact lb_same (by (first | assumption | exact noIds_tab (fun _ => rfl) _ _ | exact noIds_encL (fun _ => rfl) _ | rfl)) | exact lb_ro (by (first | assumption | exact noIds_tab (fun _ => rfl) _ _ | exact noIds_encL (fun _ => rfl) _ | rfl)) | exact lb_none | exact lb_cells (by ((repeat refine lws_cons (by (first | exact lw_any | exact lw_int | exact lw_bool | exact lw_ptr rfl | exact lw_slo rfl | exact lw_nilp | exact lw_nils | exact lw_str | exact lw_slo_nils | exact lw_slo_sle | exact lw_sl rfl | exact lw_unb | exact lw_gptr | exact lw_noid rfl | exact lw_cap rfl (Nat.le_refl _) | exact lw_cap rfl (by omega) | assumption | exact lw_tup (by ((repeat refine lws_cons (by (first | exact lw_any | exact lw_int | exact lw_bool | exact lw_ptr rfl | exact lw_slo rfl | exact lw_nilp | exact lw_nils | exact lw_str | exact lw_slo_nils | exact lw_slo_sle | exact lw_sl rfl | exact lw_unb | exact lw_gptr | exact lw_noid rfl | exact lw_cap rfl (Nat.le_refl _) | exact lw_cap rfl (by omega) | assumption)) ?_); exact lws_nil)))) ?_); exact lws_nil)) (by simp) | exact lb_iter | exact lb_cap (Nat.le_refl _) (Nat.le_refl _) rfl rfl | exact lb_capn (by assumption) (by (first | assumption | exact noIds_tab (fun _ => rfl) _ _ | exact noIds_encL (fun _ => rfl) _ | rfl)) | assumption)) ?_); exact okBlks_nil)⟩)⟩
      | false =>
        have pu : xcat (xcut (encL cell (nearL false cs k)) 0 (k * 2)) [.int .i64 cs[k].1, .int .u64 cs[k].2] = encL cell (nearL false cs k ++ [nearC false cs[k]]) := pu
        simp only [wd_nat, wd_asV, wd_isV, wd_ix, wd_add, wd_mul, wd_ln, Nat.zero_add, Nat.mul_one, wd_isI, wd_asI, wd_isB, wd_asB, wd_nn, cI_tlen, cB_tlen, cII_tlen, decide_true, cond_true, wd_not_t, wd_not_f, wd_and_t, wd_and_f, cell_0 h0, cell_1 h0, cell_n, inc_i64 h0 (by omega), hl, pu]
        (repeat (first | (with_reducible refine way_t (by (first | with_reducible rfl | exact t_le (by omega) | exact t_eq (by omega) | exact t_nn (by omega) | exact t_lss (by omega) | exact t_leq (by omega) | exact t_gtr (by omega) | exact t_geq (by omega) | exact t_eql (by omega) | exact t_neq (by omega) | exact t_z (by omega) | exact wd_not_f | assumption)) ?_) | (with_reducible refine way_f (by (first | with_reducible rfl | exact f_le (by omega) | exact f_eq (by omega) | exact f_nn (by omega) | exact f_lss (by omega) | exact f_leq (by omega) | exact f_gtr (by omega) | exact f_geq (by omega) | exact f_eql (by omega) | exact f_neq (by omega) | exact f_z (by omega) | exact wd_not_t | assumption)) ?_)))
        exact ⟨rfl, ⟨k + 1, h0⟩, by simp only; omega, [.id 0, .id 1, .id 5], by dsimp only; rw [es]; (exact ⟨by kernel_rfl, by ((repeat refine okTms_cons (by (first | exact lw_any | exact lw_int | exact lw_bool | exact lw_ptr rfl | exact lw_slo rfl | exact lw_nilp | exact lw_nils | exact lw_str | exact lw_slo_nils | exact lw_slo_sle | exact lw_sl rfl | exact lw_unb | exact lw_gptr | exact lw_noid rfl | exact lw_cap rfl (Nat.le_refl _) | exact lw_cap rfl (by omega) | assumption | exact lw_tup (by ((repeat refine lws_cons (by (first | exact lw_any | exact lw_int | exact lw_bool | exact lw_ptr rfl | exact lw_slo rfl | exact lw_nilp | exact lw_nils | exact lw_str | exact lw_slo_nils | exact lw_slo_sle | exact lw_sl rfl | exact lw_unb | exact lw_gptr | exact lw_noid rfl | exact lw_cap rfl (Nat.le_refl _) | exact lw_cap rfl (by omega) | assumption)) ?_); exact lws_nil)))) ?_); exact okTms_nil), by ((repeat refine okBlks_cons (by (first | exact lb_dead | exact lb_same (by (first | assumption | exact noIds_tab (fun _ => rfl) _ _ | exact noIds_encL (fun _ => rfl) _ | rfl)) | exact lb_ro (by (first | assumption | exact noIds_tab (fun _ => rfl) _ _ | exact noIds_encL (fun _ => rfl) _ | rfl)) | exact lb_none | exact lb_cells (by ((repeat refine lws_cons (by (first | exact lw_any | exact lw_int | exact lw_bool | exact lw_ptr rfl | exact lw_slo rfl | exact lw_nilp | exact lw_nils | exact lw_str | exact lw_slo_nils | exact lw_slo_sle | exact lw_sl rfl | exact lw_unb | exact lw_gptr | exact lw_noid rfl | exact lw_cap rfl (Nat.le_refl _) | exact lw_cap rfl (by omega) | assumption | exact lw_tup (by ((repeat refine lws_cons (by (first | exact lw_any | exact lw_int | exact lw_bool | exact lw_ptr rfl | exact lw_slo rfl | exact lw_nilp | exact lw_nils | exact lw_str | exact lw_slo_nils | exact lw_slo_sle | exact lw_sl rfl | exact lw_unb | exact lw_gptr | exact lw_noid rfl | exact lw_cap rfl (Nat.le_refl _) | exact lw_cap rfl (by omega) | assumption)) ?_); exact lws_nil)))) ?_); exact lws_nil)) (by simp) | exact lb_iter | exact lb_cap (Nat.le_refl _) (Nat.le_refl _) rfl rfl | exact lb_capn (by assumption) (by (first | assumption | exact noIds_tab (fun _ => rfl) _ _ | exact noIds_encL (fun _ => rfl) _ | rfl)) | assumption)) ?_); exact okBlks_nil)⟩)⟩
    · obtain rfl : k = cs.length := by omega
      (repeat (first | (with_reducible refine way_t (by (first | with_reducible rfl | exact t_le (by omega) | exact t_eq (by omega) | exact t_nn (by omega) | exact t_lss (by omega) | exact t_leq (by omega) | exact t_gtr (by omega) | exact t_geq (by omega) | exact t_eql (by omega) | exact t_neq (by omega) | exact t_z (by omega) | exact wd_not_f | assumption)) ?_) | (with_reducible refine way_f (by (first | with_reducible rfl | exact f_le (by omega) | exact f_eq (by omega) | exact f_nn (by omega) | exact f_lss (by omega) | exact f_leq (by omega) | exact f_gtr (by omega) | exact f_geq (by omega) | exact f_eql (by omega) | exact f_neq (by omega) | exact f_z (by omega) | exact wd_not_t | assumption)) ?_)))
      exact ⟨rfl, (), [.id 0, .id 1, .id 2], by (exact ⟨by kernel_rfl, by ((repeat refine okTms_cons (by (first | exact lw_any | exact lw_int | exact lw_bool | exact lw_ptr rfl | exact lw_slo rfl | exact lw_nilp | exact lw_nils | exact lw_str | exact lw_slo_nils | exact lw_slo_sle | exact lw_sl rfl | exact lw_unb | exact lw_gptr | exact lw_noid rfl | exact lw_cap rfl (Nat.le_refl _) | exact lw_cap rfl (by omega) | assumption | exact lw_tup (by ((repeat refine lws_cons (by (first | exact lw_any | exact lw_int | exact lw_bool | exact lw_ptr rfl | exact lw_slo rfl | exact lw_nilp | exact lw_nils | exact lw_str | exact lw_slo_nils | exact lw_slo_sle | exact lw_sl rfl | exact lw_unb | exact lw_gptr | exact lw_noid rfl | exact lw_cap rfl (Nat.le_refl _) | exact lw_cap rfl (by omega) | assumption)) ?_); exact lws_nil)))) ?_); exact okTms_nil), by ((repeat refine okBlks_cons (by (first | exact lb_dead | exact lb_same (by (first | assumption | exact noIds_tab (fun _ => rfl) _ _ | exact noIds_encL (fun _ => rfl) _ | rfl)) | exact lb_ro (by (first | assumption | exact noIds_tab (fun _ => rfl) _ _ | exact noIds_encL (fun _ => rfl) _ | rfl)) | exact lb_none | exact lb_cells (by ((repeat refine lws_cons (by (first | exact lw_any | exact lw_int | exact lw_bool | exact lw_ptr rfl | exact lw_slo rfl | exact lw_nilp | exact lw_nils | exact lw_str | exact lw_slo_nils | exact lw_slo_sle | exact lw_sl rfl | exact lw_unb | exact lw_gptr | exact lw_noid rfl | exact lw_cap rfl (Nat.le_refl _) | exact lw_cap rfl (by omega) | assumption | exact lw_tup (by ((repeat refine lws_cons (by (first | exact lw_any | exact lw_int | exact lw_bool | exact lw_ptr rfl | exact lw_slo rfl | exact lw_nilp | exact lw_nils | exact lw_str | exact lw_slo_nils | exact lw_slo_sle | exact lw_sl rfl | exact lw_unb | exact lw_gptr | exact lw_noid rfl | exact lw_cap rfl (Nat.le_refl _) | exact lw_cap rfl (by omega) | assumption)) ?_); exact lws_nil)))) ?_); exact lws_nil)) (by simp) | exact lb_iter | exact lb_cap (Nat.le_refl _) (Nat.le_refl _) rfl rfl | exact lb_capn (by assumption) (by (first | assumption | exact noIds_tab (fun _ => rfl) _ _ | exact noIds_encL (fun _ => rfl) _ | rfl)) | assumption)) ?_); exact okBlks_nil)⟩)⟩
  refine SSp.last cxm_ok (n := 60) (mkS_le (Nat.le_of_ble_eq_true rfl)) ?_
  have hl := nearL_len (near := near) (Nat.le_refl cs.length)
  have n1 := ny cs.length
  have oC : okC (encL cell (nearL near cs cs.length)) cs.length = true := okC_iff.2 ⟨_, rfl, hl, by omega⟩
  have oA : okIu64 (apC (encL (cI .u64) xs) (encL cell (nearL near cs cs.length))) (clN xs.length) = true := by
    have hc := clN_le xs.length
    rw [apC, decIu64_enc]
    exact okIu64_iff.2 ⟨_, rfl, by rw [apN_len, hw0_len], by omega⟩
  have n2 := noIds_ap (encL (cI .u64) xs) (encL cell (nearL near cs cs.length))
  rw [ma_z]
  simp only [okIu64_enc hx, oC, oA, sameIu64_self, cond_true]
  (repeat (first | (with_reducible refine way_t (by (first | with_reducible rfl | exact t_le (by omega) | exact t_eq (by omega) | exact t_nn (by omega) | exact t_lss (by omega) | exact t_leq (by omega) | exact t_gtr (by omega) | exact t_geq (by omega) | exact t_eql (by omega) | exact t_neq (by omega) | exact t_z (by omega) | exact wd_not_f | assumption)) ?_) | (with_reducible refine way_f (by (first | with_reducible rfl | exact f_le (by omega) | exact f_eq (by omega) | exact f_nn (by omega) | exact f_lss (by omega) | exact f_leq (by omega) | exact f_gtr (by omega) | exact f_geq (by omega) | exact f_eql (by omega) | exact f_neq (by omega) | exact f_z (by omega) | exact wd_not_t | assumption)) ?_)))
  exact ⟨trivial, rfl, .bool true, [.ro _, .ro _], [.id 0, .id 1], rfl, by (exact ⟨by kernel_rfl, by ((repeat refine okTms_cons (by (first | exact lw_any | exact lw_int | exact lw_bool | exact lw_ptr rfl | exact lw_slo rfl | exact lw_nilp | exact lw_nils | exact lw_str | exact lw_slo_nils | exact lw_slo_sle | exact lw_sl rfl | exact lw_unb | exact lw_gptr | exact lw_noid rfl | exact lw_cap rfl (Nat.le_refl _) | exact lw_cap rfl (by omega) | assumption | exact lw_tup (by ((repeat refine lws_cons (by (first | exact lw_any | exact lw_int | exact lw_bool | exact lw_ptr rfl | exact lw_slo rfl | exact lw_nilp | exact lw_nils | exact lw_str | exact lw_slo_nils | exact lw_slo_sle | exact lw_sl rfl | exact lw_unb | exact lw_gptr | exact lw_noid rfl | exact lw_cap rfl (Nat.le_refl _) | exact lw_cap rfl (by omega) | assumption)) ?_); exact lws_nil)))) ?_); exact okTms_nil), by ((repeat refine okBlks_cons (by (first | exact lb_dead | exact lb_same (by (first | assumption | exact noIds_tab (fun _ => rfl) _ _ | exact noIds_encL (fun _ => rfl) _ | rfl)) | exact lb_ro (by (first | assumption | exact noIds_tab (fun _ => rfl) _ _ | exact noIds_encL (fun _ => rfl) _ | rfl)) | exact lb_none | exact lb_cells (by ((repeat refine lws_cons (by (first | exact lw_any | exact lw_int | exact lw_bool | exact lw_ptr rfl | exact lw_slo rfl | exact lw_nilp | exact lw_nils | exact lw_str | exact lw_slo_nils | exact lw_slo_sle | exact lw_sl rfl | exact lw_unb | exact lw_gptr | exact lw_noid rfl | exact lw_cap rfl (Nat.le_refl _) | exact lw_cap rfl (by omega) | assumption | exact lw_tup (by ((repeat refine lws_cons (by (first | exact lw_any | exact lw_int | exact lw_bool | exact lw_ptr rfl | exact lw_slo rfl | exact lw_nilp | exact lw_nils | exact lw_str | exact lw_slo_nils | exact lw_slo_sle | exact lw_sl rfl | exact lw_unb | exact lw_gptr | exact lw_noid rfl | exact lw_cap rfl (Nat.le_refl _) | exact lw_cap rfl (by omega) | assumption)) ?_); exact lws_nil)))) ?_); exact lws_nil)) (by simp) | exact lb_iter | exact lb_cap (Nat.le_refl _) (Nat.le_refl _) rfl rfl | exact lb_capn (by assumption) (by (first | assumption | exact noIds_tab (fun _ => rfl) _ _ | exact noIds_encL (fun _ => rfl) _ | rfl)) | assumption)) ?_); exact okBlks_nil)⟩)⟩
theorem apply_any {H : Type} {enc : TypeId × Value → H} {W : World} {a0 a1 : Option Addr} {len0 cap0 len1 cap1 : Nat} {d0 d1 : DataW H} {p0 p1 : List MemPlace} (near : Bool) (hg : Gl W gtab) (h0 : DataW.Trod enc Go.Proofs.Tryz.prog W 0 (fun _ => true) true 22 (.slice a0 len0 cap0) d0 p0)
    (h1 : DataW.Trod enc Go.Proofs.Tryz.prog W 0 (fun _ => true) true 23 (.slice a1 len1 cap1) d1 p1) : Calls Go.Proofs.Tryz.prog 3 #[.slice a0 len0 cap0, .slice a1 len1 cap1, .bool near] W fun e W' => e = .returned (.bool true) ∧ Below W.heap.size W W' := by
  obtain ⟨g0, n0, _, r0⟩ := ints_row Go.Proofs.Tryz.underlying22 Go.Proofs.Tryz.underlying25 (by kernel_rfl) h0
  obtain ⟨g1, n1, _, r1⟩ := pairs_row Go.Proofs.Tryz.underlying23 Go.Proofs.Tryz.underlying27 (by kernel_rfl) (by kernel_rfl) rfl rfl rfl Go.Proofs.Tryz.underlying3 Go.Proofs.Tryz.underlying25 h1
  have e0 : ((List.range len0).map g0).length = len0 := by simp
  have e1 : ((List.range len1).map g1).length = len1 := by simp
  refine SFun.top (rows := [(.slice a0 len0 cap0, len0, tab (cI .u64) len0 g0), (.slice a1 len1 cap1, len1, tab cell len1 g1)]) (g := gtab) (us := [.slice a0 len0 cap0, .slice a1 len1 cap1, .bool near]) ⟨r0, r1, trivial⟩ hg (fun r h => ?_) (apply_fun len0 len1 near ((List.range len0).map g0) ((List.range len1).map g1) e0 e1 n0)
  simp only [VRs, VR]
  exact ⟨_, _, rfl, h 0 _ _ _ rfl, _, _, rfl, h 1 _ _ _ rfl, _, _, rfl, rfl, rfl⟩
end
end Go.Lev
