/- WritesStripes (P8.2): for all cells, all numbers, the law returns true; what was there stays as it was. No condition. -/
import Derived.Test.YtdbbgfefllmeaaaCW9
import Derived.Test.YtdbbgfefllmeaaaLc
import Derived.Test.YtdbbgfefllmeaaaChecked
import Derived.KernelRfl

namespace Go.Lev
open Go.RowKit
set_option linter.unusedVariables false
set_option linter.unusedSimpArgs false
set_option maxRecDepth 100000
noncomputable section
def cxt : Cx := cxl [(3, runG), (20, withinG), (12, stG), (22, stG), (21, sameIi64G)]
abbrev tL : List Nat := [0, 1, 2, 3, 8, 9, 10]
abbrev tT (na k : Nat) (n w : Int) (r : Bool) : List (Nat × LV) := [(0, .slo 0 0 na 0), (1, .int .i64 n), (2, .int .i64 w), (3, .bool r), (9, .slo 1 0 k 0), (10, .int .i64 k)]
abbrev tH (ax ls : List LV) : List LB := [.ro ax, .cells ls (some 2)]
theorem lst_a (n w : Int) (r : Bool) (na : Nat) (ax : List LV) (K : Pk) : (xsp Go.Proofs.Try.prog cxt 40 46 (seg (sp Go.Proofs.Try.prog 5) 0 7) (tm0 [.slo 0 0 na 0, .int .i64 n, .int .i64 w, .bool r]) (mkS [.ro ax]) (vK tL K)) = (
  bif xcm .gtr (↑na) 200 then (
   K .ret [.slo 0 0 na 0, .int .i64 n, .int .i64 w, .bool r, .bool true, .tup [], .tup []] [some (.ro ax)] [])
  else (
   K .normal [.slo 0 0 na 0, .int .i64 n, .int .i64 w, .bool r, .bool false, .nils, .int .i64 0] [some (.ro ax)] [])) := by kernel_rfl
theorem lst_b (n w : Int) (r : Bool) (na k : Nat) (ax ls : List LV) (K : Pk) : (xcode Go.Proofs.Try.prog cxt 40 46 (loopOf (nthC (sp Go.Proofs.Try.prog 5) 7)) (mkTm 46 (tT na k n w r)) (mkS (tH ax ls)) (vK tL K)) = (
  bif xcm .lss ↑k ↑na then (
   bif xle (xadd (xnat ↑k) 1) na then
   bif xle (xadd (xix 0 (xnat ↑k) 2) 2) (xln ax) then
   bif isI .i64 (nthD ax (xix 0 (xnat ↑k) 2)) then
   bif isI .u64 (nthD ax (xadd (xix 0 (xnat ↑k) 2) 1)) then
   bif xnot r then (
    bif xle (xadd k 1) 1000000 then
    bif xle (xadd 0 (xmul k 2)) (xln ls) then
    K .normal [.slo 0 0 na 0, .int .i64 n, .int .i64 w, .bool r, .any, .slo 4 0 (xadd k 1) 0, .int .i64 (xar .add .i64 (↑k) 1)] [some (.ro ax), some .dead, some (.cells [.int .i64 (wthV (asI (nthD ax (xix 0 (xnat ↑k) 2))) 1 255), .int .u64 (asI (nthD ax (xadd (xix 0 (xnat ↑k) 2) 1)))] none), some (.cells [.int .i64 (wthV (asI (nthD ax (xix 0 (xnat ↑k) 2))) 1 255), .int .u64 (asI (nthD ax (xadd (xix 0 (xnat ↑k) 2) 1)))] none), some (.cells (xcat (xcut ls 0 (xmul k 2)) [.int .i64 (wthV (asI (nthD ax (xix 0 (xnat ↑k) 2))) 1 255), .int .u64 (asI (nthD ax (xadd (xix 0 (xnat ↑k) 2) 1)))]) (some 2))] []
    else False
    else False)
   else (
    bif xle (xadd k 1) 1000000 then
    bif xle (xadd 0 (xmul k 2)) (xln ls) then
    K .normal [.slo 0 0 na 0, .int .i64 n, .int .i64 w, .bool r, .any, .slo 4 0 (xadd k 1) 0, .int .i64 (xar .add .i64 (↑k) 1)] [some (.ro ax), some .dead, some (.cells [.int .i64 (asI (nthD ax (xix 0 (xnat ↑k) 2))), .int .u64 (asI (nthD ax (xadd (xix 0 (xnat ↑k) 2) 1)))] none), some (.cells [.int .i64 (asI (nthD ax (xix 0 (xnat ↑k) 2))), .int .u64 (asI (nthD ax (xadd (xix 0 (xnat ↑k) 2) 1)))] none), some (.cells (xcat (xcut ls 0 (xmul k 2)) [.int .i64 (asI (nthD ax (xix 0 (xnat ↑k) 2))), .int .u64 (asI (nthD ax (xadd (xix 0 (xnat ↑k) 2) 1)))]) (some 2))] []
    else False
    else False)
   else False
   else False
   else False
   else False)
  else (
   K (.exit 0) [.slo 0 0 na 0, .int .i64 n, .int .i64 w, .bool r, .any, .slo 1 0 k 0, .int .i64 ↑k] [some (.ro ax), some (.cells ls (some 2))] [])) := by kernel_rfl
theorem lst_z (n w : Int) (r : Bool) (na k : Nat) (ax ls : List LV) (K : Pk) : (xsp Go.Proofs.Try.prog cxt 40 46 ((sp Go.Proofs.Try.prog 5).drop 8) (mkTm 46 (tT na k n w r)) (mkS (tH ax ls)) (vK tL K)) = (
  bif okC ls k then
  bif okC ls k then
  bif okIi64 (stC k ls n w) (stN k ls n w) then
  bif okIi64 (stC k ls n w) (stN k ls n w) then
  K .ret [.slo 0 0 na 0, .int .i64 n, .int .i64 w, .bool r, .bool (sameIi64 (stN k ls n w) (stN k ls n w) (stC k ls n w) (stC k ls n w)), .slo 1 0 k 0, .int .i64 ↑k] [some (.ro ax), some (.cells ls (some 2)), some (.cells (stC k ls n w) (some 1)), some (.cells (stC k ls n w) (some 1))] []
  else False
  else False
  else False
  else False) := by kernel_rfl
theorem cxt_ok : CtrOk Go.Proofs.Try.prog (ctrOf cxt) := cxl_ok ⟨runG_ok runs8, withinG_ok, wstG_ok, rstG_ok, sameIi64G_ok, trivial⟩
def cgF (r : Bool) (ag : Nat → Int × Int) : Nat → Int × Int := fun i => (if r then (ag i).1 else wthV (ag i).1 1 255, (ag i).2)
theorem lst_fun (n w : Int) (r : Bool) {na : Nat} (hna : na ≤ 9223372036854775807) (ag : Nat → Int × Int) :
    SFun Go.Proofs.Try.prog 5 [.slo 0 0 na 0, .int .i64 n, .int .i64 w, .bool r] (mkS [.ro (tab cell na ag)]) fun l _ => l = .bool true := by
  refine SFun.mono (SFun.pieces (Q := fun l _ => l = .bool true) 46 1 tL [8] (by kernel_rfl) rfl rfl rfl ?_) fun l s' ⟨b0, h1, _⟩ => h1
  have nax := noIds_cII .i64 .u64 na ag
  refine SSp.to cxt_ok (n := 40) (g := []) 7 7 rfl (σ := {_k : Unit // na ≤ 200}) (fun _ => tT na 0 n w r) (fun _ => tH (tab cell na ag) []) (mkS_le (Nat.le_refl _)) (by kernel_rfl) ?_ fun ⟨_, h200⟩ => ?_
  · rw [lst_a, show (200 : Int) = ((200 : Nat) : Int) from rfl, wd_gtr]
    refine ite_way (fun h => ?_) (fun h => ?_)
    · exact ⟨trivial, rfl, _, [.ro _], [.id 0], rfl, by (exact ⟨by kernel_rfl, by ((repeat refine okTms_cons (by (first | exact lw_any | exact lw_int | exact lw_bool | exact lw_ptr rfl | exact lw_slo rfl | exact lw_nilp | exact lw_nils | exact lw_str | exact lw_slo_nils | exact lw_slo_sle | exact lw_sl rfl | exact lw_unb | exact lw_gptr | exact lw_noid rfl | exact lw_cap rfl (Nat.le_refl _) | exact lw_cap rfl (by omega) | assumption)) ?_); exact okTms_nil), by ((repeat refine okBlks_cons (by (first | exact lb_dead | exact lb_same (by (first | assumption | exact noIds_tab (fun _ => rfl) _ _ | exact noIds_encL (fun _ => rfl) _ | rfl)) | exact lb_ro (by (first | assumption | exact noIds_tab (fun _ => rfl) _ _ | exact noIds_encL (fun _ => rfl) _ | rfl)) | exact lb_none | exact lb_cells (by ((repeat refine lws_cons (by (first | exact lw_any | exact lw_int | exact lw_bool | exact lw_ptr rfl | exact lw_slo rfl | exact lw_nilp | exact lw_nils | exact lw_str | exact lw_slo_nils | exact lw_slo_sle | exact lw_sl rfl | exact lw_unb | exact lw_gptr | exact lw_noid rfl | exact lw_cap rfl (Nat.le_refl _) | exact lw_cap rfl (by omega) | assumption)) ?_); exact lws_nil)) (by simp) | exact lb_iter | exact lb_cap (Nat.le_refl _) (Nat.le_refl _) rfl rfl | assumption)) ?_); exact okBlks_nil)⟩)⟩
    · exact ⟨rfl, ⟨(), by omega⟩, [.id 0, .none], by (exact ⟨by kernel_rfl, by ((repeat refine okTms_cons (by (first | exact lw_any | exact lw_int | exact lw_bool | exact lw_ptr rfl | exact lw_slo rfl | exact lw_nilp | exact lw_nils | exact lw_str | exact lw_slo_nils | exact lw_slo_sle | exact lw_sl rfl | exact lw_unb | exact lw_gptr | exact lw_noid rfl | exact lw_cap rfl (Nat.le_refl _) | exact lw_cap rfl (by omega) | assumption)) ?_); exact okTms_nil), by ((repeat refine okBlks_cons (by (first | exact lb_dead | exact lb_same (by (first | assumption | exact noIds_tab (fun _ => rfl) _ _ | exact noIds_encL (fun _ => rfl) _ | rfl)) | exact lb_ro (by (first | assumption | exact noIds_tab (fun _ => rfl) _ _ | exact noIds_encL (fun _ => rfl) _ | rfl)) | exact lb_none | exact lb_cells (by ((repeat refine lws_cons (by (first | exact lw_any | exact lw_int | exact lw_bool | exact lw_ptr rfl | exact lw_slo rfl | exact lw_nilp | exact lw_nils | exact lw_str | exact lw_slo_nils | exact lw_slo_sle | exact lw_sl rfl | exact lw_unb | exact lw_gptr | exact lw_noid rfl | exact lw_cap rfl (Nat.le_refl _) | exact lw_cap rfl (by omega) | assumption)) ?_); exact lws_nil)) (by simp) | exact lb_iter | exact lb_cap (Nat.le_refl _) (Nat.le_refl _) rfl rfl | assumption)) ?_); exact okBlks_nil)⟩)⟩
  refine SSp.code_to (g := []) 8 rfl (σ := Unit) (fun _ => tT na na n w r) (fun _ => tH (tab cell na ag) (tab cell na (cgF r ag))) (by kernel_rfl) ?_ fun _ => ?_
  · refine SCode.loop_vc cxt_ok (n := 40) 0 (by kernel_rfl) (σ := {k : Nat // k ≤ na}) (fun k => tT na k.1 n w r) (fun k => tH (tab cell na ag) (tab cell k.1 (cgF r ag))) (fun k => na - k.1) (fun _ => Nat.le_of_ble_eq_true rfl) (fun ⟨k, hkn⟩ => ?_) ⟨0, Nat.zero_le _⟩
    dsimp only
    have ec : tab cell (k + 1) (upd (cgF r ag) k (cgF r ag k)) = tab cell (k + 1) (cgF r ag) := tab_congr fun i _ => by
      simp only [upd]; split
      · rename_i e; subst e; rfl
      · rfl
    rw [lst_b, wd_lss]
    refine ite_way (fun hk => ?_) (fun hk => ?_)
    · simp only [wd_nat, wd_ix, wd_add, wd_mul, wd_ln, Nat.zero_add, Nat.mul_one, wd_isI, wd_asI, wd_isB, wd_asB, wd_nn, cI_tlen, cB_tlen, cII_tlen, decide_true, cond_true, wd_not_t, wd_not_f, wd_and_t, wd_and_f, cII_nth0 .i64 .u64 ag hk, cII_nth1 .i64 .u64 ag hk, inc_i64 hk hna, cII_push .i64 .u64 k (cgF r ag)]
      (repeat (with_reducible refine must (by (first | with_reducible rfl | exact t_le (by omega) | exact t_eq (by omega) | exact t_nn (by omega) | exact t_lss (by omega) | exact t_leq (by omega) | exact t_gtr (by omega) | exact t_geq (by omega) | exact t_eql (by omega) | exact t_neq (by omega) | exact t_z (by omega) | exact wd_not_f | assumption)) ?_))
      cases r with
      | false =>
        simp only [wd_nat, wd_ix, wd_add, wd_mul, wd_ln, Nat.zero_add, Nat.mul_one, wd_isI, wd_asI, wd_isB, wd_asB, wd_nn, cI_tlen, cB_tlen, cII_tlen, decide_true, cond_true, wd_not_t, wd_not_f, wd_and_t, wd_and_f]
        (repeat (with_reducible refine must (by (first | with_reducible rfl | exact t_le (by omega) | exact t_eq (by omega) | exact t_nn (by omega) | exact t_lss (by omega) | exact t_leq (by omega) | exact t_gtr (by omega) | exact t_geq (by omega) | exact t_eql (by omega) | exact t_neq (by omega) | exact t_z (by omega) | exact wd_not_f | assumption)) ?_))
        have e2 : ((wthV (ag k).1 1 255, (ag k).2) : Int × Int) = cgF false ag k := rfl
        exact ⟨rfl, ⟨k + 1, hk⟩, by simp only; omega, [.id 0, .id 4], by rw [e2, ec]; (exact ⟨by kernel_rfl, by ((repeat refine okTms_cons (by (first | exact lw_any | exact lw_int | exact lw_bool | exact lw_ptr rfl | exact lw_slo rfl | exact lw_nilp | exact lw_nils | exact lw_str | exact lw_slo_nils | exact lw_slo_sle | exact lw_sl rfl | exact lw_unb | exact lw_gptr | exact lw_noid rfl | exact lw_cap rfl (Nat.le_refl _) | exact lw_cap rfl (by omega) | assumption)) ?_); exact okTms_nil), by ((repeat refine okBlks_cons (by (first | exact lb_dead | exact lb_same (by (first | assumption | exact noIds_tab (fun _ => rfl) _ _ | exact noIds_encL (fun _ => rfl) _ | rfl)) | exact lb_ro (by (first | assumption | exact noIds_tab (fun _ => rfl) _ _ | exact noIds_encL (fun _ => rfl) _ | rfl)) | exact lb_none | exact lb_cells (by ((repeat refine lws_cons (by (first | exact lw_any | exact lw_int | exact lw_bool | exact lw_ptr rfl | exact lw_slo rfl | exact lw_nilp | exact lw_nils | exact lw_str | exact lw_slo_nils | exact lw_slo_sle | exact lw_sl rfl | exact lw_unb | exact lw_gptr | exact lw_noid rfl | exact lw_cap rfl (Nat.le_refl _) | exact lw_cap rfl (by omega) | assumption)) ?_); exact lws_nil)) (by simp) | exact lb_iter | exact lb_cap (Nat.le_refl _) (Nat.le_refl _) rfl rfl | assumption)) ?_); exact okBlks_nil)⟩)⟩
      | true =>
        simp only [wd_nat, wd_ix, wd_add, wd_mul, wd_ln, Nat.zero_add, Nat.mul_one, wd_isI, wd_asI, wd_isB, wd_asB, wd_nn, cI_tlen, cB_tlen, cII_tlen, decide_true, cond_true, wd_not_t, wd_not_f, wd_and_t, wd_and_f, cond_false]
        (repeat (with_reducible refine must (by (first | with_reducible rfl | exact t_le (by omega) | exact t_eq (by omega) | exact t_nn (by omega) | exact t_lss (by omega) | exact t_leq (by omega) | exact t_gtr (by omega) | exact t_geq (by omega) | exact t_eql (by omega) | exact t_neq (by omega) | exact t_z (by omega) | exact wd_not_f | assumption)) ?_))
        have e2 : (((ag k).1, (ag k).2) : Int × Int) = cgF true ag k := rfl
        exact ⟨rfl, ⟨k + 1, hk⟩, by simp only; omega, [.id 0, .id 4], by rw [e2, ec]; (exact ⟨by kernel_rfl, by ((repeat refine okTms_cons (by (first | exact lw_any | exact lw_int | exact lw_bool | exact lw_ptr rfl | exact lw_slo rfl | exact lw_nilp | exact lw_nils | exact lw_str | exact lw_slo_nils | exact lw_slo_sle | exact lw_sl rfl | exact lw_unb | exact lw_gptr | exact lw_noid rfl | exact lw_cap rfl (Nat.le_refl _) | exact lw_cap rfl (by omega) | assumption)) ?_); exact okTms_nil), by ((repeat refine okBlks_cons (by (first | exact lb_dead | exact lb_same (by (first | assumption | exact noIds_tab (fun _ => rfl) _ _ | exact noIds_encL (fun _ => rfl) _ | rfl)) | exact lb_ro (by (first | assumption | exact noIds_tab (fun _ => rfl) _ _ | exact noIds_encL (fun _ => rfl) _ | rfl)) | exact lb_none | exact lb_cells (by ((repeat refine lws_cons (by (first | exact lw_any | exact lw_int | exact lw_bool | exact lw_ptr rfl | exact lw_slo rfl | exact lw_nilp | exact lw_nils | exact lw_str | exact lw_slo_nils | exact lw_slo_sle | exact lw_sl rfl | exact lw_unb | exact lw_gptr | exact lw_noid rfl | exact lw_cap rfl (Nat.le_refl _) | exact lw_cap rfl (by omega) | assumption)) ?_); exact lws_nil)) (by simp) | exact lb_iter | exact lb_cap (Nat.le_refl _) (Nat.le_refl _) rfl rfl | assumption)) ?_); exact okBlks_nil)⟩)⟩
    · obtain rfl : k = na := by omega
      exact ⟨rfl, (), [.id 0, .id 1], by (exact ⟨by kernel_rfl, by ((repeat refine okTms_cons (by (first | exact lw_any | exact lw_int | exact lw_bool | exact lw_ptr rfl | exact lw_slo rfl | exact lw_nilp | exact lw_nils | exact lw_str | exact lw_slo_nils | exact lw_slo_sle | exact lw_sl rfl | exact lw_unb | exact lw_gptr | exact lw_noid rfl | exact lw_cap rfl (Nat.le_refl _) | exact lw_cap rfl (by omega) | assumption)) ?_); exact okTms_nil), by ((repeat refine okBlks_cons (by (first | exact lb_dead | exact lb_same (by (first | assumption | exact noIds_tab (fun _ => rfl) _ _ | exact noIds_encL (fun _ => rfl) _ | rfl)) | exact lb_ro (by (first | assumption | exact noIds_tab (fun _ => rfl) _ _ | exact noIds_encL (fun _ => rfl) _ | rfl)) | exact lb_none | exact lb_cells (by ((repeat refine lws_cons (by (first | exact lw_any | exact lw_int | exact lw_bool | exact lw_ptr rfl | exact lw_slo rfl | exact lw_nilp | exact lw_nils | exact lw_str | exact lw_slo_nils | exact lw_slo_sle | exact lw_sl rfl | exact lw_unb | exact lw_gptr | exact lw_noid rfl | exact lw_cap rfl (Nat.le_refl _) | exact lw_cap rfl (by omega) | assumption)) ?_); exact lws_nil)) (by simp) | exact lb_iter | exact lb_cap (Nat.le_refl _) (Nat.le_refl _) rfl rfl | assumption)) ?_); exact okBlks_nil)⟩)⟩
  refine SSp.last cxt_ok (n := 40) (mkS_le (by simp)) ?_
  rw [lst_z]
  have ok := okC_tab (cgF r ag) hna
  have hg := gat_len (metR (decG (tab cell na (cgF r ag))) n w na) 16
  have o2 : okIi64 (stC na (tab cell na (cgF r ag)) n w) (stN na (tab cell na (cgF r ag)) n w) = true := okIi64_enc (by omega)
  simp only [wd_nat, wd_ix, wd_add, wd_mul, wd_ln, Nat.zero_add, Nat.mul_one, wd_isI, wd_asI, wd_isB, wd_asB, wd_nn, cI_tlen, cB_tlen, cII_tlen, decide_true, cond_true, wd_not_t, wd_not_f, wd_and_t, wd_and_f, ok, o2, sameIi64_self]
  (repeat (with_reducible refine must (by (first | with_reducible rfl | exact t_le (by omega) | exact t_eq (by omega) | exact t_nn (by omega) | exact t_lss (by omega) | exact t_leq (by omega) | exact t_gtr (by omega) | exact t_geq (by omega) | exact t_eql (by omega) | exact t_neq (by omega) | exact t_z (by omega) | exact wd_not_f | assumption)) ?_))
  exact ⟨trivial, rfl, _, [.ro _], [.id 0], rfl, by (exact ⟨by kernel_rfl, by ((repeat refine okTms_cons (by (first | exact lw_any | exact lw_int | exact lw_bool | exact lw_ptr rfl | exact lw_slo rfl | exact lw_nilp | exact lw_nils | exact lw_str | exact lw_slo_nils | exact lw_slo_sle | exact lw_sl rfl | exact lw_unb | exact lw_gptr | exact lw_noid rfl | exact lw_cap rfl (Nat.le_refl _) | exact lw_cap rfl (by omega) | assumption)) ?_); exact okTms_nil), by ((repeat refine okBlks_cons (by (first | exact lb_dead | exact lb_same (by (first | assumption | exact noIds_tab (fun _ => rfl) _ _ | exact noIds_encL (fun _ => rfl) _ | rfl)) | exact lb_ro (by (first | assumption | exact noIds_tab (fun _ => rfl) _ _ | exact noIds_encL (fun _ => rfl) _ | rfl)) | exact lb_none | exact lb_cells (by ((repeat refine lws_cons (by (first | exact lw_any | exact lw_int | exact lw_bool | exact lw_ptr rfl | exact lw_slo rfl | exact lw_nilp | exact lw_nils | exact lw_str | exact lw_slo_nils | exact lw_slo_sle | exact lw_sl rfl | exact lw_unb | exact lw_gptr | exact lw_noid rfl | exact lw_cap rfl (Nat.le_refl _) | exact lw_cap rfl (by omega) | assumption)) ?_); exact lws_nil)) (by simp) | exact lb_iter | exact lb_cap (Nat.le_refl _) (Nat.le_refl _) rfl rfl | assumption)) ?_); exact okBlks_nil)⟩)⟩
end
theorem stripes_any {H : Type} {enc : TypeId × Value → H} {W : World} {a1 : Option Addr} {len1 cap1 : Nat} {d1 : DataW H} {p1 : List MemPlace} (n w : Int) (r : Bool) (h1 : DataW.Trod enc Go.Proofs.Try.prog W 0 (fun _ => true) true 27 (.slice a1 len1 cap1) d1 p1) :
    Calls Go.Proofs.Try.prog 5 #[.slice a1 len1 cap1, .int .i64 n, .int .i64 w, .bool r] W fun e W' => e = .returned (.bool true) ∧ Below W.heap.size W W' := by
  obtain ⟨g1, n1, _, r1⟩ := pairs_row Go.Proofs.Try.underlying27 Go.Proofs.Try.underlying34 (by kernel_rfl) (by kernel_rfl) rfl rfl rfl Go.Proofs.Try.underlying3 Go.Proofs.Try.underlying26 h1
  refine SFun.top (rows := [(.slice a1 len1 cap1, len1, tab cell len1 g1)]) (g := []) (us := [.slice a1 len1 cap1, .int .i64 n, .int .i64 w, .bool r]) ⟨r1, trivial⟩ (fun x hx => by cases hx) (fun r h => ?_) (lst_fun n w r n1 g1)
  simp only [VRs, VR]
  exact ⟨_, _, rfl, h 0 _ _ _ rfl, _, _, rfl, rfl, _, _, rfl, rfl, _, _, rfl, rfl, rfl⟩
end Go.Lev
