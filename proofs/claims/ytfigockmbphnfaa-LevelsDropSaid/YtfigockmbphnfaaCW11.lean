/- LevelsDrop (P9.1): for any asks the law returns true; what was there stays as it was. No condition. -/
import Derived.Test.YtfigockmbphnfaaCW10
import Derived.Test.YtfigockmbphnfaaLc
import Derived.Test.YtfigockmbphnfaaChecked
import Derived.KernelRfl

namespace Go.Lev
open Go.RowKit
set_option linter.unusedVariables false
set_option linter.unusedSimpArgs false
set_option maxRecDepth 100000
noncomputable section
theorem runs9 : isTrue (lrun Go.Proofs.Try.prog 8000 3 []) = true := by kernel_rfl
theorem cxd_ok : CtrOk Go.Proofs.Try.prog (ctrOf cxd) := cxl_ok ⟨runG_ok runs9, orG_ok flat1G_ok (orG_ok flat2G_ok flat3G_ok), orG_ok takeG_ok (orG_ok take1G_ok take0G_ok), cloneCell_ok, sameG_ok, orG_ok sameIi64G_ok same0i64G_ok, trivial⟩
theorem okC_take {m : Int} {n nl : Nat} {cs ls : List LV} (h0 : okC cs n = true) (hn : n < 1000000) (hm : m ≤ 1000) : okC (takeC m n cs nl ls) (takeN m n cs nl ls) = true ∧ takeN m n cs nl ls < 1000000 := by
  simp only [takeC, takeN]
  split
  · exact tk_ok h0 hn hm nl
  · exact ⟨h0, hn⟩
theorem sameW_self (n : Nat) (cs : List LV) : sameW n n cs cs = true := by simp [sameW]
theorem okF_I {cs : List LV} {n : Nat} (h : okFr cs n = true) : okIi64 cs n = true ∧ xcut cs 0 n = cs := by
  have hl := okFr_len h
  refine ⟨?_, by rw [xcut, List.drop_zero, List.take_of_length_le (by omega)]⟩
  obtain ⟨xs, rfl, rfl, h3⟩ := okFr_iff.1 h
  exact okIi64_iff.2 ⟨_, rfl, rfl, h3⟩
set_option maxHeartbeats 2000000 in
theorem drop_fun (na nb nc : Nat) (ax bx cx : List LV) (h1 : okA ax na = true) (h2 : okA bx nb = true) (h3 : okA cx nc = true) : SFun Go.Proofs.Try.prog 5 [.slo 0 0 na 0, .slo 1 0 nb 0, .slo 2 0 nc 0] (mkS [.ro ax, .ro bx, .ro cx]) fun l _ => l = .bool true := by
  refine SFun.mono (SFun.vc (Q := fun l _ => l = .bool true) cxd_ok (n := 100) 3 rfl ?_) fun l s' ⟨b0, h1, _⟩ => h1
  rw [ld_x]
  have i1 := okA_noids h1
  have i2 := okA_noids h2
  have i3 := okA_noids h3
  have a1 := fl_le ax na
  have b1 := fl_le bx nb
  have c1 := fl_le cx nc
  have a2 := fl_leM ax na
  have b2 := fl_leM bx nb
  have c2 := fl_leM cx nc
  have a3 := fl_okC ax na
  have b3 := fl_okC bx nb
  have c3 := fl_okC cx nc
  have a4 := fl_okF ax na
  have b4 := fl_okF bx nb
  have c4 := fl_okF cx nc
  have a5 := len_ok a3
  have c5 := len_ok c3
  have a6 := okFr_len a4
  have b6 := okFr_len b4
  have c6 := okFr_len c4
  obtain ⟨t1, t2⟩ := okC_take (m := 96) (n := 0) (nl := flN ax na) (ls := flC ax na) okC_nil (by omega) (by omega)
  have t3 := len_ok t1
  obtain ⟨f1, f2⟩ := okF_I a4
  simp only [h1, h2, h3, a3, b3, c3, a4, b4, c4, xnoid_ok a3, xnoid_ok c3, xnoid_ok t1, t1, sameW_self, sameIi64_self, cm_self, cond_true]
  simp only [wd_nat, wd_asV, wd_isV, wd_ix, wd_add, wd_mul, wd_ln, Nat.zero_add, Nat.mul_one, wd_isI, wd_asI, wd_isB, wd_asB, wd_nn, cI_tlen, cB_tlen, cII_tlen, decide_true, cond_true, wd_not_t, wd_not_f, wd_and_t, wd_and_f, f1, f2, cond_true, sameIi64_self]
  by_cases z1 : flM ax na = 0 <;> by_cases z2 : flM cx nc = 0
  all_goals
    (repeat (first | (with_reducible refine way_t (by (first | with_reducible rfl | exact t_le (by omega) | exact t_eq (by omega) | exact t_nn (by omega) | exact t_lss (by omega) | exact t_leq (by omega) | exact t_gtr (by omega) | exact t_geq (by omega) | exact t_eql (by omega) | exact t_neq (by omega) | exact t_z (by omega) | exact wd_not_f | assumption)) ?_) | (with_reducible refine way_f (by (first | with_reducible rfl | exact f_le (by omega) | exact f_eq (by omega) | exact f_nn (by omega) | exact f_lss (by omega) | exact f_leq (by omega) | exact f_gtr (by omega) | exact f_geq (by omega) | exact f_eql (by omega) | exact f_neq (by omega) | exact f_z (by omega) | exact wd_not_t | assumption)) ?_)))
    exact ⟨rfl, .bool true, [.ro _, .ro _, .ro _], [.id 0, .id 1, .id 2], rfl, by (exact ⟨by kernel_rfl, by ((repeat refine okTms_cons (by (first | exact lw_any | exact lw_int | exact lw_bool | exact lw_ptr rfl | exact lw_slo rfl | exact lw_nilp | exact lw_nils | exact lw_str | exact lw_slo_nils | exact lw_slo_sle | exact lw_sl rfl | exact lw_unb | exact lw_gptr | exact lw_noid rfl | exact lw_cap rfl (Nat.le_refl _) | exact lw_cap rfl (by omega) | assumption | exact lw_tup (by ((repeat refine lws_cons (by (first | exact lw_any | exact lw_int | exact lw_bool | exact lw_ptr rfl | exact lw_slo rfl | exact lw_nilp | exact lw_nils | exact lw_str | exact lw_slo_nils | exact lw_slo_sle | exact lw_sl rfl | exact lw_unb | exact lw_gptr | exact lw_noid rfl | exact lw_cap rfl (Nat.le_refl _) | exact lw_cap rfl (by omega) | assumption)) ?_); exact lws_nil)))) ?_); exact okTms_nil), by ((repeat refine okBlks_cons (by (first | exact lb_dead | exact lb_same (by (first | assumption | exact noIds_tab (fun _ => rfl) _ _ | exact noIds_encL (fun _ => rfl) _ | rfl)) | exact lb_ro (by (first | assumption | exact noIds_tab (fun _ => rfl) _ _ | exact noIds_encL (fun _ => rfl) _ | rfl)) | exact lb_none | exact lb_cells (by ((repeat refine lws_cons (by (first | exact lw_any | exact lw_int | exact lw_bool | exact lw_ptr rfl | exact lw_slo rfl | exact lw_nilp | exact lw_nils | exact lw_str | exact lw_slo_nils | exact lw_slo_sle | exact lw_sl rfl | exact lw_unb | exact lw_gptr | exact lw_noid rfl | exact lw_cap rfl (Nat.le_refl _) | exact lw_cap rfl (by omega) | assumption | exact lw_tup (by ((repeat refine lws_cons (by (first | exact lw_any | exact lw_int | exact lw_bool | exact lw_ptr rfl | exact lw_slo rfl | exact lw_nilp | exact lw_nils | exact lw_str | exact lw_slo_nils | exact lw_slo_sle | exact lw_sl rfl | exact lw_unb | exact lw_gptr | exact lw_noid rfl | exact lw_cap rfl (Nat.le_refl _) | exact lw_cap rfl (by omega) | assumption)) ?_); exact lws_nil)))) ?_); exact lws_nil)) (by simp) | exact lb_iter | exact lb_cap (Nat.le_refl _) (Nat.le_refl _) rfl rfl | exact lb_capn (by assumption) (by (first | assumption | exact noIds_tab (fun _ => rfl) _ _ | exact noIds_encL (fun _ => rfl) _ | rfl)) | assumption)) ?_); exact okBlks_nil)⟩)⟩
end
theorem el_cell {H : Type} {enc : TypeId × Value → H} {W : World} : ∀ (cs : List Value) (n : Nat) (x : DataW H × List MemPlace), cs.length = 2 → DataW.trod enc Go.Proofs.Try.prog W 0 (fun _ => true) true n 36 cs = some x → ∃ y : Int × Int, True ∧ ∀ (j : Nat) l, (cell y)[j]? = some l → l.plain = true ∧ ∃ u, cs[j]? = some u ∧ VR noRen l u := by
  intro cs n x hl hx
  have hf := fl_ok 4 (l := [(0, .int .i64), (1, .int .u64)]) (by kernel_rfl) hx
  obtain ⟨_, e0, z0, rfl, _⟩ := hf (0, .int .i64) (by simp)
  obtain ⟨_, e1, z1, rfl, _⟩ := hf (1, .int .u64) (by simp)
  refine ⟨(z0, z1), trivial, fun i l hi => ?_⟩
  match i with
  | 0 => simp [cII] at hi; subst hi; exact ⟨rfl, _, e0, by simp only [VR]⟩
  | 1 => simp [cII] at hi; subst hi; exact ⟨rfl, _, e1, by simp only [VR]⟩
  | i + 2 => simp [cII] at hi
theorem ask_row {H : Type} {enc : TypeId × Value → H} {W : World} {a : Option Addr} {len cap : Nat} {d : DataW H} {ps : List MemPlace} (h : DataW.Trod enc Go.Proofs.Try.prog W 0 (fun _ => true) true 39 (.slice a len cap) d ps) :
    ∃ ax : List LV, okA ax len = true ∧ RowArg W (.slice a len cap) len ax := by
  obtain ⟨xs, e1, n1, _, r1⟩ := row_arg (f := askA) (ok := fun _ => True) askA_len (by omega) Go.Proofs.Try.underlying39 (by kernel_rfl) h fun cs n x hl hx => by
    have hf := fsl_ok 4 (l := [(3, 31)]) (by kernel_rfl) hx
    obtain ⟨v, y, n', e3, hv⟩ := hf (3, 31) (by simp)
    obtain ⟨_, _, _, _, k4⟩ := row_in (f := cell) (ok := fun _ => True) cell_len (by omega) Go.Proofs.Try.underlying31 (by kernel_rfl) hv el_cell
    have hg := fl3_ok 4 (l := [(0, .int .i64), (1, .int .i64), (2, .int .u64)]) (by kernel_rfl) hx
    obtain ⟨_, e0, z0, rfl, _⟩ := hg (0, .int .i64) (by simp)
    obtain ⟨_, e1, z1, rfl, _⟩ := hg (1, .int .i64) (by simp)
    obtain ⟨_, e2, z2, rfl, _⟩ := hg (2, .int .u64) (by simp)
    refine ⟨⟨z0, z1, z2, v⟩, trivial, fun i l hi => ?_⟩
    match i with
    | 0 => simp at hi; subst hi; exact ⟨rfl, _, e0, by simp only [VR]⟩
    | 1 => simp at hi; subst hi; exact ⟨rfl, _, e1, by simp only [VR]⟩
    | 2 => simp at hi; subst hi; exact ⟨rfl, _, e2, by simp only [VR]⟩
    | 3 => simp at hi; subst hi; exact ⟨rfl, _, e3, lv_val k4⟩
    | i + 4 => simp at hi
  exact ⟨_, okA_iff.2 ⟨xs, rfl, e1, n1⟩, r1⟩
theorem drop_any {H : Type} {enc : TypeId × Value → H} {W : World} {a1 a2 a3 : Option Addr} {len1 len2 len3 cap1 cap2 cap3 : Nat} {d1 d2 d3 : DataW H} {p1 p2 p3 : List MemPlace}
    (k1 : DataW.Trod enc Go.Proofs.Try.prog W 0 (fun _ => true) true 39 (.slice a1 len1 cap1) d1 p1) (k2 : DataW.Trod enc Go.Proofs.Try.prog W 0 (fun _ => true) true 39 (.slice a2 len2 cap2) d2 p2) (k3 : DataW.Trod enc Go.Proofs.Try.prog W 0 (fun _ => true) true 39 (.slice a3 len3 cap3) d3 p3) :
    Calls Go.Proofs.Try.prog 5 #[.slice a1 len1 cap1, .slice a2 len2 cap2, .slice a3 len3 cap3] W fun e W' => e = .returned (.bool true) ∧ Below W.heap.size W W' := by
  obtain ⟨ax, o1, r1⟩ := ask_row k1
  obtain ⟨bx, o2, r2⟩ := ask_row k2
  obtain ⟨cx, o3, r3⟩ := ask_row k3
  refine SFun.top (rows := [(.slice a1 len1 cap1, len1, ax), (.slice a2 len2 cap2, len2, bx), (.slice a3 len3 cap3, len3, cx)]) (g := []) (us := [.slice a1 len1 cap1, .slice a2 len2 cap2, .slice a3 len3 cap3]) ⟨r1, r2, r3, trivial⟩ (fun x hx => by cases hx) (fun r h => ?_) (drop_fun len1 len2 len3 ax bx cx o1 o2 o3)
  simp only [VRs, VR]
  exact ⟨_, _, rfl, h 0 _ _ _ rfl, _, _, rfl, h 1 _ _ _ rfl, _, _, rfl, h 2 _ _ _ rfl, rfl⟩
end Go.Lev
