/- FetchTrue (P23.2): for any moves, any stamp, any spins the law returns true; what was there stays as it was. No condition. -/
import Derived.Test.YtidgbnffpceapaaCW5
import Derived.Test.YtidgbnffpceapaaLc
import Derived.Test.YtidgbnffpceapaaChecked
import Derived.KernelRfl

namespace Go.Lev
open Go.RowKit
set_option linter.unusedVariables false
set_option linter.unusedSimpArgs false
set_option maxRecDepth 100000
noncomputable section
def s0 (su : Int) : FSt := ⟨0, 0, false, 0, 0, xmn (xmx (xwr .i64 (xar .rem .u8 su 5)) 0) 4, 0, -1, 0⟩
theorem s0_ok (su : Int) : (s0 su).ok := by
  refine ⟨by simp [s0], ?_, fun _ => ⟨rfl, rfl⟩⟩
  simp only [s0]
  generalize xwr .i64 (xar .rem .u8 su 5) = q
  simp only [wd_mn, wd_mx]; split <;> (try split) <;> omega
theorem FI.start (sm su : Int) : FI sm 0 [0] (List.replicate 32 0) 0 (s0 su) :=
  ⟨by omega, by simp, by simp, by simp, s0_ok su, .inl rfl, ⟨rfl, rfl, Int.le_refl _⟩, fun _ => by simp [List.getD_eq_getElem?_getD], fun h => by omega, fun _ h => absurd rfl h, fun _ h => by simp [s0] at h, fun h => by simp [s0] at h⟩
set_option maxHeartbeats 2000000 in
theorem ft_end (n : Nat) (sg su : Int) (ax : List LV) (nx : noIds ax = true) (i : Nat) (C : Int) (A W : List Int) (p : Nat) (s : FSt) (hI : FI (xwr .u64 (xar .rem .u8 sg 6)) i A W p s) (h60 : i ≤ 60) : xsp Go.Proofs.Try.prog cxq 60 144 ((sp Go.Proofs.Try.prog 5).drop 11) (mkTm 144 (ftT n sg su A.length p i)) (mkS (ftS ax (xwr .u64 (xar .rem .u8 sg 6)) C A W p s))
    (vK ftL (endK 1 [6] ftL [] (fun l _ => l = .bool true))) := by
  have na := noIds_Iu64 A
  have nw := noIds_Iu64 W
  have hk := hI.k1
  have hki := hI.ki
  have la := encIu64_len A
  rw [ft_z]
  have bq : ∀ x : Int, xcm .eql x x = true := cm_self
  rcases hI.en with e | e | e
  · have z1 : xcm .eql s.en 0 = true := by rw [xcm_eql]; exact decide_eq_true e
    have z2 : xcm .neq s.en 2 = true := by rw [xcm_neq]; simp [e]
    simp only [z1, z2, cond_true]
    exact ⟨trivial, rfl, .bool true, [.ro ax], [.id 0], rfl, by (exact ⟨by kernel_rfl, by ((repeat refine okTms_cons (by (first | exact lw_any | exact lw_int | exact lw_bool | exact lw_ptr rfl | exact lw_slo rfl | exact lw_nilp | exact lw_nils | exact lw_str | exact lw_slo_nils | exact lw_slo_sle | exact lw_sl rfl | exact lw_unb | exact lw_gptr | exact lw_noid rfl | exact lw_cap rfl (Nat.le_refl _) | exact lw_cap rfl (by omega) | assumption | exact lw_tup (by ((repeat refine lws_cons (by (first | exact lw_any | exact lw_int | exact lw_bool | exact lw_ptr rfl | exact lw_slo rfl | exact lw_nilp | exact lw_nils | exact lw_str | exact lw_slo_nils | exact lw_slo_sle | exact lw_sl rfl | exact lw_unb | exact lw_gptr | exact lw_noid rfl | exact lw_cap rfl (Nat.le_refl _) | exact lw_cap rfl (by omega) | assumption)) ?_); exact lws_nil)))) ?_); exact okTms_nil), by ((repeat refine okBlks_cons (by (first | exact lb_dead | exact lb_same (by (first | assumption | exact noIds_tab (fun _ => rfl) _ _ | exact noIds_encL (fun _ => rfl) _ | rfl)) | exact lb_ro (by (first | assumption | exact noIds_tab (fun _ => rfl) _ _ | exact noIds_encL (fun _ => rfl) _ | rfl)) | exact lb_none | exact lb_cells (by ((repeat refine lws_cons (by (first | exact lw_any | exact lw_int | exact lw_bool | exact lw_ptr rfl | exact lw_slo rfl | exact lw_nilp | exact lw_nils | exact lw_str | exact lw_slo_nils | exact lw_slo_sle | exact lw_sl rfl | exact lw_unb | exact lw_gptr | exact lw_noid rfl | exact lw_cap rfl (Nat.le_refl _) | exact lw_cap rfl (by omega) | assumption | exact lw_tup (by ((repeat refine lws_cons (by (first | exact lw_any | exact lw_int | exact lw_bool | exact lw_ptr rfl | exact lw_slo rfl | exact lw_nilp | exact lw_nils | exact lw_str | exact lw_slo_nils | exact lw_slo_sle | exact lw_sl rfl | exact lw_unb | exact lw_gptr | exact lw_noid rfl | exact lw_cap rfl (Nat.le_refl _) | exact lw_cap rfl (by omega) | assumption)) ?_); exact lws_nil)))) ?_); exact lws_nil)) (by simp) | exact lb_iter | exact lb_cap (Nat.le_refl _) (Nat.le_refl _) rfl rfl | exact lb_capn (by assumption) (by (first | assumption | exact noIds_tab (fun _ => rfl) _ _ | exact noIds_encL (fun _ => rfl) _ | rfl)) | assumption)) ?_); exact okBlks_nil)⟩)⟩
  · have z1 : xcm .eql s.en 0 = false := by rw [xcm_eql]; simp [e]
    have z2 : xcm .neq s.en 2 = false := by rw [xcm_neq]; simp [e]
    have z3 : xcm .eql s.en 2 = true := by rw [xcm_eql]; simp [e]
    have z4 : xcm .eql s.en 6 = false := by rw [xcm_eql]; simp [e]
    obtain ⟨d1, d2, d3⟩ := hI.d e
    obtain ⟨_, _, l3⟩ := hI.lk
    have c1 : xcm .leq s.lv (xwr .u64 (xar .rem .u8 sg 6)) = true := by rw [xcm_leq]; exact decide_eq_true d2
    have c2 : xwr .u64 (A.length : Int) = A.length := wr_u64 (by omega) (by omega)
    have c3 : xcm .lss s.lv (A.length : Int) = true := by rw [xcm_lss]; exact decide_eq_true (by omega)
    have hj : s.lv.toNat < A.length := by omega
    have nj := u_nth hj
    have nn : xnn s.lv = true := t_nn l3
    have xn : xnat s.lv = s.lv.toNat := rfl
    simp only [z1, z2, z3, z4, bq, c1, c2, c3, cond_true, cond_false]
    simp only [wd_nat, wd_asV, wd_isV, wd_ix, wd_add, wd_mul, wd_ln, Nat.zero_add, Nat.mul_one, wd_isI, wd_asI, wd_isB, wd_asB, wd_nn, cI_tlen, cB_tlen, cII_tlen, decide_true, cond_true, wd_not_t, wd_not_f, wd_and_t, wd_and_f, xn, nj, la, nn, bq]
    (repeat (with_reducible refine must (by (first | with_reducible rfl | exact t_le (by omega) | exact t_eq (by omega) | exact t_nn (by omega) | exact t_lss (by omega) | exact t_leq (by omega) | exact t_gtr (by omega) | exact t_geq (by omega) | exact t_eql (by omega) | exact t_neq (by omega) | exact t_z (by omega) | exact wd_not_f | assumption)) ?_))
    have eb : xcm .eql s.wd (A.getD s.lv.toNat 0) = true := by rw [xcm_eql]; exact decide_eq_true d3
    rw [eb]
    exact ⟨trivial, rfl, .bool true, [.ro ax], [.id 0], rfl, by (exact ⟨by kernel_rfl, by ((repeat refine okTms_cons (by (first | exact lw_any | exact lw_int | exact lw_bool | exact lw_ptr rfl | exact lw_slo rfl | exact lw_nilp | exact lw_nils | exact lw_str | exact lw_slo_nils | exact lw_slo_sle | exact lw_sl rfl | exact lw_unb | exact lw_gptr | exact lw_noid rfl | exact lw_cap rfl (Nat.le_refl _) | exact lw_cap rfl (by omega) | assumption | exact lw_tup (by ((repeat refine lws_cons (by (first | exact lw_any | exact lw_int | exact lw_bool | exact lw_ptr rfl | exact lw_slo rfl | exact lw_nilp | exact lw_nils | exact lw_str | exact lw_slo_nils | exact lw_slo_sle | exact lw_sl rfl | exact lw_unb | exact lw_gptr | exact lw_noid rfl | exact lw_cap rfl (Nat.le_refl _) | exact lw_cap rfl (by omega) | assumption)) ?_); exact lws_nil)))) ?_); exact okTms_nil), by ((repeat refine okBlks_cons (by (first | exact lb_dead | exact lb_same (by (first | assumption | exact noIds_tab (fun _ => rfl) _ _ | exact noIds_encL (fun _ => rfl) _ | rfl)) | exact lb_ro (by (first | assumption | exact noIds_tab (fun _ => rfl) _ _ | exact noIds_encL (fun _ => rfl) _ | rfl)) | exact lb_none | exact lb_cells (by ((repeat refine lws_cons (by (first | exact lw_any | exact lw_int | exact lw_bool | exact lw_ptr rfl | exact lw_slo rfl | exact lw_nilp | exact lw_nils | exact lw_str | exact lw_slo_nils | exact lw_slo_sle | exact lw_sl rfl | exact lw_unb | exact lw_gptr | exact lw_noid rfl | exact lw_cap rfl (Nat.le_refl _) | exact lw_cap rfl (by omega) | assumption | exact lw_tup (by ((repeat refine lws_cons (by (first | exact lw_any | exact lw_int | exact lw_bool | exact lw_ptr rfl | exact lw_slo rfl | exact lw_nilp | exact lw_nils | exact lw_str | exact lw_slo_nils | exact lw_slo_sle | exact lw_sl rfl | exact lw_unb | exact lw_gptr | exact lw_noid rfl | exact lw_cap rfl (Nat.le_refl _) | exact lw_cap rfl (by omega) | assumption)) ?_); exact lws_nil)))) ?_); exact lws_nil)) (by simp) | exact lb_iter | exact lb_cap (Nat.le_refl _) (Nat.le_refl _) rfl rfl | exact lb_capn (by assumption) (by (first | assumption | exact noIds_tab (fun _ => rfl) _ _ | exact noIds_encL (fun _ => rfl) _ | rfl)) | assumption)) ?_); exact okBlks_nil)⟩)⟩
  · have z1 : xcm .eql s.en 0 = false := by rw [xcm_eql]; simp [e]
    have z2 : xcm .neq s.en 2 = true := by rw [xcm_neq]; simp [e]
    have z4 : xcm .eql s.en 6 = true := by rw [xcm_eql]; simp [e]
    simp only [z1, z2, z4, cond_true, cond_false]
    exact ⟨trivial, rfl, .bool true, [.ro ax], [.id 0], rfl, by (exact ⟨by kernel_rfl, by ((repeat refine okTms_cons (by (first | exact lw_any | exact lw_int | exact lw_bool | exact lw_ptr rfl | exact lw_slo rfl | exact lw_nilp | exact lw_nils | exact lw_str | exact lw_slo_nils | exact lw_slo_sle | exact lw_sl rfl | exact lw_unb | exact lw_gptr | exact lw_noid rfl | exact lw_cap rfl (Nat.le_refl _) | exact lw_cap rfl (by omega) | assumption | exact lw_tup (by ((repeat refine lws_cons (by (first | exact lw_any | exact lw_int | exact lw_bool | exact lw_ptr rfl | exact lw_slo rfl | exact lw_nilp | exact lw_nils | exact lw_str | exact lw_slo_nils | exact lw_slo_sle | exact lw_sl rfl | exact lw_unb | exact lw_gptr | exact lw_noid rfl | exact lw_cap rfl (Nat.le_refl _) | exact lw_cap rfl (by omega) | assumption)) ?_); exact lws_nil)))) ?_); exact okTms_nil), by ((repeat refine okBlks_cons (by (first | exact lb_dead | exact lb_same (by (first | assumption | exact noIds_tab (fun _ => rfl) _ _ | exact noIds_encL (fun _ => rfl) _ | rfl)) | exact lb_ro (by (first | assumption | exact noIds_tab (fun _ => rfl) _ _ | exact noIds_encL (fun _ => rfl) _ | rfl)) | exact lb_none | exact lb_cells (by ((repeat refine lws_cons (by (first | exact lw_any | exact lw_int | exact lw_bool | exact lw_ptr rfl | exact lw_slo rfl | exact lw_nilp | exact lw_nils | exact lw_str | exact lw_slo_nils | exact lw_slo_sle | exact lw_sl rfl | exact lw_unb | exact lw_gptr | exact lw_noid rfl | exact lw_cap rfl (Nat.le_refl _) | exact lw_cap rfl (by omega) | assumption | exact lw_tup (by ((repeat refine lws_cons (by (first | exact lw_any | exact lw_int | exact lw_bool | exact lw_ptr rfl | exact lw_slo rfl | exact lw_nilp | exact lw_nils | exact lw_str | exact lw_slo_nils | exact lw_slo_sle | exact lw_sl rfl | exact lw_unb | exact lw_gptr | exact lw_noid rfl | exact lw_cap rfl (Nat.le_refl _) | exact lw_cap rfl (by omega) | assumption)) ?_); exact lws_nil)))) ?_); exact lws_nil)) (by simp) | exact lb_iter | exact lb_cap (Nat.le_refl _) (Nat.le_refl _) rfl rfl | exact lb_capn (by assumption) (by (first | assumption | exact noIds_tab (fun _ => rfl) _ _ | exact noIds_encL (fun _ => rfl) _ | rfl)) | assumption)) ?_); exact okBlks_nil)⟩)⟩
set_option maxHeartbeats 2000000 in
theorem true_fun (n : Nat) (sg su : Int) (xs : List MvR) (en : xs.length = n) (hn : n ≤ 9223372036854775807) :
    SFun Go.Proofs.Try.prog 5 [.slo 0 0 n 0, .int .u8 sg, .int .u8 su] (mkS [.ro (encL mvL xs)]) fun l _ => l = .bool true := by
  refine SFun.mono (SFun.pieces (Q := fun l _ => l = .bool true) 144 1 ftL [6] (by kernel_rfl) rfl rfl rfl ?_) fun l s' ⟨b0, h1, _⟩ => h1
  have nx := mv_noids xs
  refine SSp.to cxq_ok (n := 60) (g := []) 10 10 rfl (σ := Unit) (fun _ => ftT n sg su [(0 : Int)].length 0 0) (fun _ => ftS (encL mvL xs) (xwr .u64 (xar .rem .u8 sg 6)) 0 [0] (List.replicate 32 0) 0 (s0 su)) (mkS_le (Nat.le_refl _)) (by kernel_rfl) ?_ fun _ => ?_
  · rw [ft_a, zero32]
    have nw := noIds_Iu64 (List.replicate 32 0)
    refine ⟨rfl, (), [.id 0, .id 11, .id 5, .id 4, .id 7, .id 6, .id 8, .id 10, .id 9, .id 13, .id 12, .cap 14 0 1], ?_⟩
    (exact ⟨by kernel_rfl, by ((repeat refine okTms_cons (by (first | exact lw_any | exact lw_int | exact lw_bool | exact lw_ptr rfl | exact lw_slo rfl | exact lw_nilp | exact lw_nils | exact lw_str | exact lw_slo_nils | exact lw_slo_sle | exact lw_sl rfl | exact lw_unb | exact lw_gptr | exact lw_noid rfl | exact lw_cap rfl (Nat.le_refl _) | exact lw_cap rfl (by omega) | assumption | exact lw_tup (by ((repeat refine lws_cons (by (first | exact lw_any | exact lw_int | exact lw_bool | exact lw_ptr rfl | exact lw_slo rfl | exact lw_nilp | exact lw_nils | exact lw_str | exact lw_slo_nils | exact lw_slo_sle | exact lw_sl rfl | exact lw_unb | exact lw_gptr | exact lw_noid rfl | exact lw_cap rfl (Nat.le_refl _) | exact lw_cap rfl (by omega) | assumption)) ?_); exact lws_nil)))) ?_); exact okTms_nil), by ((repeat refine okBlks_cons (by (first | exact lb_dead | exact lb_same (by (first | assumption | exact noIds_tab (fun _ => rfl) _ _ | exact noIds_encL (fun _ => rfl) _ | rfl)) | exact lb_ro (by (first | assumption | exact noIds_tab (fun _ => rfl) _ _ | exact noIds_encL (fun _ => rfl) _ | rfl)) | exact lb_none | exact lb_cells (by ((repeat refine lws_cons (by (first | exact lw_any | exact lw_int | exact lw_bool | exact lw_ptr rfl | exact lw_slo rfl | exact lw_nilp | exact lw_nils | exact lw_str | exact lw_slo_nils | exact lw_slo_sle | exact lw_sl rfl | exact lw_unb | exact lw_gptr | exact lw_noid rfl | exact lw_cap rfl (Nat.le_refl _) | exact lw_cap rfl (by omega) | assumption | exact lw_tup (by ((repeat refine lws_cons (by (first | exact lw_any | exact lw_int | exact lw_bool | exact lw_ptr rfl | exact lw_slo rfl | exact lw_nilp | exact lw_nils | exact lw_str | exact lw_slo_nils | exact lw_slo_sle | exact lw_sl rfl | exact lw_unb | exact lw_gptr | exact lw_noid rfl | exact lw_cap rfl (Nat.le_refl _) | exact lw_cap rfl (by omega) | assumption)) ?_); exact lws_nil)))) ?_); exact lws_nil)) (by simp) | exact lb_iter | exact lb_cap (Nat.le_refl _) (Nat.le_refl _) rfl rfl | exact lb_capn (by assumption) (by (first | assumption | exact noIds_tab (fun _ => rfl) _ _ | exact noIds_encL (fun _ => rfl) _ | rfl)) | assumption)) ?_); exact okBlks_nil)⟩)
  refine SSp.code_to (g := []) 11 rfl (σ := {g : FG // FI (xwr .u64 (xar .rem .u8 sg 6)) g.i g.A g.W g.p g.s ∧ g.i ≤ 60}) (fun g => ftT n sg su g.1.A.length g.1.p g.1.i) (fun g => ftS (encL mvL xs) (xwr .u64 (xar .rem .u8 sg 6)) g.1.C g.1.A g.1.W g.1.p g.1.s) (by kernel_rfl) (ft_loop n sg su _ xs en hn _ ⟨⟨0, 0, [0], List.replicate 32 0, 0, s0 su⟩, FI.start _ su, Nat.zero_le _⟩) fun ⟨⟨i, C, A, W, p, s⟩, hI, h60⟩ => ?_
  refine SSp.last cxq_ok (n := 60) (mkS_le (Nat.le_of_ble_eq_true rfl)) ?_
  exact ft_end n sg su _ nx i C A W p s hI h60
end
theorem true_any {H : Type} {enc : TypeId × Value → H} {W : World} {a : Option Addr} {len cap : Nat} {d : DataW H} {ps : List MemPlace} (sg su : Int) (h : DataW.Trod enc Go.Proofs.Try.prog W 0 (fun _ => true) true 53 (.slice a len cap) d ps) :
    Calls Go.Proofs.Try.prog 5 #[.slice a len cap, .int .u8 sg, .int .u8 su] W fun e W' => e = .returned (.bool true) ∧ Below W.heap.size W W' := by
  obtain ⟨xs, e1, n1, _, r1⟩ := mv_row h
  refine SFun.top (rows := [(.slice a len cap, len, encL mvL xs)]) (g := []) (us := [.slice a len cap, .int .u8 sg, .int .u8 su]) ⟨r1, trivial⟩ (fun x hx => by cases hx) (fun r h => ?_) (true_fun len sg su xs e1 n1)
  simp only [VRs, VR]
  exact ⟨_, _, rfl, h 0 _ _ _ rfl, _, _, rfl, rfl, _, _, rfl, rfl, rfl⟩
end Go.Lev
