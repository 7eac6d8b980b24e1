/- WritesStripes, contracts -/
import Derived.Test.YtdbbgfefllmeaaaCW6
import Derived.Test.YtdbbgfefllmeaaaLc
import Derived.Test.YtdbbgfefllmeaaaChecked
import Derived.KernelRfl

namespace Go.Lev
open Go.RowKit
set_option linter.unusedVariables false
set_option linter.unusedSimpArgs false
set_option maxRecDepth 100000
noncomputable section
/-! Within -/
theorem within_x (a lo hi : Int) (K : Fk) : (xfun Go.Proofs.Try.prog (fun _ => none) 40 20 [.int .i64 a, .int .i64 lo, .int .i64 hi] (mkS []) (vF K)) = (
  bif xcm .neq (xar .add .i64 (xar .sub .i64 hi lo) 1) 0 then
  bif xcm .lss (xar .rem .i64 a (xar .add .i64 (xar .sub .i64 hi lo) 1)) 0 then (
   K (.int .i64 (xar .add .i64 lo (xar .add .i64 (xar .sub .i64 (xar .add .i64 (xar .rem .i64 a (xar .add .i64 (xar .sub .i64 hi lo) 1)) hi) lo) 1))) [] [])
  else (
   K (.int .i64 (xar .add .i64 lo (xar .rem .i64 a (xar .add .i64 (xar .sub .i64 hi lo) 1)))) [] [])
  else False) := by kernel_rfl
def wthV (a lo hi : Int) : Int := lo + a % (hi - lo + 1)

def withinG : Gc := fun args s => match args, s.g with
  | [.int .i64 a, .int .i64 lo, .int .i64 hi], [] => some ([xcm .leq lo hi, xcm .leq (-1000000) lo, xcm .leq hi 1000000], .int .i64 (wthV a lo hi), s)
  | _, _ => none
theorem tmod_pos (a m : Int) (hm : 0 < m) : -m < a.tmod m ∧ a.tmod m < m ∧ (a.tmod m = a % m ∨ (a.tmod m < 0 ∧ a.tmod m + m = a % m)) := by
  have hb := Int.emod_nonneg a (b := m) (by omega)
  have hc := Int.emod_lt_of_pos a hm
  rcases Int.lt_or_le a 0 with h | h
  · have e : a.tmod m = -((-a).tmod m) := by have := Int.neg_tmod (-a) m; rw [Int.neg_neg] at this; exact this
    have h6 : 0 ≤ (-a).tmod m := Int.tmod_nonneg _ (by omega)
    have h7 : (-a).tmod m < m := Int.tmod_lt_of_pos _ hm
    refine ⟨by omega, by omega, ?_⟩
    have h8 : m ∣ a - a.tmod m := Int.dvd_self_sub_tmod
    have h9 : m ∣ a - a % m := Int.dvd_self_sub_emod
    obtain ⟨u, hu⟩ := h8
    obtain ⟨v, hv⟩ := h9
    have hd : a % m - a.tmod m = m * (u - v) := by rw [Int.mul_sub]; omega
    by_cases h0 : u - v ≤ -1
    · have : m * (u - v) ≤ m * (-1) := Int.mul_le_mul_of_nonneg_left h0 (by omega)
      omega
    · by_cases h1 : u - v = 0
      · rw [h1] at hd; simp at hd; exact .inl (by omega)
      · by_cases h2 : u - v = 1
        · rw [h2] at hd; simp at hd; exact .inr ⟨by omega, by omega⟩
        · have : m * 2 ≤ m * (u - v) := Int.mul_le_mul_of_nonneg_left (by omega) (by omega)
          omega
  · have h6 := Int.tmod_nonneg m h
    exact ⟨by omega, Int.tmod_lt_of_pos _ hm, .inl (Int.tmod_eq_emod_of_nonneg h)⟩
theorem wthV_in {a lo hi : Int} (h : lo ≤ hi) : lo ≤ wthV a lo hi ∧ wthV a lo hi ≤ hi := by
  simp only [wthV]
  have hb := Int.emod_nonneg a (b := hi - lo + 1) (by omega)
  have hc := Int.emod_lt_of_pos a (b := hi - lo + 1) (by omega)
  omega
theorem within_ok (a lo hi : Int) (h : lo ≤ hi) (h1 : -1000000 ≤ lo) (h2 : hi ≤ 1000000) : SFun Go.Proofs.Try.prog 20 [.int .i64 a, .int .i64 lo, .int .i64 hi] (mkS []) fun l s => l = .int .i64 (wthV a lo hi) ∧ s = mkS [] := by
  refine SFun.mono (SFun.vc (Q := fun l b => l = .int .i64 (wthV a lo hi) ∧ b = []) noCx_ok (n := 40) 0 rfl ?_) fun l s' ⟨b0, ⟨h1, h2⟩, h3⟩ => ⟨h1, by rw [h3, h2]⟩
  have hq := Int.emod_nonneg a (b := hi - lo + 1) (by omega)
  have e1 : xar .sub .i64 hi lo = hi - lo := sub_i64 (by omega) (by omega)
  have e2 : xar .add .i64 (hi - lo) 1 = hi - lo + 1 := add_i64 (by omega) (by omega)
  have e3 : xar .rem .i64 a (hi - lo + 1) = a.tmod (hi - lo + 1) := xar_rem _ _ _ (by omega)
  obtain ⟨t1, t2, t3⟩ := tmod_pos a (hi - lo + 1) (by omega)
  rw [within_x, e1, e2, e3]
  refine must (t_neq (by omega)) ?_
  rw [xcm_lss]
  refine ite_way (fun hn => ?_) (fun hn => ?_)
  · have e : xar .add .i64 lo (xar .add .i64 (xar .sub .i64 (xar .add .i64 (a.tmod (hi - lo + 1)) hi) lo) 1) = wthV a lo hi := by
      simp only [wthV]
      rw [add_i64 (x := a.tmod (hi - lo + 1)) (by omega) (by omega), sub_i64 (by omega) (by omega), add_i64 (x := a.tmod (hi - lo + 1) + hi - lo) (by omega) (by omega), add_i64 (by omega) (by omega)]
      omega
    rw [e]
    exact ⟨rfl, _, [], [], ⟨rfl, rfl⟩, by (exact ⟨by kernel_rfl, by ((repeat refine okTms_cons (by (first | exact lw_any | exact lw_int | exact lw_bool | exact lw_ptr rfl | exact lw_slo rfl | exact lw_nilp | exact lw_nils | exact lw_str | exact lw_slo_nils | exact lw_slo_sle | exact lw_sl rfl | exact lw_unb | exact lw_gptr | exact lw_noid rfl | exact lw_cap rfl (Nat.le_refl _) | exact lw_cap rfl (by omega) | assumption)) ?_); exact okTms_nil), by ((repeat refine okBlks_cons (by (first | exact lb_dead | exact lb_same (by (first | assumption | exact noIds_tab (fun _ => rfl) _ _ | exact noIds_encL (fun _ => rfl) _ | rfl)) | exact lb_ro (by (first | assumption | exact noIds_tab (fun _ => rfl) _ _ | exact noIds_encL (fun _ => rfl) _ | rfl)) | exact lb_none | exact lb_cells (by ((repeat refine lws_cons (by (first | exact lw_any | exact lw_int | exact lw_bool | exact lw_ptr rfl | exact lw_slo rfl | exact lw_nilp | exact lw_nils | exact lw_str | exact lw_slo_nils | exact lw_slo_sle | exact lw_sl rfl | exact lw_unb | exact lw_gptr | exact lw_noid rfl | exact lw_cap rfl (Nat.le_refl _) | exact lw_cap rfl (by omega) | assumption)) ?_); exact lws_nil)) (by simp) | exact lb_iter | exact lb_cap (Nat.le_refl _) (Nat.le_refl _) rfl rfl | assumption)) ?_); exact okBlks_nil)⟩)⟩
  · have e : xar .add .i64 lo (a.tmod (hi - lo + 1)) = wthV a lo hi := by
      simp only [wthV]
      rw [add_i64 (by omega) (by omega)]; omega
    rw [e]
    exact ⟨rfl, _, [], [], ⟨rfl, rfl⟩, by (exact ⟨by kernel_rfl, by ((repeat refine okTms_cons (by (first | exact lw_any | exact lw_int | exact lw_bool | exact lw_ptr rfl | exact lw_slo rfl | exact lw_nilp | exact lw_nils | exact lw_str | exact lw_slo_nils | exact lw_slo_sle | exact lw_sl rfl | exact lw_unb | exact lw_gptr | exact lw_noid rfl | exact lw_cap rfl (Nat.le_refl _) | exact lw_cap rfl (by omega) | assumption)) ?_); exact okTms_nil), by ((repeat refine okBlks_cons (by (first | exact lb_dead | exact lb_same (by (first | assumption | exact noIds_tab (fun _ => rfl) _ _ | exact noIds_encL (fun _ => rfl) _ | rfl)) | exact lb_ro (by (first | assumption | exact noIds_tab (fun _ => rfl) _ _ | exact noIds_encL (fun _ => rfl) _ | rfl)) | exact lb_none | exact lb_cells (by ((repeat refine lws_cons (by (first | exact lw_any | exact lw_int | exact lw_bool | exact lw_ptr rfl | exact lw_slo rfl | exact lw_nilp | exact lw_nils | exact lw_str | exact lw_slo_nils | exact lw_slo_sle | exact lw_sl rfl | exact lw_unb | exact lw_gptr | exact lw_noid rfl | exact lw_cap rfl (Nat.le_refl _) | exact lw_cap rfl (by omega) | assumption)) ?_); exact lws_nil)) (by simp) | exact lb_iter | exact lb_cap (Nat.le_refl _) (Nat.le_refl _) rfl rfl | assumption)) ?_); exact okBlks_nil)⟩)⟩
theorem withinG_ok : GOk Go.Proofs.Try.prog 20 withinG := by
  intro args s bs l s' hg hb hfr
  unfold withinG at hg
  split at hg
  · rename_i a lo hi hgl
    simp only [Option.some.injEq, Prod.mk.injEq] at hg
    obtain ⟨rfl, rfl, rfl⟩ := hg
    obtain ⟨k1, hb⟩ := allT_cons.1 hb
    obtain ⟨k2, hb⟩ := allT_cons.1 hb
    have k3 := (allT_cons.1 hb).1
    rw [xcm_leq, decide_eq_true_eq] at k1 k2 k3
    exact SFun.pure hfr hgl rfl rfl (within_ok a lo hi k1 k2 k3)
  · cases hg

/-! stripes of places -/
theorem of_x (a n w : Int) (K : Fk) : (xfun Go.Proofs.Try.prog (fun _ => none) 40 25 [.int .i64 a, .int .i64 n, .int .i64 w] (mkS []) (vF K)) = (
  bif xcm .lss a 0 then (
   K (.int .i64 (-1)) [] [])
  else (
   bif xcm .neq (xmn (xmx w 1) 16) 0 then
   bif xcm .neq (xmn (xmx n 1) 16) 0 then
   K (.int .i64 (xar .rem .i64 (xar .quo .i64 a (xmn (xmx w 1) 16)) (xmn (xmx n 1) 16))) [] []
   else False
   else False)) := by kernel_rfl
theorem of_y (a n w : Int) (K : Fk) : (xfun Go.Proofs.Try.prog (fun _ => none) 40 27 [.int .i64 a, .int .i64 n, .int .i64 w] (mkS []) (vF K)) = (
  bif xcm .lss a 0 then (
   K (.int .i64 (-1)) [] [])
  else (
   bif xcm .lss w 1 then (
    bif xcm .lss n 1 then (
     K (.int .i64 (xar .rem .i64 (xar .quo .i64 a 1) 1)) [] [])
    else (
     bif xcm .gtr n 16 then (
      K (.int .i64 (xar .rem .i64 (xar .quo .i64 a 1) 16)) [] [])
     else (
      bif xcm .neq n 0 then
      K (.int .i64 (xar .rem .i64 (xar .quo .i64 a 1) n)) [] []
      else False)))
   else (
    bif xcm .gtr w 16 then (
     bif xcm .lss n 1 then (
      K (.int .i64 (xar .rem .i64 (xar .quo .i64 a 16) 1)) [] [])
     else (
      bif xcm .gtr n 16 then (
       K (.int .i64 (xar .rem .i64 (xar .quo .i64 a 16) 16)) [] [])
      else (
       bif xcm .neq n 0 then
       K (.int .i64 (xar .rem .i64 (xar .quo .i64 a 16) n)) [] []
       else False)))
    else (
     bif xcm .neq w 0 then
     bif xcm .lss n 1 then (
      K (.int .i64 (xar .rem .i64 (xar .quo .i64 a w) 1)) [] [])
     else (
      bif xcm .gtr n 16 then (
       K (.int .i64 (xar .rem .i64 (xar .quo .i64 a w) 16)) [] [])
      else (
       bif xcm .neq n 0 then
       K (.int .i64 (xar .rem .i64 (xar .quo .i64 a w) n)) [] []
       else False))
     else False)))) := by kernel_rfl
def hld (n : Int) : Int := if n < 1 then 1 else if 16 < n then 16 else n
def ofV (a n w : Int) : Int := if a < 0 then -1 else (lwrap .i64 (a.tdiv (hld w))).tmod (hld n)

def ofG : Gc := fun args s => match args, s.g with
  | [.int .i64 a, .int .i64 n, .int .i64 w], [] => some ([], .int .i64 (ofV a n w), s)
  | _, _ => none
theorem hld_in (n : Int) : 1 ≤ hld n ∧ hld n ≤ 16 := by simp only [hld]; split <;> (try split) <;> omega
theorem of_num {a n w : Int} (hw : 1 ≤ w) (hn : 1 ≤ n) : xar .rem .i64 (xar .quo .i64 a w) n = (lwrap .i64 (a.tdiv w)).tmod n := by
  rw [xar_quo _ _ _ (by omega), xar_rem _ _ _ (by omega)]
theorem ofV_lt (a n w : Int) : ofV a n w < 16 := by
  simp only [ofV]
  split
  · omega
  · have h1 := hld_in n
    have h5 : (lwrap .i64 (a.tdiv (hld w))).tmod (hld n) < hld n := (tmod_pos _ _ (by omega)).2.1
    omega
theorem of_ok (a n w : Int) : SFun Go.Proofs.Try.prog 25 [.int .i64 a, .int .i64 n, .int .i64 w] (mkS []) fun l s => l = .int .i64 (ofV a n w) ∧ s = mkS [] := by
  refine SFun.mono (SFun.vc (Q := fun l b => l = .int .i64 (ofV a n w) ∧ b = []) noCx_ok (n := 40) 0 rfl ?_) fun l s' ⟨b0, ⟨h1, h2⟩, h3⟩ => ⟨h1, by rw [h3, h2]⟩
  have hc : ∀ n : Int, xmn (xmx n 1) 16 = hld n := fun n => by simp only [hld, wd_mn, wd_mx]; split <;> split <;> (try split) <;> omega
  have k1 := hld_in n
  have k2 := hld_in w
  rw [of_x, hc, hc, xcm_lss]
  refine ite_way (fun h0 => ?_) (fun h0 => ?_)
  · simp only [ofV, if_pos h0]; exact ⟨rfl, _, [], [], ⟨rfl, rfl⟩, by (exact ⟨by kernel_rfl, by ((repeat refine okTms_cons (by (first | exact lw_any | exact lw_int | exact lw_bool | exact lw_ptr rfl | exact lw_slo rfl | exact lw_nilp | exact lw_nils | exact lw_str | exact lw_slo_nils | exact lw_slo_sle | exact lw_sl rfl | exact lw_unb | exact lw_gptr | exact lw_noid rfl | exact lw_cap rfl (Nat.le_refl _) | exact lw_cap rfl (by omega) | assumption)) ?_); exact okTms_nil), by ((repeat refine okBlks_cons (by (first | exact lb_dead | exact lb_same (by (first | assumption | exact noIds_tab (fun _ => rfl) _ _ | exact noIds_encL (fun _ => rfl) _ | rfl)) | exact lb_ro (by (first | assumption | exact noIds_tab (fun _ => rfl) _ _ | exact noIds_encL (fun _ => rfl) _ | rfl)) | exact lb_none | exact lb_cells (by ((repeat refine lws_cons (by (first | exact lw_any | exact lw_int | exact lw_bool | exact lw_ptr rfl | exact lw_slo rfl | exact lw_nilp | exact lw_nils | exact lw_str | exact lw_slo_nils | exact lw_slo_sle | exact lw_sl rfl | exact lw_unb | exact lw_gptr | exact lw_noid rfl | exact lw_cap rfl (Nat.le_refl _) | exact lw_cap rfl (by omega) | assumption)) ?_); exact lws_nil)) (by simp) | exact lb_iter | exact lb_cap (Nat.le_refl _) (Nat.le_refl _) rfl rfl | assumption)) ?_); exact okBlks_nil)⟩)⟩
  · (repeat (with_reducible refine must (by (first | with_reducible rfl | exact t_le (by omega) | exact t_eq (by omega) | exact t_nn (by omega) | exact t_lss (by omega) | exact t_leq (by omega) | exact t_gtr (by omega) | exact t_geq (by omega) | exact t_eql (by omega) | exact t_neq (by omega) | exact t_z (by omega) | exact wd_not_f | assumption)) ?_))
    rw [of_num k2.1 k1.1]
    simp only [ofV, if_neg h0]; exact ⟨rfl, _, [], [], ⟨rfl, rfl⟩, by (exact ⟨by kernel_rfl, by ((repeat refine okTms_cons (by (first | exact lw_any | exact lw_int | exact lw_bool | exact lw_ptr rfl | exact lw_slo rfl | exact lw_nilp | exact lw_nils | exact lw_str | exact lw_slo_nils | exact lw_slo_sle | exact lw_sl rfl | exact lw_unb | exact lw_gptr | exact lw_noid rfl | exact lw_cap rfl (Nat.le_refl _) | exact lw_cap rfl (by omega) | assumption)) ?_); exact okTms_nil), by ((repeat refine okBlks_cons (by (first | exact lb_dead | exact lb_same (by (first | assumption | exact noIds_tab (fun _ => rfl) _ _ | exact noIds_encL (fun _ => rfl) _ | rfl)) | exact lb_ro (by (first | assumption | exact noIds_tab (fun _ => rfl) _ _ | exact noIds_encL (fun _ => rfl) _ | rfl)) | exact lb_none | exact lb_cells (by ((repeat refine lws_cons (by (first | exact lw_any | exact lw_int | exact lw_bool | exact lw_ptr rfl | exact lw_slo rfl | exact lw_nilp | exact lw_nils | exact lw_str | exact lw_slo_nils | exact lw_slo_sle | exact lw_sl rfl | exact lw_unb | exact lw_gptr | exact lw_noid rfl | exact lw_cap rfl (Nat.le_refl _) | exact lw_cap rfl (by omega) | assumption)) ?_); exact lws_nil)) (by simp) | exact lb_iter | exact lb_cap (Nat.le_refl _) (Nat.le_refl _) rfl rfl | assumption)) ?_); exact okBlks_nil)⟩)⟩
theorem of_ok' (a n w : Int) : SFun Go.Proofs.Try.prog 27 [.int .i64 a, .int .i64 n, .int .i64 w] (mkS []) fun l s => l = .int .i64 (ofV a n w) ∧ s = mkS [] := by
  refine SFun.mono (SFun.vc (Q := fun l b => l = .int .i64 (ofV a n w) ∧ b = []) noCx_ok (n := 40) 0 rfl ?_) fun l s' ⟨b0, ⟨h1, h2⟩, h3⟩ => ⟨h1, by rw [h3, h2]⟩
  rw [of_y]
  simp only [xcm_lss, xcm_gtr, ofV]
  refine ite_way (fun h0 => ?_) (fun h0 => ?_)
  · rw [if_pos h0]; exact ⟨rfl, _, [], [], ⟨rfl, rfl⟩, by (exact ⟨by kernel_rfl, by ((repeat refine okTms_cons (by (first | exact lw_any | exact lw_int | exact lw_bool | exact lw_ptr rfl | exact lw_slo rfl | exact lw_nilp | exact lw_nils | exact lw_str | exact lw_slo_nils | exact lw_slo_sle | exact lw_sl rfl | exact lw_unb | exact lw_gptr | exact lw_noid rfl | exact lw_cap rfl (Nat.le_refl _) | exact lw_cap rfl (by omega) | assumption)) ?_); exact okTms_nil), by ((repeat refine okBlks_cons (by (first | exact lb_dead | exact lb_same (by (first | assumption | exact noIds_tab (fun _ => rfl) _ _ | exact noIds_encL (fun _ => rfl) _ | rfl)) | exact lb_ro (by (first | assumption | exact noIds_tab (fun _ => rfl) _ _ | exact noIds_encL (fun _ => rfl) _ | rfl)) | exact lb_none | exact lb_cells (by ((repeat refine lws_cons (by (first | exact lw_any | exact lw_int | exact lw_bool | exact lw_ptr rfl | exact lw_slo rfl | exact lw_nilp | exact lw_nils | exact lw_str | exact lw_slo_nils | exact lw_slo_sle | exact lw_sl rfl | exact lw_unb | exact lw_gptr | exact lw_noid rfl | exact lw_cap rfl (Nat.le_refl _) | exact lw_cap rfl (by omega) | assumption)) ?_); exact lws_nil)) (by simp) | exact lb_iter | exact lb_cap (Nat.le_refl _) (Nat.le_refl _) rfl rfl | assumption)) ?_); exact okBlks_nil)⟩)⟩
  rw [if_neg h0]
  simp only [hld]
  refine ite_way (fun hw => ?_) (fun hw => ?_)
  · rw [if_pos hw]
    refine ite_way (fun hn => ?_) (fun hn => ?_)
    · rw [if_pos hn, of_num (by omega) (by omega)]; exact ⟨rfl, _, [], [], ⟨rfl, rfl⟩, by (exact ⟨by kernel_rfl, by ((repeat refine okTms_cons (by (first | exact lw_any | exact lw_int | exact lw_bool | exact lw_ptr rfl | exact lw_slo rfl | exact lw_nilp | exact lw_nils | exact lw_str | exact lw_slo_nils | exact lw_slo_sle | exact lw_sl rfl | exact lw_unb | exact lw_gptr | exact lw_noid rfl | exact lw_cap rfl (Nat.le_refl _) | exact lw_cap rfl (by omega) | assumption)) ?_); exact okTms_nil), by ((repeat refine okBlks_cons (by (first | exact lb_dead | exact lb_same (by (first | assumption | exact noIds_tab (fun _ => rfl) _ _ | exact noIds_encL (fun _ => rfl) _ | rfl)) | exact lb_ro (by (first | assumption | exact noIds_tab (fun _ => rfl) _ _ | exact noIds_encL (fun _ => rfl) _ | rfl)) | exact lb_none | exact lb_cells (by ((repeat refine lws_cons (by (first | exact lw_any | exact lw_int | exact lw_bool | exact lw_ptr rfl | exact lw_slo rfl | exact lw_nilp | exact lw_nils | exact lw_str | exact lw_slo_nils | exact lw_slo_sle | exact lw_sl rfl | exact lw_unb | exact lw_gptr | exact lw_noid rfl | exact lw_cap rfl (Nat.le_refl _) | exact lw_cap rfl (by omega) | assumption)) ?_); exact lws_nil)) (by simp) | exact lb_iter | exact lb_cap (Nat.le_refl _) (Nat.le_refl _) rfl rfl | assumption)) ?_); exact okBlks_nil)⟩)⟩
    · rw [if_neg hn]
      refine ite_way (fun hm => ?_) (fun hm => ?_)
      · rw [if_pos hm, of_num (by omega) (by omega)]; exact ⟨rfl, _, [], [], ⟨rfl, rfl⟩, by (exact ⟨by kernel_rfl, by ((repeat refine okTms_cons (by (first | exact lw_any | exact lw_int | exact lw_bool | exact lw_ptr rfl | exact lw_slo rfl | exact lw_nilp | exact lw_nils | exact lw_str | exact lw_slo_nils | exact lw_slo_sle | exact lw_sl rfl | exact lw_unb | exact lw_gptr | exact lw_noid rfl | exact lw_cap rfl (Nat.le_refl _) | exact lw_cap rfl (by omega) | assumption)) ?_); exact okTms_nil), by ((repeat refine okBlks_cons (by (first | exact lb_dead | exact lb_same (by (first | assumption | exact noIds_tab (fun _ => rfl) _ _ | exact noIds_encL (fun _ => rfl) _ | rfl)) | exact lb_ro (by (first | assumption | exact noIds_tab (fun _ => rfl) _ _ | exact noIds_encL (fun _ => rfl) _ | rfl)) | exact lb_none | exact lb_cells (by ((repeat refine lws_cons (by (first | exact lw_any | exact lw_int | exact lw_bool | exact lw_ptr rfl | exact lw_slo rfl | exact lw_nilp | exact lw_nils | exact lw_str | exact lw_slo_nils | exact lw_slo_sle | exact lw_sl rfl | exact lw_unb | exact lw_gptr | exact lw_noid rfl | exact lw_cap rfl (Nat.le_refl _) | exact lw_cap rfl (by omega) | assumption)) ?_); exact lws_nil)) (by simp) | exact lb_iter | exact lb_cap (Nat.le_refl _) (Nat.le_refl _) rfl rfl | assumption)) ?_); exact okBlks_nil)⟩)⟩
      · rw [if_neg hm]; (repeat (with_reducible refine must (by (first | with_reducible rfl | exact t_le (by omega) | exact t_eq (by omega) | exact t_nn (by omega) | exact t_lss (by omega) | exact t_leq (by omega) | exact t_gtr (by omega) | exact t_geq (by omega) | exact t_eql (by omega) | exact t_neq (by omega) | exact t_z (by omega) | exact wd_not_f | assumption)) ?_))
        rw [of_num (by omega) (by omega)]; exact ⟨rfl, _, [], [], ⟨rfl, rfl⟩, by (exact ⟨by kernel_rfl, by ((repeat refine okTms_cons (by (first | exact lw_any | exact lw_int | exact lw_bool | exact lw_ptr rfl | exact lw_slo rfl | exact lw_nilp | exact lw_nils | exact lw_str | exact lw_slo_nils | exact lw_slo_sle | exact lw_sl rfl | exact lw_unb | exact lw_gptr | exact lw_noid rfl | exact lw_cap rfl (Nat.le_refl _) | exact lw_cap rfl (by omega) | assumption)) ?_); exact okTms_nil), by ((repeat refine okBlks_cons (by (first | exact lb_dead | exact lb_same (by (first | assumption | exact noIds_tab (fun _ => rfl) _ _ | exact noIds_encL (fun _ => rfl) _ | rfl)) | exact lb_ro (by (first | assumption | exact noIds_tab (fun _ => rfl) _ _ | exact noIds_encL (fun _ => rfl) _ | rfl)) | exact lb_none | exact lb_cells (by ((repeat refine lws_cons (by (first | exact lw_any | exact lw_int | exact lw_bool | exact lw_ptr rfl | exact lw_slo rfl | exact lw_nilp | exact lw_nils | exact lw_str | exact lw_slo_nils | exact lw_slo_sle | exact lw_sl rfl | exact lw_unb | exact lw_gptr | exact lw_noid rfl | exact lw_cap rfl (Nat.le_refl _) | exact lw_cap rfl (by omega) | assumption)) ?_); exact lws_nil)) (by simp) | exact lb_iter | exact lb_cap (Nat.le_refl _) (Nat.le_refl _) rfl rfl | assumption)) ?_); exact okBlks_nil)⟩)⟩
  rw [if_neg hw]
  refine ite_way (fun hv => ?_) (fun hv => ?_)
  · rw [if_pos hv]
    refine ite_way (fun hn => ?_) (fun hn => ?_)
    · rw [if_pos hn, of_num (by omega) (by omega)]; exact ⟨rfl, _, [], [], ⟨rfl, rfl⟩, by (exact ⟨by kernel_rfl, by ((repeat refine okTms_cons (by (first | exact lw_any | exact lw_int | exact lw_bool | exact lw_ptr rfl | exact lw_slo rfl | exact lw_nilp | exact lw_nils | exact lw_str | exact lw_slo_nils | exact lw_slo_sle | exact lw_sl rfl | exact lw_unb | exact lw_gptr | exact lw_noid rfl | exact lw_cap rfl (Nat.le_refl _) | exact lw_cap rfl (by omega) | assumption)) ?_); exact okTms_nil), by ((repeat refine okBlks_cons (by (first | exact lb_dead | exact lb_same (by (first | assumption | exact noIds_tab (fun _ => rfl) _ _ | exact noIds_encL (fun _ => rfl) _ | rfl)) | exact lb_ro (by (first | assumption | exact noIds_tab (fun _ => rfl) _ _ | exact noIds_encL (fun _ => rfl) _ | rfl)) | exact lb_none | exact lb_cells (by ((repeat refine lws_cons (by (first | exact lw_any | exact lw_int | exact lw_bool | exact lw_ptr rfl | exact lw_slo rfl | exact lw_nilp | exact lw_nils | exact lw_str | exact lw_slo_nils | exact lw_slo_sle | exact lw_sl rfl | exact lw_unb | exact lw_gptr | exact lw_noid rfl | exact lw_cap rfl (Nat.le_refl _) | exact lw_cap rfl (by omega) | assumption)) ?_); exact lws_nil)) (by simp) | exact lb_iter | exact lb_cap (Nat.le_refl _) (Nat.le_refl _) rfl rfl | assumption)) ?_); exact okBlks_nil)⟩)⟩
    · rw [if_neg hn]
      refine ite_way (fun hm => ?_) (fun hm => ?_)
      · rw [if_pos hm, of_num (by omega) (by omega)]; exact ⟨rfl, _, [], [], ⟨rfl, rfl⟩, by (exact ⟨by kernel_rfl, by ((repeat refine okTms_cons (by (first | exact lw_any | exact lw_int | exact lw_bool | exact lw_ptr rfl | exact lw_slo rfl | exact lw_nilp | exact lw_nils | exact lw_str | exact lw_slo_nils | exact lw_slo_sle | exact lw_sl rfl | exact lw_unb | exact lw_gptr | exact lw_noid rfl | exact lw_cap rfl (Nat.le_refl _) | exact lw_cap rfl (by omega) | assumption)) ?_); exact okTms_nil), by ((repeat refine okBlks_cons (by (first | exact lb_dead | exact lb_same (by (first | assumption | exact noIds_tab (fun _ => rfl) _ _ | exact noIds_encL (fun _ => rfl) _ | rfl)) | exact lb_ro (by (first | assumption | exact noIds_tab (fun _ => rfl) _ _ | exact noIds_encL (fun _ => rfl) _ | rfl)) | exact lb_none | exact lb_cells (by ((repeat refine lws_cons (by (first | exact lw_any | exact lw_int | exact lw_bool | exact lw_ptr rfl | exact lw_slo rfl | exact lw_nilp | exact lw_nils | exact lw_str | exact lw_slo_nils | exact lw_slo_sle | exact lw_sl rfl | exact lw_unb | exact lw_gptr | exact lw_noid rfl | exact lw_cap rfl (Nat.le_refl _) | exact lw_cap rfl (by omega) | assumption)) ?_); exact lws_nil)) (by simp) | exact lb_iter | exact lb_cap (Nat.le_refl _) (Nat.le_refl _) rfl rfl | assumption)) ?_); exact okBlks_nil)⟩)⟩
      · rw [if_neg hm]; (repeat (with_reducible refine must (by (first | with_reducible rfl | exact t_le (by omega) | exact t_eq (by omega) | exact t_nn (by omega) | exact t_lss (by omega) | exact t_leq (by omega) | exact t_gtr (by omega) | exact t_geq (by omega) | exact t_eql (by omega) | exact t_neq (by omega) | exact t_z (by omega) | exact wd_not_f | assumption)) ?_))
        rw [of_num (by omega) (by omega)]; exact ⟨rfl, _, [], [], ⟨rfl, rfl⟩, by (exact ⟨by kernel_rfl, by ((repeat refine okTms_cons (by (first | exact lw_any | exact lw_int | exact lw_bool | exact lw_ptr rfl | exact lw_slo rfl | exact lw_nilp | exact lw_nils | exact lw_str | exact lw_slo_nils | exact lw_slo_sle | exact lw_sl rfl | exact lw_unb | exact lw_gptr | exact lw_noid rfl | exact lw_cap rfl (Nat.le_refl _) | exact lw_cap rfl (by omega) | assumption)) ?_); exact okTms_nil), by ((repeat refine okBlks_cons (by (first | exact lb_dead | exact lb_same (by (first | assumption | exact noIds_tab (fun _ => rfl) _ _ | exact noIds_encL (fun _ => rfl) _ | rfl)) | exact lb_ro (by (first | assumption | exact noIds_tab (fun _ => rfl) _ _ | exact noIds_encL (fun _ => rfl) _ | rfl)) | exact lb_none | exact lb_cells (by ((repeat refine lws_cons (by (first | exact lw_any | exact lw_int | exact lw_bool | exact lw_ptr rfl | exact lw_slo rfl | exact lw_nilp | exact lw_nils | exact lw_str | exact lw_slo_nils | exact lw_slo_sle | exact lw_sl rfl | exact lw_unb | exact lw_gptr | exact lw_noid rfl | exact lw_cap rfl (Nat.le_refl _) | exact lw_cap rfl (by omega) | assumption)) ?_); exact lws_nil)) (by simp) | exact lb_iter | exact lb_cap (Nat.le_refl _) (Nat.le_refl _) rfl rfl | assumption)) ?_); exact okBlks_nil)⟩)⟩
  rw [if_neg hv]
  (repeat (with_reducible refine must (by (first | with_reducible rfl | exact t_le (by omega) | exact t_eq (by omega) | exact t_nn (by omega) | exact t_lss (by omega) | exact t_leq (by omega) | exact t_gtr (by omega) | exact t_geq (by omega) | exact t_eql (by omega) | exact t_neq (by omega) | exact t_z (by omega) | exact wd_not_f | assumption)) ?_))
  refine ite_way (fun hn => ?_) (fun hn => ?_)
  · rw [if_pos hn, of_num (by omega) (by omega)]; exact ⟨rfl, _, [], [], ⟨rfl, rfl⟩, by (exact ⟨by kernel_rfl, by ((repeat refine okTms_cons (by (first | exact lw_any | exact lw_int | exact lw_bool | exact lw_ptr rfl | exact lw_slo rfl | exact lw_nilp | exact lw_nils | exact lw_str | exact lw_slo_nils | exact lw_slo_sle | exact lw_sl rfl | exact lw_unb | exact lw_gptr | exact lw_noid rfl | exact lw_cap rfl (Nat.le_refl _) | exact lw_cap rfl (by omega) | assumption)) ?_); exact okTms_nil), by ((repeat refine okBlks_cons (by (first | exact lb_dead | exact lb_same (by (first | assumption | exact noIds_tab (fun _ => rfl) _ _ | exact noIds_encL (fun _ => rfl) _ | rfl)) | exact lb_ro (by (first | assumption | exact noIds_tab (fun _ => rfl) _ _ | exact noIds_encL (fun _ => rfl) _ | rfl)) | exact lb_none | exact lb_cells (by ((repeat refine lws_cons (by (first | exact lw_any | exact lw_int | exact lw_bool | exact lw_ptr rfl | exact lw_slo rfl | exact lw_nilp | exact lw_nils | exact lw_str | exact lw_slo_nils | exact lw_slo_sle | exact lw_sl rfl | exact lw_unb | exact lw_gptr | exact lw_noid rfl | exact lw_cap rfl (Nat.le_refl _) | exact lw_cap rfl (by omega) | assumption)) ?_); exact lws_nil)) (by simp) | exact lb_iter | exact lb_cap (Nat.le_refl _) (Nat.le_refl _) rfl rfl | assumption)) ?_); exact okBlks_nil)⟩)⟩
  · rw [if_neg hn]
    refine ite_way (fun hm => ?_) (fun hm => ?_)
    · rw [if_pos hm, of_num (by omega) (by omega)]; exact ⟨rfl, _, [], [], ⟨rfl, rfl⟩, by (exact ⟨by kernel_rfl, by ((repeat refine okTms_cons (by (first | exact lw_any | exact lw_int | exact lw_bool | exact lw_ptr rfl | exact lw_slo rfl | exact lw_nilp | exact lw_nils | exact lw_str | exact lw_slo_nils | exact lw_slo_sle | exact lw_sl rfl | exact lw_unb | exact lw_gptr | exact lw_noid rfl | exact lw_cap rfl (Nat.le_refl _) | exact lw_cap rfl (by omega) | assumption)) ?_); exact okTms_nil), by ((repeat refine okBlks_cons (by (first | exact lb_dead | exact lb_same (by (first | assumption | exact noIds_tab (fun _ => rfl) _ _ | exact noIds_encL (fun _ => rfl) _ | rfl)) | exact lb_ro (by (first | assumption | exact noIds_tab (fun _ => rfl) _ _ | exact noIds_encL (fun _ => rfl) _ | rfl)) | exact lb_none | exact lb_cells (by ((repeat refine lws_cons (by (first | exact lw_any | exact lw_int | exact lw_bool | exact lw_ptr rfl | exact lw_slo rfl | exact lw_nilp | exact lw_nils | exact lw_str | exact lw_slo_nils | exact lw_slo_sle | exact lw_sl rfl | exact lw_unb | exact lw_gptr | exact lw_noid rfl | exact lw_cap rfl (Nat.le_refl _) | exact lw_cap rfl (by omega) | assumption)) ?_); exact lws_nil)) (by simp) | exact lb_iter | exact lb_cap (Nat.le_refl _) (Nat.le_refl _) rfl rfl | assumption)) ?_); exact okBlks_nil)⟩)⟩
    · rw [if_neg hm]; (repeat (with_reducible refine must (by (first | with_reducible rfl | exact t_le (by omega) | exact t_eq (by omega) | exact t_nn (by omega) | exact t_lss (by omega) | exact t_leq (by omega) | exact t_gtr (by omega) | exact t_geq (by omega) | exact t_eql (by omega) | exact t_neq (by omega) | exact t_z (by omega) | exact wd_not_f | assumption)) ?_))
      rw [of_num (by omega) (by omega)]; exact ⟨rfl, _, [], [], ⟨rfl, rfl⟩, by (exact ⟨by kernel_rfl, by ((repeat refine okTms_cons (by (first | exact lw_any | exact lw_int | exact lw_bool | exact lw_ptr rfl | exact lw_slo rfl | exact lw_nilp | exact lw_nils | exact lw_str | exact lw_slo_nils | exact lw_slo_sle | exact lw_sl rfl | exact lw_unb | exact lw_gptr | exact lw_noid rfl | exact lw_cap rfl (Nat.le_refl _) | exact lw_cap rfl (by omega) | assumption)) ?_); exact okTms_nil), by ((repeat refine okBlks_cons (by (first | exact lb_dead | exact lb_same (by (first | assumption | exact noIds_tab (fun _ => rfl) _ _ | exact noIds_encL (fun _ => rfl) _ | rfl)) | exact lb_ro (by (first | assumption | exact noIds_tab (fun _ => rfl) _ _ | exact noIds_encL (fun _ => rfl) _ | rfl)) | exact lb_none | exact lb_cells (by ((repeat refine lws_cons (by (first | exact lw_any | exact lw_int | exact lw_bool | exact lw_ptr rfl | exact lw_slo rfl | exact lw_nilp | exact lw_nils | exact lw_str | exact lw_slo_nils | exact lw_slo_sle | exact lw_sl rfl | exact lw_unb | exact lw_gptr | exact lw_noid rfl | exact lw_cap rfl (Nat.le_refl _) | exact lw_cap rfl (by omega) | assumption)) ?_); exact lws_nil)) (by simp) | exact lb_iter | exact lb_cap (Nat.le_refl _) (Nat.le_refl _) rfl rfl | assumption)) ?_); exact okBlks_nil)⟩)⟩
theorem ofG_ok : GOk Go.Proofs.Try.prog 25 ofG := by
  intro args s bs l s' hg hb hfr
  unfold ofG at hg
  split at hg
  · rename_i a n w hgl
    simp only [Option.some.injEq, Prod.mk.injEq] at hg
    obtain ⟨rfl, rfl, rfl⟩ := hg
    exact SFun.pure hfr hgl rfl rfl (of_ok a n w)
  · cases hg
theorem ofG_ok' : GOk Go.Proofs.Try.prog 27 ofG := by
  intro args s bs l s' hg hb hfr
  unfold ofG at hg
  split at hg
  · rename_i a n w hgl
    simp only [Option.some.injEq, Prod.mk.injEq] at hg
    obtain ⟨rfl, rfl, rfl⟩ := hg
    exact SFun.pure hfr hgl rfl rfl (of_ok' a n w)
  · cases hg
/-! rows of integers; Same of two of them -/
def decIi64 : List LV → List Int
  | .int _ a :: r => a :: decIi64 r
  | _ => []
theorem decIi64_enc : ∀ xs, decIi64 (encL (cI .i64) xs) = xs
  | [] => rfl
  | x :: r => by simp [encL, cI, decIi64, decIi64_enc r]
def okIi64 (cs : List LV) (n : Nat) : Bool := @decide (cs = encL (cI .i64) (decIi64 cs) ∧ (decIi64 cs).length = n ∧ n ≤ 9223372036854775807) (Classical.propDecidable _)

theorem okIi64_iff {cs : List LV} {n : Nat} : okIi64 cs n = true ↔ ∃ xs, cs = encL (cI .i64) xs ∧ xs.length = n ∧ n ≤ 9223372036854775807 := by
  simp only [okIi64, decide_eq_true_eq]
  exact ⟨fun h => ⟨_, h⟩, fun ⟨xs, h1, h2⟩ => by subst h1; rw [decIi64_enc]; exact ⟨rfl, h2⟩⟩
theorem okIi64_tab {n : Nat} (g : Nat → Int) (h : n ≤ 9223372036854775807) : okIi64 (tab (cI .i64) n g) n = true := okIi64_iff.2 ⟨_, rfl, by simp, h⟩
theorem okIi64_enc {xs : List Int} (h : xs.length ≤ 9223372036854775807) : okIi64 (encL (cI .i64) xs) xs.length = true := okIi64_iff.2 ⟨_, rfl, rfl, h⟩
theorem encIi64_len (xs : List Int) : (encL (cI .i64) xs).length = xs.length := by rw [encL_length (cI_len .i64)]; omega
theorem encIi64_push (xs : List Int) (y : Int) : xcat (xcut (encL (cI .i64) xs) 0 xs.length) [.int .i64 y] = encL (cI .i64) (xs ++ [y]) := by
  rw [xcut_all (by rw [encIi64_len]; omega), encL_append]; rfl
theorem encIi64_nth {xs : List Int} {i : Nat} (h : i < xs.length) : nthD (encL (cI .i64) xs) i = .int .i64 xs[i] := by
  have := encL_nth (cI_len .i64) (j := 0) h (by omega)
  simp only [Nat.mul_one, Nat.add_zero] at this
  exact this
theorem noIds_Ii64 (xs : List Int) : noIds (encL (cI .i64) xs) = true := noIds_encL (fun _ => rfl) xs
theorem xnoid_Ii64 (xs : List Int) : xnoid (encL (cI .i64) xs) = true := xnoid_encL (fun _ => rfl) xs
abbrev siTi64 (n m k : Nat) : List (Nat × LV) := [(0, .slo 0 0 n 0), (1, .slo 1 0 m 0), (5, .int .i64 k)]
abbrev siHi64 (cs ds : List LV) : List LB := [.cells cs (some 1), .cells ds (some 1)]
abbrev siLi64 : List Nat := [0, 1, 4, 5]
theorem sii64_a (n m : Nat) (cs ds : List LV) (K : Pk) : (xsp Go.Proofs.Try.prog (fun _ => none) 40 26 (seg (sp Go.Proofs.Try.prog 21) 0 4) (tm0 [.slo 0 0 n 0, .slo 1 0 m 0]) (mkS (siHi64 cs ds)) (vK siLi64 K)) = (
  bif xcm .neq ↑n ↑m then (
   K .ret [.slo 0 0 n 0, .slo 1 0 m 0, .bool false, .tup []] [some (.cells cs (some 1)), some (.cells ds (some 1))] [])
  else (
   K .normal [.slo 0 0 n 0, .slo 1 0 m 0, .bool false, .int .i64 0] [some (.cells cs (some 1)), some (.cells ds (some 1))] [])) := by kernel_rfl
theorem sii64_b (n m k : Nat) (cs ds : List LV) (K : Pk) : (xcode Go.Proofs.Try.prog (fun _ => none) 40 26 (loopOf (nthC (sp Go.Proofs.Try.prog 21) 4)) (mkTm 26 (siTi64 n m k)) (mkS (siHi64 cs ds)) (vK siLi64 K)) = (
  bif xcm .lss ↑k ↑n then (
   bif xle (xadd (xnat ↑k) 1) n then
   bif xle (xadd (xix 0 (xnat ↑k) 1) 1) (xln cs) then
   bif isI .i64 (nthD cs (xix 0 (xnat ↑k) 1)) then
   bif xle (xadd (xnat ↑k) 1) m then
   bif xle (xadd (xix 0 (xnat ↑k) 1) 1) (xln ds) then
   bif isI .i64 (nthD ds (xix 0 (xnat ↑k) 1)) then
   bif xcm .neq (asI (nthD cs (xix 0 (xnat ↑k) 1))) (asI (nthD ds (xix 0 (xnat ↑k) 1))) then (
    K .ret [.slo 0 0 n 0, .slo 1 0 m 0, .bool false, .int .i64 ↑k] [some (.cells cs (some 1)), some (.cells ds (some 1))] [])
   else (
    K .normal [.slo 0 0 n 0, .slo 1 0 m 0, .any, .int .i64 (xar .add .i64 (↑k) 1)] [some (.cells cs (some 1)), some (.cells ds (some 1))] [])
   else False
   else False
   else False
   else False
   else False
   else False)
  else (
   K (.exit 0) [.slo 0 0 n 0, .slo 1 0 m 0, .any, .int .i64 ↑k] [some (.cells cs (some 1)), some (.cells ds (some 1))] [])) := by kernel_rfl
theorem sii64_z (cs ds : List LV) (K : Pk) : (xsp Go.Proofs.Try.prog (fun _ => none) 40 26 ((sp Go.Proofs.Try.prog 21).drop 5) (mkTm 26 []) (mkS (siHi64 cs ds)) (vK siLi64 K)) = (
  K .ret [.any, .any, .bool true, .any] [some (.cells cs (some 1)), some (.cells ds (some 1))] []) := by kernel_rfl
open Classical in
def sameIi64 (n m : Nat) (cs ds : List LV) : Bool := @decide (n = m ∧ cs = ds) (Classical.propDecidable _)

theorem sameIi64_self (n : Nat) (cs : List LV) : sameIi64 n n cs cs = true := by simp [sameIi64]
theorem sameIi64_ok (xs ys : List Int) (hn : xs.length ≤ 9223372036854775807) (hm : ys.length ≤ 9223372036854775807) : SFun Go.Proofs.Try.prog 21 [.slo 0 0 xs.length 0, .slo 1 0 ys.length 0] (mkS (siHi64 (encL (cI .i64) xs) (encL (cI .i64) ys)))
    fun l s => l = .bool (sameIi64 xs.length ys.length (encL (cI .i64) xs) (encL (cI .i64) ys)) ∧ s = mkS (siHi64 (encL (cI .i64) xs) (encL (cI .i64) ys)) := by
  refine SFun.mono (SFun.pieces (Q := fun l b => l = .bool (sameIi64 xs.length ys.length (encL (cI .i64) xs) (encL (cI .i64) ys)) ∧ b = siHi64 (encL (cI .i64) xs) (encL (cI .i64) ys)) 26 2 siLi64 [4] (by kernel_rfl) rfl rfl rfl ?_) fun l s' ⟨b0, ⟨h1, h2⟩, h3⟩ => ⟨h1, by rw [h3, h2]⟩
  have nx := noIds_Ii64 xs
  have ny := noIds_Ii64 ys
  have hinj : ∀ a b : List Int, encL (cI .i64) a = encL (cI .i64) b → a = b := fun a b h => by rw [← decIi64_enc a, h, decIi64_enc]
  refine SSp.to noCx_ok (n := 40) (g := []) 4 4 rfl (σ := {_k : Unit // xs.length = ys.length}) (fun _ => siTi64 xs.length ys.length 0) (fun _ => siHi64 (encL (cI .i64) xs) (encL (cI .i64) ys)) (mkS_le (Nat.le_refl _)) (by kernel_rfl) ?_ fun ⟨_, hnm⟩ => ?_
  · rw [sii64_a, wd_neq]
    by_cases e : xs.length = ys.length
    · simp only [e, decide_true, Bool.not_true, cond_false]
      exact ⟨rfl, ⟨(), e⟩, [.id 0, .id 1], by (exact ⟨by kernel_rfl, by ((repeat refine okTms_cons (by (first | exact lw_any | exact lw_int | exact lw_bool | exact lw_ptr rfl | exact lw_slo rfl | exact lw_nilp | exact lw_nils | exact lw_str | exact lw_slo_nils | exact lw_slo_sle | exact lw_sl rfl | exact lw_unb | exact lw_gptr | exact lw_noid rfl | exact lw_cap rfl (Nat.le_refl _) | exact lw_cap rfl (by omega) | assumption)) ?_); exact okTms_nil), by ((repeat refine okBlks_cons (by (first | exact lb_dead | exact lb_same (by (first | assumption | exact noIds_tab (fun _ => rfl) _ _ | exact noIds_encL (fun _ => rfl) _ | rfl)) | exact lb_ro (by (first | assumption | exact noIds_tab (fun _ => rfl) _ _ | exact noIds_encL (fun _ => rfl) _ | rfl)) | exact lb_none | exact lb_cells (by ((repeat refine lws_cons (by (first | exact lw_any | exact lw_int | exact lw_bool | exact lw_ptr rfl | exact lw_slo rfl | exact lw_nilp | exact lw_nils | exact lw_str | exact lw_slo_nils | exact lw_slo_sle | exact lw_sl rfl | exact lw_unb | exact lw_gptr | exact lw_noid rfl | exact lw_cap rfl (Nat.le_refl _) | exact lw_cap rfl (by omega) | assumption)) ?_); exact lws_nil)) (by simp) | exact lb_iter | exact lb_cap (Nat.le_refl _) (Nat.le_refl _) rfl rfl | assumption)) ?_); exact okBlks_nil)⟩)⟩
    · simp only [e, decide_false, Bool.not_false, cond_true]
      have hs : sameIi64 xs.length ys.length (encL (cI .i64) xs) (encL (cI .i64) ys) = false := by simp only [sameIi64, decide_eq_false_iff_not]; exact fun k => e k.1
      exact ⟨trivial, rfl, _, _, [.id 0, .id 1], ⟨rfl, rfl⟩, by rw [hs]; (exact ⟨by kernel_rfl, by ((repeat refine okTms_cons (by (first | exact lw_any | exact lw_int | exact lw_bool | exact lw_ptr rfl | exact lw_slo rfl | exact lw_nilp | exact lw_nils | exact lw_str | exact lw_slo_nils | exact lw_slo_sle | exact lw_sl rfl | exact lw_unb | exact lw_gptr | exact lw_noid rfl | exact lw_cap rfl (Nat.le_refl _) | exact lw_cap rfl (by omega) | assumption)) ?_); exact okTms_nil), by ((repeat refine okBlks_cons (by (first | exact lb_dead | exact lb_same (by (first | assumption | exact noIds_tab (fun _ => rfl) _ _ | exact noIds_encL (fun _ => rfl) _ | rfl)) | exact lb_ro (by (first | assumption | exact noIds_tab (fun _ => rfl) _ _ | exact noIds_encL (fun _ => rfl) _ | rfl)) | exact lb_none | exact lb_cells (by ((repeat refine lws_cons (by (first | exact lw_any | exact lw_int | exact lw_bool | exact lw_ptr rfl | exact lw_slo rfl | exact lw_nilp | exact lw_nils | exact lw_str | exact lw_slo_nils | exact lw_slo_sle | exact lw_sl rfl | exact lw_unb | exact lw_gptr | exact lw_noid rfl | exact lw_cap rfl (Nat.le_refl _) | exact lw_cap rfl (by omega) | assumption)) ?_); exact lws_nil)) (by simp) | exact lb_iter | exact lb_cap (Nat.le_refl _) (Nat.le_refl _) rfl rfl | assumption)) ?_); exact okBlks_nil)⟩)⟩
  refine SSp.code_to (g := []) 5 rfl (σ := {_k : Unit // xs = ys}) (fun _ => []) (fun _ => siHi64 (encL (cI .i64) xs) (encL (cI .i64) ys)) (by kernel_rfl) ?_ fun ⟨_, hall⟩ => ?_
  · refine SCode.loop_vc noCx_ok (n := 40) 0 (by kernel_rfl) (σ := {k : Nat // k ≤ xs.length ∧ ∀ i (h : i < xs.length) (h' : i < ys.length), i < k → xs[i] = ys[i]}) (fun k => siTi64 xs.length ys.length k.1) (fun _ => siHi64 (encL (cI .i64) xs) (encL (cI .i64) ys)) (fun k => xs.length - k.1) (fun _ => Nat.le_refl _) (fun ⟨k, hk, hall⟩ => ?_) ⟨0, Nat.zero_le _, fun i _ _ hi => absurd hi (by omega)⟩
    dsimp only
    rw [sii64_b, wd_lss]
    refine ite_way (fun h0 => ?_) (fun h0 => ⟨rfl, ⟨(), List.ext_getElem hnm fun i h1 h2 => hall i h1 h2 (by omega)⟩, [.id 0, .id 1], by (exact ⟨by kernel_rfl, by ((repeat refine okTms_cons (by (first | exact lw_any | exact lw_int | exact lw_bool | exact lw_ptr rfl | exact lw_slo rfl | exact lw_nilp | exact lw_nils | exact lw_str | exact lw_slo_nils | exact lw_slo_sle | exact lw_sl rfl | exact lw_unb | exact lw_gptr | exact lw_noid rfl | exact lw_cap rfl (Nat.le_refl _) | exact lw_cap rfl (by omega) | assumption)) ?_); exact okTms_nil), by ((repeat refine okBlks_cons (by (first | exact lb_dead | exact lb_same (by (first | assumption | exact noIds_tab (fun _ => rfl) _ _ | exact noIds_encL (fun _ => rfl) _ | rfl)) | exact lb_ro (by (first | assumption | exact noIds_tab (fun _ => rfl) _ _ | exact noIds_encL (fun _ => rfl) _ | rfl)) | exact lb_none | exact lb_cells (by ((repeat refine lws_cons (by (first | exact lw_any | exact lw_int | exact lw_bool | exact lw_ptr rfl | exact lw_slo rfl | exact lw_nilp | exact lw_nils | exact lw_str | exact lw_slo_nils | exact lw_slo_sle | exact lw_sl rfl | exact lw_unb | exact lw_gptr | exact lw_noid rfl | exact lw_cap rfl (Nat.le_refl _) | exact lw_cap rfl (by omega) | assumption)) ?_); exact lws_nil)) (by simp) | exact lb_iter | exact lb_cap (Nat.le_refl _) (Nat.le_refl _) rfl rfl | assumption)) ?_); exact okBlks_nil)⟩)⟩)
    have h1 : k < ys.length := by omega
    simp only [wd_nat, wd_ix, wd_add, wd_mul, wd_ln, Nat.zero_add, Nat.mul_one, wd_isI, wd_asI, wd_isB, wd_asB, wd_nn, cI_tlen, cB_tlen, cII_tlen, decide_true, cond_true, wd_not_t, wd_not_f, wd_and_t, wd_and_f, encIi64_nth h0, encIi64_nth h1, encIi64_len, inc_i64 h0 hn, xcm_neq]
    (repeat (with_reducible refine must (by (first | with_reducible rfl | exact t_le (by omega) | exact t_eq (by omega) | exact t_nn (by omega) | exact t_lss (by omega) | exact t_leq (by omega) | exact t_gtr (by omega) | exact t_geq (by omega) | exact t_eql (by omega) | exact t_neq (by omega) | exact t_z (by omega) | exact wd_not_f | assumption)) ?_))
    by_cases e : xs[k] = ys[k]
    · simp only [e, decide_true, Bool.not_true, cond_false]
      exact ⟨rfl, ⟨k + 1, h0, fun i h2 h3 hi => by rcases Nat.lt_succ_iff_lt_or_eq.1 hi with hi | rfl; exact hall i h2 h3 hi; exact e⟩, by simp only; omega, [.id 0, .id 1], by (exact ⟨by kernel_rfl, by ((repeat refine okTms_cons (by (first | exact lw_any | exact lw_int | exact lw_bool | exact lw_ptr rfl | exact lw_slo rfl | exact lw_nilp | exact lw_nils | exact lw_str | exact lw_slo_nils | exact lw_slo_sle | exact lw_sl rfl | exact lw_unb | exact lw_gptr | exact lw_noid rfl | exact lw_cap rfl (Nat.le_refl _) | exact lw_cap rfl (by omega) | assumption)) ?_); exact okTms_nil), by ((repeat refine okBlks_cons (by (first | exact lb_dead | exact lb_same (by (first | assumption | exact noIds_tab (fun _ => rfl) _ _ | exact noIds_encL (fun _ => rfl) _ | rfl)) | exact lb_ro (by (first | assumption | exact noIds_tab (fun _ => rfl) _ _ | exact noIds_encL (fun _ => rfl) _ | rfl)) | exact lb_none | exact lb_cells (by ((repeat refine lws_cons (by (first | exact lw_any | exact lw_int | exact lw_bool | exact lw_ptr rfl | exact lw_slo rfl | exact lw_nilp | exact lw_nils | exact lw_str | exact lw_slo_nils | exact lw_slo_sle | exact lw_sl rfl | exact lw_unb | exact lw_gptr | exact lw_noid rfl | exact lw_cap rfl (Nat.le_refl _) | exact lw_cap rfl (by omega) | assumption)) ?_); exact lws_nil)) (by simp) | exact lb_iter | exact lb_cap (Nat.le_refl _) (Nat.le_refl _) rfl rfl | assumption)) ?_); exact okBlks_nil)⟩)⟩
    · have hs : sameIi64 xs.length ys.length (encL (cI .i64) xs) (encL (cI .i64) ys) = false := by
        simp only [sameIi64, decide_eq_false_iff_not]
        intro q
        have := hinj _ _ q.2
        subst this
        exact e rfl
      simp only [e, decide_false, Bool.not_false, cond_true]
      exact ⟨trivial, rfl, _, _, [.id 0, .id 1], ⟨rfl, rfl⟩, by rw [hs]; (exact ⟨by kernel_rfl, by ((repeat refine okTms_cons (by (first | exact lw_any | exact lw_int | exact lw_bool | exact lw_ptr rfl | exact lw_slo rfl | exact lw_nilp | exact lw_nils | exact lw_str | exact lw_slo_nils | exact lw_slo_sle | exact lw_sl rfl | exact lw_unb | exact lw_gptr | exact lw_noid rfl | exact lw_cap rfl (Nat.le_refl _) | exact lw_cap rfl (by omega) | assumption)) ?_); exact okTms_nil), by ((repeat refine okBlks_cons (by (first | exact lb_dead | exact lb_same (by (first | assumption | exact noIds_tab (fun _ => rfl) _ _ | exact noIds_encL (fun _ => rfl) _ | rfl)) | exact lb_ro (by (first | assumption | exact noIds_tab (fun _ => rfl) _ _ | exact noIds_encL (fun _ => rfl) _ | rfl)) | exact lb_none | exact lb_cells (by ((repeat refine lws_cons (by (first | exact lw_any | exact lw_int | exact lw_bool | exact lw_ptr rfl | exact lw_slo rfl | exact lw_nilp | exact lw_nils | exact lw_str | exact lw_slo_nils | exact lw_slo_sle | exact lw_sl rfl | exact lw_unb | exact lw_gptr | exact lw_noid rfl | exact lw_cap rfl (Nat.le_refl _) | exact lw_cap rfl (by omega) | assumption)) ?_); exact lws_nil)) (by simp) | exact lb_iter | exact lb_cap (Nat.le_refl _) (Nat.le_refl _) rfl rfl | assumption)) ?_); exact okBlks_nil)⟩)⟩
  refine SSp.last noCx_ok (n := 40) (mkS_le (Nat.le_refl _)) ?_
  rw [sii64_z]
  have hs : sameIi64 xs.length ys.length (encL (cI .i64) xs) (encL (cI .i64) ys) = true := by
    simp only [sameIi64, decide_eq_true_eq]; exact ⟨hnm, by rw [hall]⟩
  exact ⟨trivial, rfl, _, _, [.id 0, .id 1], ⟨rfl, rfl⟩, by rw [hs]; (exact ⟨by kernel_rfl, by ((repeat refine okTms_cons (by (first | exact lw_any | exact lw_int | exact lw_bool | exact lw_ptr rfl | exact lw_slo rfl | exact lw_nilp | exact lw_nils | exact lw_str | exact lw_slo_nils | exact lw_slo_sle | exact lw_sl rfl | exact lw_unb | exact lw_gptr | exact lw_noid rfl | exact lw_cap rfl (Nat.le_refl _) | exact lw_cap rfl (by omega) | assumption)) ?_); exact okTms_nil), by ((repeat refine okBlks_cons (by (first | exact lb_dead | exact lb_same (by (first | assumption | exact noIds_tab (fun _ => rfl) _ _ | exact noIds_encL (fun _ => rfl) _ | rfl)) | exact lb_ro (by (first | assumption | exact noIds_tab (fun _ => rfl) _ _ | exact noIds_encL (fun _ => rfl) _ | rfl)) | exact lb_none | exact lb_cells (by ((repeat refine lws_cons (by (first | exact lw_any | exact lw_int | exact lw_bool | exact lw_ptr rfl | exact lw_slo rfl | exact lw_nilp | exact lw_nils | exact lw_str | exact lw_slo_nils | exact lw_slo_sle | exact lw_sl rfl | exact lw_unb | exact lw_gptr | exact lw_noid rfl | exact lw_cap rfl (Nat.le_refl _) | exact lw_cap rfl (by omega) | assumption)) ?_); exact lws_nil)) (by simp) | exact lb_iter | exact lb_cap (Nat.le_refl _) (Nat.le_refl _) rfl rfl | assumption)) ?_); exact okBlks_nil)⟩)⟩
def sameIi64G : Gc := fun args s => match args with
  | [.slo b 0 n 0, .slo c 0 m 0] => (match s.h.get b, s.h.get c, s.g with
    | some (.cells cs (some 1)), some (.cells ds (some 1)), [] => cond (Nat.beq b c) none (some ([okIi64 cs n, okIi64 ds m], .bool (sameIi64 n m cs ds), s))
    | _, _, _ => none)
  | _ => none
theorem sameIi64G_ok : GOk Go.Proofs.Try.prog 21 sameIi64G := by
  intro args s bs l s' hg hb hfr
  unfold sameIi64G at hg
  split at hg
  · rename_i b n c m
    split at hg
    · rename_i cs ds hb1 hc1 hgl
      cases hbc : Nat.beq b c with
      | true => rw [hbc] at hg; cases hg
      | false =>
        rw [hbc] at hg
        simp only [cond_false, Option.some.injEq, Prod.mk.injEq] at hg
        obtain ⟨rfl, rfl, rfl⟩ := hg
        obtain ⟨k1, k2⟩ := allT_cons.1 hb
        obtain ⟨xs, rfl, rfl, h1⟩ := okIi64_iff.1 k1
        obtain ⟨ys, rfl, rfl, h2⟩ := okIi64_iff.1 (allT_cons.1 k2).1
        have nx := noIds_Ii64 xs
        have ny := noIds_Ii64 ys
        refine SFun.lift_ro (ρ := [b, c]) (bs := siHi64 (encL (cI .i64) xs) (encL (cI .i64) ys)) (args0 := [.slo 0 0 xs.length 0, .slo 1 0 ys.length 0]) hfr (by simp [beq_ne hbc]) ⟨⟨there hfr hb1, _, hb1, by (first | exact lb_dead | exact lb_same (by (first | assumption | exact noIds_tab (fun _ => rfl) _ _ | exact noIds_encL (fun _ => rfl) _ | rfl)) | exact lb_ro (by (first | assumption | exact noIds_tab (fun _ => rfl) _ _ | exact noIds_encL (fun _ => rfl) _ | rfl)) | exact lb_none | exact lb_cells (by ((repeat refine lws_cons (by (first | exact lw_any | exact lw_int | exact lw_bool | exact lw_ptr rfl | exact lw_slo rfl | exact lw_nilp | exact lw_nils | exact lw_str | exact lw_slo_nils | exact lw_slo_sle | exact lw_sl rfl | exact lw_unb | exact lw_gptr | exact lw_noid rfl | exact lw_cap rfl (Nat.le_refl _) | exact lw_cap rfl (by omega) | assumption)) ?_); exact lws_nil)) (by simp) | exact lb_iter | exact lb_cap (Nat.le_refl _) (Nat.le_refl _) rfl rfl | assumption), fun κ hκ => by (first | exact lb_dead | exact lb_same (by (first | assumption | exact noIds_tab (fun _ => rfl) _ _ | exact noIds_encL (fun _ => rfl) _ | rfl)) | exact lb_ro (by (first | assumption | exact noIds_tab (fun _ => rfl) _ _ | exact noIds_encL (fun _ => rfl) _ | rfl)) | exact lb_none | exact lb_cells (by ((repeat refine lws_cons (by (first | exact lw_any | exact lw_int | exact lw_bool | exact lw_ptr rfl | exact lw_slo rfl | exact lw_nilp | exact lw_nils | exact lw_str | exact lw_slo_nils | exact lw_slo_sle | exact lw_sl rfl | exact lw_unb | exact lw_gptr | exact lw_noid rfl | exact lw_cap rfl (Nat.le_refl _) | exact lw_cap rfl (by omega) | assumption)) ?_); exact lws_nil)) (by simp) | exact lb_iter | exact lb_cap (Nat.le_refl _) (Nat.le_refl _) rfl rfl | assumption)⟩, ⟨there hfr hc1, _, hc1, by (first | exact lb_dead | exact lb_same (by (first | assumption | exact noIds_tab (fun _ => rfl) _ _ | exact noIds_encL (fun _ => rfl) _ | rfl)) | exact lb_ro (by (first | assumption | exact noIds_tab (fun _ => rfl) _ _ | exact noIds_encL (fun _ => rfl) _ | rfl)) | exact lb_none | exact lb_cells (by ((repeat refine lws_cons (by (first | exact lw_any | exact lw_int | exact lw_bool | exact lw_ptr rfl | exact lw_slo rfl | exact lw_nilp | exact lw_nils | exact lw_str | exact lw_slo_nils | exact lw_slo_sle | exact lw_sl rfl | exact lw_unb | exact lw_gptr | exact lw_noid rfl | exact lw_cap rfl (Nat.le_refl _) | exact lw_cap rfl (by omega) | assumption)) ?_); exact lws_nil)) (by simp) | exact lb_iter | exact lb_cap (Nat.le_refl _) (Nat.le_refl _) rfl rfl | assumption), fun κ hκ => by (first | exact lb_dead | exact lb_same (by (first | assumption | exact noIds_tab (fun _ => rfl) _ _ | exact noIds_encL (fun _ => rfl) _ | rfl)) | exact lb_ro (by (first | assumption | exact noIds_tab (fun _ => rfl) _ _ | exact noIds_encL (fun _ => rfl) _ | rfl)) | exact lb_none | exact lb_cells (by ((repeat refine lws_cons (by (first | exact lw_any | exact lw_int | exact lw_bool | exact lw_ptr rfl | exact lw_slo rfl | exact lw_nilp | exact lw_nils | exact lw_str | exact lw_slo_nils | exact lw_slo_sle | exact lw_sl rfl | exact lw_unb | exact lw_gptr | exact lw_noid rfl | exact lw_cap rfl (Nat.le_refl _) | exact lw_cap rfl (by omega) | assumption)) ?_); exact lws_nil)) (by simp) | exact lb_iter | exact lb_cap (Nat.le_refl _) (Nat.le_refl _) rfl rfl | assumption)⟩, trivial⟩ (by ((repeat refine lws_cons (by (first | exact lw_any | exact lw_int | exact lw_bool | exact lw_ptr rfl | exact lw_slo rfl | exact lw_nilp | exact lw_nils | exact lw_str | exact lw_slo_nils | exact lw_slo_sle | exact lw_sl rfl | exact lw_unb | exact lw_gptr | exact lw_noid rfl | exact lw_cap rfl (Nat.le_refl _) | exact lw_cap rfl (by omega) | assumption)) ?_); exact lws_nil)) rfl ?_
        rw [hgl]
        exact sameIi64_ok xs ys h1 h2
    · cases hg
  · cases hg

end
end Go.Lev
