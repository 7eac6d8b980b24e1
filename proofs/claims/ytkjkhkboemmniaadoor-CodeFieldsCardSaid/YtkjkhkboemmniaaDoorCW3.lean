/- chapter 14: CodeNear, CodeFields: trees -/
import Derived.Test.YtkjkhkboemmniaaDoorCW2
import Derived.Test.YtkjkhkboemmniaaDoorLc
import Derived.Test.YtkjkhkboemmniaaDoorChecked
import Derived.KernelRfl

import Derived.Test.YtkjkhkboemmniaaDoorLc
import Derived.Test.YtkjkhkboemmniaaDoorRows
namespace Go.Lev
open Go.RowKit
set_option linter.unusedVariables false
set_option linter.unusedSimpArgs false
set_option maxRecDepth 100000
noncomputable section
/-! Within -/
theorem within_x (a lo hi : Int) (K : Fk) : (xfun Go.Proofs.Tryd.prog (fun _ => none) 40 17 [.int .i64 a, .int .i64 lo, .int .i64 hi] (mkS []) (vF K)) = (
  bif xcm .neq (xar .add .i64 (xar .sub .i64 hi lo) 1) 0 then
  bif xcm .lss (xar .rem .i64 a (xar .add .i64 (xar .sub .i64 hi lo) 1)) 0 then (
   K (.int .i64 (xar .add .i64 lo (xar .add .i64 (xar .sub .i64 (xar .add .i64 (xar .rem .i64 a (xar .add .i64 (xar .sub .i64 hi lo) 1)) hi) lo) 1))) [] [])
  else (
   K (.int .i64 (xar .add .i64 lo (xar .rem .i64 a (xar .add .i64 (xar .sub .i64 hi lo) 1)))) [] [])
  else False) := by kernel_rfl
def wthV (a lo hi : Int) : Int := lo + a % (hi - lo + 1)

def withinG : Gc := fun args s => match args, s.g with
  | [.int .i64 a, .int .i64 lo, .int .i64 hi], [] => some ([xcm .leq lo hi, xcm .leq (-1000000) lo, xcm .leq hi 1000000], .int .i64 (wthV a lo hi), s)
  | _, _ => none
theorem tmod_pos (a m : Int) (hm : 0 < m) : -m < a.tmod m ∧ a.tmod m < m ∧ (a.tmod m = a % m ∨ (a.tmod m < 0 ∧ a.tmod m + m = a % m)) := by
  have hb := Int.emod_nonneg a (b := m) (by omega)
  have hc := Int.emod_lt_of_pos a hm
  rcases Int.lt_or_le a 0 with h | h
  · have e : a.tmod m = -((-a).tmod m) := by have := Int.neg_tmod (-a) m; rw [Int.neg_neg] at this; exact this
    have h6 : 0 ≤ (-a).tmod m := Int.tmod_nonneg _ (by omega)
    have h7 : (-a).tmod m < m := Int.tmod_lt_of_pos _ hm
    refine ⟨by omega, by omega, ?_⟩
    have h8 : m ∣ a - a.tmod m := Int.dvd_self_sub_tmod
    have h9 : m ∣ a - a % m := Int.dvd_self_sub_emod
    obtain ⟨u, hu⟩ := h8
    obtain ⟨v, hv⟩ := h9
    have hd : a % m - a.tmod m = m * (u - v) := by rw [Int.mul_sub]; omega
    by_cases h0 : u - v ≤ -1
    · have : m * (u - v) ≤ m * (-1) := Int.mul_le_mul_of_nonneg_left h0 (by omega)
      omega
    · by_cases h1 : u - v = 0
      · rw [h1] at hd; simp at hd; exact .inl (by omega)
      · by_cases h2 : u - v = 1
        · rw [h2] at hd; simp at hd; exact .inr ⟨by omega, by omega⟩
        · have : m * 2 ≤ m * (u - v) := Int.mul_le_mul_of_nonneg_left (by omega) (by omega)
          omega
  · have h6 := Int.tmod_nonneg m h
    exact ⟨by omega, Int.tmod_lt_of_pos _ hm, .inl (Int.tmod_eq_emod_of_nonneg h)⟩
theorem wthV_in {a lo hi : Int} (h : lo ≤ hi) : lo ≤ wthV a lo hi ∧ wthV a lo hi ≤ hi := by
  simp only [wthV]
  have hb := Int.emod_nonneg a (b := hi - lo + 1) (by omega)
  have hc := Int.emod_lt_of_pos a (b := hi - lo + 1) (by omega)
  omega
theorem within_ok (a lo hi : Int) (h : lo ≤ hi) (h1 : -1000000 ≤ lo) (h2 : hi ≤ 1000000) : SFun Go.Proofs.Tryd.prog 17 [.int .i64 a, .int .i64 lo, .int .i64 hi] (mkS []) fun l s => l = .int .i64 (wthV a lo hi) ∧ s = mkS [] := by
  refine SFun.mono (SFun.vc (Q := fun l b => l = .int .i64 (wthV a lo hi) ∧ b = []) noCx_ok (n := 40) 0 rfl ?_) fun l s' ⟨b0, ⟨h1, h2⟩, h3⟩ => ⟨h1, by rw [h3, h2]⟩
  have hq := Int.emod_nonneg a (b := hi - lo + 1) (by omega)
  have e1 : xar .sub .i64 hi lo = hi - lo := sub_i64 (by omega) (by omega)
  have e2 : xar .add .i64 (hi - lo) 1 = hi - lo + 1 := add_i64 (by omega) (by omega)
  have e3 : xar .rem .i64 a (hi - lo + 1) = a.tmod (hi - lo + 1) := xar_rem _ _ _ (by omega)
  obtain ⟨t1, t2, t3⟩ := tmod_pos a (hi - lo + 1) (by omega)
  rw [within_x, e1, e2, e3]
  refine must (t_neq (by omega)) ?_
  rw [xcm_lss]
  refine ite_way (fun hn => ?_) (fun hn => ?_)
  · have e : xar .add .i64 lo (xar .add .i64 (xar .sub .i64 (xar .add .i64 (a.tmod (hi - lo + 1)) hi) lo) 1) = wthV a lo hi := by
      simp only [wthV]
      rw [add_i64 (x := a.tmod (hi - lo + 1)) (by omega) (by omega), sub_i64 (by omega) (by omega), add_i64 (x := a.tmod (hi - lo + 1) + hi - lo) (by omega) (by omega), add_i64 (by omega) (by omega)]
      omega
    rw [e]
    exact ⟨rfl, _, [], [], ⟨rfl, rfl⟩, by (exact ⟨by kernel_rfl, by ((repeat refine okTms_cons (by (first | exact lw_any | exact lw_int | exact lw_bool | exact lw_ptr rfl | exact lw_slo rfl | exact lw_nilp | exact lw_nils | exact lw_str | exact lw_slo_nils | exact lw_slo_sle | exact lw_sl rfl | exact lw_unb | exact lw_gptr | exact lw_noid rfl | exact lw_cap rfl (Nat.le_refl _) | exact lw_cap rfl (by omega) | assumption | exact lw_tup (by ((repeat refine lws_cons (by (first | exact lw_any | exact lw_int | exact lw_bool | exact lw_ptr rfl | exact lw_slo rfl | exact lw_nilp | exact lw_nils | exact lw_str | exact lw_slo_nils | exact lw_slo_sle | exact lw_sl rfl | exact lw_unb | exact lw_gptr | exact lw_noid rfl | exact lw_cap rfl (Nat.le_refl _) | exact lw_cap rfl (by omega) | assumption)) ?_); exact lws_nil)))) ?_); exact okTms_nil), by ((repeat refine okBlks_cons (by (first | exact lb_dead | exact lb_same (by (first | assumption | exact noIds_tab (fun _ => rfl) _ _ | exact noIds_encL (fun _ => rfl) _ | rfl)) | exact lb_ro (by (first | assumption | exact noIds_tab (fun _ => rfl) _ _ | exact noIds_encL (fun _ => rfl) _ | rfl)) | exact lb_none | exact lb_cells (by ((repeat refine lws_cons (by (first | exact lw_any | exact lw_int | exact lw_bool | exact lw_ptr rfl | exact lw_slo rfl | exact lw_nilp | exact lw_nils | exact lw_str | exact lw_slo_nils | exact lw_slo_sle | exact lw_sl rfl | exact lw_unb | exact lw_gptr | exact lw_noid rfl | exact lw_cap rfl (Nat.le_refl _) | exact lw_cap rfl (by omega) | assumption | exact lw_tup (by ((repeat refine lws_cons (by (first | exact lw_any | exact lw_int | exact lw_bool | exact lw_ptr rfl | exact lw_slo rfl | exact lw_nilp | exact lw_nils | exact lw_str | exact lw_slo_nils | exact lw_slo_sle | exact lw_sl rfl | exact lw_unb | exact lw_gptr | exact lw_noid rfl | exact lw_cap rfl (Nat.le_refl _) | exact lw_cap rfl (by omega) | assumption)) ?_); exact lws_nil)))) ?_); exact lws_nil)) (by simp) | exact lb_iter | exact lb_cap (Nat.le_refl _) (Nat.le_refl _) rfl rfl | exact lb_capn (by assumption) (by (first | assumption | exact noIds_tab (fun _ => rfl) _ _ | exact noIds_encL (fun _ => rfl) _ | rfl)) | assumption)) ?_); exact okBlks_nil)⟩)⟩
  · have e : xar .add .i64 lo (a.tmod (hi - lo + 1)) = wthV a lo hi := by
      simp only [wthV]
      rw [add_i64 (by omega) (by omega)]; omega
    rw [e]
    exact ⟨rfl, _, [], [], ⟨rfl, rfl⟩, by (exact ⟨by kernel_rfl, by ((repeat refine okTms_cons (by (first | exact lw_any | exact lw_int | exact lw_bool | exact lw_ptr rfl | exact lw_slo rfl | exact lw_nilp | exact lw_nils | exact lw_str | exact lw_slo_nils | exact lw_slo_sle | exact lw_sl rfl | exact lw_unb | exact lw_gptr | exact lw_noid rfl | exact lw_cap rfl (Nat.le_refl _) | exact lw_cap rfl (by omega) | assumption | exact lw_tup (by ((repeat refine lws_cons (by (first | exact lw_any | exact lw_int | exact lw_bool | exact lw_ptr rfl | exact lw_slo rfl | exact lw_nilp | exact lw_nils | exact lw_str | exact lw_slo_nils | exact lw_slo_sle | exact lw_sl rfl | exact lw_unb | exact lw_gptr | exact lw_noid rfl | exact lw_cap rfl (Nat.le_refl _) | exact lw_cap rfl (by omega) | assumption)) ?_); exact lws_nil)))) ?_); exact okTms_nil), by ((repeat refine okBlks_cons (by (first | exact lb_dead | exact lb_same (by (first | assumption | exact noIds_tab (fun _ => rfl) _ _ | exact noIds_encL (fun _ => rfl) _ | rfl)) | exact lb_ro (by (first | assumption | exact noIds_tab (fun _ => rfl) _ _ | exact noIds_encL (fun _ => rfl) _ | rfl)) | exact lb_none | exact lb_cells (by ((repeat refine lws_cons (by (first | exact lw_any | exact lw_int | exact lw_bool | exact lw_ptr rfl | exact lw_slo rfl | exact lw_nilp | exact lw_nils | exact lw_str | exact lw_slo_nils | exact lw_slo_sle | exact lw_sl rfl | exact lw_unb | exact lw_gptr | exact lw_noid rfl | exact lw_cap rfl (Nat.le_refl _) | exact lw_cap rfl (by omega) | assumption | exact lw_tup (by ((repeat refine lws_cons (by (first | exact lw_any | exact lw_int | exact lw_bool | exact lw_ptr rfl | exact lw_slo rfl | exact lw_nilp | exact lw_nils | exact lw_str | exact lw_slo_nils | exact lw_slo_sle | exact lw_sl rfl | exact lw_unb | exact lw_gptr | exact lw_noid rfl | exact lw_cap rfl (Nat.le_refl _) | exact lw_cap rfl (by omega) | assumption)) ?_); exact lws_nil)))) ?_); exact lws_nil)) (by simp) | exact lb_iter | exact lb_cap (Nat.le_refl _) (Nat.le_refl _) rfl rfl | exact lb_capn (by assumption) (by (first | assumption | exact noIds_tab (fun _ => rfl) _ _ | exact noIds_encL (fun _ => rfl) _ | rfl)) | assumption)) ?_); exact okBlks_nil)⟩)⟩
theorem withinG_ok : GOk Go.Proofs.Tryd.prog 17 withinG := by
  intro args s bs l s' hg hb hfr
  unfold withinG at hg
  split at hg
  · rename_i a lo hi hgl
    simp only [Option.some.injEq, Prod.mk.injEq] at hg
    obtain ⟨rfl, rfl, rfl⟩ := hg
    obtain ⟨k1, hb⟩ := allT_cons.1 hb
    obtain ⟨k2, hb⟩ := allT_cons.1 hb
    have k3 := (allT_cons.1 hb).1
    rw [xcm_leq, decide_eq_true_eq] at k1 k2 k3
    exact SFun.pure hfr hgl rfl rfl (within_ok a lo hi k1 k2 k3)
  · cases hg

def callsL : List LV := flatD Go.Proofs.YtkjkhkboemmniaaDoor.Rows.laid_quietus_code_calls
def gtab : Glb := formsG [(1, callsL)]
def runGt : Gc := fun args s => match args, s.g with
  | [], [(g0, F0), (g1, F1)] => cond (Nat.beq g0 0 && eqbs F0 formsL && (Nat.beq g1 1 && eqbs F1 callsL)) (some ([], .bool true, s)) none
  | _, _ => none
def cxn : Cx := cxl [(3, runGt), (17, wrapG withinG), (11, mayG), (16, rmayG)]
theorem near_x (op a b c n : Int) (K : Fk) : (xfun Go.Proofs.Tryd.prog cxn 60 5 [.int .i64 op, .int .i64 a, .int .i64 b, .int .i64 c, .int .u64 n] (mkS [] gtab) (vF K)) = (
  bif xcm .eql (wthV op (-1) 25) (wthV op (-1) 25) then
  bif xcm .eql (wthV a (-1) 14) (wthV a (-1) 14) then
  bif xcm .eql (wthV b (-1) 9) (wthV b (-1) 9) then
  bif xcm .eql (wthV c (-1) 42) (wthV c (-1) 42) then
  bif xcm .eql (xar .rem .u64 n 3) (xar .rem .u64 n 3) then
  bif xcm .eql (wthV op (-1) 25) (wthV op (-1) 25) then
  bif xcm .eql (wthV a (-1) 14) (wthV a (-1) 14) then
  bif xcm .eql (wthV b (-1) 9) (wthV b (-1) 9) then
  bif xcm .eql (wthV c (-1) 42) (wthV c (-1) 42) then
  bif xcm .eql (xar .rem .u64 n 3) (xar .rem .u64 n 3) then
  K (.bool (xbq (mayW (wthV op (-1) 25) (wthV a (-1) 14) (wthV b (-1) 9) (wthV c (-1) 42) (xar .rem .u64 n 3)) (mayW (wthV op (-1) 25) (wthV a (-1) 14) (wthV b (-1) 9) (wthV c (-1) 42) (xar .rem .u64 n 3)))) [some (.cells [.int .i64 (wthV op (-1) 25), .int .i64 (wthV a (-1) 14), .int .i64 (wthV b (-1) 9), .int .i64 (wthV c (-1) 42), .int .u64 (xar .rem .u64 n 3)] none)] gtab
  else False
  else False
  else False
  else False
  else False
  else False
  else False
  else False
  else False
  else False) := by kernel_rfl
theorem fields_x (op a b c n wh by' : Int) (K : Fk) : (xfun Go.Proofs.Tryd.prog cxn 60 7 [insL op a b c n, .int .u8 wh, .int .u8 by'] (mkS [] gtab) (vF K)) = (
  bif xnot (mayW op a b c n) then (
   bif xnot (mayW 0 0 0 0 0) then (
    K (.bool (mayW 20 0 0 0 0)) [some (.cells [.int .i64 op, .int .i64 a, .int .i64 b, .int .i64 c, .int .u64 n] none)] gtab)
   else (
    K (.bool false) [some (.cells [.int .i64 op, .int .i64 a, .int .i64 b, .int .i64 c, .int .u64 n] none)] gtab))
  else (
   bif xcm .eql (xar .rem .u8 wh 3) 0 then (
    bif xnot (mayW op (xar .add .i64 13 (xwr .i64 by')) b c n) then (
     bif xnot (mayW op (xar .sub .i64 (-1) (xwr .i64 by')) b c n) then (
      bif xcm .eql n 0 then (
       K (.bool true) [some (.cells [.int .i64 op, .int .i64 a, .int .i64 b, .int .i64 c, .int .u64 n] none), some (.cells [.int .i64 op, .int .i64 (xar .add .i64 13 (xwr .i64 by')), .int .i64 b, .int .i64 c, .int .u64 n] none), some (.cells [.int .i64 op, .int .i64 (xar .sub .i64 (-1) (xwr .i64 by')), .int .i64 b, .int .i64 c, .int .u64 n] none)] gtab)
      else (
       K (.bool (xcm .eql op 1)) [some (.cells [.int .i64 op, .int .i64 a, .int .i64 b, .int .i64 c, .int .u64 n] none), some (.cells [.int .i64 op, .int .i64 (xar .add .i64 13 (xwr .i64 by')), .int .i64 b, .int .i64 c, .int .u64 n] none), some (.cells [.int .i64 op, .int .i64 (xar .sub .i64 (-1) (xwr .i64 by')), .int .i64 b, .int .i64 c, .int .u64 n] none)] gtab))
     else (
      K (.bool false) [some (.cells [.int .i64 op, .int .i64 a, .int .i64 b, .int .i64 c, .int .u64 n] none), some (.cells [.int .i64 op, .int .i64 (xar .add .i64 13 (xwr .i64 by')), .int .i64 b, .int .i64 c, .int .u64 n] none), some (.cells [.int .i64 op, .int .i64 (xar .sub .i64 (-1) (xwr .i64 by')), .int .i64 b, .int .i64 c, .int .u64 n] none)] gtab))
    else (
     K (.bool false) [some (.cells [.int .i64 op, .int .i64 a, .int .i64 b, .int .i64 c, .int .u64 n] none), some (.cells [.int .i64 op, .int .i64 (xar .add .i64 13 (xwr .i64 by')), .int .i64 b, .int .i64 c, .int .u64 n] none), some (.cells [.int .i64 op, .int .i64 (xar .sub .i64 (-1) (xwr .i64 by')), .int .i64 b, .int .i64 c, .int .u64 n] none)] gtab))
   else (
    bif xcm .eql (xar .rem .u8 wh 3) 1 then (
     bif xnot (mayW op a (xar .add .i64 8 (xwr .i64 by')) c n) then (
      bif xnot (mayW op (xar .sub .i64 (-1) (xwr .i64 by')) b c n) then (
       bif xcm .eql n 0 then (
        K (.bool true) [some (.cells [.int .i64 op, .int .i64 a, .int .i64 b, .int .i64 c, .int .u64 n] none), some (.cells [.int .i64 op, .int .i64 a, .int .i64 (xar .add .i64 8 (xwr .i64 by')), .int .i64 c, .int .u64 n] none), some (.cells [.int .i64 op, .int .i64 (xar .sub .i64 (-1) (xwr .i64 by')), .int .i64 b, .int .i64 c, .int .u64 n] none)] gtab)
       else (
        K (.bool (xcm .eql op 1)) [some (.cells [.int .i64 op, .int .i64 a, .int .i64 b, .int .i64 c, .int .u64 n] none), some (.cells [.int .i64 op, .int .i64 a, .int .i64 (xar .add .i64 8 (xwr .i64 by')), .int .i64 c, .int .u64 n] none), some (.cells [.int .i64 op, .int .i64 (xar .sub .i64 (-1) (xwr .i64 by')), .int .i64 b, .int .i64 c, .int .u64 n] none)] gtab))
      else (
       K (.bool false) [some (.cells [.int .i64 op, .int .i64 a, .int .i64 b, .int .i64 c, .int .u64 n] none), some (.cells [.int .i64 op, .int .i64 a, .int .i64 (xar .add .i64 8 (xwr .i64 by')), .int .i64 c, .int .u64 n] none), some (.cells [.int .i64 op, .int .i64 (xar .sub .i64 (-1) (xwr .i64 by')), .int .i64 b, .int .i64 c, .int .u64 n] none)] gtab))
     else (
      K (.bool false) [some (.cells [.int .i64 op, .int .i64 a, .int .i64 b, .int .i64 c, .int .u64 n] none), some (.cells [.int .i64 op, .int .i64 a, .int .i64 (xar .add .i64 8 (xwr .i64 by')), .int .i64 c, .int .u64 n] none), some (.cells [.int .i64 op, .int .i64 (xar .sub .i64 (-1) (xwr .i64 by')), .int .i64 b, .int .i64 c, .int .u64 n] none)] gtab))
    else (
     bif xnot (mayW op a b (xar .add .i64 41 (xwr .i64 by')) n) then (
      bif xnot (mayW op (xar .sub .i64 (-1) (xwr .i64 by')) b c n) then (
       bif xcm .eql n 0 then (
        K (.bool true) [some (.cells [.int .i64 op, .int .i64 a, .int .i64 b, .int .i64 c, .int .u64 n] none), some (.cells [.int .i64 op, .int .i64 a, .int .i64 b, .int .i64 (xar .add .i64 41 (xwr .i64 by')), .int .u64 n] none), some (.cells [.int .i64 op, .int .i64 (xar .sub .i64 (-1) (xwr .i64 by')), .int .i64 b, .int .i64 c, .int .u64 n] none)] gtab)
       else (
        K (.bool (xcm .eql op 1)) [some (.cells [.int .i64 op, .int .i64 a, .int .i64 b, .int .i64 c, .int .u64 n] none), some (.cells [.int .i64 op, .int .i64 a, .int .i64 b, .int .i64 (xar .add .i64 41 (xwr .i64 by')), .int .u64 n] none), some (.cells [.int .i64 op, .int .i64 (xar .sub .i64 (-1) (xwr .i64 by')), .int .i64 b, .int .i64 c, .int .u64 n] none)] gtab))
      else (
       K (.bool false) [some (.cells [.int .i64 op, .int .i64 a, .int .i64 b, .int .i64 c, .int .u64 n] none), some (.cells [.int .i64 op, .int .i64 a, .int .i64 b, .int .i64 (xar .add .i64 41 (xwr .i64 by')), .int .u64 n] none), some (.cells [.int .i64 op, .int .i64 (xar .sub .i64 (-1) (xwr .i64 by')), .int .i64 b, .int .i64 c, .int .u64 n] none)] gtab))
     else (
      K (.bool false) [some (.cells [.int .i64 op, .int .i64 a, .int .i64 b, .int .i64 c, .int .u64 n] none), some (.cells [.int .i64 op, .int .i64 a, .int .i64 b, .int .i64 (xar .add .i64 41 (xwr .i64 by')), .int .u64 n] none), some (.cells [.int .i64 op, .int .i64 (xar .sub .i64 (-1) (xwr .i64 by')), .int .i64 b, .int .i64 c, .int .u64 n] none)] gtab))))) := by kernel_rfl
end
end Go.Lev
