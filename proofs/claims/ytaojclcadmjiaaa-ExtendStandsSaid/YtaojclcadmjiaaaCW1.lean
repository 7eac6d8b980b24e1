/- chapter 24: Tell of the code and of the reference: trees -/
import Derived.Test.YtaojclcadmjiaaaLc
import Derived.Test.YtaojclcadmjiaaaChecked
import Derived.KernelRfl

namespace Go.Lev
open Go.RowKit
set_option linter.unusedVariables false
set_option linter.unusedSimpArgs false
set_option maxRecDepth 100000
noncomputable section
/-! Within -/
theorem within_x (a lo hi : Int) (K : Fk) : (xfun Go.Proofs.Try.prog (fun _ => none) 40 12 [.int .i64 a, .int .i64 lo, .int .i64 hi] (mkS []) (vF K)) = (
  bif xcm .neq (xar .add .i64 (xar .sub .i64 hi lo) 1) 0 then
  bif xcm .lss (xar .rem .i64 a (xar .add .i64 (xar .sub .i64 hi lo) 1)) 0 then (
   K (.int .i64 (xar .add .i64 lo (xar .add .i64 (xar .sub .i64 (xar .add .i64 (xar .rem .i64 a (xar .add .i64 (xar .sub .i64 hi lo) 1)) hi) lo) 1))) [] [])
  else (
   K (.int .i64 (xar .add .i64 lo (xar .rem .i64 a (xar .add .i64 (xar .sub .i64 hi lo) 1)))) [] [])
  else False) := by kernel_rfl
def wthV (a lo hi : Int) : Int := lo + a % (hi - lo + 1)

def withinG : Gc := fun args s => match args, s.g with
  | [.int .i64 a, .int .i64 lo, .int .i64 hi], [] => some ([xcm .leq lo hi, xcm .leq (-1000000) lo, xcm .leq hi 1000000], .int .i64 (wthV a lo hi), s)
  | _, _ => none
theorem tmod_pos (a m : Int) (hm : 0 < m) : -m < a.tmod m ∧ a.tmod m < m ∧ (a.tmod m = a % m ∨ (a.tmod m < 0 ∧ a.tmod m + m = a % m)) := by
  have hb := Int.emod_nonneg a (b := m) (by omega)
  have hc := Int.emod_lt_of_pos a hm
  rcases Int.lt_or_le a 0 with h | h
  · have e : a.tmod m = -((-a).tmod m) := by have := Int.neg_tmod (-a) m; rw [Int.neg_neg] at this; exact this
    have h6 : 0 ≤ (-a).tmod m := Int.tmod_nonneg _ (by omega)
    have h7 : (-a).tmod m < m := Int.tmod_lt_of_pos _ hm
    refine ⟨by omega, by omega, ?_⟩
    have h8 : m ∣ a - a.tmod m := Int.dvd_self_sub_tmod
    have h9 : m ∣ a - a % m := Int.dvd_self_sub_emod
    obtain ⟨u, hu⟩ := h8
    obtain ⟨v, hv⟩ := h9
    have hd : a % m - a.tmod m = m * (u - v) := by rw [Int.mul_sub]; omega
    by_cases h0 : u - v ≤ -1
    · have : m * (u - v) ≤ m * (-1) := Int.mul_le_mul_of_nonneg_left h0 (by omega)
      omega
    · by_cases h1 : u - v = 0
      · rw [h1] at hd; simp at hd; exact .inl (by omega)
      · by_cases h2 : u - v = 1
        · rw [h2] at hd; simp at hd; exact .inr ⟨by omega, by omega⟩
        · have : m * 2 ≤ m * (u - v) := Int.mul_le_mul_of_nonneg_left (by omega) (by omega)
          omega
  · have h6 := Int.tmod_nonneg m h
    exact ⟨by omega, Int.tmod_lt_of_pos _ hm, .inl (Int.tmod_eq_emod_of_nonneg h)⟩
theorem wthV_in {a lo hi : Int} (h : lo ≤ hi) : lo ≤ wthV a lo hi ∧ wthV a lo hi ≤ hi := by
  simp only [wthV]
  have hb := Int.emod_nonneg a (b := hi - lo + 1) (by omega)
  have hc := Int.emod_lt_of_pos a (b := hi - lo + 1) (by omega)
  omega
theorem within_ok (a lo hi : Int) (h : lo ≤ hi) (h1 : -1000000 ≤ lo) (h2 : hi ≤ 1000000) : SFun Go.Proofs.Try.prog 12 [.int .i64 a, .int .i64 lo, .int .i64 hi] (mkS []) fun l s => l = .int .i64 (wthV a lo hi) ∧ s = mkS [] := by
  refine SFun.mono (SFun.vc (Q := fun l b => l = .int .i64 (wthV a lo hi) ∧ b = []) noCx_ok (n := 40) 0 rfl ?_) fun l s' ⟨b0, ⟨h1, h2⟩, h3⟩ => ⟨h1, by rw [h3, h2]⟩
  have hq := Int.emod_nonneg a (b := hi - lo + 1) (by omega)
  have e1 : xar .sub .i64 hi lo = hi - lo := sub_i64 (by omega) (by omega)
  have e2 : xar .add .i64 (hi - lo) 1 = hi - lo + 1 := add_i64 (by omega) (by omega)
  have e3 : xar .rem .i64 a (hi - lo + 1) = a.tmod (hi - lo + 1) := xar_rem _ _ _ (by omega)
  obtain ⟨t1, t2, t3⟩ := tmod_pos a (hi - lo + 1) (by omega)
  rw [within_x, e1, e2, e3]
  refine must (t_neq (by omega)) ?_
  rw [xcm_lss]
  refine ite_way (fun hn => ?_) (fun hn => ?_)
  · have e : xar .add .i64 lo (xar .add .i64 (xar .sub .i64 (xar .add .i64 (a.tmod (hi - lo + 1)) hi) lo) 1) = wthV a lo hi := by
      simp only [wthV]
      rw [add_i64 (x := a.tmod (hi - lo + 1)) (by omega) (by omega), sub_i64 (by omega) (by omega), add_i64 (x := a.tmod (hi - lo + 1) + hi - lo) (by omega) (by omega), add_i64 (by omega) (by omega)]
      omega
    rw [e]
    exact ⟨rfl, _, [], [], ⟨rfl, rfl⟩, by (exact ⟨by kernel_rfl, by ((repeat refine okTms_cons (by (first | exact lw_any | exact lw_int | exact lw_bool | exact lw_ptr rfl | exact lw_slo rfl | exact lw_nilp | exact lw_nils | exact lw_str | exact lw_slo_nils | exact lw_slo_sle | exact lw_sl rfl | exact lw_unb | exact lw_gptr | exact lw_noid rfl | exact lw_cap rfl (Nat.le_refl _) | exact lw_cap rfl (by omega) | assumption | exact lw_tup (by ((repeat refine lws_cons (by (first | exact lw_any | exact lw_int | exact lw_bool | exact lw_ptr rfl | exact lw_slo rfl | exact lw_nilp | exact lw_nils | exact lw_str | exact lw_slo_nils | exact lw_slo_sle | exact lw_sl rfl | exact lw_unb | exact lw_gptr | exact lw_noid rfl | exact lw_cap rfl (Nat.le_refl _) | exact lw_cap rfl (by omega) | assumption)) ?_); exact lws_nil)))) ?_); exact okTms_nil), by ((repeat refine okBlks_cons (by (first | exact lb_dead | exact lb_same (by (first | assumption | exact noIds_tab (fun _ => rfl) _ _ | exact noIds_encL (fun _ => rfl) _ | rfl)) | exact lb_ro (by (first | assumption | exact noIds_tab (fun _ => rfl) _ _ | exact noIds_encL (fun _ => rfl) _ | rfl)) | exact lb_none | exact lb_cells (by ((repeat refine lws_cons (by (first | exact lw_any | exact lw_int | exact lw_bool | exact lw_ptr rfl | exact lw_slo rfl | exact lw_nilp | exact lw_nils | exact lw_str | exact lw_slo_nils | exact lw_slo_sle | exact lw_sl rfl | exact lw_unb | exact lw_gptr | exact lw_noid rfl | exact lw_cap rfl (Nat.le_refl _) | exact lw_cap rfl (by omega) | assumption | exact lw_tup (by ((repeat refine lws_cons (by (first | exact lw_any | exact lw_int | exact lw_bool | exact lw_ptr rfl | exact lw_slo rfl | exact lw_nilp | exact lw_nils | exact lw_str | exact lw_slo_nils | exact lw_slo_sle | exact lw_sl rfl | exact lw_unb | exact lw_gptr | exact lw_noid rfl | exact lw_cap rfl (Nat.le_refl _) | exact lw_cap rfl (by omega) | assumption)) ?_); exact lws_nil)))) ?_); exact lws_nil)) (by simp) | exact lb_iter | exact lb_cap (Nat.le_refl _) (Nat.le_refl _) rfl rfl | exact lb_capn (by assumption) (by (first | assumption | exact noIds_tab (fun _ => rfl) _ _ | exact noIds_encL (fun _ => rfl) _ | rfl)) | assumption)) ?_); exact okBlks_nil)⟩)⟩
  · have e : xar .add .i64 lo (a.tmod (hi - lo + 1)) = wthV a lo hi := by
      simp only [wthV]
      rw [add_i64 (by omega) (by omega)]; omega
    rw [e]
    exact ⟨rfl, _, [], [], ⟨rfl, rfl⟩, by (exact ⟨by kernel_rfl, by ((repeat refine okTms_cons (by (first | exact lw_any | exact lw_int | exact lw_bool | exact lw_ptr rfl | exact lw_slo rfl | exact lw_nilp | exact lw_nils | exact lw_str | exact lw_slo_nils | exact lw_slo_sle | exact lw_sl rfl | exact lw_unb | exact lw_gptr | exact lw_noid rfl | exact lw_cap rfl (Nat.le_refl _) | exact lw_cap rfl (by omega) | assumption | exact lw_tup (by ((repeat refine lws_cons (by (first | exact lw_any | exact lw_int | exact lw_bool | exact lw_ptr rfl | exact lw_slo rfl | exact lw_nilp | exact lw_nils | exact lw_str | exact lw_slo_nils | exact lw_slo_sle | exact lw_sl rfl | exact lw_unb | exact lw_gptr | exact lw_noid rfl | exact lw_cap rfl (Nat.le_refl _) | exact lw_cap rfl (by omega) | assumption)) ?_); exact lws_nil)))) ?_); exact okTms_nil), by ((repeat refine okBlks_cons (by (first | exact lb_dead | exact lb_same (by (first | assumption | exact noIds_tab (fun _ => rfl) _ _ | exact noIds_encL (fun _ => rfl) _ | rfl)) | exact lb_ro (by (first | assumption | exact noIds_tab (fun _ => rfl) _ _ | exact noIds_encL (fun _ => rfl) _ | rfl)) | exact lb_none | exact lb_cells (by ((repeat refine lws_cons (by (first | exact lw_any | exact lw_int | exact lw_bool | exact lw_ptr rfl | exact lw_slo rfl | exact lw_nilp | exact lw_nils | exact lw_str | exact lw_slo_nils | exact lw_slo_sle | exact lw_sl rfl | exact lw_unb | exact lw_gptr | exact lw_noid rfl | exact lw_cap rfl (Nat.le_refl _) | exact lw_cap rfl (by omega) | assumption | exact lw_tup (by ((repeat refine lws_cons (by (first | exact lw_any | exact lw_int | exact lw_bool | exact lw_ptr rfl | exact lw_slo rfl | exact lw_nilp | exact lw_nils | exact lw_str | exact lw_slo_nils | exact lw_slo_sle | exact lw_sl rfl | exact lw_unb | exact lw_gptr | exact lw_noid rfl | exact lw_cap rfl (Nat.le_refl _) | exact lw_cap rfl (by omega) | assumption)) ?_); exact lws_nil)))) ?_); exact lws_nil)) (by simp) | exact lb_iter | exact lb_cap (Nat.le_refl _) (Nat.le_refl _) rfl rfl | exact lb_capn (by assumption) (by (first | assumption | exact noIds_tab (fun _ => rfl) _ _ | exact noIds_encL (fun _ => rfl) _ | rfl)) | assumption)) ?_); exact okBlks_nil)⟩)⟩
theorem withinG_ok : GOk Go.Proofs.Try.prog 12 withinG := by
  intro args s bs l s' hg hb hfr
  unfold withinG at hg
  split at hg
  · rename_i a lo hi hgl
    simp only [Option.some.injEq, Prod.mk.injEq] at hg
    obtain ⟨rfl, rfl, rfl⟩ := hg
    obtain ⟨k1, hb⟩ := allT_cons.1 hb
    obtain ⟨k2, hb⟩ := allT_cons.1 hb
    have k3 := (allT_cons.1 hb).1
    rw [xcm_leq, decide_eq_true_eq] at k1 k2 k3
    exact SFun.pure hfr hgl rfl rfl (within_ok a lo hi k1 k2 k3)
  · cases hg

abbrev cE (me : Int) (off len drop : Nat) (dt : Bool) (sm su en bu er : Int) (cs : List LV) : List LB := [.cells [.ptr 1 0, .slo 2 off len drop, .bool dt, .int .u64 sm] none, .cells [.int .i64 me, .int .i64 su, .int .i64 en, .int .i64 bu, .int .i64 er] none, .cells cs (some 2)]
abbrev rE (me : Int) (m : Nat) (at' sm su en bu er : Int) (cs : List LV) : List LB := [.cells [.int .i64 me, .int .i64 su, .int .i64 en, .int .i64 er, .int .i64 bu, .slo 1 0 m 0, .int .i64 at', .int .u64 sm] none, .cells cs (some 2)]
abbrev ansC (w v : Int) (h : Bool) (o : Int) (d : Bool) (e : Int) : List LV := [.int .u64 w, .int .u64 v, .bool h, .int .i64 o, .bool d, .int .i64 e]
theorem etell_x (me : Int) (off len drop : Nat) (dt : Bool) (sm su en bu er : Int) (cs : List LV) (w v : Int) (h : Bool) (o : Int) (d : Bool) (e : Int) (K : Fk) : (xfun Go.Proofs.Try.prog (fun _ => none) 60 8 [.ptr 0 0, .agg (ansC w v h o d e)] (mkS (cE me off len drop dt sm su en bu er cs)) (vF K)) = (
  bif xnot (xcm .eql en 0) then (
   K (.tup []) [some (.cells [.ptr 1 0, .slo 2 off len drop, .bool dt, .int .u64 sm] none), some (.cells [.int .i64 me, .int .i64 su, .int .i64 en, .int .i64 bu, .int .i64 er] none), some (.cells cs (some 2)), some (.cells [.int .u64 w, .int .u64 v, .bool h, .int .i64 o, .bool d, .int .i64 e] none)] [])
  else (
   bif xcm .neq e 0 then (
    bif xcm .neq e 0 then (
     K (.tup []) [some (.cells [.ptr 1 0, .slo 2 off len drop, .bool dt, .int .u64 sm] none), some (.cells [.int .i64 me, .int .i64 su, .int .i64 4, .int .i64 (-1), .int .i64 e] none), some (.cells cs (some 2)), some (.cells [.int .u64 w, .int .u64 v, .bool h, .int .i64 o, .bool d, .int .i64 e] none)] [])
    else (
     bif dt then (
      bif h then (
       bif xcm .gtr o me then (
        K (.tup []) [some (.cells [.ptr 1 0, .slo 2 off len drop, .bool dt, .int .u64 sm] none), some (.cells [.int .i64 me, .int .i64 su, .int .i64 4, .int .i64 (-1), .int .i64 e] none), some (.cells cs (some 2)), some (.cells [.int .u64 w, .int .u64 v, .bool h, .int .i64 o, .bool d, .int .i64 e] none), some (.cells [.int .u64 v, .bool h, .int .i64 o] none)] [])
       else (
        bif xcm .eql su 0 then (
         K (.tup []) [some (.cells [.ptr 1 0, .slo 2 off len drop, .bool dt, .int .u64 sm] none), some (.cells [.int .i64 me, .int .i64 su, .int .i64 5, .int .i64 o, .int .i64 0] none), some (.cells cs (some 2)), some (.cells [.int .u64 w, .int .u64 v, .bool h, .int .i64 o, .bool d, .int .i64 e] none), some (.cells [.int .u64 v, .bool h, .int .i64 o] none)] [])
        else (
         K (.tup []) [some (.cells [.ptr 1 0, .slo 2 off len drop, .bool dt, .int .u64 sm] none), some (.cells [.int .i64 me, .int .i64 (xar .sub .i64 su 1), .int .i64 4, .int .i64 (-1), .int .i64 e] none), some (.cells cs (some 2)), some (.cells [.int .u64 w, .int .u64 v, .bool h, .int .i64 o, .bool d, .int .i64 e] none), some (.cells [.int .u64 v, .bool h, .int .i64 o] none)] [])))
      else (
       bif xle 1 len then
       bif xle (xadd (xadd (xix off 0 2) 1) 1) (xln cs) then
       bif isI .u64 (nthD cs (xadd (xix off 0 2) 1)) then
       bif xcm .neq v (asI (nthD cs (xadd (xix off 0 2) 1))) then (
        K (.tup []) [some (.cells [.ptr 1 0, .slo 2 off len drop, .bool dt, .int .u64 sm] none), some (.cells [.int .i64 me, .int .i64 su, .int .i64 5, .int .i64 (-1), .int .i64 0] none), some (.cells cs (some 2)), some (.cells [.int .u64 w, .int .u64 v, .bool h, .int .i64 o, .bool d, .int .i64 e] none), some (.cells [.int .u64 v, .bool h, .int .i64 o] none)] [])
       else (
        bif xle 1 len then
        bif xle len len then
        K (.tup []) [some (.cells [.ptr 1 0, .slo 2 (xix off 1 2) (xsub len 1) (xadd drop 1), .bool dt, .int .u64 sm] none), some (.cells [.int .i64 me, .int .i64 su, .int .i64 4, .int .i64 (-1), .int .i64 e] none), some (.cells cs (some 2)), some (.cells [.int .u64 w, .int .u64 v, .bool h, .int .i64 o, .bool d, .int .i64 e] none), some (.cells [.int .u64 v, .bool h, .int .i64 o] none)] []
        else False
        else False)
       else False
       else False
       else False))
     else (
      bif xcm .eql w w then
      bif xcm .eql w w then
      K (.tup []) [some (.cells [.ptr 1 0, .slo 2 off len drop, .bool true, .int .u64 w] none), some (.cells [.int .i64 me, .int .i64 su, .int .i64 4, .int .i64 (-1), .int .i64 e] none), some (.cells cs (some 2)), some (.cells [.int .u64 w, .int .u64 v, .bool h, .int .i64 o, .bool d, .int .i64 e] none)] []
      else False
      else False)))
   else (
    bif xcm .neq e 0 then (
     K (.tup []) [some (.cells [.ptr 1 0, .slo 2 off len drop, .bool dt, .int .u64 sm] none), some (.cells [.int .i64 me, .int .i64 su, .int .i64 en, .int .i64 bu, .int .i64 er] none), some (.cells cs (some 2)), some (.cells [.int .u64 w, .int .u64 v, .bool h, .int .i64 o, .bool d, .int .i64 e] none)] [])
    else (
     bif dt then (
      bif h then (
       bif xcm .gtr o me then (
        bif xcm .eql en 0 then (
         bif xcm .eql (↑len) 0 then (
          K (.tup []) [some (.cells [.ptr 1 0, .slo 2 off len drop, .bool dt, .int .u64 sm] none), some (.cells [.int .i64 me, .int .i64 su, .int .i64 2, .int .i64 (-1), .int .i64 0] none), some (.cells cs (some 2)), some (.cells [.int .u64 w, .int .u64 v, .bool h, .int .i64 o, .bool d, .int .i64 e] none), some (.cells [.int .u64 v, .bool h, .int .i64 o] none)] [])
         else (
          K (.tup []) [some (.cells [.ptr 1 0, .slo 2 off len drop, .bool dt, .int .u64 sm] none), some (.cells [.int .i64 me, .int .i64 su, .int .i64 en, .int .i64 bu, .int .i64 er] none), some (.cells cs (some 2)), some (.cells [.int .u64 w, .int .u64 v, .bool h, .int .i64 o, .bool d, .int .i64 e] none), some (.cells [.int .u64 v, .bool h, .int .i64 o] none)] []))
        else (
         K (.tup []) [some (.cells [.ptr 1 0, .slo 2 off len drop, .bool dt, .int .u64 sm] none), some (.cells [.int .i64 me, .int .i64 su, .int .i64 en, .int .i64 bu, .int .i64 er] none), some (.cells cs (some 2)), some (.cells [.int .u64 w, .int .u64 v, .bool h, .int .i64 o, .bool d, .int .i64 e] none), some (.cells [.int .u64 v, .bool h, .int .i64 o] none)] []))
       else (
        bif xcm .eql su 0 then (
         K (.tup []) [some (.cells [.ptr 1 0, .slo 2 off len drop, .bool dt, .int .u64 sm] none), some (.cells [.int .i64 me, .int .i64 su, .int .i64 5, .int .i64 o, .int .i64 0] none), some (.cells cs (some 2)), some (.cells [.int .u64 w, .int .u64 v, .bool h, .int .i64 o, .bool d, .int .i64 e] none), some (.cells [.int .u64 v, .bool h, .int .i64 o] none)] [])
        else (
         bif xcm .eql en 0 then (
          bif xcm .eql (↑len) 0 then (
           K (.tup []) [some (.cells [.ptr 1 0, .slo 2 off len drop, .bool dt, .int .u64 sm] none), some (.cells [.int .i64 me, .int .i64 (xar .sub .i64 su 1), .int .i64 2, .int .i64 (-1), .int .i64 0] none), some (.cells cs (some 2)), some (.cells [.int .u64 w, .int .u64 v, .bool h, .int .i64 o, .bool d, .int .i64 e] none), some (.cells [.int .u64 v, .bool h, .int .i64 o] none)] [])
          else (
           K (.tup []) [some (.cells [.ptr 1 0, .slo 2 off len drop, .bool dt, .int .u64 sm] none), some (.cells [.int .i64 me, .int .i64 (xar .sub .i64 su 1), .int .i64 en, .int .i64 bu, .int .i64 er] none), some (.cells cs (some 2)), some (.cells [.int .u64 w, .int .u64 v, .bool h, .int .i64 o, .bool d, .int .i64 e] none), some (.cells [.int .u64 v, .bool h, .int .i64 o] none)] []))
         else (
          K (.tup []) [some (.cells [.ptr 1 0, .slo 2 off len drop, .bool dt, .int .u64 sm] none), some (.cells [.int .i64 me, .int .i64 (xar .sub .i64 su 1), .int .i64 en, .int .i64 bu, .int .i64 er] none), some (.cells cs (some 2)), some (.cells [.int .u64 w, .int .u64 v, .bool h, .int .i64 o, .bool d, .int .i64 e] none), some (.cells [.int .u64 v, .bool h, .int .i64 o] none)] []))))
      else (
       bif xle 1 len then
       bif xle (xadd (xadd (xix off 0 2) 1) 1) (xln cs) then
       bif isI .u64 (nthD cs (xadd (xix off 0 2) 1)) then
       bif xcm .neq v (asI (nthD cs (xadd (xix off 0 2) 1))) then (
        K (.tup []) [some (.cells [.ptr 1 0, .slo 2 off len drop, .bool dt, .int .u64 sm] none), some (.cells [.int .i64 me, .int .i64 su, .int .i64 5, .int .i64 (-1), .int .i64 0] none), some (.cells cs (some 2)), some (.cells [.int .u64 w, .int .u64 v, .bool h, .int .i64 o, .bool d, .int .i64 e] none), some (.cells [.int .u64 v, .bool h, .int .i64 o] none)] [])
       else (
        bif xle 1 len then
        bif xle len len then
        bif xcm .eql en 0 then (
         bif xcm .eql (↑(xsub len 1)) 0 then (
          K (.tup []) [some (.cells [.ptr 1 0, .slo 2 (xix off 1 2) (xsub len 1) (xadd drop 1), .bool dt, .int .u64 sm] none), some (.cells [.int .i64 me, .int .i64 su, .int .i64 2, .int .i64 (-1), .int .i64 0] none), some (.cells cs (some 2)), some (.cells [.int .u64 w, .int .u64 v, .bool h, .int .i64 o, .bool d, .int .i64 e] none), some (.cells [.int .u64 v, .bool h, .int .i64 o] none)] [])
         else (
          K (.tup []) [some (.cells [.ptr 1 0, .slo 2 (xix off 1 2) (xsub len 1) (xadd drop 1), .bool dt, .int .u64 sm] none), some (.cells [.int .i64 me, .int .i64 su, .int .i64 en, .int .i64 bu, .int .i64 er] none), some (.cells cs (some 2)), some (.cells [.int .u64 w, .int .u64 v, .bool h, .int .i64 o, .bool d, .int .i64 e] none), some (.cells [.int .u64 v, .bool h, .int .i64 o] none)] []))
        else (
         K (.tup []) [some (.cells [.ptr 1 0, .slo 2 (xix off 1 2) (xsub len 1) (xadd drop 1), .bool dt, .int .u64 sm] none), some (.cells [.int .i64 me, .int .i64 su, .int .i64 en, .int .i64 bu, .int .i64 er] none), some (.cells cs (some 2)), some (.cells [.int .u64 w, .int .u64 v, .bool h, .int .i64 o, .bool d, .int .i64 e] none), some (.cells [.int .u64 v, .bool h, .int .i64 o] none)] [])
        else False
        else False)
       else False
       else False
       else False))
     else (
      bif xcm .eql w w then
      bif xcm .eql w w then
      bif xcm .eql en 0 then (
       bif xcm .eql (↑len) 0 then (
        K (.tup []) [some (.cells [.ptr 1 0, .slo 2 off len drop, .bool true, .int .u64 w] none), some (.cells [.int .i64 me, .int .i64 su, .int .i64 2, .int .i64 (-1), .int .i64 0] none), some (.cells cs (some 2)), some (.cells [.int .u64 w, .int .u64 v, .bool h, .int .i64 o, .bool d, .int .i64 e] none)] [])
       else (
        K (.tup []) [some (.cells [.ptr 1 0, .slo 2 off len drop, .bool true, .int .u64 w] none), some (.cells [.int .i64 me, .int .i64 su, .int .i64 en, .int .i64 bu, .int .i64 er] none), some (.cells cs (some 2)), some (.cells [.int .u64 w, .int .u64 v, .bool h, .int .i64 o, .bool d, .int .i64 e] none)] []))
      else (
       K (.tup []) [some (.cells [.ptr 1 0, .slo 2 off len drop, .bool true, .int .u64 w] none), some (.cells [.int .i64 me, .int .i64 su, .int .i64 en, .int .i64 bu, .int .i64 er] none), some (.cells cs (some 2)), some (.cells [.int .u64 w, .int .u64 v, .bool h, .int .i64 o, .bool d, .int .i64 e] none)] [])
      else False
      else False))))) := by kernel_rfl
theorem ertell_x (me : Int) (m : Nat) (at' sm su en bu er : Int) (cs : List LV) (w v : Int) (h : Bool) (o : Int) (d : Bool) (e : Int) (K : Fk) : (xfun Go.Proofs.Try.prog (fun _ => none) 60 16 [.ptr 0 0, .agg (ansC w v h o d e)] (mkS (rE me m at' sm su en bu er cs)) (vF K)) = (
  bif xcm .neq en 0 then (
   K (.tup []) [some (.cells [.int .i64 me, .int .i64 su, .int .i64 en, .int .i64 er, .int .i64 bu, .slo 1 0 m 0, .int .i64 at', .int .u64 sm] none), some (.cells cs (some 2)), some (.cells [.int .u64 w, .int .u64 v, .bool h, .int .i64 o, .bool d, .int .i64 e] none)] [])
  else (
   bif xcm .neq e 0 then (
    bif xcm .eql e e then
    bif xcm .eql e e then
    bif xcm .neq e 0 then (
     K (.tup []) [some (.cells [.int .i64 me, .int .i64 su, .int .i64 4, .int .i64 e, .int .i64 bu, .slo 1 0 m 0, .int .i64 at', .int .u64 sm] none), some (.cells cs (some 2)), some (.cells [.int .u64 w, .int .u64 v, .bool h, .int .i64 o, .bool d, .int .i64 e] none), some (.cells [.int .u64 w, .int .u64 v, .bool h, .int .i64 o, .bool d, .int .i64 e] none)] [])
    else (
     bif xcm .lss at' 0 then (
      bif xcm .eql (xar .add .i64 at' 1) ↑m then (
       K (.tup []) [some (.cells [.int .i64 me, .int .i64 su, .int .i64 2, .int .i64 e, .int .i64 bu, .slo 1 0 m 0, .int .i64 (xar .add .i64 at' 1), .int .u64 w] none), some (.cells cs (some 2)), some (.cells [.int .u64 w, .int .u64 v, .bool h, .int .i64 o, .bool d, .int .i64 e] none), some (.cells [.int .u64 w, .int .u64 v, .bool h, .int .i64 o, .bool d, .int .i64 e] none)] [])
      else (
       K (.tup []) [some (.cells [.int .i64 me, .int .i64 su, .int .i64 4, .int .i64 e, .int .i64 bu, .slo 1 0 m 0, .int .i64 (xar .add .i64 at' 1), .int .u64 w] none), some (.cells cs (some 2)), some (.cells [.int .u64 w, .int .u64 v, .bool h, .int .i64 o, .bool d, .int .i64 e] none), some (.cells [.int .u64 w, .int .u64 v, .bool h, .int .i64 o, .bool d, .int .i64 e] none)] []))
     else (
      bif h then (
       bif xcm .gtr o me then (
        K (.tup []) [some (.cells [.int .i64 me, .int .i64 su, .int .i64 4, .int .i64 e, .int .i64 bu, .slo 1 0 m 0, .int .i64 at', .int .u64 sm] none), some (.cells cs (some 2)), some (.cells [.int .u64 w, .int .u64 v, .bool h, .int .i64 o, .bool d, .int .i64 e] none), some (.cells [.int .u64 w, .int .u64 v, .bool h, .int .i64 o, .bool d, .int .i64 e] none), some (.cells [.int .u64 v, .bool h, .int .i64 o] none)] [])
       else (
        bif xcm .gtr su 0 then (
         K (.tup []) [some (.cells [.int .i64 me, .int .i64 (xar .sub .i64 su 1), .int .i64 4, .int .i64 e, .int .i64 bu, .slo 1 0 m 0, .int .i64 at', .int .u64 sm] none), some (.cells cs (some 2)), some (.cells [.int .u64 w, .int .u64 v, .bool h, .int .i64 o, .bool d, .int .i64 e] none), some (.cells [.int .u64 w, .int .u64 v, .bool h, .int .i64 o, .bool d, .int .i64 e] none), some (.cells [.int .u64 v, .bool h, .int .i64 o] none)] [])
        else (
         bif xcm .eql o o then
         bif xcm .eql o o then
         K (.tup []) [some (.cells [.int .i64 me, .int .i64 su, .int .i64 5, .int .i64 e, .int .i64 o, .slo 1 0 m 0, .int .i64 at', .int .u64 sm] none), some (.cells cs (some 2)), some (.cells [.int .u64 w, .int .u64 v, .bool h, .int .i64 o, .bool d, .int .i64 e] none), some (.cells [.int .u64 w, .int .u64 v, .bool h, .int .i64 o, .bool d, .int .i64 e] none), some (.cells [.int .u64 v, .bool h, .int .i64 o] none)] []
         else False
         else False)))
      else (
       bif xnn at' then
       bif xle (xadd (xnat at') 1) m then
       bif xle (xadd (xadd (xix 0 (xnat at') 2) 1) 1) (xln cs) then
       bif isI .u64 (nthD cs (xadd (xix 0 (xnat at') 2) 1)) then
       bif xcm .neq v (asI (nthD cs (xadd (xix 0 (xnat at') 2) 1))) then (
        K (.tup []) [some (.cells [.int .i64 me, .int .i64 su, .int .i64 5, .int .i64 e, .int .i64 bu, .slo 1 0 m 0, .int .i64 at', .int .u64 sm] none), some (.cells cs (some 2)), some (.cells [.int .u64 w, .int .u64 v, .bool h, .int .i64 o, .bool d, .int .i64 e] none), some (.cells [.int .u64 w, .int .u64 v, .bool h, .int .i64 o, .bool d, .int .i64 e] none)] [])
       else (
        bif xcm .eql (xar .add .i64 at' 1) ↑m then (
         K (.tup []) [some (.cells [.int .i64 me, .int .i64 su, .int .i64 2, .int .i64 e, .int .i64 bu, .slo 1 0 m 0, .int .i64 (xar .add .i64 at' 1), .int .u64 sm] none), some (.cells cs (some 2)), some (.cells [.int .u64 w, .int .u64 v, .bool h, .int .i64 o, .bool d, .int .i64 e] none), some (.cells [.int .u64 w, .int .u64 v, .bool h, .int .i64 o, .bool d, .int .i64 e] none)] [])
        else (
         K (.tup []) [some (.cells [.int .i64 me, .int .i64 su, .int .i64 4, .int .i64 e, .int .i64 bu, .slo 1 0 m 0, .int .i64 (xar .add .i64 at' 1), .int .u64 sm] none), some (.cells cs (some 2)), some (.cells [.int .u64 w, .int .u64 v, .bool h, .int .i64 o, .bool d, .int .i64 e] none), some (.cells [.int .u64 w, .int .u64 v, .bool h, .int .i64 o, .bool d, .int .i64 e] none)] []))
       else False
       else False
       else False
       else False)))
    else False
    else False)
   else (
    bif xcm .neq e 0 then (
     K (.tup []) [some (.cells [.int .i64 me, .int .i64 su, .int .i64 en, .int .i64 er, .int .i64 bu, .slo 1 0 m 0, .int .i64 at', .int .u64 sm] none), some (.cells cs (some 2)), some (.cells [.int .u64 w, .int .u64 v, .bool h, .int .i64 o, .bool d, .int .i64 e] none), some (.cells [.int .u64 w, .int .u64 v, .bool h, .int .i64 o, .bool d, .int .i64 e] none)] [])
    else (
     bif xcm .lss at' 0 then (
      bif xcm .eql (xar .add .i64 at' 1) ↑m then (
       K (.tup []) [some (.cells [.int .i64 me, .int .i64 su, .int .i64 2, .int .i64 er, .int .i64 bu, .slo 1 0 m 0, .int .i64 (xar .add .i64 at' 1), .int .u64 w] none), some (.cells cs (some 2)), some (.cells [.int .u64 w, .int .u64 v, .bool h, .int .i64 o, .bool d, .int .i64 e] none), some (.cells [.int .u64 w, .int .u64 v, .bool h, .int .i64 o, .bool d, .int .i64 e] none)] [])
      else (
       K (.tup []) [some (.cells [.int .i64 me, .int .i64 su, .int .i64 en, .int .i64 er, .int .i64 bu, .slo 1 0 m 0, .int .i64 (xar .add .i64 at' 1), .int .u64 w] none), some (.cells cs (some 2)), some (.cells [.int .u64 w, .int .u64 v, .bool h, .int .i64 o, .bool d, .int .i64 e] none), some (.cells [.int .u64 w, .int .u64 v, .bool h, .int .i64 o, .bool d, .int .i64 e] none)] []))
     else (
      bif h then (
       bif xcm .gtr o me then (
        K (.tup []) [some (.cells [.int .i64 me, .int .i64 su, .int .i64 en, .int .i64 er, .int .i64 bu, .slo 1 0 m 0, .int .i64 at', .int .u64 sm] none), some (.cells cs (some 2)), some (.cells [.int .u64 w, .int .u64 v, .bool h, .int .i64 o, .bool d, .int .i64 e] none), some (.cells [.int .u64 w, .int .u64 v, .bool h, .int .i64 o, .bool d, .int .i64 e] none), some (.cells [.int .u64 v, .bool h, .int .i64 o] none)] [])
       else (
        bif xcm .gtr su 0 then (
         K (.tup []) [some (.cells [.int .i64 me, .int .i64 (xar .sub .i64 su 1), .int .i64 en, .int .i64 er, .int .i64 bu, .slo 1 0 m 0, .int .i64 at', .int .u64 sm] none), some (.cells cs (some 2)), some (.cells [.int .u64 w, .int .u64 v, .bool h, .int .i64 o, .bool d, .int .i64 e] none), some (.cells [.int .u64 w, .int .u64 v, .bool h, .int .i64 o, .bool d, .int .i64 e] none), some (.cells [.int .u64 v, .bool h, .int .i64 o] none)] [])
        else (
         bif xcm .eql o o then
         bif xcm .eql o o then
         K (.tup []) [some (.cells [.int .i64 me, .int .i64 su, .int .i64 5, .int .i64 er, .int .i64 o, .slo 1 0 m 0, .int .i64 at', .int .u64 sm] none), some (.cells cs (some 2)), some (.cells [.int .u64 w, .int .u64 v, .bool h, .int .i64 o, .bool d, .int .i64 e] none), some (.cells [.int .u64 w, .int .u64 v, .bool h, .int .i64 o, .bool d, .int .i64 e] none), some (.cells [.int .u64 v, .bool h, .int .i64 o] none)] []
         else False
         else False)))
      else (
       bif xnn at' then
       bif xle (xadd (xnat at') 1) m then
       bif xle (xadd (xadd (xix 0 (xnat at') 2) 1) 1) (xln cs) then
       bif isI .u64 (nthD cs (xadd (xix 0 (xnat at') 2) 1)) then
       bif xcm .neq v (asI (nthD cs (xadd (xix 0 (xnat at') 2) 1))) then (
        K (.tup []) [some (.cells [.int .i64 me, .int .i64 su, .int .i64 5, .int .i64 er, .int .i64 bu, .slo 1 0 m 0, .int .i64 at', .int .u64 sm] none), some (.cells cs (some 2)), some (.cells [.int .u64 w, .int .u64 v, .bool h, .int .i64 o, .bool d, .int .i64 e] none), some (.cells [.int .u64 w, .int .u64 v, .bool h, .int .i64 o, .bool d, .int .i64 e] none)] [])
       else (
        bif xcm .eql (xar .add .i64 at' 1) ↑m then (
         K (.tup []) [some (.cells [.int .i64 me, .int .i64 su, .int .i64 2, .int .i64 er, .int .i64 bu, .slo 1 0 m 0, .int .i64 (xar .add .i64 at' 1), .int .u64 sm] none), some (.cells cs (some 2)), some (.cells [.int .u64 w, .int .u64 v, .bool h, .int .i64 o, .bool d, .int .i64 e] none), some (.cells [.int .u64 w, .int .u64 v, .bool h, .int .i64 o, .bool d, .int .i64 e] none)] [])
        else (
         K (.tup []) [some (.cells [.int .i64 me, .int .i64 su, .int .i64 en, .int .i64 er, .int .i64 bu, .slo 1 0 m 0, .int .i64 (xar .add .i64 at' 1), .int .u64 sm] none), some (.cells cs (some 2)), some (.cells [.int .u64 w, .int .u64 v, .bool h, .int .i64 o, .bool d, .int .i64 e] none), some (.cells [.int .u64 w, .int .u64 v, .bool h, .int .i64 o, .bool d, .int .i64 e] none)] []))
       else False
       else False
       else False
       else False)))))) := by kernel_rfl
abbrev cellQ : Int × Int → List LV := cII .i64 .u64
theorem cellQ_len (x : Int × Int) : (cellQ x).length = 2 := rfl
theorem q_0 {xs : List (Int × Int)} {i : Nat} (h : i < xs.length) : nthD (encL cellQ xs) (i * 2) = .int .i64 xs[i].1 := encL_nth cellQ_len (j := 0) h (by omega)
theorem q_1 {xs : List (Int × Int)} {i : Nat} (h : i < xs.length) : nthD (encL cellQ xs) (i * 2 + 1) = .int .u64 xs[i].2 := encL_nth cellQ_len (j := 1) h (by omega)
theorem q_n (xs : List (Int × Int)) : (encL cellQ xs).length = xs.length * 2 := encL_length cellQ_len xs
theorem q_noids (xs : List (Int × Int)) : noIds (encL cellQ xs) = true := noIds_encL (fun _ => rfl) xs
def okQ (cs : List LV) (m : Nat) : Bool := @decide (∃ xs : List (Int × Int), cs = encL cellQ xs ∧ xs.length = m ∧ m ≤ 1000000) (Classical.propDecidable _)

theorem okQ_iff {cs : List LV} {m : Nat} : okQ cs m = true ↔ ∃ xs : List (Int × Int), cs = encL cellQ xs ∧ xs.length = m ∧ m ≤ 1000000 := by simp only [okQ, decide_eq_true_eq]
structure ESt where
  dt : Bool
  k : Nat
  sm : Int
  sp : Int
  en : Int
  bu : Int
  er : Int
def eVer (cs : List LV) (k : Nat) : Int := asI (nthD cs (k * 2 + 1))
theorem eVer_enc {xs : List (Int × Int)} {k : Nat} (h : k < xs.length) : eVer (encL cellQ xs) k = xs[k].2 := by rw [eVer, q_1 h]; rfl
def eStep (me : Int) (m : Nat) (cs : List LV) (s : ESt) (w v : Int) (h : Bool) (o e : Int) : ESt :=
  if s.en ≠ 0 then s else if e ≠ 0 then { s with en := 4, er := e } else if s.dt = false then { s with dt := true, sm := w, en := if m = 0 then 2 else 0 }
  else if h = true then (if me < o then s else if 0 < s.sp then { s with sp := s.sp - 1 } else { s with en := 5, bu := o })
  else if v ≠ eVer cs s.k then { s with en := 5 } else { s with k := s.k + 1, en := if s.k + 1 = m then 2 else 0 }
structure ESt.ok (m : Nat) (s : ESt) : Prop where
  k : s.k ≤ m
  dt : s.dt = false → s.k = 0
  sp : 0 ≤ s.sp ∧ s.sp ≤ 4
  en : s.en = 0 → s.bu = -1 ∧ s.er = 0 ∧ (s.dt = true → s.k < m)
theorem eStep_ok {me : Int} {m : Nat} {cs : List LV} {s : ESt} (hs : s.ok m) (w v : Int) (h : Bool) (o e : Int) : (eStep me m cs s w v h o e).ok m := by
  obtain ⟨dt, k, sm, sp, en, bu, er⟩ := s
  obtain ⟨h1, h2, h3, h4⟩ := hs
  simp only at h1 h2 h3 h4
  unfold eStep
  simp only
  by_cases q1 : en = 0
  case neg => rw [if_pos q1]; exact ⟨h1, h2, h3, h4⟩
  obtain ⟨h5, h6, h7⟩ := h4 q1
  rw [if_neg (by simpa using q1)]
  by_cases q2 : e = 0
  case neg => rw [if_pos q2]; exact ⟨h1, h2, h3, fun h => by simp at h⟩
  rw [if_neg (by simpa using q2)]
  cases dt with
  | false =>
    have h8 := h2 rfl
    rw [if_pos rfl]
    refine ⟨h1, fun h => by simp at h, h3, fun h => ⟨h5, h6, fun _ => ?_⟩⟩
    simp only at h ⊢
    split at h
    · simp at h
    · omega
  | true =>
    have h8 := h7 rfl
    rw [if_neg (by simp)]
    cases h with
    | true =>
      rw [if_pos rfl]
      by_cases q5 : me < o
      · rw [if_pos q5]; exact ⟨h1, h2, h3, h4⟩
      rw [if_neg q5]
      by_cases q6 : 0 < sp
      · rw [if_pos q6]; exact ⟨h1, h2, by simp only; omega, h4⟩
      rw [if_neg q6]; exact ⟨h1, h2, h3, fun h => by simp at h⟩
    | false =>
      rw [if_neg (by simp)]
      by_cases q7 : v = eVer cs k
      · rw [if_neg (by simpa using q7)]
        refine ⟨h8, fun h => by simp at h, h3, fun h => ⟨h5, h6, fun _ => ?_⟩⟩
        simp only at h ⊢
        split at h
        · simp at h
        · omega
      · rw [if_pos (by simpa using q7)]; exact ⟨h1, h2, h3, fun h => by simp at h⟩
def atI (dt : Bool) (k : Nat) : Int := cond dt (k : Int) (-1)
theorem nt_eql (x y : Int) : xnot (xcm .eql x y) = xcm .neq x y := by rw [wd_not, xcm_eql, xcm_neq]
theorem cm_self (x : Int) : xcm .eql x x = true := t_eql rfl
theorem le_self (x : Nat) : xle x x = true := by rw [wd_le]; simp
abbrev cES (me : Int) (m : Nat) (s : ESt) (cs : List LV) : List LB := cE me (s.k * 2) (m - s.k) s.k s.dt s.sm s.sp s.en s.bu s.er cs
abbrev rES (me : Int) (m : Nat) (s : ESt) (cs : List LV) : List LB := rE me m (atI s.dt s.k) s.sm s.sp s.en s.bu s.er cs
theorem etell_ok (me : Int) (xs : List (Int × Int)) (hm : xs.length ≤ 1000000) (s : ESt) (hs : s.ok xs.length) (w v : Int) (h : Bool) (o : Int) (d : Bool) (e : Int) : SFun Go.Proofs.Try.prog 8 [.ptr 0 0, .agg (ansC w v h o d e)] (mkS (cES me xs.length s (encL cellQ xs))) fun l t => l = .tup [] ∧ t = mkS (cES me xs.length (eStep me xs.length (encL cellQ xs) s w v h o e) (encL cellQ xs)) := by
  refine SFun.mono (SFun.vc (Q := fun l b => l = .tup [] ∧ b = cES me xs.length (eStep me xs.length (encL cellQ xs) s w v h o e) (encL cellQ xs)) noCx_ok (n := 60) 3 rfl ?_) fun l s' ⟨b0, ⟨h1, h2⟩, h3⟩ => ⟨h1, by rw [h3, h2]⟩
  have no := q_noids xs
  have ln := q_n xs
  obtain ⟨dt, k, sm, sp, en, bu, er⟩ := s
  obtain ⟨p1, p2, ⟨p3, p4⟩, p5⟩ := hs
  simp only at p1 p2 p3 p4 p5
  dsimp only [cES]
  rw [etell_x]
  simp only [nt_eql, cm_self, le_self, cond_true]
  by_cases q1 : en = 0
  case neg =>
    have E : eStep me xs.length (encL cellQ xs) ⟨dt, k, sm, sp, en, bu, er⟩ w v h o e = ⟨dt, k, sm, sp, en, bu, er⟩ := if_pos q1
    rw [E]
    (repeat (first | (with_reducible refine way_t (by (first | with_reducible rfl | exact t_le (by omega) | exact t_eq (by omega) | exact t_nn (by omega) | exact t_lss (by omega) | exact t_leq (by omega) | exact t_gtr (by omega) | exact t_geq (by omega) | exact t_eql (by omega) | exact t_neq (by omega) | exact t_z (by omega) | exact wd_not_f | assumption)) ?_) | (with_reducible refine way_f (by (first | with_reducible rfl | exact f_le (by omega) | exact f_eq (by omega) | exact f_nn (by omega) | exact f_lss (by omega) | exact f_leq (by omega) | exact f_gtr (by omega) | exact f_geq (by omega) | exact f_eql (by omega) | exact f_neq (by omega) | exact f_z (by omega) | exact wd_not_t | assumption)) ?_)))
    exact ⟨rfl, _, _, [.id 0, .id 1, .id 2], ⟨rfl, rfl⟩, by (exact ⟨by kernel_rfl, by ((repeat refine okTms_cons (by (first | exact lw_any | exact lw_int | exact lw_bool | exact lw_ptr rfl | exact lw_slo rfl | exact lw_nilp | exact lw_nils | exact lw_str | exact lw_slo_nils | exact lw_slo_sle | exact lw_sl rfl | exact lw_unb | exact lw_gptr | exact lw_noid rfl | exact lw_cap rfl (Nat.le_refl _) | exact lw_cap rfl (by omega) | assumption | exact lw_tup (by ((repeat refine lws_cons (by (first | exact lw_any | exact lw_int | exact lw_bool | exact lw_ptr rfl | exact lw_slo rfl | exact lw_nilp | exact lw_nils | exact lw_str | exact lw_slo_nils | exact lw_slo_sle | exact lw_sl rfl | exact lw_unb | exact lw_gptr | exact lw_noid rfl | exact lw_cap rfl (Nat.le_refl _) | exact lw_cap rfl (by omega) | assumption)) ?_); exact lws_nil)))) ?_); exact okTms_nil), by ((repeat refine okBlks_cons (by (first | exact lb_dead | exact lb_same (by (first | assumption | exact noIds_tab (fun _ => rfl) _ _ | exact noIds_encL (fun _ => rfl) _ | rfl)) | exact lb_ro (by (first | assumption | exact noIds_tab (fun _ => rfl) _ _ | exact noIds_encL (fun _ => rfl) _ | rfl)) | exact lb_none | exact lb_cells (by ((repeat refine lws_cons (by (first | exact lw_any | exact lw_int | exact lw_bool | exact lw_ptr rfl | exact lw_slo rfl | exact lw_nilp | exact lw_nils | exact lw_str | exact lw_slo_nils | exact lw_slo_sle | exact lw_sl rfl | exact lw_unb | exact lw_gptr | exact lw_noid rfl | exact lw_cap rfl (Nat.le_refl _) | exact lw_cap rfl (by omega) | assumption | exact lw_tup (by ((repeat refine lws_cons (by (first | exact lw_any | exact lw_int | exact lw_bool | exact lw_ptr rfl | exact lw_slo rfl | exact lw_nilp | exact lw_nils | exact lw_str | exact lw_slo_nils | exact lw_slo_sle | exact lw_sl rfl | exact lw_unb | exact lw_gptr | exact lw_noid rfl | exact lw_cap rfl (Nat.le_refl _) | exact lw_cap rfl (by omega) | assumption)) ?_); exact lws_nil)))) ?_); exact lws_nil)) (by simp) | exact lb_iter | exact lb_cap (Nat.le_refl _) (Nat.le_refl _) rfl rfl | exact lb_capn (by assumption) (by (first | assumption | exact noIds_tab (fun _ => rfl) _ _ | exact noIds_encL (fun _ => rfl) _ | rfl)) | assumption)) ?_); exact okBlks_nil)⟩)⟩
  obtain ⟨rfl, rfl, p6⟩ := p5 q1
  subst q1
  by_cases q2 : e = 0
  case neg =>
    have E : eStep me xs.length (encL cellQ xs) ⟨dt, k, sm, sp, 0, -1, 0⟩ w v h o e = ⟨dt, k, sm, sp, 4, -1, e⟩ := by simp [eStep, q2]
    rw [E]
    (repeat (first | (with_reducible refine way_t (by (first | with_reducible rfl | exact t_le (by omega) | exact t_eq (by omega) | exact t_nn (by omega) | exact t_lss (by omega) | exact t_leq (by omega) | exact t_gtr (by omega) | exact t_geq (by omega) | exact t_eql (by omega) | exact t_neq (by omega) | exact t_z (by omega) | exact wd_not_f | assumption)) ?_) | (with_reducible refine way_f (by (first | with_reducible rfl | exact f_le (by omega) | exact f_eq (by omega) | exact f_nn (by omega) | exact f_lss (by omega) | exact f_leq (by omega) | exact f_gtr (by omega) | exact f_geq (by omega) | exact f_eql (by omega) | exact f_neq (by omega) | exact f_z (by omega) | exact wd_not_t | assumption)) ?_)))
    exact ⟨rfl, _, _, [.id 0, .id 1, .id 2], ⟨rfl, rfl⟩, by (exact ⟨by kernel_rfl, by ((repeat refine okTms_cons (by (first | exact lw_any | exact lw_int | exact lw_bool | exact lw_ptr rfl | exact lw_slo rfl | exact lw_nilp | exact lw_nils | exact lw_str | exact lw_slo_nils | exact lw_slo_sle | exact lw_sl rfl | exact lw_unb | exact lw_gptr | exact lw_noid rfl | exact lw_cap rfl (Nat.le_refl _) | exact lw_cap rfl (by omega) | assumption | exact lw_tup (by ((repeat refine lws_cons (by (first | exact lw_any | exact lw_int | exact lw_bool | exact lw_ptr rfl | exact lw_slo rfl | exact lw_nilp | exact lw_nils | exact lw_str | exact lw_slo_nils | exact lw_slo_sle | exact lw_sl rfl | exact lw_unb | exact lw_gptr | exact lw_noid rfl | exact lw_cap rfl (Nat.le_refl _) | exact lw_cap rfl (by omega) | assumption)) ?_); exact lws_nil)))) ?_); exact okTms_nil), by ((repeat refine okBlks_cons (by (first | exact lb_dead | exact lb_same (by (first | assumption | exact noIds_tab (fun _ => rfl) _ _ | exact noIds_encL (fun _ => rfl) _ | rfl)) | exact lb_ro (by (first | assumption | exact noIds_tab (fun _ => rfl) _ _ | exact noIds_encL (fun _ => rfl) _ | rfl)) | exact lb_none | exact lb_cells (by ((repeat refine lws_cons (by (first | exact lw_any | exact lw_int | exact lw_bool | exact lw_ptr rfl | exact lw_slo rfl | exact lw_nilp | exact lw_nils | exact lw_str | exact lw_slo_nils | exact lw_slo_sle | exact lw_sl rfl | exact lw_unb | exact lw_gptr | exact lw_noid rfl | exact lw_cap rfl (Nat.le_refl _) | exact lw_cap rfl (by omega) | assumption | exact lw_tup (by ((repeat refine lws_cons (by (first | exact lw_any | exact lw_int | exact lw_bool | exact lw_ptr rfl | exact lw_slo rfl | exact lw_nilp | exact lw_nils | exact lw_str | exact lw_slo_nils | exact lw_slo_sle | exact lw_sl rfl | exact lw_unb | exact lw_gptr | exact lw_noid rfl | exact lw_cap rfl (Nat.le_refl _) | exact lw_cap rfl (by omega) | assumption)) ?_); exact lws_nil)))) ?_); exact lws_nil)) (by simp) | exact lb_iter | exact lb_cap (Nat.le_refl _) (Nat.le_refl _) rfl rfl | exact lb_capn (by assumption) (by (first | assumption | exact noIds_tab (fun _ => rfl) _ _ | exact noIds_encL (fun _ => rfl) _ | rfl)) | assumption)) ?_); exact okBlks_nil)⟩)⟩
  subst q2
  cases dt with
  | false =>
    obtain rfl := p2 rfl
    by_cases q3 : xs.length = 0
    · have E : eStep me xs.length (encL cellQ xs) ⟨false, 0, sm, sp, 0, -1, 0⟩ w v h o 0 = ⟨true, 0, w, sp, 2, -1, 0⟩ := by simp [eStep, q3]
      have a1 : xar .add .i64 (-1) 1 = 0 := rfl
      rw [E]
      simp only [atI, cond_false, cond_true, a1]
      (repeat (first | (with_reducible refine way_t (by (first | with_reducible rfl | exact t_le (by omega) | exact t_eq (by omega) | exact t_nn (by omega) | exact t_lss (by omega) | exact t_leq (by omega) | exact t_gtr (by omega) | exact t_geq (by omega) | exact t_eql (by omega) | exact t_neq (by omega) | exact t_z (by omega) | exact wd_not_f | assumption)) ?_) | (with_reducible refine way_f (by (first | with_reducible rfl | exact f_le (by omega) | exact f_eq (by omega) | exact f_nn (by omega) | exact f_lss (by omega) | exact f_leq (by omega) | exact f_gtr (by omega) | exact f_geq (by omega) | exact f_eql (by omega) | exact f_neq (by omega) | exact f_z (by omega) | exact wd_not_t | assumption)) ?_)))
      exact ⟨rfl, _, _, [.id 0, .id 1, .id 2], ⟨rfl, rfl⟩, by (exact ⟨by kernel_rfl, by ((repeat refine okTms_cons (by (first | exact lw_any | exact lw_int | exact lw_bool | exact lw_ptr rfl | exact lw_slo rfl | exact lw_nilp | exact lw_nils | exact lw_str | exact lw_slo_nils | exact lw_slo_sle | exact lw_sl rfl | exact lw_unb | exact lw_gptr | exact lw_noid rfl | exact lw_cap rfl (Nat.le_refl _) | exact lw_cap rfl (by omega) | assumption | exact lw_tup (by ((repeat refine lws_cons (by (first | exact lw_any | exact lw_int | exact lw_bool | exact lw_ptr rfl | exact lw_slo rfl | exact lw_nilp | exact lw_nils | exact lw_str | exact lw_slo_nils | exact lw_slo_sle | exact lw_sl rfl | exact lw_unb | exact lw_gptr | exact lw_noid rfl | exact lw_cap rfl (Nat.le_refl _) | exact lw_cap rfl (by omega) | assumption)) ?_); exact lws_nil)))) ?_); exact okTms_nil), by ((repeat refine okBlks_cons (by (first | exact lb_dead | exact lb_same (by (first | assumption | exact noIds_tab (fun _ => rfl) _ _ | exact noIds_encL (fun _ => rfl) _ | rfl)) | exact lb_ro (by (first | assumption | exact noIds_tab (fun _ => rfl) _ _ | exact noIds_encL (fun _ => rfl) _ | rfl)) | exact lb_none | exact lb_cells (by ((repeat refine lws_cons (by (first | exact lw_any | exact lw_int | exact lw_bool | exact lw_ptr rfl | exact lw_slo rfl | exact lw_nilp | exact lw_nils | exact lw_str | exact lw_slo_nils | exact lw_slo_sle | exact lw_sl rfl | exact lw_unb | exact lw_gptr | exact lw_noid rfl | exact lw_cap rfl (Nat.le_refl _) | exact lw_cap rfl (by omega) | assumption | exact lw_tup (by ((repeat refine lws_cons (by (first | exact lw_any | exact lw_int | exact lw_bool | exact lw_ptr rfl | exact lw_slo rfl | exact lw_nilp | exact lw_nils | exact lw_str | exact lw_slo_nils | exact lw_slo_sle | exact lw_sl rfl | exact lw_unb | exact lw_gptr | exact lw_noid rfl | exact lw_cap rfl (Nat.le_refl _) | exact lw_cap rfl (by omega) | assumption)) ?_); exact lws_nil)))) ?_); exact lws_nil)) (by simp) | exact lb_iter | exact lb_cap (Nat.le_refl _) (Nat.le_refl _) rfl rfl | exact lb_capn (by assumption) (by (first | assumption | exact noIds_tab (fun _ => rfl) _ _ | exact noIds_encL (fun _ => rfl) _ | rfl)) | assumption)) ?_); exact okBlks_nil)⟩)⟩
    · have E : eStep me xs.length (encL cellQ xs) ⟨false, 0, sm, sp, 0, -1, 0⟩ w v h o 0 = ⟨true, 0, w, sp, 0, -1, 0⟩ := by simp only [eStep]; simp [q3]
      have a1 : xar .add .i64 (-1) 1 = 0 := rfl
      rw [E]
      simp only [atI, cond_false, cond_true, a1]
      (repeat (first | (with_reducible refine way_t (by (first | with_reducible rfl | exact t_le (by omega) | exact t_eq (by omega) | exact t_nn (by omega) | exact t_lss (by omega) | exact t_leq (by omega) | exact t_gtr (by omega) | exact t_geq (by omega) | exact t_eql (by omega) | exact t_neq (by omega) | exact t_z (by omega) | exact wd_not_f | assumption)) ?_) | (with_reducible refine way_f (by (first | with_reducible rfl | exact f_le (by omega) | exact f_eq (by omega) | exact f_nn (by omega) | exact f_lss (by omega) | exact f_leq (by omega) | exact f_gtr (by omega) | exact f_geq (by omega) | exact f_eql (by omega) | exact f_neq (by omega) | exact f_z (by omega) | exact wd_not_t | assumption)) ?_)))
      exact ⟨rfl, _, _, [.id 0, .id 1, .id 2], ⟨rfl, rfl⟩, by (exact ⟨by kernel_rfl, by ((repeat refine okTms_cons (by (first | exact lw_any | exact lw_int | exact lw_bool | exact lw_ptr rfl | exact lw_slo rfl | exact lw_nilp | exact lw_nils | exact lw_str | exact lw_slo_nils | exact lw_slo_sle | exact lw_sl rfl | exact lw_unb | exact lw_gptr | exact lw_noid rfl | exact lw_cap rfl (Nat.le_refl _) | exact lw_cap rfl (by omega) | assumption | exact lw_tup (by ((repeat refine lws_cons (by (first | exact lw_any | exact lw_int | exact lw_bool | exact lw_ptr rfl | exact lw_slo rfl | exact lw_nilp | exact lw_nils | exact lw_str | exact lw_slo_nils | exact lw_slo_sle | exact lw_sl rfl | exact lw_unb | exact lw_gptr | exact lw_noid rfl | exact lw_cap rfl (Nat.le_refl _) | exact lw_cap rfl (by omega) | assumption)) ?_); exact lws_nil)))) ?_); exact okTms_nil), by ((repeat refine okBlks_cons (by (first | exact lb_dead | exact lb_same (by (first | assumption | exact noIds_tab (fun _ => rfl) _ _ | exact noIds_encL (fun _ => rfl) _ | rfl)) | exact lb_ro (by (first | assumption | exact noIds_tab (fun _ => rfl) _ _ | exact noIds_encL (fun _ => rfl) _ | rfl)) | exact lb_none | exact lb_cells (by ((repeat refine lws_cons (by (first | exact lw_any | exact lw_int | exact lw_bool | exact lw_ptr rfl | exact lw_slo rfl | exact lw_nilp | exact lw_nils | exact lw_str | exact lw_slo_nils | exact lw_slo_sle | exact lw_sl rfl | exact lw_unb | exact lw_gptr | exact lw_noid rfl | exact lw_cap rfl (Nat.le_refl _) | exact lw_cap rfl (by omega) | assumption | exact lw_tup (by ((repeat refine lws_cons (by (first | exact lw_any | exact lw_int | exact lw_bool | exact lw_ptr rfl | exact lw_slo rfl | exact lw_nilp | exact lw_nils | exact lw_str | exact lw_slo_nils | exact lw_slo_sle | exact lw_sl rfl | exact lw_unb | exact lw_gptr | exact lw_noid rfl | exact lw_cap rfl (Nat.le_refl _) | exact lw_cap rfl (by omega) | assumption)) ?_); exact lws_nil)))) ?_); exact lws_nil)) (by simp) | exact lb_iter | exact lb_cap (Nat.le_refl _) (Nat.le_refl _) rfl rfl | exact lb_capn (by assumption) (by (first | assumption | exact noIds_tab (fun _ => rfl) _ _ | exact noIds_encL (fun _ => rfl) _ | rfl)) | assumption)) ?_); exact okBlks_nil)⟩)⟩
  | true =>
    have hk := p6 rfl
    have E0 : eStep me xs.length (encL cellQ xs) ⟨true, k, sm, sp, 0, -1, 0⟩ w v h o 0 = if h = true then (if me < o then (⟨true, k, sm, sp, 0, -1, 0⟩ : ESt) else if 0 < sp then ⟨true, k, sm, sp - 1, 0, -1, 0⟩ else ⟨true, k, sm, sp, 5, o, 0⟩) else if v ≠ xs[k].2 then ⟨true, k, sm, sp, 5, -1, 0⟩ else ⟨true, k + 1, sm, sp, if k + 1 = xs.length then 2 else 0, -1, 0⟩ := by
      rw [← eVer_enc hk]; simp [eStep]
    rw [E0]
    clear E0
    simp only [atI, cond_true]
    cases h with
    | true =>
      rw [if_pos rfl]
      by_cases q5 : me < o
      · rw [if_pos q5]
        (repeat (first | (with_reducible refine way_t (by (first | with_reducible rfl | exact t_le (by omega) | exact t_eq (by omega) | exact t_nn (by omega) | exact t_lss (by omega) | exact t_leq (by omega) | exact t_gtr (by omega) | exact t_geq (by omega) | exact t_eql (by omega) | exact t_neq (by omega) | exact t_z (by omega) | exact wd_not_f | assumption)) ?_) | (with_reducible refine way_f (by (first | with_reducible rfl | exact f_le (by omega) | exact f_eq (by omega) | exact f_nn (by omega) | exact f_lss (by omega) | exact f_leq (by omega) | exact f_gtr (by omega) | exact f_geq (by omega) | exact f_eql (by omega) | exact f_neq (by omega) | exact f_z (by omega) | exact wd_not_t | assumption)) ?_)))
        exact ⟨rfl, _, _, [.id 0, .id 1, .id 2], ⟨rfl, rfl⟩, by (exact ⟨by kernel_rfl, by ((repeat refine okTms_cons (by (first | exact lw_any | exact lw_int | exact lw_bool | exact lw_ptr rfl | exact lw_slo rfl | exact lw_nilp | exact lw_nils | exact lw_str | exact lw_slo_nils | exact lw_slo_sle | exact lw_sl rfl | exact lw_unb | exact lw_gptr | exact lw_noid rfl | exact lw_cap rfl (Nat.le_refl _) | exact lw_cap rfl (by omega) | assumption | exact lw_tup (by ((repeat refine lws_cons (by (first | exact lw_any | exact lw_int | exact lw_bool | exact lw_ptr rfl | exact lw_slo rfl | exact lw_nilp | exact lw_nils | exact lw_str | exact lw_slo_nils | exact lw_slo_sle | exact lw_sl rfl | exact lw_unb | exact lw_gptr | exact lw_noid rfl | exact lw_cap rfl (Nat.le_refl _) | exact lw_cap rfl (by omega) | assumption)) ?_); exact lws_nil)))) ?_); exact okTms_nil), by ((repeat refine okBlks_cons (by (first | exact lb_dead | exact lb_same (by (first | assumption | exact noIds_tab (fun _ => rfl) _ _ | exact noIds_encL (fun _ => rfl) _ | rfl)) | exact lb_ro (by (first | assumption | exact noIds_tab (fun _ => rfl) _ _ | exact noIds_encL (fun _ => rfl) _ | rfl)) | exact lb_none | exact lb_cells (by ((repeat refine lws_cons (by (first | exact lw_any | exact lw_int | exact lw_bool | exact lw_ptr rfl | exact lw_slo rfl | exact lw_nilp | exact lw_nils | exact lw_str | exact lw_slo_nils | exact lw_slo_sle | exact lw_sl rfl | exact lw_unb | exact lw_gptr | exact lw_noid rfl | exact lw_cap rfl (Nat.le_refl _) | exact lw_cap rfl (by omega) | assumption | exact lw_tup (by ((repeat refine lws_cons (by (first | exact lw_any | exact lw_int | exact lw_bool | exact lw_ptr rfl | exact lw_slo rfl | exact lw_nilp | exact lw_nils | exact lw_str | exact lw_slo_nils | exact lw_slo_sle | exact lw_sl rfl | exact lw_unb | exact lw_gptr | exact lw_noid rfl | exact lw_cap rfl (Nat.le_refl _) | exact lw_cap rfl (by omega) | assumption)) ?_); exact lws_nil)))) ?_); exact lws_nil)) (by simp) | exact lb_iter | exact lb_cap (Nat.le_refl _) (Nat.le_refl _) rfl rfl | exact lb_capn (by assumption) (by (first | assumption | exact noIds_tab (fun _ => rfl) _ _ | exact noIds_encL (fun _ => rfl) _ | rfl)) | assumption)) ?_); exact okBlks_nil)⟩)⟩
      rw [if_neg q5]
      by_cases q6 : 0 < sp
      · rw [if_pos q6]
        have e1 : xar .sub .i64 sp 1 = sp - 1 := sub_i64 (by omega) (by omega)
        rw [e1]
        (repeat (first | (with_reducible refine way_t (by (first | with_reducible rfl | exact t_le (by omega) | exact t_eq (by omega) | exact t_nn (by omega) | exact t_lss (by omega) | exact t_leq (by omega) | exact t_gtr (by omega) | exact t_geq (by omega) | exact t_eql (by omega) | exact t_neq (by omega) | exact t_z (by omega) | exact wd_not_f | assumption)) ?_) | (with_reducible refine way_f (by (first | with_reducible rfl | exact f_le (by omega) | exact f_eq (by omega) | exact f_nn (by omega) | exact f_lss (by omega) | exact f_leq (by omega) | exact f_gtr (by omega) | exact f_geq (by omega) | exact f_eql (by omega) | exact f_neq (by omega) | exact f_z (by omega) | exact wd_not_t | assumption)) ?_)))
        exact ⟨rfl, _, _, [.id 0, .id 1, .id 2], ⟨rfl, rfl⟩, by (exact ⟨by kernel_rfl, by ((repeat refine okTms_cons (by (first | exact lw_any | exact lw_int | exact lw_bool | exact lw_ptr rfl | exact lw_slo rfl | exact lw_nilp | exact lw_nils | exact lw_str | exact lw_slo_nils | exact lw_slo_sle | exact lw_sl rfl | exact lw_unb | exact lw_gptr | exact lw_noid rfl | exact lw_cap rfl (Nat.le_refl _) | exact lw_cap rfl (by omega) | assumption | exact lw_tup (by ((repeat refine lws_cons (by (first | exact lw_any | exact lw_int | exact lw_bool | exact lw_ptr rfl | exact lw_slo rfl | exact lw_nilp | exact lw_nils | exact lw_str | exact lw_slo_nils | exact lw_slo_sle | exact lw_sl rfl | exact lw_unb | exact lw_gptr | exact lw_noid rfl | exact lw_cap rfl (Nat.le_refl _) | exact lw_cap rfl (by omega) | assumption)) ?_); exact lws_nil)))) ?_); exact okTms_nil), by ((repeat refine okBlks_cons (by (first | exact lb_dead | exact lb_same (by (first | assumption | exact noIds_tab (fun _ => rfl) _ _ | exact noIds_encL (fun _ => rfl) _ | rfl)) | exact lb_ro (by (first | assumption | exact noIds_tab (fun _ => rfl) _ _ | exact noIds_encL (fun _ => rfl) _ | rfl)) | exact lb_none | exact lb_cells (by ((repeat refine lws_cons (by (first | exact lw_any | exact lw_int | exact lw_bool | exact lw_ptr rfl | exact lw_slo rfl | exact lw_nilp | exact lw_nils | exact lw_str | exact lw_slo_nils | exact lw_slo_sle | exact lw_sl rfl | exact lw_unb | exact lw_gptr | exact lw_noid rfl | exact lw_cap rfl (Nat.le_refl _) | exact lw_cap rfl (by omega) | assumption | exact lw_tup (by ((repeat refine lws_cons (by (first | exact lw_any | exact lw_int | exact lw_bool | exact lw_ptr rfl | exact lw_slo rfl | exact lw_nilp | exact lw_nils | exact lw_str | exact lw_slo_nils | exact lw_slo_sle | exact lw_sl rfl | exact lw_unb | exact lw_gptr | exact lw_noid rfl | exact lw_cap rfl (Nat.le_refl _) | exact lw_cap rfl (by omega) | assumption)) ?_); exact lws_nil)))) ?_); exact lws_nil)) (by simp) | exact lb_iter | exact lb_cap (Nat.le_refl _) (Nat.le_refl _) rfl rfl | exact lb_capn (by assumption) (by (first | assumption | exact noIds_tab (fun _ => rfl) _ _ | exact noIds_encL (fun _ => rfl) _ | rfl)) | assumption)) ?_); exact okBlks_nil)⟩)⟩
      · rw [if_neg q6]
        (repeat (first | (with_reducible refine way_t (by (first | with_reducible rfl | exact t_le (by omega) | exact t_eq (by omega) | exact t_nn (by omega) | exact t_lss (by omega) | exact t_leq (by omega) | exact t_gtr (by omega) | exact t_geq (by omega) | exact t_eql (by omega) | exact t_neq (by omega) | exact t_z (by omega) | exact wd_not_f | assumption)) ?_) | (with_reducible refine way_f (by (first | with_reducible rfl | exact f_le (by omega) | exact f_eq (by omega) | exact f_nn (by omega) | exact f_lss (by omega) | exact f_leq (by omega) | exact f_gtr (by omega) | exact f_geq (by omega) | exact f_eql (by omega) | exact f_neq (by omega) | exact f_z (by omega) | exact wd_not_t | assumption)) ?_)))
        exact ⟨rfl, _, _, [.id 0, .id 1, .id 2], ⟨rfl, rfl⟩, by (exact ⟨by kernel_rfl, by ((repeat refine okTms_cons (by (first | exact lw_any | exact lw_int | exact lw_bool | exact lw_ptr rfl | exact lw_slo rfl | exact lw_nilp | exact lw_nils | exact lw_str | exact lw_slo_nils | exact lw_slo_sle | exact lw_sl rfl | exact lw_unb | exact lw_gptr | exact lw_noid rfl | exact lw_cap rfl (Nat.le_refl _) | exact lw_cap rfl (by omega) | assumption | exact lw_tup (by ((repeat refine lws_cons (by (first | exact lw_any | exact lw_int | exact lw_bool | exact lw_ptr rfl | exact lw_slo rfl | exact lw_nilp | exact lw_nils | exact lw_str | exact lw_slo_nils | exact lw_slo_sle | exact lw_sl rfl | exact lw_unb | exact lw_gptr | exact lw_noid rfl | exact lw_cap rfl (Nat.le_refl _) | exact lw_cap rfl (by omega) | assumption)) ?_); exact lws_nil)))) ?_); exact okTms_nil), by ((repeat refine okBlks_cons (by (first | exact lb_dead | exact lb_same (by (first | assumption | exact noIds_tab (fun _ => rfl) _ _ | exact noIds_encL (fun _ => rfl) _ | rfl)) | exact lb_ro (by (first | assumption | exact noIds_tab (fun _ => rfl) _ _ | exact noIds_encL (fun _ => rfl) _ | rfl)) | exact lb_none | exact lb_cells (by ((repeat refine lws_cons (by (first | exact lw_any | exact lw_int | exact lw_bool | exact lw_ptr rfl | exact lw_slo rfl | exact lw_nilp | exact lw_nils | exact lw_str | exact lw_slo_nils | exact lw_slo_sle | exact lw_sl rfl | exact lw_unb | exact lw_gptr | exact lw_noid rfl | exact lw_cap rfl (Nat.le_refl _) | exact lw_cap rfl (by omega) | assumption | exact lw_tup (by ((repeat refine lws_cons (by (first | exact lw_any | exact lw_int | exact lw_bool | exact lw_ptr rfl | exact lw_slo rfl | exact lw_nilp | exact lw_nils | exact lw_str | exact lw_slo_nils | exact lw_slo_sle | exact lw_sl rfl | exact lw_unb | exact lw_gptr | exact lw_noid rfl | exact lw_cap rfl (Nat.le_refl _) | exact lw_cap rfl (by omega) | assumption)) ?_); exact lws_nil)))) ?_); exact lws_nil)) (by simp) | exact lb_iter | exact lb_cap (Nat.le_refl _) (Nat.le_refl _) rfl rfl | exact lb_capn (by assumption) (by (first | assumption | exact noIds_tab (fun _ => rfl) _ _ | exact noIds_encL (fun _ => rfl) _ | rfl)) | assumption)) ?_); exact okBlks_nil)⟩)⟩
    | false =>
      rw [if_neg (by simp)]
      simp only [wd_nat, wd_asV, wd_isV, wd_ix, wd_add, wd_mul, wd_ln, Nat.zero_add, Nat.mul_one, wd_isI, wd_asI, wd_isB, wd_asB, wd_nn, cI_tlen, cB_tlen, cII_tlen, decide_true, cond_true, wd_not_t, wd_not_f, wd_and_t, wd_and_f, wd_sub, Nat.zero_mul, Nat.add_zero, q_1 hk, ln]
      by_cases q7 : v = xs[k].2
      · rw [if_neg (by simpa using q7)]
        by_cases q8 : k + 1 = xs.length
        · rw [if_pos q8]
          (repeat (first | (with_reducible refine way_t (by (first | with_reducible rfl | exact t_le (by omega) | exact t_eq (by omega) | exact t_nn (by omega) | exact t_lss (by omega) | exact t_leq (by omega) | exact t_gtr (by omega) | exact t_geq (by omega) | exact t_eql (by omega) | exact t_neq (by omega) | exact t_z (by omega) | exact wd_not_f | assumption)) ?_) | (with_reducible refine way_f (by (first | with_reducible rfl | exact f_le (by omega) | exact f_eq (by omega) | exact f_nn (by omega) | exact f_lss (by omega) | exact f_leq (by omega) | exact f_gtr (by omega) | exact f_geq (by omega) | exact f_eql (by omega) | exact f_neq (by omega) | exact f_z (by omega) | exact wd_not_t | assumption)) ?_)))
          rw [show k * 2 + 1 * 2 = (k + 1) * 2 by omega, show xs.length - k - 1 = xs.length - (k + 1) by omega]; exact ⟨rfl, _, _, [.id 0, .id 1, .id 2], ⟨rfl, rfl⟩, by (exact ⟨by kernel_rfl, by ((repeat refine okTms_cons (by (first | exact lw_any | exact lw_int | exact lw_bool | exact lw_ptr rfl | exact lw_slo rfl | exact lw_nilp | exact lw_nils | exact lw_str | exact lw_slo_nils | exact lw_slo_sle | exact lw_sl rfl | exact lw_unb | exact lw_gptr | exact lw_noid rfl | exact lw_cap rfl (Nat.le_refl _) | exact lw_cap rfl (by omega) | assumption | exact lw_tup (by ((repeat refine lws_cons (by (first | exact lw_any | exact lw_int | exact lw_bool | exact lw_ptr rfl | exact lw_slo rfl | exact lw_nilp | exact lw_nils | exact lw_str | exact lw_slo_nils | exact lw_slo_sle | exact lw_sl rfl | exact lw_unb | exact lw_gptr | exact lw_noid rfl | exact lw_cap rfl (Nat.le_refl _) | exact lw_cap rfl (by omega) | assumption)) ?_); exact lws_nil)))) ?_); exact okTms_nil), by ((repeat refine okBlks_cons (by (first | exact lb_dead | exact lb_same (by (first | assumption | exact noIds_tab (fun _ => rfl) _ _ | exact noIds_encL (fun _ => rfl) _ | rfl)) | exact lb_ro (by (first | assumption | exact noIds_tab (fun _ => rfl) _ _ | exact noIds_encL (fun _ => rfl) _ | rfl)) | exact lb_none | exact lb_cells (by ((repeat refine lws_cons (by (first | exact lw_any | exact lw_int | exact lw_bool | exact lw_ptr rfl | exact lw_slo rfl | exact lw_nilp | exact lw_nils | exact lw_str | exact lw_slo_nils | exact lw_slo_sle | exact lw_sl rfl | exact lw_unb | exact lw_gptr | exact lw_noid rfl | exact lw_cap rfl (Nat.le_refl _) | exact lw_cap rfl (by omega) | assumption | exact lw_tup (by ((repeat refine lws_cons (by (first | exact lw_any | exact lw_int | exact lw_bool | exact lw_ptr rfl | exact lw_slo rfl | exact lw_nilp | exact lw_nils | exact lw_str | exact lw_slo_nils | exact lw_slo_sle | exact lw_sl rfl | exact lw_unb | exact lw_gptr | exact lw_noid rfl | exact lw_cap rfl (Nat.le_refl _) | exact lw_cap rfl (by omega) | assumption)) ?_); exact lws_nil)))) ?_); exact lws_nil)) (by simp) | exact lb_iter | exact lb_cap (Nat.le_refl _) (Nat.le_refl _) rfl rfl | exact lb_capn (by assumption) (by (first | assumption | exact noIds_tab (fun _ => rfl) _ _ | exact noIds_encL (fun _ => rfl) _ | rfl)) | assumption)) ?_); exact okBlks_nil)⟩)⟩
        · rw [if_neg q8]
          (repeat (first | (with_reducible refine way_t (by (first | with_reducible rfl | exact t_le (by omega) | exact t_eq (by omega) | exact t_nn (by omega) | exact t_lss (by omega) | exact t_leq (by omega) | exact t_gtr (by omega) | exact t_geq (by omega) | exact t_eql (by omega) | exact t_neq (by omega) | exact t_z (by omega) | exact wd_not_f | assumption)) ?_) | (with_reducible refine way_f (by (first | with_reducible rfl | exact f_le (by omega) | exact f_eq (by omega) | exact f_nn (by omega) | exact f_lss (by omega) | exact f_leq (by omega) | exact f_gtr (by omega) | exact f_geq (by omega) | exact f_eql (by omega) | exact f_neq (by omega) | exact f_z (by omega) | exact wd_not_t | assumption)) ?_)))
          rw [show k * 2 + 1 * 2 = (k + 1) * 2 by omega, show xs.length - k - 1 = xs.length - (k + 1) by omega]; exact ⟨rfl, _, _, [.id 0, .id 1, .id 2], ⟨rfl, rfl⟩, by (exact ⟨by kernel_rfl, by ((repeat refine okTms_cons (by (first | exact lw_any | exact lw_int | exact lw_bool | exact lw_ptr rfl | exact lw_slo rfl | exact lw_nilp | exact lw_nils | exact lw_str | exact lw_slo_nils | exact lw_slo_sle | exact lw_sl rfl | exact lw_unb | exact lw_gptr | exact lw_noid rfl | exact lw_cap rfl (Nat.le_refl _) | exact lw_cap rfl (by omega) | assumption | exact lw_tup (by ((repeat refine lws_cons (by (first | exact lw_any | exact lw_int | exact lw_bool | exact lw_ptr rfl | exact lw_slo rfl | exact lw_nilp | exact lw_nils | exact lw_str | exact lw_slo_nils | exact lw_slo_sle | exact lw_sl rfl | exact lw_unb | exact lw_gptr | exact lw_noid rfl | exact lw_cap rfl (Nat.le_refl _) | exact lw_cap rfl (by omega) | assumption)) ?_); exact lws_nil)))) ?_); exact okTms_nil), by ((repeat refine okBlks_cons (by (first | exact lb_dead | exact lb_same (by (first | assumption | exact noIds_tab (fun _ => rfl) _ _ | exact noIds_encL (fun _ => rfl) _ | rfl)) | exact lb_ro (by (first | assumption | exact noIds_tab (fun _ => rfl) _ _ | exact noIds_encL (fun _ => rfl) _ | rfl)) | exact lb_none | exact lb_cells (by ((repeat refine lws_cons (by (first | exact lw_any | exact lw_int | exact lw_bool | exact lw_ptr rfl | exact lw_slo rfl | exact lw_nilp | exact lw_nils | exact lw_str | exact lw_slo_nils | exact lw_slo_sle | exact lw_sl rfl | exact lw_unb | exact lw_gptr | exact lw_noid rfl | exact lw_cap rfl (Nat.le_refl _) | exact lw_cap rfl (by omega) | assumption | exact lw_tup (by ((repeat refine lws_cons (by (first | exact lw_any | exact lw_int | exact lw_bool | exact lw_ptr rfl | exact lw_slo rfl | exact lw_nilp | exact lw_nils | exact lw_str | exact lw_slo_nils | exact lw_slo_sle | exact lw_sl rfl | exact lw_unb | exact lw_gptr | exact lw_noid rfl | exact lw_cap rfl (Nat.le_refl _) | exact lw_cap rfl (by omega) | assumption)) ?_); exact lws_nil)))) ?_); exact lws_nil)) (by simp) | exact lb_iter | exact lb_cap (Nat.le_refl _) (Nat.le_refl _) rfl rfl | exact lb_capn (by assumption) (by (first | assumption | exact noIds_tab (fun _ => rfl) _ _ | exact noIds_encL (fun _ => rfl) _ | rfl)) | assumption)) ?_); exact okBlks_nil)⟩)⟩
      · rw [if_pos (by simpa using q7)]
        (repeat (first | (with_reducible refine way_t (by (first | with_reducible rfl | exact t_le (by omega) | exact t_eq (by omega) | exact t_nn (by omega) | exact t_lss (by omega) | exact t_leq (by omega) | exact t_gtr (by omega) | exact t_geq (by omega) | exact t_eql (by omega) | exact t_neq (by omega) | exact t_z (by omega) | exact wd_not_f | assumption)) ?_) | (with_reducible refine way_f (by (first | with_reducible rfl | exact f_le (by omega) | exact f_eq (by omega) | exact f_nn (by omega) | exact f_lss (by omega) | exact f_leq (by omega) | exact f_gtr (by omega) | exact f_geq (by omega) | exact f_eql (by omega) | exact f_neq (by omega) | exact f_z (by omega) | exact wd_not_t | assumption)) ?_)))
        exact ⟨rfl, _, _, [.id 0, .id 1, .id 2], ⟨rfl, rfl⟩, by (exact ⟨by kernel_rfl, by ((repeat refine okTms_cons (by (first | exact lw_any | exact lw_int | exact lw_bool | exact lw_ptr rfl | exact lw_slo rfl | exact lw_nilp | exact lw_nils | exact lw_str | exact lw_slo_nils | exact lw_slo_sle | exact lw_sl rfl | exact lw_unb | exact lw_gptr | exact lw_noid rfl | exact lw_cap rfl (Nat.le_refl _) | exact lw_cap rfl (by omega) | assumption | exact lw_tup (by ((repeat refine lws_cons (by (first | exact lw_any | exact lw_int | exact lw_bool | exact lw_ptr rfl | exact lw_slo rfl | exact lw_nilp | exact lw_nils | exact lw_str | exact lw_slo_nils | exact lw_slo_sle | exact lw_sl rfl | exact lw_unb | exact lw_gptr | exact lw_noid rfl | exact lw_cap rfl (Nat.le_refl _) | exact lw_cap rfl (by omega) | assumption)) ?_); exact lws_nil)))) ?_); exact okTms_nil), by ((repeat refine okBlks_cons (by (first | exact lb_dead | exact lb_same (by (first | assumption | exact noIds_tab (fun _ => rfl) _ _ | exact noIds_encL (fun _ => rfl) _ | rfl)) | exact lb_ro (by (first | assumption | exact noIds_tab (fun _ => rfl) _ _ | exact noIds_encL (fun _ => rfl) _ | rfl)) | exact lb_none | exact lb_cells (by ((repeat refine lws_cons (by (first | exact lw_any | exact lw_int | exact lw_bool | exact lw_ptr rfl | exact lw_slo rfl | exact lw_nilp | exact lw_nils | exact lw_str | exact lw_slo_nils | exact lw_slo_sle | exact lw_sl rfl | exact lw_unb | exact lw_gptr | exact lw_noid rfl | exact lw_cap rfl (Nat.le_refl _) | exact lw_cap rfl (by omega) | assumption | exact lw_tup (by ((repeat refine lws_cons (by (first | exact lw_any | exact lw_int | exact lw_bool | exact lw_ptr rfl | exact lw_slo rfl | exact lw_nilp | exact lw_nils | exact lw_str | exact lw_slo_nils | exact lw_slo_sle | exact lw_sl rfl | exact lw_unb | exact lw_gptr | exact lw_noid rfl | exact lw_cap rfl (Nat.le_refl _) | exact lw_cap rfl (by omega) | assumption)) ?_); exact lws_nil)))) ?_); exact lws_nil)) (by simp) | exact lb_iter | exact lb_cap (Nat.le_refl _) (Nat.le_refl _) rfl rfl | exact lb_capn (by assumption) (by (first | assumption | exact noIds_tab (fun _ => rfl) _ _ | exact noIds_encL (fun _ => rfl) _ | rfl)) | assumption)) ?_); exact okBlks_nil)⟩)⟩
theorem ertell_ok (me : Int) (xs : List (Int × Int)) (hm : xs.length ≤ 1000000) (s : ESt) (hs : s.ok xs.length) (w v : Int) (h : Bool) (o : Int) (d : Bool) (e : Int) : SFun Go.Proofs.Try.prog 16 [.ptr 0 0, .agg (ansC w v h o d e)] (mkS (rES me xs.length s (encL cellQ xs))) fun l t => l = .tup [] ∧ t = mkS (rES me xs.length (eStep me xs.length (encL cellQ xs) s w v h o e) (encL cellQ xs)) := by
  refine SFun.mono (SFun.vc (Q := fun l b => l = .tup [] ∧ b = rES me xs.length (eStep me xs.length (encL cellQ xs) s w v h o e) (encL cellQ xs)) noCx_ok (n := 60) 2 rfl ?_) fun l s' ⟨b0, ⟨h1, h2⟩, h3⟩ => ⟨h1, by rw [h3, h2]⟩
  have no := q_noids xs
  have ln := q_n xs
  obtain ⟨dt, k, sm, sp, en, bu, er⟩ := s
  obtain ⟨p1, p2, ⟨p3, p4⟩, p5⟩ := hs
  simp only at p1 p2 p3 p4 p5
  dsimp only [rES]
  rw [ertell_x]
  simp only [nt_eql, cm_self, le_self, cond_true]
  by_cases q1 : en = 0
  case neg =>
    have E : eStep me xs.length (encL cellQ xs) ⟨dt, k, sm, sp, en, bu, er⟩ w v h o e = ⟨dt, k, sm, sp, en, bu, er⟩ := if_pos q1
    rw [E]
    (repeat (first | (with_reducible refine way_t (by (first | with_reducible rfl | exact t_le (by omega) | exact t_eq (by omega) | exact t_nn (by omega) | exact t_lss (by omega) | exact t_leq (by omega) | exact t_gtr (by omega) | exact t_geq (by omega) | exact t_eql (by omega) | exact t_neq (by omega) | exact t_z (by omega) | exact wd_not_f | assumption)) ?_) | (with_reducible refine way_f (by (first | with_reducible rfl | exact f_le (by omega) | exact f_eq (by omega) | exact f_nn (by omega) | exact f_lss (by omega) | exact f_leq (by omega) | exact f_gtr (by omega) | exact f_geq (by omega) | exact f_eql (by omega) | exact f_neq (by omega) | exact f_z (by omega) | exact wd_not_t | assumption)) ?_)))
    exact ⟨rfl, _, _, [.id 0, .id 1], ⟨rfl, rfl⟩, by (exact ⟨by kernel_rfl, by ((repeat refine okTms_cons (by (first | exact lw_any | exact lw_int | exact lw_bool | exact lw_ptr rfl | exact lw_slo rfl | exact lw_nilp | exact lw_nils | exact lw_str | exact lw_slo_nils | exact lw_slo_sle | exact lw_sl rfl | exact lw_unb | exact lw_gptr | exact lw_noid rfl | exact lw_cap rfl (Nat.le_refl _) | exact lw_cap rfl (by omega) | assumption | exact lw_tup (by ((repeat refine lws_cons (by (first | exact lw_any | exact lw_int | exact lw_bool | exact lw_ptr rfl | exact lw_slo rfl | exact lw_nilp | exact lw_nils | exact lw_str | exact lw_slo_nils | exact lw_slo_sle | exact lw_sl rfl | exact lw_unb | exact lw_gptr | exact lw_noid rfl | exact lw_cap rfl (Nat.le_refl _) | exact lw_cap rfl (by omega) | assumption)) ?_); exact lws_nil)))) ?_); exact okTms_nil), by ((repeat refine okBlks_cons (by (first | exact lb_dead | exact lb_same (by (first | assumption | exact noIds_tab (fun _ => rfl) _ _ | exact noIds_encL (fun _ => rfl) _ | rfl)) | exact lb_ro (by (first | assumption | exact noIds_tab (fun _ => rfl) _ _ | exact noIds_encL (fun _ => rfl) _ | rfl)) | exact lb_none | exact lb_cells (by ((repeat refine lws_cons (by (first | exact lw_any | exact lw_int | exact lw_bool | exact lw_ptr rfl | exact lw_slo rfl | exact lw_nilp | exact lw_nils | exact lw_str | exact lw_slo_nils | exact lw_slo_sle | exact lw_sl rfl | exact lw_unb | exact lw_gptr | exact lw_noid rfl | exact lw_cap rfl (Nat.le_refl _) | exact lw_cap rfl (by omega) | assumption | exact lw_tup (by ((repeat refine lws_cons (by (first | exact lw_any | exact lw_int | exact lw_bool | exact lw_ptr rfl | exact lw_slo rfl | exact lw_nilp | exact lw_nils | exact lw_str | exact lw_slo_nils | exact lw_slo_sle | exact lw_sl rfl | exact lw_unb | exact lw_gptr | exact lw_noid rfl | exact lw_cap rfl (Nat.le_refl _) | exact lw_cap rfl (by omega) | assumption)) ?_); exact lws_nil)))) ?_); exact lws_nil)) (by simp) | exact lb_iter | exact lb_cap (Nat.le_refl _) (Nat.le_refl _) rfl rfl | exact lb_capn (by assumption) (by (first | assumption | exact noIds_tab (fun _ => rfl) _ _ | exact noIds_encL (fun _ => rfl) _ | rfl)) | assumption)) ?_); exact okBlks_nil)⟩)⟩
  obtain ⟨rfl, rfl, p6⟩ := p5 q1
  subst q1
  by_cases q2 : e = 0
  case neg =>
    have E : eStep me xs.length (encL cellQ xs) ⟨dt, k, sm, sp, 0, -1, 0⟩ w v h o e = ⟨dt, k, sm, sp, 4, -1, e⟩ := by simp [eStep, q2]
    rw [E]
    (repeat (first | (with_reducible refine way_t (by (first | with_reducible rfl | exact t_le (by omega) | exact t_eq (by omega) | exact t_nn (by omega) | exact t_lss (by omega) | exact t_leq (by omega) | exact t_gtr (by omega) | exact t_geq (by omega) | exact t_eql (by omega) | exact t_neq (by omega) | exact t_z (by omega) | exact wd_not_f | assumption)) ?_) | (with_reducible refine way_f (by (first | with_reducible rfl | exact f_le (by omega) | exact f_eq (by omega) | exact f_nn (by omega) | exact f_lss (by omega) | exact f_leq (by omega) | exact f_gtr (by omega) | exact f_geq (by omega) | exact f_eql (by omega) | exact f_neq (by omega) | exact f_z (by omega) | exact wd_not_t | assumption)) ?_)))
    exact ⟨rfl, _, _, [.id 0, .id 1], ⟨rfl, rfl⟩, by (exact ⟨by kernel_rfl, by ((repeat refine okTms_cons (by (first | exact lw_any | exact lw_int | exact lw_bool | exact lw_ptr rfl | exact lw_slo rfl | exact lw_nilp | exact lw_nils | exact lw_str | exact lw_slo_nils | exact lw_slo_sle | exact lw_sl rfl | exact lw_unb | exact lw_gptr | exact lw_noid rfl | exact lw_cap rfl (Nat.le_refl _) | exact lw_cap rfl (by omega) | assumption | exact lw_tup (by ((repeat refine lws_cons (by (first | exact lw_any | exact lw_int | exact lw_bool | exact lw_ptr rfl | exact lw_slo rfl | exact lw_nilp | exact lw_nils | exact lw_str | exact lw_slo_nils | exact lw_slo_sle | exact lw_sl rfl | exact lw_unb | exact lw_gptr | exact lw_noid rfl | exact lw_cap rfl (Nat.le_refl _) | exact lw_cap rfl (by omega) | assumption)) ?_); exact lws_nil)))) ?_); exact okTms_nil), by ((repeat refine okBlks_cons (by (first | exact lb_dead | exact lb_same (by (first | assumption | exact noIds_tab (fun _ => rfl) _ _ | exact noIds_encL (fun _ => rfl) _ | rfl)) | exact lb_ro (by (first | assumption | exact noIds_tab (fun _ => rfl) _ _ | exact noIds_encL (fun _ => rfl) _ | rfl)) | exact lb_none | exact lb_cells (by ((repeat refine lws_cons (by (first | exact lw_any | exact lw_int | exact lw_bool | exact lw_ptr rfl | exact lw_slo rfl | exact lw_nilp | exact lw_nils | exact lw_str | exact lw_slo_nils | exact lw_slo_sle | exact lw_sl rfl | exact lw_unb | exact lw_gptr | exact lw_noid rfl | exact lw_cap rfl (Nat.le_refl _) | exact lw_cap rfl (by omega) | assumption | exact lw_tup (by ((repeat refine lws_cons (by (first | exact lw_any | exact lw_int | exact lw_bool | exact lw_ptr rfl | exact lw_slo rfl | exact lw_nilp | exact lw_nils | exact lw_str | exact lw_slo_nils | exact lw_slo_sle | exact lw_sl rfl | exact lw_unb | exact lw_gptr | exact lw_noid rfl | exact lw_cap rfl (Nat.le_refl _) | exact lw_cap rfl (by omega) | assumption)) ?_); exact lws_nil)))) ?_); exact lws_nil)) (by simp) | exact lb_iter | exact lb_cap (Nat.le_refl _) (Nat.le_refl _) rfl rfl | exact lb_capn (by assumption) (by (first | assumption | exact noIds_tab (fun _ => rfl) _ _ | exact noIds_encL (fun _ => rfl) _ | rfl)) | assumption)) ?_); exact okBlks_nil)⟩)⟩
  subst q2
  cases dt with
  | false =>
    obtain rfl := p2 rfl
    by_cases q3 : xs.length = 0
    · have E : eStep me xs.length (encL cellQ xs) ⟨false, 0, sm, sp, 0, -1, 0⟩ w v h o 0 = ⟨true, 0, w, sp, 2, -1, 0⟩ := by simp [eStep, q3]
      have a1 : xar .add .i64 (-1) 1 = 0 := rfl
      rw [E]
      simp only [atI, cond_false, cond_true, a1]
      (repeat (first | (with_reducible refine way_t (by (first | with_reducible rfl | exact t_le (by omega) | exact t_eq (by omega) | exact t_nn (by omega) | exact t_lss (by omega) | exact t_leq (by omega) | exact t_gtr (by omega) | exact t_geq (by omega) | exact t_eql (by omega) | exact t_neq (by omega) | exact t_z (by omega) | exact wd_not_f | assumption)) ?_) | (with_reducible refine way_f (by (first | with_reducible rfl | exact f_le (by omega) | exact f_eq (by omega) | exact f_nn (by omega) | exact f_lss (by omega) | exact f_leq (by omega) | exact f_gtr (by omega) | exact f_geq (by omega) | exact f_eql (by omega) | exact f_neq (by omega) | exact f_z (by omega) | exact wd_not_t | assumption)) ?_)))
      exact ⟨rfl, _, _, [.id 0, .id 1], ⟨rfl, rfl⟩, by (exact ⟨by kernel_rfl, by ((repeat refine okTms_cons (by (first | exact lw_any | exact lw_int | exact lw_bool | exact lw_ptr rfl | exact lw_slo rfl | exact lw_nilp | exact lw_nils | exact lw_str | exact lw_slo_nils | exact lw_slo_sle | exact lw_sl rfl | exact lw_unb | exact lw_gptr | exact lw_noid rfl | exact lw_cap rfl (Nat.le_refl _) | exact lw_cap rfl (by omega) | assumption | exact lw_tup (by ((repeat refine lws_cons (by (first | exact lw_any | exact lw_int | exact lw_bool | exact lw_ptr rfl | exact lw_slo rfl | exact lw_nilp | exact lw_nils | exact lw_str | exact lw_slo_nils | exact lw_slo_sle | exact lw_sl rfl | exact lw_unb | exact lw_gptr | exact lw_noid rfl | exact lw_cap rfl (Nat.le_refl _) | exact lw_cap rfl (by omega) | assumption)) ?_); exact lws_nil)))) ?_); exact okTms_nil), by ((repeat refine okBlks_cons (by (first | exact lb_dead | exact lb_same (by (first | assumption | exact noIds_tab (fun _ => rfl) _ _ | exact noIds_encL (fun _ => rfl) _ | rfl)) | exact lb_ro (by (first | assumption | exact noIds_tab (fun _ => rfl) _ _ | exact noIds_encL (fun _ => rfl) _ | rfl)) | exact lb_none | exact lb_cells (by ((repeat refine lws_cons (by (first | exact lw_any | exact lw_int | exact lw_bool | exact lw_ptr rfl | exact lw_slo rfl | exact lw_nilp | exact lw_nils | exact lw_str | exact lw_slo_nils | exact lw_slo_sle | exact lw_sl rfl | exact lw_unb | exact lw_gptr | exact lw_noid rfl | exact lw_cap rfl (Nat.le_refl _) | exact lw_cap rfl (by omega) | assumption | exact lw_tup (by ((repeat refine lws_cons (by (first | exact lw_any | exact lw_int | exact lw_bool | exact lw_ptr rfl | exact lw_slo rfl | exact lw_nilp | exact lw_nils | exact lw_str | exact lw_slo_nils | exact lw_slo_sle | exact lw_sl rfl | exact lw_unb | exact lw_gptr | exact lw_noid rfl | exact lw_cap rfl (Nat.le_refl _) | exact lw_cap rfl (by omega) | assumption)) ?_); exact lws_nil)))) ?_); exact lws_nil)) (by simp) | exact lb_iter | exact lb_cap (Nat.le_refl _) (Nat.le_refl _) rfl rfl | exact lb_capn (by assumption) (by (first | assumption | exact noIds_tab (fun _ => rfl) _ _ | exact noIds_encL (fun _ => rfl) _ | rfl)) | assumption)) ?_); exact okBlks_nil)⟩)⟩
    · have E : eStep me xs.length (encL cellQ xs) ⟨false, 0, sm, sp, 0, -1, 0⟩ w v h o 0 = ⟨true, 0, w, sp, 0, -1, 0⟩ := by simp only [eStep]; simp [q3]
      have a1 : xar .add .i64 (-1) 1 = 0 := rfl
      rw [E]
      simp only [atI, cond_false, cond_true, a1]
      (repeat (first | (with_reducible refine way_t (by (first | with_reducible rfl | exact t_le (by omega) | exact t_eq (by omega) | exact t_nn (by omega) | exact t_lss (by omega) | exact t_leq (by omega) | exact t_gtr (by omega) | exact t_geq (by omega) | exact t_eql (by omega) | exact t_neq (by omega) | exact t_z (by omega) | exact wd_not_f | assumption)) ?_) | (with_reducible refine way_f (by (first | with_reducible rfl | exact f_le (by omega) | exact f_eq (by omega) | exact f_nn (by omega) | exact f_lss (by omega) | exact f_leq (by omega) | exact f_gtr (by omega) | exact f_geq (by omega) | exact f_eql (by omega) | exact f_neq (by omega) | exact f_z (by omega) | exact wd_not_t | assumption)) ?_)))
      exact ⟨rfl, _, _, [.id 0, .id 1], ⟨rfl, rfl⟩, by (exact ⟨by kernel_rfl, by ((repeat refine okTms_cons (by (first | exact lw_any | exact lw_int | exact lw_bool | exact lw_ptr rfl | exact lw_slo rfl | exact lw_nilp | exact lw_nils | exact lw_str | exact lw_slo_nils | exact lw_slo_sle | exact lw_sl rfl | exact lw_unb | exact lw_gptr | exact lw_noid rfl | exact lw_cap rfl (Nat.le_refl _) | exact lw_cap rfl (by omega) | assumption | exact lw_tup (by ((repeat refine lws_cons (by (first | exact lw_any | exact lw_int | exact lw_bool | exact lw_ptr rfl | exact lw_slo rfl | exact lw_nilp | exact lw_nils | exact lw_str | exact lw_slo_nils | exact lw_slo_sle | exact lw_sl rfl | exact lw_unb | exact lw_gptr | exact lw_noid rfl | exact lw_cap rfl (Nat.le_refl _) | exact lw_cap rfl (by omega) | assumption)) ?_); exact lws_nil)))) ?_); exact okTms_nil), by ((repeat refine okBlks_cons (by (first | exact lb_dead | exact lb_same (by (first | assumption | exact noIds_tab (fun _ => rfl) _ _ | exact noIds_encL (fun _ => rfl) _ | rfl)) | exact lb_ro (by (first | assumption | exact noIds_tab (fun _ => rfl) _ _ | exact noIds_encL (fun _ => rfl) _ | rfl)) | exact lb_none | exact lb_cells (by ((repeat refine lws_cons (by (first | exact lw_any | exact lw_int | exact lw_bool | exact lw_ptr rfl | exact lw_slo rfl | exact lw_nilp | exact lw_nils | exact lw_str | exact lw_slo_nils | exact lw_slo_sle | exact lw_sl rfl | exact lw_unb | exact lw_gptr | exact lw_noid rfl | exact lw_cap rfl (Nat.le_refl _) | exact lw_cap rfl (by omega) | assumption | exact lw_tup (by ((repeat refine lws_cons (by (first | exact lw_any | exact lw_int | exact lw_bool | exact lw_ptr rfl | exact lw_slo rfl | exact lw_nilp | exact lw_nils | exact lw_str | exact lw_slo_nils | exact lw_slo_sle | exact lw_sl rfl | exact lw_unb | exact lw_gptr | exact lw_noid rfl | exact lw_cap rfl (Nat.le_refl _) | exact lw_cap rfl (by omega) | assumption)) ?_); exact lws_nil)))) ?_); exact lws_nil)) (by simp) | exact lb_iter | exact lb_cap (Nat.le_refl _) (Nat.le_refl _) rfl rfl | exact lb_capn (by assumption) (by (first | assumption | exact noIds_tab (fun _ => rfl) _ _ | exact noIds_encL (fun _ => rfl) _ | rfl)) | assumption)) ?_); exact okBlks_nil)⟩)⟩
  | true =>
    have hk := p6 rfl
    have E0 : eStep me xs.length (encL cellQ xs) ⟨true, k, sm, sp, 0, -1, 0⟩ w v h o 0 = if h = true then (if me < o then (⟨true, k, sm, sp, 0, -1, 0⟩ : ESt) else if 0 < sp then ⟨true, k, sm, sp - 1, 0, -1, 0⟩ else ⟨true, k, sm, sp, 5, o, 0⟩) else if v ≠ xs[k].2 then ⟨true, k, sm, sp, 5, -1, 0⟩ else ⟨true, k + 1, sm, sp, if k + 1 = xs.length then 2 else 0, -1, 0⟩ := by
      rw [← eVer_enc hk]; simp [eStep]
    have a1 : xar .add .i64 (k : Int) 1 = ((k + 1 : Nat) : Int) := by rw [add_i64 (by omega) (by omega)]; omega
    rw [E0]
    clear E0
    simp only [atI, cond_true]
    cases h with
    | true =>
      rw [if_pos rfl]
      by_cases q5 : me < o
      · rw [if_pos q5]
        (repeat (first | (with_reducible refine way_t (by (first | with_reducible rfl | exact t_le (by omega) | exact t_eq (by omega) | exact t_nn (by omega) | exact t_lss (by omega) | exact t_leq (by omega) | exact t_gtr (by omega) | exact t_geq (by omega) | exact t_eql (by omega) | exact t_neq (by omega) | exact t_z (by omega) | exact wd_not_f | assumption)) ?_) | (with_reducible refine way_f (by (first | with_reducible rfl | exact f_le (by omega) | exact f_eq (by omega) | exact f_nn (by omega) | exact f_lss (by omega) | exact f_leq (by omega) | exact f_gtr (by omega) | exact f_geq (by omega) | exact f_eql (by omega) | exact f_neq (by omega) | exact f_z (by omega) | exact wd_not_t | assumption)) ?_)))
        exact ⟨rfl, _, _, [.id 0, .id 1], ⟨rfl, rfl⟩, by (exact ⟨by kernel_rfl, by ((repeat refine okTms_cons (by (first | exact lw_any | exact lw_int | exact lw_bool | exact lw_ptr rfl | exact lw_slo rfl | exact lw_nilp | exact lw_nils | exact lw_str | exact lw_slo_nils | exact lw_slo_sle | exact lw_sl rfl | exact lw_unb | exact lw_gptr | exact lw_noid rfl | exact lw_cap rfl (Nat.le_refl _) | exact lw_cap rfl (by omega) | assumption | exact lw_tup (by ((repeat refine lws_cons (by (first | exact lw_any | exact lw_int | exact lw_bool | exact lw_ptr rfl | exact lw_slo rfl | exact lw_nilp | exact lw_nils | exact lw_str | exact lw_slo_nils | exact lw_slo_sle | exact lw_sl rfl | exact lw_unb | exact lw_gptr | exact lw_noid rfl | exact lw_cap rfl (Nat.le_refl _) | exact lw_cap rfl (by omega) | assumption)) ?_); exact lws_nil)))) ?_); exact okTms_nil), by ((repeat refine okBlks_cons (by (first | exact lb_dead | exact lb_same (by (first | assumption | exact noIds_tab (fun _ => rfl) _ _ | exact noIds_encL (fun _ => rfl) _ | rfl)) | exact lb_ro (by (first | assumption | exact noIds_tab (fun _ => rfl) _ _ | exact noIds_encL (fun _ => rfl) _ | rfl)) | exact lb_none | exact lb_cells (by ((repeat refine lws_cons (by (first | exact lw_any | exact lw_int | exact lw_bool | exact lw_ptr rfl | exact lw_slo rfl | exact lw_nilp | exact lw_nils | exact lw_str | exact lw_slo_nils | exact lw_slo_sle | exact lw_sl rfl | exact lw_unb | exact lw_gptr | exact lw_noid rfl | exact lw_cap rfl (Nat.le_refl _) | exact lw_cap rfl (by omega) | assumption | exact lw_tup (by ((repeat refine lws_cons (by (first | exact lw_any | exact lw_int | exact lw_bool | exact lw_ptr rfl | exact lw_slo rfl | exact lw_nilp | exact lw_nils | exact lw_str | exact lw_slo_nils | exact lw_slo_sle | exact lw_sl rfl | exact lw_unb | exact lw_gptr | exact lw_noid rfl | exact lw_cap rfl (Nat.le_refl _) | exact lw_cap rfl (by omega) | assumption)) ?_); exact lws_nil)))) ?_); exact lws_nil)) (by simp) | exact lb_iter | exact lb_cap (Nat.le_refl _) (Nat.le_refl _) rfl rfl | exact lb_capn (by assumption) (by (first | assumption | exact noIds_tab (fun _ => rfl) _ _ | exact noIds_encL (fun _ => rfl) _ | rfl)) | assumption)) ?_); exact okBlks_nil)⟩)⟩
      rw [if_neg q5]
      by_cases q6 : 0 < sp
      · rw [if_pos q6]
        have e1 : xar .sub .i64 sp 1 = sp - 1 := sub_i64 (by omega) (by omega)
        rw [e1]
        (repeat (first | (with_reducible refine way_t (by (first | with_reducible rfl | exact t_le (by omega) | exact t_eq (by omega) | exact t_nn (by omega) | exact t_lss (by omega) | exact t_leq (by omega) | exact t_gtr (by omega) | exact t_geq (by omega) | exact t_eql (by omega) | exact t_neq (by omega) | exact t_z (by omega) | exact wd_not_f | assumption)) ?_) | (with_reducible refine way_f (by (first | with_reducible rfl | exact f_le (by omega) | exact f_eq (by omega) | exact f_nn (by omega) | exact f_lss (by omega) | exact f_leq (by omega) | exact f_gtr (by omega) | exact f_geq (by omega) | exact f_eql (by omega) | exact f_neq (by omega) | exact f_z (by omega) | exact wd_not_t | assumption)) ?_)))
        exact ⟨rfl, _, _, [.id 0, .id 1], ⟨rfl, rfl⟩, by (exact ⟨by kernel_rfl, by ((repeat refine okTms_cons (by (first | exact lw_any | exact lw_int | exact lw_bool | exact lw_ptr rfl | exact lw_slo rfl | exact lw_nilp | exact lw_nils | exact lw_str | exact lw_slo_nils | exact lw_slo_sle | exact lw_sl rfl | exact lw_unb | exact lw_gptr | exact lw_noid rfl | exact lw_cap rfl (Nat.le_refl _) | exact lw_cap rfl (by omega) | assumption | exact lw_tup (by ((repeat refine lws_cons (by (first | exact lw_any | exact lw_int | exact lw_bool | exact lw_ptr rfl | exact lw_slo rfl | exact lw_nilp | exact lw_nils | exact lw_str | exact lw_slo_nils | exact lw_slo_sle | exact lw_sl rfl | exact lw_unb | exact lw_gptr | exact lw_noid rfl | exact lw_cap rfl (Nat.le_refl _) | exact lw_cap rfl (by omega) | assumption)) ?_); exact lws_nil)))) ?_); exact okTms_nil), by ((repeat refine okBlks_cons (by (first | exact lb_dead | exact lb_same (by (first | assumption | exact noIds_tab (fun _ => rfl) _ _ | exact noIds_encL (fun _ => rfl) _ | rfl)) | exact lb_ro (by (first | assumption | exact noIds_tab (fun _ => rfl) _ _ | exact noIds_encL (fun _ => rfl) _ | rfl)) | exact lb_none | exact lb_cells (by ((repeat refine lws_cons (by (first | exact lw_any | exact lw_int | exact lw_bool | exact lw_ptr rfl | exact lw_slo rfl | exact lw_nilp | exact lw_nils | exact lw_str | exact lw_slo_nils | exact lw_slo_sle | exact lw_sl rfl | exact lw_unb | exact lw_gptr | exact lw_noid rfl | exact lw_cap rfl (Nat.le_refl _) | exact lw_cap rfl (by omega) | assumption | exact lw_tup (by ((repeat refine lws_cons (by (first | exact lw_any | exact lw_int | exact lw_bool | exact lw_ptr rfl | exact lw_slo rfl | exact lw_nilp | exact lw_nils | exact lw_str | exact lw_slo_nils | exact lw_slo_sle | exact lw_sl rfl | exact lw_unb | exact lw_gptr | exact lw_noid rfl | exact lw_cap rfl (Nat.le_refl _) | exact lw_cap rfl (by omega) | assumption)) ?_); exact lws_nil)))) ?_); exact lws_nil)) (by simp) | exact lb_iter | exact lb_cap (Nat.le_refl _) (Nat.le_refl _) rfl rfl | exact lb_capn (by assumption) (by (first | assumption | exact noIds_tab (fun _ => rfl) _ _ | exact noIds_encL (fun _ => rfl) _ | rfl)) | assumption)) ?_); exact okBlks_nil)⟩)⟩
      · rw [if_neg q6]
        (repeat (first | (with_reducible refine way_t (by (first | with_reducible rfl | exact t_le (by omega) | exact t_eq (by omega) | exact t_nn (by omega) | exact t_lss (by omega) | exact t_leq (by omega) | exact t_gtr (by omega) | exact t_geq (by omega) | exact t_eql (by omega) | exact t_neq (by omega) | exact t_z (by omega) | exact wd_not_f | assumption)) ?_) | (with_reducible refine way_f (by (first | with_reducible rfl | exact f_le (by omega) | exact f_eq (by omega) | exact f_nn (by omega) | exact f_lss (by omega) | exact f_leq (by omega) | exact f_gtr (by omega) | exact f_geq (by omega) | exact f_eql (by omega) | exact f_neq (by omega) | exact f_z (by omega) | exact wd_not_t | assumption)) ?_)))
        exact ⟨rfl, _, _, [.id 0, .id 1], ⟨rfl, rfl⟩, by (exact ⟨by kernel_rfl, by ((repeat refine okTms_cons (by (first | exact lw_any | exact lw_int | exact lw_bool | exact lw_ptr rfl | exact lw_slo rfl | exact lw_nilp | exact lw_nils | exact lw_str | exact lw_slo_nils | exact lw_slo_sle | exact lw_sl rfl | exact lw_unb | exact lw_gptr | exact lw_noid rfl | exact lw_cap rfl (Nat.le_refl _) | exact lw_cap rfl (by omega) | assumption | exact lw_tup (by ((repeat refine lws_cons (by (first | exact lw_any | exact lw_int | exact lw_bool | exact lw_ptr rfl | exact lw_slo rfl | exact lw_nilp | exact lw_nils | exact lw_str | exact lw_slo_nils | exact lw_slo_sle | exact lw_sl rfl | exact lw_unb | exact lw_gptr | exact lw_noid rfl | exact lw_cap rfl (Nat.le_refl _) | exact lw_cap rfl (by omega) | assumption)) ?_); exact lws_nil)))) ?_); exact okTms_nil), by ((repeat refine okBlks_cons (by (first | exact lb_dead | exact lb_same (by (first | assumption | exact noIds_tab (fun _ => rfl) _ _ | exact noIds_encL (fun _ => rfl) _ | rfl)) | exact lb_ro (by (first | assumption | exact noIds_tab (fun _ => rfl) _ _ | exact noIds_encL (fun _ => rfl) _ | rfl)) | exact lb_none | exact lb_cells (by ((repeat refine lws_cons (by (first | exact lw_any | exact lw_int | exact lw_bool | exact lw_ptr rfl | exact lw_slo rfl | exact lw_nilp | exact lw_nils | exact lw_str | exact lw_slo_nils | exact lw_slo_sle | exact lw_sl rfl | exact lw_unb | exact lw_gptr | exact lw_noid rfl | exact lw_cap rfl (Nat.le_refl _) | exact lw_cap rfl (by omega) | assumption | exact lw_tup (by ((repeat refine lws_cons (by (first | exact lw_any | exact lw_int | exact lw_bool | exact lw_ptr rfl | exact lw_slo rfl | exact lw_nilp | exact lw_nils | exact lw_str | exact lw_slo_nils | exact lw_slo_sle | exact lw_sl rfl | exact lw_unb | exact lw_gptr | exact lw_noid rfl | exact lw_cap rfl (Nat.le_refl _) | exact lw_cap rfl (by omega) | assumption)) ?_); exact lws_nil)))) ?_); exact lws_nil)) (by simp) | exact lb_iter | exact lb_cap (Nat.le_refl _) (Nat.le_refl _) rfl rfl | exact lb_capn (by assumption) (by (first | assumption | exact noIds_tab (fun _ => rfl) _ _ | exact noIds_encL (fun _ => rfl) _ | rfl)) | assumption)) ?_); exact okBlks_nil)⟩)⟩
    | false =>
      rw [if_neg (by simp)]
      simp only [wd_nat, wd_asV, wd_isV, wd_ix, wd_add, wd_mul, wd_ln, Nat.zero_add, Nat.mul_one, wd_isI, wd_asI, wd_isB, wd_asB, wd_nn, cI_tlen, cB_tlen, cII_tlen, decide_true, cond_true, wd_not_t, wd_not_f, wd_and_t, wd_and_f, wd_sub, Nat.zero_mul, Nat.add_zero, q_1 hk, ln, a1]
      by_cases q7 : v = xs[k].2
      · rw [if_neg (by simpa using q7)]
        by_cases q8 : k + 1 = xs.length
        · rw [if_pos q8]
          (repeat (first | (with_reducible refine way_t (by (first | with_reducible rfl | exact t_le (by omega) | exact t_eq (by omega) | exact t_nn (by omega) | exact t_lss (by omega) | exact t_leq (by omega) | exact t_gtr (by omega) | exact t_geq (by omega) | exact t_eql (by omega) | exact t_neq (by omega) | exact t_z (by omega) | exact wd_not_f | assumption)) ?_) | (with_reducible refine way_f (by (first | with_reducible rfl | exact f_le (by omega) | exact f_eq (by omega) | exact f_nn (by omega) | exact f_lss (by omega) | exact f_leq (by omega) | exact f_gtr (by omega) | exact f_geq (by omega) | exact f_eql (by omega) | exact f_neq (by omega) | exact f_z (by omega) | exact wd_not_t | assumption)) ?_)))
          exact ⟨rfl, _, _, [.id 0, .id 1], ⟨rfl, rfl⟩, by (exact ⟨by kernel_rfl, by ((repeat refine okTms_cons (by (first | exact lw_any | exact lw_int | exact lw_bool | exact lw_ptr rfl | exact lw_slo rfl | exact lw_nilp | exact lw_nils | exact lw_str | exact lw_slo_nils | exact lw_slo_sle | exact lw_sl rfl | exact lw_unb | exact lw_gptr | exact lw_noid rfl | exact lw_cap rfl (Nat.le_refl _) | exact lw_cap rfl (by omega) | assumption | exact lw_tup (by ((repeat refine lws_cons (by (first | exact lw_any | exact lw_int | exact lw_bool | exact lw_ptr rfl | exact lw_slo rfl | exact lw_nilp | exact lw_nils | exact lw_str | exact lw_slo_nils | exact lw_slo_sle | exact lw_sl rfl | exact lw_unb | exact lw_gptr | exact lw_noid rfl | exact lw_cap rfl (Nat.le_refl _) | exact lw_cap rfl (by omega) | assumption)) ?_); exact lws_nil)))) ?_); exact okTms_nil), by ((repeat refine okBlks_cons (by (first | exact lb_dead | exact lb_same (by (first | assumption | exact noIds_tab (fun _ => rfl) _ _ | exact noIds_encL (fun _ => rfl) _ | rfl)) | exact lb_ro (by (first | assumption | exact noIds_tab (fun _ => rfl) _ _ | exact noIds_encL (fun _ => rfl) _ | rfl)) | exact lb_none | exact lb_cells (by ((repeat refine lws_cons (by (first | exact lw_any | exact lw_int | exact lw_bool | exact lw_ptr rfl | exact lw_slo rfl | exact lw_nilp | exact lw_nils | exact lw_str | exact lw_slo_nils | exact lw_slo_sle | exact lw_sl rfl | exact lw_unb | exact lw_gptr | exact lw_noid rfl | exact lw_cap rfl (Nat.le_refl _) | exact lw_cap rfl (by omega) | assumption | exact lw_tup (by ((repeat refine lws_cons (by (first | exact lw_any | exact lw_int | exact lw_bool | exact lw_ptr rfl | exact lw_slo rfl | exact lw_nilp | exact lw_nils | exact lw_str | exact lw_slo_nils | exact lw_slo_sle | exact lw_sl rfl | exact lw_unb | exact lw_gptr | exact lw_noid rfl | exact lw_cap rfl (Nat.le_refl _) | exact lw_cap rfl (by omega) | assumption)) ?_); exact lws_nil)))) ?_); exact lws_nil)) (by simp) | exact lb_iter | exact lb_cap (Nat.le_refl _) (Nat.le_refl _) rfl rfl | exact lb_capn (by assumption) (by (first | assumption | exact noIds_tab (fun _ => rfl) _ _ | exact noIds_encL (fun _ => rfl) _ | rfl)) | assumption)) ?_); exact okBlks_nil)⟩)⟩
        · rw [if_neg q8]
          (repeat (first | (with_reducible refine way_t (by (first | with_reducible rfl | exact t_le (by omega) | exact t_eq (by omega) | exact t_nn (by omega) | exact t_lss (by omega) | exact t_leq (by omega) | exact t_gtr (by omega) | exact t_geq (by omega) | exact t_eql (by omega) | exact t_neq (by omega) | exact t_z (by omega) | exact wd_not_f | assumption)) ?_) | (with_reducible refine way_f (by (first | with_reducible rfl | exact f_le (by omega) | exact f_eq (by omega) | exact f_nn (by omega) | exact f_lss (by omega) | exact f_leq (by omega) | exact f_gtr (by omega) | exact f_geq (by omega) | exact f_eql (by omega) | exact f_neq (by omega) | exact f_z (by omega) | exact wd_not_t | assumption)) ?_)))
          exact ⟨rfl, _, _, [.id 0, .id 1], ⟨rfl, rfl⟩, by (exact ⟨by kernel_rfl, by ((repeat refine okTms_cons (by (first | exact lw_any | exact lw_int | exact lw_bool | exact lw_ptr rfl | exact lw_slo rfl | exact lw_nilp | exact lw_nils | exact lw_str | exact lw_slo_nils | exact lw_slo_sle | exact lw_sl rfl | exact lw_unb | exact lw_gptr | exact lw_noid rfl | exact lw_cap rfl (Nat.le_refl _) | exact lw_cap rfl (by omega) | assumption | exact lw_tup (by ((repeat refine lws_cons (by (first | exact lw_any | exact lw_int | exact lw_bool | exact lw_ptr rfl | exact lw_slo rfl | exact lw_nilp | exact lw_nils | exact lw_str | exact lw_slo_nils | exact lw_slo_sle | exact lw_sl rfl | exact lw_unb | exact lw_gptr | exact lw_noid rfl | exact lw_cap rfl (Nat.le_refl _) | exact lw_cap rfl (by omega) | assumption)) ?_); exact lws_nil)))) ?_); exact okTms_nil), by ((repeat refine okBlks_cons (by (first | exact lb_dead | exact lb_same (by (first | assumption | exact noIds_tab (fun _ => rfl) _ _ | exact noIds_encL (fun _ => rfl) _ | rfl)) | exact lb_ro (by (first | assumption | exact noIds_tab (fun _ => rfl) _ _ | exact noIds_encL (fun _ => rfl) _ | rfl)) | exact lb_none | exact lb_cells (by ((repeat refine lws_cons (by (first | exact lw_any | exact lw_int | exact lw_bool | exact lw_ptr rfl | exact lw_slo rfl | exact lw_nilp | exact lw_nils | exact lw_str | exact lw_slo_nils | exact lw_slo_sle | exact lw_sl rfl | exact lw_unb | exact lw_gptr | exact lw_noid rfl | exact lw_cap rfl (Nat.le_refl _) | exact lw_cap rfl (by omega) | assumption | exact lw_tup (by ((repeat refine lws_cons (by (first | exact lw_any | exact lw_int | exact lw_bool | exact lw_ptr rfl | exact lw_slo rfl | exact lw_nilp | exact lw_nils | exact lw_str | exact lw_slo_nils | exact lw_slo_sle | exact lw_sl rfl | exact lw_unb | exact lw_gptr | exact lw_noid rfl | exact lw_cap rfl (Nat.le_refl _) | exact lw_cap rfl (by omega) | assumption)) ?_); exact lws_nil)))) ?_); exact lws_nil)) (by simp) | exact lb_iter | exact lb_cap (Nat.le_refl _) (Nat.le_refl _) rfl rfl | exact lb_capn (by assumption) (by (first | assumption | exact noIds_tab (fun _ => rfl) _ _ | exact noIds_encL (fun _ => rfl) _ | rfl)) | assumption)) ?_); exact okBlks_nil)⟩)⟩
      · rw [if_pos (by simpa using q7)]
        (repeat (first | (with_reducible refine way_t (by (first | with_reducible rfl | exact t_le (by omega) | exact t_eq (by omega) | exact t_nn (by omega) | exact t_lss (by omega) | exact t_leq (by omega) | exact t_gtr (by omega) | exact t_geq (by omega) | exact t_eql (by omega) | exact t_neq (by omega) | exact t_z (by omega) | exact wd_not_f | assumption)) ?_) | (with_reducible refine way_f (by (first | with_reducible rfl | exact f_le (by omega) | exact f_eq (by omega) | exact f_nn (by omega) | exact f_lss (by omega) | exact f_leq (by omega) | exact f_gtr (by omega) | exact f_geq (by omega) | exact f_eql (by omega) | exact f_neq (by omega) | exact f_z (by omega) | exact wd_not_t | assumption)) ?_)))
        exact ⟨rfl, _, _, [.id 0, .id 1], ⟨rfl, rfl⟩, by (exact ⟨by kernel_rfl, by ((repeat refine okTms_cons (by (first | exact lw_any | exact lw_int | exact lw_bool | exact lw_ptr rfl | exact lw_slo rfl | exact lw_nilp | exact lw_nils | exact lw_str | exact lw_slo_nils | exact lw_slo_sle | exact lw_sl rfl | exact lw_unb | exact lw_gptr | exact lw_noid rfl | exact lw_cap rfl (Nat.le_refl _) | exact lw_cap rfl (by omega) | assumption | exact lw_tup (by ((repeat refine lws_cons (by (first | exact lw_any | exact lw_int | exact lw_bool | exact lw_ptr rfl | exact lw_slo rfl | exact lw_nilp | exact lw_nils | exact lw_str | exact lw_slo_nils | exact lw_slo_sle | exact lw_sl rfl | exact lw_unb | exact lw_gptr | exact lw_noid rfl | exact lw_cap rfl (Nat.le_refl _) | exact lw_cap rfl (by omega) | assumption)) ?_); exact lws_nil)))) ?_); exact okTms_nil), by ((repeat refine okBlks_cons (by (first | exact lb_dead | exact lb_same (by (first | assumption | exact noIds_tab (fun _ => rfl) _ _ | exact noIds_encL (fun _ => rfl) _ | rfl)) | exact lb_ro (by (first | assumption | exact noIds_tab (fun _ => rfl) _ _ | exact noIds_encL (fun _ => rfl) _ | rfl)) | exact lb_none | exact lb_cells (by ((repeat refine lws_cons (by (first | exact lw_any | exact lw_int | exact lw_bool | exact lw_ptr rfl | exact lw_slo rfl | exact lw_nilp | exact lw_nils | exact lw_str | exact lw_slo_nils | exact lw_slo_sle | exact lw_sl rfl | exact lw_unb | exact lw_gptr | exact lw_noid rfl | exact lw_cap rfl (Nat.le_refl _) | exact lw_cap rfl (by omega) | assumption | exact lw_tup (by ((repeat refine lws_cons (by (first | exact lw_any | exact lw_int | exact lw_bool | exact lw_ptr rfl | exact lw_slo rfl | exact lw_nilp | exact lw_nils | exact lw_str | exact lw_slo_nils | exact lw_slo_sle | exact lw_sl rfl | exact lw_unb | exact lw_gptr | exact lw_noid rfl | exact lw_cap rfl (Nat.le_refl _) | exact lw_cap rfl (by omega) | assumption)) ?_); exact lws_nil)))) ?_); exact lws_nil)) (by simp) | exact lb_iter | exact lb_cap (Nat.le_refl _) (Nat.le_refl _) rfl rfl | exact lb_capn (by assumption) (by (first | assumption | exact noIds_tab (fun _ => rfl) _ _ | exact noIds_encL (fun _ => rfl) _ | rfl)) | assumption)) ?_); exact okBlks_nil)⟩)⟩
end
end Go.Lev
