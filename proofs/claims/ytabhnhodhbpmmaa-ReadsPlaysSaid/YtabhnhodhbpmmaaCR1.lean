/- chapter 7: a read set: New, Get, Add of the code; trees and what they do -/
import Derived.Test.YtabhnhodhbpmmaaLc
import Derived.Test.YtabhnhodhbpmmaaChecked
import Derived.KernelRfl

namespace Go.Lev
open Go.RowKit
set_option linter.unusedVariables false
set_option linter.unusedSimpArgs false
set_option maxRecDepth 100000
noncomputable section
/-! rows of pairs (int, uint64) -/
abbrev cell : Int × Int → List LV := cII .i64 .u64
theorem cell_len (x : Int × Int) : (cell x).length = 2 := rfl
theorem cell_0 {xs : List (Int × Int)} {i : Nat} (h : i < xs.length) : nthD (encL cell xs) (i * 2) = .int .i64 xs[i].1 := encL_nth cell_len (j := 0) h (by omega)
theorem cell_1 {xs : List (Int × Int)} {i : Nat} (h : i < xs.length) : nthD (encL cell xs) (i * 2 + 1) = .int .u64 xs[i].2 := encL_nth cell_len (j := 1) h (by omega)
theorem cell_n (xs : List (Int × Int)) : (encL cell xs).length = xs.length * 2 := encL_length cell_len xs
theorem cell_push (xs : List (Int × Int)) (a z : Int) : xcat (xcut (encL cell xs) 0 (xs.length * 2)) [.int .i64 a, .int .u64 z] = encL cell (xs ++ [(a, z)]) := by
  rw [xcut_all (by rw [cell_n]; omega), encL_append]; rfl
theorem noids_c (xs : List (Int × Int)) : noIds (encL cell xs) = true := noIds_encL (fun _ => rfl) xs
theorem xnoid_c (xs : List (Int × Int)) : xnoid (encL cell xs) = true := xnoid_encL (fun _ => rfl) xs
def decC : List LV → List (Int × Int)
  | .int _ a :: .int _ b :: r => (a, b) :: decC r
  | _ => []
theorem decC_enc : ∀ xs, decC (encL cell xs) = xs
  | [] => rfl
  | x :: r => by simp [encL, cell, cII, decC, decC_enc r]
def okC (cs : List LV) (n : Nat) : Bool := @decide (cs = encL cell (decC cs) ∧ (decC cs).length = n ∧ n ≤ 9223372036854775807) (Classical.propDecidable _)

theorem okC_iff {cs : List LV} {n : Nat} : okC cs n = true ↔ ∃ xs, cs = encL cell xs ∧ xs.length = n ∧ n ≤ 9223372036854775807 := by
  simp only [okC, decide_eq_true_eq]
  exact ⟨fun h => ⟨_, h⟩, fun ⟨xs, h1, h2⟩ => by subst h1; rw [decC_enc]; exact ⟨rfl, h2⟩⟩
theorem okC_enc {xs : List (Int × Int)} (h : xs.length ≤ 9223372036854775807) : okC (encL cell xs) xs.length = true := okC_iff.2 ⟨_, rfl, rfl, h⟩

/-! rows of locks -/
abbrev Lk := Int × Bool × Int
abbrev cL : Lk → List LV := fun x => [.int .u64 x.1, .bool x.2.1, .int .i64 x.2.2]
theorem cL_len (x : Lk) : (cL x).length = 3 := rfl
theorem lk_0 {xs : List Lk} {i : Nat} (h : i < xs.length) : nthD (encL cL xs) (i * 3) = .int .u64 xs[i].1 := encL_nth cL_len (j := 0) h (by omega)
theorem lk_1 {xs : List Lk} {i : Nat} (h : i < xs.length) : nthD (encL cL xs) (i * 3 + 1) = .bool xs[i].2.1 := encL_nth cL_len (j := 1) h (by omega)
theorem lk_2 {xs : List Lk} {i : Nat} (h : i < xs.length) : nthD (encL cL xs) (i * 3 + 2) = .int .i64 xs[i].2.2 := encL_nth cL_len (j := 2) h (by omega)
theorem lk_n (xs : List Lk) : (encL cL xs).length = xs.length * 3 := encL_length cL_len xs
theorem lk_set {xs : List Lk} {i : Nat} (h : i < xs.length) (y : Lk) : xlay (encL cL xs) (i * 3) [.int .u64 y.1, .bool y.2.1, .int .i64 y.2.2] = encL cL (xs.set i y) := encL_set cL_len xs i y h
theorem noids_l (xs : List Lk) : noIds (encL cL xs) = true := noIds_encL (fun _ => rfl) xs
def decL : List LV → List Lk
  | .int _ a :: .bool b :: .int _ c :: r => (a, b, c) :: decL r
  | _ => []
theorem decL_enc : ∀ xs, decL (encL cL xs) = xs
  | [] => rfl
  | x :: r => by simp [encL, cL, decL, decL_enc r]
def okL (cs : List LV) (n : Nat) : Bool := @decide (cs = encL cL (decL cs) ∧ (decL cs).length = n ∧ n ≤ 1000000) (Classical.propDecidable _)

theorem okL_iff {cs : List LV} {n : Nat} : okL cs n = true ↔ ∃ xs, cs = encL cL xs ∧ xs.length = n ∧ n ≤ 1000000 := by
  simp only [okL, decide_eq_true_eq]
  exact ⟨fun h => ⟨_, h⟩, fun ⟨xs, h1, h2⟩ => by subst h1; rw [decL_enc]; exact ⟨rfl, h2⟩⟩
theorem okL_enc {xs : List Lk} (h : xs.length ≤ 1000000) : okL (encL cL xs) xs.length = true := okL_iff.2 ⟨_, rfl, rfl, h⟩
/-! Within -/
theorem within_x (a lo hi : Int) (K : Fk) : (xfun Go.Proofs.Try.prog (fun _ => none) 40 20 [.int .i64 a, .int .i64 lo, .int .i64 hi] (mkS []) (vF K)) = (
 bif xcm .neq (xar .add .i64 (xar .sub .i64 hi lo) 1) 0 then bif xcm .lss (xar .rem .i64 a (xar .add .i64 (xar .sub .i64 hi lo) 1)) 0 then (
 K (.int .i64 (xar .add .i64 lo (xar .add .i64 (xar .sub .i64 (xar .add .i64 (xar .rem .i64 a (xar .add .i64 (xar .sub .i64 hi lo) 1)) hi) lo) 1))) [] [])
 else (
 K (.int .i64 (xar .add .i64 lo (xar .rem .i64 a (xar .add .i64 (xar .sub .i64 hi lo) 1)))) [] []) else False) := by kernel_rfl
def wthV (a lo hi : Int) : Int := lo + a % (hi - lo + 1)

def withinG : Gc := fun args s => match args, s.g with
  | [.int .i64 a, .int .i64 lo, .int .i64 hi], [] => some ([xcm .leq lo hi, xcm .leq (-1000000) lo, xcm .leq hi 1000000], .int .i64 (wthV a lo hi), s)
  | _, _ => none
theorem tmod_pos (a m : Int) (hm : 0 < m) : -m < a.tmod m ∧ a.tmod m < m ∧ (a.tmod m = a % m ∨ (a.tmod m < 0 ∧ a.tmod m + m = a % m)) := by
  have hb := Int.emod_nonneg a (b := m) (by omega)
  have hc := Int.emod_lt_of_pos a hm
  rcases Int.lt_or_le a 0 with h | h
  · have e : a.tmod m = -((-a).tmod m) := by have := Int.neg_tmod (-a) m; rw [Int.neg_neg] at this; exact this
    have h6 : 0 ≤ (-a).tmod m := Int.tmod_nonneg _ (by omega)
    have h7 : (-a).tmod m < m := Int.tmod_lt_of_pos _ hm
    refine ⟨by omega, by omega, ?_⟩
    have h8 : m ∣ a - a.tmod m := Int.dvd_self_sub_tmod
    have h9 : m ∣ a - a % m := Int.dvd_self_sub_emod
    obtain ⟨u, hu⟩ := h8
    obtain ⟨v, hv⟩ := h9
    have hd : a % m - a.tmod m = m * (u - v) := by rw [Int.mul_sub]; omega
    by_cases h0 : u - v ≤ -1
    · have : m * (u - v) ≤ m * (-1) := Int.mul_le_mul_of_nonneg_left h0 (by omega)
      omega
    · by_cases h1 : u - v = 0
      · rw [h1] at hd; simp at hd; exact .inl (by omega)
      · by_cases h2 : u - v = 1
        · rw [h2] at hd; simp at hd; exact .inr ⟨by omega, by omega⟩
        · have : m * 2 ≤ m * (u - v) := Int.mul_le_mul_of_nonneg_left (by omega) (by omega)
          omega
  · have h6 := Int.tmod_nonneg m h
    exact ⟨by omega, Int.tmod_lt_of_pos _ hm, .inl (Int.tmod_eq_emod_of_nonneg h)⟩
theorem within_ok (a lo hi : Int) (h : lo ≤ hi) (h1 : -1000000 ≤ lo) (h2 : hi ≤ 1000000) : SFun Go.Proofs.Try.prog 20 [.int .i64 a, .int .i64 lo, .int .i64 hi] (mkS []) fun l s => l = .int .i64 (wthV a lo hi) ∧ s = mkS [] := by
  refine SFun.mono (SFun.vc (Q := fun l b => l = .int .i64 (wthV a lo hi) ∧ b = []) noCx_ok (n := 40) 0 rfl ?_) fun l s' ⟨b0, ⟨h1, h2⟩, h3⟩ => ⟨h1, by rw [h3, h2]⟩
  have hq := Int.emod_nonneg a (b := hi - lo + 1) (by omega)
  have e1 : xar .sub .i64 hi lo = hi - lo := sub_i64 (by omega) (by omega)
  have e2 : xar .add .i64 (hi - lo) 1 = hi - lo + 1 := add_i64 (by omega) (by omega)
  have e3 : xar .rem .i64 a (hi - lo + 1) = a.tmod (hi - lo + 1) := xar_rem _ _ _ (by omega)
  obtain ⟨t1, t2, t3⟩ := tmod_pos a (hi - lo + 1) (by omega)
  rw [within_x, e1, e2, e3]
  refine must (t_neq (by omega)) ?_
  rw [xcm_lss]
  refine ite_way (fun hn => ?_) (fun hn => ?_)
  · have e : xar .add .i64 lo (xar .add .i64 (xar .sub .i64 (xar .add .i64 (a.tmod (hi - lo + 1)) hi) lo) 1) = wthV a lo hi := by
      simp only [wthV]
      rw [add_i64 (x := a.tmod (hi - lo + 1)) (by omega) (by omega), sub_i64 (by omega) (by omega), add_i64 (x := a.tmod (hi - lo + 1) + hi - lo) (by omega) (by omega), add_i64 (by omega) (by omega)]
      omega
    rw [e]
    exact ⟨rfl, _, [], [], ⟨rfl, rfl⟩, by (refine ⟨by kernel_rfl, ?_, ?_⟩ <;> repeat first | exact okTms_nil | refine okTms_cons ?_ ?_ | exact okBlks_nil | refine okBlks_cons ?_ ?_ | exact lws_nil | refine lws_cons ?_ ?_ | exact lb_dead | exact zy1 | exact zy2 | exact lb_none | refine zy3 ?_ | exact zy4 | exact lw_any | exact lw_int | exact lw_bool | exact zy5 | exact zy6 | exact lw_nils | exact lw_slo_nils | exact zy7 | exact zy8 | exact zy9 | refine lw_tup ?_ | refine lw_agg ?_ | assumption)⟩
  · have e : xar .add .i64 lo (a.tmod (hi - lo + 1)) = wthV a lo hi := by
      simp only [wthV]
      rw [add_i64 (by omega) (by omega)]; omega
    rw [e]
    exact ⟨rfl, _, [], [], ⟨rfl, rfl⟩, by (refine ⟨by kernel_rfl, ?_, ?_⟩ <;> repeat first | exact okTms_nil | refine okTms_cons ?_ ?_ | exact okBlks_nil | refine okBlks_cons ?_ ?_ | exact lws_nil | refine lws_cons ?_ ?_ | exact lb_dead | exact zy1 | exact zy2 | exact lb_none | refine zy3 ?_ | exact zy4 | exact lw_any | exact lw_int | exact lw_bool | exact zy5 | exact zy6 | exact lw_nils | exact lw_slo_nils | exact zy7 | exact zy8 | exact zy9 | refine lw_tup ?_ | refine lw_agg ?_ | assumption)⟩
theorem withinG_ok : GOk Go.Proofs.Try.prog 20 withinG := by
  intro args s bs l s' hg hb hfr
  unfold withinG at hg
  split at hg
  · rename_i a lo hi hgl
    simp only [Option.some.injEq, Prod.mk.injEq] at hg
    obtain ⟨rfl, rfl, rfl⟩ := hg
    obtain ⟨k1, hb⟩ := allT_cons.1 hb
    obtain ⟨k2, hb⟩ := allT_cons.1 hb
    have k3 := (allT_cons.1 hb).1
    rw [xcm_leq, decide_eq_true_eq] at k1 k2 k3
    exact SFun.pure hfr hgl rfl rfl (within_ok a lo hi k1 k2 k3)
  · cases hg

/-! a copy of a row: slices.Clone[[]quietus/api.Seen,quietus/api.Seen] -/
theorem cloneSeen_s (n : Nat) (cs : List LV) (K : Pk) : (xsp Go.Proofs.Try.prog (fun _ => none) 40 8 ((sp Go.Proofs.Try.prog 19).drop 0) (tm0 [.slo 0 0 (n + 1) 0]) (mkS [.cells cs (some 2)]) (vK [0, 2, 4] K)) = (
 bif xle (xadd 0 (xmul (n + 1) 2)) (xln cs) then bif xle (xadd 0 (n + 1)) 1000000 then
 K .ret [.slo 0 0 (n + 1) 0, .slo 2 0 (xadd 0 (n + 1)) 0, .bool false] [some (.cells cs (some 2)), some (.cells [] none), some (.cells (xcat [] (xcut cs 0 (xmul (n + 1) 2))) (some 2))] [] else False else False) := by kernel_rfl
theorem cloneSeen_a (K : Pk) : (xsp Go.Proofs.Try.prog (fun _ => none) 40 8 (seg (sp Go.Proofs.Try.prog 19) 0 2) (tm0 [.slo 0 0 0 0]) (mkS [.cells [] (some 2)]) (vK [0, 2, 4] K)) = (
 K .normal [.slo 0 0 0 0, .nils, .unb] [some (.cells [] (some 2))] []) := by kernel_rfl
theorem cloneSeen_t (K : Pk) : (xcode Go.Proofs.Try.prog (fun _ => none) 40 8 (condT (nthC (sp Go.Proofs.Try.prog 19) 2)) (mkTm 8 [(0, .slo 0 0 0 0), (4, .unb)]) (mkS [.cells [] (some 2)]) (vK [0, 2, 4] K)) = (
 K .ret [.slo 0 0 0 0, .nils, .unb] [some (.cells [] (some 2))] []) := by kernel_rfl
theorem cloneSeen_f (K : Pk) : (xcode Go.Proofs.Try.prog (fun _ => none) 40 8 (condF (nthC (sp Go.Proofs.Try.prog 19) 2)) (mkTm 8 [(0, .slo 0 0 0 0), (4, .unb)]) (mkS [.cells [] (some 2)]) (vK [0, 2, 4] K)) = (
 K .normal [.slo 0 0 0 0, .any, .unb] [some (.cells [] (some 2))] []) := by kernel_rfl
theorem cloneSeen_z (K : Pk) : (xsp Go.Proofs.Try.prog (fun _ => none) 40 8 ((sp Go.Proofs.Try.prog 19).drop 3) (mkTm 8 [(0, .slo 0 0 0 0)]) (mkS [.cells [] (some 2)]) (vK [0, 2, 4] K)) = (
 K .ret [.slo 0 0 0 0, .sl 1 0 0 0, .any] [some (.cells [] (some 2)), some (.cells [] none)] []) := by kernel_rfl
theorem cloneSeen_ok : GOk Go.Proofs.Try.prog 19 (cloneG 2) := by
  refine cloneG_ok fun n cs hn hl hno => ?_
  refine SFun.mono (SFun.pieces (Q := fun l b => l = .slo 1 0 n 0 ∧ b = [.cells cs (some 2), .cells cs (some 2)]) 8 1 [0, 2, 4] [2] (by kernel_rfl) rfl rfl rfl ?_) fun l s' ⟨b0, ⟨h1, h2⟩, h3⟩ => ⟨h1, by rw [h3, h2]⟩
  cases n with
  | zero =>
    have : cs = [] := List.length_eq_zero_iff.1 (by omega)
    subst this
    refine SSp.to noCx_ok (n := 40) (g := []) 2 2 rfl (σ := Unit) (fun _ => [(0, .slo 0 0 0 0), (4, .unb)]) (fun _ => [.cells [] (some 2)]) (mkS_le (Nat.le_refl _)) (by kernel_rfl) ?_ fun _ => ?_
    · rw [cloneSeen_a]; exact ⟨rfl, (), [.id 0], by (refine ⟨by kernel_rfl, ?_, ?_⟩ <;> repeat first | exact okTms_nil | refine okTms_cons ?_ ?_ | exact okBlks_nil | refine okBlks_cons ?_ ?_ | exact lws_nil | refine lws_cons ?_ ?_ | exact lb_dead | exact zy1 | exact zy2 | exact lb_none | refine zy3 ?_ | exact zy4 | exact lw_any | exact lw_int | exact lw_bool | exact zy5 | exact zy6 | exact lw_nils | exact lw_slo_nils | exact zy7 | exact zy8 | exact zy9 | refine lw_tup ?_ | refine lw_agg ?_ | assumption)⟩
    refine SSp.code_to (g := []) 3 rfl (σ := Unit) (fun _ => [(0, .slo 0 0 0 0)]) (fun _ => [.cells [] (some 2)]) (by kernel_rfl) ?_ fun _ => ?_
    · refine SCode.unb noCx_ok (n := 40) (by kernel_rfl) (by kernel_rfl) (mkS_le (Nat.le_refl _)) ?_ ?_
      · rw [cloneSeen_t]; exact ⟨trivial, rfl, _, _, [.id 0, .none], ⟨rfl, rfl⟩, by (refine ⟨by kernel_rfl, ?_, ?_⟩ <;> repeat first | exact okTms_nil | refine okTms_cons ?_ ?_ | exact okBlks_nil | refine okBlks_cons ?_ ?_ | exact lws_nil | refine lws_cons ?_ ?_ | exact lb_dead | exact zy1 | exact zy2 | exact lb_none | refine zy3 ?_ | exact zy4 | exact lw_any | exact lw_int | exact lw_bool | exact zy5 | exact zy6 | exact lw_nils | exact lw_slo_nils | exact zy7 | exact zy8 | exact zy9 | refine lw_tup ?_ | refine lw_agg ?_ | assumption)⟩
      · rw [cloneSeen_f]; exact ⟨rfl, (), [.id 0], by (refine ⟨by kernel_rfl, ?_, ?_⟩ <;> repeat first | exact okTms_nil | refine okTms_cons ?_ ?_ | exact okBlks_nil | refine okBlks_cons ?_ ?_ | exact lws_nil | refine lws_cons ?_ ?_ | exact lb_dead | exact zy1 | exact zy2 | exact lb_none | refine zy3 ?_ | exact zy4 | exact lw_any | exact lw_int | exact lw_bool | exact zy5 | exact zy6 | exact lw_nils | exact lw_slo_nils | exact zy7 | exact zy8 | exact zy9 | refine lw_tup ?_ | refine lw_agg ?_ | assumption)⟩
    refine SSp.last noCx_ok (n := 40) (mkS_le (Nat.le_refl _)) ?_
    rw [cloneSeen_z]
    exact ⟨trivial, rfl, _, _, [.id 0, .cap 1 0 0], ⟨rfl, rfl⟩, by (refine ⟨by kernel_rfl, ?_, ?_⟩ <;> repeat first | exact okTms_nil | refine okTms_cons ?_ ?_ | exact okBlks_nil | refine okBlks_cons ?_ ?_ | exact lws_nil | refine lws_cons ?_ ?_ | exact lb_dead | exact zy1 | exact zy2 | exact lb_none | refine zy3 ?_ | exact zy4 | exact lw_any | exact lw_int | exact lw_bool | exact zy5 | exact zy6 | exact lw_nils | exact lw_slo_nils | exact zy7 | exact zy8 | exact zy9 | refine lw_tup ?_ | refine lw_agg ?_ | assumption)⟩
  | succ n =>
    refine SSp.last noCx_ok (n := 40) (mkS_le (Nat.le_refl _)) ?_
    rw [cloneSeen_s]
    have e : xcut cs 0 ((n + 1) * 2) = cs := xcut_all (by omega)
    (try simp only [Nat.mul_one] at e)
    simp only [wd_nat, wd_asV, wd_isV, wd_ix, wd_add, wd_mul, wd_ln, Nat.zero_add, Nat.mul_one, wd_isI, wd_asI, wd_isB, wd_asB, wd_nn, cI_tlen, cB_tlen, cII_tlen, decide_true, cond_true, wd_not_t, wd_not_f, wd_and_t, wd_and_f, e]
    (repeat (with_reducible refine must (by (first | with_reducible rfl | exact t_le (by omega) | exact t_eq (by omega) | exact t_nn (by omega) | exact t_lss (by omega) | exact t_leq (by omega) | exact t_gtr (by omega) | exact t_geq (by omega) | exact t_eql (by omega) | exact t_neq (by omega) | exact t_z (by omega) | exact wd_not_f | assumption)) ?_))
    exact ⟨trivial, rfl, _, _, [.id 0, .id 2], ⟨rfl, rfl⟩, by (refine ⟨by kernel_rfl, ?_, ?_⟩ <;> repeat first | exact okTms_nil | refine okTms_cons ?_ ?_ | exact okBlks_nil | refine okBlks_cons ?_ ?_ | exact lws_nil | refine lws_cons ?_ ?_ | exact lb_dead | exact zy1 | exact zy2 | exact lb_none | refine zy3 ?_ | exact zy4 | exact lw_any | exact lw_int | exact lw_bool | exact zy5 | exact zy6 | exact lw_nils | exact lw_slo_nils | exact zy7 | exact zy8 | exact zy9 | refine lw_tup ?_ | refine lw_agg ?_ | assumption)⟩

abbrev scTSeen (n m k : Nat) : List (Nat × LV) := [(0, .slo 0 0 n 0), (1, .slo 1 0 m 0), (5, .int .i64 k)]
abbrev scHSeen (cs ds : List LV) : List LB := [.cells cs (some 2), .cells ds (some 2)]
abbrev scLSeen : List Nat := [0, 1, 4, 5]
theorem scSeen_a (n m : Nat) (cs ds : List LV) (K : Pk) : (xsp Go.Proofs.Try.prog (fun _ => none) 40 26 (seg (sp Go.Proofs.Try.prog 16) 0 4) (tm0 [.slo 0 0 n 0, .slo 1 0 m 0]) (mkS (scHSeen cs ds)) (vK scLSeen K)) = (
 bif xcm .neq ↑n ↑m then (
 K .ret [.slo 0 0 n 0, .slo 1 0 m 0, .bool false, .tup []] [some (.cells cs (some 2)), some (.cells ds (some 2))] [])
 else (
 K .normal [.slo 0 0 n 0, .slo 1 0 m 0, .bool false, .int .i64 0] [some (.cells cs (some 2)), some (.cells ds (some 2))] [])) := by kernel_rfl
theorem scSeen_b (n m k : Nat) (cs ds : List LV) (K : Pk) : (xcode Go.Proofs.Try.prog (fun _ => none) 40 26 (loopOf (nthC (sp Go.Proofs.Try.prog 16) 4)) (mkTm 26 (scTSeen n m k)) (mkS (scHSeen cs ds)) (vK scLSeen K)) = (
 bif xcm .lss ↑k ↑n then (
 bif xle (xadd (xnat ↑k) 1) n then bif xle (xadd (xix 0 (xnat ↑k) 2) 2) (xln cs) then bif isI .i64 (nthD cs (xix 0 (xnat ↑k) 2)) then bif isI .u64 (nthD cs (xadd (xix 0 (xnat ↑k) 2) 1)) then bif xle (xadd (xnat ↑k) 1) m then bif xle (xadd (xix 0 (xnat ↑k) 2) 2) (xln ds) then bif isI .i64 (nthD ds (xix 0 (xnat ↑k) 2)) then bif isI .u64 (nthD ds (xadd (xix 0 (xnat ↑k) 2) 1)) then bif xnot (xand (xcm .eql (asI (nthD cs (xix 0 (xnat ↑k) 2))) (asI (nthD ds (xix 0 (xnat ↑k) 2)))) (xand (xcm .eql (asI (nthD cs (xadd (xix 0 (xnat ↑k) 2) 1))) (asI (nthD ds (xadd (xix 0 (xnat ↑k) 2) 1)))) true)) then (
 K .ret [.slo 0 0 n 0, .slo 1 0 m 0, .bool false, .int .i64 ↑k] [some (.cells cs (some 2)), some (.cells ds (some 2))] [])
 else (
 K .normal [.slo 0 0 n 0, .slo 1 0 m 0, .any, .int .i64 (xar .add .i64 (↑k) 1)] [some (.cells cs (some 2)), some (.cells ds (some 2))] []) else False else False else False else False else False else False else False else False)
 else (
 K (.exit 0) [.slo 0 0 n 0, .slo 1 0 m 0, .any, .int .i64 ↑k] [some (.cells cs (some 2)), some (.cells ds (some 2))] [])) := by kernel_rfl
theorem scSeen_z (cs ds : List LV) (K : Pk) : (xsp Go.Proofs.Try.prog (fun _ => none) 40 26 ((sp Go.Proofs.Try.prog 16).drop 5) (mkTm 26 []) (mkS (scHSeen cs ds)) (vK scLSeen K)) = (
 K .ret [.any, .any, .bool true, .any] [some (.cells cs (some 2)), some (.cells ds (some 2))] []) := by kernel_rfl
open Classical in
def sameCSeen (n m : Nat) (cs ds : List LV) : Bool := @decide (n = m ∧ cs = ds) (Classical.propDecidable _)

theorem sameCSeen_self (n : Nat) (cs : List LV) : sameCSeen n n cs cs = true := by simp [sameCSeen]
theorem sameCSeen_ok (xs ys : List (Int × Int)) (hn : xs.length ≤ 9223372036854775807) (hm : ys.length ≤ 9223372036854775807) : SFun Go.Proofs.Try.prog 16 [.slo 0 0 xs.length 0, .slo 1 0 ys.length 0] (mkS (scHSeen (encL cell xs) (encL cell ys)))
    fun l s => l = .bool (sameCSeen xs.length ys.length (encL cell xs) (encL cell ys)) ∧ s = mkS (scHSeen (encL cell xs) (encL cell ys)) := by
  refine SFun.mono (SFun.pieces (Q := fun l b => l = .bool (sameCSeen xs.length ys.length (encL cell xs) (encL cell ys)) ∧ b = scHSeen (encL cell xs) (encL cell ys)) 26 2 scLSeen [4] (by kernel_rfl) rfl rfl rfl ?_) fun l s' ⟨b0, ⟨h1, h2⟩, h3⟩ => ⟨h1, by rw [h3, h2]⟩
  have nx := noids_c xs
  have ny := noids_c ys
  have hinj : ∀ a b : List (Int × Int), encL cell a = encL cell b → a = b := fun a b h => by rw [← decC_enc a, h, decC_enc]
  refine SSp.to noCx_ok (n := 40) (g := []) 4 4 rfl (σ := {_k : Unit // xs.length = ys.length}) (fun _ => scTSeen xs.length ys.length 0) (fun _ => scHSeen (encL cell xs) (encL cell ys)) (mkS_le (Nat.le_refl _)) (by kernel_rfl) ?_ fun ⟨_, hnm⟩ => ?_
  · rw [scSeen_a, wd_neq]
    by_cases e : xs.length = ys.length
    · simp only [e, decide_true, Bool.not_true, cond_false]
      exact ⟨rfl, ⟨(), e⟩, [.id 0, .id 1], by (refine ⟨by kernel_rfl, ?_, ?_⟩ <;> repeat first | exact okTms_nil | refine okTms_cons ?_ ?_ | exact okBlks_nil | refine okBlks_cons ?_ ?_ | exact lws_nil | refine lws_cons ?_ ?_ | exact lb_dead | exact zy1 | exact zy2 | exact lb_none | refine zy3 ?_ | exact zy4 | exact lw_any | exact lw_int | exact lw_bool | exact zy5 | exact zy6 | exact lw_nils | exact lw_slo_nils | exact zy7 | exact zy8 | exact zy9 | refine lw_tup ?_ | refine lw_agg ?_ | assumption)⟩
    · simp only [e, decide_false, Bool.not_false, cond_true]
      have hs : sameCSeen xs.length ys.length (encL cell xs) (encL cell ys) = false := by simp only [sameCSeen, decide_eq_false_iff_not]; exact fun k => e k.1
      exact ⟨trivial, rfl, _, _, [.id 0, .id 1], ⟨rfl, rfl⟩, by rw [hs]; (refine ⟨by kernel_rfl, ?_, ?_⟩ <;> repeat first | exact okTms_nil | refine okTms_cons ?_ ?_ | exact okBlks_nil | refine okBlks_cons ?_ ?_ | exact lws_nil | refine lws_cons ?_ ?_ | exact lb_dead | exact zy1 | exact zy2 | exact lb_none | refine zy3 ?_ | exact zy4 | exact lw_any | exact lw_int | exact lw_bool | exact zy5 | exact zy6 | exact lw_nils | exact lw_slo_nils | exact zy7 | exact zy8 | exact zy9 | refine lw_tup ?_ | refine lw_agg ?_ | assumption)⟩
  refine SSp.code_to (g := []) 5 rfl (σ := {_k : Unit // xs = ys}) (fun _ => []) (fun _ => scHSeen (encL cell xs) (encL cell ys)) (by kernel_rfl) ?_ fun ⟨_, hall⟩ => ?_
  · refine SCode.loop_vc noCx_ok (n := 40) 0 (by kernel_rfl) (σ := {k : Nat // k ≤ xs.length ∧ ∀ i (h : i < xs.length) (h' : i < ys.length), i < k → xs[i] = ys[i]}) (fun k => scTSeen xs.length ys.length k.1) (fun _ => scHSeen (encL cell xs) (encL cell ys)) (fun k => xs.length - k.1) (fun _ => Nat.le_refl _) (fun ⟨k, hk, hall⟩ => ?_) ⟨0, Nat.zero_le _, fun i _ _ hi => absurd hi (by omega)⟩
    dsimp only
    rw [scSeen_b, wd_lss]
    refine ite_way (fun h0 => ?_) (fun h0 => ⟨rfl, ⟨(), List.ext_getElem hnm fun i h1 h2 => hall i h1 h2 (by omega)⟩, [.id 0, .id 1], by (refine ⟨by kernel_rfl, ?_, ?_⟩ <;> repeat first | exact okTms_nil | refine okTms_cons ?_ ?_ | exact okBlks_nil | refine okBlks_cons ?_ ?_ | exact lws_nil | refine lws_cons ?_ ?_ | exact lb_dead | exact zy1 | exact zy2 | exact lb_none | refine zy3 ?_ | exact zy4 | exact lw_any | exact lw_int | exact lw_bool | exact zy5 | exact zy6 | exact lw_nils | exact lw_slo_nils | exact zy7 | exact zy8 | exact zy9 | refine lw_tup ?_ | refine lw_agg ?_ | assumption)⟩)
    have h1 : k < ys.length := by omega
    simp only [wd_nat, wd_asV, wd_isV, wd_ix, wd_add, wd_mul, wd_ln, Nat.zero_add, Nat.mul_one, wd_isI, wd_asI, wd_isB, wd_asB, wd_nn, cI_tlen, cB_tlen, cII_tlen, decide_true, cond_true, wd_not_t, wd_not_f, wd_and_t, wd_and_f, cell_0 h0, cell_0 h1, cell_1 h0, cell_1 h1, cell_n, inc_i64 h0 hn, xcm_eql]
    (repeat (with_reducible refine must (by (first | with_reducible rfl | exact t_le (by omega) | exact t_eq (by omega) | exact t_nn (by omega) | exact t_lss (by omega) | exact t_leq (by omega) | exact t_gtr (by omega) | exact t_geq (by omega) | exact t_eql (by omega) | exact t_neq (by omega) | exact t_z (by omega) | exact wd_not_f | assumption)) ?_))
    by_cases e : xs[k] = ys[k]
    · simp only [e, decide_true, wd_and_t, wd_not_t, cond_false]
      exact ⟨rfl, ⟨k + 1, h0, fun i h2 h3 hi => by rcases Nat.lt_succ_iff_lt_or_eq.1 hi with hi | rfl; exact hall i h2 h3 hi; exact e⟩, by simp only; omega, [.id 0, .id 1], by (refine ⟨by kernel_rfl, ?_, ?_⟩ <;> repeat first | exact okTms_nil | refine okTms_cons ?_ ?_ | exact okBlks_nil | refine okBlks_cons ?_ ?_ | exact lws_nil | refine lws_cons ?_ ?_ | exact lb_dead | exact zy1 | exact zy2 | exact lb_none | refine zy3 ?_ | exact zy4 | exact lw_any | exact lw_int | exact lw_bool | exact zy5 | exact zy6 | exact lw_nils | exact lw_slo_nils | exact zy7 | exact zy8 | exact zy9 | refine lw_tup ?_ | refine lw_agg ?_ | assumption)⟩
    · have hs : sameCSeen xs.length ys.length (encL cell xs) (encL cell ys) = false := by
        simp only [sameCSeen, decide_eq_false_iff_not]
        intro q
        have := hinj _ _ q.2
        subst this
        exact e rfl
      have ht : xnot (xand (decide (xs[k].1 = ys[k].1)) (xand (decide (xs[k].2 = ys[k].2)) true)) = true := by
        by_cases e1 : xs[k].1 = ys[k].1
        · have e2 : xs[k].2 ≠ ys[k].2 := fun e2 => e (Prod.ext e1 e2)
          simp only [e1, e2, decide_true, decide_false]; rfl
        · simp only [e1, decide_false]; rfl
      rw [ht, cond_true]
      exact ⟨trivial, rfl, _, _, [.id 0, .id 1], ⟨rfl, rfl⟩, by rw [hs]; (refine ⟨by kernel_rfl, ?_, ?_⟩ <;> repeat first | exact okTms_nil | refine okTms_cons ?_ ?_ | exact okBlks_nil | refine okBlks_cons ?_ ?_ | exact lws_nil | refine lws_cons ?_ ?_ | exact lb_dead | exact zy1 | exact zy2 | exact lb_none | refine zy3 ?_ | exact zy4 | exact lw_any | exact lw_int | exact lw_bool | exact zy5 | exact zy6 | exact lw_nils | exact lw_slo_nils | exact zy7 | exact zy8 | exact zy9 | refine lw_tup ?_ | refine lw_agg ?_ | assumption)⟩
  refine SSp.last noCx_ok (n := 40) (mkS_le (Nat.le_refl _)) ?_
  rw [scSeen_z]
  have hs : sameCSeen xs.length ys.length (encL cell xs) (encL cell ys) = true := by
    simp only [sameCSeen, decide_eq_true_eq]; exact ⟨hnm, by rw [hall]⟩
  exact ⟨trivial, rfl, _, _, [.id 0, .id 1], ⟨rfl, rfl⟩, by rw [hs]; (refine ⟨by kernel_rfl, ?_, ?_⟩ <;> repeat first | exact okTms_nil | refine okTms_cons ?_ ?_ | exact okBlks_nil | refine okBlks_cons ?_ ?_ | exact lws_nil | refine lws_cons ?_ ?_ | exact lb_dead | exact zy1 | exact zy2 | exact lb_none | refine zy3 ?_ | exact zy4 | exact lw_any | exact lw_int | exact lw_bool | exact zy5 | exact zy6 | exact lw_nils | exact lw_slo_nils | exact zy7 | exact zy8 | exact zy9 | refine lw_tup ?_ | refine lw_agg ?_ | assumption)⟩
def sameCSeenG : Gc := fun args s => match args with
  | [.slo b 0 n 0, .slo c 0 m 0] => (match s.h.get b, s.h.get c, s.g with
    | some (.cells cs (some 2)), some (.cells ds (some 2)), [] => cond (Nat.beq b c) none (some ([okC cs n, okC ds m], .bool (sameCSeen n m cs ds), s))
    | _, _, _ => none)
  | _ => none
theorem sameCSeenG_ok : GOk Go.Proofs.Try.prog 16 sameCSeenG := by
  intro args s bs l s' hg hb hfr
  unfold sameCSeenG at hg
  split at hg
  · rename_i b n c m
    split at hg
    · rename_i cs ds hb1 hc1 hgl
      cases hbc : Nat.beq b c with
      | true => rw [hbc] at hg; cases hg
      | false =>
        rw [hbc] at hg
        simp only [cond_false, Option.some.injEq, Prod.mk.injEq] at hg
        obtain ⟨rfl, rfl, rfl⟩ := hg
        obtain ⟨k1, k2⟩ := allT_cons.1 hb
        obtain ⟨xs, rfl, rfl, h1⟩ := okC_iff.1 k1
        obtain ⟨ys, rfl, rfl, h2⟩ := okC_iff.1 (allT_cons.1 k2).1
        have nx := noids_c xs
        have ny := noids_c ys
        refine SFun.lift_ro (ρ := [b, c]) (bs := scHSeen (encL cell xs) (encL cell ys)) (args0 := [.slo 0 0 xs.length 0, .slo 1 0 ys.length 0]) hfr (by simp [beq_ne hbc]) ⟨⟨there hfr hb1, _, hb1, by (first | exact lb_dead | exact lb_same (by (first | assumption | exact noIds_tab (fun _ => rfl) _ _ | exact noIds_encL (fun _ => rfl) _ | rfl)) | exact lb_ro (by (first | assumption | exact noIds_tab (fun _ => rfl) _ _ | exact noIds_encL (fun _ => rfl) _ | rfl)) | exact lb_none | exact lb_cells (by ((repeat refine lws_cons (by (first | exact lw_any | exact lw_int | exact lw_bool | exact lw_ptr rfl | exact lw_slo rfl | exact lw_nilp | exact lw_nils | exact lw_str | exact lw_slo_nils | exact lw_slo_sle | exact lw_sl rfl | exact lw_unb | exact lw_gptr | exact lw_noid rfl | exact lw_cap rfl (Nat.le_refl _) | exact lw_cap rfl (by omega) | assumption | exact lw_tup (by ((repeat refine lws_cons (by (first | exact lw_any | exact lw_int | exact lw_bool | exact lw_ptr rfl | exact lw_slo rfl | exact lw_nilp | exact lw_nils | exact lw_str | exact lw_slo_nils | exact lw_slo_sle | exact lw_sl rfl | exact lw_unb | exact lw_gptr | exact lw_noid rfl | exact lw_cap rfl (Nat.le_refl _) | exact lw_cap rfl (by omega) | assumption)) ?_); exact lws_nil)))) ?_); exact lws_nil)) (by simp) | exact lb_iter | exact lb_cap (Nat.le_refl _) (Nat.le_refl _) rfl rfl | exact lb_capn (by assumption) (by (first | assumption | exact noIds_tab (fun _ => rfl) _ _ | exact noIds_encL (fun _ => rfl) _ | rfl)) | assumption), fun κ hκ => by (first | exact lb_dead | exact lb_same (by (first | assumption | exact noIds_tab (fun _ => rfl) _ _ | exact noIds_encL (fun _ => rfl) _ | rfl)) | exact lb_ro (by (first | assumption | exact noIds_tab (fun _ => rfl) _ _ | exact noIds_encL (fun _ => rfl) _ | rfl)) | exact lb_none | exact lb_cells (by ((repeat refine lws_cons (by (first | exact lw_any | exact lw_int | exact lw_bool | exact lw_ptr rfl | exact lw_slo rfl | exact lw_nilp | exact lw_nils | exact lw_str | exact lw_slo_nils | exact lw_slo_sle | exact lw_sl rfl | exact lw_unb | exact lw_gptr | exact lw_noid rfl | exact lw_cap rfl (Nat.le_refl _) | exact lw_cap rfl (by omega) | assumption | exact lw_tup (by ((repeat refine lws_cons (by (first | exact lw_any | exact lw_int | exact lw_bool | exact lw_ptr rfl | exact lw_slo rfl | exact lw_nilp | exact lw_nils | exact lw_str | exact lw_slo_nils | exact lw_slo_sle | exact lw_sl rfl | exact lw_unb | exact lw_gptr | exact lw_noid rfl | exact lw_cap rfl (Nat.le_refl _) | exact lw_cap rfl (by omega) | assumption)) ?_); exact lws_nil)))) ?_); exact lws_nil)) (by simp) | exact lb_iter | exact lb_cap (Nat.le_refl _) (Nat.le_refl _) rfl rfl | exact lb_capn (by assumption) (by (first | assumption | exact noIds_tab (fun _ => rfl) _ _ | exact noIds_encL (fun _ => rfl) _ | rfl)) | assumption)⟩, ⟨there hfr hc1, _, hc1, by (first | exact lb_dead | exact lb_same (by (first | assumption | exact noIds_tab (fun _ => rfl) _ _ | exact noIds_encL (fun _ => rfl) _ | rfl)) | exact lb_ro (by (first | assumption | exact noIds_tab (fun _ => rfl) _ _ | exact noIds_encL (fun _ => rfl) _ | rfl)) | exact lb_none | exact lb_cells (by ((repeat refine lws_cons (by (first | exact lw_any | exact lw_int | exact lw_bool | exact lw_ptr rfl | exact lw_slo rfl | exact lw_nilp | exact lw_nils | exact lw_str | exact lw_slo_nils | exact lw_slo_sle | exact lw_sl rfl | exact lw_unb | exact lw_gptr | exact lw_noid rfl | exact lw_cap rfl (Nat.le_refl _) | exact lw_cap rfl (by omega) | assumption | exact lw_tup (by ((repeat refine lws_cons (by (first | exact lw_any | exact lw_int | exact lw_bool | exact lw_ptr rfl | exact lw_slo rfl | exact lw_nilp | exact lw_nils | exact lw_str | exact lw_slo_nils | exact lw_slo_sle | exact lw_sl rfl | exact lw_unb | exact lw_gptr | exact lw_noid rfl | exact lw_cap rfl (Nat.le_refl _) | exact lw_cap rfl (by omega) | assumption)) ?_); exact lws_nil)))) ?_); exact lws_nil)) (by simp) | exact lb_iter | exact lb_cap (Nat.le_refl _) (Nat.le_refl _) rfl rfl | exact lb_capn (by assumption) (by (first | assumption | exact noIds_tab (fun _ => rfl) _ _ | exact noIds_encL (fun _ => rfl) _ | rfl)) | assumption), fun κ hκ => by (first | exact lb_dead | exact lb_same (by (first | assumption | exact noIds_tab (fun _ => rfl) _ _ | exact noIds_encL (fun _ => rfl) _ | rfl)) | exact lb_ro (by (first | assumption | exact noIds_tab (fun _ => rfl) _ _ | exact noIds_encL (fun _ => rfl) _ | rfl)) | exact lb_none | exact lb_cells (by ((repeat refine lws_cons (by (first | exact lw_any | exact lw_int | exact lw_bool | exact lw_ptr rfl | exact lw_slo rfl | exact lw_nilp | exact lw_nils | exact lw_str | exact lw_slo_nils | exact lw_slo_sle | exact lw_sl rfl | exact lw_unb | exact lw_gptr | exact lw_noid rfl | exact lw_cap rfl (Nat.le_refl _) | exact lw_cap rfl (by omega) | assumption | exact lw_tup (by ((repeat refine lws_cons (by (first | exact lw_any | exact lw_int | exact lw_bool | exact lw_ptr rfl | exact lw_slo rfl | exact lw_nilp | exact lw_nils | exact lw_str | exact lw_slo_nils | exact lw_slo_sle | exact lw_sl rfl | exact lw_unb | exact lw_gptr | exact lw_noid rfl | exact lw_cap rfl (Nat.le_refl _) | exact lw_cap rfl (by omega) | assumption)) ?_); exact lws_nil)))) ?_); exact lws_nil)) (by simp) | exact lb_iter | exact lb_cap (Nat.le_refl _) (Nat.le_refl _) rfl rfl | exact lb_capn (by assumption) (by (first | assumption | exact noIds_tab (fun _ => rfl) _ _ | exact noIds_encL (fun _ => rfl) _ | rfl)) | assumption)⟩, trivial⟩ (by ((repeat refine lws_cons (by (first | exact lw_any | exact lw_int | exact lw_bool | exact lw_ptr rfl | exact lw_slo rfl | exact lw_nilp | exact lw_nils | exact lw_str | exact lw_slo_nils | exact lw_slo_sle | exact lw_sl rfl | exact lw_unb | exact lw_gptr | exact lw_noid rfl | exact lw_cap rfl (Nat.le_refl _) | exact lw_cap rfl (by omega) | assumption | exact lw_tup (by ((repeat refine lws_cons (by (first | exact lw_any | exact lw_int | exact lw_bool | exact lw_ptr rfl | exact lw_slo rfl | exact lw_nilp | exact lw_nils | exact lw_str | exact lw_slo_nils | exact lw_slo_sle | exact lw_sl rfl | exact lw_unb | exact lw_gptr | exact lw_noid rfl | exact lw_cap rfl (Nat.le_refl _) | exact lw_cap rfl (by omega) | assumption)) ?_); exact lws_nil)))) ?_); exact lws_nil)) rfl ?_
        rw [hgl]
        exact sameCSeen_ok xs ys h1 h2
    · cases hg
  · cases hg

theorem noids_ok {qc : List LV} {n : Nat} (h : okC qc n = true) : noIds qc = true := by obtain ⟨xs, rfl, _⟩ := okC_iff.1 h; exact noids_c xs
theorem cm_self (x : Int) : xcm .eql x x = true := t_eql rfl
/-! which version of a stripe is there -/
def fndV : List (Int × Int) → Int → Option Int
  | [], _ => none
  | x :: r, s => if x.1 = s then some x.2 else fndV r s
theorem fndV_none {xs : List (Int × Int)} {s : Int} (h : ∀ j (hj : j < xs.length), xs[j].1 ≠ s) : fndV xs s = none := by
  induction xs with
  | nil => rfl
  | cons x r ih => rw [fndV, if_neg (show ¬ x.1 = s from h 0 (by simp)), ih fun j hj => h (j + 1) (by simp; omega)]
theorem fndV_some {xs : List (Int × Int)} {s : Int} {i : Nat} (hi : i < xs.length) (h : ∀ j (hj : j < xs.length), j < i → xs[j].1 ≠ s) (e : xs[i].1 = s) : fndV xs s = some xs[i].2 := by
  induction xs generalizing i with
  | nil => simp at hi
  | cons x r ih =>
    cases i with
    | zero => rw [fndV, if_pos (by simpa using e)]; rfl
    | succ i =>
      rw [fndV, if_neg (show ¬ x.1 = s from h 0 (by simp) (by omega)), ih (i := i) (by simpa using hi) (fun j hj hji => h (j + 1) (by simp; omega) (by omega)) (by simpa using e)]; rfl
def fV (xs : List (Int × Int)) (s : Int) : Int := (fndV xs s).getD 0
def fB (xs : List (Int × Int)) (s : Int) : Bool := (fndV xs s).isSome
/-- Add: what it answers, what is there then. -/
def addF (most : Int) (xs : List (Int × Int)) (s v : Int) : Int × List (Int × Int) :=
  if s < 0 ∨ 16 ≤ s ∨ 4611686018427387904 ≤ v then (1, xs)
  else match fndV xs s with
    | some u => (if u ≠ v then 14 else 0, xs)
    | none => if most ≤ xs.length then (5, xs) else (0, xs ++ [(s, v)])
def getV (qc : List LV) (s : Int) : Int := fV (decC qc) s

def getB (qc : List LV) (s : Int) : Bool := fB (decC qc) s

def addE (most : Int) (qc : List LV) (s v : Int) : Int := (addF most (decC qc) s v).1

def addN (most : Int) (qc : List LV) (s v : Int) : Nat := (addF most (decC qc) s v).2.length

def addC (most : Int) (qc : List LV) (s v : Int) : List LV := encL cell (addF most (decC qc) s v).2

abbrev raH (most : Int) (n : Nat) (qc : List LV) : List LB := [.cells [.int .i64 most, .slo 1 0 n 0] none, .cells qc (some 2)]
abbrev gtL : List Nat := [0, 1, 4, 5, 11, 12, 13]
abbrev gtT (s : Int) (n i : Nat) : List (Nat × LV) := [(0, .ptr 0 0), (1, .int .i64 s), (11, .slo 1 0 n 0), (12, .int .i64 n), (13, .int .i64 i)]
theorem gt_a (most s : Int) (n : Nat) (qc : List LV) (K : Pk) : (xsp Go.Proofs.Try.prog (fun _ => none) 40 24 (seg (sp Go.Proofs.Try.prog 9) 0 2) (tm0 [.ptr 0 0, .int .i64 s]) (mkS (raH most n qc)) (vK gtL K)) = (
 K .normal [.ptr 0 0, .int .i64 s, .int .u64 0, .bool false, .slo 1 0 n 0, .int .i64 ↑n, .int .i64 0] [some (.cells [.int .i64 most, .slo 1 0 n 0] none), some (.cells qc (some 2))] []) := by kernel_rfl
theorem gt_b (most s : Int) (n i : Nat) (qc : List LV) (K : Pk) : (xcode Go.Proofs.Try.prog (fun _ => none) 40 24 (loopOf (nthC (sp Go.Proofs.Try.prog 9) 2)) (mkTm 24 (gtT s n i)) (mkS (raH most n qc)) (vK gtL K)) = (
 bif xcm .lss ↑i ↑n then (
 bif xle (xadd (xnat ↑i) 1) n then bif xle (xadd (xix 0 (xnat ↑i) 2) 2) (xln qc) then bif isI .i64 (nthD qc (xix 0 (xnat ↑i) 2)) then bif isI .u64 (nthD qc (xadd (xix 0 (xnat ↑i) 2) 1)) then bif xcm .eql (asI (nthD qc (xix 0 (xnat ↑i) 2))) s then (
 K .ret [.ptr 0 0, .int .i64 s, .int .u64 (asI (nthD qc (xadd (xix 0 (xnat ↑i) 2) 1))), .bool true, .slo 1 0 n 0, .int .i64 ↑n, .int .i64 ↑i] [some (.cells [.int .i64 most, .slo 1 0 n 0] none), some (.cells qc (some 2)), some (.cells [.int .i64 (asI (nthD qc (xix 0 (xnat ↑i) 2))), .int .u64 (asI (nthD qc (xadd (xix 0 (xnat ↑i) 2) 1)))] none)] [])
 else (
 K .normal [.ptr 0 0, .int .i64 s, .any, .any, .slo 1 0 n 0, .int .i64 ↑n, .int .i64 (xar .add .i64 (↑i) 1)] [some (.cells [.int .i64 most, .slo 1 0 n 0] none), some (.cells qc (some 2)), some (.cells [.int .i64 (asI (nthD qc (xix 0 (xnat ↑i) 2))), .int .u64 (asI (nthD qc (xadd (xix 0 (xnat ↑i) 2) 1)))] none)] []) else False else False else False else False)
 else (
 K (.exit 0) [.ptr 0 0, .int .i64 s, .any, .any, .slo 1 0 n 0, .int .i64 ↑n, .int .i64 ↑i] [some (.cells [.int .i64 most, .slo 1 0 n 0] none), some (.cells qc (some 2))] [])) := by kernel_rfl
theorem gt_z (most : Int) (n : Nat) (qc : List LV) (K : Pk) : (xsp Go.Proofs.Try.prog (fun _ => none) 40 24 ((sp Go.Proofs.Try.prog 9).drop 3) (mkTm 24 []) (mkS (raH most n qc)) (vK gtL K)) = (
 K .ret [.any, .any, .int .u64 0, .bool false, .any, .any, .any] [some (.cells [.int .i64 most, .slo 1 0 n 0] none), some (.cells qc (some 2))] []) := by kernel_rfl
theorem get_ok (most s : Int) (xs : List (Int × Int)) (hn : xs.length ≤ 1000000) : SFun Go.Proofs.Try.prog 9 [.ptr 0 0, .int .i64 s] (mkS (raH most xs.length (encL cell xs))) fun l t => l = .tup [.int .u64 (fV xs s), .bool (fB xs s)] ∧ t = mkS (raH most xs.length (encL cell xs)) := by
  refine SFun.mono (SFun.pieces (Q := fun l b => l = .tup [.int .u64 (fV xs s), .bool (fB xs s)] ∧ b = raH most xs.length (encL cell xs)) 24 2 gtL [4, 5] (by kernel_rfl) rfl rfl rfl ?_) fun l s' ⟨b0, ⟨h1, h2⟩, h3⟩ => ⟨h1, by rw [h3, h2]⟩
  have nx := noids_c xs
  refine SSp.to noCx_ok (n := 40) (g := []) 2 2 rfl (σ := Unit) (fun _ => gtT s xs.length 0) (fun _ => raH most xs.length (encL cell xs)) (mkS_le (Nat.le_refl _)) (by kernel_rfl) ?_ fun _ => ?_
  · rw [gt_a]; exact ⟨rfl, (), [.id 0, .id 1], by (refine ⟨by kernel_rfl, ?_, ?_⟩ <;> repeat first | exact okTms_nil | refine okTms_cons ?_ ?_ | exact okBlks_nil | refine okBlks_cons ?_ ?_ | exact lws_nil | refine lws_cons ?_ ?_ | exact lb_dead | exact zy1 | exact zy2 | exact lb_none | refine zy3 ?_ | exact zy4 | exact lw_any | exact lw_int | exact lw_bool | exact zy5 | exact zy6 | exact lw_nils | exact lw_slo_nils | exact zy7 | exact zy8 | exact zy9 | refine lw_tup ?_ | refine lw_agg ?_ | assumption)⟩
  refine SSp.code_to (g := []) 3 rfl (σ := {_k : Unit // fndV xs s = none}) (fun _ => []) (fun _ => raH most xs.length (encL cell xs)) (by kernel_rfl) ?_ fun ⟨_, hn⟩ => ?_
  · refine SCode.loop_vc noCx_ok (n := 40) 0 (by kernel_rfl) (σ := {i : Nat // i ≤ xs.length ∧ ∀ j (hj : j < xs.length), j < i → xs[j].1 ≠ s}) (fun i => gtT s xs.length i.1) (fun _ => raH most xs.length (encL cell xs)) (fun i => xs.length - i.1) (fun _ => Nat.le_of_ble_eq_true rfl) (fun ⟨i, hi, hall⟩ => ?_) ⟨0, Nat.zero_le _, fun j hj h => absurd h (by omega)⟩
    dsimp only
    rw [gt_b, wd_lss]
    refine ite_way (fun hk => ?_) (fun hk => ⟨rfl, ⟨(), fndV_none fun j hj => hall j hj (by omega)⟩, [.id 0, .id 1], by (refine ⟨by kernel_rfl, ?_, ?_⟩ <;> repeat first | exact okTms_nil | refine okTms_cons ?_ ?_ | exact okBlks_nil | refine okBlks_cons ?_ ?_ | exact lws_nil | refine lws_cons ?_ ?_ | exact lb_dead | exact zy1 | exact zy2 | exact lb_none | refine zy3 ?_ | exact zy4 | exact lw_any | exact lw_int | exact lw_bool | exact zy5 | exact zy6 | exact lw_nils | exact lw_slo_nils | exact zy7 | exact zy8 | exact zy9 | refine lw_tup ?_ | refine lw_agg ?_ | assumption)⟩)
    have e3 : xar .add .i64 (i : Int) 1 = ((i + 1 : Nat) : Int) := inc_i64 hk (by omega)
    simp only [wd_nat, wd_asV, wd_isV, wd_ix, wd_add, wd_mul, wd_ln, Nat.zero_add, Nat.mul_one, wd_isI, wd_asI, wd_isB, wd_asB, wd_nn, cI_tlen, cB_tlen, cII_tlen, decide_true, cond_true, wd_not_t, wd_not_f, wd_and_t, wd_and_f, Nat.add_assoc, Nat.reduceAdd, cell_0 hk, cell_1 hk, cell_n, e3]
    (repeat (with_reducible refine must (by (first | with_reducible rfl | exact t_le (by omega) | exact t_eq (by omega) | exact t_nn (by omega) | exact t_lss (by omega) | exact t_leq (by omega) | exact t_gtr (by omega) | exact t_geq (by omega) | exact t_eql (by omega) | exact t_neq (by omega) | exact t_z (by omega) | exact wd_not_f | assumption)) ?_))
    rw [xcm_eql]
    by_cases h1 : xs[i].1 = s
    · have hf := fndV_some hk hall h1
      have e1 : fV xs s = xs[i].2 := by rw [fV, hf]; rfl
      have e2 : fB xs s = true := by rw [fB, hf]; rfl
      simp only [h1, decide_true, cond_true]
      exact ⟨trivial, rfl, _, _, [.id 0, .id 1], ⟨rfl, rfl⟩, by rw [e1, e2]; (refine ⟨by kernel_rfl, ?_, ?_⟩ <;> repeat first | exact okTms_nil | refine okTms_cons ?_ ?_ | exact okBlks_nil | refine okBlks_cons ?_ ?_ | exact lws_nil | refine lws_cons ?_ ?_ | exact lb_dead | exact zy1 | exact zy2 | exact lb_none | refine zy3 ?_ | exact zy4 | exact lw_any | exact lw_int | exact lw_bool | exact zy5 | exact zy6 | exact lw_nils | exact lw_slo_nils | exact zy7 | exact zy8 | exact zy9 | refine lw_tup ?_ | refine lw_agg ?_ | assumption)⟩
    · simp only [h1, decide_false, cond_false]
      refine ⟨rfl, ⟨i + 1, hk, fun j hj hji => ?_⟩, by simp only; omega, [.id 0, .id 1], by (refine ⟨by kernel_rfl, ?_, ?_⟩ <;> repeat first | exact okTms_nil | refine okTms_cons ?_ ?_ | exact okBlks_nil | refine okBlks_cons ?_ ?_ | exact lws_nil | refine lws_cons ?_ ?_ | exact lb_dead | exact zy1 | exact zy2 | exact lb_none | refine zy3 ?_ | exact zy4 | exact lw_any | exact lw_int | exact lw_bool | exact zy5 | exact zy6 | exact lw_nils | exact lw_slo_nils | exact zy7 | exact zy8 | exact zy9 | refine lw_tup ?_ | refine lw_agg ?_ | assumption)⟩
      rcases Nat.lt_succ_iff_lt_or_eq.1 hji with h | rfl
      · exact hall j hj h
      · exact h1
  refine SSp.last noCx_ok (n := 40) (mkS_le (Nat.le_of_ble_eq_true rfl)) ?_
  have e4 : fV xs s = 0 := by rw [fV, hn]; rfl
  have e5 : fB xs s = false := by rw [fB, hn]; rfl
  rw [gt_z]
  exact ⟨trivial, rfl, _, _, [.id 0, .id 1], ⟨rfl, rfl⟩, by rw [e4, e5]; (refine ⟨by kernel_rfl, ?_, ?_⟩ <;> repeat first | exact okTms_nil | refine okTms_cons ?_ ?_ | exact okBlks_nil | refine okBlks_cons ?_ ?_ | exact lws_nil | refine lws_cons ?_ ?_ | exact lb_dead | exact zy1 | exact zy2 | exact lb_none | refine zy3 ?_ | exact zy4 | exact lw_any | exact lw_int | exact lw_bool | exact zy5 | exact zy6 | exact lw_nils | exact lw_slo_nils | exact zy7 | exact zy8 | exact zy9 | refine lw_tup ?_ | refine lw_agg ?_ | assumption)⟩
theorem get_c (most s : Int) (n : Nat) (qc : List LV) (k1 : okC qc n = true) (k2 : xle n 1000000 = true) : SFun Go.Proofs.Try.prog 9 [.ptr 0 0, .int .i64 s] (mkS (raH most n qc)) fun l t => l = .tup [.int .u64 (getV qc s), .bool (getB qc s)] ∧ t = mkS (raH most n qc) := by
  obtain ⟨xs, rfl, rfl, _⟩ := okC_iff.1 k1
  rw [wd_le, decide_eq_true_eq] at k2
  simp only [getV, getB, decC_enc]
  exact get_ok most s xs k2
def getG : Gc := fun args s => match args, s.g with
  | [.ptr b 0, .int .i64 p], [] => (match s.h.get b with
    | some (.cells [.int .i64 most, .slo q 0 n 0] none) => (match s.h.get q with
      | some (.cells qc (some 2)) => cond (nodupB [b, q]) (match s.lay [b, q] [.cells [.int .i64 most, .slo q 0 n 0] none, .cells qc (some 2)] [] with
        | some s' => some ([okC qc n, xle n 1000000], .tup [.int .u64 (getV qc p), .bool (getB qc p)], s')
        | none => none) none
      | _ => none)
    | _ => none)
  | _, _ => none
theorem getG_ok : GOk Go.Proofs.Try.prog 9 getG := by
  intro args s bs l s' hg hb hfr
  unfold getG at hg
  split at hg
  · rename_i b p hgl
    split at hg
    · rename_i most q n hb0
      split at hg
      · rename_i qc hb1
        cases hbc : nodupB [b, q] with
        | false => rw [hbc] at hg; cases hg
        | true =>
          rw [hbc] at hg
          simp only [cond_true] at hg
          split at hg
          · rename_i s1 hs1
            simp only [Option.some.injEq, Prod.mk.injEq] at hg
            obtain ⟨rfl, rfl, rfl⟩ := hg
            simp only [allT_cons] at hb
            obtain ⟨k1, k2, _⟩ := hb
            have no : noIds qc = true := noids_ok k1
            refine SFun.lay (bs := [.cells [.int .i64 most, .slo 1 0 n 0] none, .cells qc (some 2)]) (args0 := [.ptr 0 0, .int .i64 p]) (bs' := [.cells [.int .i64 most, .slo 1 0 n 0] none, .cells qc (some 2)]) (v0 := .tup [.int .u64 (getV qc p), .bool (getB qc p)]) hfr hs1 (nodupB_nd hbc)
              ⟨⟨there hfr hb0, _, hb0, by first | exact lb_same rfl | exact lb_cells (lws_cons (lw_int) (lws_cons (lw_slo rfl) lws_nil)) (by simp), fun κ hκ => lb_cells (lws_cons (lw_int) (lws_cons (lw_slo (hκ 1 q rfl)) lws_nil)) (by simp)⟩, ⟨there hfr hb1, _, hb1, lb_same (by (first | assumption | exact noIds_tab (fun _ => rfl) _ _ | exact noIds_encL (fun _ => rfl) _ | rfl)), fun κ hκ => lb_same (by (first | assumption | exact noIds_tab (fun _ => rfl) _ _ | exact noIds_encL (fun _ => rfl) _ | rfl))⟩, trivial⟩ (by ((repeat refine lws_cons (by (first | exact lw_any | exact lw_int | exact lw_bool | exact lw_ptr rfl | exact lw_slo rfl | exact lw_nilp | exact lw_nils | exact lw_str | exact lw_slo_nils | exact lw_slo_sle | exact lw_sl rfl | exact lw_unb | exact lw_gptr | exact lw_noid rfl | exact lw_cap rfl (Nat.le_refl _) | exact lw_cap rfl (by omega) | assumption | exact lw_tup (by ((repeat refine lws_cons (by (first | exact lw_any | exact lw_int | exact lw_bool | exact lw_ptr rfl | exact lw_slo rfl | exact lw_nilp | exact lw_nils | exact lw_str | exact lw_slo_nils | exact lw_slo_sle | exact lw_sl rfl | exact lw_unb | exact lw_gptr | exact lw_noid rfl | exact lw_cap rfl (Nat.le_refl _) | exact lw_cap rfl (by omega) | assumption)) ?_); exact lws_nil)))) ?_); exact lws_nil)) ?_
              fun κ h1 h2 => ⟨⟨lb_cells (lws_cons (lw_int) (lws_cons (lw_slo (h1 1 q rfl)) lws_nil)) (by simp), lb_same (by (first | assumption | exact noIds_tab (fun _ => rfl) _ _ | exact noIds_encL (fun _ => rfl) _ | rfl)), trivial⟩, lw_noid rfl⟩
            rw [hgl]; exact (get_c most p n qc k1 k2)
          · cases hg
      · cases hg
    · cases hg
  · cases hg
def cxga : Cx := cxl [(9, getG)]
abbrev ad_x_b1 (most : Int) (s : Int) (v : Int) (n : Nat) (qc : List LV) : List (Option LB) := [some (.cells [.int .i64 most, .slo 1 0 n 0] none), some (.cells qc (some 2)), some (.cells [.int .i64 s, .int .u64 v] none)]
theorem ad_x (most s v : Int) (n : Nat) (qc : List LV) (K : Fk) : (xfun Go.Proofs.Try.prog cxga 60 8 [.ptr 0 0, .agg [.int .i64 s, .int .u64 v]] (mkS (raH most n qc)) (vF K)) = (
 bif xcm .lss s 0 then (
 K (.int .i64 1) (ad_x_b1 most s v n qc) [])
 else (
 bif xcm .geq s 16 then (
 K (.int .i64 1) (ad_x_b1 most s v n qc) [])
 else (
 bif xcm .geq v 4611686018427387904 then (
 K (.int .i64 1) (ad_x_b1 most s v n qc) [])
 else (
 bif okC qc n then bif xle n 1000000 then bif getB qc s then (
 bif xcm .neq (getV qc s) v then (
 K (.int .i64 14) (ad_x_b1 most s v n qc) [])
 else (
 K (.int .i64 0) (ad_x_b1 most s v n qc) []))
 else (
 bif xcm .geq (↑n) most then (
 K (.int .i64 5) (ad_x_b1 most s v n qc) [])
 else (
 bif xle (xadd n 1) 1000000 then bif xle (xadd 0 (xmul n 2)) (xln qc) then bif xeq n n then bif xeq n n then
 K (.int .i64 0) [some (.cells [.int .i64 most, .slo 4 0 (xadd n 1) 0] none), some .dead, some (.cells [.int .i64 s, .int .u64 v] none), some (.cells [.int .i64 s, .int .u64 v] none), some (.cells (xcat (xcut qc 0 (xmul n 2)) [.int .i64 s, .int .u64 v]) (some 2))] [] else False else False else False else False)) else False else False)))) := by kernel_rfl
abbrev oaL : List Nat := [0, 3, 4, 5]
abbrev oaT (i : Nat) : List (Nat × LV) := [(0, .ptr 0 0), (3, .ptr 2 0), (5, .int .i64 i)]
abbrev oaH (most s v : Int) (n : Nat) (qc : List LV) : List LB := [.cells [.int .i64 most, .slo 1 0 n 0] none, .cells qc (some 2), .cells [.int .i64 s, .int .u64 v] none]
abbrev oa_a_b1 (most : Int) (s : Int) (v : Int) (n : Nat) (qc : List LV) : List (Option LB) := [some (.cells [.int .i64 most, .slo 1 0 n 0] none), some (.cells qc (some 2)), some (.cells [.int .i64 s, .int .u64 v] none)]
theorem oa_a (most s v : Int) (n : Nat) (qc : List LV) (K : Pk) : (xsp Go.Proofs.Try.prog (fun _ => none) 40 83 (seg (sp Go.Proofs.Try.prog 15) 0 4) (tm0 [.ptr 0 0, .agg [.int .i64 s, .int .u64 v]]) (mkS (raH most n qc)) (vK oaL K)) = (
 bif xcm .lss s 0 then (
 K .ret [.ptr 0 0, .ptr 2 0, .int .i64 1, .tup []] (oa_a_b1 most s v n qc) [])
 else (
 bif xcm .geq s 16 then (
 K .ret [.ptr 0 0, .ptr 2 0, .int .i64 1, .tup []] (oa_a_b1 most s v n qc) [])
 else (
 bif xcm .geq v 4611686018427387904 then (
 K .ret [.ptr 0 0, .ptr 2 0, .int .i64 1, .tup []] (oa_a_b1 most s v n qc) [])
 else (
 K .normal [.ptr 0 0, .ptr 2 0, .int .i64 0, .int .i64 0] (oa_a_b1 most s v n qc) [])))) := by kernel_rfl
abbrev oa_b_b1 (most : Int) (s : Int) (v : Int) (n : Nat) (qc : List LV) : List (Option LB) := [some (.cells [.int .i64 most, .slo 1 0 n 0] none), some (.cells qc (some 2)), some (.cells [.int .i64 s, .int .u64 v] none)]
theorem oa_b (most s v : Int) (n i : Nat) (qc : List LV) (K : Pk) : (xcode Go.Proofs.Try.prog (fun _ => none) 40 83 (loopOf (nthC (sp Go.Proofs.Try.prog 15) 4)) (mkTm 83 (oaT i)) (mkS (oaH most s v n qc)) (vK oaL K)) = (
 bif xcm .lss ↑i ↑n then (
 bif xle (xadd (xnat ↑i) 1) n then bif xle (xadd (xix 0 (xnat ↑i) 2) 1) (xln qc) then bif isI .i64 (nthD qc (xix 0 (xnat ↑i) 2)) then bif xcm .eql (asI (nthD qc (xix 0 (xnat ↑i) 2))) s then (
 bif xle (xadd (xnat ↑i) 1) n then bif xle (xadd (xadd (xix 0 (xnat ↑i) 2) 1) 1) (xln qc) then bif isI .u64 (nthD qc (xadd (xix 0 (xnat ↑i) 2) 1)) then bif xcm .eql (asI (nthD qc (xadd (xix 0 (xnat ↑i) 2) 1))) v then (
 K .ret [.ptr 0 0, .ptr 2 0, .int .i64 0, .int .i64 ↑i] (oa_b_b1 most s v n qc) [])
 else (
 bif xle (xadd (xnat ↑i) 1) n then bif xle (xadd (xix 0 (xnat ↑i) 2) 1) (xln qc) then bif isI .i64 (nthD qc (xix 0 (xnat ↑i) 2)) then bif xcm .eql (asI (nthD qc (xix 0 (xnat ↑i) 2))) s then (
 K .ret [.ptr 0 0, .ptr 2 0, .int .i64 14, .int .i64 ↑i] (oa_b_b1 most s v n qc) [])
 else (
 K .normal [.ptr 0 0, .ptr 2 0, .any, .int .i64 (xar .add .i64 (↑i) 1)] (oa_b_b1 most s v n qc) []) else False else False else False) else False else False else False)
 else (
 bif xle (xadd (xnat ↑i) 1) n then bif xle (xadd (xix 0 (xnat ↑i) 2) 1) (xln qc) then bif isI .i64 (nthD qc (xix 0 (xnat ↑i) 2)) then bif xcm .eql (asI (nthD qc (xix 0 (xnat ↑i) 2))) s then (
 K .ret [.ptr 0 0, .ptr 2 0, .int .i64 14, .int .i64 ↑i] (oa_b_b1 most s v n qc) [])
 else (
 K .normal [.ptr 0 0, .ptr 2 0, .any, .int .i64 (xar .add .i64 (↑i) 1)] (oa_b_b1 most s v n qc) []) else False else False else False) else False else False else False)
 else (
 K (.exit 0) [.ptr 0 0, .ptr 2 0, .any, .int .i64 ↑i] (oa_b_b1 most s v n qc) [])) := by kernel_rfl
theorem oa_z (most s v : Int) (n i : Nat) (qc : List LV) (K : Pk) : (xsp Go.Proofs.Try.prog (fun _ => none) 40 83 ((sp Go.Proofs.Try.prog 15).drop 5) (mkTm 83 (oaT i)) (mkS (oaH most s v n qc)) (vK oaL K)) = (
 bif xcm .geq (↑n) most then (
 K .ret [.ptr 0 0, .ptr 2 0, .int .i64 5, .int .i64 ↑i] [some (.cells [.int .i64 most, .slo 1 0 n 0] none), some (.cells qc (some 2)), some (.cells [.int .i64 s, .int .u64 v] none)] [])
 else (
 bif xle (xadd n 1) 1000000 then bif xle (xadd 0 (xmul n 2)) (xln qc) then bif xeq n n then bif xeq n n then
 K .ret [.ptr 0 0, .ptr 2 0, .int .i64 0, .int .i64 ↑i] [some (.cells [.int .i64 most, .slo 4 0 (xadd n 1) 0] none), some .dead, some (.cells [.int .i64 s, .int .u64 v] none), some (.cells [.int .i64 s, .int .u64 v] none), some (.cells (xcat (xcut qc 0 (xmul n 2)) [.int .i64 s, .int .u64 v]) (some 2))] [] else False else False else False else False)) := by kernel_rfl
end
end Go.Lev
