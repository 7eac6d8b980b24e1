/- stripes of places -/
import Derived.Test.YtooajpakpmnehaaCW9
import Derived.Test.YtooajpakpmnehaaLc
import Derived.Test.YtooajpakpmnehaaChecked
import Derived.KernelRfl

namespace Go.Lev
open Go.RowKit
set_option linter.unusedVariables false
set_option linter.unusedSimpArgs false
set_option maxRecDepth 100000
noncomputable section
def decG (cs : List LV) : Nat → Int × Int := fun i => (decC cs).getD i (0, 0)
theorem okC_dec {cs : List LV} {n : Nat} (h : okC cs n = true) : cs = tab cell n (decG cs) ∧ n ≤ 9223372036854775807 := by
  obtain ⟨xs, h1, h2, h3⟩ := okC_iff.1 h
  subst h1
  refine ⟨?_, h3⟩
  have := tab_of_list (f := cell) xs (0, 0)
  rw [h2] at this
  show encL cell xs = tab cell n (fun i => (decC (encL cell xs)).getD i (0, 0))
  rw [decC_enc]; exact this
theorem len_ok {cs : List LV} {n : Nat} (h : okC cs n = true) : cs.length = n * 2 := by rw [(okC_dec h).1]; exact cII_tlen _ _ _ _
theorem noids_ok {cs : List LV} {n : Nat} (h : okC cs n = true) : noIds cs = true := by rw [(okC_dec h).1]; exact noIds_cII _ _ _ _
theorem decG_enc {xs : List (Int × Int)} {k : Nat} (h : k < xs.length) : decG (encL cell xs) k = xs[k] := by
  show (decC (encL cell xs)).getD k (0, 0) = xs[k]
  rw [decC_enc]; simp [List.getD_eq_getElem?_getD, h]
theorem nth_ok0 {cs : List LV} {n k : Nat} (h : okC cs n = true) (hk : k < n) : nthD cs (k * 2) = .int .i64 (decG cs k).1 := by
  obtain ⟨xs, rfl, rfl, _⟩ := okC_iff.1 h
  rw [decG_enc hk]; exact cell_0 hk
theorem nth_ok1 {cs : List LV} {n k : Nat} (h : okC cs n = true) (hk : k < n) : nthD cs (k * 2 + 1) = .int .u64 (decG cs k).2 := by
  obtain ⟨xs, rfl, rfl, _⟩ := okC_iff.1 h
  rw [decG_enc hk]; exact cell_1 hk
/-! Within -/
theorem within_x (a lo hi : Int) (K : Fk) : (xfun Go.Proofs.Try.prog (fun _ => none) 40 25 [.int .i64 a, .int .i64 lo, .int .i64 hi] (mkS []) (vF K)) = (
 bif xcm .neq (xar .add .i64 (xar .sub .i64 hi lo) 1) 0 then bif xcm .lss (xar .rem .i64 a (xar .add .i64 (xar .sub .i64 hi lo) 1)) 0 then (
 K (.int .i64 (xar .add .i64 lo (xar .add .i64 (xar .sub .i64 (xar .add .i64 (xar .rem .i64 a (xar .add .i64 (xar .sub .i64 hi lo) 1)) hi) lo) 1))) [] [])
 else (
 K (.int .i64 (xar .add .i64 lo (xar .rem .i64 a (xar .add .i64 (xar .sub .i64 hi lo) 1)))) [] []) else False) := by kernel_rfl
def wthV (a lo hi : Int) : Int := lo + a % (hi - lo + 1)

def withinG : Gc := fun args s => match args, s.g with
  | [.int .i64 a, .int .i64 lo, .int .i64 hi], [] => some ([xcm .leq lo hi, xcm .leq (-1000000) lo, xcm .leq hi 1000000], .int .i64 (wthV a lo hi), s)
  | _, _ => none
theorem tmod_pos (a m : Int) (hm : 0 < m) : -m < a.tmod m ∧ a.tmod m < m ∧ (a.tmod m = a % m ∨ (a.tmod m < 0 ∧ a.tmod m + m = a % m)) := by
  have hb := Int.emod_nonneg a (b := m) (by omega)
  have hc := Int.emod_lt_of_pos a hm
  rcases Int.lt_or_le a 0 with h | h
  · have e : a.tmod m = -((-a).tmod m) := by have := Int.neg_tmod (-a) m; rw [Int.neg_neg] at this; exact this
    have h6 : 0 ≤ (-a).tmod m := Int.tmod_nonneg _ (by omega)
    have h7 : (-a).tmod m < m := Int.tmod_lt_of_pos _ hm
    refine ⟨by omega, by omega, ?_⟩
    have h8 : m ∣ a - a.tmod m := Int.dvd_self_sub_tmod
    have h9 : m ∣ a - a % m := Int.dvd_self_sub_emod
    obtain ⟨u, hu⟩ := h8
    obtain ⟨v, hv⟩ := h9
    have hd : a % m - a.tmod m = m * (u - v) := by rw [Int.mul_sub]; omega
    by_cases h0 : u - v ≤ -1
    · have : m * (u - v) ≤ m * (-1) := Int.mul_le_mul_of_nonneg_left h0 (by omega)
      omega
    · by_cases h1 : u - v = 0
      · rw [h1] at hd; simp at hd; exact .inl (by omega)
      · by_cases h2 : u - v = 1
        · rw [h2] at hd; simp at hd; exact .inr ⟨by omega, by omega⟩
        · have : m * 2 ≤ m * (u - v) := Int.mul_le_mul_of_nonneg_left (by omega) (by omega)
          omega
  · have h6 := Int.tmod_nonneg m h
    exact ⟨by omega, Int.tmod_lt_of_pos _ hm, .inl (Int.tmod_eq_emod_of_nonneg h)⟩
theorem wthV_in {a lo hi : Int} (h : lo ≤ hi) : lo ≤ wthV a lo hi ∧ wthV a lo hi ≤ hi := by
  simp only [wthV]
  have hb := Int.emod_nonneg a (b := hi - lo + 1) (by omega)
  have hc := Int.emod_lt_of_pos a (b := hi - lo + 1) (by omega)
  omega
theorem within_ok (a lo hi : Int) (h : lo ≤ hi) (h1 : -1000000 ≤ lo) (h2 : hi ≤ 1000000) : SFun Go.Proofs.Try.prog 25 [.int .i64 a, .int .i64 lo, .int .i64 hi] (mkS []) fun l s => l = .int .i64 (wthV a lo hi) ∧ s = mkS [] := by
  refine SFun.mono (SFun.vc (Q := fun l b => l = .int .i64 (wthV a lo hi) ∧ b = []) noCx_ok (n := 40) 0 rfl ?_) fun l s' ⟨b0, ⟨h1, h2⟩, h3⟩ => ⟨h1, by rw [h3, h2]⟩
  have hq := Int.emod_nonneg a (b := hi - lo + 1) (by omega)
  have e1 : xar .sub .i64 hi lo = hi - lo := sub_i64 (by omega) (by omega)
  have e2 : xar .add .i64 (hi - lo) 1 = hi - lo + 1 := add_i64 (by omega) (by omega)
  have e3 : xar .rem .i64 a (hi - lo + 1) = a.tmod (hi - lo + 1) := xar_rem _ _ _ (by omega)
  obtain ⟨t1, t2, t3⟩ := tmod_pos a (hi - lo + 1) (by omega)
  rw [within_x, e1, e2, e3]
  refine must (t_neq (by omega)) ?_
  rw [xcm_lss]
  refine ite_way (fun hn => ?_) (fun hn => ?_)
  · have e : xar .add .i64 lo (xar .add .i64 (xar .sub .i64 (xar .add .i64 (a.tmod (hi - lo + 1)) hi) lo) 1) = wthV a lo hi := by
      simp only [wthV]
      rw [add_i64 (x := a.tmod (hi - lo + 1)) (by omega) (by omega), sub_i64 (by omega) (by omega), add_i64 (x := a.tmod (hi - lo + 1) + hi - lo) (by omega) (by omega), add_i64 (by omega) (by omega)]
      omega
    rw [e]
    exact ⟨rfl, _, [], [], ⟨rfl, rfl⟩, by (refine ⟨by kernel_rfl, ?_, ?_⟩ <;> repeat first | exact okTms_nil | refine okTms_cons ?_ ?_ | exact okBlks_nil | refine okBlks_cons ?_ ?_ | exact lws_nil | refine lws_cons ?_ ?_ | exact lb_dead | exact zy1 | exact zy2 | exact lb_none | refine zy3 ?_ | exact zy4 | exact lw_any | exact lw_int | exact lw_bool | exact zy5 | exact zy6 | exact lw_nils | exact lw_slo_nils | exact zy7 | exact zy8 | exact zy9 | refine lw_tup ?_ | refine lw_agg ?_ | assumption)⟩
  · have e : xar .add .i64 lo (a.tmod (hi - lo + 1)) = wthV a lo hi := by
      simp only [wthV]
      rw [add_i64 (by omega) (by omega)]; omega
    rw [e]
    exact ⟨rfl, _, [], [], ⟨rfl, rfl⟩, by (refine ⟨by kernel_rfl, ?_, ?_⟩ <;> repeat first | exact okTms_nil | refine okTms_cons ?_ ?_ | exact okBlks_nil | refine okBlks_cons ?_ ?_ | exact lws_nil | refine lws_cons ?_ ?_ | exact lb_dead | exact zy1 | exact zy2 | exact lb_none | refine zy3 ?_ | exact zy4 | exact lw_any | exact lw_int | exact lw_bool | exact zy5 | exact zy6 | exact lw_nils | exact lw_slo_nils | exact zy7 | exact zy8 | exact zy9 | refine lw_tup ?_ | refine lw_agg ?_ | assumption)⟩
theorem withinG_ok : GOk Go.Proofs.Try.prog 25 withinG := by
  intro args s bs l s' hg hb hfr
  unfold withinG at hg
  split at hg
  · rename_i a lo hi hgl
    simp only [Option.some.injEq, Prod.mk.injEq] at hg
    obtain ⟨rfl, rfl, rfl⟩ := hg
    obtain ⟨k1, hb⟩ := allT_cons.1 hb
    obtain ⟨k2, hb⟩ := allT_cons.1 hb
    have k3 := (allT_cons.1 hb).1
    rw [xcm_leq, decide_eq_true_eq] at k1 k2 k3
    exact SFun.pure hfr hgl rfl rfl (within_ok a lo hi k1 k2 k3)
  · cases hg

/-! stripes of places -/
theorem of_x (a n w : Int) (K : Fk) : (xfun Go.Proofs.Try.prog (fun _ => none) 40 67 [.int .i64 a, .int .i64 n, .int .i64 w] (mkS []) (vF K)) = (
 bif xcm .lss a 0 then (
 K (.int .i64 (-1)) [] [])
 else (
 bif xcm .neq (xmn (xmx w 1) 16) 0 then bif xcm .neq (xmn (xmx n 1) 16) 0 then
 K (.int .i64 (xar .rem .i64 (xar .quo .i64 a (xmn (xmx w 1) 16)) (xmn (xmx n 1) 16))) [] [] else False else False)) := by kernel_rfl
theorem of_y (a n w : Int) (K : Fk) : (xfun Go.Proofs.Try.prog (fun _ => none) 40 26 [.int .i64 a, .int .i64 n, .int .i64 w] (mkS []) (vF K)) = (
 bif xcm .lss a 0 then (
 K (.int .i64 (-1)) [] [])
 else (
 bif xcm .lss w 1 then (
 bif xcm .lss n 1 then (
 K (.int .i64 (xar .rem .i64 (xar .quo .i64 a 1) 1)) [] [])
 else (
 bif xcm .gtr n 16 then (
 K (.int .i64 (xar .rem .i64 (xar .quo .i64 a 1) 16)) [] [])
 else (
 bif xcm .neq n 0 then
 K (.int .i64 (xar .rem .i64 (xar .quo .i64 a 1) n)) [] [] else False)))
 else (
 bif xcm .gtr w 16 then (
 bif xcm .lss n 1 then (
 K (.int .i64 (xar .rem .i64 (xar .quo .i64 a 16) 1)) [] [])
 else (
 bif xcm .gtr n 16 then (
 K (.int .i64 (xar .rem .i64 (xar .quo .i64 a 16) 16)) [] [])
 else (
 bif xcm .neq n 0 then
 K (.int .i64 (xar .rem .i64 (xar .quo .i64 a 16) n)) [] [] else False)))
 else (
 bif xcm .neq w 0 then bif xcm .lss n 1 then (
 K (.int .i64 (xar .rem .i64 (xar .quo .i64 a w) 1)) [] [])
 else (
 bif xcm .gtr n 16 then (
 K (.int .i64 (xar .rem .i64 (xar .quo .i64 a w) 16)) [] [])
 else (
 bif xcm .neq n 0 then
 K (.int .i64 (xar .rem .i64 (xar .quo .i64 a w) n)) [] [] else False)) else False)))) := by kernel_rfl
def hld (n : Int) : Int := if n < 1 then 1 else if 16 < n then 16 else n
def ofV (a n w : Int) : Int := if a < 0 then -1 else (lwrap .i64 (a.tdiv (hld w))).tmod (hld n)

def ofG : Gc := fun args s => match args, s.g with
  | [.int .i64 a, .int .i64 n, .int .i64 w], [] => some ([], .int .i64 (ofV a n w), s)
  | _, _ => none
theorem hld_in (n : Int) : 1 ≤ hld n ∧ hld n ≤ 16 := by simp only [hld]; split <;> (try split) <;> omega
theorem of_num {a n w : Int} (hw : 1 ≤ w) (hn : 1 ≤ n) : xar .rem .i64 (xar .quo .i64 a w) n = (lwrap .i64 (a.tdiv w)).tmod n := by
  rw [xar_quo _ _ _ (by omega), xar_rem _ _ _ (by omega)]
theorem ofV_lt (a n w : Int) : ofV a n w < 16 := by
  simp only [ofV]
  split
  · omega
  · have h1 := hld_in n
    have h5 : (lwrap .i64 (a.tdiv (hld w))).tmod (hld n) < hld n := (tmod_pos _ _ (by omega)).2.1
    omega
theorem of_ok (a n w : Int) : SFun Go.Proofs.Try.prog 67 [.int .i64 a, .int .i64 n, .int .i64 w] (mkS []) fun l s => l = .int .i64 (ofV a n w) ∧ s = mkS [] := by
  refine SFun.mono (SFun.vc (Q := fun l b => l = .int .i64 (ofV a n w) ∧ b = []) noCx_ok (n := 40) 0 rfl ?_) fun l s' ⟨b0, ⟨h1, h2⟩, h3⟩ => ⟨h1, by rw [h3, h2]⟩
  have hc : ∀ n : Int, xmn (xmx n 1) 16 = hld n := fun n => by simp only [hld, wd_mn, wd_mx]; split <;> split <;> (try split) <;> omega
  have k1 := hld_in n
  have k2 := hld_in w
  rw [of_x, hc, hc, xcm_lss]
  refine ite_way (fun h0 => ?_) (fun h0 => ?_)
  · simp only [ofV, if_pos h0]; exact ⟨rfl, _, [], [], ⟨rfl, rfl⟩, by (refine ⟨by kernel_rfl, ?_, ?_⟩ <;> repeat first | exact okTms_nil | refine okTms_cons ?_ ?_ | exact okBlks_nil | refine okBlks_cons ?_ ?_ | exact lws_nil | refine lws_cons ?_ ?_ | exact lb_dead | exact zy1 | exact zy2 | exact lb_none | refine zy3 ?_ | exact zy4 | exact lw_any | exact lw_int | exact lw_bool | exact zy5 | exact zy6 | exact lw_nils | exact lw_slo_nils | exact zy7 | exact zy8 | exact zy9 | refine lw_tup ?_ | refine lw_agg ?_ | assumption)⟩
  · (repeat (with_reducible refine must (by (first | with_reducible rfl | exact t_le (by omega) | exact t_eq (by omega) | exact t_nn (by omega) | exact t_lss (by omega) | exact t_leq (by omega) | exact t_gtr (by omega) | exact t_geq (by omega) | exact t_eql (by omega) | exact t_neq (by omega) | exact t_z (by omega) | exact wd_not_f | assumption)) ?_))
    rw [of_num k2.1 k1.1]
    simp only [ofV, if_neg h0]; exact ⟨rfl, _, [], [], ⟨rfl, rfl⟩, by (refine ⟨by kernel_rfl, ?_, ?_⟩ <;> repeat first | exact okTms_nil | refine okTms_cons ?_ ?_ | exact okBlks_nil | refine okBlks_cons ?_ ?_ | exact lws_nil | refine lws_cons ?_ ?_ | exact lb_dead | exact zy1 | exact zy2 | exact lb_none | refine zy3 ?_ | exact zy4 | exact lw_any | exact lw_int | exact lw_bool | exact zy5 | exact zy6 | exact lw_nils | exact lw_slo_nils | exact zy7 | exact zy8 | exact zy9 | refine lw_tup ?_ | refine lw_agg ?_ | assumption)⟩
theorem of_ok' (a n w : Int) : SFun Go.Proofs.Try.prog 26 [.int .i64 a, .int .i64 n, .int .i64 w] (mkS []) fun l s => l = .int .i64 (ofV a n w) ∧ s = mkS [] := by
  refine SFun.mono (SFun.vc (Q := fun l b => l = .int .i64 (ofV a n w) ∧ b = []) noCx_ok (n := 40) 0 rfl ?_) fun l s' ⟨b0, ⟨h1, h2⟩, h3⟩ => ⟨h1, by rw [h3, h2]⟩
  rw [of_y]
  simp only [xcm_lss, xcm_gtr, ofV]
  refine ite_way (fun h0 => ?_) (fun h0 => ?_)
  · rw [if_pos h0]; exact ⟨rfl, _, [], [], ⟨rfl, rfl⟩, by (refine ⟨by kernel_rfl, ?_, ?_⟩ <;> repeat first | exact okTms_nil | refine okTms_cons ?_ ?_ | exact okBlks_nil | refine okBlks_cons ?_ ?_ | exact lws_nil | refine lws_cons ?_ ?_ | exact lb_dead | exact zy1 | exact zy2 | exact lb_none | refine zy3 ?_ | exact zy4 | exact lw_any | exact lw_int | exact lw_bool | exact zy5 | exact zy6 | exact lw_nils | exact lw_slo_nils | exact zy7 | exact zy8 | exact zy9 | refine lw_tup ?_ | refine lw_agg ?_ | assumption)⟩
  rw [if_neg h0]
  simp only [hld]
  refine ite_way (fun hw => ?_) (fun hw => ?_)
  · rw [if_pos hw]
    refine ite_way (fun hn => ?_) (fun hn => ?_)
    · rw [if_pos hn, of_num (by omega) (by omega)]; exact ⟨rfl, _, [], [], ⟨rfl, rfl⟩, by (refine ⟨by kernel_rfl, ?_, ?_⟩ <;> repeat first | exact okTms_nil | refine okTms_cons ?_ ?_ | exact okBlks_nil | refine okBlks_cons ?_ ?_ | exact lws_nil | refine lws_cons ?_ ?_ | exact lb_dead | exact zy1 | exact zy2 | exact lb_none | refine zy3 ?_ | exact zy4 | exact lw_any | exact lw_int | exact lw_bool | exact zy5 | exact zy6 | exact lw_nils | exact lw_slo_nils | exact zy7 | exact zy8 | exact zy9 | refine lw_tup ?_ | refine lw_agg ?_ | assumption)⟩
    · rw [if_neg hn]
      refine ite_way (fun hm => ?_) (fun hm => ?_)
      · rw [if_pos hm, of_num (by omega) (by omega)]; exact ⟨rfl, _, [], [], ⟨rfl, rfl⟩, by (refine ⟨by kernel_rfl, ?_, ?_⟩ <;> repeat first | exact okTms_nil | refine okTms_cons ?_ ?_ | exact okBlks_nil | refine okBlks_cons ?_ ?_ | exact lws_nil | refine lws_cons ?_ ?_ | exact lb_dead | exact zy1 | exact zy2 | exact lb_none | refine zy3 ?_ | exact zy4 | exact lw_any | exact lw_int | exact lw_bool | exact zy5 | exact zy6 | exact lw_nils | exact lw_slo_nils | exact zy7 | exact zy8 | exact zy9 | refine lw_tup ?_ | refine lw_agg ?_ | assumption)⟩
      · rw [if_neg hm]; (repeat (with_reducible refine must (by (first | with_reducible rfl | exact t_le (by omega) | exact t_eq (by omega) | exact t_nn (by omega) | exact t_lss (by omega) | exact t_leq (by omega) | exact t_gtr (by omega) | exact t_geq (by omega) | exact t_eql (by omega) | exact t_neq (by omega) | exact t_z (by omega) | exact wd_not_f | assumption)) ?_))
        rw [of_num (by omega) (by omega)]; exact ⟨rfl, _, [], [], ⟨rfl, rfl⟩, by (refine ⟨by kernel_rfl, ?_, ?_⟩ <;> repeat first | exact okTms_nil | refine okTms_cons ?_ ?_ | exact okBlks_nil | refine okBlks_cons ?_ ?_ | exact lws_nil | refine lws_cons ?_ ?_ | exact lb_dead | exact zy1 | exact zy2 | exact lb_none | refine zy3 ?_ | exact zy4 | exact lw_any | exact lw_int | exact lw_bool | exact zy5 | exact zy6 | exact lw_nils | exact lw_slo_nils | exact zy7 | exact zy8 | exact zy9 | refine lw_tup ?_ | refine lw_agg ?_ | assumption)⟩
  rw [if_neg hw]
  refine ite_way (fun hv => ?_) (fun hv => ?_)
  · rw [if_pos hv]
    refine ite_way (fun hn => ?_) (fun hn => ?_)
    · rw [if_pos hn, of_num (by omega) (by omega)]; exact ⟨rfl, _, [], [], ⟨rfl, rfl⟩, by (refine ⟨by kernel_rfl, ?_, ?_⟩ <;> repeat first | exact okTms_nil | refine okTms_cons ?_ ?_ | exact okBlks_nil | refine okBlks_cons ?_ ?_ | exact lws_nil | refine lws_cons ?_ ?_ | exact lb_dead | exact zy1 | exact zy2 | exact lb_none | refine zy3 ?_ | exact zy4 | exact lw_any | exact lw_int | exact lw_bool | exact zy5 | exact zy6 | exact lw_nils | exact lw_slo_nils | exact zy7 | exact zy8 | exact zy9 | refine lw_tup ?_ | refine lw_agg ?_ | assumption)⟩
    · rw [if_neg hn]
      refine ite_way (fun hm => ?_) (fun hm => ?_)
      · rw [if_pos hm, of_num (by omega) (by omega)]; exact ⟨rfl, _, [], [], ⟨rfl, rfl⟩, by (refine ⟨by kernel_rfl, ?_, ?_⟩ <;> repeat first | exact okTms_nil | refine okTms_cons ?_ ?_ | exact okBlks_nil | refine okBlks_cons ?_ ?_ | exact lws_nil | refine lws_cons ?_ ?_ | exact lb_dead | exact zy1 | exact zy2 | exact lb_none | refine zy3 ?_ | exact zy4 | exact lw_any | exact lw_int | exact lw_bool | exact zy5 | exact zy6 | exact lw_nils | exact lw_slo_nils | exact zy7 | exact zy8 | exact zy9 | refine lw_tup ?_ | refine lw_agg ?_ | assumption)⟩
      · rw [if_neg hm]; (repeat (with_reducible refine must (by (first | with_reducible rfl | exact t_le (by omega) | exact t_eq (by omega) | exact t_nn (by omega) | exact t_lss (by omega) | exact t_leq (by omega) | exact t_gtr (by omega) | exact t_geq (by omega) | exact t_eql (by omega) | exact t_neq (by omega) | exact t_z (by omega) | exact wd_not_f | assumption)) ?_))
        rw [of_num (by omega) (by omega)]; exact ⟨rfl, _, [], [], ⟨rfl, rfl⟩, by (refine ⟨by kernel_rfl, ?_, ?_⟩ <;> repeat first | exact okTms_nil | refine okTms_cons ?_ ?_ | exact okBlks_nil | refine okBlks_cons ?_ ?_ | exact lws_nil | refine lws_cons ?_ ?_ | exact lb_dead | exact zy1 | exact zy2 | exact lb_none | refine zy3 ?_ | exact zy4 | exact lw_any | exact lw_int | exact lw_bool | exact zy5 | exact zy6 | exact lw_nils | exact lw_slo_nils | exact zy7 | exact zy8 | exact zy9 | refine lw_tup ?_ | refine lw_agg ?_ | assumption)⟩
  rw [if_neg hv]
  (repeat (with_reducible refine must (by (first | with_reducible rfl | exact t_le (by omega) | exact t_eq (by omega) | exact t_nn (by omega) | exact t_lss (by omega) | exact t_leq (by omega) | exact t_gtr (by omega) | exact t_geq (by omega) | exact t_eql (by omega) | exact t_neq (by omega) | exact t_z (by omega) | exact wd_not_f | assumption)) ?_))
  refine ite_way (fun hn => ?_) (fun hn => ?_)
  · rw [if_pos hn, of_num (by omega) (by omega)]; exact ⟨rfl, _, [], [], ⟨rfl, rfl⟩, by (refine ⟨by kernel_rfl, ?_, ?_⟩ <;> repeat first | exact okTms_nil | refine okTms_cons ?_ ?_ | exact okBlks_nil | refine okBlks_cons ?_ ?_ | exact lws_nil | refine lws_cons ?_ ?_ | exact lb_dead | exact zy1 | exact zy2 | exact lb_none | refine zy3 ?_ | exact zy4 | exact lw_any | exact lw_int | exact lw_bool | exact zy5 | exact zy6 | exact lw_nils | exact lw_slo_nils | exact zy7 | exact zy8 | exact zy9 | refine lw_tup ?_ | refine lw_agg ?_ | assumption)⟩
  · rw [if_neg hn]
    refine ite_way (fun hm => ?_) (fun hm => ?_)
    · rw [if_pos hm, of_num (by omega) (by omega)]; exact ⟨rfl, _, [], [], ⟨rfl, rfl⟩, by (refine ⟨by kernel_rfl, ?_, ?_⟩ <;> repeat first | exact okTms_nil | refine okTms_cons ?_ ?_ | exact okBlks_nil | refine okBlks_cons ?_ ?_ | exact lws_nil | refine lws_cons ?_ ?_ | exact lb_dead | exact zy1 | exact zy2 | exact lb_none | refine zy3 ?_ | exact zy4 | exact lw_any | exact lw_int | exact lw_bool | exact zy5 | exact zy6 | exact lw_nils | exact lw_slo_nils | exact zy7 | exact zy8 | exact zy9 | refine lw_tup ?_ | refine lw_agg ?_ | assumption)⟩
    · rw [if_neg hm]; (repeat (with_reducible refine must (by (first | with_reducible rfl | exact t_le (by omega) | exact t_eq (by omega) | exact t_nn (by omega) | exact t_lss (by omega) | exact t_leq (by omega) | exact t_gtr (by omega) | exact t_geq (by omega) | exact t_eql (by omega) | exact t_neq (by omega) | exact t_z (by omega) | exact wd_not_f | assumption)) ?_))
      rw [of_num (by omega) (by omega)]; exact ⟨rfl, _, [], [], ⟨rfl, rfl⟩, by (refine ⟨by kernel_rfl, ?_, ?_⟩ <;> repeat first | exact okTms_nil | refine okTms_cons ?_ ?_ | exact okBlks_nil | refine okBlks_cons ?_ ?_ | exact lws_nil | refine lws_cons ?_ ?_ | exact lb_dead | exact zy1 | exact zy2 | exact lb_none | refine zy3 ?_ | exact zy4 | exact lw_any | exact lw_int | exact lw_bool | exact zy5 | exact zy6 | exact lw_nils | exact lw_slo_nils | exact zy7 | exact zy8 | exact zy9 | refine lw_tup ?_ | refine lw_agg ?_ | assumption)⟩
theorem ofG_ok : GOk Go.Proofs.Try.prog 67 ofG := by
  intro args s bs l s' hg hb hfr
  unfold ofG at hg
  split at hg
  · rename_i a n w hgl
    simp only [Option.some.injEq, Prod.mk.injEq] at hg
    obtain ⟨rfl, rfl, rfl⟩ := hg
    exact SFun.pure hfr hgl rfl rfl (of_ok a n w)
  · cases hg
theorem ofG_ok' : GOk Go.Proofs.Try.prog 26 ofG := by
  intro args s bs l s' hg hb hfr
  unfold ofG at hg
  split at hg
  · rename_i a n w hgl
    simp only [Option.some.injEq, Prod.mk.injEq] at hg
    obtain ⟨rfl, rfl, rfl⟩ := hg
    exact SFun.pure hfr hgl rfl rfl (of_ok' a n w)
  · cases hg
end
end Go.Lev
