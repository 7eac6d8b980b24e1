/- the draws of programs: a simple instruction -/
import Derived.Test.YtnpcobjiaimbhaaDoorCW3
import Derived.Test.YtnpcobjiaimbhaaDoorLc
import Derived.Test.YtnpcobjiaimbhaaDoorChecked
import Derived.KernelRfl

namespace Go.Lev
open Go.RowKit
set_option linter.unusedVariables false
set_option linter.unusedSimpArgs false
set_option maxRecDepth 100000
noncomputable section
/-! Within -/
theorem within_x (a lo hi : Int) (K : Fk) : (xfun Go.Proofs.Tryd.prog (fun _ => none) 40 14 [.int .i64 a, .int .i64 lo, .int .i64 hi] (mkS []) (vF K)) = (
 bif xcm .neq (xar .add .i64 (xar .sub .i64 hi lo) 1) 0 then
 bif xcm .lss (xar .rem .i64 a (xar .add .i64 (xar .sub .i64 hi lo) 1)) 0 then (
 K (.int .i64 (xar .add .i64 lo (xar .add .i64 (xar .sub .i64 (xar .add .i64 (xar .rem .i64 a (xar .add .i64 (xar .sub .i64 hi lo) 1)) hi) lo) 1))) [] [])
 else (
 K (.int .i64 (xar .add .i64 lo (xar .rem .i64 a (xar .add .i64 (xar .sub .i64 hi lo) 1)))) [] [])
 else False) := by kernel_rfl
def wthV (a lo hi : Int) : Int := lo + a % (hi - lo + 1)

def withinG : Gc := fun args s => match args, s.g with
  | [.int .i64 a, .int .i64 lo, .int .i64 hi], [] => some ([xcm .leq lo hi, xcm .leq (-1000000) lo, xcm .leq hi 1000000], .int .i64 (wthV a lo hi), s)
  | _, _ => none
theorem tmod_pos (a m : Int) (hm : 0 < m) : -m < a.tmod m ∧ a.tmod m < m ∧ (a.tmod m = a % m ∨ (a.tmod m < 0 ∧ a.tmod m + m = a % m)) := by
  have hb := Int.emod_nonneg a (b := m) (by omega)
  have hc := Int.emod_lt_of_pos a hm
  rcases Int.lt_or_le a 0 with h | h
  · have e : a.tmod m = -((-a).tmod m) := by have := Int.neg_tmod (-a) m; rw [Int.neg_neg] at this; exact this
    have h6 : 0 ≤ (-a).tmod m := Int.tmod_nonneg _ (by omega)
    have h7 : (-a).tmod m < m := Int.tmod_lt_of_pos _ hm
    refine ⟨by omega, by omega, ?_⟩
    have h8 : m ∣ a - a.tmod m := Int.dvd_self_sub_tmod
    have h9 : m ∣ a - a % m := Int.dvd_self_sub_emod
    obtain ⟨u, hu⟩ := h8
    obtain ⟨v, hv⟩ := h9
    have hd : a % m - a.tmod m = m * (u - v) := by rw [Int.mul_sub]; omega
    by_cases h0 : u - v ≤ -1
    · have : m * (u - v) ≤ m * (-1) := Int.mul_le_mul_of_nonneg_left h0 (by omega)
      omega
    · by_cases h1 : u - v = 0
      · rw [h1] at hd; simp at hd; exact .inl (by omega)
      · by_cases h2 : u - v = 1
        · rw [h2] at hd; simp at hd; exact .inr ⟨by omega, by omega⟩
        · have : m * 2 ≤ m * (u - v) := Int.mul_le_mul_of_nonneg_left (by omega) (by omega)
          omega
  · have h6 := Int.tmod_nonneg m h
    exact ⟨by omega, Int.tmod_lt_of_pos _ hm, .inl (Int.tmod_eq_emod_of_nonneg h)⟩
theorem wthV_in {a lo hi : Int} (h : lo ≤ hi) : lo ≤ wthV a lo hi ∧ wthV a lo hi ≤ hi := by
  simp only [wthV]
  have hb := Int.emod_nonneg a (b := hi - lo + 1) (by omega)
  have hc := Int.emod_lt_of_pos a (b := hi - lo + 1) (by omega)
  omega
theorem within_ok (a lo hi : Int) (h : lo ≤ hi) (h1 : -1000000 ≤ lo) (h2 : hi ≤ 1000000) : SFun Go.Proofs.Tryd.prog 14 [.int .i64 a, .int .i64 lo, .int .i64 hi] (mkS []) fun l s => l = .int .i64 (wthV a lo hi) ∧ s = mkS [] := by
  refine SFun.mono (SFun.vc (Q := fun l b => l = .int .i64 (wthV a lo hi) ∧ b = []) noCx_ok (n := 40) 0 rfl ?_) fun l s' ⟨b0, ⟨h1, h2⟩, h3⟩ => ⟨h1, by rw [h3, h2]⟩
  have hq := Int.emod_nonneg a (b := hi - lo + 1) (by omega)
  have e1 : xar .sub .i64 hi lo = hi - lo := sub_i64 (by omega) (by omega)
  have e2 : xar .add .i64 (hi - lo) 1 = hi - lo + 1 := add_i64 (by omega) (by omega)
  have e3 : xar .rem .i64 a (hi - lo + 1) = a.tmod (hi - lo + 1) := xar_rem _ _ _ (by omega)
  obtain ⟨t1, t2, t3⟩ := tmod_pos a (hi - lo + 1) (by omega)
  rw [within_x, e1, e2, e3]
  refine must (t_neq (by omega)) ?_
  rw [xcm_lss]
  refine ite_way (fun hn => ?_) (fun hn => ?_)
  · have e : xar .add .i64 lo (xar .add .i64 (xar .sub .i64 (xar .add .i64 (a.tmod (hi - lo + 1)) hi) lo) 1) = wthV a lo hi := by
      simp only [wthV]
      rw [add_i64 (x := a.tmod (hi - lo + 1)) (by omega) (by omega), sub_i64 (by omega) (by omega), add_i64 (x := a.tmod (hi - lo + 1) + hi - lo) (by omega) (by omega), add_i64 (by omega) (by omega)]
      omega
    rw [e]
    exact ⟨rfl, _, [], [], ⟨rfl, rfl⟩, by (refine ⟨by kernel_rfl, ?_, ?_⟩ <;> repeat first | exact okTms_nil | refine okTms_cons ?_ ?_ | exact okBlks_nil | refine okBlks_cons ?_ ?_ | exact lws_nil | refine lws_cons ?_ ?_ | exact lb_dead | exact zy1 | exact zy2 | exact lb_none | refine zy3 ?_ | exact zy4 | exact lw_any | exact lw_int | exact lw_bool | exact zy5 | exact zy6 | exact lw_nils | exact lw_slo_nils | exact zy7 | exact zy8 | exact zy9 | refine lw_tup ?_ | refine lw_agg ?_ | assumption)⟩
  · have e : xar .add .i64 lo (a.tmod (hi - lo + 1)) = wthV a lo hi := by
      simp only [wthV]
      rw [add_i64 (by omega) (by omega)]; omega
    rw [e]
    exact ⟨rfl, _, [], [], ⟨rfl, rfl⟩, by (refine ⟨by kernel_rfl, ?_, ?_⟩ <;> repeat first | exact okTms_nil | refine okTms_cons ?_ ?_ | exact okBlks_nil | refine okBlks_cons ?_ ?_ | exact lws_nil | refine lws_cons ?_ ?_ | exact lb_dead | exact zy1 | exact zy2 | exact lb_none | refine zy3 ?_ | exact zy4 | exact lw_any | exact lw_int | exact lw_bool | exact zy5 | exact zy6 | exact lw_nils | exact lw_slo_nils | exact zy7 | exact zy8 | exact zy9 | refine lw_tup ?_ | refine lw_agg ?_ | assumption)⟩
theorem withinG_ok : GOk Go.Proofs.Tryd.prog 14 withinG := by
  intro args s bs l s' hg hb hfr
  unfold withinG at hg
  split at hg
  · rename_i a lo hi hgl
    simp only [Option.some.injEq, Prod.mk.injEq] at hg
    obtain ⟨rfl, rfl, rfl⟩ := hg
    obtain ⟨k1, hb⟩ := allT_cons.1 hb
    obtain ⟨k2, hb⟩ := allT_cons.1 hb
    have k3 := (allT_cons.1 hb).1
    rw [xcm_leq, decide_eq_true_eq] at k1 k2 k3
    exact SFun.pure hfr hgl rfl rfl (within_ok a lo hi k1 k2 k3)
  · cases hg

def cxS1 : Cx := cxl [(14, withinG)]
theorem cxS1_ok : CtrOk Go.Proofs.Tryd.prog (ctrOf cxS1) := cxl_ok ⟨withinG_ok, trivial⟩
theorem reg_t (n : Int) (K : Fk) : (xfun Go.Proofs.Tryd.prog cxS1 40 18 [.int .i64 n] (mkS []) (vF K)) = (
 K (.int .i64 (wthV n 0 6)) [] []) := by kernel_rfl
abbrev smp_t_b1 (w : Int) (a : Int) (b : Int) (c : Int) (n : Int) : List (Option LB) := [some (.cells [.int .i64 w, .int .i64 a, .int .i64 b, .int .i64 c, .int .u64 n] none), some (.cells [.int .i64 8, .int .i64 (wthV a 0 6), .int .i64 7, .int .i64 (wthV c 6 15), .int .u64 0] none)]
abbrev smp_t_b2 (w : Int) (a : Int) (b : Int) (c : Int) (n : Int) : List (Option LB) := [some (.cells [.int .i64 w, .int .i64 a, .int .i64 b, .int .i64 c, .int .u64 n] none), some (.cells [.int .i64 10, .int .i64 (wthV a 0 6), .int .i64 (wthV b 0 6), .int .i64 0, .int .u64 0] none)]
abbrev smp_t_b3 (w : Int) (a : Int) (b : Int) (c : Int) (n : Int) : List (Option LB) := [some (.cells [.int .i64 w, .int .i64 a, .int .i64 b, .int .i64 c, .int .u64 n] none), some (.cells [.int .i64 11, .int .i64 (wthV a 0 6), .int .i64 0, .int .i64 0, .int .u64 0] none)]
abbrev smp_t_b4 (w : Int) (a : Int) (b : Int) (c : Int) (n : Int) : List (Option LB) := [some (.cells [.int .i64 w, .int .i64 a, .int .i64 b, .int .i64 c, .int .u64 n] none), some (.cells [.int .i64 21, .int .i64 (wthV a 0 6), .int .i64 0, .int .i64 0, .int .u64 0] none)]
abbrev smp_t_b5 (w : Int) (a : Int) (b : Int) (c : Int) (n : Int) : List (Option LB) := [some (.cells [.int .i64 w, .int .i64 a, .int .i64 b, .int .i64 c, .int .u64 n] none), some (.cells [.int .i64 8, .int .i64 (wthV a 0 6), .int .i64 (wthV b 0 6), .int .i64 (wthV c 0 3), .int .u64 0] none)]
abbrev smp_t_b6 (w : Int) (a : Int) (b : Int) (c : Int) (n : Int) : List (Option LB) := [some (.cells [.int .i64 w, .int .i64 a, .int .i64 b, .int .i64 c, .int .u64 n] none), some (.cells [.int .i64 9, .int .i64 (wthV a 0 6), .int .i64 (wthV b 0 6), .int .i64 (wthV c 0 3), .int .u64 0] none)]
abbrev smp_t_b7 (w : Int) (a : Int) (b : Int) (c : Int) (n : Int) : List (Option LB) := [some (.cells [.int .i64 w, .int .i64 a, .int .i64 b, .int .i64 c, .int .u64 n] none), some (.cells [.int .i64 9, .int .i64 7, .int .i64 (wthV b 0 6), .int .i64 (wthV c 6 15), .int .u64 0] none)]
abbrev smp_t_b8 (w : Int) (a : Int) (b : Int) (c : Int) (n : Int) : List (Option LB) := [some (.cells [.int .i64 w, .int .i64 a, .int .i64 b, .int .i64 c, .int .u64 n] none), some (.cells [.int .i64 (xar .add .i64 3 (wthV (xwr .i64 (xar .rem .u64 n 64)) 0 4)), .int .i64 (wthV a 0 6), .int .i64 (wthV b 0 6), .int .i64 (wthV c 0 6), .int .u64 0] none)]
abbrev smp_t_b9 (w : Int) (a : Int) (b : Int) (c : Int) (n : Int) : List (Option LB) := [some (.cells [.int .i64 w, .int .i64 a, .int .i64 b, .int .i64 c, .int .u64 n] none), some (.cells [.int .i64 1, .int .i64 (wthV a 0 6), .int .i64 0, .int .i64 0, .int .u64 (xar .rem .u64 n 20)] none)]
abbrev smp_t_b10 (w : Int) (a : Int) (b : Int) (c : Int) (n : Int) : List (Option LB) := [some (.cells [.int .i64 w, .int .i64 a, .int .i64 b, .int .i64 c, .int .u64 n] none), some (.cells [.int .i64 2, .int .i64 (wthV a 0 6), .int .i64 (wthV b 0 6), .int .i64 0, .int .u64 0] none)]
abbrev smp_t_b11 (w : Int) (a : Int) (b : Int) (c : Int) (n : Int) : List (Option LB) := [some (.cells [.int .i64 w, .int .i64 a, .int .i64 b, .int .i64 c, .int .u64 n] none), some (.cells [.int .i64 1, .int .i64 (wthV a 0 6), .int .i64 0, .int .i64 0, .int .u64 n] none)]
abbrev smp_t_b12 (a : Int) (c : Int) : LV := (.agg [.int .i64 8, .int .i64 (wthV a 0 6), .int .i64 7, .int .i64 (wthV c 6 15), .int .u64 0])
abbrev smp_t_b13 (a : Int) (b : Int) : LV := (.agg [.int .i64 10, .int .i64 (wthV a 0 6), .int .i64 (wthV b 0 6), .int .i64 0, .int .u64 0])
abbrev smp_t_b14 (a : Int) : LV := (.agg [.int .i64 11, .int .i64 (wthV a 0 6), .int .i64 0, .int .i64 0, .int .u64 0])
abbrev smp_t_b15 (a : Int) : LV := (.agg [.int .i64 21, .int .i64 (wthV a 0 6), .int .i64 0, .int .i64 0, .int .u64 0])
abbrev smp_t_b16 (a : Int) (b : Int) (c : Int) : LV := (.agg [.int .i64 8, .int .i64 (wthV a 0 6), .int .i64 (wthV b 0 6), .int .i64 (wthV c 0 3), .int .u64 0])
abbrev smp_t_b17 (a : Int) (b : Int) (c : Int) : LV := (.agg [.int .i64 9, .int .i64 (wthV a 0 6), .int .i64 (wthV b 0 6), .int .i64 (wthV c 0 3), .int .u64 0])
abbrev smp_t_b18 (b : Int) (c : Int) : LV := (.agg [.int .i64 9, .int .i64 7, .int .i64 (wthV b 0 6), .int .i64 (wthV c 6 15), .int .u64 0])
abbrev smp_t_b19 (a : Int) (b : Int) (c : Int) (n : Int) : LV := (.agg [.int .i64 (xar .add .i64 3 (wthV (xwr .i64 (xar .rem .u64 n 64)) 0 4)), .int .i64 (wthV a 0 6), .int .i64 (wthV b 0 6), .int .i64 (wthV c 0 6), .int .u64 0])
abbrev smp_t_b20 (a : Int) (n : Int) : LV := (.agg [.int .i64 1, .int .i64 (wthV a 0 6), .int .i64 0, .int .i64 0, .int .u64 (xar .rem .u64 n 20)])
abbrev smp_t_b21 (a : Int) (b : Int) : LV := (.agg [.int .i64 2, .int .i64 (wthV a 0 6), .int .i64 (wthV b 0 6), .int .i64 0, .int .u64 0])
abbrev smp_t_b22 (a : Int) (n : Int) : LV := (.agg [.int .i64 1, .int .i64 (wthV a 0 6), .int .i64 0, .int .i64 0, .int .u64 n])
theorem smp_t (w a b c n : Int) (K : Fk) : (xfun Go.Proofs.Tryd.prog cxS1 60 19 [.agg [.int .i64 w, .int .i64 a, .int .i64 b, .int .i64 c, .int .u64 n]] (mkS []) (vF K)) = (
 bif xcm .eql b b then
 bif xcm .eql b b then
 bif xcm .eql c c then
 bif xcm .eql c c then
 bif xcm .eql c c then
 bif xcm .eql c c then
 bif xcm .eql (wthV w 0 19) 0 then (
 bif xcm .eql (wthV w 0 19) 0 then (
 K (smp_t_b22 a n) (smp_t_b11 w a b c n) [])
 else (
 bif xcm .eql (wthV w 0 19) 2 then (
 K (smp_t_b20 a n) (smp_t_b9 w a b c n) [])
 else (
 bif xcm .eql (wthV w 0 19) 3 then (
 K (smp_t_b21 a b) (smp_t_b10 w a b c n) [])
 else (
 bif xcm .eql (wthV w 0 19) 4 then (
 K (smp_t_b19 a b c n) (smp_t_b8 w a b c n) [])
 else (
 bif xcm .eql (wthV w 0 19) 5 then (
 bif xcm .eql (wthV w 0 19) 5 then (
 K (smp_t_b12 a c) (smp_t_b1 w a b c n) [])
 else (
 bif xcm .eql (wthV w 0 19) 8 then (
 bif xcm .eql (wthV w 0 19) 8 then (
 K (smp_t_b18 b c) (smp_t_b7 w a b c n) [])
 else (
 bif xcm .eql (wthV w 0 19) 11 then (
 K (smp_t_b16 a b c) (smp_t_b5 w a b c n) [])
 else (
 bif xcm .eql (wthV w 0 19) 12 then (
 K (smp_t_b17 a b c) (smp_t_b6 w a b c n) [])
 else (
 bif xcm .eql (wthV w 0 19) 13 then (
 bif xcm .eql (wthV w 0 19) 13 then (
 K (smp_t_b13 a b) (smp_t_b2 w a b c n) [])
 else (
 bif xcm .eql (wthV w 0 19) 15 then (
 K (smp_t_b14 a) (smp_t_b3 w a b c n) [])
 else (
 bif xcm .eql (wthV w 0 19) 16 then (
 K (smp_t_b12 a c) (smp_t_b1 w a b c n) [])
 else (
 K (smp_t_b15 a) (smp_t_b4 w a b c n) []))))
 else (
 bif xcm .eql (wthV w 0 19) 14 then (
 K (smp_t_b13 a b) (smp_t_b2 w a b c n) [])
 else (
 bif xcm .eql (wthV w 0 19) 15 then (
 K (smp_t_b14 a) (smp_t_b3 w a b c n) [])
 else (
 bif xcm .eql (wthV w 0 19) 16 then (
 K (smp_t_b12 a c) (smp_t_b1 w a b c n) [])
 else (
 K (smp_t_b15 a) (smp_t_b4 w a b c n) []))))))))
 else (
 bif xcm .eql (wthV w 0 19) 9 then (
 bif xcm .eql (wthV w 0 19) 9 then (
 K (smp_t_b18 b c) (smp_t_b7 w a b c n) [])
 else (
 bif xcm .eql (wthV w 0 19) 11 then (
 K (smp_t_b16 a b c) (smp_t_b5 w a b c n) [])
 else (
 bif xcm .eql (wthV w 0 19) 12 then (
 K (smp_t_b17 a b c) (smp_t_b6 w a b c n) [])
 else (
 bif xcm .eql (wthV w 0 19) 13 then (
 bif xcm .eql (wthV w 0 19) 13 then (
 K (smp_t_b13 a b) (smp_t_b2 w a b c n) [])
 else (
 bif xcm .eql (wthV w 0 19) 15 then (
 K (smp_t_b14 a) (smp_t_b3 w a b c n) [])
 else (
 bif xcm .eql (wthV w 0 19) 16 then (
 K (smp_t_b12 a c) (smp_t_b1 w a b c n) [])
 else (
 K (smp_t_b15 a) (smp_t_b4 w a b c n) []))))
 else (
 bif xcm .eql (wthV w 0 19) 14 then (
 K (smp_t_b13 a b) (smp_t_b2 w a b c n) [])
 else (
 bif xcm .eql (wthV w 0 19) 15 then (
 K (smp_t_b14 a) (smp_t_b3 w a b c n) [])
 else (
 bif xcm .eql (wthV w 0 19) 16 then (
 K (smp_t_b12 a c) (smp_t_b1 w a b c n) [])
 else (
 K (smp_t_b15 a) (smp_t_b4 w a b c n) []))))))))
 else (
 bif xcm .eql (wthV w 0 19) 10 then (
 K (smp_t_b18 b c) (smp_t_b7 w a b c n) [])
 else (
 bif xcm .eql (wthV w 0 19) 11 then (
 K (smp_t_b16 a b c) (smp_t_b5 w a b c n) [])
 else (
 bif xcm .eql (wthV w 0 19) 12 then (
 K (smp_t_b17 a b c) (smp_t_b6 w a b c n) [])
 else (
 bif xcm .eql (wthV w 0 19) 13 then (
 bif xcm .eql (wthV w 0 19) 13 then (
 K (smp_t_b13 a b) (smp_t_b2 w a b c n) [])
 else (
 bif xcm .eql (wthV w 0 19) 15 then (
 K (smp_t_b14 a) (smp_t_b3 w a b c n) [])
 else (
 bif xcm .eql (wthV w 0 19) 16 then (
 K (smp_t_b12 a c) (smp_t_b1 w a b c n) [])
 else (
 K (smp_t_b15 a) (smp_t_b4 w a b c n) []))))
 else (
 bif xcm .eql (wthV w 0 19) 14 then (
 K (smp_t_b13 a b) (smp_t_b2 w a b c n) [])
 else (
 bif xcm .eql (wthV w 0 19) 15 then (
 K (smp_t_b14 a) (smp_t_b3 w a b c n) [])
 else (
 bif xcm .eql (wthV w 0 19) 16 then (
 K (smp_t_b12 a c) (smp_t_b1 w a b c n) [])
 else (
 K (smp_t_b15 a) (smp_t_b4 w a b c n) [])))))))))))
 else (
 bif xcm .eql (wthV w 0 19) 6 then (
 bif xcm .eql (wthV w 0 19) 6 then (
 K (smp_t_b12 a c) (smp_t_b1 w a b c n) [])
 else (
 bif xcm .eql (wthV w 0 19) 8 then (
 bif xcm .eql (wthV w 0 19) 8 then (
 K (smp_t_b18 b c) (smp_t_b7 w a b c n) [])
 else (
 bif xcm .eql (wthV w 0 19) 11 then (
 K (smp_t_b16 a b c) (smp_t_b5 w a b c n) [])
 else (
 bif xcm .eql (wthV w 0 19) 12 then (
 K (smp_t_b17 a b c) (smp_t_b6 w a b c n) [])
 else (
 bif xcm .eql (wthV w 0 19) 13 then (
 bif xcm .eql (wthV w 0 19) 13 then (
 K (smp_t_b13 a b) (smp_t_b2 w a b c n) [])
 else (
 bif xcm .eql (wthV w 0 19) 15 then (
 K (smp_t_b14 a) (smp_t_b3 w a b c n) [])
 else (
 bif xcm .eql (wthV w 0 19) 16 then (
 K (smp_t_b12 a c) (smp_t_b1 w a b c n) [])
 else (
 K (smp_t_b15 a) (smp_t_b4 w a b c n) []))))
 else (
 bif xcm .eql (wthV w 0 19) 14 then (
 K (smp_t_b13 a b) (smp_t_b2 w a b c n) [])
 else (
 bif xcm .eql (wthV w 0 19) 15 then (
 K (smp_t_b14 a) (smp_t_b3 w a b c n) [])
 else (
 bif xcm .eql (wthV w 0 19) 16 then (
 K (smp_t_b12 a c) (smp_t_b1 w a b c n) [])
 else (
 K (smp_t_b15 a) (smp_t_b4 w a b c n) []))))))))
 else (
 bif xcm .eql (wthV w 0 19) 9 then (
 bif xcm .eql (wthV w 0 19) 9 then (
 K (smp_t_b18 b c) (smp_t_b7 w a b c n) [])
 else (
 bif xcm .eql (wthV w 0 19) 11 then (
 K (smp_t_b16 a b c) (smp_t_b5 w a b c n) [])
 else (
 bif xcm .eql (wthV w 0 19) 12 then (
 K (smp_t_b17 a b c) (smp_t_b6 w a b c n) [])
 else (
 bif xcm .eql (wthV w 0 19) 13 then (
 bif xcm .eql (wthV w 0 19) 13 then (
 K (smp_t_b13 a b) (smp_t_b2 w a b c n) [])
 else (
 bif xcm .eql (wthV w 0 19) 15 then (
 K (smp_t_b14 a) (smp_t_b3 w a b c n) [])
 else (
 bif xcm .eql (wthV w 0 19) 16 then (
 K (smp_t_b12 a c) (smp_t_b1 w a b c n) [])
 else (
 K (smp_t_b15 a) (smp_t_b4 w a b c n) []))))
 else (
 bif xcm .eql (wthV w 0 19) 14 then (
 K (smp_t_b13 a b) (smp_t_b2 w a b c n) [])
 else (
 bif xcm .eql (wthV w 0 19) 15 then (
 K (smp_t_b14 a) (smp_t_b3 w a b c n) [])
 else (
 bif xcm .eql (wthV w 0 19) 16 then (
 K (smp_t_b12 a c) (smp_t_b1 w a b c n) [])
 else (
 K (smp_t_b15 a) (smp_t_b4 w a b c n) []))))))))
 else (
 bif xcm .eql (wthV w 0 19) 10 then (
 K (smp_t_b18 b c) (smp_t_b7 w a b c n) [])
 else (
 bif xcm .eql (wthV w 0 19) 11 then (
 K (smp_t_b16 a b c) (smp_t_b5 w a b c n) [])
 else (
 bif xcm .eql (wthV w 0 19) 12 then (
 K (smp_t_b17 a b c) (smp_t_b6 w a b c n) [])
 else (
 bif xcm .eql (wthV w 0 19) 13 then (
 bif xcm .eql (wthV w 0 19) 13 then (
 K (smp_t_b13 a b) (smp_t_b2 w a b c n) [])
 else (
 bif xcm .eql (wthV w 0 19) 15 then (
 K (smp_t_b14 a) (smp_t_b3 w a b c n) [])
 else (
 bif xcm .eql (wthV w 0 19) 16 then (
 K (smp_t_b12 a c) (smp_t_b1 w a b c n) [])
 else (
 K (smp_t_b15 a) (smp_t_b4 w a b c n) []))))
 else (
 bif xcm .eql (wthV w 0 19) 14 then (
 K (smp_t_b13 a b) (smp_t_b2 w a b c n) [])
 else (
 bif xcm .eql (wthV w 0 19) 15 then (
 K (smp_t_b14 a) (smp_t_b3 w a b c n) [])
 else (
 bif xcm .eql (wthV w 0 19) 16 then (
 K (smp_t_b12 a c) (smp_t_b1 w a b c n) [])
 else (
 K (smp_t_b15 a) (smp_t_b4 w a b c n) [])))))))))))
 else (
 bif xcm .eql (wthV w 0 19) 7 then (
 K (smp_t_b12 a c) (smp_t_b1 w a b c n) [])
 else (
 bif xcm .eql (wthV w 0 19) 8 then (
 bif xcm .eql (wthV w 0 19) 8 then (
 K (smp_t_b18 b c) (smp_t_b7 w a b c n) [])
 else (
 bif xcm .eql (wthV w 0 19) 11 then (
 K (smp_t_b16 a b c) (smp_t_b5 w a b c n) [])
 else (
 bif xcm .eql (wthV w 0 19) 12 then (
 K (smp_t_b17 a b c) (smp_t_b6 w a b c n) [])
 else (
 bif xcm .eql (wthV w 0 19) 13 then (
 bif xcm .eql (wthV w 0 19) 13 then (
 K (smp_t_b13 a b) (smp_t_b2 w a b c n) [])
 else (
 bif xcm .eql (wthV w 0 19) 15 then (
 K (smp_t_b14 a) (smp_t_b3 w a b c n) [])
 else (
 bif xcm .eql (wthV w 0 19) 16 then (
 K (smp_t_b12 a c) (smp_t_b1 w a b c n) [])
 else (
 K (smp_t_b15 a) (smp_t_b4 w a b c n) []))))
 else (
 bif xcm .eql (wthV w 0 19) 14 then (
 K (smp_t_b13 a b) (smp_t_b2 w a b c n) [])
 else (
 bif xcm .eql (wthV w 0 19) 15 then (
 K (smp_t_b14 a) (smp_t_b3 w a b c n) [])
 else (
 bif xcm .eql (wthV w 0 19) 16 then (
 K (smp_t_b12 a c) (smp_t_b1 w a b c n) [])
 else (
 K (smp_t_b15 a) (smp_t_b4 w a b c n) []))))))))
 else (
 bif xcm .eql (wthV w 0 19) 9 then (
 bif xcm .eql (wthV w 0 19) 9 then (
 K (smp_t_b18 b c) (smp_t_b7 w a b c n) [])
 else (
 bif xcm .eql (wthV w 0 19) 11 then (
 K (smp_t_b16 a b c) (smp_t_b5 w a b c n) [])
 else (
 bif xcm .eql (wthV w 0 19) 12 then (
 K (smp_t_b17 a b c) (smp_t_b6 w a b c n) [])
 else (
 bif xcm .eql (wthV w 0 19) 13 then (
 bif xcm .eql (wthV w 0 19) 13 then (
 K (smp_t_b13 a b) (smp_t_b2 w a b c n) [])
 else (
 bif xcm .eql (wthV w 0 19) 15 then (
 K (smp_t_b14 a) (smp_t_b3 w a b c n) [])
 else (
 bif xcm .eql (wthV w 0 19) 16 then (
 K (smp_t_b12 a c) (smp_t_b1 w a b c n) [])
 else (
 K (smp_t_b15 a) (smp_t_b4 w a b c n) []))))
 else (
 bif xcm .eql (wthV w 0 19) 14 then (
 K (smp_t_b13 a b) (smp_t_b2 w a b c n) [])
 else (
 bif xcm .eql (wthV w 0 19) 15 then (
 K (smp_t_b14 a) (smp_t_b3 w a b c n) [])
 else (
 bif xcm .eql (wthV w 0 19) 16 then (
 K (smp_t_b12 a c) (smp_t_b1 w a b c n) [])
 else (
 K (smp_t_b15 a) (smp_t_b4 w a b c n) []))))))))
 else (
 bif xcm .eql (wthV w 0 19) 10 then (
 K (smp_t_b18 b c) (smp_t_b7 w a b c n) [])
 else (
 bif xcm .eql (wthV w 0 19) 11 then (
 K (smp_t_b16 a b c) (smp_t_b5 w a b c n) [])
 else (
 bif xcm .eql (wthV w 0 19) 12 then (
 K (smp_t_b17 a b c) (smp_t_b6 w a b c n) [])
 else (
 bif xcm .eql (wthV w 0 19) 13 then (
 bif xcm .eql (wthV w 0 19) 13 then (
 K (smp_t_b13 a b) (smp_t_b2 w a b c n) [])
 else (
 bif xcm .eql (wthV w 0 19) 15 then (
 K (smp_t_b14 a) (smp_t_b3 w a b c n) [])
 else (
 bif xcm .eql (wthV w 0 19) 16 then (
 K (smp_t_b12 a c) (smp_t_b1 w a b c n) [])
 else (
 K (smp_t_b15 a) (smp_t_b4 w a b c n) []))))
 else (
 bif xcm .eql (wthV w 0 19) 14 then (
 K (smp_t_b13 a b) (smp_t_b2 w a b c n) [])
 else (
 bif xcm .eql (wthV w 0 19) 15 then (
 K (smp_t_b14 a) (smp_t_b3 w a b c n) [])
 else (
 bif xcm .eql (wthV w 0 19) 16 then (
 K (smp_t_b12 a c) (smp_t_b1 w a b c n) [])
 else (
 K (smp_t_b15 a) (smp_t_b4 w a b c n) [])))))))))))))))))
 else (
 bif xcm .eql (wthV w 0 19) 1 then (
 K (smp_t_b22 a n) (smp_t_b11 w a b c n) [])
 else (
 bif xcm .eql (wthV w 0 19) 2 then (
 K (smp_t_b20 a n) (smp_t_b9 w a b c n) [])
 else (
 bif xcm .eql (wthV w 0 19) 3 then (
 K (smp_t_b21 a b) (smp_t_b10 w a b c n) [])
 else (
 bif xcm .eql (wthV w 0 19) 4 then (
 K (smp_t_b19 a b c n) (smp_t_b8 w a b c n) [])
 else (
 bif xcm .eql (wthV w 0 19) 5 then (
 bif xcm .eql (wthV w 0 19) 5 then (
 K (smp_t_b12 a c) (smp_t_b1 w a b c n) [])
 else (
 bif xcm .eql (wthV w 0 19) 8 then (
 bif xcm .eql (wthV w 0 19) 8 then (
 K (smp_t_b18 b c) (smp_t_b7 w a b c n) [])
 else (
 bif xcm .eql (wthV w 0 19) 11 then (
 K (smp_t_b16 a b c) (smp_t_b5 w a b c n) [])
 else (
 bif xcm .eql (wthV w 0 19) 12 then (
 K (smp_t_b17 a b c) (smp_t_b6 w a b c n) [])
 else (
 bif xcm .eql (wthV w 0 19) 13 then (
 bif xcm .eql (wthV w 0 19) 13 then (
 K (smp_t_b13 a b) (smp_t_b2 w a b c n) [])
 else (
 bif xcm .eql (wthV w 0 19) 15 then (
 K (smp_t_b14 a) (smp_t_b3 w a b c n) [])
 else (
 bif xcm .eql (wthV w 0 19) 16 then (
 K (smp_t_b12 a c) (smp_t_b1 w a b c n) [])
 else (
 K (smp_t_b15 a) (smp_t_b4 w a b c n) []))))
 else (
 bif xcm .eql (wthV w 0 19) 14 then (
 K (smp_t_b13 a b) (smp_t_b2 w a b c n) [])
 else (
 bif xcm .eql (wthV w 0 19) 15 then (
 K (smp_t_b14 a) (smp_t_b3 w a b c n) [])
 else (
 bif xcm .eql (wthV w 0 19) 16 then (
 K (smp_t_b12 a c) (smp_t_b1 w a b c n) [])
 else (
 K (smp_t_b15 a) (smp_t_b4 w a b c n) []))))))))
 else (
 bif xcm .eql (wthV w 0 19) 9 then (
 bif xcm .eql (wthV w 0 19) 9 then (
 K (smp_t_b18 b c) (smp_t_b7 w a b c n) [])
 else (
 bif xcm .eql (wthV w 0 19) 11 then (
 K (smp_t_b16 a b c) (smp_t_b5 w a b c n) [])
 else (
 bif xcm .eql (wthV w 0 19) 12 then (
 K (smp_t_b17 a b c) (smp_t_b6 w a b c n) [])
 else (
 bif xcm .eql (wthV w 0 19) 13 then (
 bif xcm .eql (wthV w 0 19) 13 then (
 K (smp_t_b13 a b) (smp_t_b2 w a b c n) [])
 else (
 bif xcm .eql (wthV w 0 19) 15 then (
 K (smp_t_b14 a) (smp_t_b3 w a b c n) [])
 else (
 bif xcm .eql (wthV w 0 19) 16 then (
 K (smp_t_b12 a c) (smp_t_b1 w a b c n) [])
 else (
 K (smp_t_b15 a) (smp_t_b4 w a b c n) []))))
 else (
 bif xcm .eql (wthV w 0 19) 14 then (
 K (smp_t_b13 a b) (smp_t_b2 w a b c n) [])
 else (
 bif xcm .eql (wthV w 0 19) 15 then (
 K (smp_t_b14 a) (smp_t_b3 w a b c n) [])
 else (
 bif xcm .eql (wthV w 0 19) 16 then (
 K (smp_t_b12 a c) (smp_t_b1 w a b c n) [])
 else (
 K (smp_t_b15 a) (smp_t_b4 w a b c n) []))))))))
 else (
 bif xcm .eql (wthV w 0 19) 10 then (
 K (smp_t_b18 b c) (smp_t_b7 w a b c n) [])
 else (
 bif xcm .eql (wthV w 0 19) 11 then (
 K (smp_t_b16 a b c) (smp_t_b5 w a b c n) [])
 else (
 bif xcm .eql (wthV w 0 19) 12 then (
 K (smp_t_b17 a b c) (smp_t_b6 w a b c n) [])
 else (
 bif xcm .eql (wthV w 0 19) 13 then (
 bif xcm .eql (wthV w 0 19) 13 then (
 K (smp_t_b13 a b) (smp_t_b2 w a b c n) [])
 else (
 bif xcm .eql (wthV w 0 19) 15 then (
 K (smp_t_b14 a) (smp_t_b3 w a b c n) [])
 else (
 bif xcm .eql (wthV w 0 19) 16 then (
 K (smp_t_b12 a c) (smp_t_b1 w a b c n) [])
 else (
 K (smp_t_b15 a) (smp_t_b4 w a b c n) []))))
 else (
 bif xcm .eql (wthV w 0 19) 14 then (
 K (smp_t_b13 a b) (smp_t_b2 w a b c n) [])
 else (
 bif xcm .eql (wthV w 0 19) 15 then (
 K (smp_t_b14 a) (smp_t_b3 w a b c n) [])
 else (
 bif xcm .eql (wthV w 0 19) 16 then (
 K (smp_t_b12 a c) (smp_t_b1 w a b c n) [])
 else (
 K (smp_t_b15 a) (smp_t_b4 w a b c n) [])))))))))))
 else (
 bif xcm .eql (wthV w 0 19) 6 then (
 bif xcm .eql (wthV w 0 19) 6 then (
 K (smp_t_b12 a c) (smp_t_b1 w a b c n) [])
 else (
 bif xcm .eql (wthV w 0 19) 8 then (
 bif xcm .eql (wthV w 0 19) 8 then (
 K (smp_t_b18 b c) (smp_t_b7 w a b c n) [])
 else (
 bif xcm .eql (wthV w 0 19) 11 then (
 K (smp_t_b16 a b c) (smp_t_b5 w a b c n) [])
 else (
 bif xcm .eql (wthV w 0 19) 12 then (
 K (smp_t_b17 a b c) (smp_t_b6 w a b c n) [])
 else (
 bif xcm .eql (wthV w 0 19) 13 then (
 bif xcm .eql (wthV w 0 19) 13 then (
 K (smp_t_b13 a b) (smp_t_b2 w a b c n) [])
 else (
 bif xcm .eql (wthV w 0 19) 15 then (
 K (smp_t_b14 a) (smp_t_b3 w a b c n) [])
 else (
 bif xcm .eql (wthV w 0 19) 16 then (
 K (smp_t_b12 a c) (smp_t_b1 w a b c n) [])
 else (
 K (smp_t_b15 a) (smp_t_b4 w a b c n) []))))
 else (
 bif xcm .eql (wthV w 0 19) 14 then (
 K (smp_t_b13 a b) (smp_t_b2 w a b c n) [])
 else (
 bif xcm .eql (wthV w 0 19) 15 then (
 K (smp_t_b14 a) (smp_t_b3 w a b c n) [])
 else (
 bif xcm .eql (wthV w 0 19) 16 then (
 K (smp_t_b12 a c) (smp_t_b1 w a b c n) [])
 else (
 K (smp_t_b15 a) (smp_t_b4 w a b c n) []))))))))
 else (
 bif xcm .eql (wthV w 0 19) 9 then (
 bif xcm .eql (wthV w 0 19) 9 then (
 K (smp_t_b18 b c) (smp_t_b7 w a b c n) [])
 else (
 bif xcm .eql (wthV w 0 19) 11 then (
 K (smp_t_b16 a b c) (smp_t_b5 w a b c n) [])
 else (
 bif xcm .eql (wthV w 0 19) 12 then (
 K (smp_t_b17 a b c) (smp_t_b6 w a b c n) [])
 else (
 bif xcm .eql (wthV w 0 19) 13 then (
 bif xcm .eql (wthV w 0 19) 13 then (
 K (smp_t_b13 a b) (smp_t_b2 w a b c n) [])
 else (
 bif xcm .eql (wthV w 0 19) 15 then (
 K (smp_t_b14 a) (smp_t_b3 w a b c n) [])
 else (
 bif xcm .eql (wthV w 0 19) 16 then (
 K (smp_t_b12 a c) (smp_t_b1 w a b c n) [])
 else (
 K (smp_t_b15 a) (smp_t_b4 w a b c n) []))))
 else (
 bif xcm .eql (wthV w 0 19) 14 then (
 K (smp_t_b13 a b) (smp_t_b2 w a b c n) [])
 else (
 bif xcm .eql (wthV w 0 19) 15 then (
 K (smp_t_b14 a) (smp_t_b3 w a b c n) [])
 else (
 bif xcm .eql (wthV w 0 19) 16 then (
 K (smp_t_b12 a c) (smp_t_b1 w a b c n) [])
 else (
 K (smp_t_b15 a) (smp_t_b4 w a b c n) []))))))))
 else (
 bif xcm .eql (wthV w 0 19) 10 then (
 K (smp_t_b18 b c) (smp_t_b7 w a b c n) [])
 else (
 bif xcm .eql (wthV w 0 19) 11 then (
 K (smp_t_b16 a b c) (smp_t_b5 w a b c n) [])
 else (
 bif xcm .eql (wthV w 0 19) 12 then (
 K (smp_t_b17 a b c) (smp_t_b6 w a b c n) [])
 else (
 bif xcm .eql (wthV w 0 19) 13 then (
 bif xcm .eql (wthV w 0 19) 13 then (
 K (smp_t_b13 a b) (smp_t_b2 w a b c n) [])
 else (
 bif xcm .eql (wthV w 0 19) 15 then (
 K (smp_t_b14 a) (smp_t_b3 w a b c n) [])
 else (
 bif xcm .eql (wthV w 0 19) 16 then (
 K (smp_t_b12 a c) (smp_t_b1 w a b c n) [])
 else (
 K (smp_t_b15 a) (smp_t_b4 w a b c n) []))))
 else (
 bif xcm .eql (wthV w 0 19) 14 then (
 K (smp_t_b13 a b) (smp_t_b2 w a b c n) [])
 else (
 bif xcm .eql (wthV w 0 19) 15 then (
 K (smp_t_b14 a) (smp_t_b3 w a b c n) [])
 else (
 bif xcm .eql (wthV w 0 19) 16 then (
 K (smp_t_b12 a c) (smp_t_b1 w a b c n) [])
 else (
 K (smp_t_b15 a) (smp_t_b4 w a b c n) [])))))))))))
 else (
 bif xcm .eql (wthV w 0 19) 7 then (
 K (smp_t_b12 a c) (smp_t_b1 w a b c n) [])
 else (
 bif xcm .eql (wthV w 0 19) 8 then (
 bif xcm .eql (wthV w 0 19) 8 then (
 K (smp_t_b18 b c) (smp_t_b7 w a b c n) [])
 else (
 bif xcm .eql (wthV w 0 19) 11 then (
 K (smp_t_b16 a b c) (smp_t_b5 w a b c n) [])
 else (
 bif xcm .eql (wthV w 0 19) 12 then (
 K (smp_t_b17 a b c) (smp_t_b6 w a b c n) [])
 else (
 bif xcm .eql (wthV w 0 19) 13 then (
 bif xcm .eql (wthV w 0 19) 13 then (
 K (smp_t_b13 a b) (smp_t_b2 w a b c n) [])
 else (
 bif xcm .eql (wthV w 0 19) 15 then (
 K (smp_t_b14 a) (smp_t_b3 w a b c n) [])
 else (
 bif xcm .eql (wthV w 0 19) 16 then (
 K (smp_t_b12 a c) (smp_t_b1 w a b c n) [])
 else (
 K (smp_t_b15 a) (smp_t_b4 w a b c n) []))))
 else (
 bif xcm .eql (wthV w 0 19) 14 then (
 K (smp_t_b13 a b) (smp_t_b2 w a b c n) [])
 else (
 bif xcm .eql (wthV w 0 19) 15 then (
 K (smp_t_b14 a) (smp_t_b3 w a b c n) [])
 else (
 bif xcm .eql (wthV w 0 19) 16 then (
 K (smp_t_b12 a c) (smp_t_b1 w a b c n) [])
 else (
 K (smp_t_b15 a) (smp_t_b4 w a b c n) []))))))))
 else (
 bif xcm .eql (wthV w 0 19) 9 then (
 bif xcm .eql (wthV w 0 19) 9 then (
 K (smp_t_b18 b c) (smp_t_b7 w a b c n) [])
 else (
 bif xcm .eql (wthV w 0 19) 11 then (
 K (smp_t_b16 a b c) (smp_t_b5 w a b c n) [])
 else (
 bif xcm .eql (wthV w 0 19) 12 then (
 K (smp_t_b17 a b c) (smp_t_b6 w a b c n) [])
 else (
 bif xcm .eql (wthV w 0 19) 13 then (
 bif xcm .eql (wthV w 0 19) 13 then (
 K (smp_t_b13 a b) (smp_t_b2 w a b c n) [])
 else (
 bif xcm .eql (wthV w 0 19) 15 then (
 K (smp_t_b14 a) (smp_t_b3 w a b c n) [])
 else (
 bif xcm .eql (wthV w 0 19) 16 then (
 K (smp_t_b12 a c) (smp_t_b1 w a b c n) [])
 else (
 K (smp_t_b15 a) (smp_t_b4 w a b c n) []))))
 else (
 bif xcm .eql (wthV w 0 19) 14 then (
 K (smp_t_b13 a b) (smp_t_b2 w a b c n) [])
 else (
 bif xcm .eql (wthV w 0 19) 15 then (
 K (smp_t_b14 a) (smp_t_b3 w a b c n) [])
 else (
 bif xcm .eql (wthV w 0 19) 16 then (
 K (smp_t_b12 a c) (smp_t_b1 w a b c n) [])
 else (
 K (smp_t_b15 a) (smp_t_b4 w a b c n) []))))))))
 else (
 bif xcm .eql (wthV w 0 19) 10 then (
 K (smp_t_b18 b c) (smp_t_b7 w a b c n) [])
 else (
 bif xcm .eql (wthV w 0 19) 11 then (
 K (smp_t_b16 a b c) (smp_t_b5 w a b c n) [])
 else (
 bif xcm .eql (wthV w 0 19) 12 then (
 K (smp_t_b17 a b c) (smp_t_b6 w a b c n) [])
 else (
 bif xcm .eql (wthV w 0 19) 13 then (
 bif xcm .eql (wthV w 0 19) 13 then (
 K (smp_t_b13 a b) (smp_t_b2 w a b c n) [])
 else (
 bif xcm .eql (wthV w 0 19) 15 then (
 K (smp_t_b14 a) (smp_t_b3 w a b c n) [])
 else (
 bif xcm .eql (wthV w 0 19) 16 then (
 K (smp_t_b12 a c) (smp_t_b1 w a b c n) [])
 else (
 K (smp_t_b15 a) (smp_t_b4 w a b c n) []))))
 else (
 bif xcm .eql (wthV w 0 19) 14 then (
 K (smp_t_b13 a b) (smp_t_b2 w a b c n) [])
 else (
 bif xcm .eql (wthV w 0 19) 15 then (
 K (smp_t_b14 a) (smp_t_b3 w a b c n) [])
 else (
 bif xcm .eql (wthV w 0 19) 16 then (
 K (smp_t_b12 a c) (smp_t_b1 w a b c n) [])
 else (
 K (smp_t_b15 a) (smp_t_b4 w a b c n) [])))))))))))))))))
 else False
 else False
 else False
 else False
 else False
 else False) := by kernel_rfl
/-- A simple instruction of a draw, by what it is to be. -/
def simV (v a b c n : Int) : InsR :=
  if v = 0 ∨ v = 1 then ⟨1, wthV a 0 6, 0, 0, n⟩
  else if v = 2 then ⟨1, wthV a 0 6, 0, 0, xar .rem .u64 n 20⟩
  else if v = 3 then ⟨2, wthV a 0 6, wthV b 0 6, 0, 0⟩
  else if v = 4 then ⟨xar .add .i64 3 (wthV (xwr .i64 (xar .rem .u64 n 64)) 0 4), wthV a 0 6, wthV b 0 6, wthV c 0 6, 0⟩
  else if v = 5 ∨ v = 6 ∨ v = 7 ∨ v = 16 then ⟨8, wthV a 0 6, 7, wthV c 6 15, 0⟩
  else if v = 8 ∨ v = 9 ∨ v = 10 then ⟨9, 7, wthV b 0 6, wthV c 6 15, 0⟩
  else if v = 11 then ⟨8, wthV a 0 6, wthV b 0 6, wthV c 0 3, 0⟩
  else if v = 12 then ⟨9, wthV a 0 6, wthV b 0 6, wthV c 0 3, 0⟩
  else if v = 13 ∨ v = 14 then ⟨10, wthV a 0 6, wthV b 0 6, 0, 0⟩
  else if v = 15 then ⟨11, wthV a 0 6, 0, 0, 0⟩
  else ⟨21, wthV a 0 6, 0, 0, 0⟩
def simF (w a b c n : Int) : InsR := simV (wthV w 0 19) a b c n
theorem reg_ok (n : Int) : SFun Go.Proofs.Tryd.prog 18 [.int .i64 n] (mkS []) fun l s => l = .int .i64 (wthV n 0 6) ∧ s = mkS [] := by
  refine SFun.mono (SFun.vc (Q := fun l b => l = .int .i64 (wthV n 0 6) ∧ b = []) cxS1_ok (n := 40) 0 rfl ?_) fun l s' ⟨b0, ⟨h1, h2⟩, h3⟩ => ⟨h1, by rw [h3, h2]⟩
  rw [reg_t]
  (with_reducible repeat first | refine zq1 ?_ | refine zq2 ?_ | refine zq3 ?_ | refine zq4 ?_ | refine zq5 ?_ | refine zq6 ?_ | refine zq7 ?_ | refine zq8 ?_ | refine zq9 ?_ | refine zqa ?_ | refine zqb ?_ | refine zqc ?_ | refine zqd ?_ | refine zqe ?_ | refine zqf ?_ | refine zqg ?_ | refine zqh ?_ | refine zqi ?_ | refine zqj ?_ | refine zqk ?_ | refine zql ?_ | refine zqm ?_ | refine zqn ?_ | refine zqo ?_ | refine zqp ?_)
  exact ⟨rfl, _, _, [], ⟨rfl, rfl⟩, by (refine ⟨by kernel_rfl, ?_, ?_⟩ <;> repeat first | exact okTms_nil | refine okTms_cons ?_ ?_ | exact okBlks_nil | refine okBlks_cons ?_ ?_ | exact lws_nil | refine lws_cons ?_ ?_ | exact lb_dead | exact zy1 | exact zy2 | exact lb_none | refine zy3 ?_ | exact zy4 | exact lw_any | exact lw_int | exact lw_bool | exact zy5 | exact zy6 | exact lw_nils | exact lw_slo_nils | exact zy7 | exact zy8 | exact zy9 | refine lw_tup ?_ | refine lw_agg ?_ | assumption)⟩
theorem leafI {i : InsR} {x : LV} {bs : List (Option LB)} (h : x = .agg (insE i)) : convOk 0 1 [0] [x] bs [] [(0, .agg (insE i))] [] := by
  subst h; (refine ⟨by kernel_rfl, ?_, ?_⟩ <;> repeat first | exact okTms_nil | refine okTms_cons ?_ ?_ | exact okBlks_nil | refine okBlks_cons ?_ ?_ | exact lws_nil | refine lws_cons ?_ ?_ | exact lb_dead | exact zy1 | exact zy2 | exact lb_none | refine zy3 ?_ | exact zy4 | exact lw_any | exact lw_int | exact lw_bool | exact zy5 | exact zy6 | exact lw_nils | exact lw_slo_nils | exact zy7 | exact zy8 | exact zy9 | refine lw_tup ?_ | refine lw_agg ?_ | assumption)
set_option maxHeartbeats 2000000 in
theorem sim_ok (w a b c n : Int) : SFun Go.Proofs.Tryd.prog 19 [.agg [.int .i64 w, .int .i64 a, .int .i64 b, .int .i64 c, .int .u64 n]] (mkS []) fun l s => l = .agg (insE (simF w a b c n)) ∧ s = mkS [] := by
  refine SFun.mono (SFun.vc (Q := fun l bb => l = .agg (insE (simF w a b c n)) ∧ bb = []) cxS1_ok (n := 60) 0 rfl ?_) fun l s' ⟨b0, ⟨h1, h2⟩, h3⟩ => ⟨h1, by rw [h3, h2]⟩
  rw [smp_t]
  have hv := wthV_in (a := w) (lo := 0) (hi := 19) (by decide)
  have e : simF w a b c n = simV (wthV w 0 19) a b c n := rfl
  rw [e]
  generalize wthV w 0 19 = v at *
  (with_reducible repeat first | refine zq1 ?_ | refine zq2 ?_ | refine zq3 ?_ | refine zq4 ?_ | refine zq5 ?_ | refine zq6 ?_ | refine zq7 ?_ | refine zq8 ?_ | refine zq9 ?_ | refine zqa ?_ | refine zqb ?_ | refine zqc ?_ | refine zqd ?_ | refine zqe ?_ | refine zqf ?_ | refine zqg ?_ | refine zqh ?_ | refine zqi ?_ | refine zqj ?_ | refine zqk ?_ | refine zql ?_ | refine zqm ?_ | refine zqn ?_ | refine zqo ?_ | refine zqp ?_)
  rcases (show v = 0 ∨ v = 1 ∨ v = 2 ∨ v = 3 ∨ v = 4 ∨ v = 5 ∨ v = 6 ∨ v = 7 ∨ v = 8 ∨ v = 9 ∨ v = 10 ∨ v = 11 ∨ v = 12 ∨ v = 13 ∨ v = 14 ∨ v = 15 ∨ v = 16 ∨ v = 17 ∨ v = 18 ∨ v = 19 by omega) with rfl | rfl | rfl | rfl | rfl | rfl | rfl | rfl | rfl | rfl | rfl | rfl | rfl | rfl | rfl | rfl | rfl | rfl | rfl | rfl <;> ((with_reducible repeat first | refine zq1 ?_ | refine zq2 ?_ | refine zq3 ?_ | refine zq4 ?_ | refine zq5 ?_ | refine zq6 ?_ | refine zq7 ?_ | refine zq8 ?_ | refine zq9 ?_ | refine zqa ?_ | refine zqb ?_ | refine zqc ?_ | refine zqd ?_ | refine zqe ?_ | refine zqf ?_ | refine zqg ?_ | refine zqh ?_ | refine zqi ?_ | refine zqj ?_ | refine zqk ?_ | refine zql ?_ | refine zqm ?_ | refine zqn ?_ | refine zqo ?_ | refine zqp ?_); exact ⟨rfl, _, _, [], ⟨rfl, rfl⟩, leafI rfl⟩)
def smO (w a b c n : Int) : Int := (simF w a b c n).op

def smA (w a b c n : Int) : Int := (simF w a b c n).a

def smB (w a b c n : Int) : Int := (simF w a b c n).b

def smC (w a b c n : Int) : Int := (simF w a b c n).c

def smN (w a b c n : Int) : Int := (simF w a b c n).n

def regG : Gc := fun args s => match args, s.g with
  | [.int .i64 n], [] => some ([], .int .i64 (wthV n 0 6), s)
  | _, _ => none
def simG : Gc := fun args s => match args, s.g with
  | [.agg [.int .i64 w, .int .i64 a, .int .i64 b, .int .i64 c, .int .u64 n]], [] => some ([], .agg [.int .i64 (smO w a b c n), .int .i64 (smA w a b c n), .int .i64 (smB w a b c n), .int .i64 (smC w a b c n), .int .u64 (smN w a b c n)], s)
  | _, _ => none
theorem regG_ok : GOk Go.Proofs.Tryd.prog 18 regG := by
  intro args s bs l s' hg hb hfr
  unfold regG at hg
  split at hg
  · rename_i n hgl
    simp only [Option.some.injEq, Prod.mk.injEq] at hg
    obtain ⟨rfl, rfl, rfl⟩ := hg
    exact SFun.pure hfr hgl rfl rfl (reg_ok n)
  · cases hg
theorem simG_ok : GOk Go.Proofs.Tryd.prog 19 simG := by
  intro args s bs l s' hg hb hfr
  unfold simG at hg
  split at hg
  · rename_i w a b c n hgl
    simp only [Option.some.injEq, Prod.mk.injEq] at hg
    obtain ⟨rfl, rfl, rfl⟩ := hg
    exact SFun.pure hfr hgl rfl rfl (sim_ok w a b c n)
  · cases hg
end
end Go.Lev
