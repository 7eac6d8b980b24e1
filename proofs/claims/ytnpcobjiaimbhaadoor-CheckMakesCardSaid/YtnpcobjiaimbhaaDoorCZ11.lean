/- CheckMakes (P15.1, P15.2): for any draw of a program and any bound the law returns true; what was there stays as it was. Condition: the listed package-level variables hold what the program's text lays. -/
import Derived.Test.YtnpcobjiaimbhaaDoorCZ10
import Derived.Test.YtnpcobjiaimbhaaDoorLc
import Derived.Test.YtnpcobjiaimbhaaDoorChecked
import Derived.KernelRfl

import Derived.Test.YtnpcobjiaimbhaaDoorRows
namespace Go.Lev
open Go.RowKit
set_option linter.unusedVariables false
set_option linter.unusedSimpArgs false
set_option maxRecDepth 100000
noncomputable section
theorem gN_eq (K : List KinR) (m : Int) (calm : Bool) : gN (encL kinE K) m calm = (gF K m calm).length := by rw [gN, decKin_enc]
theorem gW_eq (K : List KinR) (m : Int) (calm : Bool) : gW (encL kinE K) m calm = encL insE (gF K m calm) := by rw [gW, decKin_enc]
theorem bq_tt : xbq true true = true := rfl
theorem bq_ff : xbq false false = true := rfl
theorem mo_m {mo : Int} (h0 : 0 ≤ mo) (h1 : mo ≤ 255) : xar .add .i64 (xar .rem .i64 (xwr .i64 mo) 40) 1 = mo % 40 + 1 := by
  have e : xwr .i64 mo = mo := wr_i64 (by omega) (by omega)
  rw [e, xar_rem _ _ _ (by omega), Int.tmod_eq_emod_of_nonneg h0, add_i64 (by omega) (by omega)]
set_option maxHeartbeats 4000000 in
theorem makes_fun (KS : List KinR) (hk : KS.length ≤ 9223372036854775807) (mo : Int) (h0 : 0 ≤ mo) (h1 : mo ≤ 255) : SFun Go.Proofs.Tryd.prog 6 [.slo 0 0 KS.length 0, .int .u8 mo] (mkS [.ro (encL kinE KS)] gtab) fun l _ => l = .bool true := by
  refine SFun.mono (SFun.pieces (Q := fun l _ => l = .bool true) 185 1 mkL [4] (by kernel_rfl) rfl rfl rfl ?_) fun l s' ⟨b0, h1, _⟩ => h1
  have nk : noIds (encL kinE KS) = true := kin_noids KS
  have em := mo_m h0 h1
  have hm : mo % 40 + 1 ≤ 40 := by omega
  have hG1 : 1 ≤ (gF KS (mo % 40 + 1) false).length := gF_len
  have hG2 : (gF KS (mo % 40 + 1) false).length ≤ 40 := gF_le (n := 40) (by omega) (by decide)
  have o0 : okKin KS.length (encL kinE KS) (mo % 40 + 1) = true := okKin_iff.2 ⟨KS, rfl, rfl, hk, by omega⟩
  have hc := chk_gF (ks := KS) (calm := false) hm
  obtain ⟨hrep, _⟩ := gF_rep (ks := KS) (calm := false) hm
  have gn := gN_eq KS (mo % 40 + 1) false
  have gw := gW_eq KS (mo % 40 + 1) false
  generalize gF KS (mo % 40 + 1) false = G at *
  have ng : noIds (encL insE G) = true := ins_noids G
  have hg : chG G.length (encL insE G) = true := chG_iff.2 ⟨G, rfl, rfl, by rw [hc]⟩
  have hok := hrep.ok
  have hp : plc G G.length = [] := by have := hrep.ops; simpa using this
  have hCI := goS_inv G G.length (Nat.le_refl _) hok
  obtain ⟨R, eR⟩ : ∃ R, R = (goS G G.length).2.2.r := ⟨_, rfl⟩
  obtain ⟨M, eM⟩ : ∃ M, M = und G R (goS G G.length).2.2.m G.length := ⟨_, rfl⟩
  have hcr : chR (encL insE G) = encL (cI .i64) R := by rw [chR, decIns_enc, hc, eR]
  have hcm : chM (encL insE G) = encL (cI .i64) M := by rw [chM, decIns_enc, hc, eM, eR]
  have hRl : R.length = G.length := by rw [eR]; exact hCI.rl
  have hMl : M.length = G.length := by rw [eM, und_len]; exact hCI.ml
  have hmk := fun i (hi : i < G.length) => makes_ok hok hp eR eM (i := i) hi
  have nR := noIds_Ii64 R
  have nM := noIds_Ii64 M
  refine SSp.to cxCM_ok (n := 60) (g := gtab) 5 5 rfl (σ := Unit) (fun _ => mkT0) (fun _ => mkH0 G.length (encL kinE KS) (encL insE G)) (mkS_le (Nat.le_refl _)) (by kernel_rfl) ?_ fun _ => ?_
  · rw [mk_a, em]
    simp only [gn, gw]
    (with_reducible repeat first | refine zq1 ?_ | refine zq2 ?_ | refine zq3 ?_ | refine zq4 ?_ | refine zq5 ?_ | refine zq6 ?_ | refine zq7 ?_ | refine zq8 ?_ | refine zq9 ?_ | refine zqa ?_ | refine zqb ?_ | refine zqc ?_ | refine zqd ?_ | refine zqe ?_ | refine zqf ?_ | refine zqg ?_ | refine zqh ?_ | refine zqi ?_ | refine zqj ?_ | refine zqk ?_ | refine zql ?_ | refine zqm ?_ | refine zqn ?_ | refine zqo ?_ | refine zqp ?_)
    exact ⟨rfl, (), [.id 0, .id 2, .id 1], by (refine ⟨by kernel_rfl, ?_, ?_⟩ <;> repeat first | exact okTms_nil | refine okTms_cons ?_ ?_ | exact okBlks_nil | refine okBlks_cons ?_ ?_ | exact lws_nil | refine lws_cons ?_ ?_ | exact lb_dead | exact zy1 | exact zy2 | exact lb_none | refine zy3 ?_ | exact zy4 | exact lw_any | exact lw_int | exact lw_bool | exact zy5 | exact zy6 | exact lw_nils | exact lw_slo_nils | exact zy7 | exact zy8 | exact zy9 | refine lw_tup ?_ | refine lw_agg ?_ | assumption)⟩
  refine SSp.code_to (g := gtab) 6 rfl (σ := Unit) (fun _ => mkT1 G.length) (fun _ => mkH G.length (encL kinE KS) (encL insE G) (encL (cI .i64) R) (encL (cI .i64) M)) (by kernel_rfl) ?_ fun _ => ?_
  · refine SCode.orders cxCM_ok (n := 60) (mkS_le (Nat.le_of_ble_eq_true rfl)) ?_
    rw [mk_o]
    simp only [hcr, hcm]
    (with_reducible repeat first | refine zq1 ?_ | refine zq2 ?_ | refine zq3 ?_ | refine zq4 ?_ | refine zq5 ?_ | refine zq6 ?_ | refine zq7 ?_ | refine zq8 ?_ | refine zq9 ?_ | refine zqa ?_ | refine zqb ?_ | refine zqc ?_ | refine zqd ?_ | refine zqe ?_ | refine zqf ?_ | refine zqg ?_ | refine zqh ?_ | refine zqi ?_ | refine zqj ?_ | refine zqk ?_ | refine zql ?_ | refine zqm ?_ | refine zqn ?_ | refine zqo ?_ | refine zqp ?_)
    exact ⟨rfl, (), [.id 0, .id 1, .id 2, .id 5, .id 11], by (refine ⟨by kernel_rfl, ?_, ?_⟩ <;> repeat first | exact okTms_nil | refine okTms_cons ?_ ?_ | exact okBlks_nil | refine okBlks_cons ?_ ?_ | exact lws_nil | refine lws_cons ?_ ?_ | exact lb_dead | exact zy1 | exact zy2 | exact lb_none | refine zy3 ?_ | exact zy4 | exact lw_any | exact lw_int | exact lw_bool | exact zy5 | exact zy6 | exact lw_nils | exact lw_slo_nils | exact zy7 | exact zy8 | exact zy9 | refine lw_tup ?_ | refine lw_agg ?_ | assumption)⟩
  refine SSp.to cxCM_ok (n := 60) (g := gtab) 4 10 rfl (σ := Unit) (fun _ => mkT G.length 0 0) (fun _ => mkH G.length (encL kinE KS) (encL insE G) (encL (cI .i64) R) (encL (cI .i64) M)) (mkS_le (Nat.le_of_ble_eq_true rfl)) (by kernel_rfl) ?_ fun _ => ?_
  · rw [mk_b]
    (with_reducible repeat first | refine zq1 ?_ | refine zq2 ?_ | refine zq3 ?_ | refine zq4 ?_ | refine zq5 ?_ | refine zq6 ?_ | refine zq7 ?_ | refine zq8 ?_ | refine zq9 ?_ | refine zqa ?_ | refine zqb ?_ | refine zqc ?_ | refine zqd ?_ | refine zqe ?_ | refine zqf ?_ | refine zqg ?_ | refine zqh ?_ | refine zqi ?_ | refine zqj ?_ | refine zqk ?_ | refine zql ?_ | refine zqm ?_ | refine zqn ?_ | refine zqo ?_ | refine zqp ?_)
    exact ⟨rfl, (), [.id 0, .id 1, .id 2, .id 3, .id 4], by (refine ⟨by kernel_rfl, ?_, ?_⟩ <;> repeat first | exact okTms_nil | refine okTms_cons ?_ ?_ | exact okBlks_nil | refine okBlks_cons ?_ ?_ | exact lws_nil | refine lws_cons ?_ ?_ | exact lb_dead | exact zy1 | exact zy2 | exact lb_none | refine zy3 ?_ | exact zy4 | exact lw_any | exact lw_int | exact lw_bool | exact zy5 | exact zy6 | exact lw_nils | exact lw_slo_nils | exact zy7 | exact zy8 | exact zy9 | refine lw_tup ?_ | refine lw_agg ?_ | assumption)⟩
  refine SSp.code_to (g := gtab) 11 rfl (σ := Unit) (fun _ => mkT G.length 0 G.length) (fun _ => mkH G.length (encL kinE KS) (encL insE G) (encL (cI .i64) R) (encL (cI .i64) M)) (by kernel_rfl) ?_ fun _ => ?_
  · refine SCode.loop_sp 0 (by kernel_rfl) (σ := {i : Nat // i ≤ G.length}) (fun i => mkT G.length (plc G i.1).length i.1) (fun _ => mkH G.length (encL kinE KS) (encL insE G) (encL (cI .i64) R) (encL (cI .i64) M)) (fun i => G.length - i.1) (fun _ => Nat.le_of_ble_eq_true rfl) (fun ⟨i, hi⟩ => ?_) ⟨0, Nat.zero_le _⟩
    dsimp only
    refine SSp.to cxCM_ok (n := 60) (g := gtab) 2 2 rfl (σ := {_k : Unit // i < G.length}) (fun _ => mkT G.length (plc G i).length i) (fun _ => mkH G.length (encL kinE KS) (encL insE G) (encL (cI .i64) R) (encL (cI .i64) M)) (mkS_le (Nat.le_of_ble_eq_true rfl)) (by kernel_rfl) ?_ fun ⟨_, hlt⟩ => ?_
    · rw [mk_h]
      by_cases hlt : i < G.length
      · (with_reducible repeat first | refine zq1 ?_ | refine zq2 ?_ | refine zq3 ?_ | refine zq4 ?_ | refine zq5 ?_ | refine zq6 ?_ | refine zq7 ?_ | refine zq8 ?_ | refine zq9 ?_ | refine zqa ?_ | refine zqb ?_ | refine zqc ?_ | refine zqd ?_ | refine zqe ?_ | refine zqf ?_ | refine zqg ?_ | refine zqh ?_ | refine zqi ?_ | refine zqj ?_ | refine zqk ?_ | refine zql ?_ | refine zqm ?_ | refine zqn ?_ | refine zqo ?_ | refine zqp ?_)
        exact ⟨rfl, ⟨(), hlt⟩, [.id 0, .id 1, .id 2, .id 3, .id 4], by (refine ⟨by kernel_rfl, ?_, ?_⟩ <;> repeat first | exact okTms_nil | refine okTms_cons ?_ ?_ | exact okBlks_nil | refine okBlks_cons ?_ ?_ | exact lws_nil | refine lws_cons ?_ ?_ | exact lb_dead | exact zy1 | exact zy2 | exact lb_none | refine zy3 ?_ | exact zy4 | exact lw_any | exact lw_int | exact lw_bool | exact zy5 | exact zy6 | exact lw_nils | exact lw_slo_nils | exact zy7 | exact zy8 | exact zy9 | refine lw_tup ?_ | refine lw_agg ?_ | assumption)⟩
      · obtain rfl : i = G.length := by omega
        rw [hp]
        simp only [List.length_nil]
        (with_reducible repeat first | refine zq1 ?_ | refine zq2 ?_ | refine zq3 ?_ | refine zq4 ?_ | refine zq5 ?_ | refine zq6 ?_ | refine zq7 ?_ | refine zq8 ?_ | refine zq9 ?_ | refine zqa ?_ | refine zqb ?_ | refine zqc ?_ | refine zqd ?_ | refine zqe ?_ | refine zqf ?_ | refine zqg ?_ | refine zqh ?_ | refine zqi ?_ | refine zqj ?_ | refine zqk ?_ | refine zql ?_ | refine zqm ?_ | refine zqn ?_ | refine zqo ?_ | refine zqp ?_)
        exact ⟨rfl, (), [.id 0, .id 1, .id 2, .id 3, .id 4], by (refine ⟨by kernel_rfl, ?_, ?_⟩ <;> repeat first | exact okTms_nil | refine okTms_cons ?_ ?_ | exact okBlks_nil | refine okBlks_cons ?_ ?_ | exact lws_nil | refine lws_cons ?_ ?_ | exact lb_dead | exact zy1 | exact zy2 | exact lb_none | refine zy3 ?_ | exact zy4 | exact lw_any | exact lw_int | exact lw_bool | exact zy5 | exact zy6 | exact lw_nils | exact lw_slo_nils | exact zy7 | exact zy8 | exact zy9 | refine lw_tup ?_ | refine lw_agg ?_ | assumption)⟩
    have hd := plc_next hlt (ok_le (by omega) hok)
    have hd5 : (plc G (i + 1)).length ≤ 5 := (goS_inv G (i + 1) (by omega) (ok_le (by omega) hok)).ol
    have hd6 : (plc G i).length ≤ 5 := (goS_inv G i (by omega) (ok_le (by omega) hok)).ol
    obtain ⟨hr, hb, hnb, hu⟩ := hmk i hlt
    have gR : ∀ k (h : k < G.length), nthD (encL (cI .i64) R) k = .int .i64 (R.getD k 0) := fun k h => by
      rw [encIi64_nth (show k < R.length by omega)]; simp [List.getD_eq_getElem?_getD, show k < R.length by omega]
    have gM : ∀ k (h : k < G.length), nthD (encL (cI .i64) M) k = .int .i64 (M.getD k 0) := fun k h => by
      rw [encIi64_nth (show k < M.length by omega)]; simp [List.getD_eq_getElem?_getD, show k < M.length by omega]
    have cR := gR i hlt
    have cM := gM i hlt
    refine SSp.code_to (g := gtab) 3 rfl (σ := Unit) (fun _ => mkT G.length (plc G (i + 1)).length i) (fun _ => mkH G.length (encL kinE KS) (encL insE G) (encL (cI .i64) R) (encL (cI .i64) M)) (by kernel_rfl) ?_ fun _ => ?_
    · refine SCode.block_sp 1 (by kernel_rfl) ?_
      refine SSp.to cxCM_ok (n := 60) (g := gtab) 3 3 rfl (σ := Unit) (fun _ => mkU G.length (plc G (i + 1)).length i G[i].op) (fun _ => mkH G.length (encL kinE KS) (encL insE G) (encL (cI .i64) R) (encL (cI .i64) M)) (mkS_le (Nat.le_of_ble_eq_true rfl)) (by kernel_rfl) ?_ fun _ => ?_
      · have c0 := ins_0 hlt
        have ep : (plc G (i + 1)).length = (plc G i).length + 1 → xar .add .i64 ((plc G i).length : Int) 1 = ((plc G (i + 1)).length : Int) := fun e => by rw [add_i64 (by omega) (by omega), e]; omega
        have es : (plc G (i + 1)).length + 1 = (plc G i).length → xar .sub .i64 ((plc G i).length : Int) 1 = ((plc G (i + 1)).length : Int) := fun e => by rw [sub_i64 (by omega) (by omega)]; omega
        rw [mk_c]
        simp only [wd_nat, wd_asV, wd_isV, wd_ix, wd_add, wd_mul, wd_ln, Nat.zero_add, Nat.mul_one, wd_isI, wd_asI, wd_isB, wd_asB, wd_nn, cI_tlen, cB_tlen, cII_tlen, decide_true, cond_true, wd_not_t, wd_not_f, wd_and_t, wd_and_f, c0, ins_n]
        by_cases a1 : G[i].op = 14
        · rw [ep (hd.1 (.inl a1))]
          (with_reducible repeat first | refine zq1 ?_ | refine zq2 ?_ | refine zq3 ?_ | refine zq4 ?_ | refine zq5 ?_ | refine zq6 ?_ | refine zq7 ?_ | refine zq8 ?_ | refine zq9 ?_ | refine zqa ?_ | refine zqb ?_ | refine zqc ?_ | refine zqd ?_ | refine zqe ?_ | refine zqf ?_ | refine zqg ?_ | refine zqh ?_ | refine zqi ?_ | refine zqj ?_ | refine zqk ?_ | refine zql ?_ | refine zqm ?_ | refine zqn ?_ | refine zqo ?_ | refine zqp ?_)
          exact ⟨rfl, (), [.id 0, .id 1, .id 2, .id 3, .id 4], by (refine ⟨by kernel_rfl, ?_, ?_⟩ <;> repeat first | exact okTms_nil | refine okTms_cons ?_ ?_ | exact okBlks_nil | refine okBlks_cons ?_ ?_ | exact lws_nil | refine lws_cons ?_ ?_ | exact lb_dead | exact zy1 | exact zy2 | exact lb_none | refine zy3 ?_ | exact zy4 | exact lw_any | exact lw_int | exact lw_bool | exact zy5 | exact zy6 | exact lw_nils | exact lw_slo_nils | exact zy7 | exact zy8 | exact zy9 | refine lw_tup ?_ | refine lw_agg ?_ | assumption)⟩
        by_cases a2 : G[i].op = 17
        · rw [ep (hd.1 (.inr a2))]
          (with_reducible repeat first | refine zq1 ?_ | refine zq2 ?_ | refine zq3 ?_ | refine zq4 ?_ | refine zq5 ?_ | refine zq6 ?_ | refine zq7 ?_ | refine zq8 ?_ | refine zq9 ?_ | refine zqa ?_ | refine zqb ?_ | refine zqc ?_ | refine zqd ?_ | refine zqe ?_ | refine zqf ?_ | refine zqg ?_ | refine zqh ?_ | refine zqi ?_ | refine zqj ?_ | refine zqk ?_ | refine zql ?_ | refine zqm ?_ | refine zqn ?_ | refine zqo ?_ | refine zqp ?_)
          exact ⟨rfl, (), [.id 0, .id 1, .id 2, .id 3, .id 4], by (refine ⟨by kernel_rfl, ?_, ?_⟩ <;> repeat first | exact okTms_nil | refine okTms_cons ?_ ?_ | exact okBlks_nil | refine okBlks_cons ?_ ?_ | exact lws_nil | refine lws_cons ?_ ?_ | exact lb_dead | exact zy1 | exact zy2 | exact lb_none | refine zy3 ?_ | exact zy4 | exact lw_any | exact lw_int | exact lw_bool | exact zy5 | exact zy6 | exact lw_nils | exact lw_slo_nils | exact zy7 | exact zy8 | exact zy9 | refine lw_tup ?_ | refine lw_agg ?_ | assumption)⟩
        by_cases a3 : G[i].op = 15
        · rw [es (hd.2.1 (.inl a3))]
          (with_reducible repeat first | refine zq1 ?_ | refine zq2 ?_ | refine zq3 ?_ | refine zq4 ?_ | refine zq5 ?_ | refine zq6 ?_ | refine zq7 ?_ | refine zq8 ?_ | refine zq9 ?_ | refine zqa ?_ | refine zqb ?_ | refine zqc ?_ | refine zqd ?_ | refine zqe ?_ | refine zqf ?_ | refine zqg ?_ | refine zqh ?_ | refine zqi ?_ | refine zqj ?_ | refine zqk ?_ | refine zql ?_ | refine zqm ?_ | refine zqn ?_ | refine zqo ?_ | refine zqp ?_)
          exact ⟨rfl, (), [.id 0, .id 1, .id 2, .id 3, .id 4], by (refine ⟨by kernel_rfl, ?_, ?_⟩ <;> repeat first | exact okTms_nil | refine okTms_cons ?_ ?_ | exact okBlks_nil | refine okBlks_cons ?_ ?_ | exact lws_nil | refine lws_cons ?_ ?_ | exact lb_dead | exact zy1 | exact zy2 | exact lb_none | refine zy3 ?_ | exact zy4 | exact lw_any | exact lw_int | exact lw_bool | exact zy5 | exact zy6 | exact lw_nils | exact lw_slo_nils | exact zy7 | exact zy8 | exact zy9 | refine lw_tup ?_ | refine lw_agg ?_ | assumption)⟩
        by_cases a4 : G[i].op = 19
        · rw [es (hd.2.1 (.inr a4))]
          (with_reducible repeat first | refine zq1 ?_ | refine zq2 ?_ | refine zq3 ?_ | refine zq4 ?_ | refine zq5 ?_ | refine zq6 ?_ | refine zq7 ?_ | refine zq8 ?_ | refine zq9 ?_ | refine zqa ?_ | refine zqb ?_ | refine zqc ?_ | refine zqd ?_ | refine zqe ?_ | refine zqf ?_ | refine zqg ?_ | refine zqh ?_ | refine zqi ?_ | refine zqj ?_ | refine zqk ?_ | refine zql ?_ | refine zqm ?_ | refine zqn ?_ | refine zqo ?_ | refine zqp ?_)
          exact ⟨rfl, (), [.id 0, .id 1, .id 2, .id 3, .id 4], by (refine ⟨by kernel_rfl, ?_, ?_⟩ <;> repeat first | exact okTms_nil | refine okTms_cons ?_ ?_ | exact okBlks_nil | refine okBlks_cons ?_ ?_ | exact lws_nil | refine lws_cons ?_ ?_ | exact lb_dead | exact zy1 | exact zy2 | exact lb_none | refine zy3 ?_ | exact zy4 | exact lw_any | exact lw_int | exact lw_bool | exact zy5 | exact zy6 | exact lw_nils | exact lw_slo_nils | exact zy7 | exact zy8 | exact zy9 | refine lw_tup ?_ | refine lw_agg ?_ | assumption)⟩
        have e3 := hd.2.2 (by omega) (by omega)
        rw [← e3]
        (with_reducible repeat first | refine zq1 ?_ | refine zq2 ?_ | refine zq3 ?_ | refine zq4 ?_ | refine zq5 ?_ | refine zq6 ?_ | refine zq7 ?_ | refine zq8 ?_ | refine zq9 ?_ | refine zqa ?_ | refine zqb ?_ | refine zqc ?_ | refine zqd ?_ | refine zqe ?_ | refine zqf ?_ | refine zqg ?_ | refine zqh ?_ | refine zqi ?_ | refine zqj ?_ | refine zqk ?_ | refine zql ?_ | refine zqm ?_ | refine zqn ?_ | refine zqo ?_ | refine zqp ?_)
        exact ⟨rfl, (), [.id 0, .id 1, .id 2, .id 3, .id 4], by (refine ⟨by kernel_rfl, ?_, ?_⟩ <;> repeat first | exact okTms_nil | refine okTms_cons ?_ ?_ | exact okBlks_nil | refine okBlks_cons ?_ ?_ | exact lws_nil | refine lws_cons ?_ ?_ | exact lb_dead | exact zy1 | exact zy2 | exact lb_none | refine zy3 ?_ | exact zy4 | exact lw_any | exact lw_int | exact lw_bool | exact zy5 | exact zy6 | exact lw_nils | exact lw_slo_nils | exact zy7 | exact zy8 | exact zy9 | refine lw_tup ?_ | refine lw_agg ?_ | assumption)⟩
      generalize (plc G (i + 1)).length = d at *
      generalize hop : G[i].op = op at *
      refine SSp.to cxCM_ok (n := 60) (g := gtab) 1 4 rfl (σ := {q : Bool // q = true ↔ bgs op}) (fun q => mkV G.length d i op q.1) (fun _ => mkH G.length (encL kinE KS) (encL insE G) (encL (cI .i64) R) (encL (cI .i64) M)) (mkS_le (Nat.le_of_ble_eq_true rfl)) (by kernel_rfl) ?_ fun ⟨q, hq⟩ => ?_
      · rw [mk_q]
        by_cases a1 : op = 14
        · (with_reducible repeat first | refine zq1 ?_ | refine zq2 ?_ | refine zq3 ?_ | refine zq4 ?_ | refine zq5 ?_ | refine zq6 ?_ | refine zq7 ?_ | refine zq8 ?_ | refine zq9 ?_ | refine zqa ?_ | refine zqb ?_ | refine zqc ?_ | refine zqd ?_ | refine zqe ?_ | refine zqf ?_ | refine zqg ?_ | refine zqh ?_ | refine zqi ?_ | refine zqj ?_ | refine zqk ?_ | refine zql ?_ | refine zqm ?_ | refine zqn ?_ | refine zqo ?_ | refine zqp ?_)
          exact ⟨rfl, ⟨true, ⟨fun _ => .inl a1, fun _ => rfl⟩⟩, [.id 0, .id 1, .id 2, .id 3, .id 4], by (refine ⟨by kernel_rfl, ?_, ?_⟩ <;> repeat first | exact okTms_nil | refine okTms_cons ?_ ?_ | exact okBlks_nil | refine okBlks_cons ?_ ?_ | exact lws_nil | refine lws_cons ?_ ?_ | exact lb_dead | exact zy1 | exact zy2 | exact lb_none | refine zy3 ?_ | exact zy4 | exact lw_any | exact lw_int | exact lw_bool | exact zy5 | exact zy6 | exact lw_nils | exact lw_slo_nils | exact zy7 | exact zy8 | exact zy9 | refine lw_tup ?_ | refine lw_agg ?_ | assumption)⟩
        by_cases a2 : op = 17
        · (with_reducible repeat first | refine zq1 ?_ | refine zq2 ?_ | refine zq3 ?_ | refine zq4 ?_ | refine zq5 ?_ | refine zq6 ?_ | refine zq7 ?_ | refine zq8 ?_ | refine zq9 ?_ | refine zqa ?_ | refine zqb ?_ | refine zqc ?_ | refine zqd ?_ | refine zqe ?_ | refine zqf ?_ | refine zqg ?_ | refine zqh ?_ | refine zqi ?_ | refine zqj ?_ | refine zqk ?_ | refine zql ?_ | refine zqm ?_ | refine zqn ?_ | refine zqo ?_ | refine zqp ?_)
          exact ⟨rfl, ⟨true, ⟨fun _ => .inr (.inl a2), fun _ => rfl⟩⟩, [.id 0, .id 1, .id 2, .id 3, .id 4], by (refine ⟨by kernel_rfl, ?_, ?_⟩ <;> repeat first | exact okTms_nil | refine okTms_cons ?_ ?_ | exact okBlks_nil | refine okBlks_cons ?_ ?_ | exact lws_nil | refine lws_cons ?_ ?_ | exact lb_dead | exact zy1 | exact zy2 | exact lb_none | refine zy3 ?_ | exact zy4 | exact lw_any | exact lw_int | exact lw_bool | exact zy5 | exact zy6 | exact lw_nils | exact lw_slo_nils | exact zy7 | exact zy8 | exact zy9 | refine lw_tup ?_ | refine lw_agg ?_ | assumption)⟩
        by_cases a3 : op = 18
        · simp only [show xcm .eql op 18 = true from t_eql a3]
          (with_reducible repeat first | refine zq1 ?_ | refine zq2 ?_ | refine zq3 ?_ | refine zq4 ?_ | refine zq5 ?_ | refine zq6 ?_ | refine zq7 ?_ | refine zq8 ?_ | refine zq9 ?_ | refine zqa ?_ | refine zqb ?_ | refine zqc ?_ | refine zqd ?_ | refine zqe ?_ | refine zqf ?_ | refine zqg ?_ | refine zqh ?_ | refine zqi ?_ | refine zqj ?_ | refine zqk ?_ | refine zql ?_ | refine zqm ?_ | refine zqn ?_ | refine zqo ?_ | refine zqp ?_)
          exact ⟨rfl, ⟨true, ⟨fun _ => .inr (.inr a3), fun _ => rfl⟩⟩, [.id 0, .id 1, .id 2, .id 3, .id 4], by (refine ⟨by kernel_rfl, ?_, ?_⟩ <;> repeat first | exact okTms_nil | refine okTms_cons ?_ ?_ | exact okBlks_nil | refine okBlks_cons ?_ ?_ | exact lws_nil | refine lws_cons ?_ ?_ | exact lb_dead | exact zy1 | exact zy2 | exact lb_none | refine zy3 ?_ | exact zy4 | exact lw_any | exact lw_int | exact lw_bool | exact zy5 | exact zy6 | exact lw_nils | exact lw_slo_nils | exact zy7 | exact zy8 | exact zy9 | refine lw_tup ?_ | refine lw_agg ?_ | assumption)⟩
        · simp only [show xcm .eql op 18 = false from f_eql a3]
          (with_reducible repeat first | refine zq1 ?_ | refine zq2 ?_ | refine zq3 ?_ | refine zq4 ?_ | refine zq5 ?_ | refine zq6 ?_ | refine zq7 ?_ | refine zq8 ?_ | refine zq9 ?_ | refine zqa ?_ | refine zqb ?_ | refine zqc ?_ | refine zqd ?_ | refine zqe ?_ | refine zqf ?_ | refine zqg ?_ | refine zqh ?_ | refine zqi ?_ | refine zqj ?_ | refine zqk ?_ | refine zql ?_ | refine zqm ?_ | refine zqn ?_ | refine zqo ?_ | refine zqp ?_)
          exact ⟨rfl, ⟨false, ⟨(fun h => by cases h), (fun h => by rcases h with h | h | h <;> contradiction)⟩⟩, [.id 0, .id 1, .id 2, .id 3, .id 4], by (refine ⟨by kernel_rfl, ?_, ?_⟩ <;> repeat first | exact okTms_nil | refine okTms_cons ?_ ?_ | exact okBlks_nil | refine okBlks_cons ?_ ?_ | exact lws_nil | refine lws_cons ?_ ?_ | exact lb_dead | exact zy1 | exact zy2 | exact lb_none | refine zy3 ?_ | exact zy4 | exact lw_any | exact lw_int | exact lw_bool | exact zy5 | exact zy6 | exact lw_nils | exact lw_slo_nils | exact zy7 | exact zy8 | exact zy9 | refine lw_tup ?_ | refine lw_agg ?_ | assumption)⟩
      refine SSp.to cxCM_ok (n := 60) (g := gtab) 2 6 rfl (σ := Unit) (fun _ => mkV G.length d i op q) (fun _ => mkH G.length (encL kinE KS) (encL insE G) (encL (cI .i64) R) (encL (cI .i64) M)) (mkS_le (Nat.le_of_ble_eq_true rfl)) (by kernel_rfl) ?_ fun _ => ?_
      · rw [mk_r]
        simp only [wd_nat, wd_asV, wd_isV, wd_ix, wd_add, wd_mul, wd_ln, Nat.zero_add, Nat.mul_one, wd_isI, wd_asI, wd_isB, wd_asB, wd_nn, cI_tlen, cB_tlen, cII_tlen, decide_true, cond_true, wd_not_t, wd_not_f, wd_and_t, wd_and_f, cR, cM, encIi64_len, hRl, hMl]
        by_cases hbg : bgs op
        · obtain rfl : q = true := hq.2 hbg
          obtain ⟨k, k1, k2, k3, k4⟩ := hb (.inl hbg)
          simp only [k1, show xcm .geq (k : Int) 0 = true from t_geq (by omega), bq_tt, wd_not_t]
          (with_reducible repeat first | refine zq1 ?_ | refine zq2 ?_ | refine zq3 ?_ | refine zq4 ?_ | refine zq5 ?_ | refine zq6 ?_ | refine zq7 ?_ | refine zq8 ?_ | refine zq9 ?_ | refine zqa ?_ | refine zqb ?_ | refine zqc ?_ | refine zqd ?_ | refine zqe ?_ | refine zqf ?_ | refine zqg ?_ | refine zqh ?_ | refine zqi ?_ | refine zqj ?_ | refine zqk ?_ | refine zql ?_ | refine zqm ?_ | refine zqn ?_ | refine zqo ?_ | refine zqp ?_)
          exact ⟨rfl, (), [.id 0, .id 1, .id 2, .id 3, .id 4], by (refine ⟨by kernel_rfl, ?_, ?_⟩ <;> repeat first | exact okTms_nil | refine okTms_cons ?_ ?_ | exact okBlks_nil | refine okBlks_cons ?_ ?_ | exact lws_nil | refine lws_cons ?_ ?_ | exact lb_dead | exact zy1 | exact zy2 | exact lb_none | refine zy3 ?_ | exact zy4 | exact lw_any | exact lw_int | exact lw_bool | exact zy5 | exact zy6 | exact lw_nils | exact lw_slo_nils | exact zy7 | exact zy8 | exact zy9 | refine lw_tup ?_ | refine lw_agg ?_ | assumption)⟩
        · obtain rfl : q = false := by cases q with | false => rfl | true => exact absurd (hq.1 rfl) hbg
          by_cases h16 : op = 16
          · obtain ⟨k, k1, k2, k3, k4⟩ := hb (.inr h16)
            simp only [k1, show xcm .geq (k : Int) 0 = true from t_geq (by omega), show xcm .eql op 16 = true from t_eql h16, bq_tt, wd_not_t]
            (with_reducible repeat first | refine zq1 ?_ | refine zq2 ?_ | refine zq3 ?_ | refine zq4 ?_ | refine zq5 ?_ | refine zq6 ?_ | refine zq7 ?_ | refine zq8 ?_ | refine zq9 ?_ | refine zqa ?_ | refine zqb ?_ | refine zqc ?_ | refine zqd ?_ | refine zqe ?_ | refine zqf ?_ | refine zqg ?_ | refine zqh ?_ | refine zqi ?_ | refine zqj ?_ | refine zqk ?_ | refine zql ?_ | refine zqm ?_ | refine zqn ?_ | refine zqo ?_ | refine zqp ?_)
            exact ⟨rfl, (), [.id 0, .id 1, .id 2, .id 3, .id 4], by (refine ⟨by kernel_rfl, ?_, ?_⟩ <;> repeat first | exact okTms_nil | refine okTms_cons ?_ ?_ | exact okBlks_nil | refine okBlks_cons ?_ ?_ | exact lws_nil | refine lws_cons ?_ ?_ | exact lb_dead | exact zy1 | exact zy2 | exact lb_none | refine zy3 ?_ | exact zy4 | exact lw_any | exact lw_int | exact lw_bool | exact zy5 | exact zy6 | exact lw_nils | exact lw_slo_nils | exact zy7 | exact zy8 | exact zy9 | refine lw_tup ?_ | refine lw_agg ?_ | assumption)⟩
          · have k1 := hnb (fun h => by rcases h with h | h; exact hbg h; exact h16 h)
            simp only [k1, show xcm .geq (-1) 0 = false from f_geq (by omega), show xcm .eql op 16 = false from f_eql h16, bq_ff, wd_not_t]
            (with_reducible repeat first | refine zq1 ?_ | refine zq2 ?_ | refine zq3 ?_ | refine zq4 ?_ | refine zq5 ?_ | refine zq6 ?_ | refine zq7 ?_ | refine zq8 ?_ | refine zq9 ?_ | refine zqa ?_ | refine zqb ?_ | refine zqc ?_ | refine zqd ?_ | refine zqe ?_ | refine zqf ?_ | refine zqg ?_ | refine zqh ?_ | refine zqi ?_ | refine zqj ?_ | refine zqk ?_ | refine zql ?_ | refine zqm ?_ | refine zqn ?_ | refine zqo ?_ | refine zqp ?_)
            exact ⟨rfl, (), [.id 0, .id 1, .id 2, .id 3, .id 4], by (refine ⟨by kernel_rfl, ?_, ?_⟩ <;> repeat first | exact okTms_nil | refine okTms_cons ?_ ?_ | exact okBlks_nil | refine okBlks_cons ?_ ?_ | exact lws_nil | refine lws_cons ?_ ?_ | exact lb_dead | exact zy1 | exact zy2 | exact lb_none | refine zy3 ?_ | exact zy4 | exact lw_any | exact lw_int | exact lw_bool | exact zy5 | exact zy6 | exact lw_nils | exact lw_slo_nils | exact zy7 | exact zy8 | exact zy9 | refine lw_tup ?_ | refine lw_agg ?_ | assumption)⟩
      refine SSp.last cxCM_ok (n := 60) (mkS_le (Nat.le_of_ble_eq_true rfl)) ?_
      rw [mk_s]
      by_cases hbg : bgs op
      · obtain rfl : q = true := hq.2 hbg
        obtain ⟨k, k1, k2, k3, k4⟩ := hb (.inl hbg)
        have cRk := gR k k3
        rw [k4 hbg] at cRk
        rw [k1] at cM
        have h16 : ¬ op = 16 := fun e => by unfold bgs at hbg; omega
        simp only [wd_nat, wd_asV, wd_isV, wd_ix, wd_add, wd_mul, wd_ln, Nat.zero_add, Nat.mul_one, wd_isI, wd_asI, wd_isB, wd_asB, wd_nn, cI_tlen, cB_tlen, cII_tlen, decide_true, cond_true, wd_not_t, wd_not_f, wd_and_t, wd_and_f, cR, cM, cRk, encIi64_len, hRl, hMl]
        (with_reducible repeat first | refine zq1 ?_ | refine zq2 ?_ | refine zq3 ?_ | refine zq4 ?_ | refine zq5 ?_ | refine zq6 ?_ | refine zq7 ?_ | refine zq8 ?_ | refine zq9 ?_ | refine zqa ?_ | refine zqb ?_ | refine zqc ?_ | refine zqd ?_ | refine zqe ?_ | refine zqf ?_ | refine zqg ?_ | refine zqh ?_ | refine zqi ?_ | refine zqj ?_ | refine zqk ?_ | refine zql ?_ | refine zqm ?_ | refine zqn ?_ | refine zqo ?_ | refine zqp ?_)
        exact ⟨rfl, (), [.id 0, .id 1, .id 2, .id 3, .id 4], by (refine ⟨by kernel_rfl, ?_, ?_⟩ <;> repeat first | exact okTms_nil | refine okTms_cons ?_ ?_ | exact okBlks_nil | refine okBlks_cons ?_ ?_ | exact lws_nil | refine lws_cons ?_ ?_ | exact lb_dead | exact zy1 | exact zy2 | exact lb_none | refine zy3 ?_ | exact zy4 | exact lw_any | exact lw_int | exact lw_bool | exact zy5 | exact zy6 | exact lw_nils | exact lw_slo_nils | exact zy7 | exact zy8 | exact zy9 | refine lw_tup ?_ | refine lw_agg ?_ | assumption)⟩
      · obtain rfl : q = false := by cases q with | false => rfl | true => exact absurd (hq.1 rfl) hbg
        by_cases h16 : op = 16
        · obtain ⟨j, j1, j2, j3⟩ := hu h16
          have cMj := gM j (by omega)
          rw [j1] at cR
          rw [← j3] at cMj
          simp only [wd_nat, wd_asV, wd_isV, wd_ix, wd_add, wd_mul, wd_ln, Nat.zero_add, Nat.mul_one, wd_isI, wd_asI, wd_isB, wd_asB, wd_nn, cI_tlen, cB_tlen, cII_tlen, decide_true, cond_true, wd_not_t, wd_not_f, wd_and_t, wd_and_f, cR, cM, cMj, encIi64_len, hRl, hMl]
          (with_reducible repeat first | refine zq1 ?_ | refine zq2 ?_ | refine zq3 ?_ | refine zq4 ?_ | refine zq5 ?_ | refine zq6 ?_ | refine zq7 ?_ | refine zq8 ?_ | refine zq9 ?_ | refine zqa ?_ | refine zqb ?_ | refine zqc ?_ | refine zqd ?_ | refine zqe ?_ | refine zqf ?_ | refine zqg ?_ | refine zqh ?_ | refine zqi ?_ | refine zqj ?_ | refine zqk ?_ | refine zql ?_ | refine zqm ?_ | refine zqn ?_ | refine zqo ?_ | refine zqp ?_)
          exact ⟨rfl, (), [.id 0, .id 1, .id 2, .id 3, .id 4], by (refine ⟨by kernel_rfl, ?_, ?_⟩ <;> repeat first | exact okTms_nil | refine okTms_cons ?_ ?_ | exact okBlks_nil | refine okBlks_cons ?_ ?_ | exact lws_nil | refine lws_cons ?_ ?_ | exact lb_dead | exact zy1 | exact zy2 | exact lb_none | refine zy3 ?_ | exact zy4 | exact lw_any | exact lw_int | exact lw_bool | exact zy5 | exact zy6 | exact lw_nils | exact lw_slo_nils | exact zy7 | exact zy8 | exact zy9 | refine lw_tup ?_ | refine lw_agg ?_ | assumption)⟩
        · (with_reducible repeat first | refine zq1 ?_ | refine zq2 ?_ | refine zq3 ?_ | refine zq4 ?_ | refine zq5 ?_ | refine zq6 ?_ | refine zq7 ?_ | refine zq8 ?_ | refine zq9 ?_ | refine zqa ?_ | refine zqb ?_ | refine zqc ?_ | refine zqd ?_ | refine zqe ?_ | refine zqf ?_ | refine zqg ?_ | refine zqh ?_ | refine zqi ?_ | refine zqj ?_ | refine zqk ?_ | refine zql ?_ | refine zqm ?_ | refine zqn ?_ | refine zqo ?_ | refine zqp ?_)
          exact ⟨rfl, (), [.id 0, .id 1, .id 2, .id 3, .id 4], by (refine ⟨by kernel_rfl, ?_, ?_⟩ <;> repeat first | exact okTms_nil | refine okTms_cons ?_ ?_ | exact okBlks_nil | refine okBlks_cons ?_ ?_ | exact lws_nil | refine lws_cons ?_ ?_ | exact lb_dead | exact zy1 | exact zy2 | exact lb_none | refine zy3 ?_ | exact zy4 | exact lw_any | exact lw_int | exact lw_bool | exact zy5 | exact zy6 | exact lw_nils | exact lw_slo_nils | exact zy7 | exact zy8 | exact zy9 | refine lw_tup ?_ | refine lw_agg ?_ | assumption)⟩
    refine SSp.last cxCM_ok (n := 60) (mkS_le (Nat.le_of_ble_eq_true rfl)) ?_
    rw [mk_n, inc_i64 hlt (by omega)]
    exact ⟨rfl, ⟨i + 1, hlt⟩, by simp only; omega, [.id 0, .id 1, .id 2, .id 3, .id 4], by (refine ⟨by kernel_rfl, ?_, ?_⟩ <;> repeat first | exact okTms_nil | refine okTms_cons ?_ ?_ | exact okBlks_nil | refine okBlks_cons ?_ ?_ | exact lws_nil | refine lws_cons ?_ ?_ | exact lb_dead | exact zy1 | exact zy2 | exact lb_none | refine zy3 ?_ | exact zy4 | exact lw_any | exact lw_int | exact lw_bool | exact zy5 | exact zy6 | exact lw_nils | exact lw_slo_nils | exact zy7 | exact zy8 | exact zy9 | refine lw_tup ?_ | refine lw_agg ?_ | assumption)⟩
  refine SSp.last cxCM_ok (n := 60) (mkS_le (Nat.le_of_ble_eq_true rfl)) ?_
  rw [mk_z]
  exact ⟨trivial, rfl, .bool true, [.ro _], [.id 0], rfl, by rw [show xcm .eql ((0 : Nat) : Int) 0 = true from rfl]; (refine ⟨by kernel_rfl, ?_, ?_⟩ <;> repeat first | exact okTms_nil | refine okTms_cons ?_ ?_ | exact okBlks_nil | refine okBlks_cons ?_ ?_ | exact lws_nil | refine lws_cons ?_ ?_ | exact lb_dead | exact zy1 | exact zy2 | exact lb_none | refine zy3 ?_ | exact zy4 | exact lw_any | exact lw_int | exact lw_bool | exact zy5 | exact zy6 | exact lw_nils | exact lw_slo_nils | exact zy7 | exact zy8 | exact zy9 | refine lw_tup ?_ | refine lw_agg ?_ | assumption)⟩
theorem kin_rowP {H : Type} {enc : TypeId × Value → H} {W : World} {a : Option Addr} {len cap : Nat} {d : DataW H} {ps : List MemPlace} (h : DataW.Trod enc Go.Proofs.Tryd.prog W 0 (fun _ => true) true 39 (.slice a len cap) d ps) :
    ∃ xs : List KinR, xs.length = len ∧ len ≤ 9223372036854775807 ∧ (∀ x ∈ xs, kin_bd x) ∧ RowArg W (.slice a len cap) len (encL kinE xs) := by
  obtain ⟨xs, q1, q2, q3, q4⟩ := row_arg (f := kinE) (ok := kin_bd) kinE_len (by omega) Go.Proofs.Tryd.underlying39 (by kernel_rfl) h fun cs n x hl hx => by
    have hf := fl_ok 8 (l := [(0, .int .i64), (1, .int .i64), (2, .int .i64), (3, .int .i64), (4, .int .u64)]) (by kernel_rfl) hx
    obtain ⟨_, e0, z0, rfl, b0⟩ := hf (0, .int .i64) (by simp)
    obtain ⟨_, e1, z1, rfl, b1⟩ := hf (1, .int .i64) (by simp)
    obtain ⟨_, e2, z2, rfl, b2⟩ := hf (2, .int .i64) (by simp)
    obtain ⟨_, e3, z3, rfl, b3⟩ := hf (3, .int .i64) (by simp)
    obtain ⟨_, e4, z4, rfl, b4⟩ := hf (4, .int .u64) (by simp)
    refine ⟨⟨z0, z1, z2, z3, z4⟩, ⟨b0, b1, b2, b3, b4⟩, fun i l hi => ?_⟩
    match i with
    | 0 => simp at hi; subst hi; exact ⟨rfl, _, e0, by simp only [VR]⟩
    | 1 => simp at hi; subst hi; exact ⟨rfl, _, e1, by simp only [VR]⟩
    | 2 => simp at hi; subst hi; exact ⟨rfl, _, e2, by simp only [VR]⟩
    | 3 => simp at hi; subst hi; exact ⟨rfl, _, e3, by simp only [VR]⟩
    | 4 => simp at hi; subst hi; exact ⟨rfl, _, e4, by simp only [VR]⟩
    | i + 5 => simp at hi
  exact ⟨xs, q1, q2, q3, q4⟩
theorem makes_any {H : Type} {enc : TypeId × Value → H} {W : World} (hg : Gl W gtab) {a0 : Option Addr} {len0 cap0 : Nat} {d0 : DataW H} {p0 : List MemPlace} (mo : Int) (hb : 0 ≤ mo ∧ mo ≤ 255) (h0 : DataW.Trod enc Go.Proofs.Tryd.prog W 0 (fun _ => true) true 39 (.slice a0 len0 cap0) d0 p0) :
    Calls Go.Proofs.Tryd.prog 6 #[.slice a0 len0 cap0, .int .u8 mo] W fun e W' => e = .returned (.bool true) ∧ Below W.heap.size W W' := by
  obtain ⟨K, e0, n0, _, r0⟩ := kin_rowP h0
  subst e0
  refine SFun.top (rows := [(.slice a0 K.length cap0, K.length, encL kinE K)]) (g := gtab) (us := [.slice a0 K.length cap0, .int .u8 mo]) ⟨r0, trivial⟩ hg (fun r h => ?_) (makes_fun K n0 mo hb.1 hb.2)
  simp only [VRs, VR]
  exact ⟨_, _, rfl, h 0 _ _ _ rfl, _, _, rfl, rfl, rfl⟩
end
end Go.Lev
