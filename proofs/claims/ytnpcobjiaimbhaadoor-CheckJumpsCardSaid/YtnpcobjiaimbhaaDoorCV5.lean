/- CheckJumps (P15.2): for any draw of a program, any place and any aim of a jump the law returns true; what was there stays as it was. Condition: the listed package-level variables hold what the program's text lays. -/
import Derived.Test.YtnpcobjiaimbhaaDoorCV4
import Derived.Test.YtnpcobjiaimbhaaDoorLc
import Derived.Test.YtnpcobjiaimbhaaDoorChecked
import Derived.KernelRfl

import Derived.Test.YtnpcobjiaimbhaaDoorRows
namespace Go.Lev
open Go.RowKit
set_option linter.unusedVariables false
set_option linter.unusedSimpArgs false
set_option maxRecDepth 100000
noncomputable section
theorem gN_eq (K : List KinR) (m : Int) (calm : Bool) : gN (encL kinE K) m calm = (gF K m calm).length := by rw [gN, decKin_enc]
theorem gW_eq (K : List KinR) (m : Int) (calm : Bool) : gW (encL kinE K) m calm = encL insE (gF K m calm) := by rw [gW, decKin_enc]
theorem rem_nat {a n : Int} (h0 : 0 ≤ a) (h1 : a ≤ 255) (hn : 0 < n) : xar .rem .i64 (xwr .i64 a) n = ((a % n).toNat : Int) ∧ ((a % n).toNat : Int) < n := by
  have e : xwr .i64 a = a := wr_i64 (by omega) (by omega)
  have e1 := Int.emod_nonneg a (b := n) (by omega)
  have e2 := Int.emod_lt_of_pos a hn
  rw [e, xar_rem _ _ _ (by omega), Int.tmod_eq_emod_of_nonneg h0]
  omega
set_option maxHeartbeats 4000000 in
theorem jumps_fun (KS : List KinR) (hk : KS.length ≤ 9223372036854775807) (at' to' : Int) (ha : 0 ≤ at' ∧ at' ≤ 255) (ht : 0 ≤ to' ∧ to' ≤ 255) : SFun Go.Proofs.Tryd.prog 7 [.slo 0 0 KS.length 0, .int .u8 at', .int .u8 to'] (mkS [.ro (encL kinE KS)] gtab) fun l _ => l = .bool true := by
  refine SFun.mono (SFun.pieces (Q := fun l _ => l = .bool true) 112 1 cjL [6] (by kernel_rfl) rfl rfl rfl ?_) fun l s' ⟨b0, h1, _⟩ => h1
  have nk : noIds (encL kinE KS) = true := kin_noids KS
  have hm : (38 : Int) ≤ 40 := by decide
  have hG1 : 1 ≤ (gF KS 38 true).length := gF_len
  have hG2 : (gF KS 38 true).length ≤ 40 := gF_le (n := 40) (by omega) (by decide)
  have o0 : okKin KS.length (encL kinE KS) 38 = true := okKin_iff.2 ⟨KS, rfl, rfl, hk, by decide⟩
  have hc := chk_gF (ks := KS) (calm := true) hm
  obtain ⟨hrep, _⟩ := gF_rep (ks := KS) (calm := true) hm
  have hjk := gF_jok (ks := KS) (calm := true) hm
  have gn := gN_eq KS 38 true
  have gw := gW_eq KS 38 true
  generalize gF KS 38 true = G at *
  have ng : noIds (encL insE G) = true := ins_noids G
  have hg : chG G.length (encL insE G) = true := chG_iff.2 ⟨G, rfl, rfl, by rw [hc]⟩
  have hok := hrep.ok
  have hp : plc G G.length = [] := by have := hrep.ops; simpa using this
  have hCI := goS_inv G G.length (Nat.le_refl _) hok
  obtain ⟨R, eR⟩ : ∃ R, R = (goS G G.length).2.2.r := ⟨_, rfl⟩
  have hcr : chR (encL insE G) = encL (cI .i64) R := by rw [chR, decIns_enc, hc, eR]
  have hRl : R.length = G.length := by rw [eR]; exact hCI.rl
  have nR := noIds_Ii64 R
  obtain ⟨N, hN⟩ : ∃ N, G.length = N + 1 := ⟨G.length - 1, by omega⟩
  refine SSp.to cxCM_ok (n := 60) (g := gtab) 7 7 rfl (σ := Unit) (fun _ => cjT0 (N + 1) at' to') (fun _ => cjH (N + 1) (encL kinE KS) (encL insE G) (encL (cI .i64) R)) (mkS_le (Nat.le_refl _)) (by kernel_rfl) ?_ fun _ => ?_
  · rw [cj_a]; simp only [cj_a_b1]
    simp only [gn, gw, hcr]
    rw [hN] at hg ⊢
    (with_reducible repeat first | refine zq1 ?_ | refine zq2 ?_ | refine zq3 ?_ | refine zq4 ?_ | refine zq5 ?_ | refine zq6 ?_ | refine zq7 ?_ | refine zq8 ?_ | refine zq9 ?_ | refine zqa ?_ | refine zqb ?_ | refine zqc ?_ | refine zqd ?_ | refine zqe ?_ | refine zqf ?_ | refine zqg ?_ | refine zqh ?_ | refine zqi ?_ | refine zqj ?_ | refine zqk ?_ | refine zql ?_ | refine zqm ?_ | refine zqn ?_ | refine zqo ?_ | refine zqp ?_)
    exact ⟨rfl, (), [.id 0, .id 2, .id 1, .id 5], by (refine ⟨by kernel_rfl, ?_, ?_⟩ <;> repeat first | exact okTms_nil | refine okTms_cons ?_ ?_ | exact okBlks_nil | refine okBlks_cons ?_ ?_ | exact lws_nil | refine lws_cons ?_ ?_ | exact lb_dead | exact zy1 | exact zy2 | exact lb_none | refine zy3 ?_ | exact zy4 | exact lw_any | exact lw_int | exact lw_bool | exact zy5 | exact zy6 | exact lw_nils | exact lw_slo_nils | exact zy7 | exact zy8 | exact zy9 | refine lw_tup ?_ | refine lw_agg ?_ | assumption)⟩
  obtain ⟨ei, li⟩ := rem_nat (n := ((N + 1 : Nat) : Int)) ha.1 ha.2 (by omega)
  obtain ⟨ej, lj⟩ := rem_nat (n := ((N + 1 : Nat) : Int) + 1) ht.1 ht.2 (by omega)
  generalize (at' % ((N + 1 : Nat) : Int)).toNat = i at *
  generalize (to' % (((N + 1 : Nat) : Int) + 1)).toNat = j at *
  refine SSp.code_to (g := gtab) 8 rfl (σ := Unit) (fun _ => cjT (N + 1) i j) (fun _ => cjH (N + 1) (encL kinE KS) (encL insE G) (encL (cI .i64) R)) (by kernel_rfl) ?_ fun _ => ?_
  · refine SCode.orders cxCM_ok (n := 60) (mkS_le (Nat.le_of_ble_eq_true rfl)) ?_
    have ea : xar .add .i64 ((N + 1 : Nat) : Int) 1 = ((N + 1 : Nat) : Int) + 1 := add_i64 (by omega) (by omega)
    rw [cj_o]
    simp only [ea, ei, ej]
    refine ⟨?_, ?_⟩
    · (with_reducible repeat first | refine zq1 ?_ | refine zq2 ?_ | refine zq3 ?_ | refine zq4 ?_ | refine zq5 ?_ | refine zq6 ?_ | refine zq7 ?_ | refine zq8 ?_ | refine zq9 ?_ | refine zqa ?_ | refine zqb ?_ | refine zqc ?_ | refine zqd ?_ | refine zqe ?_ | refine zqf ?_ | refine zqg ?_ | refine zqh ?_ | refine zqi ?_ | refine zqj ?_ | refine zqk ?_ | refine zql ?_ | refine zqm ?_ | refine zqn ?_ | refine zqo ?_ | refine zqp ?_)
      exact ⟨rfl, (), [.id 0, .id 1, .id 2, .id 3], by (refine ⟨by kernel_rfl, ?_, ?_⟩ <;> repeat first | exact okTms_nil | refine okTms_cons ?_ ?_ | exact okBlks_nil | refine okBlks_cons ?_ ?_ | exact lws_nil | refine lws_cons ?_ ?_ | exact lb_dead | exact zy1 | exact zy2 | exact lb_none | refine zy3 ?_ | exact zy4 | exact lw_any | exact lw_int | exact lw_bool | exact zy5 | exact zy6 | exact lw_nils | exact lw_slo_nils | exact zy7 | exact zy8 | exact zy9 | refine lw_tup ?_ | refine lw_agg ?_ | assumption)⟩
    · (with_reducible repeat first | refine zq1 ?_ | refine zq2 ?_ | refine zq3 ?_ | refine zq4 ?_ | refine zq5 ?_ | refine zq6 ?_ | refine zq7 ?_ | refine zq8 ?_ | refine zq9 ?_ | refine zqa ?_ | refine zqb ?_ | refine zqc ?_ | refine zqd ?_ | refine zqe ?_ | refine zqf ?_ | refine zqg ?_ | refine zqh ?_ | refine zqi ?_ | refine zqj ?_ | refine zqk ?_ | refine zql ?_ | refine zqm ?_ | refine zqn ?_ | refine zqo ?_ | refine zqp ?_)
      exact ⟨rfl, (), [.id 0, .id 1, .id 2, .id 3], by (refine ⟨by kernel_rfl, ?_, ?_⟩ <;> repeat first | exact okTms_nil | refine okTms_cons ?_ ?_ | exact okBlks_nil | refine okBlks_cons ?_ ?_ | exact lws_nil | refine lws_cons ?_ ?_ | exact lb_dead | exact zy1 | exact zy2 | exact lb_none | refine zy3 ?_ | exact zy4 | exact lw_any | exact lw_int | exact lw_bool | exact zy5 | exact zy6 | exact lw_nils | exact lw_slo_nils | exact zy7 | exact zy8 | exact zy9 | refine lw_tup ?_ | refine lw_agg ?_ | assumption)⟩
  have hi : i < G.length := by omega
  have hj : j ≤ G.length := by omega
  obtain ⟨L', eL⟩ : ∃ L', L' = G.set i ⟨12, 0, 0, (j : Int), 0⟩ := ⟨_, rfl⟩
  have hLl : L'.length = N + 1 := by rw [eL, List.length_set, hN]
  have nL : noIds (encL insE L') = true := ins_noids L'
  refine SSp.to cxCM_ok (n := 60) (g := gtab) 4 12 rfl (σ := {_k : Unit // G[i].op < 14 ∨ 19 < G[i].op}) (fun _ => cjU (N + 1) i j) (fun _ => cjJ (N + 1) (encL kinE KS) (encL insE G) (encL (cI .i64) R) (encL insE L')) (mkS_le (Nat.le_of_ble_eq_true rfl)) (by kernel_rfl) ?_ fun ⟨_, hl⟩ => ?_
  · have c0 := ins_0 hi
    have hgl : (encL insE G).length = (N + 1) * 5 := by rw [ins_n, hN]
    have px : xlay (xcut (encL insE G) 0 ((N + 1) * 5)) (i * 5) [.int .i64 12, .int .i64 0, .int .i64 0, .int .i64 (j : Int), .int .u64 0] = encL insE L' := by
      rw [xcut_all (by omega), eL]
      exact encL_set insE_len G i ⟨12, 0, 0, (j : Int), 0⟩ hi
    have pc : xcut (encL insE G) 0 ((N + 1) * 5) = encL insE G := xcut_all (by omega)
    rw [cj_b]; simp only [cj_b_b1]
    simp only [wd_ix, wd_nat, wd_mul, Nat.zero_add, px]
    simp only [wd_nat, wd_asV, wd_isV, wd_ix, wd_add, wd_mul, wd_ln, Nat.zero_add, Nat.mul_one, wd_isI, wd_asI, wd_isB, wd_asB, wd_nn, cI_tlen, cB_tlen, cII_tlen, decide_true, cond_true, wd_not_t, wd_not_f, wd_and_t, wd_and_f, c0, hgl, pc]
    by_cases a1 : G[i].op = 14
    · (with_reducible repeat first | refine zq1 ?_ | refine zq2 ?_ | refine zq3 ?_ | refine zq4 ?_ | refine zq5 ?_ | refine zq6 ?_ | refine zq7 ?_ | refine zq8 ?_ | refine zq9 ?_ | refine zqa ?_ | refine zqb ?_ | refine zqc ?_ | refine zqd ?_ | refine zqe ?_ | refine zqf ?_ | refine zqg ?_ | refine zqh ?_ | refine zqi ?_ | refine zqj ?_ | refine zqk ?_ | refine zql ?_ | refine zqm ?_ | refine zqn ?_ | refine zqo ?_ | refine zqp ?_)
      exact ⟨trivial, rfl, .bool true, [.ro _], [.id 0], rfl, by (refine ⟨by kernel_rfl, ?_, ?_⟩ <;> repeat first | exact okTms_nil | refine okTms_cons ?_ ?_ | exact okBlks_nil | refine okBlks_cons ?_ ?_ | exact lws_nil | refine lws_cons ?_ ?_ | exact lb_dead | exact zy1 | exact zy2 | exact lb_none | refine zy3 ?_ | exact zy4 | exact lw_any | exact lw_int | exact lw_bool | exact zy5 | exact zy6 | exact lw_nils | exact lw_slo_nils | exact zy7 | exact zy8 | exact zy9 | refine lw_tup ?_ | refine lw_agg ?_ | assumption)⟩
    by_cases a2 : G[i].op = 15
    · (with_reducible repeat first | refine zq1 ?_ | refine zq2 ?_ | refine zq3 ?_ | refine zq4 ?_ | refine zq5 ?_ | refine zq6 ?_ | refine zq7 ?_ | refine zq8 ?_ | refine zq9 ?_ | refine zqa ?_ | refine zqb ?_ | refine zqc ?_ | refine zqd ?_ | refine zqe ?_ | refine zqf ?_ | refine zqg ?_ | refine zqh ?_ | refine zqi ?_ | refine zqj ?_ | refine zqk ?_ | refine zql ?_ | refine zqm ?_ | refine zqn ?_ | refine zqo ?_ | refine zqp ?_)
      exact ⟨trivial, rfl, .bool true, [.ro _], [.id 0], rfl, by (refine ⟨by kernel_rfl, ?_, ?_⟩ <;> repeat first | exact okTms_nil | refine okTms_cons ?_ ?_ | exact okBlks_nil | refine okBlks_cons ?_ ?_ | exact lws_nil | refine lws_cons ?_ ?_ | exact lb_dead | exact zy1 | exact zy2 | exact lb_none | refine zy3 ?_ | exact zy4 | exact lw_any | exact lw_int | exact lw_bool | exact zy5 | exact zy6 | exact lw_nils | exact lw_slo_nils | exact zy7 | exact zy8 | exact zy9 | refine lw_tup ?_ | refine lw_agg ?_ | assumption)⟩
    by_cases a3 : G[i].op = 17
    · (with_reducible repeat first | refine zq1 ?_ | refine zq2 ?_ | refine zq3 ?_ | refine zq4 ?_ | refine zq5 ?_ | refine zq6 ?_ | refine zq7 ?_ | refine zq8 ?_ | refine zq9 ?_ | refine zqa ?_ | refine zqb ?_ | refine zqc ?_ | refine zqd ?_ | refine zqe ?_ | refine zqf ?_ | refine zqg ?_ | refine zqh ?_ | refine zqi ?_ | refine zqj ?_ | refine zqk ?_ | refine zql ?_ | refine zqm ?_ | refine zqn ?_ | refine zqo ?_ | refine zqp ?_)
      exact ⟨trivial, rfl, .bool true, [.ro _], [.id 0], rfl, by (refine ⟨by kernel_rfl, ?_, ?_⟩ <;> repeat first | exact okTms_nil | refine okTms_cons ?_ ?_ | exact okBlks_nil | refine okBlks_cons ?_ ?_ | exact lws_nil | refine lws_cons ?_ ?_ | exact lb_dead | exact zy1 | exact zy2 | exact lb_none | refine zy3 ?_ | exact zy4 | exact lw_any | exact lw_int | exact lw_bool | exact zy5 | exact zy6 | exact lw_nils | exact lw_slo_nils | exact zy7 | exact zy8 | exact zy9 | refine lw_tup ?_ | refine lw_agg ?_ | assumption)⟩
    by_cases a4 : G[i].op = 18
    · (with_reducible repeat first | refine zq1 ?_ | refine zq2 ?_ | refine zq3 ?_ | refine zq4 ?_ | refine zq5 ?_ | refine zq6 ?_ | refine zq7 ?_ | refine zq8 ?_ | refine zq9 ?_ | refine zqa ?_ | refine zqb ?_ | refine zqc ?_ | refine zqd ?_ | refine zqe ?_ | refine zqf ?_ | refine zqg ?_ | refine zqh ?_ | refine zqi ?_ | refine zqj ?_ | refine zqk ?_ | refine zql ?_ | refine zqm ?_ | refine zqn ?_ | refine zqo ?_ | refine zqp ?_)
      exact ⟨trivial, rfl, .bool true, [.ro _], [.id 0], rfl, by (refine ⟨by kernel_rfl, ?_, ?_⟩ <;> repeat first | exact okTms_nil | refine okTms_cons ?_ ?_ | exact okBlks_nil | refine okBlks_cons ?_ ?_ | exact lws_nil | refine lws_cons ?_ ?_ | exact lb_dead | exact zy1 | exact zy2 | exact lb_none | refine zy3 ?_ | exact zy4 | exact lw_any | exact lw_int | exact lw_bool | exact zy5 | exact zy6 | exact lw_nils | exact lw_slo_nils | exact zy7 | exact zy8 | exact zy9 | refine lw_tup ?_ | refine lw_agg ?_ | assumption)⟩
    by_cases a5 : G[i].op = 19
    · (with_reducible repeat first | refine zq1 ?_ | refine zq2 ?_ | refine zq3 ?_ | refine zq4 ?_ | refine zq5 ?_ | refine zq6 ?_ | refine zq7 ?_ | refine zq8 ?_ | refine zq9 ?_ | refine zqa ?_ | refine zqb ?_ | refine zqc ?_ | refine zqd ?_ | refine zqe ?_ | refine zqf ?_ | refine zqg ?_ | refine zqh ?_ | refine zqi ?_ | refine zqj ?_ | refine zqk ?_ | refine zql ?_ | refine zqm ?_ | refine zqn ?_ | refine zqo ?_ | refine zqp ?_)
      exact ⟨trivial, rfl, .bool true, [.ro _], [.id 0], rfl, by (refine ⟨by kernel_rfl, ?_, ?_⟩ <;> repeat first | exact okTms_nil | refine okTms_cons ?_ ?_ | exact okBlks_nil | refine okBlks_cons ?_ ?_ | exact lws_nil | refine lws_cons ?_ ?_ | exact lb_dead | exact zy1 | exact zy2 | exact lb_none | refine zy3 ?_ | exact zy4 | exact lw_any | exact lw_int | exact lw_bool | exact zy5 | exact zy6 | exact lw_nils | exact lw_slo_nils | exact zy7 | exact zy8 | exact zy9 | refine lw_tup ?_ | refine lw_agg ?_ | assumption)⟩
    by_cases a6 : G[i].op = 16
    · (with_reducible repeat first | refine zq1 ?_ | refine zq2 ?_ | refine zq3 ?_ | refine zq4 ?_ | refine zq5 ?_ | refine zq6 ?_ | refine zq7 ?_ | refine zq8 ?_ | refine zq9 ?_ | refine zqa ?_ | refine zqb ?_ | refine zqc ?_ | refine zqd ?_ | refine zqe ?_ | refine zqf ?_ | refine zqg ?_ | refine zqh ?_ | refine zqi ?_ | refine zqj ?_ | refine zqk ?_ | refine zql ?_ | refine zqm ?_ | refine zqn ?_ | refine zqo ?_ | refine zqp ?_)
      exact ⟨trivial, rfl, .bool true, [.ro _], [.id 0], rfl, by (refine ⟨by kernel_rfl, ?_, ?_⟩ <;> repeat first | exact okTms_nil | refine okTms_cons ?_ ?_ | exact okBlks_nil | refine okBlks_cons ?_ ?_ | exact lws_nil | refine lws_cons ?_ ?_ | exact lb_dead | exact zy1 | exact zy2 | exact lb_none | refine zy3 ?_ | exact zy4 | exact lw_any | exact lw_int | exact lw_bool | exact zy5 | exact zy6 | exact lw_nils | exact lw_slo_nils | exact zy7 | exact zy8 | exact zy9 | refine lw_tup ?_ | refine lw_agg ?_ | assumption)⟩
    (with_reducible repeat first | refine zq1 ?_ | refine zq2 ?_ | refine zq3 ?_ | refine zq4 ?_ | refine zq5 ?_ | refine zq6 ?_ | refine zq7 ?_ | refine zq8 ?_ | refine zq9 ?_ | refine zqa ?_ | refine zqb ?_ | refine zqc ?_ | refine zqd ?_ | refine zqe ?_ | refine zqf ?_ | refine zqg ?_ | refine zqh ?_ | refine zqi ?_ | refine zqj ?_ | refine zqk ?_ | refine zql ?_ | refine zqm ?_ | refine zqn ?_ | refine zqo ?_ | refine zqp ?_)
    exact ⟨rfl, ⟨(), by omega⟩, [.id 0, .id 1, .id 2, .id 3, .id 4], by (refine ⟨by kernel_rfl, ?_, ?_⟩ <;> repeat first | exact okTms_nil | refine okTms_cons ?_ ?_ | exact okBlks_nil | refine okBlks_cons ?_ ?_ | exact lws_nil | refine lws_cons ?_ ?_ | exact lb_dead | exact zy1 | exact zy2 | exact lb_none | refine zy3 ?_ | exact zy4 | exact lw_any | exact lw_int | exact lw_bool | exact zy5 | exact zy6 | exact lw_nils | exact lw_slo_nils | exact zy7 | exact zy8 | exact zy9 | refine lw_tup ?_ | refine lw_agg ?_ | assumption)⟩
  obtain ⟨h1, h2⟩ := chk_jump1 hi hj hG2 hok hp hjk hl
  rw [← eL, ← eR] at h1 h2
  have gR : ∀ k, k < N + 1 → nthD (encL (cI .i64) R) k = .int .i64 (R.getD k 0) := fun k h => by
    rw [encIi64_nth (show k < R.length by omega)]; simp [List.getD_eq_getElem?_getD, show k < R.length by omega]
  have cR := gR i (by omega)
  have jk : jok G R i ⟨12, 0, 0, (j : Int), 0⟩ ↔ ((j : Int) = ((N + 1 : Nat) : Int) ∧ R.getD i 0 = -1 ∨ (j : Int) < ((N + 1 : Nat) : Int) ∧ R.getD j 0 = R.getD i 0) := by
    unfold jok
    rw [hN]
    exact ⟨fun h => h (.inl rfl), fun h _ => h⟩
  by_cases hgood : jok G R i ⟨12, 0, 0, (j : Int), 0⟩
  · have hgd := jk.1 hgood
    have hg' : chG (N + 1) (encL insE L') = true := chG_iff.2 ⟨L', rfl, hLl, (h1 hgood).1⟩
    refine SSp.last cxCM_ok (n := 60) (mkS_le (Nat.le_of_ble_eq_true rfl)) ?_
    rw [cj_g]; simp only [cj_g_b1]
    by_cases hjn : j < N + 1
    · have cj := gR j hjn
      have e : R.getD j 0 = R.getD i 0 := by rcases hgd with q | q; omega; exact q.2
      rw [e] at cj
      simp only [wd_nat, wd_asV, wd_isV, wd_ix, wd_add, wd_mul, wd_ln, Nat.zero_add, Nat.mul_one, wd_isI, wd_asI, wd_isB, wd_asB, wd_nn, cI_tlen, cB_tlen, cII_tlen, decide_true, cond_true, wd_not_t, wd_not_f, wd_and_t, wd_and_f, cR, cj, encIi64_len, hRl, hN]
      (with_reducible repeat first | refine zq1 ?_ | refine zq2 ?_ | refine zq3 ?_ | refine zq4 ?_ | refine zq5 ?_ | refine zq6 ?_ | refine zq7 ?_ | refine zq8 ?_ | refine zq9 ?_ | refine zqa ?_ | refine zqb ?_ | refine zqc ?_ | refine zqd ?_ | refine zqe ?_ | refine zqf ?_ | refine zqg ?_ | refine zqh ?_ | refine zqi ?_ | refine zqj ?_ | refine zqk ?_ | refine zql ?_ | refine zqm ?_ | refine zqn ?_ | refine zqo ?_ | refine zqp ?_)
      exact ⟨trivial, rfl, .bool true, [.ro _], [.id 0], rfl, by (refine ⟨by kernel_rfl, ?_, ?_⟩ <;> repeat first | exact okTms_nil | refine okTms_cons ?_ ?_ | exact okBlks_nil | refine okBlks_cons ?_ ?_ | exact lws_nil | refine lws_cons ?_ ?_ | exact lb_dead | exact zy1 | exact zy2 | exact lb_none | refine zy3 ?_ | exact zy4 | exact lw_any | exact lw_int | exact lw_bool | exact zy5 | exact zy6 | exact lw_nils | exact lw_slo_nils | exact zy7 | exact zy8 | exact zy9 | refine lw_tup ?_ | refine lw_agg ?_ | assumption)⟩
    · have e : R.getD i 0 = -1 := by rcases hgd with q | q; exact q.2; omega
      rw [e] at cR
      simp only [wd_nat, wd_asV, wd_isV, wd_ix, wd_add, wd_mul, wd_ln, Nat.zero_add, Nat.mul_one, wd_isI, wd_asI, wd_isB, wd_asB, wd_nn, cI_tlen, cB_tlen, cII_tlen, decide_true, cond_true, wd_not_t, wd_not_f, wd_and_t, wd_and_f, cR, encIi64_len, hRl, hN]
      (with_reducible repeat first | refine zq1 ?_ | refine zq2 ?_ | refine zq3 ?_ | refine zq4 ?_ | refine zq5 ?_ | refine zq6 ?_ | refine zq7 ?_ | refine zq8 ?_ | refine zq9 ?_ | refine zqa ?_ | refine zqb ?_ | refine zqc ?_ | refine zqd ?_ | refine zqe ?_ | refine zqf ?_ | refine zqg ?_ | refine zqh ?_ | refine zqi ?_ | refine zqj ?_ | refine zqk ?_ | refine zql ?_ | refine zqm ?_ | refine zqn ?_ | refine zqo ?_ | refine zqp ?_)
      exact ⟨trivial, rfl, .bool true, [.ro _], [.id 0], rfl, by (refine ⟨by kernel_rfl, ?_, ?_⟩ <;> repeat first | exact okTms_nil | refine okTms_cons ?_ ?_ | exact okBlks_nil | refine okBlks_cons ?_ ?_ | exact lws_nil | refine lws_cons ?_ ?_ | exact lb_dead | exact zy1 | exact zy2 | exact lb_none | refine zy3 ?_ | exact zy4 | exact lw_any | exact lw_int | exact lw_bool | exact zy5 | exact zy6 | exact lw_nils | exact lw_slo_nils | exact zy7 | exact zy8 | exact zy9 | refine lw_tup ?_ | refine lw_agg ?_ | assumption)⟩
  · have hbd := fun q => hgood (jk.2 q)
    obtain ⟨b1, b2⟩ := h2 hgood
    have hb' : chB (N + 1) (encL insE L') = true := chB_iff.2 ⟨L', rfl, hLl, by rw [b1]; decide⟩
    have hE : chE (encL insE L') = 2 := by rw [chE, decIns_enc, b1]
    have hA : chA (encL insE L') = (i : Int) := by rw [chA, decIns_enc, b2]
    refine SSp.last cxJX_ok (n := 60) (mkS_le (Nat.le_of_ble_eq_true rfl)) ?_
    rw [cj_x]
    by_cases hjn : j < N + 1
    · have cj := gR j hjn
      have e : R.getD j 0 ≠ R.getD i 0 := fun q => hbd (.inr ⟨by omega, q⟩)
      simp only [wd_nat, wd_asV, wd_isV, wd_ix, wd_add, wd_mul, wd_ln, Nat.zero_add, Nat.mul_one, wd_isI, wd_asI, wd_isB, wd_asB, wd_nn, cI_tlen, cB_tlen, cII_tlen, decide_true, cond_true, wd_not_t, wd_not_f, wd_and_t, wd_and_f, cR, cj, encIi64_len, hRl, hN, hE, hA, show xcm .eql (i : Int) (i : Int) = true from t_eql rfl]
      (with_reducible repeat first | refine zq1 ?_ | refine zq2 ?_ | refine zq3 ?_ | refine zq4 ?_ | refine zq5 ?_ | refine zq6 ?_ | refine zq7 ?_ | refine zq8 ?_ | refine zq9 ?_ | refine zqa ?_ | refine zqb ?_ | refine zqc ?_ | refine zqd ?_ | refine zqe ?_ | refine zqf ?_ | refine zqg ?_ | refine zqh ?_ | refine zqi ?_ | refine zqj ?_ | refine zqk ?_ | refine zql ?_ | refine zqm ?_ | refine zqn ?_ | refine zqo ?_ | refine zqp ?_)
      exact ⟨trivial, rfl, .bool true, [.ro _], [.id 0], rfl, by (refine ⟨by kernel_rfl, ?_, ?_⟩ <;> repeat first | exact okTms_nil | refine okTms_cons ?_ ?_ | exact okBlks_nil | refine okBlks_cons ?_ ?_ | exact lws_nil | refine lws_cons ?_ ?_ | exact lb_dead | exact zy1 | exact zy2 | exact lb_none | refine zy3 ?_ | exact zy4 | exact lw_any | exact lw_int | exact lw_bool | exact zy5 | exact zy6 | exact lw_nils | exact lw_slo_nils | exact zy7 | exact zy8 | exact zy9 | refine lw_tup ?_ | refine lw_agg ?_ | assumption)⟩
    · have e : R.getD i 0 ≠ -1 := fun q => hbd (.inl ⟨by omega, q⟩)
      simp only [wd_nat, wd_asV, wd_isV, wd_ix, wd_add, wd_mul, wd_ln, Nat.zero_add, Nat.mul_one, wd_isI, wd_asI, wd_isB, wd_asB, wd_nn, cI_tlen, cB_tlen, cII_tlen, decide_true, cond_true, wd_not_t, wd_not_f, wd_and_t, wd_and_f, cR, encIi64_len, hRl, hN, hE, hA, show xcm .eql (i : Int) (i : Int) = true from t_eql rfl]
      (with_reducible repeat first | refine zq1 ?_ | refine zq2 ?_ | refine zq3 ?_ | refine zq4 ?_ | refine zq5 ?_ | refine zq6 ?_ | refine zq7 ?_ | refine zq8 ?_ | refine zq9 ?_ | refine zqa ?_ | refine zqb ?_ | refine zqc ?_ | refine zqd ?_ | refine zqe ?_ | refine zqf ?_ | refine zqg ?_ | refine zqh ?_ | refine zqi ?_ | refine zqj ?_ | refine zqk ?_ | refine zql ?_ | refine zqm ?_ | refine zqn ?_ | refine zqo ?_ | refine zqp ?_)
      exact ⟨trivial, rfl, .bool true, [.ro _], [.id 0], rfl, by (refine ⟨by kernel_rfl, ?_, ?_⟩ <;> repeat first | exact okTms_nil | refine okTms_cons ?_ ?_ | exact okBlks_nil | refine okBlks_cons ?_ ?_ | exact lws_nil | refine lws_cons ?_ ?_ | exact lb_dead | exact zy1 | exact zy2 | exact lb_none | refine zy3 ?_ | exact zy4 | exact lw_any | exact lw_int | exact lw_bool | exact zy5 | exact zy6 | exact lw_nils | exact lw_slo_nils | exact zy7 | exact zy8 | exact zy9 | refine lw_tup ?_ | refine lw_agg ?_ | assumption)⟩
theorem kin_rowP {H : Type} {enc : TypeId × Value → H} {W : World} {a : Option Addr} {len cap : Nat} {d : DataW H} {ps : List MemPlace} (h : DataW.Trod enc Go.Proofs.Tryd.prog W 0 (fun _ => true) true 39 (.slice a len cap) d ps) :
    ∃ xs : List KinR, xs.length = len ∧ len ≤ 9223372036854775807 ∧ (∀ x ∈ xs, kin_bd x) ∧ RowArg W (.slice a len cap) len (encL kinE xs) := by
  obtain ⟨xs, q1, q2, q3, q4⟩ := row_arg (f := kinE) (ok := kin_bd) kinE_len (by omega) Go.Proofs.Tryd.underlying39 (by kernel_rfl) h fun cs n x hl hx => by
    have hf := fl_ok 8 (l := [(0, .int .i64), (1, .int .i64), (2, .int .i64), (3, .int .i64), (4, .int .u64)]) (by kernel_rfl) hx
    obtain ⟨_, e0, z0, rfl, b0⟩ := hf (0, .int .i64) (by simp)
    obtain ⟨_, e1, z1, rfl, b1⟩ := hf (1, .int .i64) (by simp)
    obtain ⟨_, e2, z2, rfl, b2⟩ := hf (2, .int .i64) (by simp)
    obtain ⟨_, e3, z3, rfl, b3⟩ := hf (3, .int .i64) (by simp)
    obtain ⟨_, e4, z4, rfl, b4⟩ := hf (4, .int .u64) (by simp)
    refine ⟨⟨z0, z1, z2, z3, z4⟩, ⟨b0, b1, b2, b3, b4⟩, fun i l hi => ?_⟩
    match i with
    | 0 => simp at hi; subst hi; exact ⟨rfl, _, e0, by simp only [VR]⟩
    | 1 => simp at hi; subst hi; exact ⟨rfl, _, e1, by simp only [VR]⟩
    | 2 => simp at hi; subst hi; exact ⟨rfl, _, e2, by simp only [VR]⟩
    | 3 => simp at hi; subst hi; exact ⟨rfl, _, e3, by simp only [VR]⟩
    | 4 => simp at hi; subst hi; exact ⟨rfl, _, e4, by simp only [VR]⟩
    | i + 5 => simp at hi
  exact ⟨xs, q1, q2, q3, q4⟩
theorem jumps_any {H : Type} {enc : TypeId × Value → H} {W : World} (hg : Gl W gtab) {a0 : Option Addr} {len0 cap0 : Nat} {d0 : DataW H} {p0 : List MemPlace} (at' to' : Int) (ha : 0 ≤ at' ∧ at' ≤ 255) (ht : 0 ≤ to' ∧ to' ≤ 255) (h0 : DataW.Trod enc Go.Proofs.Tryd.prog W 0 (fun _ => true) true 39 (.slice a0 len0 cap0) d0 p0) :
    Calls Go.Proofs.Tryd.prog 7 #[.slice a0 len0 cap0, .int .u8 at', .int .u8 to'] W fun e W' => e = .returned (.bool true) ∧ Below W.heap.size W W' := by
  obtain ⟨K, e0, n0, _, r0⟩ := kin_rowP h0
  subst e0
  refine SFun.top (rows := [(.slice a0 K.length cap0, K.length, encL kinE K)]) (g := gtab) (us := [.slice a0 K.length cap0, .int .u8 at', .int .u8 to']) ⟨r0, trivial⟩ hg (fun r h => ?_) (jumps_fun K n0 at' to' ha ht)
  simp only [VRs, VR]
  exact ⟨_, _, rfl, h 0 _ _ _ rfl, _, _, rfl, rfl, _, _, rfl, rfl, rfl⟩
end
end Go.Lev
