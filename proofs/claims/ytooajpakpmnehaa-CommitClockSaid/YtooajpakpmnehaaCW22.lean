/- CommitClock (P25.3): for any cells, any number the law returns true; what was there stays as it was. No condition. -/
import Derived.Test.YtooajpakpmnehaaCW17
import Derived.Test.YtooajpakpmnehaaCW21
import Derived.Test.YtooajpakpmnehaaLc
import Derived.Test.YtooajpakpmnehaaChecked
import Derived.KernelRfl

namespace Go.Lev
open Go.RowKit
set_option linter.unusedVariables false
set_option linter.unusedSimpArgs false
set_option maxRecDepth 100000
noncomputable section
structure CeR where
  at1 : Int
  w : Int
abbrev ceL (x : CeR) : List LV := [.int .i64 x.at1, .int .u64 x.w]
theorem ceL_len (x : CeR) : (ceL x).length = 2 := rfl
theorem ce_0 {xs : List CeR} {i : Nat} (h : i < xs.length) : nthD (encL ceL xs) (i * 2) = .int .i64 xs[i].at1 := encL_nth ceL_len (j := 0) h (by omega)
theorem ce_1 {xs : List CeR} {i : Nat} (h : i < xs.length) : nthD (encL ceL xs) (i * 2 + 1) = .int .u64 xs[i].w := encL_nth ceL_len (j := 1) h (by omega)
theorem ce_n (xs : List CeR) : (encL ceL xs).length = xs.length * 2 := encL_length ceL_len xs
theorem ce_noids (xs : List CeR) : noIds (encL ceL xs) = true := noIds_encL (fun _ => rfl) xs
def ce_bd (x : CeR) : Prop := (IntKind.i64.min ≤ x.at1 ∧ x.at1 ≤ IntKind.i64.max) ∧ (IntKind.u64.min ≤ x.w ∧ x.w ≤ IntKind.u64.max)
theorem ce_row {H : Type} {enc : TypeId × Value → H} {W : World} {a : Option Addr} {len cap : Nat} {d : DataW H} {ps : List MemPlace} (h : DataW.Trod enc Go.Proofs.Try.prog W 0 (fun _ => true) true 31 (.slice a len cap) d ps) :
    ∃ xs : List CeR, xs.length = len ∧ len ≤ 9223372036854775807 ∧ (∀ x ∈ xs, ce_bd x) ∧ RowArg W (.slice a len cap) len (encL ceL xs) := by
  obtain ⟨xs, q1, q2, q3, q4⟩ := row_arg (f := ceL) (ok := ce_bd) ceL_len (by omega) Go.Proofs.Try.underlying31 (by kernel_rfl) h fun cs n x hl hx => by
    have hf := fl_ok 8 (l := [(0, .int .i64), (1, .int .u64)]) (by kernel_rfl) hx
    obtain ⟨_, e0, z0, rfl, b0⟩ := hf (0, .int .i64) (by simp)
    obtain ⟨_, e1, z1, rfl, b1⟩ := hf (1, .int .u64) (by simp)
    refine ⟨⟨z0, z1⟩, ⟨b0, b1⟩, fun i l hi => ?_⟩
    match i with
    | 0 => simp at hi; subst hi; exact ⟨rfl, _, e0, by simp only [VR]⟩
    | 1 => simp at hi; subst hi; exact ⟨rfl, _, e1, by simp only [VR]⟩
    | i + 2 => simp at hi
  exact ⟨xs, q1, q2, q3, q4⟩
theorem runs25 : isTrue (lrun Go.Proofs.Try.prog 4000 3 []) = true := by kernel_rfl
theorem cxk_ok : CtrOk Go.Proofs.Try.prog (ctrOf cxk) := cxl_ok ⟨runG_ok runs25, withinG_ok, putG_ok, cloneLk_ok, cloneU_ok, newN_ok, alG_ok, sameLG_ok, trivial⟩
abbrev z64 : List LV := [.int .u64 0, .int .u64 0, .int .u64 0, .int .u64 0, .int .u64 0, .int .u64 0, .int .u64 0, .int .u64 0, .int .u64 0, .int .u64 0, .int .u64 0, .int .u64 0, .int .u64 0, .int .u64 0, .int .u64 0, .int .u64 0, .int .u64 0, .int .u64 0, .int .u64 0, .int .u64 0, .int .u64 0, .int .u64 0, .int .u64 0, .int .u64 0, .int .u64 0, .int .u64 0, .int .u64 0, .int .u64 0, .int .u64 0, .int .u64 0, .int .u64 0, .int .u64 0, .int .u64 0, .int .u64 0, .int .u64 0, .int .u64 0, .int .u64 0, .int .u64 0, .int .u64 0, .int .u64 0, .int .u64 0, .int .u64 0, .int .u64 0, .int .u64 0, .int .u64 0, .int .u64 0, .int .u64 0, .int .u64 0, .int .u64 0, .int .u64 0, .int .u64 0, .int .u64 0, .int .u64 0, .int .u64 0, .int .u64 0, .int .u64 0, .int .u64 0, .int .u64 0, .int .u64 0, .int .u64 0, .int .u64 0, .int .u64 0, .int .u64 0, .int .u64 0]
abbrev W64 : List Int := List.replicate 64 0
abbrev L8 : List Lk := List.replicate 8 (0, false, 0)
theorem z64_eq : z64 = encL (cI .u64) W64 := by kernel_rfl
theorem zL8 : ([.int .u64 0, .bool false, .int .i64 0, .int .u64 0, .bool false, .int .i64 0, .int .u64 0, .bool false, .int .i64 0, .int .u64 0, .bool false, .int .i64 0, .int .u64 0, .bool false, .int .i64 0, .int .u64 0, .bool false, .int .i64 0, .int .u64 0, .bool false, .int .i64 0, .int .u64 0, .bool false, .int .i64 0] : List LV) = encL cL L8 := by kernel_rfl
theorem z1_eq : ([.int .u64 0] : List LV) = encL (cI .u64) [0] := by kernel_rfl
abbrev N8 (bk : Int) : Int := 4611686018427387903 - bk % 3
theorem n8 {bk : Int} (hb : 0 ≤ bk ∧ bk ≤ 255) : xar .sub .u64 4611686018427387903 (xwr .u64 (xar .rem .u8 bk 3)) = N8 bk ∧ xmn (N8 bk) 4611686018427387903 = N8 bk ∧ xar .rem .u8 bk 3 = bk % 3 ∧ xar .sub .u64 4611686018427387904 (xwr .u64 (bk % 3)) = 4611686018427387904 - bk % 3 := by
  have e : bk.tmod 3 = bk % 3 := Int.tmod_eq_emod_of_nonneg hb.1
  have e1 : xar .rem .u8 bk 3 = bk % 3 := by rw [xar_rem _ _ _ (by omega), e]
  have e2 : xwr .u64 (bk % 3) = bk % 3 := wr_u64 (by omega) (by omega)
  refine ⟨?_, ?_, e1, ?_⟩
  · rw [e1, e2, xar_sub]; exact wr_u64 (by omega) (by omega)
  · simp only [wd_mn, N8]; split <;> omega
  · rw [e2, xar_sub]; exact wr_u64 (by omega) (by omega)
structure RowK (xs : List (Int × Int)) : Prop where
  n : xs.length ≤ 9
  h : ∀ j, j < xs.length → 1 ≤ (xs.getD j q0).1 ∧ (xs.getD j q0).1 < 64
/-- The cells are put. -/
theorem ck_loop (bk : Int) (qs : List CeR) (n0 : Nat) (e0 : qs.length = n0) (hn0 : n0 ≤ 9223372036854775807) (sq N C : Int) (ws ls zs : List LV) (nw : noIds ws = true) (nl : noIds ls = true) (nz : noIds zs = true) (Φ : Pk) : SCode Go.Proofs.Try.prog 113 (nthC (sp Go.Proofs.Try.prog 6) 8) 1 (mkTm 113 (ckT n0 0 0 bk)) (mkS (ckH (encL ceL qs) sq N C ws ls zs []))
    (vK ckL (toK (σ := {p : Nat × List (Int × Int) // RowK p.2}) 1 113 ckL [] (fun p => ckT n0 p.1.1 p.1.2.length bk) (fun p => ckH (encL ceL qs) sq N C ws ls zs (encL cell p.1.2)) Φ)) := by
  have nx := ce_noids qs
  refine SCode.loop_vc (cx := cxk) cxk_ok (n := 60) 0 (by kernel_rfl) (σ := {p : Nat × List (Int × Int) // RowK p.2 ∧ p.2.length ≤ p.1}) (fun p => ckT n0 p.1.1 p.1.2.length bk) (fun p => ckH (encL ceL qs) sq N C ws ls zs (encL cell p.1.2)) (fun p => 9 - p.1.1) (fun _ => Nat.le_of_ble_eq_true rfl) (fun ⟨⟨k, ys⟩, hy, hk⟩ => ?_) ⟨(0, []), ⟨Nat.zero_le _, fun j hj => by simp at hj⟩, Nat.le_refl _⟩
  dsimp only at hy hk ⊢
  have ny := noids_c ys
  have oy : okC (encL cell ys) ys.length = true := okC_enc (by have := hy.n; omega)
  rw [ck_b, wd_lss]
  refine ite_way (fun h1 => ?_) (fun h1 => ⟨rfl, ⟨(k, ys), hy⟩, [.id 0, .id 1, .id 2, .id 3, .id 4, .id 5, .id 6, .id 7, .id 8, .id 9], by (refine ⟨by kernel_rfl, ?_, ?_⟩ <;> repeat first | exact okTms_nil | refine okTms_cons ?_ ?_ | exact okBlks_nil | refine okBlks_cons ?_ ?_ | exact lws_nil | refine lws_cons ?_ ?_ | exact lb_dead | exact zy1 | exact zy2 | exact lb_none | refine zy3 ?_ | exact zy4 | exact lw_any | exact lw_int | exact lw_bool | exact zy5 | exact zy6 | exact lw_nils | exact lw_slo_nils | exact zy7 | exact zy8 | exact zy9 | refine lw_tup ?_ | refine lw_agg ?_ | assumption)⟩)
  refine ways (fun h2 => ?_) (fun h2 => ⟨rfl, ⟨(k, ys), hy⟩, [.id 0, .id 1, .id 2, .id 3, .id 4, .id 5, .id 6, .id 7, .id 8, .id 9], by (refine ⟨by kernel_rfl, ?_, ?_⟩ <;> repeat first | exact okTms_nil | refine okTms_cons ?_ ?_ | exact okBlks_nil | refine okBlks_cons ?_ ?_ | exact lws_nil | refine lws_cons ?_ ?_ | exact lb_dead | exact zy1 | exact zy2 | exact lb_none | refine zy3 ?_ | exact zy4 | exact lw_any | exact lw_int | exact lw_bool | exact zy5 | exact zy6 | exact lw_nils | exact lw_slo_nils | exact zy7 | exact zy8 | exact zy9 | refine lw_tup ?_ | refine lw_agg ?_ | assumption)⟩)
  have k9 : (k : Int) < 9 := by simpa [xcm_lss] using h2
  have hix : k < qs.length := by omega
  have e3 : xar .add .i64 (k : Int) 1 = ((k + 1 : Nat) : Int) := by rw [add_i64 (by omega) (by omega)]; omega
  have yn := hy.n
  simp only [wd_nat, wd_asV, wd_isV, wd_ix, wd_add, wd_mul, wd_ln, Nat.zero_add, Nat.mul_one, wd_isI, wd_asI, wd_isB, wd_asB, wd_nn, cI_tlen, cB_tlen, cII_tlen, decide_true, cond_true, wd_not_t, wd_not_f, wd_and_t, wd_and_f, Nat.add_assoc, Nat.reduceAdd, ce_0 hix, ce_1 hix, ce_n, oy, e3]
  (with_reducible repeat first | refine zq1 ?_ | refine zq2 ?_ | refine zq3 ?_ | refine zq4 ?_ | refine zq5 ?_ | refine zq6 ?_ | refine zq7 ?_ | refine zq8 ?_ | refine zq9 ?_ | refine zqa ?_ | refine zqb ?_ | refine zqc ?_ | refine zqd ?_ | refine zqe ?_ | refine zqf ?_ | refine zqg ?_ | refine zqh ?_ | refine zqi ?_ | refine zqj ?_ | refine zqk ?_ | refine zql ?_ | refine zqm ?_ | refine zqn ?_ | refine zqo ?_ | refine zqp ?_)
  have en : ∀ a v, putN (encL cell ys) a v = (putL ys a v).length := fun a v => by rw [putN, decC_enc]
  have ec : ∀ a v, putC (encL cell ys) a v = encL cell (putL ys a v) := fun a v => by rw [putC, decC_enc]
  have nz' : ∀ a v, noIds (encL cell (putL ys a v)) = true := fun a v => noids_c _
  have hl := fun a v => putL_len ys a v
  simp only [en, ec]
  generalize hv : xar .add .u64 (xar .rem .u64 qs[k].w 9) 1 = v
  have nz2 := nz' (wthV qs[k].at1 1 63) v
  have hin := wthV_in (a := qs[k].at1) (lo := 1) (hi := 63) (by omega)
  have hl2 := hl (wthV qs[k].at1 1 63) v
  refine ⟨rfl, ⟨(k + 1, putL ys (wthV qs[k].at1 1 63) v), ⟨by show (putL ys (wthV qs[k].at1 1 63) v).length ≤ 9; omega, putL_in (P := fun x => 1 ≤ x ∧ x < 64) hy.h (by omega)⟩, by simp only; omega⟩, by simp only; omega, [.id 0, .id 1, .id 2, .id 3, .id 4, .id 5, .id 6, .id 7, .id 8, .id 10], ?_⟩
  (refine ⟨by kernel_rfl, ?_, ?_⟩ <;> repeat first | exact okTms_nil | refine okTms_cons ?_ ?_ | exact okBlks_nil | refine okBlks_cons ?_ ?_ | exact lws_nil | refine lws_cons ?_ ?_ | exact lb_dead | exact zy1 | exact zy2 | exact lb_none | refine zy3 ?_ | exact zy4 | exact lw_any | exact lw_int | exact lw_bool | exact zy5 | exact zy6 | exact lw_nils | exact lw_slo_nils | exact zy7 | exact zy8 | exact zy9 | refine lw_tup ?_ | refine lw_agg ?_ | assumption)
theorem hld8 : hld 8 = 8 := by simp [hld]
/-- What is known there. -/
theorem env8 (bk : Int) (ys : List (Int × Int)) (hy : RowK ys) : Env 0 (N8 bk) [] ys (strL ys 8 2) L8 W64 (N8 bk) (bk % 3 ≠ 0) (fun a b c d => a = 4 ∧ b = -1 ∧ c = 7 ∧ d = N8 bk ∧ bk % 3 = 0) := by
  have gL : ∀ i : Nat, L8.getD i d0 = d0 := fun i => by
    simp only [List.getD_eq_getElem?_getD, List.getElem?_replicate]; split <;> rfl
  refine ⟨by omega, by simp, by have := hy.n; omega, strL_len _ _ _, by simp, by simp, hy.h, fun t t' => str_inj _ _ _, fun t ht => ?_, fun i _ => by rw [gL]; rfl, by simp only [N8]; omega, fun t _ h => ?_, fun h => ⟨rfl, rfl, rfl, rfl, by simp only [N8] at h; omega⟩, fun _ _ h => absurd rfl h, fun _ h _ => by simp only [N8] at h; omega, fun a b c d h => by omega⟩
  · have := str_rng ys 8 2 ht
    rw [hld8] at this
    simpa using this
  · rw [gL] at h; cases h
abbrev ckR (ax : List LV) (sq : Int) (r : List LV) (ys : List (Int × Int)) (ss : List Int) (stm : Int) (p : CS × MS) : List LB := ckK ax sq p.2.N p.2.C (encL (cI .u64) p.2.W) (encL cL p.2.L) (encL (cI .u64) p.2.S) r (encL cL L8) 0 stm 0 ys.length ss.length p.1.tk.length [] (encL cell ys) (encL (cI .i64) ss) (encL cL p.1.tk) p.1.su p.1.en p.1.bu p.1.er p.1.lk.1 p.1.lk.2.1 p.1.lk.2.2 p.1.ph p.1.at' p.1.now p.1.st p.1.ve p.1.vb p.1.vr
set_option maxHeartbeats 1000000 in
theorem clock_fun (bk : Int) (hb : 0 ≤ bk ∧ bk ≤ 255) (qs : List CeR) (n0 : Nat) (e0 : qs.length = n0) (hn0 : n0 ≤ 9223372036854775807) :
    SFun Go.Proofs.Try.prog 6 [.slo 0 0 n0 0, .int .u8 bk] (mkS [.ro (encL ceL qs)]) fun l _ => l = .bool true := by
  refine SFun.mono (SFun.pieces (Q := fun l _ => l = .bool true) 113 1 ckL [4] (by kernel_rfl) rfl rfl rfl ?_) fun l s' ⟨b0, h1, _⟩ => h1
  have nx := ce_noids qs
  obtain ⟨b1, b2, b3, b4⟩ := n8 hb
  refine SSp.to cxk_ok (n := 60) (g := []) 8 8 rfl (σ := Unit) (fun _ => ckT n0 0 0 bk) (fun _ => ckH (encL ceL qs) (N8 bk) (N8 bk) 0 (encL (cI .u64) W64) (encL cL L8) (encL (cI .u64) [0]) []) (mkS_le (Nat.le_refl _)) (by kernel_rfl) ?_ fun _ => ?_
  · rw [ck_a]
    simp only [b1, b2, cm_self, cond_true]
    have e64 := z64_eq
    simp only [z64] at e64
    rw [zL8, e64, show ([LV.int .u64 0] : List LV) = encL (cI .u64) [0] from z1_eq]
    have n1 := noIds_Iu64 W64
    have n2 := noids_l L8
    have n3 := noIds_Iu64 [0]
    have l1 : (encL (cI .u64) W64).length = 64 * 1 := by rw [encIu64_len]; simp
    have l2 : (encL cL L8).length = 8 * 3 := by rw [lk_n]; simp
    have l3 : (encL (cI .u64) [0]).length = 1 * 1 := by rw [encIu64_len]; rfl
    exact ⟨rfl, (), [.id 0, .id 11, .id 5, .cap 4 0 64, .id 7, .cap 6 0 8, .id 8, .id 10, .cap 9 0 1, .none], by (refine ⟨by kernel_rfl, ?_, ?_⟩ <;> repeat first | exact okTms_nil | refine okTms_cons ?_ ?_ | exact okBlks_nil | refine okBlks_cons ?_ ?_ | exact lws_nil | refine lws_cons ?_ ?_ | exact lb_dead | exact zy1 | exact zy2 | exact lb_none | refine zy3 ?_ | exact zy4 | exact lw_any | exact lw_int | exact lw_bool | exact zy5 | exact zy6 | exact lw_nils | exact lw_slo_nils | exact zy7 | exact zy8 | exact zy9 | refine lw_tup ?_ | refine lw_agg ?_ | assumption)⟩
  have n1 := noIds_Iu64 W64
  have n2 := noids_l L8
  have n3 := noIds_Iu64 [0]
  refine SSp.code_to (g := []) 9 rfl (σ := {p : Nat × List (Int × Int) // RowK p.2}) (fun p => ckT n0 p.1.1 p.1.2.length bk) (fun p => ckH (encL ceL qs) (N8 bk) (N8 bk) 0 (encL (cI .u64) W64) (encL cL L8) (encL (cI .u64) [0]) (encL cell p.1.2)) (by kernel_rfl) (ck_loop bk qs n0 e0 hn0 _ _ _ _ _ _ n1 n2 n3 _) fun ⟨⟨k, ys⟩, hy⟩ => ?_
  dsimp only at hy ⊢
  have ny := noids_c ys
  have yn := hy.n
  have oy : okC (encL cell ys) ys.length = true := okC_enc (by omega)
  have ns := noIds_Ii64 (strL ys 8 2)
  have es1 : stN ys.length (encL cell ys) 8 2 = (strL ys 8 2).length := rfl
  have es2 : stC ys.length (encL cell ys) 8 2 = encL (cI .i64) (strL ys 8 2) := rfl
  have hsl := strL_len ys 8 2
  refine SSp.to cxk_ok (n := 60) (g := []) 2 11 rfl (σ := Unit) (fun _ => ckU bk) (fun _ => ckR (encL ceL qs) (N8 bk) (encL cell ys) ys (strL ys 8 2) (N8 bk) (cs0 1 (strL ys 8 2).length, ⟨W64, L8, N8 bk, [0], 0⟩)) (mkS_le (Nat.le_of_ble_eq_true rfl)) (by kernel_rfl) ?_ fun _ => ?_
  · have xl := xnoid_l L8
    have l2 : (encL cL L8).length = 24 := by rw [lk_n]; simp
    rw [ck_c]
    simp only [wd_nat, wd_asV, wd_isV, wd_ix, wd_add, wd_mul, wd_ln, Nat.zero_add, Nat.mul_one, wd_isI, wd_asI, wd_isB, wd_asB, wd_nn, cI_tlen, cB_tlen, cII_tlen, decide_true, cond_true, wd_not_t, wd_not_f, wd_and_t, wd_and_f, xl, l2, oy, es1, es2]
    (with_reducible repeat first | refine zq1 ?_ | refine zq2 ?_ | refine zq3 ?_ | refine zq4 ?_ | refine zq5 ?_ | refine zq6 ?_ | refine zq7 ?_ | refine zq8 ?_ | refine zq9 ?_ | refine zqa ?_ | refine zqb ?_ | refine zqc ?_ | refine zqd ?_ | refine zqe ?_ | refine zqf ?_ | refine zqg ?_ | refine zqh ?_ | refine zqi ?_ | refine zqj ?_ | refine zqk ?_ | refine zql ?_ | refine zqm ?_ | refine zqn ?_ | refine zqo ?_ | refine zqp ?_)
    exact ⟨rfl, (), [.id 0, .id 1, .id 2, .id 3, .id 4, .id 5, .id 6, .id 7, .id 8, .id 9, .id 10, .id 11, .id 12, .id 13, .id 14, .id 15, .id 16], by (refine ⟨by kernel_rfl, ?_, ?_⟩ <;> repeat first | exact okTms_nil | refine okTms_cons ?_ ?_ | exact okBlks_nil | refine okBlks_cons ?_ ?_ | exact lws_nil | refine lws_cons ?_ ?_ | exact lb_dead | exact zy1 | exact zy2 | exact lb_none | refine zy3 ?_ | exact zy4 | exact lw_any | exact lw_int | exact lw_bool | exact zy5 | exact zy6 | exact lw_nils | exact lw_slo_nils | exact zy7 | exact zy8 | exact zy9 | refine lw_tup ?_ | refine lw_agg ?_ | assumption)⟩
  obtain ⟨r1, r2, r3⟩ := run_cs0 (env8 bk ys hy) 1 (m := ⟨W64, L8, N8 bk, [0], 0⟩) ⟨by simp, by simp, by simp⟩ rfl rfl rfl
  obtain ⟨l1, l2, l3⟩ := aRun_len (me := 0) (stm := N8 bk) (qs := []) (cs := ys) (ss := strL ys 8 2) 299 (cs0 1 (strL ys 8 2).length, ⟨W64, L8, N8 bk, [0], 0⟩)
  refine SSp.to cxk_ok (n := 60) (g := []) 2 13 rfl (σ := Unit) (fun _ => ckU bk) (fun _ => ckR (encL ceL qs) (N8 bk) (encL cell ys) ys (strL ys 8 2) (N8 bk) (aRun 0 (N8 bk) [] ys (strL ys 8 2) 299 (cs0 1 (strL ys 8 2).length, ⟨W64, L8, N8 bk, [0], 0⟩))) (mkS_le (Nat.le_of_ble_eq_true rfl)) (by kernel_rfl) ?_ fun _ => ?_
  · have ok := okK_enc (qs := []) (cs := ys) (ss := strL ys 8 2) (tk := []) (by simp) (by omega) (by omega) (by simp)
    have oks : okS 0 ys.length (strL ys 8 2).length (cs0 1 (strL ys 8 2).length) = true := okS_iff.2 (cs0_ok 1 0 ys.length (strL ys 8 2).length)
    have mk := mkC_s (cs0 1 (strL ys 8 2).length)
    have o3 := okIu64_enc (xs := W64) (by simp)
    have o4 := okL_enc (xs := L8) (by simp)
    have o5 := okIu64_enc (xs := ([0] : List Int)) (by simp)
    have em : decM (encL (cI .u64) W64) (encL cL L8) (encL (cI .u64) [0]) (N8 bk) 0 = ⟨W64, L8, N8 bk, [0], 0⟩ := decM_enc ⟨W64, L8, N8 bk, [0], 0⟩
    have ep : arP 0 (N8 bk) [] (encL cell ys) (encL (cI .i64) (strL ys 8 2)) (cs0 1 (strL ys 8 2).length) (encL (cI .u64) W64) (encL cL L8) (encL (cI .u64) [0]) (N8 bk) 0 = aRun 0 (N8 bk) [] ys (strL ys 8 2) 299 (cs0 1 (strL ys 8 2).length, ⟨W64, L8, N8 bk, [0], 0⟩) := by
      rw [arP, decC_enc, decIi64_enc, em]; rfl
    have oa : okAr 0 (N8 bk) [] (encL cell ys) (encL (cI .i64) (strL ys 8 2)) (cs0 1 (strL ys 8 2).length) (encL (cI .u64) W64) (encL cL L8) (encL (cI .u64) [0]) (N8 bk) 0 = true := by
      rw [okAr, ep]; exact decide_eq_true ⟨by simp only [N8]; omega, r1⟩
    simp only [List.length_replicate, List.length_nil, List.length_cons, Nat.zero_add] at ok o3 o4 o5
    simp only [encL] at ok mk o5
    dsimp only [ckR] at *
    rw [ck_d]
    simp only [encL] at *
    simp only [List.length_nil, wd_nn, ok, mk, oks, o3, o4, o5, oa, cm_self, cond_true, arS, arW, arL, arZ, arN, arC, ep]
    generalize aRun 0 (N8 bk) [] ys (strL ys 8 2) 299 (cs0 1 (strL ys 8 2).length, ⟨W64, L8, N8 bk, [0], 0⟩) = p at *
    have nt := noids_l p.1.tk
    have m1 := noIds_Iu64 p.2.W
    have m2 := noids_l p.2.L
    have m3 := noIds_Iu64 p.2.S
    (with_reducible repeat first | refine zq1 ?_ | refine zq2 ?_ | refine zq3 ?_ | refine zq4 ?_ | refine zq5 ?_ | refine zq6 ?_ | refine zq7 ?_ | refine zq8 ?_ | refine zq9 ?_ | refine zqa ?_ | refine zqb ?_ | refine zqc ?_ | refine zqd ?_ | refine zqe ?_ | refine zqf ?_ | refine zqg ?_ | refine zqh ?_ | refine zqi ?_ | refine zqj ?_ | refine zqk ?_ | refine zql ?_ | refine zqm ?_ | refine zqn ?_ | refine zqo ?_ | refine zqp ?_)
    simp only [kSu, kEn, kBu, kEr, kLv, kLh, kLo, kPh, kAt, kNow, kSt, kVe, kVb, kVr, kTn, kTc]
    exact ⟨rfl, (), [.id 0, .id 1, .id 2, .id 3, .id 4, .id 5, .id 6, .id 7, .id 8, .id 9, .id 10, .id 11, .id 12, .id 13, .id 14, .id 15, .id 17], by (refine ⟨by kernel_rfl, ?_, ?_⟩ <;> repeat first | exact okTms_nil | refine okTms_cons ?_ ?_ | exact okBlks_nil | refine okBlks_cons ?_ ?_ | exact lws_nil | refine lws_cons ?_ ?_ | exact lb_dead | exact zy1 | exact zy2 | exact lb_none | refine zy3 ?_ | exact zy4 | exact lw_any | exact lw_int | exact lw_bool | exact zy5 | exact zy6 | exact lw_nils | exact lw_slo_nils | exact zy7 | exact zy8 | exact zy9 | refine lw_tup ?_ | refine lw_agg ?_ | assumption)⟩
  generalize aRun 0 (N8 bk) [] ys (strL ys 8 2) 299 (cs0 1 (strL ys 8 2).length, ⟨W64, L8, N8 bk, [0], 0⟩) = p at *
  have nt := noids_l p.1.tk
  have m1 := noIds_Iu64 p.2.W
  have m2 := noids_l p.2.L
  have m3 := noIds_Iu64 p.2.S
  refine SSp.to cxk_ok (n := 60) (g := []) 4 17 rfl (σ := {_k : Unit // bk % 3 = 0}) (fun _ => ckV 0) (fun _ => ckR (encL ceL qs) (N8 bk) (encL cell ys) ys (strL ys 8 2) (N8 bk) p ++ [.dead, .cells (encL (cI .u64) p.2.W) (some 1)]) (mkS_le (Nat.le_of_ble_eq_true rfl)) (by kernel_rfl) ?_ fun ⟨_, hb3⟩ => ?_
  · rw [ck_e, b3, b4]
    by_cases q : bk % 3 = 0
    · have xl := xnoid_Iu64 p.2.W
      have l4 : (encL (cI .u64) p.2.W).length = 64 := by rw [encIu64_len, l1]; simp
      simp only [wd_nat, wd_asV, wd_isV, wd_ix, wd_add, wd_mul, wd_ln, Nat.zero_add, Nat.mul_one, wd_isI, wd_asI, wd_isB, wd_asB, wd_nn, cI_tlen, cB_tlen, cII_tlen, decide_true, cond_true, wd_not_t, wd_not_f, wd_and_t, wd_and_f, xl, l4]
      (with_reducible repeat first | refine zq1 ?_ | refine zq2 ?_ | refine zq3 ?_ | refine zq4 ?_ | refine zq5 ?_ | refine zq6 ?_ | refine zq7 ?_ | refine zq8 ?_ | refine zq9 ?_ | refine zqa ?_ | refine zqb ?_ | refine zqc ?_ | refine zqd ?_ | refine zqe ?_ | refine zqf ?_ | refine zqg ?_ | refine zqh ?_ | refine zqi ?_ | refine zqj ?_ | refine zqk ?_ | refine zql ?_ | refine zqm ?_ | refine zqn ?_ | refine zqo ?_ | refine zqp ?_)
      exact ⟨rfl, ⟨(), q⟩, [.id 0, .id 1, .id 2, .id 3, .id 4, .id 5, .id 6, .id 7, .id 8, .id 9, .id 10, .id 11, .id 12, .id 13, .id 14, .id 15, .id 16, .none, .id 17], by (refine ⟨by kernel_rfl, ?_, ?_⟩ <;> repeat first | exact okTms_nil | refine okTms_cons ?_ ?_ | exact okBlks_nil | refine okBlks_cons ?_ ?_ | exact lws_nil | refine lws_cons ?_ ?_ | exact lb_dead | exact zy1 | exact zy2 | exact lb_none | refine zy3 ?_ | exact zy4 | exact lw_any | exact lw_int | exact lw_bool | exact zy5 | exact zy6 | exact lw_nils | exact lw_slo_nils | exact zy7 | exact zy8 | exact zy9 | refine lw_tup ?_ | refine lw_agg ?_ | assumption)⟩
    · rcases r2 with ⟨f1, f2, f3⟩ | ⟨f1, _⟩
      · have e1 : xcm .eql p.2.N (4611686018427387904 - bk % 3) = true := t_eql (by rw [f3]; simp only [N8]; omega)
        have g1 : 0 < bk % 3 := by omega
        simp only [e1]
        (with_reducible repeat first | refine zq1 ?_ | refine zq2 ?_ | refine zq3 ?_ | refine zq4 ?_ | refine zq5 ?_ | refine zq6 ?_ | refine zq7 ?_ | refine zq8 ?_ | refine zq9 ?_ | refine zqa ?_ | refine zqb ?_ | refine zqc ?_ | refine zqd ?_ | refine zqe ?_ | refine zqf ?_ | refine zqg ?_ | refine zqh ?_ | refine zqi ?_ | refine zqj ?_ | refine zqk ?_ | refine zql ?_ | refine zqm ?_ | refine zqn ?_ | refine zqo ?_ | refine zqp ?_)
        exact ⟨trivial, rfl, .bool true, [.ro _], [.id 0], rfl, by (refine ⟨by kernel_rfl, ?_, ?_⟩ <;> repeat first | exact okTms_nil | refine okTms_cons ?_ ?_ | exact okBlks_nil | refine okBlks_cons ?_ ?_ | exact lws_nil | refine lws_cons ?_ ?_ | exact lb_dead | exact zy1 | exact zy2 | exact lb_none | refine zy3 ?_ | exact zy4 | exact lw_any | exact lw_int | exact lw_bool | exact zy5 | exact zy6 | exact lw_nils | exact lw_slo_nils | exact zy7 | exact zy8 | exact zy9 | refine lw_tup ?_ | refine lw_agg ?_ | assumption)⟩
      · exact absurd f1.2.2.2.2 q
  rcases r2 with ⟨_, f2, _⟩ | ⟨⟨f1, f2, f3, f4, _⟩, f5, f6, f7⟩
  · exact absurd hb3 f2
  refine SSp.code_to (g := []) 18 rfl (σ := Nat) (fun i => ckV i) (fun _ => ckR (encL ceL qs) (N8 bk) (encL cell ys) ys (strL ys 8 2) (N8 bk) p ++ [.dead, .cells (encL (cI .u64) p.2.W) (some 1)]) (by kernel_rfl) ?_ fun i => ?_
  · refine SCode.loop_vc (cx := cxk) cxk_ok (n := 60) 2 (by kernel_rfl) (σ := {i : Nat // i ≤ 64}) (fun i => ckV i.1) (fun _ => ckR (encL ceL qs) (N8 bk) (encL cell ys) ys (strL ys 8 2) (N8 bk) p ++ [.dead, .cells (encL (cI .u64) p.2.W) (some 1)]) (fun i => 64 - i.1) (fun _ => Nat.le_of_ble_eq_true rfl) (fun ⟨i, hi⟩ => ?_) ⟨0, Nat.zero_le _⟩
    dsimp only
    rw [ck_g]
    by_cases h : i < 64
    · have hiw : i < p.2.W.length := by rw [l1]; simpa using h
      have ew : p.2.W[i] = 0 := by simp [f7]
      have e3 : xar .add .i64 (i : Int) 1 = ((i + 1 : Nat) : Int) := by rw [add_i64 (by omega) (by omega)]; omega
      have l4 : (encL (cI .u64) p.2.W).length = 64 := by rw [encIu64_len, l1]; simp
      simp only [wd_nat, wd_asV, wd_isV, wd_ix, wd_add, wd_mul, wd_ln, Nat.zero_add, Nat.mul_one, wd_isI, wd_asI, wd_isB, wd_asB, wd_nn, cI_tlen, cB_tlen, cII_tlen, decide_true, cond_true, wd_not_t, wd_not_f, wd_and_t, wd_and_f, encIu64_nth hiw, l4, ew, e3]
      (with_reducible repeat first | refine zq1 ?_ | refine zq2 ?_ | refine zq3 ?_ | refine zq4 ?_ | refine zq5 ?_ | refine zq6 ?_ | refine zq7 ?_ | refine zq8 ?_ | refine zq9 ?_ | refine zqa ?_ | refine zqb ?_ | refine zqc ?_ | refine zqd ?_ | refine zqe ?_ | refine zqf ?_ | refine zqg ?_ | refine zqh ?_ | refine zqi ?_ | refine zqj ?_ | refine zqk ?_ | refine zql ?_ | refine zqm ?_ | refine zqn ?_ | refine zqo ?_ | refine zqp ?_)
      exact ⟨rfl, ⟨i + 1, h⟩, by simp only; omega, [.id 0, .id 1, .id 2, .id 3, .id 4, .id 5, .id 6, .id 7, .id 8, .id 9, .id 10, .id 11, .id 12, .id 13, .id 14, .id 15, .id 16, .id 17, .id 18], by (refine ⟨by kernel_rfl, ?_, ?_⟩ <;> repeat first | exact okTms_nil | refine okTms_cons ?_ ?_ | exact okBlks_nil | refine okBlks_cons ?_ ?_ | exact lws_nil | refine lws_cons ?_ ?_ | exact lb_dead | exact zy1 | exact zy2 | exact lb_none | refine zy3 ?_ | exact zy4 | exact lw_any | exact lw_int | exact lw_bool | exact zy5 | exact zy6 | exact lw_nils | exact lw_slo_nils | exact zy7 | exact zy8 | exact zy9 | refine lw_tup ?_ | refine lw_agg ?_ | assumption)⟩
    · (with_reducible repeat first | refine zq1 ?_ | refine zq2 ?_ | refine zq3 ?_ | refine zq4 ?_ | refine zq5 ?_ | refine zq6 ?_ | refine zq7 ?_ | refine zq8 ?_ | refine zq9 ?_ | refine zqa ?_ | refine zqb ?_ | refine zqc ?_ | refine zqd ?_ | refine zqe ?_ | refine zqf ?_ | refine zqg ?_ | refine zqh ?_ | refine zqi ?_ | refine zqj ?_ | refine zqk ?_ | refine zql ?_ | refine zqm ?_ | refine zqn ?_ | refine zqo ?_ | refine zqp ?_)
      exact ⟨rfl, i, [.id 0, .id 1, .id 2, .id 3, .id 4, .id 5, .id 6, .id 7, .id 8, .id 9, .id 10, .id 11, .id 12, .id 13, .id 14, .id 15, .id 16, .id 17, .id 18], by (refine ⟨by kernel_rfl, ?_, ?_⟩ <;> repeat first | exact okTms_nil | refine okTms_cons ?_ ?_ | exact okBlks_nil | refine okBlks_cons ?_ ?_ | exact lws_nil | refine lws_cons ?_ ?_ | exact lb_dead | exact zy1 | exact zy2 | exact lb_none | refine zy3 ?_ | exact zy4 | exact lw_any | exact lw_int | exact lw_bool | exact zy5 | exact zy6 | exact lw_nils | exact lw_slo_nils | exact zy7 | exact zy8 | exact zy9 | refine lw_tup ?_ | refine lw_agg ?_ | assumption)⟩
  refine SSp.last cxk_ok (n := 60) (mkS_le (Nat.le_of_ble_eq_true rfl)) ?_
  rw [ck_z]
  have xl := xnoid_l L8
  have l5 : (encL cL L8).length = 24 := by rw [lk_n]; simp
  have o4 := okL_enc (xs := L8) (by simp)
  simp only [List.length_replicate] at o4
  have es : sameL 8 8 (encL cL L8) (encL cL L8) = true := by
    rw [sameL]; simp
  have e1 : xcm .eql p.2.N 4611686018427387903 = true := t_eql (by rw [f4]; simp only [N8]; omega)
  simp only [f5, f6, e1, es, o4, cond_true]
  simp only [wd_nat, wd_asV, wd_isV, wd_ix, wd_add, wd_mul, wd_ln, Nat.zero_add, Nat.mul_one, wd_isI, wd_asI, wd_isB, wd_asB, wd_nn, cI_tlen, cB_tlen, cII_tlen, decide_true, cond_true, wd_not_t, wd_not_f, wd_and_t, wd_and_f, xl, l5]
  (with_reducible repeat first | refine zq1 ?_ | refine zq2 ?_ | refine zq3 ?_ | refine zq4 ?_ | refine zq5 ?_ | refine zq6 ?_ | refine zq7 ?_ | refine zq8 ?_ | refine zq9 ?_ | refine zqa ?_ | refine zqb ?_ | refine zqc ?_ | refine zqd ?_ | refine zqe ?_ | refine zqf ?_ | refine zqg ?_ | refine zqh ?_ | refine zqi ?_ | refine zqj ?_ | refine zqk ?_ | refine zql ?_ | refine zqm ?_ | refine zqn ?_ | refine zqo ?_ | refine zqp ?_)
  exact ⟨trivial, rfl, .bool true, [.ro _], [.id 0], rfl, by (refine ⟨by kernel_rfl, ?_, ?_⟩ <;> repeat first | exact okTms_nil | refine okTms_cons ?_ ?_ | exact okBlks_nil | refine okBlks_cons ?_ ?_ | exact lws_nil | refine lws_cons ?_ ?_ | exact lb_dead | exact zy1 | exact zy2 | exact lb_none | refine zy3 ?_ | exact zy4 | exact lw_any | exact lw_int | exact lw_bool | exact zy5 | exact zy6 | exact lw_nils | exact lw_slo_nils | exact zy7 | exact zy8 | exact zy9 | refine lw_tup ?_ | refine lw_agg ?_ | assumption)⟩
end
theorem clock_any {H : Type} {enc : TypeId × Value → H} {W : World} {a0 : Option Addr} {len0 cap0 : Nat} {d0 : DataW H} {p0 : List MemPlace} (bk : Int) (hb : 0 ≤ bk ∧ bk ≤ 255) (h0 : DataW.Trod enc Go.Proofs.Try.prog W 0 (fun _ => true) true 31 (.slice a0 len0 cap0) d0 p0) :
    Calls Go.Proofs.Try.prog 6 #[.slice a0 len0 cap0, .int .u8 bk] W fun e W' => e = .returned (.bool true) ∧ Below W.heap.size W W' := by
  obtain ⟨qs, e0, n0, _, r0⟩ := ce_row h0
  refine SFun.top (rows := [(.slice a0 len0 cap0, len0, encL ceL qs)]) (g := []) (us := [.slice a0 len0 cap0, .int .u8 bk]) ⟨r0, trivial⟩ (fun x hx => by cases hx) (fun r h => ?_) (clock_fun bk hb qs len0 e0 n0)
  simp only [VRs, VR]
  exact ⟨_, _, rfl, h 0 _ _ _ rfl, _, _, rfl, rfl, rfl⟩
end Go.Lev
