/- CommitLets (P25.1): for any cells, any numbers the law returns true; what was there stays as it was. No condition. -/
import Derived.Test.YtooajpakpmnehaaCW23
import Derived.Test.YtooajpakpmnehaaLc
import Derived.Test.YtooajpakpmnehaaChecked
import Derived.KernelRfl

namespace Go.Lev
open Go.RowKit
set_option linter.unusedVariables false
set_option linter.unusedSimpArgs false
set_option maxRecDepth 100000
noncomputable section
structure CeR where
  at1 : Int
  w : Int
abbrev ceL (x : CeR) : List LV := [.int .i64 x.at1, .int .u64 x.w]
theorem ceL_len (x : CeR) : (ceL x).length = 2 := rfl
theorem ce_0 {xs : List CeR} {i : Nat} (h : i < xs.length) : nthD (encL ceL xs) (i * 2) = .int .i64 xs[i].at1 := encL_nth ceL_len (j := 0) h (by omega)
theorem ce_1 {xs : List CeR} {i : Nat} (h : i < xs.length) : nthD (encL ceL xs) (i * 2 + 1) = .int .u64 xs[i].w := encL_nth ceL_len (j := 1) h (by omega)
theorem ce_n (xs : List CeR) : (encL ceL xs).length = xs.length * 2 := encL_length ceL_len xs
theorem ce_noids (xs : List CeR) : noIds (encL ceL xs) = true := noIds_encL (fun _ => rfl) xs
def ce_bd (x : CeR) : Prop := (IntKind.i64.min ≤ x.at1 ∧ x.at1 ≤ IntKind.i64.max) ∧ (IntKind.u64.min ≤ x.w ∧ x.w ≤ IntKind.u64.max)
theorem ce_row {H : Type} {enc : TypeId × Value → H} {W : World} {a : Option Addr} {len cap : Nat} {d : DataW H} {ps : List MemPlace} (h : DataW.Trod enc Go.Proofs.Try.prog W 0 (fun _ => true) true 31 (.slice a len cap) d ps) :
    ∃ xs : List CeR, xs.length = len ∧ len ≤ 9223372036854775807 ∧ (∀ x ∈ xs, ce_bd x) ∧ RowArg W (.slice a len cap) len (encL ceL xs) := by
  obtain ⟨xs, q1, q2, q3, q4⟩ := row_arg (f := ceL) (ok := ce_bd) ceL_len (by omega) Go.Proofs.Try.underlying31 (by kernel_rfl) h fun cs n x hl hx => by
    have hf := fl_ok 8 (l := [(0, .int .i64), (1, .int .u64)]) (by kernel_rfl) hx
    obtain ⟨_, e0, z0, rfl, b0⟩ := hf (0, .int .i64) (by simp)
    obtain ⟨_, e1, z1, rfl, b1⟩ := hf (1, .int .u64) (by simp)
    refine ⟨⟨z0, z1⟩, ⟨b0, b1⟩, fun i l hi => ?_⟩
    match i with
    | 0 => simp at hi; subst hi; exact ⟨rfl, _, e0, by simp only [VR]⟩
    | 1 => simp at hi; subst hi; exact ⟨rfl, _, e1, by simp only [VR]⟩
    | i + 2 => simp at hi
  exact ⟨xs, q1, q2, q3, q4⟩
theorem runs25 : isTrue (lrun Go.Proofs.Try.prog 4000 3 []) = true := by kernel_rfl
theorem cxt_ok : CtrOk Go.Proofs.Try.prog (ctrOf cxt) := cxl_ok ⟨runG_ok runs25, withinG_ok, putG_ok, cloneLk_ok, cloneU_ok, newG_ok, alG_ok, sameLG_ok, mdoG_ok, ofG_ok', trivial⟩
abbrev z64 : List LV := [.int .u64 0, .int .u64 0, .int .u64 0, .int .u64 0, .int .u64 0, .int .u64 0, .int .u64 0, .int .u64 0, .int .u64 0, .int .u64 0, .int .u64 0, .int .u64 0, .int .u64 0, .int .u64 0, .int .u64 0, .int .u64 0, .int .u64 0, .int .u64 0, .int .u64 0, .int .u64 0, .int .u64 0, .int .u64 0, .int .u64 0, .int .u64 0, .int .u64 0, .int .u64 0, .int .u64 0, .int .u64 0, .int .u64 0, .int .u64 0, .int .u64 0, .int .u64 0, .int .u64 0, .int .u64 0, .int .u64 0, .int .u64 0, .int .u64 0, .int .u64 0, .int .u64 0, .int .u64 0, .int .u64 0, .int .u64 0, .int .u64 0, .int .u64 0, .int .u64 0, .int .u64 0, .int .u64 0, .int .u64 0, .int .u64 0, .int .u64 0, .int .u64 0, .int .u64 0, .int .u64 0, .int .u64 0, .int .u64 0, .int .u64 0, .int .u64 0, .int .u64 0, .int .u64 0, .int .u64 0, .int .u64 0, .int .u64 0, .int .u64 0, .int .u64 0]
abbrev W64 : List Int := List.replicate 64 0
abbrev L8 : List Lk := List.replicate 8 (0, false, 0)
abbrev Z4 : List Int := List.replicate 4 0
theorem z64_eq : z64 = encL (cI .u64) W64 := by kernel_rfl
theorem zL8 : ([.int .u64 0, .bool false, .int .i64 0, .int .u64 0, .bool false, .int .i64 0, .int .u64 0, .bool false, .int .i64 0, .int .u64 0, .bool false, .int .i64 0, .int .u64 0, .bool false, .int .i64 0, .int .u64 0, .bool false, .int .i64 0, .int .u64 0, .bool false, .int .i64 0, .int .u64 0, .bool false, .int .i64 0] : List LV) = encL cL L8 := by kernel_rfl
theorem z4_eq : ([.int .u64 0, .int .u64 0, .int .u64 0, .int .u64 0] : List LV) = encL (cI .u64) Z4 := by kernel_rfl
abbrev m0 : MS := ⟨W64, L8, 3, Z4, 0⟩
abbrev m1 (s : Int) (y : Lk) : MS := ⟨W64, L8.set s.toNat y, 3, Z4, xar .add .i64 0 1⟩
theorem set_m0 {s : Int} (h : 0 ≤ s ∧ s < 8) {y : Lk} (hy : isLk y = true) : stepM m0 ⟨5, s, 0, 0, d0, y⟩ = (m1 s y, erA 0) := by
  show stL m0 s y = _
  rw [stL, if_pos ⟨h.1, by simpa using h.2⟩, if_pos hy]
  rfl
theorem isLk_a : isLk (2, false, 0) = true := by decide
theorem isLk_b {o : Int} (h : 0 ≤ o ∧ o < 3) : isLk (1, true, o) = true := by simp [isLk]; omega
theorem of8 {a : Int} (h : 1 ≤ a ∧ a < 64) : 0 ≤ ofV a 8 1 ∧ ofV a 8 1 < 8 := by
  have e1 : hld 1 = 1 := by simp [hld]
  have e8 : hld 8 = 8 := by simp [hld]
  have e2 : a.tdiv 1 = a := Int.tdiv_one a
  have e3 : lwrap .i64 a = a := wrap_i64 (by omega) (by omega)
  rw [ofV, if_neg (by omega), e1, e8, e2, e3, Int.tmod_eq_emod_of_nonneg (by omega)]
  omega
structure RowT (xs : List (Int × Int)) : Prop where
  n : xs.length ≤ 20
  h : ∀ j, j < xs.length → 1 ≤ (xs.getD j q0).1 ∧ (xs.getD j q0).1 < 64
/-- How the memory was readied: the stripe, what was seen, its lock, by whom it is to end. -/
structure Rdy where
  s : Int
  qs : List (Int × Int)
  y : Lk
  wt : Int
def Rdy.ok (ys : List (Int × Int)) (q : Rdy) : Prop := (0 ≤ q.s ∧ q.s < 8) ∧ ((q.qs = [(q.s, 1)] ∧ q.y = (2, false, 0) ∧ q.wt = -1) ∨ (q.qs = [] ∧ q.y = (1, true, q.wt) ∧ (0 ≤ q.wt ∧ q.wt < 3) ∧ ∃ j, j < ys.length ∧ q.s = ofV (ys.getD j q0).1 8 1))
theorem Rdy.lk {ys : List (Int × Int)} {q : Rdy} (h : q.ok ys) : isLk q.y = true := by
  rcases h.2 with ⟨_, e, _⟩ | ⟨_, e, h, _⟩
  · rw [e]; exact isLk_a
  · rw [e]; exact isLk_b h
theorem hld8 : hld 8 = 8 := by simp [hld]
theorem gL8 (i : Nat) : L8.getD i d0 = d0 := by
  simp only [List.getD_eq_getElem?_getD, List.getElem?_replicate]; split <;> rfl
/-- What is known there. -/
theorem envT {ys : List (Int × Int)} (hy : RowT ys) {q : Rdy} (hq : q.ok ys) : Env 3 1 q.qs ys (strL ys 8 1) (L8.set q.s.toNat q.y) W64 3 False (fun a b c _ => a = 5 ∧ b = q.wt ∧ c = 0) := by
  obtain ⟨hs, hc⟩ := hq
  have hlk := Rdy.lk ⟨hs, hc⟩
  have gt : ∀ i : Nat, (L8.set q.s.toNat q.y).getD i d0 = if i = q.s.toNat then q.y else d0 := fun i => by
    rw [getD_setL (by simp; omega), gL8]
  have noall : q.qs = [] → q.y.2.1 = true → (∃ j, j < ys.length ∧ q.s = ofV (ys.getD j q0).1 8 1) → ¬ ∀ t, t < (strL ys 8 1).length → ((L8.set q.s.toNat q.y).getD ((strL ys 8 1).getD t 0).toNat d0).2.1 = false := fun _ h1 ⟨j, hj, e⟩ hall => by
    obtain ⟨t, ht, et⟩ := str_has ys 8 1 hj (by rw [← e]; exact hs.1)
    have := hall t ht
    rw [et, ← e, gt, if_pos rfl, h1] at this
    cases this
  refine ⟨by omega, ?_, hy.n, strL_len _ _ _, by simp, by simp, hy.h, fun t t' => str_inj _ _ _, fun t ht => ?_, fun i _ => ?_, by omega, fun t _ h => ?_, fun h => by omega, fun hall _ _ => ?_, fun _ _ h => by omega, fun a b c d h => by omega⟩
  · rcases hc with ⟨e, _⟩ | ⟨e, _⟩ <;> rw [e] <;> simp
  · have := str_rng ys 8 1 ht
    rw [hld8] at this
    simpa using this
  · rw [gt]; split
    · exact hlk
    · rfl
  · rw [gt] at h ⊢
    split at h
    · rename_i e
      rw [if_pos e]
      rcases hc with ⟨_, e2, _⟩ | ⟨_, e2, h2, _⟩
      · rw [e2] at h; cases h
      · rw [e2]; exact ⟨by simp only; omega, rfl, rfl, rfl⟩
    · cases h
  · rcases hc with ⟨e1, e2, e3⟩ | ⟨e1, e2, _, e4⟩
    · rw [e1]
      refine ⟨rfl, hs.1, by simpa using hs.2, ?_, ?_, rfl, e3.symm, rfl⟩
      · show ((L8.set q.s.toNat q.y).getD q.s.toNat d0).2.1 = false
        rw [gt, if_pos rfl, e2]
      · show ((L8.set q.s.toNat q.y).getD q.s.toNat d0).1 ≠ 1
        rw [gt, if_pos rfl, e2]; simp
    · exact absurd hall (noall e1 (by rw [e2]) e4)
/-- The cells are put. -/
theorem lt_loop (av bv : Int) (hw : Bool) (sv : Int) (qs : List CeR) (n0 : Nat) (e0 : qs.length = n0) (hn0 : n0 ≤ 9223372036854775807) (N C : Int) (ws ls zs : List LV) (nw : noIds ws = true) (nl : noIds ls = true) (nz : noIds zs = true) (Φ : Pk) : SCode Go.Proofs.Try.prog 142 (nthC (sp Go.Proofs.Try.prog 5) 8) 1 (mkTm 142 (ltT n0 0 0 av bv hw sv)) (mkS (ltH (encL ceL qs) N C ws ls zs []))
    (vK ltL (toK (σ := {p : Nat × List (Int × Int) // RowT p.2}) 1 142 ltL [] (fun p => ltT n0 p.1.1 p.1.2.length av bv hw sv) (fun p => ltH (encL ceL qs) N C ws ls zs (encL cell p.1.2)) Φ)) := by
  have nx := ce_noids qs
  refine SCode.loop_vc (cx := cxt) cxt_ok (n := 60) 0 (by kernel_rfl) (σ := {p : Nat × List (Int × Int) // RowT p.2 ∧ p.2.length ≤ p.1}) (fun p => ltT n0 p.1.1 p.1.2.length av bv hw sv) (fun p => ltH (encL ceL qs) N C ws ls zs (encL cell p.1.2)) (fun p => 20 - p.1.1) (fun _ => Nat.le_of_ble_eq_true rfl) (fun ⟨⟨k, ys⟩, hy, hk⟩ => ?_) ⟨(0, []), ⟨Nat.zero_le _, fun j hj => by simp at hj⟩, Nat.le_refl _⟩
  dsimp only at hy hk ⊢
  have ny := noids_c ys
  have oy : okC (encL cell ys) ys.length = true := okC_enc (by have := hy.n; omega)
  rw [lt_b, wd_lss]
  refine ite_way (fun h1 => ?_) (fun h1 => ⟨rfl, ⟨(k, ys), hy⟩, [.id 0, .id 1, .id 2, .id 3, .id 4, .id 5, .id 6, .id 7, .id 8, .id 9], by (refine ⟨by kernel_rfl, ?_, ?_⟩ <;> repeat first | exact okTms_nil | refine okTms_cons ?_ ?_ | exact okBlks_nil | refine okBlks_cons ?_ ?_ | exact lws_nil | refine lws_cons ?_ ?_ | exact lb_dead | exact zy1 | exact zy2 | exact lb_none | refine zy3 ?_ | exact zy4 | exact lw_any | exact lw_int | exact lw_bool | exact zy5 | exact zy6 | exact lw_nils | exact lw_slo_nils | exact zy7 | exact zy8 | exact zy9 | refine lw_tup ?_ | refine lw_agg ?_ | assumption)⟩)
  refine ways (fun h2 => ?_) (fun h2 => ⟨rfl, ⟨(k, ys), hy⟩, [.id 0, .id 1, .id 2, .id 3, .id 4, .id 5, .id 6, .id 7, .id 8, .id 9], by (refine ⟨by kernel_rfl, ?_, ?_⟩ <;> repeat first | exact okTms_nil | refine okTms_cons ?_ ?_ | exact okBlks_nil | refine okBlks_cons ?_ ?_ | exact lws_nil | refine lws_cons ?_ ?_ | exact lb_dead | exact zy1 | exact zy2 | exact lb_none | refine zy3 ?_ | exact zy4 | exact lw_any | exact lw_int | exact lw_bool | exact zy5 | exact zy6 | exact lw_nils | exact lw_slo_nils | exact zy7 | exact zy8 | exact zy9 | refine lw_tup ?_ | refine lw_agg ?_ | assumption)⟩)
  have k9 : (k : Int) < 20 := by simpa [xcm_lss] using h2
  have hix : k < qs.length := by omega
  have e3 : xar .add .i64 (k : Int) 1 = ((k + 1 : Nat) : Int) := by rw [add_i64 (by omega) (by omega)]; omega
  have yn := hy.n
  simp only [wd_nat, wd_asV, wd_isV, wd_ix, wd_add, wd_mul, wd_ln, Nat.zero_add, Nat.mul_one, wd_isI, wd_asI, wd_isB, wd_asB, wd_nn, cI_tlen, cB_tlen, cII_tlen, decide_true, cond_true, wd_not_t, wd_not_f, wd_and_t, wd_and_f, Nat.add_assoc, Nat.reduceAdd, ce_0 hix, ce_1 hix, ce_n, oy, e3]
  (with_reducible repeat first | refine zq1 ?_ | refine zq2 ?_ | refine zq3 ?_ | refine zq4 ?_ | refine zq5 ?_ | refine zq6 ?_ | refine zq7 ?_ | refine zq8 ?_ | refine zq9 ?_ | refine zqa ?_ | refine zqb ?_ | refine zqc ?_ | refine zqd ?_ | refine zqe ?_ | refine zqf ?_ | refine zqg ?_ | refine zqh ?_ | refine zqi ?_ | refine zqj ?_ | refine zqk ?_ | refine zql ?_ | refine zqm ?_ | refine zqn ?_ | refine zqo ?_ | refine zqp ?_)
  have en : ∀ a v, putN (encL cell ys) a v = (putL ys a v).length := fun a v => by rw [putN, decC_enc]
  have ec : ∀ a v, putC (encL cell ys) a v = encL cell (putL ys a v) := fun a v => by rw [putC, decC_enc]
  simp only [en, ec]
  have nz2 := noids_c (putL ys (wthV qs[k].at1 1 63) qs[k].w)
  have hin := wthV_in (a := qs[k].at1) (lo := 1) (hi := 63) (by omega)
  have hl2 := putL_len ys (wthV qs[k].at1 1 63) qs[k].w
  refine ⟨rfl, ⟨(k + 1, putL ys (wthV qs[k].at1 1 63) qs[k].w), ⟨by show (putL ys (wthV qs[k].at1 1 63) qs[k].w).length ≤ 20; omega, putL_in (P := fun x => 1 ≤ x ∧ x < 64) hy.h (by omega)⟩, by simp only; omega⟩, by simp only; omega, [.id 0, .id 1, .id 2, .id 3, .id 4, .id 5, .id 6, .id 7, .id 8, .id 10], ?_⟩
  (refine ⟨by kernel_rfl, ?_, ?_⟩ <;> repeat first | exact okTms_nil | refine okTms_cons ?_ ?_ | exact okBlks_nil | refine okBlks_cons ?_ ?_ | exact lws_nil | refine lws_cons ?_ ?_ | exact lb_dead | exact zy1 | exact zy2 | exact lb_none | refine zy3 ?_ | exact zy4 | exact lw_any | exact lw_int | exact lw_bool | exact zy5 | exact zy6 | exact lw_nils | exact lw_slo_nils | exact zy7 | exact zy8 | exact zy9 | refine lw_tup ?_ | refine lw_agg ?_ | assumption)
abbrev ltR (ax : List LV) (r : List LV) (ys : List (Int × Int)) (q : Rdy) (p : CS × MS) : List LB := ltK ax p.2.N p.2.C (encL (cI .u64) p.2.W) (encL cL p.2.L) (encL (cI .u64) p.2.S) r (encL cell q.qs) (encL cL (L8.set q.s.toNat q.y)) 3 1 q.qs.length ys.length (strL ys 8 1).length p.1.tk.length (encL cell ys) (encL (cI .i64) (strL ys 8 1)) (encL cL p.1.tk) p.1.su p.1.en p.1.bu p.1.er p.1.lk.1 p.1.lk.2.1 p.1.lk.2.2 p.1.ph p.1.at' p.1.now p.1.st p.1.ve p.1.vb p.1.vr
set_option maxHeartbeats 1000000 in
/-- The memory is readied. -/
theorem lt_rdy (av : Int) (ha : 0 ≤ av ∧ av ≤ 255) (hw : Bool) (sv o : Int) (ho : 0 ≤ o ∧ o < 3) (s : Int) (hs : 0 ≤ s ∧ s < 8) (ax : List LV) (nax : noIds ax = true) (ys : List (Int × Int)) (hy : RowT ys) (hne : 0 < ys.length) (Φ : Pk) : xsp Go.Proofs.Try.prog cxt 60 142 (seg (sp Go.Proofs.Try.prog 5) 14 2) (mkTm 142 (ltU ys.length av hw sv s o)) (mkS (ltI ax 3 0 (encL (cI .u64) W64) (encL cL L8) (encL (cI .u64) Z4) (encL cell ys) []))
    (vK ltL (toK (σ := {q : Rdy // q.ok ys}) 1 142 ltL [] (fun q => ltV ys.length q.1.qs.length sv q.1.wt) (fun q => ltI ax 3 (xar .add .i64 0 1) (encL (cI .u64) W64) (encL cL (L8.set q.1.s.toNat q.1.y)) (encL (cI .u64) Z4) (encL cell ys) (encL cell q.1.qs)) Φ)) := by
  have ny := noids_c ys
  have hyn := hy.n
  have o3 := okIu64_enc (xs := W64) (by simp)
  have o4 := okL_enc (xs := L8) (by simp)
  have o5 := okIu64_enc (xs := Z4) (by simp)
  simp only [List.length_replicate] at o3 o4 o5
  have n1 := noIds_Iu64 W64
  have n3 := noIds_Iu64 Z4
  have ng := fun y : Lk => fun i : Nat => noids_l (L8.set i y)
  rw [lt_d]
  cases hw with
  | true =>
    have eo := okO_opL ⟨5, s, 0, 0, d0, (2, false, 0)⟩
    obtain ⟨d1, d2, d3, d4, d5⟩ := d_m m0 ⟨5, s, 0, 0, d0, (2, false, 0)⟩
    rw [set_m0 hs isLk_a] at d1 d2 d3 d4 d5
    simp only [opL, opC] at eo d1 d2 d3 d4 d5
    simp only [o3, o4, o5, eo, d1, d2, d3, d4, d5, cond_true]
    have n2 := ng (2, false, 0) s.toNat
    exact ⟨rfl, ⟨⟨s, [(s, 1)], (2, false, 0), -1⟩, hs, .inl ⟨rfl, rfl, rfl⟩⟩, [.id 0, .id 1, .id 2, .id 3, .id 4, .id 5, .id 6, .id 7, .id 8, .id 9, .id 12], by (refine ⟨by kernel_rfl, ?_, ?_⟩ <;> repeat first | exact okTms_nil | refine okTms_cons ?_ ?_ | exact okBlks_nil | refine okBlks_cons ?_ ?_ | exact lws_nil | refine lws_cons ?_ ?_ | exact lb_dead | exact zy1 | exact zy2 | exact lb_none | refine zy3 ?_ | exact zy4 | exact lw_any | exact lw_int | exact lw_bool | exact zy5 | exact zy6 | exact lw_nils | exact lw_slo_nils | exact zy7 | exact zy8 | exact zy9 | refine lw_tup ?_ | refine lw_agg ?_ | assumption)⟩
  | false =>
    have e1 : xwr .i64 av = av := wr_i64 (by omega) (by omega)
    have e2 : xar .rem .i64 av (ys.length : Int) = ((av.toNat % ys.length : Nat) : Int) := by
      rw [xar_rem _ _ _ (by omega), Int.tmod_eq_emod_of_nonneg ha.1]
      obtain ⟨a, rfl⟩ := Int.eq_ofNat_of_zero_le ha.1
      rfl
    have hj : av.toNat % ys.length < ys.length := Nat.mod_lt _ hne
    generalize av.toNat % ys.length = j at e2 hj
    have hcell := hy.h j hj
    have hof := of8 hcell
    have eg : ys.getD j q0 = ys[j] := getD_q hj
    rw [eg] at hof
    have eo := okO_opL ⟨5, ofV ys[j].1 8 1, 0, 0, d0, (1, true, o)⟩
    obtain ⟨d1, d2, d3, d4, d5⟩ := d_m m0 ⟨5, ofV ys[j].1 8 1, 0, 0, d0, (1, true, o)⟩
    rw [set_m0 hof (isLk_b ho)] at d1 d2 d3 d4 d5
    simp only [opL, opC] at eo d1 d2 d3 d4 d5
    simp only [wd_nat, wd_asV, wd_isV, wd_ix, wd_add, wd_mul, wd_ln, Nat.zero_add, Nat.mul_one, wd_isI, wd_asI, wd_isB, wd_asB, wd_nn, cI_tlen, cB_tlen, cII_tlen, decide_true, cond_true, wd_not_t, wd_not_f, wd_and_t, wd_and_f, e1, e2, cell_0 hj, cell_n, o3, o4, o5, eo, d1, d2, d3, d4, d5]
    have n2 := ng (1, true, o) (ofV ys[j].1 8 1).toNat
    (with_reducible repeat first | refine zq1 ?_ | refine zq2 ?_ | refine zq3 ?_ | refine zq4 ?_ | refine zq5 ?_ | refine zq6 ?_ | refine zq7 ?_ | refine zq8 ?_ | refine zq9 ?_ | refine zqa ?_ | refine zqb ?_ | refine zqc ?_ | refine zqd ?_ | refine zqe ?_ | refine zqf ?_ | refine zqg ?_ | refine zqh ?_ | refine zqi ?_ | refine zqj ?_ | refine zqk ?_ | refine zql ?_ | refine zqm ?_ | refine zqn ?_ | refine zqo ?_ | refine zqp ?_)
    exact ⟨rfl, ⟨⟨ofV ys[j].1 8 1, [], (1, true, o), o⟩, hof, .inr ⟨rfl, rfl, ho, j, hj, by rw [eg]⟩⟩, [.id 0, .id 1, .id 2, .id 3, .id 4, .id 5, .id 6, .id 7, .id 8, .id 9, .id 10], by (refine ⟨by kernel_rfl, ?_, ?_⟩ <;> repeat first | exact okTms_nil | refine okTms_cons ?_ ?_ | exact okBlks_nil | refine okBlks_cons ?_ ?_ | exact lws_nil | refine lws_cons ?_ ?_ | exact lb_dead | exact zy1 | exact zy2 | exact lb_none | refine zy3 ?_ | exact zy4 | exact lw_any | exact lw_int | exact lw_bool | exact zy5 | exact zy6 | exact lw_nils | exact lw_slo_nils | exact zy7 | exact zy8 | exact zy9 | refine lw_tup ?_ | refine lw_agg ?_ | assumption)⟩
set_option maxHeartbeats 1000000 in
theorem lets_fun (av bv : Int) (hw : Bool) (sv : Int) (ha : 0 ≤ av ∧ av ≤ 255) (hb : 0 ≤ bv ∧ bv ≤ 255) (hsv : 0 ≤ sv ∧ sv ≤ 255) (qs : List CeR) (n0 : Nat) (e0 : qs.length = n0) (hn0 : n0 ≤ 9223372036854775807) :
    SFun Go.Proofs.Try.prog 5 [.slo 0 0 n0 0, .int .u8 av, .int .u8 bv, .bool hw, .int .u8 sv] (mkS [.ro (encL ceL qs)]) fun l _ => l = .bool true := by
  refine SFun.mono (SFun.pieces (Q := fun l _ => l = .bool true) 142 1 ltL [10] (by kernel_rfl) rfl rfl rfl ?_) fun l s' ⟨b0, h1, _⟩ => h1
  have nx := ce_noids qs
  have n1 := noIds_Iu64 W64
  have n2 := noids_l L8
  have n3 := noIds_Iu64 Z4
  refine SSp.to cxt_ok (n := 60) (g := []) 8 8 rfl (σ := Unit) (fun _ => ltT n0 0 0 av bv hw sv) (fun _ => ltH (encL ceL qs) 3 0 (encL (cI .u64) W64) (encL cL L8) (encL (cI .u64) Z4) []) (mkS_le (Nat.le_refl _)) (by kernel_rfl) ?_ fun _ => ?_
  · rw [lt_a]
    have e64 := z64_eq
    simp only [z64] at e64
    rw [zL8, e64, z4_eq]
    have l1 : (encL (cI .u64) W64).length = 64 * 1 := by rw [encIu64_len]; simp
    have l2 : (encL cL L8).length = 8 * 3 := by rw [lk_n]; simp
    have l3 : (encL (cI .u64) Z4).length = 4 * 1 := by rw [encIu64_len]; rfl
    exact ⟨rfl, (), [.id 0, .id 11, .id 5, .cap 4 0 64, .id 7, .cap 6 0 8, .id 8, .id 10, .cap 9 0 4, .none], by (refine ⟨by kernel_rfl, ?_, ?_⟩ <;> repeat first | exact okTms_nil | refine okTms_cons ?_ ?_ | exact okBlks_nil | refine okBlks_cons ?_ ?_ | exact lws_nil | refine lws_cons ?_ ?_ | exact lb_dead | exact zy1 | exact zy2 | exact lb_none | refine zy3 ?_ | exact zy4 | exact lw_any | exact lw_int | exact lw_bool | exact zy5 | exact zy6 | exact lw_nils | exact lw_slo_nils | exact zy7 | exact zy8 | exact zy9 | refine lw_tup ?_ | refine lw_agg ?_ | assumption)⟩
  refine SSp.code_to (g := []) 9 rfl (σ := {p : Nat × List (Int × Int) // RowT p.2}) (fun p => ltT n0 p.1.1 p.1.2.length av bv hw sv) (fun p => ltH (encL ceL qs) 3 0 (encL (cI .u64) W64) (encL cL L8) (encL (cI .u64) Z4) (encL cell p.1.2)) (by kernel_rfl) (lt_loop av bv hw sv qs n0 e0 hn0 _ _ _ _ _ n1 n2 n3 _) fun ⟨⟨k, ys⟩, hy⟩ => ?_
  dsimp only at hy ⊢
  have ny := noids_c ys
  have yn := hy.n
  have ea : xwr .i64 (xar .rem .u8 av 8) = av % 8 := by rw [xar_rem _ _ _ (by omega), Int.tmod_eq_emod_of_nonneg ha.1]; exact wr_i64 (by omega) (by omega)
  have eb : xwr .i64 (xar .rem .u8 bv 3) = bv % 3 := by rw [xar_rem _ _ _ (by omega), Int.tmod_eq_emod_of_nonneg hb.1]; exact wr_i64 (by omega) (by omega)
  refine SSp.to cxt_ok (n := 60) (g := []) 5 14 rfl (σ := {_k : Unit // 0 < ys.length}) (fun _ => ltU ys.length av hw sv (av % 8) (bv % 3)) (fun _ => ltI (encL ceL qs) 3 0 (encL (cI .u64) W64) (encL cL L8) (encL (cI .u64) Z4) (encL cell ys) []) (mkS_le (Nat.le_of_ble_eq_true rfl)) (by kernel_rfl) ?_ fun ⟨_, hne⟩ => ?_
  · rw [lt_c, ea, eb]
    by_cases h : ys.length = 0
    · (with_reducible repeat first | refine zq1 ?_ | refine zq2 ?_ | refine zq3 ?_ | refine zq4 ?_ | refine zq5 ?_ | refine zq6 ?_ | refine zq7 ?_ | refine zq8 ?_ | refine zq9 ?_ | refine zqa ?_ | refine zqb ?_ | refine zqc ?_ | refine zqd ?_ | refine zqe ?_ | refine zqf ?_ | refine zqg ?_ | refine zqh ?_ | refine zqi ?_ | refine zqj ?_ | refine zqk ?_ | refine zql ?_ | refine zqm ?_ | refine zqn ?_ | refine zqo ?_ | refine zqp ?_)
      exact ⟨trivial, rfl, .bool true, [.ro _], [.id 0], rfl, by (refine ⟨by kernel_rfl, ?_, ?_⟩ <;> repeat first | exact okTms_nil | refine okTms_cons ?_ ?_ | exact okBlks_nil | refine okBlks_cons ?_ ?_ | exact lws_nil | refine lws_cons ?_ ?_ | exact lb_dead | exact zy1 | exact zy2 | exact lb_none | refine zy3 ?_ | exact zy4 | exact lw_any | exact lw_int | exact lw_bool | exact zy5 | exact zy6 | exact lw_nils | exact lw_slo_nils | exact zy7 | exact zy8 | exact zy9 | refine lw_tup ?_ | refine lw_agg ?_ | assumption)⟩
    · (with_reducible repeat first | refine zq1 ?_ | refine zq2 ?_ | refine zq3 ?_ | refine zq4 ?_ | refine zq5 ?_ | refine zq6 ?_ | refine zq7 ?_ | refine zq8 ?_ | refine zq9 ?_ | refine zqa ?_ | refine zqb ?_ | refine zqc ?_ | refine zqd ?_ | refine zqe ?_ | refine zqf ?_ | refine zqg ?_ | refine zqh ?_ | refine zqi ?_ | refine zqj ?_ | refine zqk ?_ | refine zql ?_ | refine zqm ?_ | refine zqn ?_ | refine zqo ?_ | refine zqp ?_)
      exact ⟨rfl, ⟨(), by omega⟩, [.id 0, .id 1, .id 2, .id 3, .id 4, .id 5, .id 6, .id 7, .id 8, .id 9, .none], by (refine ⟨by kernel_rfl, ?_, ?_⟩ <;> repeat first | exact okTms_nil | refine okTms_cons ?_ ?_ | exact okBlks_nil | refine okBlks_cons ?_ ?_ | exact lws_nil | refine lws_cons ?_ ?_ | exact lb_dead | exact zy1 | exact zy2 | exact lb_none | refine zy3 ?_ | exact zy4 | exact lw_any | exact lw_int | exact lw_bool | exact zy5 | exact zy6 | exact lw_nils | exact lw_slo_nils | exact zy7 | exact zy8 | exact zy9 | refine lw_tup ?_ | refine lw_agg ?_ | assumption)⟩
  refine SSp.to cxt_ok (n := 60) (g := []) 2 16 rfl (σ := {q : Rdy // q.ok ys}) (fun q => ltV ys.length q.1.qs.length sv q.1.wt) (fun q => ltI (encL ceL qs) 3 (xar .add .i64 0 1) (encL (cI .u64) W64) (encL cL (L8.set q.1.s.toNat q.1.y)) (encL (cI .u64) Z4) (encL cell ys) (encL cell q.1.qs)) (mkS_le (Nat.le_of_ble_eq_true rfl)) (by kernel_rfl) (lt_rdy av ha hw sv (bv % 3) (by omega) (av % 8) (by omega) _ nx ys hy hne _) fun ⟨q, hq⟩ => ?_
  dsimp only at hq ⊢
  have E := envT hy hq
  have hql := E.bq
  have nq := noids_c q.qs
  have oy : okC (encL cell ys) ys.length = true := okC_enc (by omega)
  have oq : okC (encL cell q.qs) q.qs.length = true := okC_enc (by omega)
  have ns := noIds_Ii64 (strL ys 8 1)
  have es1 : stN ys.length (encL cell ys) 8 1 = (strL ys 8 1).length := rfl
  have es2 : stC ys.length (encL cell ys) 8 1 = encL (cI .i64) (strL ys 8 1) := rfl
  have hsl := strL_len ys 8 1
  have LL : (L8.set q.s.toNat q.y).length = 8 := by simp
  have nL := noids_l (L8.set q.s.toNat q.y)
  have xL := xnoid_l (L8.set q.s.toNat q.y)
  have lL : (encL cL (L8.set q.s.toNat q.y)).length = 24 := by rw [lk_n, LL]
  generalize hsu : xwr .i64 (xar .rem .u8 sv 5) = su
  refine SSp.to cxt_ok (n := 60) (g := []) 2 18 rfl (σ := Unit) (fun _ => ltW q.wt) (fun _ => ltR (encL ceL qs) (encL cell ys) ys q (cs0 su (strL ys 8 1).length, m1 q.s q.y)) (mkS_le (Nat.le_of_ble_eq_true rfl)) (by kernel_rfl) ?_ fun _ => ?_
  · rw [lt_e]
    simp only [wd_nat, wd_asV, wd_isV, wd_ix, wd_add, wd_mul, wd_ln, Nat.zero_add, Nat.mul_one, wd_isI, wd_asI, wd_isB, wd_asB, wd_nn, cI_tlen, cB_tlen, cII_tlen, decide_true, cond_true, wd_not_t, wd_not_f, wd_and_t, wd_and_f, xL, lL, oy, oq, es1, es2, hsu]
    (with_reducible repeat first | refine zq1 ?_ | refine zq2 ?_ | refine zq3 ?_ | refine zq4 ?_ | refine zq5 ?_ | refine zq6 ?_ | refine zq7 ?_ | refine zq8 ?_ | refine zq9 ?_ | refine zqa ?_ | refine zqb ?_ | refine zqc ?_ | refine zqd ?_ | refine zqe ?_ | refine zqf ?_ | refine zqg ?_ | refine zqh ?_ | refine zqi ?_ | refine zqj ?_ | refine zqk ?_ | refine zql ?_ | refine zqm ?_ | refine zqn ?_ | refine zqo ?_ | refine zqp ?_)
    exact ⟨rfl, (), [.id 0, .id 1, .id 2, .id 3, .id 4, .id 5, .id 6, .id 7, .id 8, .id 9, .id 10, .id 11, .id 12, .id 13, .id 14, .id 15, .id 16, .id 17], by (refine ⟨by kernel_rfl, ?_, ?_⟩ <;> repeat first | exact okTms_nil | refine okTms_cons ?_ ?_ | exact okBlks_nil | refine okBlks_cons ?_ ?_ | exact lws_nil | refine lws_cons ?_ ?_ | exact lb_dead | exact zy1 | exact zy2 | exact lb_none | refine zy3 ?_ | exact zy4 | exact lw_any | exact lw_int | exact lw_bool | exact zy5 | exact zy6 | exact lw_nils | exact lw_slo_nils | exact zy7 | exact zy8 | exact zy9 | refine lw_tup ?_ | refine lw_agg ?_ | assumption)⟩
  obtain ⟨r1, r2, r3⟩ := run_cs0 E su (m := m1 q.s q.y) ⟨by simp, by simp, by simp⟩ rfl rfl rfl
  obtain ⟨l1, l2, l3⟩ := aRun_len (me := 3) (stm := 1) (qs := q.qs) (cs := ys) (ss := strL ys 8 1) 299 (cs0 su (strL ys 8 1).length, m1 q.s q.y)
  refine SSp.to cxt_ok (n := 60) (g := []) 2 20 rfl (σ := Unit) (fun _ => ltW q.wt) (fun _ => ltR (encL ceL qs) (encL cell ys) ys q (aRun 3 1 q.qs ys (strL ys 8 1) 299 (cs0 su (strL ys 8 1).length, m1 q.s q.y))) (mkS_le (Nat.le_of_ble_eq_true rfl)) (by kernel_rfl) ?_ fun _ => ?_
  · have ok := okK_enc (qs := q.qs) (cs := ys) (ss := strL ys 8 1) (tk := []) (by omega) (by omega) (by omega) (by simp)
    have oks : okS q.qs.length ys.length (strL ys 8 1).length (cs0 su (strL ys 8 1).length) = true := okS_iff.2 (cs0_ok su q.qs.length ys.length (strL ys 8 1).length)
    have mk := mkC_s (cs0 su (strL ys 8 1).length)
    have o3 := okIu64_enc (xs := W64) (by simp)
    have o4 := okL_enc (xs := L8.set q.s.toNat q.y) (by simp)
    have o5 := okIu64_enc (xs := Z4) (by simp)
    have em : decM (encL (cI .u64) W64) (encL cL (L8.set q.s.toNat q.y)) (encL (cI .u64) Z4) 3 (xar .add .i64 0 1) = m1 q.s q.y := decM_enc (m1 q.s q.y)
    have ep : arP 3 1 (encL cell q.qs) (encL cell ys) (encL (cI .i64) (strL ys 8 1)) (cs0 su (strL ys 8 1).length) (encL (cI .u64) W64) (encL cL (L8.set q.s.toNat q.y)) (encL (cI .u64) Z4) 3 (xar .add .i64 0 1) = aRun 3 1 q.qs ys (strL ys 8 1) 299 (cs0 su (strL ys 8 1).length, m1 q.s q.y) := by
      rw [arP, decC_enc, decC_enc, decIi64_enc, em]
    have oa : okAr 3 1 (encL cell q.qs) (encL cell ys) (encL (cI .i64) (strL ys 8 1)) (cs0 su (strL ys 8 1).length) (encL (cI .u64) W64) (encL cL (L8.set q.s.toNat q.y)) (encL (cI .u64) Z4) 3 (xar .add .i64 0 1) = true := by
      rw [okAr, ep]; exact decide_eq_true ⟨by omega, r1⟩
    rw [LL] at o4
    simp only [List.length_replicate, List.length_nil, List.length_cons, Nat.zero_add] at ok o3 o5
    dsimp only [ltR] at *
    rw [lt_f]
    simp only [List.length_nil, wd_nn, ok, mk, oks, o3, o4, o5, oa, cm_self, cond_true, arS, arW, arL, arZ, arN, arC, ep]
    generalize aRun 3 1 q.qs ys (strL ys 8 1) 299 (cs0 su (strL ys 8 1).length, m1 q.s q.y) = p at *
    have nt := noids_l p.1.tk
    have k1 := noIds_Iu64 p.2.W
    have k2 := noids_l p.2.L
    have k3 := noIds_Iu64 p.2.S
    (with_reducible repeat first | refine zq1 ?_ | refine zq2 ?_ | refine zq3 ?_ | refine zq4 ?_ | refine zq5 ?_ | refine zq6 ?_ | refine zq7 ?_ | refine zq8 ?_ | refine zq9 ?_ | refine zqa ?_ | refine zqb ?_ | refine zqc ?_ | refine zqd ?_ | refine zqe ?_ | refine zqf ?_ | refine zqg ?_ | refine zqh ?_ | refine zqi ?_ | refine zqj ?_ | refine zqk ?_ | refine zql ?_ | refine zqm ?_ | refine zqn ?_ | refine zqo ?_ | refine zqp ?_)
    simp only [kSu, kEn, kBu, kEr, kLv, kLh, kLo, kPh, kAt, kNow, kSt, kVe, kVb, kVr, kTn, kTc]
    exact ⟨rfl, (), [.id 0, .id 1, .id 2, .id 3, .id 4, .id 5, .id 6, .id 7, .id 8, .id 9, .id 10, .id 11, .id 12, .id 13, .id 14, .id 15, .id 16, .id 18], by (refine ⟨by kernel_rfl, ?_, ?_⟩ <;> repeat first | exact okTms_nil | refine okTms_cons ?_ ?_ | exact okBlks_nil | refine okBlks_cons ?_ ?_ | exact lws_nil | refine lws_cons ?_ ?_ | exact lb_dead | exact zy1 | exact zy2 | exact lb_none | refine zy3 ?_ | exact zy4 | exact lw_any | exact lw_int | exact lw_bool | exact zy5 | exact zy6 | exact lw_nils | exact lw_slo_nils | exact zy7 | exact zy8 | exact zy9 | refine lw_tup ?_ | refine lw_agg ?_ | assumption)⟩
  generalize aRun 3 1 q.qs ys (strL ys 8 1) 299 (cs0 su (strL ys 8 1).length, m1 q.s q.y) = p at *
  have nt := noids_l p.1.tk
  have k1 := noIds_Iu64 p.2.W
  have k2 := noids_l p.2.L
  have k3 := noIds_Iu64 p.2.S
  rcases r2 with ⟨_, f2, _⟩ | ⟨⟨f1, f2, f3⟩, f5, f6, f7⟩
  · exact f2.elim
  have l4 : (encL (cI .u64) p.2.W).length = 64 := by rw [encIu64_len, l1]; simp
  refine SSp.to cxt_ok (n := 60) (g := []) 2 22 rfl (σ := Unit) (fun _ => ltX q.wt 0) (fun _ => ltR (encL ceL qs) (encL cell ys) ys q p ++ [.dead, .cells (encL (cI .u64) p.2.W) (some 1)]) (mkS_le (Nat.le_of_ble_eq_true rfl)) (by kernel_rfl) ?_ fun _ => ?_
  · rw [lt_g]
    have xl := xnoid_Iu64 p.2.W
    simp only [wd_nat, wd_asV, wd_isV, wd_ix, wd_add, wd_mul, wd_ln, Nat.zero_add, Nat.mul_one, wd_isI, wd_asI, wd_isB, wd_asB, wd_nn, cI_tlen, cB_tlen, cII_tlen, decide_true, cond_true, wd_not_t, wd_not_f, wd_and_t, wd_and_f, xl, l4]
    (with_reducible repeat first | refine zq1 ?_ | refine zq2 ?_ | refine zq3 ?_ | refine zq4 ?_ | refine zq5 ?_ | refine zq6 ?_ | refine zq7 ?_ | refine zq8 ?_ | refine zq9 ?_ | refine zqa ?_ | refine zqb ?_ | refine zqc ?_ | refine zqd ?_ | refine zqe ?_ | refine zqf ?_ | refine zqg ?_ | refine zqh ?_ | refine zqi ?_ | refine zqj ?_ | refine zqk ?_ | refine zql ?_ | refine zqm ?_ | refine zqn ?_ | refine zqo ?_ | refine zqp ?_)
    exact ⟨rfl, (), [.id 0, .id 1, .id 2, .id 3, .id 4, .id 5, .id 6, .id 7, .id 8, .id 9, .id 10, .id 11, .id 12, .id 13, .id 14, .id 15, .id 16, .id 17, .none, .id 18], by (refine ⟨by kernel_rfl, ?_, ?_⟩ <;> repeat first | exact okTms_nil | refine okTms_cons ?_ ?_ | exact okBlks_nil | refine okBlks_cons ?_ ?_ | exact lws_nil | refine lws_cons ?_ ?_ | exact lb_dead | exact zy1 | exact zy2 | exact lb_none | refine zy3 ?_ | exact zy4 | exact lw_any | exact lw_int | exact lw_bool | exact zy5 | exact zy6 | exact lw_nils | exact lw_slo_nils | exact zy7 | exact zy8 | exact zy9 | refine lw_tup ?_ | refine lw_agg ?_ | assumption)⟩
  refine SSp.code_to (g := []) 23 rfl (σ := Nat) (fun i => ltX q.wt i) (fun _ => ltR (encL ceL qs) (encL cell ys) ys q p ++ [.dead, .cells (encL (cI .u64) p.2.W) (some 1)]) (by kernel_rfl) ?_ fun i => ?_
  · refine SCode.loop_vc (cx := cxt) cxt_ok (n := 60) 2 (by kernel_rfl) (σ := {i : Nat // i ≤ 64}) (fun i => ltX q.wt i.1) (fun _ => ltR (encL ceL qs) (encL cell ys) ys q p ++ [.dead, .cells (encL (cI .u64) p.2.W) (some 1)]) (fun i => 64 - i.1) (fun _ => Nat.le_of_ble_eq_true rfl) (fun ⟨i, hi⟩ => ?_) ⟨0, Nat.zero_le _⟩
    dsimp only
    rw [lt_h]
    by_cases h : i < 64
    · have hiw : i < p.2.W.length := by rw [l1]; simpa using h
      have ew : p.2.W[i] = 0 := by simp [f7]
      have e3 : xar .add .i64 (i : Int) 1 = ((i + 1 : Nat) : Int) := by rw [add_i64 (by omega) (by omega)]; omega
      simp only [wd_nat, wd_asV, wd_isV, wd_ix, wd_add, wd_mul, wd_ln, Nat.zero_add, Nat.mul_one, wd_isI, wd_asI, wd_isB, wd_asB, wd_nn, cI_tlen, cB_tlen, cII_tlen, decide_true, cond_true, wd_not_t, wd_not_f, wd_and_t, wd_and_f, encIu64_nth hiw, l4, ew, e3]
      (with_reducible repeat first | refine zq1 ?_ | refine zq2 ?_ | refine zq3 ?_ | refine zq4 ?_ | refine zq5 ?_ | refine zq6 ?_ | refine zq7 ?_ | refine zq8 ?_ | refine zq9 ?_ | refine zqa ?_ | refine zqb ?_ | refine zqc ?_ | refine zqd ?_ | refine zqe ?_ | refine zqf ?_ | refine zqg ?_ | refine zqh ?_ | refine zqi ?_ | refine zqj ?_ | refine zqk ?_ | refine zql ?_ | refine zqm ?_ | refine zqn ?_ | refine zqo ?_ | refine zqp ?_)
      exact ⟨rfl, ⟨i + 1, h⟩, by simp only; omega, [.id 0, .id 1, .id 2, .id 3, .id 4, .id 5, .id 6, .id 7, .id 8, .id 9, .id 10, .id 11, .id 12, .id 13, .id 14, .id 15, .id 16, .id 17, .id 18, .id 19], by (refine ⟨by kernel_rfl, ?_, ?_⟩ <;> repeat first | exact okTms_nil | refine okTms_cons ?_ ?_ | exact okBlks_nil | refine okBlks_cons ?_ ?_ | exact lws_nil | refine lws_cons ?_ ?_ | exact lb_dead | exact zy1 | exact zy2 | exact lb_none | refine zy3 ?_ | exact zy4 | exact lw_any | exact lw_int | exact lw_bool | exact zy5 | exact zy6 | exact lw_nils | exact lw_slo_nils | exact zy7 | exact zy8 | exact zy9 | refine lw_tup ?_ | refine lw_agg ?_ | assumption)⟩
    · (with_reducible repeat first | refine zq1 ?_ | refine zq2 ?_ | refine zq3 ?_ | refine zq4 ?_ | refine zq5 ?_ | refine zq6 ?_ | refine zq7 ?_ | refine zq8 ?_ | refine zq9 ?_ | refine zqa ?_ | refine zqb ?_ | refine zqc ?_ | refine zqd ?_ | refine zqe ?_ | refine zqf ?_ | refine zqg ?_ | refine zqh ?_ | refine zqi ?_ | refine zqj ?_ | refine zqk ?_ | refine zql ?_ | refine zqm ?_ | refine zqn ?_ | refine zqo ?_ | refine zqp ?_)
      exact ⟨rfl, i, [.id 0, .id 1, .id 2, .id 3, .id 4, .id 5, .id 6, .id 7, .id 8, .id 9, .id 10, .id 11, .id 12, .id 13, .id 14, .id 15, .id 16, .id 17, .id 18, .id 19], by (refine ⟨by kernel_rfl, ?_, ?_⟩ <;> repeat first | exact okTms_nil | refine okTms_cons ?_ ?_ | exact okBlks_nil | refine okBlks_cons ?_ ?_ | exact lws_nil | refine lws_cons ?_ ?_ | exact lb_dead | exact zy1 | exact zy2 | exact lb_none | refine zy3 ?_ | exact zy4 | exact lw_any | exact lw_int | exact lw_bool | exact zy5 | exact zy6 | exact lw_nils | exact lw_slo_nils | exact zy7 | exact zy8 | exact zy9 | refine lw_tup ?_ | refine lw_agg ?_ | assumption)⟩
  refine SSp.last cxt_ok (n := 60) (mkS_le (Nat.le_of_ble_eq_true rfl)) ?_
  rw [lt_z]
  have o4 := okL_enc (xs := L8.set q.s.toNat q.y) (by simp)
  rw [LL] at o4
  have es : sameL 8 8 (encL cL (L8.set q.s.toNat q.y)) (encL cL (L8.set q.s.toNat q.y)) = true := by
    rw [sameL]; simp
  simp only [f5, f6, es, o4, cond_true]
  simp only [wd_nat, wd_asV, wd_isV, wd_ix, wd_add, wd_mul, wd_ln, Nat.zero_add, Nat.mul_one, wd_isI, wd_asI, wd_isB, wd_asB, wd_nn, cI_tlen, cB_tlen, cII_tlen, decide_true, cond_true, wd_not_t, wd_not_f, wd_and_t, wd_and_f, xL, lL]
  (with_reducible repeat first | refine zq1 ?_ | refine zq2 ?_ | refine zq3 ?_ | refine zq4 ?_ | refine zq5 ?_ | refine zq6 ?_ | refine zq7 ?_ | refine zq8 ?_ | refine zq9 ?_ | refine zqa ?_ | refine zqb ?_ | refine zqc ?_ | refine zqd ?_ | refine zqe ?_ | refine zqf ?_ | refine zqg ?_ | refine zqh ?_ | refine zqi ?_ | refine zqj ?_ | refine zqk ?_ | refine zql ?_ | refine zqm ?_ | refine zqn ?_ | refine zqo ?_ | refine zqp ?_)
  exact ⟨trivial, rfl, .bool true, [.ro _], [.id 0], rfl, by (refine ⟨by kernel_rfl, ?_, ?_⟩ <;> repeat first | exact okTms_nil | refine okTms_cons ?_ ?_ | exact okBlks_nil | refine okBlks_cons ?_ ?_ | exact lws_nil | refine lws_cons ?_ ?_ | exact lb_dead | exact zy1 | exact zy2 | exact lb_none | refine zy3 ?_ | exact zy4 | exact lw_any | exact lw_int | exact lw_bool | exact zy5 | exact zy6 | exact lw_nils | exact lw_slo_nils | exact zy7 | exact zy8 | exact zy9 | refine lw_tup ?_ | refine lw_agg ?_ | assumption)⟩
end
theorem lets_any {H : Type} {enc : TypeId × Value → H} {W : World} {a0 : Option Addr} {len0 cap0 : Nat} {d0 : DataW H} {p0 : List MemPlace} (av bv : Int) (hw : Bool) (sv : Int) (ha : 0 ≤ av ∧ av ≤ 255) (hb : 0 ≤ bv ∧ bv ≤ 255) (hsv : 0 ≤ sv ∧ sv ≤ 255) (h0 : DataW.Trod enc Go.Proofs.Try.prog W 0 (fun _ => true) true 31 (.slice a0 len0 cap0) d0 p0) :
    Calls Go.Proofs.Try.prog 5 #[.slice a0 len0 cap0, .int .u8 av, .int .u8 bv, .bool hw, .int .u8 sv] W fun e W' => e = .returned (.bool true) ∧ Below W.heap.size W W' := by
  obtain ⟨qs, e0, n0, _, r0⟩ := ce_row h0
  refine SFun.top (rows := [(.slice a0 len0 cap0, len0, encL ceL qs)]) (g := []) (us := [.slice a0 len0 cap0, .int .u8 av, .int .u8 bv, .bool hw, .int .u8 sv]) ⟨r0, trivial⟩ (fun x hx => by cases hx) (fun r h => ?_) (lets_fun av bv hw sv ha hb hsv qs len0 e0 n0)
  simp only [VRs, VR]
  exact ⟨_, _, rfl, h 0 _ _ _ rfl, _, _, rfl, rfl, _, _, rfl, rfl, _, _, rfl, rfl, _, _, rfl, rfl, rfl⟩
end Go.Lev
