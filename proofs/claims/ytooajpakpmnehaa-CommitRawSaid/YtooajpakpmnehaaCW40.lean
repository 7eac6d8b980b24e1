/- CommitRaw (P25.2): for any case, any answers the law returns true; what was there stays as it was. No condition. -/
import Derived.Test.YtooajpakpmnehaaCW39
import Derived.Test.YtooajpakpmnehaaLc
import Derived.Test.YtooajpakpmnehaaChecked
import Derived.KernelRfl

import Derived.Test.YtooajpakpmnehaaLc
namespace Go.Lev
open Go.RowKit
set_option linter.unusedVariables false
set_option linter.unusedSimpArgs false
set_option maxRecDepth 100000
noncomputable section
structure AswR where
  w : Int
  v : Int
  h : Bool
  o : Int
  d : Bool
  e : Int
abbrev aswL (x : AswR) : List LV := [.int .u64 x.w, .int .u64 x.v, .bool x.h, .int .i64 x.o, .bool x.d, .int .i64 x.e]
theorem aswL_len (x : AswR) : (aswL x).length = 6 := rfl
theorem asw_0 {xs : List AswR} {i : Nat} (h : i < xs.length) : nthD (encL aswL xs) (i * 6) = .int .u64 xs[i].w := encL_nth aswL_len (j := 0) h (by omega)
theorem asw_1 {xs : List AswR} {i : Nat} (h : i < xs.length) : nthD (encL aswL xs) (i * 6 + 1) = .int .u64 xs[i].v := encL_nth aswL_len (j := 1) h (by omega)
theorem asw_2 {xs : List AswR} {i : Nat} (h : i < xs.length) : nthD (encL aswL xs) (i * 6 + 2) = .bool xs[i].h := encL_nth aswL_len (j := 2) h (by omega)
theorem asw_3 {xs : List AswR} {i : Nat} (h : i < xs.length) : nthD (encL aswL xs) (i * 6 + 3) = .int .i64 xs[i].o := encL_nth aswL_len (j := 3) h (by omega)
theorem asw_4 {xs : List AswR} {i : Nat} (h : i < xs.length) : nthD (encL aswL xs) (i * 6 + 4) = .bool xs[i].d := encL_nth aswL_len (j := 4) h (by omega)
theorem asw_5 {xs : List AswR} {i : Nat} (h : i < xs.length) : nthD (encL aswL xs) (i * 6 + 5) = .int .i64 xs[i].e := encL_nth aswL_len (j := 5) h (by omega)
theorem asw_n (xs : List AswR) : (encL aswL xs).length = xs.length * 6 := encL_length aswL_len xs
theorem asw_noids (xs : List AswR) : noIds (encL aswL xs) = true := noIds_encL (fun _ => rfl) xs
def asw_bd (x : AswR) : Prop := (IntKind.u64.min ≤ x.w ∧ x.w ≤ IntKind.u64.max) ∧ (IntKind.u64.min ≤ x.v ∧ x.v ≤ IntKind.u64.max) ∧ (IntKind.i64.min ≤ x.o ∧ x.o ≤ IntKind.i64.max) ∧ (IntKind.i64.min ≤ x.e ∧ x.e ≤ IntKind.i64.max)
theorem asw_row {H : Type} {enc : TypeId × Value → H} {W : World} {a : Option Addr} {len cap : Nat} {d : DataW H} {ps : List MemPlace} (h : DataW.Trod enc Go.Proofs.Try.prog W 0 (fun _ => true) true 55 (.slice a len cap) d ps) :
    ∃ xs : List AswR, xs.length = len ∧ len ≤ 9223372036854775807 ∧ (∀ x ∈ xs, asw_bd x) ∧ RowArg W (.slice a len cap) len (encL aswL xs) := by
  obtain ⟨xs, q1, q2, q3, q4⟩ := row_arg (f := aswL) (ok := asw_bd) aswL_len (by omega) Go.Proofs.Try.underlying55 (by kernel_rfl) h fun cs n x hl hx => by
    have hf := fl_ok 8 (l := [(0, .int .u64), (1, .int .u64), (2, .bool), (3, .int .i64), (4, .bool), (5, .int .i64)]) (by kernel_rfl) hx
    obtain ⟨_, e0, z0, rfl, b0⟩ := hf (0, .int .u64) (by simp)
    obtain ⟨_, e1, z1, rfl, b1⟩ := hf (1, .int .u64) (by simp)
    obtain ⟨_, e2, z2, rfl⟩ := hf (2, .bool) (by simp)
    obtain ⟨_, e3, z3, rfl, b3⟩ := hf (3, .int .i64) (by simp)
    obtain ⟨_, e4, z4, rfl⟩ := hf (4, .bool) (by simp)
    obtain ⟨_, e5, z5, rfl, b5⟩ := hf (5, .int .i64) (by simp)
    refine ⟨⟨z0, z1, z2, z3, z4, z5⟩, ⟨b0, b1, b3, b5⟩, fun i l hi => ?_⟩
    match i with
    | 0 => simp at hi; subst hi; exact ⟨rfl, _, e0, by simp only [VR]⟩
    | 1 => simp at hi; subst hi; exact ⟨rfl, _, e1, by simp only [VR]⟩
    | 2 => simp at hi; subst hi; exact ⟨rfl, _, e2, by simp only [VR]⟩
    | 3 => simp at hi; subst hi; exact ⟨rfl, _, e3, by simp only [VR]⟩
    | 4 => simp at hi; subst hi; exact ⟨rfl, _, e4, by simp only [VR]⟩
    | 5 => simp at hi; subst hi; exact ⟨rfl, _, e5, by simp only [VR]⟩
    | i + 6 => simp at hi
  exact ⟨xs, q1, q2, q3, q4⟩
theorem runs25 : isTrue (lrun Go.Proofs.Try.prog 4000 3 []) = true := by kernel_rfl
theorem cxz_ok : CtrOk Go.Proofs.Try.prog (ctrOf cxz) := cxl_ok ⟨runG_ok runs25, shG_ok, newG_ok, newR_ok, nextG_ok, rnextG_ok, tellG_ok, rtellG_ok, trivial⟩
theorem mkC_s (s : CS) : mkC (encL cL s.tk) s.su s.en s.bu s.er s.lk.1 s.lk.2.1 s.lk.2.2 s.ph (s.at' : Int) s.now s.st s.ve s.vb s.vr = s := mkC_enc s.tk s.su s.en s.bu s.er s.lk.1 s.lk.2.1 s.lk.2.2 s.ph s.at' s.now s.st s.ve s.vb s.vr
theorem nm_self (x : Int) : xcm .neq x x = false := by rw [xcm_neq]; simp
theorem bq_self (b : Bool) : xbq b b = true := by rw [wd_bq]; simp
theorem tW_e (me stm : Int) (qs cs : List (Int × Int)) (ss : List Int) (s : CS) (w v : Int) (h : Bool) (o : Int) (d : Bool) (e : Int) : tW me stm (encL cell qs) (encL cell cs) (encL (cI .i64) ss) s w v h o d e = gTell me stm qs cs.length ss s w v h o d e := by simp only [tW, decC_enc, decIi64_enc]
theorem rW_e (me stm : Int) (qs cs : List (Int × Int)) (ss : List Int) (s : CS) (w v : Int) (h : Bool) (o : Int) (d : Bool) (e : Int) : rW me stm (encL cell qs) (encL cell cs) (encL (cI .i64) ss) s w v h o d e = rTell me stm qs cs.length ss s w v h o d e := by simp only [rW, decC_enc, decIi64_enc]
/-- Code and reference, at the same place. -/
structure Bo (qs : List (Int × Int)) (nc : Nat) (ss : List Int) (p : CS × CS) : Prop where
  s : Sm qs ss p.1 p.2
  c : p.1.Ok qs.length nc ss.length
  r : p.2.RB qs.length ss.length
abbrev rwS (qx cx ax : List LV) (me stm : Int) (qs cs : List (Int × Int)) (ss : List Int) (p : CS × CS) : List LB := rwK qx cx ax me stm qs.length cs.length ss.length p.1.tk.length p.2.tk.length (encL cell qs) (encL cell cs) (encL (cI .i64) ss) (encL cL p.1.tk) (encL cL p.2.tk) p.1.en p.1.bu p.1.er p.1.su p.1.lk.1 p.1.lk.2.1 p.1.lk.2.2 p.1.ph p.1.at' p.1.now p.1.st p.1.ve p.1.vb p.1.vr p.2.su p.2.lk.1 p.2.lk.2.1 p.2.lk.2.2 p.2.ph p.2.at' p.2.now p.2.ve p.2.vb p.2.vr
theorem mkR_s {qs : List (Int × Int)} {nc : Nat} {ss : List Int} {c r : CS} (h : Bo qs nc ss (c, r)) : mkC (encL cL r.tk) r.su c.en c.bu c.er r.lk.1 r.lk.2.1 r.lk.2.2 r.ph (r.at' : Int) r.now false r.ve r.vb r.vr = r := by
  have h1 := h.s.en
  have h2 := h.s.bu
  have h3 := h.s.er
  have h4 := h.r.st
  dsimp only at h1 h2 h3 h4
  have := mkC_s r
  rw [h4] at this
  rw [h1, h2, h3]
  exact this
set_option maxHeartbeats 1000000 in
/-- Both ask for the same; both have ended alike, or not. -/
theorem rw_same (qx cx ax : List LV) (nqx : noIds qx = true) (ncx : noIds cx = true) (nax : noIds ax = true) (n1 i : Nat) (me stm : Int) (qs cs : List (Int × Int)) (ss : List Int) (hb : qs.length ≤ 1000000 ∧ cs.length ≤ 1000000 ∧ ss.length ≤ 1000000) (c r : CS) (h : Bo qs cs.length ss (c, r)) (Φ : Pk) : xsp Go.Proofs.Try.prog cxz 60 152 (seg rwB 0 6) (mkTm 152 (rwU n1 i)) (mkS (rwS qx cx ax me stm qs cs ss (c, r)))
    (vK rwL (toK (σ := Unit) 3 152 rwL [] (fun _ => rwU n1 i) (fun _ => rwS qx cx ax me stm qs cs ss (c, r)) Φ)) := by
  have nq := noids_c qs
  have nc := noids_c cs
  have nss := noIds_Ii64 ss
  have nt := noids_l c.tk
  have nt' := noids_l r.tk
  have kc := h.c
  have kr := h.r
  have ks := h.s
  dsimp only at kc kr ks
  have o1 := okK_enc hb.1 hb.2.1 hb.2.2 kc.tk
  have o2 : okS qs.length cs.length ss.length c = true := okS_iff.2 kc
  have o3 := okK_enc hb.1 hb.2.1 hb.2.2 kr.tk
  have mc := mkC_s c
  have mr := mkR_s h
  have eo := ks.op (me := me) (cs := cs)
  by_cases q0 : c.en = 0
  · have o4 : okR qs.length cs.length ss.length r = true := okR_iff.2 ⟨kr, fun _ => ks.rok kc q0⟩
    rw [q0] at mc mr
    dsimp only [rwS]
    rw [q0]
    rw [rw_e]
    simp only [o1, o2, o3, o4, mc, mr, wd_nn, cm_self, nm_self, bq_self, cond_true, cond_false, nK, nA, nO, nW, nWv, nWh, nWo, nLv, nLh, nLo, opW, decC_enc, decIi64_enc, eo, wd_and_t, wd_not_t]
    exact ⟨rfl, (), [.id 0, .id 1, .id 2, .id 3, .id 4, .id 5, .id 6, .id 7, .id 8, .id 9, .id 10, .id 11, .id 12, .id 13], by (refine ⟨by kernel_rfl, ?_, ?_⟩ <;> repeat first | exact okTms_nil | refine okTms_cons ?_ ?_ | exact okBlks_nil | refine okBlks_cons ?_ ?_ | exact lws_nil | refine lws_cons ?_ ?_ | exact lb_dead | exact zy1 | exact zy2 | exact lb_none | refine zy3 ?_ | exact zy4 | exact lw_any | exact lw_int | exact lw_bool | exact zy5 | exact zy6 | exact lw_nils | exact lw_slo_nils | exact zy7 | exact zy8 | exact zy9 | refine lw_tup ?_ | refine lw_agg ?_ | assumption)⟩
  · have z1 : xcm .eql c.en 0 = false := by rw [xcm_eql]; exact decide_eq_false q0
    have e0 : opOf me qs cs ss c = op0 := if_pos q0
    dsimp only [rwS]
    rw [rw_n]
    simp only [o1, o2, o3, mc, wd_nn, cm_self, nm_self, bq_self, z1, cond_true, cond_false, nK, nA, nO, nW, nWv, nWh, nWo, nLv, nLh, nLo, opW, decC_enc, decIi64_enc, e0, op0, d0, wd_and_t, wd_not_t]
    exact ⟨rfl, (), [.id 0, .id 1, .id 2, .id 3, .id 4, .id 5, .id 6, .id 7, .id 8, .id 9, .id 10, .id 11, .id 12, .id 13], by (refine ⟨by kernel_rfl, ?_, ?_⟩ <;> repeat first | exact okTms_nil | refine okTms_cons ?_ ?_ | exact okBlks_nil | refine okBlks_cons ?_ ?_ | exact lws_nil | refine lws_cons ?_ ?_ | exact lb_dead | exact zy1 | exact zy2 | exact lb_none | refine zy3 ?_ | exact zy4 | exact lw_any | exact lw_int | exact lw_bool | exact zy5 | exact zy6 | exact lw_nils | exact lw_slo_nils | exact zy7 | exact zy8 | exact zy9 | refine lw_tup ?_ | refine lw_agg ?_ | assumption)⟩
set_option maxHeartbeats 1000000 in
/-- Both are told the same. -/
theorem rw_told (qx cx : List LV) (nqx : noIds qx = true) (ncx : noIds cx = true) (xs : List AswR) (n1 : Nat) (e1 : xs.length = n1) (hn1 : n1 ≤ 9223372036854775807) (hx : ∀ x ∈ xs, asw_bd x) (i : Nat) (me stm : Int) (qs cs : List (Int × Int)) (ss : List Int) (hb : qs.length ≤ 1000000 ∧ cs.length ≤ 1000000 ∧ ss.length ≤ 1000000) (c r : CS) (h : Bo qs cs.length ss (c, r)) (Φ : Pk) : xsp Go.Proofs.Try.prog cxz 60 152 (rwB.drop 6) (mkTm 152 (rwU n1 i)) (mkS (rwS qx cx (encL aswL xs) me stm qs cs ss (c, r)))
    (vK rwL (blkK 1 (toK (σ := {p : CS × CS // Bo qs cs.length ss p}) 3 152 rwL [] (fun _ => rwU n1 i) (fun p => rwS qx cx (encL aswL xs) me stm qs cs ss p.1) Φ))) := by
  have nax := asw_noids xs
  have nq := noids_c qs
  have nc := noids_c cs
  have nss := noIds_Ii64 ss
  have nt := noids_l c.tk
  have nt' := noids_l r.tk
  have kc := h.c
  have kr := h.r
  have ks := h.s
  dsimp only at kc kr ks
  have o1 := okK_enc hb.1 hb.2.1 hb.2.2 kc.tk
  have o2 : okS qs.length cs.length ss.length c = true := okS_iff.2 kc
  have o3 := okK_enc hb.1 hb.2.1 hb.2.2 kr.tk
  have o4 : okR qs.length cs.length ss.length r = true := okR_iff.2 ⟨kr, fun z => ks.rok kc (by rw [ks.en]; exact z)⟩
  have mc := mkC_s c
  have mr := mkR_s h
  dsimp only [rwS]
  rw [rw_f, wd_lss]
  refine ite_way (fun hi => ?_) (fun hi => ⟨rfl, ⟨(c, r), h⟩, [.id 0, .id 1, .id 2, .id 3, .id 4, .id 5, .id 6, .id 7, .id 8, .id 9, .id 10, .id 11, .id 12, .id 13], by (refine ⟨by kernel_rfl, ?_, ?_⟩ <;> repeat first | exact okTms_nil | refine okTms_cons ?_ ?_ | exact okBlks_nil | refine okBlks_cons ?_ ?_ | exact lws_nil | refine lws_cons ?_ ?_ | exact lb_dead | exact zy1 | exact zy2 | exact lb_none | refine zy3 ?_ | exact zy4 | exact lw_any | exact lw_int | exact lw_bool | exact zy5 | exact zy6 | exact lw_nils | exact lw_slo_nils | exact zy7 | exact zy8 | exact zy9 | refine lw_tup ?_ | refine lw_agg ?_ | assumption)⟩)
  have hix : i < xs.length := by omega
  have hw0 : 0 ≤ xs[i].w := (hx xs[i] (List.getElem_mem hix)).1.1
  simp only [wd_nat, wd_asV, wd_isV, wd_ix, wd_add, wd_mul, wd_ln, Nat.zero_add, Nat.mul_one, wd_isI, wd_asI, wd_isB, wd_asB, wd_nn, cI_tlen, cB_tlen, cII_tlen, decide_true, cond_true, wd_not_t, wd_not_f, wd_and_t, wd_and_f, Nat.add_assoc, Nat.reduceAdd, asw_0 hix, asw_1 hix, asw_2 hix, asw_3 hix, asw_4 hix, asw_5 hix, asw_n]
  (repeat (with_reducible refine must (by (first | with_reducible rfl | exact t_le (by omega) | exact t_eq (by omega) | exact t_nn (by omega) | exact t_lss (by omega) | exact t_leq (by omega) | exact t_gtr (by omega) | exact t_geq (by omega) | exact t_eql (by omega) | exact t_neq (by omega) | exact t_z (by omega) | exact wd_not_f | assumption)) ?_))
  simp only [o1, o2, o3, o4, mc, mr, wd_nn, cm_self, cond_true, tW_e, rW_e, kSu, kEn, kBu, kEr, kLv, kLh, kLo, kPh, kAt, kNow, kSt, kVe, kVb, kVr, kTn, kTc]
  refine ways (fun _ => ?_) (fun _ => ?_)
  · refine ways (fun _ => ?_) (fun _ => ?_)
    · have hS := ks.tell (me := me) (stm := stm) kc xs[i].w (xar .rem .u64 xs[i].v 2) false 0 true 0
      have hO := gTell_ok (me := me) (stm := stm) hb kc xs[i].w (xar .rem .u64 xs[i].v 2) hw0 false 0 true 0
      have hR := rTell_rb (me := me) (stm := stm) ks kc hb kr xs[i].w (xar .rem .u64 xs[i].v 2) false 0 true 0
      generalize gTell me stm qs cs.length ss c xs[i].w (xar .rem .u64 xs[i].v 2) false 0 true 0 = c' at hS hO ⊢
      generalize rTell me stm qs cs.length ss r xs[i].w (xar .rem .u64 xs[i].v 2) false 0 true 0 = r' at hS hR ⊢
      have m1 := noids_l c'.tk
      have m2 := noids_l r'.tk
      simp only [← hS.en, ← hS.bu, ← hS.er]
      exact ⟨rfl, ⟨(c', r'), hS, hO, hR⟩, [.id 0, .id 1, .id 2, .id 3, .id 4, .id 5, .id 6, .id 7, .id 15, .id 9, .id 10, .id 11, .id 12, .id 16], by (refine ⟨by kernel_rfl, ?_, ?_⟩ <;> repeat first | exact okTms_nil | refine okTms_cons ?_ ?_ | exact okBlks_nil | refine okBlks_cons ?_ ?_ | exact lws_nil | refine lws_cons ?_ ?_ | exact lb_dead | exact zy1 | exact zy2 | exact lb_none | refine zy3 ?_ | exact zy4 | exact lw_any | exact lw_int | exact lw_bool | exact zy5 | exact zy6 | exact lw_nils | exact lw_slo_nils | exact zy7 | exact zy8 | exact zy9 | refine lw_tup ?_ | refine lw_agg ?_ | assumption)⟩
    · have hS := ks.tell (me := me) (stm := stm) kc xs[i].w xs[i].v xs[i].h xs[i].o xs[i].d 0
      have hO := gTell_ok (me := me) (stm := stm) hb kc xs[i].w xs[i].v hw0 xs[i].h xs[i].o xs[i].d 0
      have hR := rTell_rb (me := me) (stm := stm) ks kc hb kr xs[i].w xs[i].v xs[i].h xs[i].o xs[i].d 0
      generalize gTell me stm qs cs.length ss c xs[i].w xs[i].v xs[i].h xs[i].o xs[i].d 0 = c' at hS hO ⊢
      generalize rTell me stm qs cs.length ss r xs[i].w xs[i].v xs[i].h xs[i].o xs[i].d 0 = r' at hS hR ⊢
      have m1 := noids_l c'.tk
      have m2 := noids_l r'.tk
      simp only [← hS.en, ← hS.bu, ← hS.er]
      exact ⟨rfl, ⟨(c', r'), hS, hO, hR⟩, [.id 0, .id 1, .id 2, .id 3, .id 4, .id 5, .id 6, .id 7, .id 15, .id 9, .id 10, .id 11, .id 12, .id 16], by (refine ⟨by kernel_rfl, ?_, ?_⟩ <;> repeat first | exact okTms_nil | refine okTms_cons ?_ ?_ | exact okBlks_nil | refine okBlks_cons ?_ ?_ | exact lws_nil | refine lws_cons ?_ ?_ | exact lb_dead | exact zy1 | exact zy2 | exact lb_none | refine zy3 ?_ | exact zy4 | exact lw_any | exact lw_int | exact lw_bool | exact zy5 | exact zy6 | exact lw_nils | exact lw_slo_nils | exact zy7 | exact zy8 | exact zy9 | refine lw_tup ?_ | refine lw_agg ?_ | assumption)⟩
  · refine ways (fun _ => ?_) (fun _ => ?_)
    · have hS := ks.tell (me := me) (stm := stm) kc xs[i].w (xar .rem .u64 xs[i].v 2) false 0 true xs[i].e
      have hO := gTell_ok (me := me) (stm := stm) hb kc xs[i].w (xar .rem .u64 xs[i].v 2) hw0 false 0 true xs[i].e
      have hR := rTell_rb (me := me) (stm := stm) ks kc hb kr xs[i].w (xar .rem .u64 xs[i].v 2) false 0 true xs[i].e
      generalize gTell me stm qs cs.length ss c xs[i].w (xar .rem .u64 xs[i].v 2) false 0 true xs[i].e = c' at hS hO ⊢
      generalize rTell me stm qs cs.length ss r xs[i].w (xar .rem .u64 xs[i].v 2) false 0 true xs[i].e = r' at hS hR ⊢
      have m1 := noids_l c'.tk
      have m2 := noids_l r'.tk
      simp only [← hS.en, ← hS.bu, ← hS.er]
      exact ⟨rfl, ⟨(c', r'), hS, hO, hR⟩, [.id 0, .id 1, .id 2, .id 3, .id 4, .id 5, .id 6, .id 7, .id 15, .id 9, .id 10, .id 11, .id 12, .id 16], by (refine ⟨by kernel_rfl, ?_, ?_⟩ <;> repeat first | exact okTms_nil | refine okTms_cons ?_ ?_ | exact okBlks_nil | refine okBlks_cons ?_ ?_ | exact lws_nil | refine lws_cons ?_ ?_ | exact lb_dead | exact zy1 | exact zy2 | exact lb_none | refine zy3 ?_ | exact zy4 | exact lw_any | exact lw_int | exact lw_bool | exact zy5 | exact zy6 | exact lw_nils | exact lw_slo_nils | exact zy7 | exact zy8 | exact zy9 | refine lw_tup ?_ | refine lw_agg ?_ | assumption)⟩
    · have hS := ks.tell (me := me) (stm := stm) kc xs[i].w xs[i].v xs[i].h xs[i].o xs[i].d xs[i].e
      have hO := gTell_ok (me := me) (stm := stm) hb kc xs[i].w xs[i].v hw0 xs[i].h xs[i].o xs[i].d xs[i].e
      have hR := rTell_rb (me := me) (stm := stm) ks kc hb kr xs[i].w xs[i].v xs[i].h xs[i].o xs[i].d xs[i].e
      generalize gTell me stm qs cs.length ss c xs[i].w xs[i].v xs[i].h xs[i].o xs[i].d xs[i].e = c' at hS hO ⊢
      generalize rTell me stm qs cs.length ss r xs[i].w xs[i].v xs[i].h xs[i].o xs[i].d xs[i].e = r' at hS hR ⊢
      have m1 := noids_l c'.tk
      have m2 := noids_l r'.tk
      simp only [← hS.en, ← hS.bu, ← hS.er]
      exact ⟨rfl, ⟨(c', r'), hS, hO, hR⟩, [.id 0, .id 1, .id 2, .id 3, .id 4, .id 5, .id 6, .id 7, .id 15, .id 9, .id 10, .id 11, .id 12, .id 16], by (refine ⟨by kernel_rfl, ?_, ?_⟩ <;> repeat first | exact okTms_nil | refine okTms_cons ?_ ?_ | exact okBlks_nil | refine okBlks_cons ?_ ?_ | exact lws_nil | refine lws_cons ?_ ?_ | exact lb_dead | exact zy1 | exact zy2 | exact lb_none | refine zy3 ?_ | exact zy4 | exact lw_any | exact lw_int | exact lw_bool | exact zy5 | exact zy6 | exact lw_nils | exact lw_slo_nils | exact zy7 | exact zy8 | exact zy9 | refine lw_tup ?_ | refine lw_agg ?_ | assumption)⟩
set_option maxHeartbeats 1000000 in
theorem raw_fun (xs ys : List (Int × Int)) (zs : List AswR) (me su sm : Int) (ov : Value) (st n w : Int) (n1 : Nat) (e1 : zs.length = n1) (hn1 : n1 ≤ 9223372036854775807) (ha : ∀ x ∈ zs, asw_bd x) (hx : xs.length ≤ 9223372036854775807) (hy : ys.length ≤ 9223372036854775807) :
    SFun Go.Proofs.Try.prog 4 [.agg (caC me su sm xs.length ys.length ov st n w), .slo 2 0 n1 0] (mkS [.ro (encL cell xs), .ro (encL cell ys), .ro (encL aswL zs)]) fun l _ => l = .bool true := by
  refine SFun.mono (SFun.pieces (Q := fun l _ => l = .bool true) 152 3 rwL [4] (by kernel_rfl) rfl rfl rfl ?_) fun l s' ⟨b0, h1, _⟩ => h1
  have nx := noids_c xs
  have ny := noids_c ys
  have na := asw_noids zs
  have nq := noids_c (qL n xs)
  have nc := noids_c (cLl ys)
  have lq : (qL n xs).length ≤ 6 := by simp only [qL, List.length_map, List.length_take]; omega
  have lc : (cLl ys).length ≤ 6 := by simp only [cLl, List.length_map, List.length_take]; omega
  have hsl := strL_len (cLl ys) n w
  have nss := noIds_Ii64 (strL (cLl ys) n w)
  have ox : okC (encL cell xs) xs.length = true := okC_enc hx
  have oy : okC (encL cell ys) ys.length = true := okC_enc hy
  have oq : okC (encL cell (qL n xs)) (qL n xs).length = true := okC_enc (by omega)
  have oc : okC (encL cell (cLl ys)) (cLl ys).length = true := okC_enc (by omega)
  have b1 : xle (qL n xs).length 1000000 = true := t_le (by omega)
  have b2 : xle (cLl ys).length 1000000 = true := t_le (by omega)
  have es1 : stN (cLl ys).length (encL cell (cLl ys)) n w = (strL (cLl ys) n w).length := rfl
  have es2 : stC (cLl ys).length (encL cell (cLl ys)) n w = encL (cI .i64) (strL (cLl ys) n w) := rfl
  have es3 : xmn (xmx su 0) 4 = spW su := rfl
  have f1 : shQn n (encL cell xs) = (qL n xs).length := by rw [shQn, decC_enc]
  have f2 : shQc n (encL cell xs) = encL cell (qL n xs) := by rw [shQc, decC_enc]
  have f3 : shCn (encL cell ys) = (cLl ys).length := by rw [shCn, decC_enc]
  have f4 : shCc (encL cell ys) = encL cell (cLl ys) := by rw [shCc, decC_enc]
  refine SSp.to cxz_ok (n := 60) (g := []) 4 4 rfl (σ := Unit) (fun _ => rwT n1 (qL n xs).length (cLl ys).length) (fun _ => rwH (encL cell xs) (encL cell ys) (encL aswL zs) me su sm xs.length ys.length ov st n w (encL cell (qL n xs)) (encL cell (cLl ys))) (mkS_le (Nat.le_refl _)) (by kernel_rfl) ?_ fun _ => ?_
  · rw [rw_a]
    simp only [ox, oy, cond_true, f1, f2, f3, f4]
    exact ⟨rfl, (), [.id 0, .id 1, .id 2, .id 3, .id 4, .id 5], by (refine ⟨by kernel_rfl, ?_, ?_⟩ <;> repeat first | exact okTms_nil | refine okTms_cons ?_ ?_ | exact okBlks_nil | refine okBlks_cons ?_ ?_ | exact lws_nil | refine lws_cons ?_ ?_ | exact lb_dead | exact zy1 | exact zy2 | exact lb_none | refine lb_capL (by simp) (by simp) ?_ (by simp) | refine lb_drop0 (by simp) ?_ (by simp) | exact lw_slo_drop rfl | refine zy3 ?_ | exact zy4 | exact lw_any | exact lw_int | exact lw_bool | exact zy5 | exact zy6 | exact lw_nils | exact lw_slo_nils | exact zy7 | exact zy8 | exact zy9 | refine lw_tup ?_ | refine lw_agg ?_ | assumption)⟩
  generalize qL n xs = qs at *
  generalize cLl ys = cs at *
  generalize hss : strL cs n w = ss at *
  have hb : qs.length ≤ 1000000 ∧ cs.length ≤ 1000000 ∧ ss.length ≤ 1000000 := ⟨by omega, by omega, by omega⟩
  have hp0 : Bo qs cs.length ss (cs0 su ss.length, cs0 su ss.length) := by
    have k := cs0_ok su qs.length cs.length ss.length
    have hph : phW ss.length = 2 ∨ phW ss.length = 0 := by unfold phW; split <;> simp
    exact ⟨⟨rfl, rfl, rfl, fun _ => ⟨⟨rfl, rfl, rfl, rfl, rfl⟩, fun _ _ => rfl, fun _ => ⟨rfl, rfl, rfl⟩, fun h => by simp only at h; omega⟩⟩, k, ⟨spW_in su, Nat.zero_le _, Nat.zero_le _, rfl⟩⟩
  refine SSp.code_to (g := []) 5 rfl (σ := Unit) (fun _ => rwV n1) (fun _ => rwS (encL cell xs) (encL cell ys) (encL aswL zs) me (xwr .u64 sm) qs cs ss (cs0 su ss.length, cs0 su ss.length)) (by kernel_rfl) ?_ fun _ => ?_
  · refine SCode.orders cxz_ok (n := 60) (mkS_le (Nat.le_of_ble_eq_true rfl)) ?_
    rw [rw_o]; simp only [rw_o_b1]
    simp only [oq, oc, b1, b2, cm_self, cond_true, es1, es2, es3]
    refine ⟨?_, ?_, ?_⟩
    all_goals exact ⟨rfl, (), [.id 0, .id 1, .id 2, .id 6, .id 7, .id 8, .id 9, .id 10, .id 11, .id 12, .id 13, .id 14, .id 15, .id 16], by (refine ⟨by kernel_rfl, ?_, ?_⟩ <;> repeat first | exact okTms_nil | refine okTms_cons ?_ ?_ | exact okBlks_nil | refine okBlks_cons ?_ ?_ | exact lws_nil | refine lws_cons ?_ ?_ | exact lb_dead | exact zy1 | exact zy2 | exact lb_none | refine lb_capL (by simp) (by simp) ?_ (by simp) | refine lb_drop0 (by simp) ?_ (by simp) | exact lw_slo_drop rfl | refine zy3 ?_ | exact zy4 | exact lw_any | exact lw_int | exact lw_bool | exact zy5 | exact zy6 | exact lw_nils | exact lw_slo_nils | exact zy7 | exact zy8 | exact zy9 | refine lw_tup ?_ | refine lw_agg ?_ | assumption)⟩
  refine SSp.to cxz_ok (n := 60) (g := []) 3 8 rfl (σ := Unit) (fun _ => rwU n1 0) (fun _ => rwS (encL cell xs) (encL cell ys) (encL aswL zs) me (xwr .u64 sm) qs cs ss (cs0 su ss.length, cs0 su ss.length)) (mkS_le (Nat.le_of_ble_eq_true rfl)) (by kernel_rfl) ?_ fun _ => ?_
  · have nt : noIds (encL cL (cs0 su ss.length).tk) = true := noids_l _
    dsimp only [rwS]
    rw [rw_c]
    exact ⟨rfl, (), [.id 0, .id 1, .id 2, .id 3, .id 4, .id 5, .id 6, .id 7, .id 8, .id 9, .id 10, .id 11, .id 12, .id 13], by (refine ⟨by kernel_rfl, ?_, ?_⟩ <;> repeat first | exact okTms_nil | refine okTms_cons ?_ ?_ | exact okBlks_nil | refine okBlks_cons ?_ ?_ | exact lws_nil | refine lws_cons ?_ ?_ | exact lb_dead | exact zy1 | exact zy2 | exact lb_none | refine zy3 ?_ | exact zy4 | exact lw_any | exact lw_int | exact lw_bool | exact zy5 | exact zy6 | exact lw_nils | exact lw_slo_nils | exact zy7 | exact zy8 | exact zy9 | refine lw_tup ?_ | refine lw_agg ?_ | assumption)⟩
  refine SSp.code_to (g := []) 9 rfl (σ := Unit) (fun _ => []) (fun _ => [.ro (encL cell xs), .ro (encL cell ys), .ro (encL aswL zs)]) (by kernel_rfl) ?_ fun _ => ?_
  · refine SCode.loop_sp 0 (by kernel_rfl) (σ := {p : Nat × CS × CS // Bo qs cs.length ss p.2}) (fun p => rwU n1 p.1.1) (fun p => rwS (encL cell xs) (encL cell ys) (encL aswL zs) me (xwr .u64 sm) qs cs ss p.1.2) (fun p => 60 - p.1.1) (fun _ => Nat.le_of_ble_eq_true rfl) (fun ⟨⟨i, c, r⟩, hk⟩ => ?_) ⟨(0, cs0 su ss.length, cs0 su ss.length), hp0⟩
    dsimp only at hk ⊢
    have nt := noids_l c.tk
    have nt' := noids_l r.tk
    refine SSp.to cxz_ok (n := 60) (g := []) 2 2 rfl (σ := {_k : Unit // i < 60}) (fun _ => rwU n1 i) (fun _ => rwS (encL cell xs) (encL cell ys) (encL aswL zs) me (xwr .u64 sm) qs cs ss (c, r)) (mkS_le (Nat.le_of_ble_eq_true rfl)) (by kernel_rfl) ?_ fun ⟨_, h2⟩ => ?_
    · dsimp only [rwS]
      rw [rw_d]
      refine ways (fun h1 => ?_) (fun h1 => ?_)
      · refine ways (fun h2 => ?_) (fun h2 => ?_)
        · have h2' : (i : Int) < 60 := by simpa [xcm_lss] using h2
          exact ⟨rfl, ⟨(), by omega⟩, [.id 0, .id 1, .id 2, .id 3, .id 4, .id 5, .id 6, .id 7, .id 8, .id 9, .id 10, .id 11, .id 12, .id 13], by (refine ⟨by kernel_rfl, ?_, ?_⟩ <;> repeat first | exact okTms_nil | refine okTms_cons ?_ ?_ | exact okBlks_nil | refine okBlks_cons ?_ ?_ | exact lws_nil | refine lws_cons ?_ ?_ | exact lb_dead | exact zy1 | exact zy2 | exact lb_none | refine zy3 ?_ | exact zy4 | exact lw_any | exact lw_int | exact lw_bool | exact zy5 | exact zy6 | exact lw_nils | exact lw_slo_nils | exact zy7 | exact zy8 | exact zy9 | refine lw_tup ?_ | refine lw_agg ?_ | assumption)⟩
        · exact ⟨rfl, (), [.id 0, .id 1, .id 2], by (refine ⟨by kernel_rfl, ?_, ?_⟩ <;> repeat first | exact okTms_nil | refine okTms_cons ?_ ?_ | exact okBlks_nil | refine okBlks_cons ?_ ?_ | exact lws_nil | refine lws_cons ?_ ?_ | exact lb_dead | exact zy1 | exact zy2 | exact lb_none | refine zy3 ?_ | exact zy4 | exact lw_any | exact lw_int | exact lw_bool | exact zy5 | exact zy6 | exact lw_nils | exact lw_slo_nils | exact zy7 | exact zy8 | exact zy9 | refine lw_tup ?_ | refine lw_agg ?_ | assumption)⟩
      · exact ⟨rfl, (), [.id 0, .id 1, .id 2], by (refine ⟨by kernel_rfl, ?_, ?_⟩ <;> repeat first | exact okTms_nil | refine okTms_cons ?_ ?_ | exact okBlks_nil | refine okBlks_cons ?_ ?_ | exact lws_nil | refine lws_cons ?_ ?_ | exact lb_dead | exact zy1 | exact zy2 | exact lb_none | refine zy3 ?_ | exact zy4 | exact lw_any | exact lw_int | exact lw_bool | exact zy5 | exact zy6 | exact lw_nils | exact lw_slo_nils | exact zy7 | exact zy8 | exact zy9 | refine lw_tup ?_ | refine lw_agg ?_ | assumption)⟩
    refine SSp.code_to (g := []) 3 rfl (σ := {p : CS × CS // Bo qs cs.length ss p}) (fun _ => rwU n1 i) (fun p => rwS (encL cell xs) (encL cell ys) (encL aswL zs) me (xwr .u64 sm) qs cs ss p.1) (by kernel_rfl) ?_ fun ⟨⟨c2, r2⟩, hs2⟩ => ?_
    · refine SCode.block_sp 1 (by kernel_rfl) ?_
      refine SSp.to cxz_ok (n := 60) (g := []) 6 6 rfl (σ := Unit) (fun _ => rwU n1 i) (fun _ => rwS (encL cell xs) (encL cell ys) (encL aswL zs) me (xwr .u64 sm) qs cs ss (c, r)) (mkS_le (Nat.le_of_ble_eq_true rfl)) (by kernel_rfl) (rw_same _ _ _ nx ny na n1 i me _ qs cs ss hb c r hk _) fun _ => ?_
      refine SSp.last cxz_ok (n := 60) (mkS_le (Nat.le_of_ble_eq_true rfl)) ?_
      exact rw_told _ _ nx ny zs n1 e1 hn1 ha i me _ qs cs ss hb c r hk _
    have m1 := noids_l c2.tk
    have m2 := noids_l r2.tk
    refine SSp.last cxz_ok (n := 60) (mkS_le (Nat.le_of_ble_eq_true rfl)) ?_
    have e3 : xar .add .i64 (i : Int) 1 = ((i + 1 : Nat) : Int) := by rw [add_i64 (by omega) (by omega)]; omega
    dsimp only [rwS]
    rw [rw_g, e3]
    exact ⟨rfl, ⟨(i + 1, c2, r2), hs2⟩, by simp only; omega, [.id 0, .id 1, .id 2, .id 3, .id 4, .id 5, .id 6, .id 7, .id 8, .id 9, .id 10, .id 11, .id 12, .id 13], by (refine ⟨by kernel_rfl, ?_, ?_⟩ <;> repeat first | exact okTms_nil | refine okTms_cons ?_ ?_ | exact okBlks_nil | refine okBlks_cons ?_ ?_ | exact lws_nil | refine lws_cons ?_ ?_ | exact lb_dead | exact zy1 | exact zy2 | exact lb_none | refine zy3 ?_ | exact zy4 | exact lw_any | exact lw_int | exact lw_bool | exact zy5 | exact zy6 | exact lw_nils | exact lw_slo_nils | exact zy7 | exact zy8 | exact zy9 | refine lw_tup ?_ | refine lw_agg ?_ | assumption)⟩
  refine SSp.last cxz_ok (n := 60) (mkS_le (Nat.le_of_ble_eq_true rfl)) ?_
  rw [rw_z]
  exact ⟨trivial, rfl, .bool true, [.ro _, .ro _, .ro _], [.id 0, .id 1, .id 2], rfl, by (refine ⟨by kernel_rfl, ?_, ?_⟩ <;> repeat first | exact okTms_nil | refine okTms_cons ?_ ?_ | exact okBlks_nil | refine okBlks_cons ?_ ?_ | exact lws_nil | refine lws_cons ?_ ?_ | exact lb_dead | exact zy1 | exact zy2 | exact lb_none | refine zy3 ?_ | exact zy4 | exact lw_any | exact lw_int | exact lw_bool | exact zy5 | exact zy6 | exact lw_nils | exact lw_slo_nils | exact zy7 | exact zy8 | exact zy9 | refine lw_tup ?_ | refine lw_agg ?_ | assumption)⟩
end
theorem el_cellC {H : Type} {enc : TypeId × Value → H} {W : World} : ∀ (cs : List Value) (n : Nat) (x : DataW H × List MemPlace), cs.length = 2 → DataW.trod enc Go.Proofs.Try.prog W 0 (fun _ => true) true n 30 cs = some x → ∃ y : Int × Int, True ∧ ∀ (j : Nat) l, (cell y)[j]? = some l → l.plain = true ∧ ∃ u, cs[j]? = some u ∧ VR noRen l u := by
  intro cs n x hl hx
  have hf := fl_ok 4 (l := [(0, .int .i64), (1, .int .u64)]) (by kernel_rfl) hx
  obtain ⟨_, e0, z0, rfl, _⟩ := hf (0, .int .i64) (by simp)
  obtain ⟨_, e1, z1, rfl, _⟩ := hf (1, .int .u64) (by simp)
  refine ⟨(z0, z1), trivial, fun i l hi => ?_⟩
  match i with
  | 0 => simp [cII] at hi; subst hi; exact ⟨rfl, _, e0, by simp only [VR]⟩
  | 1 => simp [cII] at hi; subst hi; exact ⟨rfl, _, e1, by simp only [VR]⟩
  | i + 2 => simp [cII] at hi
theorem el_seenC {H : Type} {enc : TypeId × Value → H} {W : World} : ∀ (cs : List Value) (n : Nat) (x : DataW H × List MemPlace), cs.length = 2 → DataW.trod enc Go.Proofs.Try.prog W 0 (fun _ => true) true n 70 cs = some x → ∃ y : Int × Int, True ∧ ∀ (j : Nat) l, (cell y)[j]? = some l → l.plain = true ∧ ∃ u, cs[j]? = some u ∧ VR noRen l u := by
  intro cs n x hl hx
  have hf := fl_ok 4 (l := [(0, .int .i64), (1, .int .u64)]) (by kernel_rfl) hx
  obtain ⟨_, e0, z0, rfl, _⟩ := hf (0, .int .i64) (by simp)
  obtain ⟨_, e1, z1, rfl, _⟩ := hf (1, .int .u64) (by simp)
  refine ⟨(z0, z1), trivial, fun i l hi => ?_⟩
  match i with
  | 0 => simp [cII] at hi; subst hi; exact ⟨rfl, _, e0, by simp only [VR]⟩
  | 1 => simp [cII] at hi; subst hi; exact ⟨rfl, _, e1, by simp only [VR]⟩
  | i + 2 => simp [cII] at hi
theorem raw_any {H : Type} {enc : TypeId × Value → H} {W : World} {cs : Array Value} {a1 : Option Addr} {len1 cap1 : Nat} {d0 d1 : DataW H} {p0 p1 : List MemPlace} (h0 : DataW.Trod enc Go.Proofs.Try.prog W 0 (fun _ => true) true 54 (.agg cs) d0 p0)
    (h1 : DataW.Trod enc Go.Proofs.Try.prog W 0 (fun _ => true) true 55 (.slice a1 len1 cap1) d1 p1) :
    Calls Go.Proofs.Try.prog 4 #[.agg cs, .slice a1 len1 cap1] W fun e W' => e = .returned (.bool true) ∧ Below W.heap.size W W' := by
  obtain ⟨zs, e1, n1, ha, r1⟩ := asw_row h1
  obtain ⟨fuel, hf⟩ := h0
  obtain ⟨_, _, _, _, hlen, _, _⟩ := DataW.trod_struct Go.Proofs.Try.underlying54 hf
  have hl : cs.toList.length = 9 := hlen.trans (by kernel_rfl)
  have hg := fl3_ok 8 (l := [(0, .int .i64), (1, .int .i64), (2, .int .i64), (6, .int .u64), (7, .int .i64), (8, .int .i64)]) (by kernel_rfl) hf
  have hs := fsl_ok 8 (l := [(3, 51), (4, 31), (5, 52)]) (by kernel_rfl) hf
  obtain ⟨_, i0, me, rfl, _⟩ := hg (0, .int .i64) (by simp)
  obtain ⟨_, i1, su, rfl, _⟩ := hg (1, .int .i64) (by simp)
  obtain ⟨_, i2, sm, rfl, _⟩ := hg (2, .int .i64) (by simp)
  obtain ⟨_, i6, st, rfl, _⟩ := hg (6, .int .u64) (by simp)
  obtain ⟨_, i7, n, rfl, _⟩ := hg (7, .int .i64) (by simp)
  obtain ⟨_, i8, w, rfl, _⟩ := hg (8, .int .i64) (by simp)
  obtain ⟨v3, y3, m3, i3, hv3⟩ := hs (3, 51) (by simp)
  obtain ⟨v4, y4, m4, i4, hv4⟩ := hs (4, 31) (by simp)
  obtain ⟨v5, y5, m5, i5, hv5⟩ := hs (5, 52) (by simp)
  obtain ⟨xs, k1, _, k3, k4⟩ := row_in (f := cell) (ok := fun _ => True) cell_len (by omega) Go.Proofs.Try.underlying51 (by kernel_rfl) hv3 el_seenC
  obtain ⟨ys, j1, _, j3, j4⟩ := row_in (f := cell) (ok := fun _ => True) cell_len (by omega) Go.Proofs.Try.underlying31 (by kernel_rfl) hv4 el_cellC
  have k5 : ∃ a n c, v5 = .slice a n c := by
    rcases Go.Deep.open_slice Go.Proofs.Try.underlying52 hv5 with ⟨hc, _⟩ | ⟨a', len', cap', m, n, D, Pl, hc, _⟩
    · simp only [List.cons.injEq, and_true] at hc; exact ⟨_, _, _, hc⟩
    · simp only [List.cons.injEq, and_true] at hc; exact ⟨_, _, _, hc⟩
  have hcs : cs = #[.int .i64 me, .int .i64 su, .int .i64 sm, v3, v4, v5, .int .u64 st, .int .i64 n, .int .i64 w] := by
    have : cs.toList = [.int .i64 me, .int .i64 su, .int .i64 sm, v3, v4, v5, .int .u64 st, .int .i64 n, .int .i64 w] := by
      refine List.ext_getElem? fun i => ?_
      match i with
      | 0 => exact i0
      | 1 => exact i1
      | 2 => exact i2
      | 3 => exact i3
      | 4 => exact i4
      | 5 => exact i5
      | 6 => exact i6
      | 7 => exact i7
      | 8 => exact i8
      | i + 9 => rw [List.getElem?_eq_none (by omega), List.getElem?_eq_none (by simp)]
    cases cs; simpa using this
  refine SFun.top (rows := [(v3, xs.length, encL cell xs), (v4, ys.length, encL cell ys), (.slice a1 len1 cap1, len1, encL aswL zs)]) (g := []) (us := [.agg cs, .slice a1 len1 cap1]) ⟨k3, j3, r1, trivial⟩ (fun x hx => by cases hx) (fun r h => ?_) (raw_fun xs ys zs me su sm v5 st n w len1 e1 n1 ha k1 j1)
  subst hcs
  simp only [VRs, VR]
  refine ⟨_, _, rfl, ⟨_, rfl, ?_⟩, _, _, rfl, h 2 _ _ _ rfl, rfl⟩
  have g3 : VR r (.slo 0 0 xs.length 0) v3 := h 0 _ _ _ rfl
  have g4 : VR r (.slo 1 0 ys.length 0) v4 := h 1 _ _ _ rfl
  simp only [VR] at g3 g4
  exact ⟨_, _, rfl, rfl, _, _, rfl, rfl, _, _, rfl, rfl, _, _, rfl, g3, _, _, rfl, g4, _, _, rfl, ⟨rfl, k5⟩, _, _, rfl, rfl, _, _, rfl, rfl, _, _, rfl, rfl, rfl⟩
end Go.Lev
