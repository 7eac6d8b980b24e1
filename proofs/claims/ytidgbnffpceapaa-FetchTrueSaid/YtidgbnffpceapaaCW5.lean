/- FetchTrue (P23.2): for any moves, any stamp, any spins the law returns true; what was there stays as it was. No condition. -/
import Derived.Test.YtidgbnffpceapaaCW4
import Derived.Test.YtidgbnffpceapaaLc
import Derived.Test.YtidgbnffpceapaaChecked
import Derived.KernelRfl

namespace Go.Lev
open Go.RowKit
set_option linter.unusedVariables false
set_option linter.unusedSimpArgs false
set_option maxRecDepth 100000
noncomputable section
/-! rows of integers -/
def decIu64 : List LV → List Int
  | .int _ a :: r => a :: decIu64 r
  | _ => []
theorem decIu64_enc : ∀ xs, decIu64 (encL (cI .u64) xs) = xs
  | [] => rfl
  | x :: r => by simp [encL, cI, decIu64, decIu64_enc r]
def okIu64 (cs : List LV) (n : Nat) : Bool := @decide (cs = encL (cI .u64) (decIu64 cs) ∧ (decIu64 cs).length = n ∧ n ≤ 9223372036854775807) (Classical.propDecidable _)

theorem okIu64_iff {cs : List LV} {n : Nat} : okIu64 cs n = true ↔ ∃ xs, cs = encL (cI .u64) xs ∧ xs.length = n ∧ n ≤ 9223372036854775807 := by
  simp only [okIu64, decide_eq_true_eq]
  exact ⟨fun h => ⟨_, h⟩, fun ⟨xs, h1, h2⟩ => by subst h1; rw [decIu64_enc]; exact ⟨rfl, h2⟩⟩
theorem okIu64_tab {n : Nat} (g : Nat → Int) (h : n ≤ 9223372036854775807) : okIu64 (tab (cI .u64) n g) n = true := okIu64_iff.2 ⟨_, rfl, by simp, h⟩
theorem okIu64_enc {xs : List Int} (h : xs.length ≤ 9223372036854775807) : okIu64 (encL (cI .u64) xs) xs.length = true := okIu64_iff.2 ⟨_, rfl, rfl, h⟩
theorem encIu64_len (xs : List Int) : (encL (cI .u64) xs).length = xs.length := by rw [encL_length (cI_len .u64)]; omega
theorem encIu64_push (xs : List Int) (y : Int) : xcat (xcut (encL (cI .u64) xs) 0 xs.length) [.int .u64 y] = encL (cI .u64) (xs ++ [y]) := by
  rw [xcut_all (by rw [encIu64_len]; omega), encL_append]; rfl
theorem encIu64_nth {xs : List Int} {i : Nat} (h : i < xs.length) : nthD (encL (cI .u64) xs) i = .int .u64 xs[i] := by
  have := encL_nth (cI_len .u64) (j := 0) h (by omega)
  simp only [Nat.mul_one, Nat.add_zero] at this
  exact this
theorem noIds_Iu64 (xs : List Int) : noIds (encL (cI .u64) xs) = true := noIds_encL (fun _ => rfl) xs
theorem xnoid_Iu64 (xs : List Int) : xnoid (encL (cI .u64) xs) = true := xnoid_encL (fun _ => rfl) xs

structure MvR where
  m : Bool
  a : Bool
abbrev mvL (x : MvR) : List LV := [.bool x.m, .bool x.a]
theorem mvL_len (x : MvR) : (mvL x).length = 2 := rfl
theorem mv_0 {xs : List MvR} {i : Nat} (h : i < xs.length) : nthD (encL mvL xs) (i * 2) = .bool xs[i].m := encL_nth mvL_len (j := 0) h (by omega)
theorem mv_1 {xs : List MvR} {i : Nat} (h : i < xs.length) : nthD (encL mvL xs) (i * 2 + 1) = .bool xs[i].a := encL_nth mvL_len (j := 1) h (by omega)
theorem mv_n (xs : List MvR) : (encL mvL xs).length = xs.length * 2 := encL_length mvL_len xs
theorem mv_noids (xs : List MvR) : noIds (encL mvL xs) = true := noIds_encL (fun _ => rfl) xs
def mv_bd (x : MvR) : Prop := True
theorem mv_row {H : Type} {enc : TypeId × Value → H} {W : World} {a : Option Addr} {len cap : Nat} {d : DataW H} {ps : List MemPlace} (h : DataW.Trod enc Go.Proofs.Try.prog W 0 (fun _ => true) true 53 (.slice a len cap) d ps) :
    ∃ xs : List MvR, xs.length = len ∧ len ≤ 9223372036854775807 ∧ (∀ x ∈ xs, mv_bd x) ∧ RowArg W (.slice a len cap) len (encL mvL xs) := by
  obtain ⟨xs, q1, q2, q3, q4⟩ := row_arg (f := mvL) (ok := mv_bd) mvL_len (by omega) Go.Proofs.Try.underlying53 (by kernel_rfl) h fun cs n x hl hx => by
    have hf := fl_ok 8 (l := [(0, .bool), (1, .bool)]) (by kernel_rfl) hx
    obtain ⟨_, e0, z0, rfl⟩ := hf (0, .bool) (by simp)
    obtain ⟨_, e1, z1, rfl⟩ := hf (1, .bool) (by simp)
    refine ⟨⟨z0, z1⟩, trivial, fun i l hi => ?_⟩
    match i with
    | 0 => simp at hi; subst hi; exact ⟨rfl, _, e0, by simp only [VR]⟩
    | 1 => simp at hi; subst hi; exact ⟨rfl, _, e1, by simp only [VR]⟩
    | i + 2 => simp at hi
  exact ⟨xs, q1, q2, q3, q4⟩
theorem runs23 : isTrue (lrun Go.Proofs.Try.prog 4000 3 []) = true := by kernel_rfl
theorem cxq_ok : CtrOk Go.Proofs.Try.prog (ctrOf cxq) := cxl_ok ⟨runG_ok runs23, tellG_ok, trivial⟩
theorem cm_self (x : Int) : xcm .eql x x = true := t_eql rfl
theorem u_nth {A : List Int} {j : Nat} (h : j < A.length) : nthD (encL (cI .u64) A) j = .int .u64 (A.getD j 0) := by
  rw [encIu64_nth h]; simp [List.getD_eq_getElem?_getD, h]
theorem u_set {A : List Int} {j : Nat} (h : j < A.length) (y : Int) : xlay (encL (cI .u64) A) j [.int .u64 y] = encL (cI .u64) (A.set j y) := by
  have e1 := encL_take (cI_len .u64) j A
  have e2 := encL_drop (cI_len .u64) (j + 1) A
  simp only [Nat.mul_one] at e1 e2
  simp only [xlay, List.length_cons, List.length_nil, Nat.zero_add, e1, e2]
  rw [List.set_eq_take_append_cons_drop, if_pos h, encL_append]
  rfl
def hB (p : Nat) : Bool := decide (p ≠ 0)
def oB (p : Nat) : Int := if p = 0 then 0 else 1
/-- What holds between the fetch, the memory and what was. -/
structure FI (sm : Int) (i : Nat) (A W : List Int) (p : Nat) (s : FSt) : Prop where
  p3 : p < 3
  k1 : 1 ≤ A.length
  ki : A.length ≤ i + 1
  w32 : W.length = 32
  ok : s.ok
  en : s.en = 0 ∨ s.en = 2 ∨ s.en = 6
  lk : s.lh = false ∧ s.lo = 0 ∧ 0 ≤ s.lv
  w0 : p ≠ 2 → W.getD 9 0 = A.getD (A.length - 1) 0
  w2 : p = 2 → W.getD 9 0 = 100 + ((A.length - 1 : Nat) : Int)
  r : s.en = 0 → s.ph ≠ 0 → s.lv ≤ ((A.length - 1 : Nat) : Int) ∧ s.lv ≤ sm
  q : s.en = 0 → s.ph = 2 → s.lv = ((A.length - 1 : Nat) : Int) → p ≠ 2 → s.wd = A.getD (A.length - 1) 0
  d : s.en = 2 → s.lv ≤ ((A.length - 1 : Nat) : Int) ∧ s.lv ≤ sm ∧ s.wd = A.getD s.lv.toNat 0
theorem FI.more {sm : Int} {i : Nat} {A W : List Int} {p : Nat} {s : FSt} (h : FI sm i A W p s) : FI sm (i + 1) A W p s := ⟨h.p3, h.k1, by have := h.ki; omega, h.w32, h.ok, h.en, h.lk, h.w0, h.w2, h.r, h.q, h.d⟩
theorem FI.word {sm : Int} {i : Nat} {A W : List Int} {p : Nat} {s : FSt} (h : FI sm i A W p s) (h0 : s.en = 0) (h1 : s.ph = 1) : FI sm (i + 1) A W p (fStep 0 sm s (W.getD 9 0) 0 false 0 0) := by
  have hk := fStep_ok (me := 0) (sm := sm) h.ok (W.getD 9 0) 0 false 0 0
  have E : fStep 0 sm s (W.getD 9 0) 0 false 0 0 = { s with wd := W.getD 9 0, ph := 2 } := by simp [fStep, h0, h1]
  rw [E] at hk ⊢
  refine ⟨h.p3, h.k1, by have := h.ki; omega, h.w32, hk, h.en, h.lk, h.w0, h.w2, fun _ _ => h.r h0 (by omega), fun _ _ _ hp => h.w0 hp, fun h2 => ?_⟩
  simp only at h2; omega
theorem FI.lock {sm : Int} {i : Nat} {A W : List Int} {p : Nat} {s : FSt} (h : FI sm i A W p s) (h0 : s.en = 0) (h1 : s.ph ≠ 1) : FI sm (i + 1) A W p (fStep 0 sm s 0 ((A.length - 1 : Nat) : Int) (hB p) (oB p) 0) := by
  have hk := fStep_ok (me := 0) (sm := sm) h.ok 0 ((A.length - 1 : Nat) : Int) (hB p) (oB p) 0
  obtain ⟨l1, l2, l3⟩ := h.lk
  have hki := h.ki
  by_cases hp : p = 0
  · subst hp
    have e1 : hB 0 = false := rfl
    have e2 : oB 0 = 0 := rfl
    rw [e1, e2] at hk ⊢
    by_cases hd : s.ph = 2 ∧ ((A.length - 1 : Nat) : Int) = s.lv
    · have E : fStep 0 sm s 0 ((A.length - 1 : Nat) : Int) false 0 0 = { s with en := 2 } := by simp [fStep, h0, hd, l1, l2]
      rw [E] at hk ⊢
      refine ⟨h.p3, h.k1, by omega, h.w32, hk, .inr (.inl rfl), h.lk, h.w0, h.w2, fun h2 => by simp at h2, fun h2 => by simp at h2, fun _ => ?_⟩
      have r := h.r h0 (by omega)
      refine ⟨r.1, r.2, ?_⟩
      have := h.q h0 hd.1 hd.2.symm (by omega)
      simp only [this, ← hd.2, Int.toNat_natCast]
    · have hd' : ¬ (s.ph = 2 ∧ ((A.length - 1 : Nat) : Int) = s.lv ∧ false = s.lh ∧ 0 = s.lo) := fun q => hd ⟨q.1, q.2.1⟩
      by_cases hl : sm < ((A.length - 1 : Nat) : Int)
      · have E : fStep 0 sm s 0 ((A.length - 1 : Nat) : Int) false 0 0 = { s with ph := 0, en := 6 } := by
          simp only [fStep, h0, ne_eq, not_true, if_false, h1, hd', Bool.false_eq_true, hl, if_true]
        rw [E] at hk ⊢
        exact ⟨h.p3, h.k1, by omega, h.w32, hk, .inr (.inr rfl), h.lk, h.w0, h.w2, fun h2 => by simp at h2, fun h2 => by simp at h2, fun h2 => by simp at h2⟩
      · have E : fStep 0 sm s 0 ((A.length - 1 : Nat) : Int) false 0 0 = { s with ph := 1, lv := ((A.length - 1 : Nat) : Int), lh := false, lo := 0 } := by
          simp only [fStep, h0, ne_eq, not_true, if_false, h1, hd', Bool.false_eq_true, hl]
        rw [E] at hk ⊢
        exact ⟨h.p3, h.k1, by omega, h.w32, hk, .inl h0, ⟨rfl, rfl, by show (0 : Int) ≤ ((A.length - 1 : Nat) : Int); omega⟩, h.w0, h.w2, fun _ _ => ⟨Int.le_refl _, by show ((A.length - 1 : Nat) : Int) ≤ sm; omega⟩, fun _ h2 => by simp at h2, fun h2 => by have h3 : s.en = 2 := h2; omega⟩
  · have e1 : hB p = true := decide_eq_true hp
    have e2 : oB p = 1 := if_neg hp
    rw [e1, e2] at hk ⊢
    have E : fStep 0 sm s 0 ((A.length - 1 : Nat) : Int) true 1 0 = { s with ph := 0 } := by simp [fStep, h0, h1, l1]
    rw [E] at hk ⊢
    exact ⟨h.p3, h.k1, by omega, h.w32, hk, h.en, h.lk, h.w0, h.w2, fun _ h2 => by simp at h2, fun _ h2 => by simp at h2, fun h2 => by simp only at h2; omega⟩
theorem FI.take {sm : Int} {i : Nat} {A W : List Int} {s : FSt} (h : FI sm i A W 0 s) : FI sm (i + 1) A W 1 s :=
  ⟨by omega, h.k1, by have := h.ki; omega, h.w32, h.ok, h.en, h.lk, fun _ => h.w0 (by omega), fun h2 => by omega, h.r, fun a b c _ => h.q a b c (by omega), h.d⟩
theorem FI.again {sm : Int} {i : Nat} {A W : List Int} {s : FSt} (h : FI sm i A W 1 s) : FI sm (i + 1) A W 0 s :=
  ⟨by omega, h.k1, by have := h.ki; omega, h.w32, h.ok, h.en, h.lk, fun _ => h.w0 (by omega), fun h2 => by omega, h.r, fun a b c _ => h.q a b c (by omega), h.d⟩
theorem FI.write {sm : Int} {i : Nat} {A W : List Int} {s : FSt} (h : FI sm i A W 1 s) : FI sm (i + 1) A (W.set 9 (100 + ((A.length - 1 : Nat) : Int))) 2 s :=
  ⟨by omega, h.k1, by have := h.ki; omega, by rw [List.length_set]; exact h.w32, h.ok, h.en, h.lk, fun h2 => absurd rfl h2, fun _ => by have := h.w32; simp [List.getD_eq_getElem?_getD, this], h.r, fun _ _ _ h2 => absurd rfl h2, h.d⟩
theorem FI.drop {sm : Int} {i : Nat} {A W : List Int} {s : FSt} (h : FI sm i A W 2 s) : FI sm (i + 1) (A ++ [100 + ((A.length - 1 : Nat) : Int)]) W 0 s := by
  have hk := h.k1
  have el : (A ++ [100 + ((A.length - 1 : Nat) : Int)]).length = A.length + 1 := by simp
  refine ⟨by omega, by omega, by have := h.ki; omega, h.w32, h.ok, h.en, h.lk, fun _ => ?_, fun h2 => by omega, fun a b => ?_, fun a b c _ => ?_, fun a => ?_⟩
  · rw [h.w2 rfl, el]; simp [List.getD_eq_getElem?_getD]
  · have := h.r a b; rw [el]; omega
  · have := h.r a (by omega); rw [el] at c; omega
  · obtain ⟨d1, d2, d3⟩ := h.d a
    have l3 := h.lk.2.2
    rw [el]
    refine ⟨by omega, d2, ?_⟩
    rw [d3, List.getD_eq_getElem?_getD, List.getD_eq_getElem?_getD, List.getElem?_append_left (by omega)]
abbrev ftS (ax : List LV) (sm C : Int) (A W : List Int) (p : Nat) (s : FSt) : List LB := ftH ax (encL (cI .u64) W) ((A.length - 1 : Nat) : Int) (hB p) (oB p) C sm s.ph s.lv s.lh s.lo s.wd s.sp s.en s.bu s.er (encL (cI .u64) A)
theorem zero32 : ([.int .u64 0, .int .u64 0, .int .u64 0, .int .u64 0, .int .u64 0, .int .u64 0, .int .u64 0, .int .u64 0, .int .u64 0, .int .u64 0, .int .u64 0, .int .u64 0, .int .u64 0, .int .u64 0, .int .u64 0, .int .u64 0, .int .u64 0, .int .u64 0, .int .u64 0, .int .u64 0, .int .u64 0, .int .u64 0, .int .u64 0, .int .u64 0, .int .u64 0, .int .u64 0, .int .u64 0, .int .u64 0, .int .u64 0, .int .u64 0, .int .u64 0, .int .u64 0] : List LV) = encL (cI .u64) (List.replicate 32 0) := by kernel_rfl
theorem zero1 : ([.int .u64 0] : List LV) = encL (cI .u64) [0] := rfl
structure FG where
  i : Nat
  C : Int
  A : List Int
  W : List Int
  p : Nat
  s : FSt
theorem add_u64 {x y : Int} (h1 : 0 ≤ x + y) (h2 : x + y ≤ 18446744073709551615) : xar .add .u64 x y = x + y := wrap_u64 h1 h2
set_option maxHeartbeats 2000000 in
theorem ft_loop (n : Nat) (sg su sm : Int) (xs : List MvR) (en : xs.length = n) (hn : n ≤ 9223372036854775807) (Φ : Pk) (g0 : {g : FG // FI sm g.i g.A g.W g.p g.s ∧ g.i ≤ 60}) : SCode Go.Proofs.Try.prog 144 (nthC (sp Go.Proofs.Try.prog 5) 10) 1 (mkTm 144 (ftT n sg su g0.1.A.length g0.1.p g0.1.i)) (mkS (ftS (encL mvL xs) sm g0.1.C g0.1.A g0.1.W g0.1.p g0.1.s))
    (vK ftL (toK (σ := {g : FG // FI sm g.i g.A g.W g.p g.s ∧ g.i ≤ 60}) 1 144 ftL [] (fun g => ftT n sg su g.1.A.length g.1.p g.1.i) (fun g => ftS (encL mvL xs) sm g.1.C g.1.A g.1.W g.1.p g.1.s) Φ)) := by
  have nx := mv_noids xs
  refine SCode.loop_vc (cx := cxq) cxq_ok (n := 60) 0 (by kernel_rfl) (σ := {g : FG // FI sm g.i g.A g.W g.p g.s ∧ g.i ≤ 60}) (fun g => ftT n sg su g.1.A.length g.1.p g.1.i) (fun g => ftS (encL mvL xs) sm g.1.C g.1.A g.1.W g.1.p g.1.s) (fun g => 60 - g.1.i) (fun _ => Nat.le_of_ble_eq_true rfl) (fun ⟨⟨i, C, A, W, p, ⟨ph, lv, lh, lo, wd, sp, en', bu, er⟩⟩, hI, h60⟩ => ?_) g0
  dsimp only at hI h60 ⊢
  have na := noIds_Iu64 A
  have nw := noIds_Iu64 W
  have hk := hI.k1
  have hki := hI.ki
  have hw := hI.w32
  have hp3 := hI.p3
  have lw : (encL (cI .u64) W).length = 32 := by rw [encIu64_len, hw]
  have la := encIu64_len A
  have w9 := u_nth (A := W) (j := 9) (by omega)
  have ho := okF_iff.2 ⟨hI.ok.ph, hI.ok.sp, hI.ok.en⟩
  rw [ft_b, wd_lss]
  refine ite_way (fun hi => ?_) (fun hi => ⟨rfl, ⟨⟨i, C, A, W, p, ⟨ph, lv, lh, lo, wd, sp, en', bu, er⟩⟩, hI, h60⟩, [.id 0, .id 1, .id 2, .id 3, .id 4, .id 5, .id 6, .id 7, .id 8, .id 9, .id 10, .id 11], by (exact ⟨by kernel_rfl, by ((repeat refine okTms_cons (by (first | exact lw_any | exact lw_int | exact lw_bool | exact lw_ptr rfl | exact lw_slo rfl | exact lw_nilp | exact lw_nils | exact lw_str | exact lw_slo_nils | exact lw_slo_sle | exact lw_sl rfl | exact lw_unb | exact lw_gptr | exact lw_noid rfl | exact lw_cap rfl (Nat.le_refl _) | exact lw_cap rfl (by omega) | assumption | exact lw_tup (by ((repeat refine lws_cons (by (first | exact lw_any | exact lw_int | exact lw_bool | exact lw_ptr rfl | exact lw_slo rfl | exact lw_nilp | exact lw_nils | exact lw_str | exact lw_slo_nils | exact lw_slo_sle | exact lw_sl rfl | exact lw_unb | exact lw_gptr | exact lw_noid rfl | exact lw_cap rfl (Nat.le_refl _) | exact lw_cap rfl (by omega) | assumption)) ?_); exact lws_nil)))) ?_); exact okTms_nil), by ((repeat refine okBlks_cons (by (first | exact lb_dead | exact lb_same (by (first | assumption | exact noIds_tab (fun _ => rfl) _ _ | exact noIds_encL (fun _ => rfl) _ | rfl)) | exact lb_ro (by (first | assumption | exact noIds_tab (fun _ => rfl) _ _ | exact noIds_encL (fun _ => rfl) _ | rfl)) | exact lb_none | exact lb_cells (by ((repeat refine lws_cons (by (first | exact lw_any | exact lw_int | exact lw_bool | exact lw_ptr rfl | exact lw_slo rfl | exact lw_nilp | exact lw_nils | exact lw_str | exact lw_slo_nils | exact lw_slo_sle | exact lw_sl rfl | exact lw_unb | exact lw_gptr | exact lw_noid rfl | exact lw_cap rfl (Nat.le_refl _) | exact lw_cap rfl (by omega) | assumption | exact lw_tup (by ((repeat refine lws_cons (by (first | exact lw_any | exact lw_int | exact lw_bool | exact lw_ptr rfl | exact lw_slo rfl | exact lw_nilp | exact lw_nils | exact lw_str | exact lw_slo_nils | exact lw_slo_sle | exact lw_sl rfl | exact lw_unb | exact lw_gptr | exact lw_noid rfl | exact lw_cap rfl (Nat.le_refl _) | exact lw_cap rfl (by omega) | assumption)) ?_); exact lws_nil)))) ?_); exact lws_nil)) (by simp) | exact lb_iter | exact lb_cap (Nat.le_refl _) (Nat.le_refl _) rfl rfl | exact lb_capn (by assumption) (by (first | assumption | exact noIds_tab (fun _ => rfl) _ _ | exact noIds_encL (fun _ => rfl) _ | rfl)) | assumption)) ?_); exact okBlks_nil)⟩)⟩)
  refine ways (fun q6 => ?_) (fun q6 => ⟨rfl, ⟨⟨i, C, A, W, p, ⟨ph, lv, lh, lo, wd, sp, en', bu, er⟩⟩, hI, h60⟩, [.id 0, .id 1, .id 2, .id 3, .id 4, .id 5, .id 6, .id 7, .id 8, .id 9, .id 10, .id 11], by (exact ⟨by kernel_rfl, by ((repeat refine okTms_cons (by (first | exact lw_any | exact lw_int | exact lw_bool | exact lw_ptr rfl | exact lw_slo rfl | exact lw_nilp | exact lw_nils | exact lw_str | exact lw_slo_nils | exact lw_slo_sle | exact lw_sl rfl | exact lw_unb | exact lw_gptr | exact lw_noid rfl | exact lw_cap rfl (Nat.le_refl _) | exact lw_cap rfl (by omega) | assumption | exact lw_tup (by ((repeat refine lws_cons (by (first | exact lw_any | exact lw_int | exact lw_bool | exact lw_ptr rfl | exact lw_slo rfl | exact lw_nilp | exact lw_nils | exact lw_str | exact lw_slo_nils | exact lw_slo_sle | exact lw_sl rfl | exact lw_unb | exact lw_gptr | exact lw_noid rfl | exact lw_cap rfl (Nat.le_refl _) | exact lw_cap rfl (by omega) | assumption)) ?_); exact lws_nil)))) ?_); exact okTms_nil), by ((repeat refine okBlks_cons (by (first | exact lb_dead | exact lb_same (by (first | assumption | exact noIds_tab (fun _ => rfl) _ _ | exact noIds_encL (fun _ => rfl) _ | rfl)) | exact lb_ro (by (first | assumption | exact noIds_tab (fun _ => rfl) _ _ | exact noIds_encL (fun _ => rfl) _ | rfl)) | exact lb_none | exact lb_cells (by ((repeat refine lws_cons (by (first | exact lw_any | exact lw_int | exact lw_bool | exact lw_ptr rfl | exact lw_slo rfl | exact lw_nilp | exact lw_nils | exact lw_str | exact lw_slo_nils | exact lw_slo_sle | exact lw_sl rfl | exact lw_unb | exact lw_gptr | exact lw_noid rfl | exact lw_cap rfl (Nat.le_refl _) | exact lw_cap rfl (by omega) | assumption | exact lw_tup (by ((repeat refine lws_cons (by (first | exact lw_any | exact lw_int | exact lw_bool | exact lw_ptr rfl | exact lw_slo rfl | exact lw_nilp | exact lw_nils | exact lw_str | exact lw_slo_nils | exact lw_slo_sle | exact lw_sl rfl | exact lw_unb | exact lw_gptr | exact lw_noid rfl | exact lw_cap rfl (Nat.le_refl _) | exact lw_cap rfl (by omega) | assumption)) ?_); exact lws_nil)))) ?_); exact lws_nil)) (by simp) | exact lb_iter | exact lb_cap (Nat.le_refl _) (Nat.le_refl _) rfl rfl | exact lb_capn (by assumption) (by (first | assumption | exact noIds_tab (fun _ => rfl) _ _ | exact noIds_encL (fun _ => rfl) _ | rfl)) | assumption)) ?_); exact okBlks_nil)⟩)⟩)
  have i60 : i < 60 := by
    have : (i : Int) < 60 := by simpa [xcm_lss] using q6
    omega
  have hix : i < xs.length := by omega
  have e3 : xar .add .i64 (i : Int) 1 = ((i + 1 : Nat) : Int) := by rw [add_i64 (by omega) (by omega)]; omega
  have en1 : xwr .u64 (xar .sub .i64 (A.length : Int) 1) = ((A.length - 1 : Nat) : Int) := by rw [sub_i64 (by omega) (by omega), wr_u64 (by omega) (by omega)]; omega
  have en2 : xar .add .u64 100 ((A.length - 1 : Nat) : Int) = 100 + ((A.length - 1 : Nat) : Int) := add_u64 (by omega) (by omega)
  have en3 : ∀ y : Int, xar .add .u64 ((A.length - 1 : Nat) : Int) 1 = (((A ++ [y]).length - 1 : Nat) : Int) := fun y => by rw [add_u64 (by omega) (by omega), List.length_append]; simp only [List.length_cons, List.length_nil]; omega
  have ap := encIu64_push A (100 + ((A.length - 1 : Nat) : Int))
  have asw := u_set (A := W) (j := 9) (by omega) (100 + ((A.length - 1 : Nat) : Int))
  have nap := noIds_Iu64 (A ++ [100 + ((A.length - 1 : Nat) : Int)])
  have nas := noIds_Iu64 (W.set 9 (100 + ((A.length - 1 : Nat) : Int)))
  have lap : (A ++ [100 + ((A.length - 1 : Nat) : Int)]).length = A.length + 1 := by simp
  simp only [wd_nat, wd_asV, wd_isV, wd_ix, wd_add, wd_mul, wd_ln, Nat.zero_add, Nat.mul_one, wd_isI, wd_asI, wd_isB, wd_asB, wd_nn, cI_tlen, cB_tlen, cII_tlen, decide_true, cond_true, wd_not_t, wd_not_f, wd_and_t, wd_and_f, Nat.add_assoc, Nat.reduceAdd, mv_0 hix, mv_1 hix, mv_n, w9, lw, la, e3, en1, en2, ap, asw, ho]
  (repeat (with_reducible refine must (by (first | with_reducible rfl | exact t_le (by omega) | exact t_eq (by omega) | exact t_nn (by omega) | exact t_lss (by omega) | exact t_leq (by omega) | exact t_gtr (by omega) | exact t_geq (by omega) | exact t_eql (by omega) | exact t_neq (by omega) | exact t_z (by omega) | exact wd_not_f | assumption)) ?_))
  cases hm : xs[i].m with
  | true =>
    simp only [cond_true]
    by_cases q0 : en' = 0
    · have z0 : xcm .eql en' 0 = true := by rw [xcm_eql]; exact decide_eq_true q0
      simp only [z0, wd_not_t, cond_true, cond_false]
      by_cases q1 : ph = 1
      · have z1 : xcm .eql ph 1 = true := by rw [xcm_eql]; exact decide_eq_true q1
        have hN := hI.word q0 q1
        simp only [z1, cond_true]
        (repeat (with_reducible refine must (by (first | with_reducible rfl | exact t_le (by omega) | exact t_eq (by omega) | exact t_nn (by omega) | exact t_lss (by omega) | exact t_leq (by omega) | exact t_gtr (by omega) | exact t_geq (by omega) | exact t_eql (by omega) | exact t_neq (by omega) | exact t_z (by omega) | exact wd_not_f | assumption)) ?_))
        simp only [fPh, fLv, fLh, fLo, fWd, fSp, fEn, fBu, fEr, fS]
        generalize fStep 0 sm ⟨ph, lv, lh, lo, wd, sp, en', bu, er⟩ (W.getD 9 0) 0 false 0 0 = s' at hN ⊢
        exact ⟨rfl, ⟨⟨i + 1, xar .add .i64 C 1, A, W, p, s'⟩, hN, i60⟩, by simp only; omega, [.id 0, .id 1, .id 2, .id 3, .id 4, .id 5, .id 6, .id 7, .id 8, .id 9, .id 10, .id 11], by (exact ⟨by kernel_rfl, by ((repeat refine okTms_cons (by (first | exact lw_any | exact lw_int | exact lw_bool | exact lw_ptr rfl | exact lw_slo rfl | exact lw_nilp | exact lw_nils | exact lw_str | exact lw_slo_nils | exact lw_slo_sle | exact lw_sl rfl | exact lw_unb | exact lw_gptr | exact lw_noid rfl | exact lw_cap rfl (Nat.le_refl _) | exact lw_cap rfl (by omega) | assumption | exact lw_tup (by ((repeat refine lws_cons (by (first | exact lw_any | exact lw_int | exact lw_bool | exact lw_ptr rfl | exact lw_slo rfl | exact lw_nilp | exact lw_nils | exact lw_str | exact lw_slo_nils | exact lw_slo_sle | exact lw_sl rfl | exact lw_unb | exact lw_gptr | exact lw_noid rfl | exact lw_cap rfl (Nat.le_refl _) | exact lw_cap rfl (by omega) | assumption)) ?_); exact lws_nil)))) ?_); exact okTms_nil), by ((repeat refine okBlks_cons (by (first | exact lb_dead | exact lb_same (by (first | assumption | exact noIds_tab (fun _ => rfl) _ _ | exact noIds_encL (fun _ => rfl) _ | rfl)) | exact lb_ro (by (first | assumption | exact noIds_tab (fun _ => rfl) _ _ | exact noIds_encL (fun _ => rfl) _ | rfl)) | exact lb_none | exact lb_cells (by ((repeat refine lws_cons (by (first | exact lw_any | exact lw_int | exact lw_bool | exact lw_ptr rfl | exact lw_slo rfl | exact lw_nilp | exact lw_nils | exact lw_str | exact lw_slo_nils | exact lw_slo_sle | exact lw_sl rfl | exact lw_unb | exact lw_gptr | exact lw_noid rfl | exact lw_cap rfl (Nat.le_refl _) | exact lw_cap rfl (by omega) | assumption | exact lw_tup (by ((repeat refine lws_cons (by (first | exact lw_any | exact lw_int | exact lw_bool | exact lw_ptr rfl | exact lw_slo rfl | exact lw_nilp | exact lw_nils | exact lw_str | exact lw_slo_nils | exact lw_slo_sle | exact lw_sl rfl | exact lw_unb | exact lw_gptr | exact lw_noid rfl | exact lw_cap rfl (Nat.le_refl _) | exact lw_cap rfl (by omega) | assumption)) ?_); exact lws_nil)))) ?_); exact lws_nil)) (by simp) | exact lb_iter | exact lb_cap (Nat.le_refl _) (Nat.le_refl _) rfl rfl | exact lb_capn (by assumption) (by (first | assumption | exact noIds_tab (fun _ => rfl) _ _ | exact noIds_encL (fun _ => rfl) _ | rfl)) | assumption)) ?_); exact okBlks_nil)⟩)⟩
      · have z1 : xcm .eql ph 1 = false := by rw [xcm_eql]; exact decide_eq_false q1
        have hN := hI.lock q0 q1
        simp only [z1, cond_false]
        simp only [fPh, fLv, fLh, fLo, fWd, fSp, fEn, fBu, fEr, fS]
        generalize fStep 0 sm ⟨ph, lv, lh, lo, wd, sp, en', bu, er⟩ 0 ((A.length - 1 : Nat) : Int) (hB p) (oB p) 0 = s' at hN ⊢
        exact ⟨rfl, ⟨⟨i + 1, xar .add .i64 C 1, A, W, p, s'⟩, hN, i60⟩, by simp only; omega, [.id 0, .id 1, .id 2, .id 3, .id 4, .id 5, .id 6, .id 7, .id 8, .id 9, .id 10, .id 11], by (exact ⟨by kernel_rfl, by ((repeat refine okTms_cons (by (first | exact lw_any | exact lw_int | exact lw_bool | exact lw_ptr rfl | exact lw_slo rfl | exact lw_nilp | exact lw_nils | exact lw_str | exact lw_slo_nils | exact lw_slo_sle | exact lw_sl rfl | exact lw_unb | exact lw_gptr | exact lw_noid rfl | exact lw_cap rfl (Nat.le_refl _) | exact lw_cap rfl (by omega) | assumption | exact lw_tup (by ((repeat refine lws_cons (by (first | exact lw_any | exact lw_int | exact lw_bool | exact lw_ptr rfl | exact lw_slo rfl | exact lw_nilp | exact lw_nils | exact lw_str | exact lw_slo_nils | exact lw_slo_sle | exact lw_sl rfl | exact lw_unb | exact lw_gptr | exact lw_noid rfl | exact lw_cap rfl (Nat.le_refl _) | exact lw_cap rfl (by omega) | assumption)) ?_); exact lws_nil)))) ?_); exact okTms_nil), by ((repeat refine okBlks_cons (by (first | exact lb_dead | exact lb_same (by (first | assumption | exact noIds_tab (fun _ => rfl) _ _ | exact noIds_encL (fun _ => rfl) _ | rfl)) | exact lb_ro (by (first | assumption | exact noIds_tab (fun _ => rfl) _ _ | exact noIds_encL (fun _ => rfl) _ | rfl)) | exact lb_none | exact lb_cells (by ((repeat refine lws_cons (by (first | exact lw_any | exact lw_int | exact lw_bool | exact lw_ptr rfl | exact lw_slo rfl | exact lw_nilp | exact lw_nils | exact lw_str | exact lw_slo_nils | exact lw_slo_sle | exact lw_sl rfl | exact lw_unb | exact lw_gptr | exact lw_noid rfl | exact lw_cap rfl (Nat.le_refl _) | exact lw_cap rfl (by omega) | assumption | exact lw_tup (by ((repeat refine lws_cons (by (first | exact lw_any | exact lw_int | exact lw_bool | exact lw_ptr rfl | exact lw_slo rfl | exact lw_nilp | exact lw_nils | exact lw_str | exact lw_slo_nils | exact lw_slo_sle | exact lw_sl rfl | exact lw_unb | exact lw_gptr | exact lw_noid rfl | exact lw_cap rfl (Nat.le_refl _) | exact lw_cap rfl (by omega) | assumption)) ?_); exact lws_nil)))) ?_); exact lws_nil)) (by simp) | exact lb_iter | exact lb_cap (Nat.le_refl _) (Nat.le_refl _) rfl rfl | exact lb_capn (by assumption) (by (first | assumption | exact noIds_tab (fun _ => rfl) _ _ | exact noIds_encL (fun _ => rfl) _ | rfl)) | assumption)) ?_); exact okBlks_nil)⟩)⟩
    · have z0 : xcm .eql en' 0 = false := by rw [xcm_eql]; exact decide_eq_false q0
      simp only [z0, wd_not_f, cond_true]
      exact ⟨rfl, ⟨⟨i + 1, C, A, W, p, ⟨ph, lv, lh, lo, wd, sp, en', bu, er⟩⟩, hI.more, i60⟩, by simp only; omega, [.id 0, .id 1, .id 2, .id 3, .id 4, .id 5, .id 6, .id 7, .id 8, .id 9, .id 10, .id 11], by (exact ⟨by kernel_rfl, by ((repeat refine okTms_cons (by (first | exact lw_any | exact lw_int | exact lw_bool | exact lw_ptr rfl | exact lw_slo rfl | exact lw_nilp | exact lw_nils | exact lw_str | exact lw_slo_nils | exact lw_slo_sle | exact lw_sl rfl | exact lw_unb | exact lw_gptr | exact lw_noid rfl | exact lw_cap rfl (Nat.le_refl _) | exact lw_cap rfl (by omega) | assumption | exact lw_tup (by ((repeat refine lws_cons (by (first | exact lw_any | exact lw_int | exact lw_bool | exact lw_ptr rfl | exact lw_slo rfl | exact lw_nilp | exact lw_nils | exact lw_str | exact lw_slo_nils | exact lw_slo_sle | exact lw_sl rfl | exact lw_unb | exact lw_gptr | exact lw_noid rfl | exact lw_cap rfl (Nat.le_refl _) | exact lw_cap rfl (by omega) | assumption)) ?_); exact lws_nil)))) ?_); exact okTms_nil), by ((repeat refine okBlks_cons (by (first | exact lb_dead | exact lb_same (by (first | assumption | exact noIds_tab (fun _ => rfl) _ _ | exact noIds_encL (fun _ => rfl) _ | rfl)) | exact lb_ro (by (first | assumption | exact noIds_tab (fun _ => rfl) _ _ | exact noIds_encL (fun _ => rfl) _ | rfl)) | exact lb_none | exact lb_cells (by ((repeat refine lws_cons (by (first | exact lw_any | exact lw_int | exact lw_bool | exact lw_ptr rfl | exact lw_slo rfl | exact lw_nilp | exact lw_nils | exact lw_str | exact lw_slo_nils | exact lw_slo_sle | exact lw_sl rfl | exact lw_unb | exact lw_gptr | exact lw_noid rfl | exact lw_cap rfl (Nat.le_refl _) | exact lw_cap rfl (by omega) | assumption | exact lw_tup (by ((repeat refine lws_cons (by (first | exact lw_any | exact lw_int | exact lw_bool | exact lw_ptr rfl | exact lw_slo rfl | exact lw_nilp | exact lw_nils | exact lw_str | exact lw_slo_nils | exact lw_slo_sle | exact lw_sl rfl | exact lw_unb | exact lw_gptr | exact lw_noid rfl | exact lw_cap rfl (Nat.le_refl _) | exact lw_cap rfl (by omega) | assumption)) ?_); exact lws_nil)))) ?_); exact lws_nil)) (by simp) | exact lb_iter | exact lb_cap (Nat.le_refl _) (Nat.le_refl _) rfl rfl | exact lb_capn (by assumption) (by (first | assumption | exact noIds_tab (fun _ => rfl) _ _ | exact noIds_encL (fun _ => rfl) _ | rfl)) | assumption)) ?_); exact okBlks_nil)⟩)⟩
  | false =>
    simp only [cond_false]
    have big : xcm .geq ((A.length - 1 : Nat) : Int) 4611686018427387904 = false := f_geq (by omega)
    rcases (show p = 0 ∨ p = 1 ∨ p = 2 by omega) with rfl | rfl | rfl
    · have z0 : xcm .eql ((0 : Nat) : Int) 0 = true := rfl
      have e4 : xar .rem .i64 (xar .add .i64 ((0 : Nat) : Int) 1) 3 = ((1 : Nat) : Int) := rfl
      simp only [z0, big, e4, cond_true, cond_false]
      exact ⟨rfl, ⟨⟨i + 1, xar .add .i64 C 1, A, W, 1, ⟨ph, lv, lh, lo, wd, sp, en', bu, er⟩⟩, hI.take, i60⟩, by simp only; omega, [.id 0, .id 1, .id 2, .id 3, .id 4, .id 5, .id 6, .id 7, .id 8, .id 9, .id 10, .id 11], by (exact ⟨by kernel_rfl, by ((repeat refine okTms_cons (by (first | exact lw_any | exact lw_int | exact lw_bool | exact lw_ptr rfl | exact lw_slo rfl | exact lw_nilp | exact lw_nils | exact lw_str | exact lw_slo_nils | exact lw_slo_sle | exact lw_sl rfl | exact lw_unb | exact lw_gptr | exact lw_noid rfl | exact lw_cap rfl (Nat.le_refl _) | exact lw_cap rfl (by omega) | assumption | exact lw_tup (by ((repeat refine lws_cons (by (first | exact lw_any | exact lw_int | exact lw_bool | exact lw_ptr rfl | exact lw_slo rfl | exact lw_nilp | exact lw_nils | exact lw_str | exact lw_slo_nils | exact lw_slo_sle | exact lw_sl rfl | exact lw_unb | exact lw_gptr | exact lw_noid rfl | exact lw_cap rfl (Nat.le_refl _) | exact lw_cap rfl (by omega) | assumption)) ?_); exact lws_nil)))) ?_); exact okTms_nil), by ((repeat refine okBlks_cons (by (first | exact lb_dead | exact lb_same (by (first | assumption | exact noIds_tab (fun _ => rfl) _ _ | exact noIds_encL (fun _ => rfl) _ | rfl)) | exact lb_ro (by (first | assumption | exact noIds_tab (fun _ => rfl) _ _ | exact noIds_encL (fun _ => rfl) _ | rfl)) | exact lb_none | exact lb_cells (by ((repeat refine lws_cons (by (first | exact lw_any | exact lw_int | exact lw_bool | exact lw_ptr rfl | exact lw_slo rfl | exact lw_nilp | exact lw_nils | exact lw_str | exact lw_slo_nils | exact lw_slo_sle | exact lw_sl rfl | exact lw_unb | exact lw_gptr | exact lw_noid rfl | exact lw_cap rfl (Nat.le_refl _) | exact lw_cap rfl (by omega) | assumption | exact lw_tup (by ((repeat refine lws_cons (by (first | exact lw_any | exact lw_int | exact lw_bool | exact lw_ptr rfl | exact lw_slo rfl | exact lw_nilp | exact lw_nils | exact lw_str | exact lw_slo_nils | exact lw_slo_sle | exact lw_sl rfl | exact lw_unb | exact lw_gptr | exact lw_noid rfl | exact lw_cap rfl (Nat.le_refl _) | exact lw_cap rfl (by omega) | assumption)) ?_); exact lws_nil)))) ?_); exact lws_nil)) (by simp) | exact lb_iter | exact lb_cap (Nat.le_refl _) (Nat.le_refl _) rfl rfl | exact lb_capn (by assumption) (by (first | assumption | exact noIds_tab (fun _ => rfl) _ _ | exact noIds_encL (fun _ => rfl) _ | rfl)) | assumption)) ?_); exact okBlks_nil)⟩)⟩
    · have z0 : xcm .eql ((1 : Nat) : Int) 0 = false := rfl
      have z1 : xcm .eql ((1 : Nat) : Int) 1 = true := rfl
      have e4 : xar .rem .i64 (xar .add .i64 ((1 : Nat) : Int) 1) 3 = ((2 : Nat) : Int) := rfl
      simp only [z0, z1, big, e4, cond_true, cond_false]
      (repeat (with_reducible refine must (by (first | with_reducible rfl | exact t_le (by omega) | exact t_eq (by omega) | exact t_nn (by omega) | exact t_lss (by omega) | exact t_leq (by omega) | exact t_gtr (by omega) | exact t_geq (by omega) | exact t_eql (by omega) | exact t_neq (by omega) | exact t_z (by omega) | exact wd_not_f | assumption)) ?_))
      cases ha : xs[i].a with
      | true =>
        simp only [cond_true]
        exact ⟨rfl, ⟨⟨i + 1, xar .add .i64 C 1, A, W, 0, ⟨ph, lv, lh, lo, wd, sp, en', bu, er⟩⟩, hI.again, i60⟩, by simp only; omega, [.id 0, .id 1, .id 2, .id 3, .id 4, .id 5, .id 6, .id 7, .id 8, .id 9, .id 10, .id 11], by (exact ⟨by kernel_rfl, by ((repeat refine okTms_cons (by (first | exact lw_any | exact lw_int | exact lw_bool | exact lw_ptr rfl | exact lw_slo rfl | exact lw_nilp | exact lw_nils | exact lw_str | exact lw_slo_nils | exact lw_slo_sle | exact lw_sl rfl | exact lw_unb | exact lw_gptr | exact lw_noid rfl | exact lw_cap rfl (Nat.le_refl _) | exact lw_cap rfl (by omega) | assumption | exact lw_tup (by ((repeat refine lws_cons (by (first | exact lw_any | exact lw_int | exact lw_bool | exact lw_ptr rfl | exact lw_slo rfl | exact lw_nilp | exact lw_nils | exact lw_str | exact lw_slo_nils | exact lw_slo_sle | exact lw_sl rfl | exact lw_unb | exact lw_gptr | exact lw_noid rfl | exact lw_cap rfl (Nat.le_refl _) | exact lw_cap rfl (by omega) | assumption)) ?_); exact lws_nil)))) ?_); exact okTms_nil), by ((repeat refine okBlks_cons (by (first | exact lb_dead | exact lb_same (by (first | assumption | exact noIds_tab (fun _ => rfl) _ _ | exact noIds_encL (fun _ => rfl) _ | rfl)) | exact lb_ro (by (first | assumption | exact noIds_tab (fun _ => rfl) _ _ | exact noIds_encL (fun _ => rfl) _ | rfl)) | exact lb_none | exact lb_cells (by ((repeat refine lws_cons (by (first | exact lw_any | exact lw_int | exact lw_bool | exact lw_ptr rfl | exact lw_slo rfl | exact lw_nilp | exact lw_nils | exact lw_str | exact lw_slo_nils | exact lw_slo_sle | exact lw_sl rfl | exact lw_unb | exact lw_gptr | exact lw_noid rfl | exact lw_cap rfl (Nat.le_refl _) | exact lw_cap rfl (by omega) | assumption | exact lw_tup (by ((repeat refine lws_cons (by (first | exact lw_any | exact lw_int | exact lw_bool | exact lw_ptr rfl | exact lw_slo rfl | exact lw_nilp | exact lw_nils | exact lw_str | exact lw_slo_nils | exact lw_slo_sle | exact lw_sl rfl | exact lw_unb | exact lw_gptr | exact lw_noid rfl | exact lw_cap rfl (Nat.le_refl _) | exact lw_cap rfl (by omega) | assumption)) ?_); exact lws_nil)))) ?_); exact lws_nil)) (by simp) | exact lb_iter | exact lb_cap (Nat.le_refl _) (Nat.le_refl _) rfl rfl | exact lb_capn (by assumption) (by (first | assumption | exact noIds_tab (fun _ => rfl) _ _ | exact noIds_encL (fun _ => rfl) _ | rfl)) | assumption)) ?_); exact okBlks_nil)⟩)⟩
      | false =>
        simp only [cond_false]
        (repeat (with_reducible refine must (by (first | with_reducible rfl | exact t_le (by omega) | exact t_eq (by omega) | exact t_nn (by omega) | exact t_lss (by omega) | exact t_leq (by omega) | exact t_gtr (by omega) | exact t_geq (by omega) | exact t_eql (by omega) | exact t_neq (by omega) | exact t_z (by omega) | exact wd_not_f | assumption)) ?_))
        exact ⟨rfl, ⟨⟨i + 1, xar .add .i64 C 1, A, W.set 9 (100 + ((A.length - 1 : Nat) : Int)), 2, ⟨ph, lv, lh, lo, wd, sp, en', bu, er⟩⟩, hI.write, i60⟩, by simp only; omega, [.id 0, .id 1, .id 2, .id 3, .id 4, .id 5, .id 6, .id 7, .id 8, .id 9, .id 10, .id 11], by (exact ⟨by kernel_rfl, by ((repeat refine okTms_cons (by (first | exact lw_any | exact lw_int | exact lw_bool | exact lw_ptr rfl | exact lw_slo rfl | exact lw_nilp | exact lw_nils | exact lw_str | exact lw_slo_nils | exact lw_slo_sle | exact lw_sl rfl | exact lw_unb | exact lw_gptr | exact lw_noid rfl | exact lw_cap rfl (Nat.le_refl _) | exact lw_cap rfl (by omega) | assumption | exact lw_tup (by ((repeat refine lws_cons (by (first | exact lw_any | exact lw_int | exact lw_bool | exact lw_ptr rfl | exact lw_slo rfl | exact lw_nilp | exact lw_nils | exact lw_str | exact lw_slo_nils | exact lw_slo_sle | exact lw_sl rfl | exact lw_unb | exact lw_gptr | exact lw_noid rfl | exact lw_cap rfl (Nat.le_refl _) | exact lw_cap rfl (by omega) | assumption)) ?_); exact lws_nil)))) ?_); exact okTms_nil), by ((repeat refine okBlks_cons (by (first | exact lb_dead | exact lb_same (by (first | assumption | exact noIds_tab (fun _ => rfl) _ _ | exact noIds_encL (fun _ => rfl) _ | rfl)) | exact lb_ro (by (first | assumption | exact noIds_tab (fun _ => rfl) _ _ | exact noIds_encL (fun _ => rfl) _ | rfl)) | exact lb_none | exact lb_cells (by ((repeat refine lws_cons (by (first | exact lw_any | exact lw_int | exact lw_bool | exact lw_ptr rfl | exact lw_slo rfl | exact lw_nilp | exact lw_nils | exact lw_str | exact lw_slo_nils | exact lw_slo_sle | exact lw_sl rfl | exact lw_unb | exact lw_gptr | exact lw_noid rfl | exact lw_cap rfl (Nat.le_refl _) | exact lw_cap rfl (by omega) | assumption | exact lw_tup (by ((repeat refine lws_cons (by (first | exact lw_any | exact lw_int | exact lw_bool | exact lw_ptr rfl | exact lw_slo rfl | exact lw_nilp | exact lw_nils | exact lw_str | exact lw_slo_nils | exact lw_slo_sle | exact lw_sl rfl | exact lw_unb | exact lw_gptr | exact lw_noid rfl | exact lw_cap rfl (Nat.le_refl _) | exact lw_cap rfl (by omega) | assumption)) ?_); exact lws_nil)))) ?_); exact lws_nil)) (by simp) | exact lb_iter | exact lb_cap (Nat.le_refl _) (Nat.le_refl _) rfl rfl | exact lb_capn (by assumption) (by (first | assumption | exact noIds_tab (fun _ => rfl) _ _ | exact noIds_encL (fun _ => rfl) _ | rfl)) | assumption)) ?_); exact okBlks_nil)⟩)⟩
    · have z0 : xcm .eql ((2 : Nat) : Int) 0 = false := rfl
      have z1 : xcm .eql ((2 : Nat) : Int) 1 = false := rfl
      have e4 : xar .rem .i64 (xar .add .i64 ((2 : Nat) : Int) 1) 3 = ((0 : Nat) : Int) := rfl
      rw [en3 (100 + ((A.length - 1 : Nat) : Int))]
      have big' : xcm .geq (((A ++ [100 + ((A.length - 1 : Nat) : Int)]).length - 1 : Nat) : Int) 4611686018427387904 = false := f_geq (by omega)
      simp only [z0, z1, big', e4, cond_true, cond_false]
      (repeat (with_reducible refine must (by (first | with_reducible rfl | exact t_le (by omega) | exact t_eq (by omega) | exact t_nn (by omega) | exact t_lss (by omega) | exact t_leq (by omega) | exact t_gtr (by omega) | exact t_geq (by omega) | exact t_eql (by omega) | exact t_neq (by omega) | exact t_z (by omega) | exact wd_not_f | assumption)) ?_))
      refine ⟨rfl, ⟨⟨i + 1, xar .add .i64 C 1, A ++ [100 + ((A.length - 1 : Nat) : Int)], W, 0, ⟨ph, lv, lh, lo, wd, sp, en', bu, er⟩⟩, hI.drop, i60⟩, by simp only; omega, [.id 0, .id 1, .id 2, .id 3, .id 4, .id 5, .id 6, .id 7, .id 8, .id 9, .id 10, .id 22], ?_⟩
      dsimp only
      rw [← lap]
      (exact ⟨by kernel_rfl, by ((repeat refine okTms_cons (by (first | exact lw_any | exact lw_int | exact lw_bool | exact lw_ptr rfl | exact lw_slo rfl | exact lw_nilp | exact lw_nils | exact lw_str | exact lw_slo_nils | exact lw_slo_sle | exact lw_sl rfl | exact lw_unb | exact lw_gptr | exact lw_noid rfl | exact lw_cap rfl (Nat.le_refl _) | exact lw_cap rfl (by omega) | assumption | exact lw_tup (by ((repeat refine lws_cons (by (first | exact lw_any | exact lw_int | exact lw_bool | exact lw_ptr rfl | exact lw_slo rfl | exact lw_nilp | exact lw_nils | exact lw_str | exact lw_slo_nils | exact lw_slo_sle | exact lw_sl rfl | exact lw_unb | exact lw_gptr | exact lw_noid rfl | exact lw_cap rfl (Nat.le_refl _) | exact lw_cap rfl (by omega) | assumption)) ?_); exact lws_nil)))) ?_); exact okTms_nil), by ((repeat refine okBlks_cons (by (first | exact lb_dead | exact lb_same (by (first | assumption | exact noIds_tab (fun _ => rfl) _ _ | exact noIds_encL (fun _ => rfl) _ | rfl)) | exact lb_ro (by (first | assumption | exact noIds_tab (fun _ => rfl) _ _ | exact noIds_encL (fun _ => rfl) _ | rfl)) | exact lb_none | exact lb_cells (by ((repeat refine lws_cons (by (first | exact lw_any | exact lw_int | exact lw_bool | exact lw_ptr rfl | exact lw_slo rfl | exact lw_nilp | exact lw_nils | exact lw_str | exact lw_slo_nils | exact lw_slo_sle | exact lw_sl rfl | exact lw_unb | exact lw_gptr | exact lw_noid rfl | exact lw_cap rfl (Nat.le_refl _) | exact lw_cap rfl (by omega) | assumption | exact lw_tup (by ((repeat refine lws_cons (by (first | exact lw_any | exact lw_int | exact lw_bool | exact lw_ptr rfl | exact lw_slo rfl | exact lw_nilp | exact lw_nils | exact lw_str | exact lw_slo_nils | exact lw_slo_sle | exact lw_sl rfl | exact lw_unb | exact lw_gptr | exact lw_noid rfl | exact lw_cap rfl (Nat.le_refl _) | exact lw_cap rfl (by omega) | assumption)) ?_); exact lws_nil)))) ?_); exact lws_nil)) (by simp) | exact lb_iter | exact lb_cap (Nat.le_refl _) (Nat.le_refl _) rfl rfl | exact lb_capn (by assumption) (by (first | assumption | exact noIds_tab (fun _ => rfl) _ _ | exact noIds_encL (fun _ => rfl) _ | rfl)) | assumption)) ?_); exact okBlks_nil)⟩)
end
end Go.Lev
