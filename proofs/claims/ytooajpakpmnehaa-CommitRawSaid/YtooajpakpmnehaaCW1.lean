/- chapter 25: a commit as it goes on: trees -/
import Derived.Test.YtooajpakpmnehaaLc
import Derived.Test.YtooajpakpmnehaaChecked
import Derived.KernelRfl

namespace Go.Lev
open Go.RowKit
set_option linter.unusedVariables false
set_option linter.unusedSimpArgs false
set_option maxRecDepth 100000
noncomputable section
/-! rows of pairs (int, uint64) -/
abbrev cell : Int × Int → List LV := cII .i64 .u64
theorem cell_len (x : Int × Int) : (cell x).length = 2 := rfl
theorem cell_0 {xs : List (Int × Int)} {i : Nat} (h : i < xs.length) : nthD (encL cell xs) (i * 2) = .int .i64 xs[i].1 := encL_nth cell_len (j := 0) h (by omega)
theorem cell_1 {xs : List (Int × Int)} {i : Nat} (h : i < xs.length) : nthD (encL cell xs) (i * 2 + 1) = .int .u64 xs[i].2 := encL_nth cell_len (j := 1) h (by omega)
theorem cell_n (xs : List (Int × Int)) : (encL cell xs).length = xs.length * 2 := encL_length cell_len xs
theorem cell_push (xs : List (Int × Int)) (a z : Int) : xcat (xcut (encL cell xs) 0 (xs.length * 2)) [.int .i64 a, .int .u64 z] = encL cell (xs ++ [(a, z)]) := by
  rw [xcut_all (by rw [cell_n]; omega), encL_append]; rfl
theorem noids_c (xs : List (Int × Int)) : noIds (encL cell xs) = true := noIds_encL (fun _ => rfl) xs
theorem xnoid_c (xs : List (Int × Int)) : xnoid (encL cell xs) = true := xnoid_encL (fun _ => rfl) xs
def decC : List LV → List (Int × Int)
  | .int _ a :: .int _ b :: r => (a, b) :: decC r
  | _ => []
theorem decC_enc : ∀ xs, decC (encL cell xs) = xs
  | [] => rfl
  | x :: r => by simp [encL, cell, cII, decC, decC_enc r]
def okC (cs : List LV) (n : Nat) : Bool := @decide (cs = encL cell (decC cs) ∧ (decC cs).length = n ∧ n ≤ 9223372036854775807) (Classical.propDecidable _)

theorem okC_iff {cs : List LV} {n : Nat} : okC cs n = true ↔ ∃ xs, cs = encL cell xs ∧ xs.length = n ∧ n ≤ 9223372036854775807 := by
  simp only [okC, decide_eq_true_eq]
  exact ⟨fun h => ⟨_, h⟩, fun ⟨xs, h1, h2⟩ => by subst h1; rw [decC_enc]; exact ⟨rfl, h2⟩⟩
theorem okC_enc {xs : List (Int × Int)} (h : xs.length ≤ 9223372036854775807) : okC (encL cell xs) xs.length = true := okC_iff.2 ⟨_, rfl, rfl, h⟩

/-! rows of locks -/
abbrev Lk := Int × Bool × Int
abbrev cL : Lk → List LV := fun x => [.int .u64 x.1, .bool x.2.1, .int .i64 x.2.2]
theorem cL_len (x : Lk) : (cL x).length = 3 := rfl
theorem lk_0 {xs : List Lk} {i : Nat} (h : i < xs.length) : nthD (encL cL xs) (i * 3) = .int .u64 xs[i].1 := encL_nth cL_len (j := 0) h (by omega)
theorem lk_1 {xs : List Lk} {i : Nat} (h : i < xs.length) : nthD (encL cL xs) (i * 3 + 1) = .bool xs[i].2.1 := encL_nth cL_len (j := 1) h (by omega)
theorem lk_2 {xs : List Lk} {i : Nat} (h : i < xs.length) : nthD (encL cL xs) (i * 3 + 2) = .int .i64 xs[i].2.2 := encL_nth cL_len (j := 2) h (by omega)
theorem lk_n (xs : List Lk) : (encL cL xs).length = xs.length * 3 := encL_length cL_len xs
theorem noids_l (xs : List Lk) : noIds (encL cL xs) = true := noIds_encL (fun _ => rfl) xs
def decL : List LV → List Lk
  | .int _ a :: .bool b :: .int _ c :: r => (a, b, c) :: decL r
  | _ => []
theorem decL_enc : ∀ xs, decL (encL cL xs) = xs
  | [] => rfl
  | x :: r => by simp [encL, cL, decL, decL_enc r]
/-! rows of integers -/
def decIi64 : List LV → List Int
  | .int _ a :: r => a :: decIi64 r
  | _ => []
theorem decIi64_enc : ∀ xs, decIi64 (encL (cI .i64) xs) = xs
  | [] => rfl
  | x :: r => by simp [encL, cI, decIi64, decIi64_enc r]
theorem encIi64_len (xs : List Int) : (encL (cI .i64) xs).length = xs.length := by rw [encL_length (cI_len .i64)]; omega
theorem encIi64_push (xs : List Int) (y : Int) : xcat (xcut (encL (cI .i64) xs) 0 xs.length) [.int .i64 y] = encL (cI .i64) (xs ++ [y]) := by
  rw [xcut_all (by rw [encIi64_len]; omega), encL_append]; rfl
theorem encIi64_nth {xs : List Int} {i : Nat} (h : i < xs.length) : nthD (encL (cI .i64) xs) i = .int .i64 xs[i] := by
  have := encL_nth (cI_len .i64) (j := 0) h (by omega)
  simp only [Nat.mul_one, Nat.add_zero] at this
  exact this
theorem noIds_Ii64 (xs : List Int) : noIds (encL (cI .i64) xs) = true := noIds_encL (fun _ => rfl) xs
/-! where an integer stands in a row -/
def idxOf : List Int → Int → Option Nat
  | [], _ => none
  | x :: r, v => if x = v then some 0 else (idxOf r v).map (· + 1)
theorem idxOf_none {xs : List Int} {v : Int} (h : ∀ j (hj : j < xs.length), xs[j] ≠ v) : idxOf xs v = none := by
  induction xs with
  | nil => rfl
  | cons x r ih =>
    rw [idxOf, if_neg (show ¬ x = v from h 0 (by simp)), ih fun j hj => h (j + 1) (by simp; omega)]; rfl
theorem idxOf_some {xs : List Int} {v : Int} {i : Nat} (hi : i < xs.length) (h : ∀ j (hj : j < xs.length), j < i → xs[j] ≠ v) (e : xs[i] = v) : idxOf xs v = some i := by
  induction xs generalizing i with
  | nil => simp at hi
  | cons x r ih =>
    cases i with
    | zero => rw [idxOf, if_pos (by simpa using e)]
    | succ i =>
      rw [idxOf, if_neg (show ¬ x = v from h 0 (by simp) (by omega)), ih (i := i) (by simpa using hi) (fun j hj hji => h (j + 1) (by simp; omega) (by omega)) (by simpa using e)]; rfl
theorem idxOf_lt {xs : List Int} {v : Int} {i : Nat} (h : idxOf xs v = some i) : ∃ hi : i < xs.length, xs[i] = v := by
  induction xs generalizing i with
  | nil => cases h
  | cons x r ih =>
    rw [idxOf] at h
    split at h
    · rename_i e; cases h; exact ⟨by simp, by simpa using e⟩
    · cases hr : idxOf r v with
      | none => rw [hr] at h; cases h
      | some k =>
        rw [hr] at h; cases h
        obtain ⟨h1, h2⟩ := ih hr
        exact ⟨by simpa using h1, by simpa using h2⟩
def idxI (xs : List Int) (v : Int) : Int := match idxOf xs v with
  | some i => (i : Int)
  | none => -1
def idxW (cs : List LV) (n : Nat) (v : Int) : Int := idxI ((decIi64 cs).take n) v

def okX (cs : List LV) (n : Nat) : Bool := @decide (∃ xs : List Int, cs = encL (cI .i64) xs ∧ n ≤ xs.length ∧ xs.length ≤ 1000000) (Classical.propDecidable _)

theorem okX_iff {cs : List LV} {n : Nat} : okX cs n = true ↔ ∃ xs : List Int, cs = encL (cI .i64) xs ∧ n ≤ xs.length ∧ xs.length ≤ 1000000 := by simp only [okX, decide_eq_true_eq]
abbrev idL : List Nat := [0, 1, 4, 5, 6, 7, 8]
abbrev idT (n i : Nat) (v : Int) : List (Nat × LV) := [(0, .slo 0 0 n 0), (1, .int .i64 v), (6, .slo 0 0 n 0), (7, .int .i64 n), (8, .int .i64 i)]
theorem id_a (n : Nat) (v : Int) (cs : List LV) (K : Pk) : (xsp Go.Proofs.Try.prog (fun _ => none) 40 19 (seg (sp Go.Proofs.Try.prog 87) 0 2) (tm0 [.slo 0 0 n 0, .int .i64 v]) (mkS [.cells cs (some 1)]) (vK idL K)) = (
 K .normal [.slo 0 0 n 0, .int .i64 v, .int .i64 0, .tup [], .slo 0 0 n 0, .int .i64 ↑n, .int .i64 0] [some (.cells cs (some 1))] []) := by kernel_rfl
theorem id_b (n i : Nat) (v : Int) (cs : List LV) (K : Pk) : (xcode Go.Proofs.Try.prog (fun _ => none) 40 19 (loopOf (nthC (sp Go.Proofs.Try.prog 87) 2)) (mkTm 19 (idT n i v)) (mkS [.cells cs (some 1)]) (vK idL K)) = (
 bif xcm .lss ↑i ↑n then (
 bif xle (xadd (xnat ↑i) 1) n then bif xle (xadd (xix 0 (xnat ↑i) 1) 1) (xln cs) then bif isI .i64 (nthD cs (xix 0 (xnat ↑i) 1)) then bif xcm .eql v (asI (nthD cs (xix 0 (xnat ↑i) 1))) then (
 K .ret [.slo 0 0 n 0, .int .i64 v, .int .i64 ↑i, .int .i64 ↑i, .slo 0 0 n 0, .int .i64 ↑n, .int .i64 ↑i] [some (.cells cs (some 1))] [])
 else (
 K .normal [.slo 0 0 n 0, .int .i64 v, .any, .int .i64 ↑i, .slo 0 0 n 0, .int .i64 ↑n, .int .i64 (xar .add .i64 (↑i) 1)] [some (.cells cs (some 1))] []) else False else False else False)
 else (
 K (.exit 0) [.slo 0 0 n 0, .int .i64 v, .any, .any, .slo 0 0 n 0, .int .i64 ↑n, .int .i64 ↑i] [some (.cells cs (some 1))] [])) := by kernel_rfl
theorem id_z (cs : List LV) (K : Pk) : (xsp Go.Proofs.Try.prog (fun _ => none) 40 19 ((sp Go.Proofs.Try.prog 87).drop 3) (mkTm 19 []) (mkS [.cells cs (some 1)]) (vK idL K)) = (
 K .ret [.any, .any, .int .i64 (-1), .any, .any, .any, .any] [some (.cells cs (some 1))] []) := by kernel_rfl
theorem id_ok (xs : List Int) (n : Nat) (hn : n ≤ xs.length) (hx : xs.length ≤ 1000000) (v : Int) : SFun Go.Proofs.Try.prog 87 [.slo 0 0 n 0, .int .i64 v] (mkS [.cells (encL (cI .i64) xs) (some 1)]) fun l s => l = .int .i64 (idxI (xs.take n) v) ∧ s = mkS [.cells (encL (cI .i64) xs) (some 1)] := by
  refine SFun.mono (SFun.pieces (Q := fun l b => l = .int .i64 (idxI (xs.take n) v) ∧ b = [.cells (encL (cI .i64) xs) (some 1)]) 19 1 idL [4] (by kernel_rfl) rfl rfl rfl ?_) fun l s' ⟨b0, ⟨h1, h2⟩, h3⟩ => ⟨h1, by rw [h3, h2]⟩
  have nx := noIds_Ii64 xs
  have tl : (xs.take n).length = n := by simp; omega
  refine SSp.to noCx_ok (n := 40) (g := []) 2 2 rfl (σ := Unit) (fun _ => idT n 0 v) (fun _ => [.cells (encL (cI .i64) xs) (some 1)]) (mkS_le (Nat.le_refl _)) (by kernel_rfl) ?_ fun _ => ?_
  · rw [id_a]; exact ⟨rfl, (), [.id 0], by (refine ⟨by kernel_rfl, ?_, ?_⟩ <;> repeat first | exact okTms_nil | refine okTms_cons ?_ ?_ | exact okBlks_nil | refine okBlks_cons ?_ ?_ | exact lws_nil | refine lws_cons ?_ ?_ | exact lb_dead | exact zy1 | exact zy2 | exact lb_none | refine zy3 ?_ | exact zy4 | exact lw_any | exact lw_int | exact lw_bool | exact zy5 | exact zy6 | exact lw_nils | exact lw_slo_nils | exact zy7 | exact zy8 | exact zy9 | refine lw_tup ?_ | refine lw_agg ?_ | assumption)⟩
  refine SSp.code_to (g := []) 3 rfl (σ := {_k : Unit // idxOf (xs.take n) v = none}) (fun _ => []) (fun _ => [.cells (encL (cI .i64) xs) (some 1)]) (by kernel_rfl) ?_ fun ⟨_, hs⟩ => ?_
  · refine SCode.loop_vc noCx_ok (n := 40) 0 (by kernel_rfl) (σ := {i : Nat // i ≤ n ∧ ∀ j (hj : j < (xs.take n).length), j < i → (xs.take n)[j] ≠ v}) (fun i => idT n i.1 v) (fun _ => [.cells (encL (cI .i64) xs) (some 1)]) (fun i => n - i.1) (fun _ => Nat.le_of_ble_eq_true rfl) (fun ⟨i, hi, hall⟩ => ?_) ⟨0, Nat.zero_le _, fun j hj h => absurd h (by omega)⟩
    dsimp only
    rw [id_b, wd_lss]
    refine ite_way (fun hk => ?_) (fun hk => ?_)
    · have hix : i < xs.length := by omega
      have e3 : xar .add .i64 (i : Int) 1 = ((i + 1 : Nat) : Int) := inc_i64 hk (by omega)
      have et : (xs.take n)[i]'(by omega) = xs[i] := by simp
      simp only [wd_nat, wd_asV, wd_isV, wd_ix, wd_add, wd_mul, wd_ln, Nat.zero_add, Nat.mul_one, wd_isI, wd_asI, wd_isB, wd_asB, wd_nn, cI_tlen, cB_tlen, cII_tlen, decide_true, cond_true, wd_not_t, wd_not_f, wd_and_t, wd_and_f, encIi64_nth hix, encIi64_len, e3]
      (with_reducible repeat first | refine zq1 ?_ | refine zq2 ?_ | refine zq3 ?_ | refine zq4 ?_ | refine zq5 ?_ | refine zq6 ?_ | refine zq7 ?_ | refine zq8 ?_ | refine zq9 ?_ | refine zqa ?_ | refine zqb ?_ | refine zqc ?_ | refine zqd ?_ | refine zqe ?_ | refine zqf ?_ | refine zqg ?_ | refine zqh ?_ | refine zqi ?_ | refine zqj ?_ | refine zqk ?_ | refine zql ?_ | refine zqm ?_ | refine zqn ?_ | refine zqo ?_ | refine zqp ?_)
      refine ways (fun h1 => ?_) (fun h1 => ?_)
      · have h1' : v = xs[i] := by simpa [xcm_eql] using h1
        have : idxI (xs.take n) v = (i : Int) := by rw [idxI, idxOf_some (by omega : i < (xs.take n).length) hall (by rw [et, h1'])]
        exact ⟨trivial, rfl, _, _, [.id 0], ⟨rfl, rfl⟩, by rw [this]; (refine ⟨by kernel_rfl, ?_, ?_⟩ <;> repeat first | exact okTms_nil | refine okTms_cons ?_ ?_ | exact okBlks_nil | refine okBlks_cons ?_ ?_ | exact lws_nil | refine lws_cons ?_ ?_ | exact lb_dead | exact zy1 | exact zy2 | exact lb_none | refine zy3 ?_ | exact zy4 | exact lw_any | exact lw_int | exact lw_bool | exact zy5 | exact zy6 | exact lw_nils | exact lw_slo_nils | exact zy7 | exact zy8 | exact zy9 | refine lw_tup ?_ | refine lw_agg ?_ | assumption)⟩
      · have h1' : ¬ v = xs[i] := by simpa [xcm_eql] using h1
        refine ⟨rfl, ⟨i + 1, hk, fun j hj hji => ?_⟩, by simp only; omega, [.id 0], by (refine ⟨by kernel_rfl, ?_, ?_⟩ <;> repeat first | exact okTms_nil | refine okTms_cons ?_ ?_ | exact okBlks_nil | refine okBlks_cons ?_ ?_ | exact lws_nil | refine lws_cons ?_ ?_ | exact lb_dead | exact zy1 | exact zy2 | exact lb_none | refine zy3 ?_ | exact zy4 | exact lw_any | exact lw_int | exact lw_bool | exact zy5 | exact zy6 | exact lw_nils | exact lw_slo_nils | exact zy7 | exact zy8 | exact zy9 | refine lw_tup ?_ | refine lw_agg ?_ | assumption)⟩
        rcases Nat.lt_succ_iff_lt_or_eq.1 hji with h | rfl
        · exact hall j hj h
        · rw [et]; exact fun e => h1' e.symm
    · refine ⟨rfl, ⟨(), idxOf_none fun j hj => hall j hj (by omega)⟩, [.id 0], by (refine ⟨by kernel_rfl, ?_, ?_⟩ <;> repeat first | exact okTms_nil | refine okTms_cons ?_ ?_ | exact okBlks_nil | refine okBlks_cons ?_ ?_ | exact lws_nil | refine lws_cons ?_ ?_ | exact lb_dead | exact zy1 | exact zy2 | exact lb_none | refine zy3 ?_ | exact zy4 | exact lw_any | exact lw_int | exact lw_bool | exact zy5 | exact zy6 | exact lw_nils | exact lw_slo_nils | exact zy7 | exact zy8 | exact zy9 | refine lw_tup ?_ | refine lw_agg ?_ | assumption)⟩
  refine SSp.last noCx_ok (n := 40) (mkS_le (Nat.le_of_ble_eq_true rfl)) ?_
  rw [id_z]
  exact ⟨trivial, rfl, _, _, [.id 0], ⟨rfl, rfl⟩, by rw [idxI, hs]; (refine ⟨by kernel_rfl, ?_, ?_⟩ <;> repeat first | exact okTms_nil | refine okTms_cons ?_ ?_ | exact okBlks_nil | refine okBlks_cons ?_ ?_ | exact lws_nil | refine lws_cons ?_ ?_ | exact lb_dead | exact zy1 | exact zy2 | exact lb_none | refine zy3 ?_ | exact zy4 | exact lw_any | exact lw_int | exact lw_bool | exact zy5 | exact zy6 | exact lw_nils | exact lw_slo_nils | exact zy7 | exact zy8 | exact zy9 | refine lw_tup ?_ | refine lw_agg ?_ | assumption)⟩
theorem id_c (n : Nat) (v : Int) (cs : List LV) (k1 : okX cs n = true) : SFun Go.Proofs.Try.prog 87 [.slo 0 0 n 0, .int .i64 v] (mkS [.cells cs (some 1)]) fun l s => l = .int .i64 (idxW cs n v) ∧ s = mkS [.cells cs (some 1)] := by
  obtain ⟨xs, rfl, h1, h2⟩ := okX_iff.1 k1
  rw [idxW, decIi64_enc]
  exact id_ok xs n h1 h2 v
def idG : Gc := fun args s => match args, s.g with
  | [.slo b 0 n 0, .int .i64 v], [] => (match s.h.get b with
    | some (.cells cs (some 1)) => (match s.lay [b] [.cells cs (some 1)] [] with
      | some s' => some ([okX cs n], .int .i64 (idxW cs n v), s')
      | none => none)
    | _ => none)
  | _, _ => none
theorem idG_ok : GOk Go.Proofs.Try.prog 87 idG := by
  intro args s bs l s' hg hb hfr
  unfold idG at hg
  split at hg
  · rename_i b n v hgl
    split at hg
    · rename_i cs hb0
      split at hg
      · rename_i s1 hs1
        simp only [Option.some.injEq, Prod.mk.injEq] at hg
        obtain ⟨rfl, rfl, rfl⟩ := hg
        simp only [allT_cons] at hb
        obtain ⟨k1, _⟩ := hb
        have no : noIds cs = true := by obtain ⟨_, e, _⟩ := okX_iff.1 k1; rw [e]; exact noIds_Ii64 _
        refine SFun.lay (bs := [.cells cs (some 1)]) (args0 := [.slo 0 0 n 0, .int .i64 v]) (bs' := [.cells cs (some 1)]) (v0 := .int .i64 (idxW cs n v)) hfr hs1 (by simp)
          ⟨⟨there hfr hb0, _, hb0, lb_same (by (first | assumption | exact noIds_tab (fun _ => rfl) _ _ | exact noIds_encL (fun _ => rfl) _ | rfl)), fun κ hκ => lb_same (by (first | assumption | exact noIds_tab (fun _ => rfl) _ _ | exact noIds_encL (fun _ => rfl) _ | rfl))⟩, trivial⟩ (by ((repeat refine lws_cons (by (first | exact lw_any | exact lw_int | exact lw_bool | exact lw_ptr rfl | exact lw_slo rfl | exact lw_nilp | exact lw_nils | exact lw_str | exact lw_slo_nils | exact lw_slo_sle | exact lw_sl rfl | exact lw_unb | exact lw_gptr | exact lw_noid rfl | exact lw_cap rfl (Nat.le_refl _) | exact lw_cap rfl (by omega) | assumption | exact lw_tup (by ((repeat refine lws_cons (by (first | exact lw_any | exact lw_int | exact lw_bool | exact lw_ptr rfl | exact lw_slo rfl | exact lw_nilp | exact lw_nils | exact lw_str | exact lw_slo_nils | exact lw_slo_sle | exact lw_sl rfl | exact lw_unb | exact lw_gptr | exact lw_noid rfl | exact lw_cap rfl (Nat.le_refl _) | exact lw_cap rfl (by omega) | assumption)) ?_); exact lws_nil)))) ?_); exact lws_nil)) ?_
          fun κ h1 h2 => ⟨⟨lb_same (by (first | assumption | exact noIds_tab (fun _ => rfl) _ _ | exact noIds_encL (fun _ => rfl) _ | rfl)), trivial⟩, lw_int⟩
        rw [hgl]; exact (id_c n v cs k1)
      · cases hg
    · cases hg
  · cases hg
/-! what it is -/
structure CS where
  tk : List Lk
  su : Int
  en : Int
  bu : Int
  er : Int
  lk : Lk
  ph : Int
  at' : Nat
  now : Int
  st : Bool
  ve : Int
  vb : Int
  vr : Int
abbrev cE (me stm : Int) (nq nc ns nt : Nat) (qc cc sc tc : List LV) (su en bu er lv : Int) (lh : Bool) (lo ph : Int) (at' : Nat) (now : Int) (st : Bool) (ve vb vr : Int) : List LB := [.cells [.ptr 1 0, .int .i64 me, .int .u64 stm, .slo 2 0 nq 0, .slo 3 0 nc 0, .slo 4 0 ns 0, .slo 5 0 nt 0, .int .u64 lv, .bool lh, .int .i64 lo, .int .i64 ph, .int .i64 at', .int .u64 now, .bool st, .int .i64 ve, .int .i64 vb, .int .i64 vr] none, .cells [.int .i64 me, .int .i64 su, .int .i64 en, .int .i64 bu, .int .i64 er] none, .cells qc (some 2), .cells cc (some 2), .cells sc (some 1), .cells tc (some 3)]
def cxi : Cx := cxl [(87, idG)]
abbrev goL : List Nat := [0]
abbrev goT : List (Nat × LV) := [(0, .ptr 0 0)]
abbrev go_a_b1 (me : Int) (stm : Int) (nq : Nat) (nc : Nat) (ns : Nat) (nt : Nat) (qc : List LV) (cc : List LV) (sc : List LV) (tc : List LV) (su : Int) (en : Int) (bu : Int) (er : Int) (lv : Int) (lh : Bool) (lo : Int) (ph : Int) (at' : Nat) (now : Int) (st : Bool) (ve : Int) (vb : Int) (vr : Int) : List (Option LB) := [some (.cells [.ptr 1 0, .int .i64 me, .int .u64 stm, .slo 2 0 nq 0, .slo 3 0 nc 0, .slo 4 0 ns 0, .slo 5 0 nt 0, .int .u64 lv, .bool lh, .int .i64 lo, .int .i64 ph, .int .i64 ↑at', .int .u64 now, .bool st, .int .i64 ve, .int .i64 vb, .int .i64 vr] none), some (.cells [.int .i64 me, .int .i64 su, .int .i64 en, .int .i64 bu, .int .i64 er] none), some (.cells qc (some 2)), some (.cells cc (some 2)), some (.cells sc (some 1)), some (.cells tc (some 3))]
theorem go_a (me stm : Int) (nq nc ns nt : Nat) (qc cc sc tc : List LV) (su en bu er lv : Int) (lh : Bool) (lo ph : Int) (at' : Nat) (now : Int) (st : Bool) (ve vb vr : Int) (K : Pk) : (xsp Go.Proofs.Try.prog cxi 40 175 (seg (sp Go.Proofs.Try.prog 38) 0 2) (tm0 [.ptr 0 0]) (mkS (cE me stm nq nc ns nt qc cc sc tc su en bu er lv lh lo ph at' now st ve vb vr)) (vK goL K)) = (
 bif xcm .eql ph 0 then (
 bif xcm .eql ↑at' ↑ns then (
 K .normal [.ptr 0 0] [some (.cells [.ptr 1 0, .int .i64 me, .int .u64 stm, .slo 2 0 nq 0, .slo 3 0 nc 0, .slo 4 0 ns 0, .slo 5 0 nt 0, .int .u64 lv, .bool lh, .int .i64 lo, .int .i64 2, .int .i64 0, .int .u64 now, .bool st, .int .i64 ve, .int .i64 vb, .int .i64 vr] none), some (.cells [.int .i64 me, .int .i64 su, .int .i64 en, .int .i64 bu, .int .i64 er] none), some (.cells qc (some 2)), some (.cells cc (some 2)), some (.cells sc (some 1)), some (.cells tc (some 3))] [])
 else (
 K .normal [.ptr 0 0] (go_a_b1 me stm nq nc ns nt qc cc sc tc su en bu er lv lh lo ph at' now st ve vb vr) []))
 else (
 K .normal [.ptr 0 0] (go_a_b1 me stm nq nc ns nt qc cc sc tc su en bu er lv lh lo ph at' now st ve vb vr) [])) := by kernel_rfl
abbrev go_b_b1 (me : Int) (stm : Int) (nq : Nat) (nc : Nat) (ns : Nat) (nt : Nat) (qc : List LV) (cc : List LV) (sc : List LV) (tc : List LV) (su : Int) (en : Int) (bu : Int) (er : Int) (lv : Int) (lh : Bool) (lo : Int) (ph : Int) (at' : Nat) (now : Int) (st : Bool) (ve : Int) (vb : Int) (vr : Int) : List (Option LB) := [some (.cells [.ptr 1 0, .int .i64 me, .int .u64 stm, .slo 2 0 nq 0, .slo 3 0 nc 0, .slo 4 0 ns 0, .slo 5 0 nt 0, .int .u64 lv, .bool lh, .int .i64 lo, .int .i64 ph, .int .i64 ↑at', .int .u64 now, .bool st, .int .i64 ve, .int .i64 vb, .int .i64 vr] none), some (.cells [.int .i64 me, .int .i64 su, .int .i64 en, .int .i64 bu, .int .i64 er] none), some (.cells qc (some 2)), some (.cells cc (some 2)), some (.cells sc (some 1)), some (.cells tc (some 3))]
theorem go_b (me stm : Int) (nq nc ns nt : Nat) (qc cc sc tc : List LV) (su en bu er lv : Int) (lh : Bool) (lo ph : Int) (at' : Nat) (now : Int) (st : Bool) (ve vb vr : Int) (K : Pk) : (xcode Go.Proofs.Try.prog cxi 40 175 (loopOf (nthC (sp Go.Proofs.Try.prog 38) 2)) (mkTm 175 goT) (mkS (cE me stm nq nc ns nt qc cc sc tc su en bu er lv lh lo ph at' now st ve vb vr)) (vK goL K)) = (
 bif xcm .eql ph 4 then (
 bif xcm .lss ↑at' ↑nq then (
 bif xle (xadd (xnat ↑at') 1) nq then bif xle (xadd (xix 0 (xnat ↑at') 2) 1) (xln qc) then bif isI .i64 (nthD qc (xix 0 (xnat ↑at') 2)) then bif xle (xnat ↑nt) ns then bif okX sc (xsub (xnat ↑nt) 0) then bif xcm .geq (idxW sc (xsub (xnat ↑nt) 0) (asI (nthD qc (xix 0 (xnat ↑at') 2)))) 0 then (
 bif xle (xadd (xnat ↑at') 1) nq then bif xle (xadd (xix 0 (xnat ↑at') 2) 1) (xln qc) then bif isI .i64 (nthD qc (xix 0 (xnat ↑at') 2)) then bif xle (xnat ↑nt) ns then bif okX sc (xsub (xnat ↑nt) 0) then bif xnn (idxW sc (xsub (xnat ↑nt) 0) (asI (nthD qc (xix 0 (xnat ↑at') 2)))) then bif xle (xadd (xnat (idxW sc (xsub (xnat ↑nt) 0) (asI (nthD qc (xix 0 (xnat ↑at') 2))))) 1) nt then bif xle (xadd (xix 0 (xnat (idxW sc (xsub (xnat ↑nt) 0) (asI (nthD qc (xix 0 (xnat ↑at') 2))))) 3) 3) (xln tc) then bif isI .u64 (nthD tc (xix 0 (xnat (idxW sc (xsub (xnat ↑nt) 0) (asI (nthD qc (xix 0 (xnat ↑at') 2))))) 3)) then bif isB (nthD tc (xadd (xix 0 (xnat (idxW sc (xsub (xnat ↑nt) 0) (asI (nthD qc (xix 0 (xnat ↑at') 2))))) 3) 1)) then bif isI .i64 (nthD tc (xadd (xadd (xix 0 (xnat (idxW sc (xsub (xnat ↑nt) 0) (asI (nthD qc (xix 0 (xnat ↑at') 2))))) 3) 1) 1)) then bif xle (xadd (xnat ↑at') 1) nq then bif xle (xadd (xadd (xix 0 (xnat ↑at') 2) 1) 1) (xln qc) then bif isI .u64 (nthD qc (xadd (xix 0 (xnat ↑at') 2) 1)) then bif xcm .neq (asI (nthD tc (xix 0 (xnat (idxW sc (xsub (xnat ↑nt) 0) (asI (nthD qc (xix 0 (xnat ↑at') 2))))) 3))) (asI (nthD qc (xadd (xix 0 (xnat ↑at') 2) 1))) then (
 bif xeq nt nt then bif xeq nt nt then
 K .normal [.ptr 0 0] [some (.cells [.ptr 1 0, .int .i64 me, .int .u64 stm, .slo 2 0 nq 0, .slo 3 0 nc 0, .slo 4 0 ns 0, .slo 5 0 nt 0, .int .u64 lv, .bool lh, .int .i64 lo, .int .i64 7, .int .i64 0, .int .u64 now, .bool st, .int .i64 5, .int .i64 (-1), .int .i64 0] none), some (.cells [.int .i64 me, .int .i64 su, .int .i64 en, .int .i64 bu, .int .i64 er] none), some (.cells qc (some 2)), some (.cells cc (some 2)), some (.cells sc (some 1)), some (.cells tc (some 3)), some (.cells [.int .u64 (asI (nthD tc (xix 0 (xnat (idxW sc (xsub (xnat ↑nt) 0) (asI (nthD qc (xix 0 (xnat ↑at') 2))))) 3))), .bool (asB (nthD tc (xadd (xix 0 (xnat (idxW sc (xsub (xnat ↑nt) 0) (asI (nthD qc (xix 0 (xnat ↑at') 2))))) 3) 1))), .int .i64 (asI (nthD tc (xadd (xadd (xix 0 (xnat (idxW sc (xsub (xnat ↑nt) 0) (asI (nthD qc (xix 0 (xnat ↑at') 2))))) 3) 1) 1)))] none), some (.cells [.int .i64 5, .int .i64 (-1), .int .i64 0] none)] [] else False else False)
 else (
 bif xeq nt nt then bif xeq nt nt then
 K .normal [.ptr 0 0] [some (.cells [.ptr 1 0, .int .i64 me, .int .u64 stm, .slo 2 0 nq 0, .slo 3 0 nc 0, .slo 4 0 ns 0, .slo 5 0 nt 0, .int .u64 lv, .bool lh, .int .i64 lo, .int .i64 ph, .int .i64 (xar .add .i64 (↑at') 1), .int .u64 now, .bool st, .int .i64 ve, .int .i64 vb, .int .i64 vr] none), some (.cells [.int .i64 me, .int .i64 su, .int .i64 en, .int .i64 bu, .int .i64 er] none), some (.cells qc (some 2)), some (.cells cc (some 2)), some (.cells sc (some 1)), some (.cells tc (some 3)), some (.cells [.int .u64 (asI (nthD tc (xix 0 (xnat (idxW sc (xsub (xnat ↑nt) 0) (asI (nthD qc (xix 0 (xnat ↑at') 2))))) 3))), .bool (asB (nthD tc (xadd (xix 0 (xnat (idxW sc (xsub (xnat ↑nt) 0) (asI (nthD qc (xix 0 (xnat ↑at') 2))))) 3) 1))), .int .i64 (asI (nthD tc (xadd (xadd (xix 0 (xnat (idxW sc (xsub (xnat ↑nt) 0) (asI (nthD qc (xix 0 (xnat ↑at') 2))))) 3) 1) 1)))] none)] [] else False else False) else False else False else False else False else False else False else False else False else False else False else False else False else False else False)
 else (
 K (.exit 0) [.ptr 0 0] (go_b_b1 me stm nq nc ns nt qc cc sc tc su en bu er lv lh lo ph at' now st ve vb vr) []) else False else False else False else False else False)
 else (
 K (.exit 0) [.ptr 0 0] (go_b_b1 me stm nq nc ns nt qc cc sc tc su en bu er lv lh lo ph at' now st ve vb vr) []))
 else (
 K (.exit 0) [.ptr 0 0] (go_b_b1 me stm nq nc ns nt qc cc sc tc su en bu er lv lh lo ph at' now st ve vb vr) [])) := by kernel_rfl
abbrev go_c_b1 (me : Int) (stm : Int) (nq : Nat) (nc : Nat) (ns : Nat) (nt : Nat) (qc : List LV) (cc : List LV) (sc : List LV) (tc : List LV) (su : Int) (en : Int) (bu : Int) (er : Int) (lv : Int) (lh : Bool) (lo : Int) (ph : Int) (at' : Nat) (now : Int) (st : Bool) (ve : Int) (vb : Int) (vr : Int) : List (Option LB) := [some (.cells [.ptr 1 0, .int .i64 me, .int .u64 stm, .slo 2 0 nq 0, .slo 3 0 nc 0, .slo 4 0 ns 0, .slo 5 0 nt 0, .int .u64 lv, .bool lh, .int .i64 lo, .int .i64 ph, .int .i64 ↑at', .int .u64 now, .bool st, .int .i64 ve, .int .i64 vb, .int .i64 vr] none), some (.cells [.int .i64 me, .int .i64 su, .int .i64 en, .int .i64 bu, .int .i64 er] none), some (.cells qc (some 2)), some (.cells cc (some 2)), some (.cells sc (some 1)), some (.cells tc (some 3))]
theorem go_c (me stm : Int) (nq nc ns nt : Nat) (qc cc sc tc : List LV) (su en bu er lv : Int) (lh : Bool) (lo ph : Int) (at' : Nat) (now : Int) (st : Bool) (ve vb vr : Int) (K : Pk) : (xsp Go.Proofs.Try.prog cxi 40 175 (seg (sp Go.Proofs.Try.prog 38) 3 2) (mkTm 175 goT) (mkS (cE me stm nq nc ns nt qc cc sc tc su en bu er lv lh lo ph at' now st ve vb vr)) (vK goL K)) = (
 bif xcm .eql ph 4 then (
 bif xcm .eql ↑at' ↑nq then (
 K .normal [.ptr 0 0] [some (.cells [.ptr 1 0, .int .i64 me, .int .u64 stm, .slo 2 0 nq 0, .slo 3 0 nc 0, .slo 4 0 ns 0, .slo 5 0 nt 0, .int .u64 lv, .bool lh, .int .i64 lo, .int .i64 5, .int .i64 0, .int .u64 now, .bool true, .int .i64 ve, .int .i64 vb, .int .i64 vr] none), some (.cells [.int .i64 me, .int .i64 su, .int .i64 en, .int .i64 bu, .int .i64 er] none), some (.cells qc (some 2)), some (.cells cc (some 2)), some (.cells sc (some 1)), some (.cells tc (some 3))] [])
 else (
 K .normal [.ptr 0 0] (go_c_b1 me stm nq nc ns nt qc cc sc tc su en bu er lv lh lo ph at' now st ve vb vr) []))
 else (
 K .normal [.ptr 0 0] (go_c_b1 me stm nq nc ns nt qc cc sc tc su en bu er lv lh lo ph at' now st ve vb vr) [])) := by kernel_rfl
abbrev go_d_b1 (me : Int) (stm : Int) (nq : Nat) (nc : Nat) (ns : Nat) (nt : Nat) (qc : List LV) (cc : List LV) (sc : List LV) (tc : List LV) (su : Int) (en : Int) (bu : Int) (er : Int) (lv : Int) (lh : Bool) (lo : Int) (ph : Int) (at' : Nat) (now : Int) (st : Bool) (ve : Int) (vb : Int) (vr : Int) : List (Option LB) := [some (.cells [.ptr 1 0, .int .i64 me, .int .u64 stm, .slo 2 0 nq 0, .slo 3 0 nc 0, .slo 4 0 ns 0, .slo 5 0 nt 0, .int .u64 lv, .bool lh, .int .i64 lo, .int .i64 ph, .int .i64 ↑at', .int .u64 now, .bool st, .int .i64 ve, .int .i64 vb, .int .i64 vr] none), some (.cells [.int .i64 me, .int .i64 su, .int .i64 en, .int .i64 bu, .int .i64 er] none), some (.cells qc (some 2)), some (.cells cc (some 2)), some (.cells sc (some 1)), some (.cells tc (some 3))]
theorem go_d (me stm : Int) (nq nc ns nt : Nat) (qc cc sc tc : List LV) (su en bu er lv : Int) (lh : Bool) (lo ph : Int) (at' : Nat) (now : Int) (st : Bool) (ve vb vr : Int) (K : Pk) : (xsp Go.Proofs.Try.prog cxi 40 175 (seg (sp Go.Proofs.Try.prog 38) 5 2) (mkTm 175 goT) (mkS (cE me stm nq nc ns nt qc cc sc tc su en bu er lv lh lo ph at' now st ve vb vr)) (vK goL K)) = (
 bif xcm .eql ph 5 then (
 bif xcm .eql ↑at' ↑nc then (
 K .normal [.ptr 0 0] [some (.cells [.ptr 1 0, .int .i64 me, .int .u64 stm, .slo 2 0 nq 0, .slo 3 0 nc 0, .slo 4 0 ns 0, .slo 5 0 nt 0, .int .u64 lv, .bool lh, .int .i64 lo, .int .i64 6, .int .i64 0, .int .u64 now, .bool st, .int .i64 ve, .int .i64 vb, .int .i64 vr] none), some (.cells [.int .i64 me, .int .i64 su, .int .i64 en, .int .i64 bu, .int .i64 er] none), some (.cells qc (some 2)), some (.cells cc (some 2)), some (.cells sc (some 1)), some (.cells tc (some 3))] [])
 else (
 K .normal [.ptr 0 0] (go_d_b1 me stm nq nc ns nt qc cc sc tc su en bu er lv lh lo ph at' now st ve vb vr) []))
 else (
 K .normal [.ptr 0 0] (go_d_b1 me stm nq nc ns nt qc cc sc tc su en bu er lv lh lo ph at' now st ve vb vr) [])) := by kernel_rfl
abbrev go_e_b1 (me : Int) (stm : Int) (nq : Nat) (nc : Nat) (ns : Nat) (nt : Nat) (qc : List LV) (cc : List LV) (sc : List LV) (tc : List LV) (su : Int) (en : Int) (bu : Int) (er : Int) (lv : Int) (lh : Bool) (lo : Int) (ph : Int) (at' : Nat) (now : Int) (st : Bool) (ve : Int) (vb : Int) (vr : Int) : List (Option LB) := [some (.cells [.ptr 1 0, .int .i64 me, .int .u64 stm, .slo 2 0 nq 0, .slo 3 0 nc 0, .slo 4 0 ns 0, .slo 5 0 nt 0, .int .u64 lv, .bool lh, .int .i64 lo, .int .i64 ph, .int .i64 ↑at', .int .u64 now, .bool st, .int .i64 ve, .int .i64 vb, .int .i64 vr] none), some (.cells [.int .i64 me, .int .i64 su, .int .i64 en, .int .i64 bu, .int .i64 er] none), some (.cells qc (some 2)), some (.cells cc (some 2)), some (.cells sc (some 1)), some (.cells tc (some 3))]
theorem go_e (me stm : Int) (nq nc ns nt : Nat) (qc cc sc tc : List LV) (su en bu er lv : Int) (lh : Bool) (lo ph : Int) (at' : Nat) (now : Int) (st : Bool) (ve vb vr : Int) (K : Pk) : (xsp Go.Proofs.Try.prog cxi 40 175 (seg (sp Go.Proofs.Try.prog 38) 7 2) (mkTm 175 goT) (mkS (cE me stm nq nc ns nt qc cc sc tc su en bu er lv lh lo ph at' now st ve vb vr)) (vK goL K)) = (
 bif xcm .eql ph 6 then (
 bif xcm .eql ↑at' ↑nt then (
 K .normal [.ptr 0 0] [some (.cells [.ptr 1 0, .int .i64 me, .int .u64 stm, .slo 2 0 nq 0, .slo 3 0 nc 0, .slo 4 0 ns 0, .slo 5 0 nt 0, .int .u64 lv, .bool lh, .int .i64 lo, .int .i64 ph, .int .i64 ↑at', .int .u64 now, .bool st, .int .i64 ve, .int .i64 vb, .int .i64 vr] none), some (.cells [.int .i64 me, .int .i64 su, .int .i64 2, .int .i64 (-1), .int .i64 0] none), some (.cells qc (some 2)), some (.cells cc (some 2)), some (.cells sc (some 1)), some (.cells tc (some 3))] [])
 else (
 K .normal [.ptr 0 0] (go_e_b1 me stm nq nc ns nt qc cc sc tc su en bu er lv lh lo ph at' now st ve vb vr) []))
 else (
 K .normal [.ptr 0 0] (go_e_b1 me stm nq nc ns nt qc cc sc tc su en bu er lv lh lo ph at' now st ve vb vr) [])) := by kernel_rfl
abbrev go_f_b1 (me : Int) (stm : Int) (nq : Nat) (nc : Nat) (ns : Nat) (nt : Nat) (qc : List LV) (cc : List LV) (sc : List LV) (tc : List LV) (su : Int) (en : Int) (bu : Int) (er : Int) (lv : Int) (lh : Bool) (lo : Int) (ph : Int) (at' : Nat) (now : Int) (st : Bool) (ve : Int) (vb : Int) (vr : Int) : List (Option LB) := [some (.cells [.ptr 1 0, .int .i64 me, .int .u64 stm, .slo 2 0 nq 0, .slo 3 0 nc 0, .slo 4 0 ns 0, .slo 5 0 nt 0, .int .u64 lv, .bool lh, .int .i64 lo, .int .i64 ph, .int .i64 ↑at', .int .u64 now, .bool st, .int .i64 ve, .int .i64 vb, .int .i64 vr] none), some (.cells [.int .i64 me, .int .i64 su, .int .i64 en, .int .i64 bu, .int .i64 er] none), some (.cells qc (some 2)), some (.cells cc (some 2)), some (.cells sc (some 1)), some (.cells tc (some 3))]
theorem go_f (me stm : Int) (nq nc ns nt : Nat) (qc cc sc tc : List LV) (su en bu er lv : Int) (lh : Bool) (lo ph : Int) (at' : Nat) (now : Int) (st : Bool) (ve vb vr : Int) (K : Pk) : (xsp Go.Proofs.Try.prog cxi 40 175 ((sp Go.Proofs.Try.prog 38).drop 9) (mkTm 175 goT) (mkS (cE me stm nq nc ns nt qc cc sc tc su en bu er lv lh lo ph at' now st ve vb vr)) (vK goL K)) = (
 bif xcm .eql ph 7 then (
 bif xcm .eql ↑at' ↑nt then (
 K .normal [.ptr 0 0] [some (.cells [.ptr 1 0, .int .i64 me, .int .u64 stm, .slo 2 0 nq 0, .slo 3 0 nc 0, .slo 4 0 ns 0, .slo 5 0 nt 0, .int .u64 lv, .bool lh, .int .i64 lo, .int .i64 ph, .int .i64 ↑at', .int .u64 now, .bool st, .int .i64 ve, .int .i64 vb, .int .i64 vr] none), some (.cells [.int .i64 me, .int .i64 su, .int .i64 ve, .int .i64 vb, .int .i64 vr] none), some (.cells qc (some 2)), some (.cells cc (some 2)), some (.cells sc (some 1)), some (.cells tc (some 3))] [])
 else (
 K .normal [.ptr 0 0] (go_f_b1 me stm nq nc ns nt qc cc sc tc su en bu er lv lh lo ph at' now st ve vb vr) []))
 else (
 K .normal [.ptr 0 0] (go_f_b1 me stm nq nc ns nt qc cc sc tc su en bu er lv lh lo ph at' now st ve vb vr) [])) := by kernel_rfl
end
end Go.Lev
