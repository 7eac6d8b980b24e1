/- chapter 3: Held -/
import Derived.Test.YtmeehagbfcfceaaCW4
import Derived.Test.YtmeehagbfcfceaaLc
import Derived.Test.YtmeehagbfcfceaaChecked
import Derived.KernelRfl

namespace Go.Lev
open Go.RowKit
set_option linter.unusedVariables false
set_option linter.unusedSimpArgs false
set_option maxRecDepth 100000
noncomputable section
/-! rows of integers -/
def decIi64 : List LV → List Int
  | .int _ a :: r => a :: decIi64 r
  | _ => []
theorem decIi64_enc : ∀ xs, decIi64 (encL (cI .i64) xs) = xs
  | [] => rfl
  | x :: r => by simp [encL, cI, decIi64, decIi64_enc r]
def okIi64 (cs : List LV) (n : Nat) : Bool := @decide (cs = encL (cI .i64) (decIi64 cs) ∧ (decIi64 cs).length = n ∧ n ≤ 9223372036854775807) (Classical.propDecidable _)

theorem okIi64_iff {cs : List LV} {n : Nat} : okIi64 cs n = true ↔ ∃ xs, cs = encL (cI .i64) xs ∧ xs.length = n ∧ n ≤ 9223372036854775807 := by
  simp only [okIi64, decide_eq_true_eq]
  exact ⟨fun h => ⟨_, h⟩, fun ⟨xs, h1, h2⟩ => by subst h1; rw [decIi64_enc]; exact ⟨rfl, h2⟩⟩
theorem okIi64_tab {n : Nat} (g : Nat → Int) (h : n ≤ 9223372036854775807) : okIi64 (tab (cI .i64) n g) n = true := okIi64_iff.2 ⟨_, rfl, by simp, h⟩
theorem okIi64_enc {xs : List Int} (h : xs.length ≤ 9223372036854775807) : okIi64 (encL (cI .i64) xs) xs.length = true := okIi64_iff.2 ⟨_, rfl, rfl, h⟩
theorem encIi64_len (xs : List Int) : (encL (cI .i64) xs).length = xs.length := by rw [encL_length (cI_len .i64)]; omega
theorem encIi64_push (xs : List Int) (y : Int) : xcat (xcut (encL (cI .i64) xs) 0 xs.length) [.int .i64 y] = encL (cI .i64) (xs ++ [y]) := by
  rw [xcut_all (by rw [encIi64_len]; omega), encL_append]; rfl
theorem encIi64_nth {xs : List Int} {i : Nat} (h : i < xs.length) : nthD (encL (cI .i64) xs) i = .int .i64 xs[i] := by
  have := encL_nth (cI_len .i64) (j := 0) h (by omega)
  simp only [Nat.mul_one, Nat.add_zero] at this
  exact this
theorem noIds_Ii64 (xs : List Int) : noIds (encL (cI .i64) xs) = true := noIds_encL (fun _ => rfl) xs
theorem xnoid_Ii64 (xs : List Int) : xnoid (encL (cI .i64) xs) = true := xnoid_encL (fun _ => rfl) xs

/-! a copy of a row: slices.Clone[[]quietus/api.Lock,quietus/api.Lock] -/
theorem cloneL_s (n : Nat) (cs : List LV) (K : Pk) : (xsp Go.Proofs.Try.prog (fun _ => none) 40 8 ((sp Go.Proofs.Try.prog 33).drop 0) (tm0 [.slo 0 0 (n + 1) 0]) (mkS [.cells cs (some 3)]) (vK [0, 2, 4] K)) = (
  bif xle (xadd 0 (xmul (n + 1) 3)) (xln cs) then
  bif xle (xadd 0 (n + 1)) 1000000 then
  K .ret [.slo 0 0 (n + 1) 0, .slo 2 0 (xadd 0 (n + 1)) 0, .bool false] [some (.cells cs (some 3)), some (.cells [] none), some (.cells (xcat [] (xcut cs 0 (xmul (n + 1) 3))) (some 3))] []
  else False
  else False) := by kernel_rfl
theorem cloneL_a (K : Pk) : (xsp Go.Proofs.Try.prog (fun _ => none) 40 8 (seg (sp Go.Proofs.Try.prog 33) 0 2) (tm0 [.slo 0 0 0 0]) (mkS [.cells [] (some 3)]) (vK [0, 2, 4] K)) = (
  K .normal [.slo 0 0 0 0, .nils, .unb] [some (.cells [] (some 3))] []) := by kernel_rfl
theorem cloneL_t (K : Pk) : (xcode Go.Proofs.Try.prog (fun _ => none) 40 8 (condT (nthC (sp Go.Proofs.Try.prog 33) 2)) (mkTm 8 [(0, .slo 0 0 0 0), (4, .unb)]) (mkS [.cells [] (some 3)]) (vK [0, 2, 4] K)) = (
  K .ret [.slo 0 0 0 0, .nils, .unb] [some (.cells [] (some 3))] []) := by kernel_rfl
theorem cloneL_f (K : Pk) : (xcode Go.Proofs.Try.prog (fun _ => none) 40 8 (condF (nthC (sp Go.Proofs.Try.prog 33) 2)) (mkTm 8 [(0, .slo 0 0 0 0), (4, .unb)]) (mkS [.cells [] (some 3)]) (vK [0, 2, 4] K)) = (
  K .normal [.slo 0 0 0 0, .any, .unb] [some (.cells [] (some 3))] []) := by kernel_rfl
theorem cloneL_z (K : Pk) : (xsp Go.Proofs.Try.prog (fun _ => none) 40 8 ((sp Go.Proofs.Try.prog 33).drop 3) (mkTm 8 [(0, .slo 0 0 0 0)]) (mkS [.cells [] (some 3)]) (vK [0, 2, 4] K)) = (
  K .ret [.slo 0 0 0 0, .sl 1 0 0 0, .any] [some (.cells [] (some 3)), some (.cells [] none)] []) := by kernel_rfl
theorem cloneL_ok : GOk Go.Proofs.Try.prog 33 (cloneG 3) := by
  refine cloneG_ok fun n cs hn hl hno => ?_
  refine SFun.mono (SFun.pieces (Q := fun l b => l = .slo 1 0 n 0 ∧ b = [.cells cs (some 3), .cells cs (some 3)]) 8 1 [0, 2, 4] [2] (by kernel_rfl) rfl rfl rfl ?_) fun l s' ⟨b0, ⟨h1, h2⟩, h3⟩ => ⟨h1, by rw [h3, h2]⟩
  cases n with
  | zero =>
    have : cs = [] := List.length_eq_zero_iff.1 (by omega)
    subst this
    refine SSp.to noCx_ok (n := 40) (g := []) 2 2 rfl (σ := Unit) (fun _ => [(0, .slo 0 0 0 0), (4, .unb)]) (fun _ => [.cells [] (some 3)]) (mkS_le (Nat.le_refl _)) (by kernel_rfl) ?_ fun _ => ?_
    · rw [cloneL_a]; exact ⟨rfl, (), [.id 0], by (refine ⟨by kernel_rfl, ?_, ?_⟩ <;> repeat (first | exact okTms_nil | refine okTms_cons ?_ ?_ | exact okBlks_nil | refine okBlks_cons ?_ ?_ | exact lws_nil | refine lws_cons ?_ ?_ | exact lb_dead | exact lb_same (by (first | assumption | exact noIds_encL (fun _ => rfl) _ | exact noIds_tab (fun _ => rfl) _ _ | rfl)) | exact lb_ro (by (first | assumption | exact noIds_encL (fun _ => rfl) _ | exact noIds_tab (fun _ => rfl) _ _ | rfl)) | exact lb_none | refine lb_cells ?_ (by simp) | exact lb_cap (Nat.le_refl _) (Nat.le_refl _) rfl rfl | exact lb_capn (by assumption) (by (first | assumption | exact noIds_encL (fun _ => rfl) _ | exact noIds_tab (fun _ => rfl) _ _ | rfl)) | exact lw_any | exact lw_int | exact lw_bool | exact lw_ptr rfl | exact lw_slo rfl | exact lw_nils | exact lw_slo_nils | exact lw_sl rfl | exact lw_noid rfl | exact lw_cap rfl (Nat.le_refl _) | refine lw_tup ?_ | refine lw_agg ?_ | assumption))⟩
    refine SSp.code_to (g := []) 3 rfl (σ := Unit) (fun _ => [(0, .slo 0 0 0 0)]) (fun _ => [.cells [] (some 3)]) (by kernel_rfl) ?_ fun _ => ?_
    · refine SCode.unb noCx_ok (n := 40) (by kernel_rfl) (by kernel_rfl) (mkS_le (Nat.le_refl _)) ?_ ?_
      · rw [cloneL_t]; exact ⟨trivial, rfl, _, _, [.id 0, .none], ⟨rfl, rfl⟩, by (refine ⟨by kernel_rfl, ?_, ?_⟩ <;> repeat (first | exact okTms_nil | refine okTms_cons ?_ ?_ | exact okBlks_nil | refine okBlks_cons ?_ ?_ | exact lws_nil | refine lws_cons ?_ ?_ | exact lb_dead | exact lb_same (by (first | assumption | exact noIds_encL (fun _ => rfl) _ | exact noIds_tab (fun _ => rfl) _ _ | rfl)) | exact lb_ro (by (first | assumption | exact noIds_encL (fun _ => rfl) _ | exact noIds_tab (fun _ => rfl) _ _ | rfl)) | exact lb_none | refine lb_cells ?_ (by simp) | exact lb_cap (Nat.le_refl _) (Nat.le_refl _) rfl rfl | exact lb_capn (by assumption) (by (first | assumption | exact noIds_encL (fun _ => rfl) _ | exact noIds_tab (fun _ => rfl) _ _ | rfl)) | exact lw_any | exact lw_int | exact lw_bool | exact lw_ptr rfl | exact lw_slo rfl | exact lw_nils | exact lw_slo_nils | exact lw_sl rfl | exact lw_noid rfl | exact lw_cap rfl (Nat.le_refl _) | refine lw_tup ?_ | refine lw_agg ?_ | assumption))⟩
      · rw [cloneL_f]; exact ⟨rfl, (), [.id 0], by (refine ⟨by kernel_rfl, ?_, ?_⟩ <;> repeat (first | exact okTms_nil | refine okTms_cons ?_ ?_ | exact okBlks_nil | refine okBlks_cons ?_ ?_ | exact lws_nil | refine lws_cons ?_ ?_ | exact lb_dead | exact lb_same (by (first | assumption | exact noIds_encL (fun _ => rfl) _ | exact noIds_tab (fun _ => rfl) _ _ | rfl)) | exact lb_ro (by (first | assumption | exact noIds_encL (fun _ => rfl) _ | exact noIds_tab (fun _ => rfl) _ _ | rfl)) | exact lb_none | refine lb_cells ?_ (by simp) | exact lb_cap (Nat.le_refl _) (Nat.le_refl _) rfl rfl | exact lb_capn (by assumption) (by (first | assumption | exact noIds_encL (fun _ => rfl) _ | exact noIds_tab (fun _ => rfl) _ _ | rfl)) | exact lw_any | exact lw_int | exact lw_bool | exact lw_ptr rfl | exact lw_slo rfl | exact lw_nils | exact lw_slo_nils | exact lw_sl rfl | exact lw_noid rfl | exact lw_cap rfl (Nat.le_refl _) | refine lw_tup ?_ | refine lw_agg ?_ | assumption))⟩
    refine SSp.last noCx_ok (n := 40) (mkS_le (Nat.le_refl _)) ?_
    rw [cloneL_z]
    exact ⟨trivial, rfl, _, _, [.id 0, .cap 1 0 0], ⟨rfl, rfl⟩, by (refine ⟨by kernel_rfl, ?_, ?_⟩ <;> repeat (first | exact okTms_nil | refine okTms_cons ?_ ?_ | exact okBlks_nil | refine okBlks_cons ?_ ?_ | exact lws_nil | refine lws_cons ?_ ?_ | exact lb_dead | exact lb_same (by (first | assumption | exact noIds_encL (fun _ => rfl) _ | exact noIds_tab (fun _ => rfl) _ _ | rfl)) | exact lb_ro (by (first | assumption | exact noIds_encL (fun _ => rfl) _ | exact noIds_tab (fun _ => rfl) _ _ | rfl)) | exact lb_none | refine lb_cells ?_ (by simp) | exact lb_cap (Nat.le_refl _) (Nat.le_refl _) rfl rfl | exact lb_capn (by assumption) (by (first | assumption | exact noIds_encL (fun _ => rfl) _ | exact noIds_tab (fun _ => rfl) _ _ | rfl)) | exact lw_any | exact lw_int | exact lw_bool | exact lw_ptr rfl | exact lw_slo rfl | exact lw_nils | exact lw_slo_nils | exact lw_sl rfl | exact lw_noid rfl | exact lw_cap rfl (Nat.le_refl _) | refine lw_tup ?_ | refine lw_agg ?_ | assumption))⟩
  | succ n =>
    refine SSp.last noCx_ok (n := 40) (mkS_le (Nat.le_refl _)) ?_
    rw [cloneL_s]
    have e : xcut cs 0 ((n + 1) * 3) = cs := xcut_all (by omega)
    (try simp only [Nat.mul_one] at e)
    simp only [wd_nat, wd_asV, wd_isV, wd_ix, wd_add, wd_mul, wd_ln, Nat.zero_add, Nat.mul_one, wd_isI, wd_asI, wd_isB, wd_asB, wd_nn, cI_tlen, cB_tlen, cII_tlen, decide_true, cond_true, wd_not_t, wd_not_f, wd_and_t, wd_and_f, e]
    (repeat (with_reducible refine must (by (first | with_reducible rfl | exact t_le (by omega) | exact t_eq (by omega) | exact t_nn (by omega) | exact t_lss (by omega) | exact t_leq (by omega) | exact t_gtr (by omega) | exact t_geq (by omega) | exact t_eql (by omega) | exact t_neq (by omega) | exact t_z (by omega) | exact wd_not_f | assumption)) ?_))
    exact ⟨trivial, rfl, _, _, [.id 0, .id 2], ⟨rfl, rfl⟩, by (refine ⟨by kernel_rfl, ?_, ?_⟩ <;> repeat (first | exact okTms_nil | refine okTms_cons ?_ ?_ | exact okBlks_nil | refine okBlks_cons ?_ ?_ | exact lws_nil | refine lws_cons ?_ ?_ | exact lb_dead | exact lb_same (by (first | assumption | exact noIds_encL (fun _ => rfl) _ | exact noIds_tab (fun _ => rfl) _ _ | rfl)) | exact lb_ro (by (first | assumption | exact noIds_encL (fun _ => rfl) _ | exact noIds_tab (fun _ => rfl) _ _ | rfl)) | exact lb_none | refine lb_cells ?_ (by simp) | exact lb_cap (Nat.le_refl _) (Nat.le_refl _) rfl rfl | exact lb_capn (by assumption) (by (first | assumption | exact noIds_encL (fun _ => rfl) _ | exact noIds_tab (fun _ => rfl) _ _ | rfl)) | exact lw_any | exact lw_int | exact lw_bool | exact lw_ptr rfl | exact lw_slo rfl | exact lw_nils | exact lw_slo_nils | exact lw_sl rfl | exact lw_noid rfl | exact lw_cap rfl (Nat.le_refl _) | refine lw_tup ?_ | refine lw_agg ?_ | assumption))⟩

/-- Which of the first k locks are held by o, rising. -/
def hls (L : List Lk) (o : Int) : Nat → List Int
  | 0 => []
  | k + 1 => if (L.getD k (0, false, 0)).2.1 = true ∧ (L.getD k (0, false, 0)).2.2 = o then hls L o k ++ [(k : Int)] else hls L o k
theorem hls_len (L : List Lk) (o : Int) : ∀ k, (hls L o k).length ≤ k
  | 0 => by simp [hls]
  | k + 1 => by have := hls_len L o k; rw [hls]; split <;> simp <;> omega
abbrev heL : List Nat := [1, 4, 5, 11, 12, 13]
abbrev heT (o : Int) (nl p k : Nat) : List (Nat × LV) := [(1, .int .i64 o), (5, .slo 2 0 p 0), (11, .slo 1 0 nl 0), (12, .int .i64 nl), (13, .int .i64 k)]
abbrev heH (wi : Int) (nl : Nat) (ls ps : List LV) : List LB := [.cells [.int .i64 wi, .slo 1 0 nl 0] none, .cells ls (some 3), .cells ps (some 1)]
theorem he_a (o wi : Int) (nl : Nat) (ls : List LV) (K : Pk) : (xsp Go.Proofs.Try.prog (fun _ => none) 40 32 (seg (sp Go.Proofs.Try.prog 12) 0 3) (tm0 [.ptr 0 0, .int .i64 o]) (mkS (tS wi nl ls)) (vK heL K)) = (
  K .normal [.int .i64 o, .nils, .nils, .slo 1 0 nl 0, .int .i64 ↑nl, .int .i64 0] [some (.cells [.int .i64 wi, .slo 1 0 nl 0] none), some (.cells ls (some 3))] []) := by kernel_rfl
theorem he_b (o wi : Int) (nl p k : Nat) (ls ps : List LV) (K : Pk) : (xcode Go.Proofs.Try.prog (fun _ => none) 40 32 (loopOf (nthC (sp Go.Proofs.Try.prog 12) 3)) (mkTm 32 (heT o nl p k)) (mkS (heH wi nl ls ps)) (vK heL K)) = (
  bif xcm .lss ↑k ↑nl then (
   bif xle (xadd (xnat ↑k) 1) nl then
   bif xle (xadd (xix 0 (xnat ↑k) 3) 3) (xln ls) then
   bif isI .u64 (nthD ls (xix 0 (xnat ↑k) 3)) then
   bif isB (nthD ls (xadd (xix 0 (xnat ↑k) 3) 1)) then
   bif isI .i64 (nthD ls (xadd (xadd (xix 0 (xnat ↑k) 3) 1) 1)) then
   bif asB (nthD ls (xadd (xix 0 (xnat ↑k) 3) 1)) then (
    bif xcm .eql (asI (nthD ls (xadd (xadd (xix 0 (xnat ↑k) 3) 1) 1))) o then (
     bif xle (xadd p 1) 1000000 then
     bif xle (xadd 0 (xmul p 1)) (xln ps) then
     K .normal [.int .i64 o, .any, .slo 5 0 (xadd p 1) 0, .slo 1 0 nl 0, .int .i64 ↑nl, .int .i64 (xar .add .i64 (↑k) 1)] [some (.cells [.int .i64 wi, .slo 1 0 nl 0] none), some (.cells ls (some 3)), some .dead, some (.cells [.int .u64 (asI (nthD ls (xix 0 (xnat ↑k) 3))), .bool (asB (nthD ls (xadd (xix 0 (xnat ↑k) 3) 1))), .int .i64 (asI (nthD ls (xadd (xadd (xix 0 (xnat ↑k) 3) 1) 1)))] none), some (.cells [.int .i64 ↑k] none), some (.cells (xcat (xcut ps 0 (xmul p 1)) [.int .i64 ↑k]) (some 1))] []
     else False
     else False)
    else (
     K .normal [.int .i64 o, .any, .slo 2 0 p 0, .slo 1 0 nl 0, .int .i64 ↑nl, .int .i64 (xar .add .i64 (↑k) 1)] [some (.cells [.int .i64 wi, .slo 1 0 nl 0] none), some (.cells ls (some 3)), some (.cells ps (some 1)), some (.cells [.int .u64 (asI (nthD ls (xix 0 (xnat ↑k) 3))), .bool (asB (nthD ls (xadd (xix 0 (xnat ↑k) 3) 1))), .int .i64 (asI (nthD ls (xadd (xadd (xix 0 (xnat ↑k) 3) 1) 1)))] none)] []))
   else (
    K .normal [.int .i64 o, .any, .slo 2 0 p 0, .slo 1 0 nl 0, .int .i64 ↑nl, .int .i64 (xar .add .i64 (↑k) 1)] [some (.cells [.int .i64 wi, .slo 1 0 nl 0] none), some (.cells ls (some 3)), some (.cells ps (some 1)), some (.cells [.int .u64 (asI (nthD ls (xix 0 (xnat ↑k) 3))), .bool (asB (nthD ls (xadd (xix 0 (xnat ↑k) 3) 1))), .int .i64 (asI (nthD ls (xadd (xadd (xix 0 (xnat ↑k) 3) 1) 1)))] none)] [])
   else False
   else False
   else False
   else False
   else False)
  else (
   K (.exit 0) [.int .i64 o, .any, .slo 2 0 p 0, .slo 1 0 nl 0, .int .i64 ↑nl, .int .i64 ↑k] [some (.cells [.int .i64 wi, .slo 1 0 nl 0] none), some (.cells ls (some 3)), some (.cells ps (some 1))] [])) := by kernel_rfl
theorem he_z (o wi : Int) (nl p k : Nat) (ls ps : List LV) (K : Pk) : (xsp Go.Proofs.Try.prog (fun _ => none) 40 32 ((sp Go.Proofs.Try.prog 12).drop 4) (mkTm 32 (heT o nl p k)) (mkS (heH wi nl ls ps)) (vK heL K)) = (
  K .ret [.int .i64 o, .slo 2 0 p 0, .slo 2 0 p 0, .slo 1 0 nl 0, .int .i64 ↑nl, .int .i64 ↑k] [some (.cells [.int .i64 wi, .slo 1 0 nl 0] none), some (.cells ls (some 3)), some (.cells ps (some 1))] []) := by kernel_rfl
def heN (ls : List LV) (n : Nat) (o : Int) : Nat := (hls (decL ls) o n).length

def heC (ls : List LV) (n : Nat) (o : Int) : List LV := encL (cI .i64) (hls (decL ls) o n)

theorem tHeld_ok (o wi : Int) (L : List Lk) (n : Nat) (en : L.length = n) (hn : n ≤ 1000) : SFun Go.Proofs.Try.prog 12 [.ptr 0 0, .int .i64 o] (mkS (tS wi n (encL cL L)))
    fun l s => l = .slo 2 0 (hls L o n).length 0 ∧ s = mkS [.cells [.int .i64 wi, .slo 1 0 n 0] none, .cells (encL cL L) (some 3), .cells (encL (cI .i64) (hls L o n)) (some 1)] := by
  refine SFun.mono (SFun.pieces (Q := fun l b => l = .slo 2 0 (hls L o n).length 0 ∧ b = [.cells [.int .i64 wi, .slo 1 0 n 0] none, .cells (encL cL L) (some 3), .cells (encL (cI .i64) (hls L o n)) (some 1)]) 32 2 heL [4] (by kernel_rfl) rfl rfl rfl ?_) fun l s' ⟨b0, ⟨h1, h2⟩, h3⟩ => ⟨h1, by rw [h3, h2]⟩
  have nx := noids_l L
  have lx := lk_n L
  refine SSp.to noCx_ok (n := 40) (g := []) 3 3 rfl (σ := Unit) (fun _ => heT o n 0 0) (fun _ => heH wi n (encL cL L) []) (mkS_le (Nat.le_refl _)) (by kernel_rfl) ?_ fun _ => ?_
  · rw [he_a]
    (repeat (with_reducible refine must (by (first | with_reducible rfl | exact t_le (by omega) | exact t_eq (by omega) | exact t_nn (by omega) | exact t_lss (by omega) | exact t_leq (by omega) | exact t_gtr (by omega) | exact t_geq (by omega) | exact t_eql (by omega) | exact t_neq (by omega) | exact t_z (by omega) | exact wd_not_f | assumption)) ?_))
    exact ⟨rfl, (), [.id 0, .id 1, .none], by (refine ⟨by kernel_rfl, ?_, ?_⟩ <;> repeat (first | exact okTms_nil | refine okTms_cons ?_ ?_ | exact okBlks_nil | refine okBlks_cons ?_ ?_ | exact lws_nil | refine lws_cons ?_ ?_ | exact lb_dead | exact lb_same (by (first | assumption | exact noIds_encL (fun _ => rfl) _ | exact noIds_tab (fun _ => rfl) _ _ | rfl)) | exact lb_ro (by (first | assumption | exact noIds_encL (fun _ => rfl) _ | exact noIds_tab (fun _ => rfl) _ _ | rfl)) | exact lb_none | refine lb_cells ?_ (by simp) | exact lb_cap (Nat.le_refl _) (Nat.le_refl _) rfl rfl | exact lb_capn (by assumption) (by (first | assumption | exact noIds_encL (fun _ => rfl) _ | exact noIds_tab (fun _ => rfl) _ _ | rfl)) | exact lw_any | exact lw_int | exact lw_bool | exact lw_ptr rfl | exact lw_slo rfl | exact lw_nils | exact lw_slo_nils | exact lw_sl rfl | exact lw_noid rfl | exact lw_cap rfl (Nat.le_refl _) | refine lw_tup ?_ | refine lw_agg ?_ | assumption))⟩
  refine SSp.code_to (g := []) 4 rfl (σ := Unit) (fun _ => heT o n (hls L o n).length n) (fun _ => heH wi n (encL cL L) (encL (cI .i64) (hls L o n))) (by kernel_rfl) ?_ fun _ => ?_
  · refine SCode.loop_vc noCx_ok (n := 40) 0 (by kernel_rfl) (σ := {k : Nat // k ≤ n}) (fun k => heT o n (hls L o k.1).length k.1) (fun k => heH wi n (encL cL L) (encL (cI .i64) (hls L o k.1))) (fun k => n - k.1) (fun _ => Nat.le_of_ble_eq_true rfl) (fun ⟨k, hk⟩ => ?_) ⟨0, Nat.zero_le _⟩
    dsimp only
    have hg := hls_len L o k
    rw [he_b, wd_lss]
    refine ite_way (fun h0 => ?_) (fun h0 => ?_)
    · have h1 : k < L.length := by omega
      have gd : L.getD k (0, false, 0) = L[k] := getD_at h1 _
      simp only [wd_nat, wd_asV, wd_isV, wd_ix, wd_add, wd_mul, wd_ln, Nat.zero_add, Nat.mul_one, wd_isI, wd_asI, wd_isB, wd_asB, wd_nn, cI_tlen, cB_tlen, cII_tlen, decide_true, cond_true, wd_not_t, wd_not_f, wd_and_t, wd_and_f, lk_0 h1, lk_1 h1, lk_2' h1, lk_n, encIi64_len, encIi64_push, inc_i64 h0 (show n ≤ 9223372036854775807 by omega)]
      (repeat (with_reducible refine must (by (first | with_reducible rfl | exact t_le (by omega) | exact t_eq (by omega) | exact t_nn (by omega) | exact t_lss (by omega) | exact t_leq (by omega) | exact t_gtr (by omega) | exact t_geq (by omega) | exact t_eql (by omega) | exact t_neq (by omega) | exact t_z (by omega) | exact wd_not_f | assumption)) ?_))
      have no : ¬ (L[k].2.1 = true ∧ L[k].2.2 = o) → hls L o (k + 1) = hls L o k := fun h => by rw [hls, gd, if_neg h]
      refine ways (fun hh => ?_) (fun hh => ?_)
      · rw [xcm_eql]
        refine ite_way (fun ho => ?_) (fun ho => ?_)
        · have e : hls L o (k + 1) = hls L o k ++ [(k : Int)] := by rw [hls, gd, if_pos ⟨hh, ho⟩]
          (repeat (with_reducible refine must (by (first | with_reducible rfl | exact t_le (by omega) | exact t_eq (by omega) | exact t_nn (by omega) | exact t_lss (by omega) | exact t_leq (by omega) | exact t_gtr (by omega) | exact t_geq (by omega) | exact t_eql (by omega) | exact t_neq (by omega) | exact t_z (by omega) | exact wd_not_f | assumption)) ?_))
          exact ⟨rfl, ⟨k + 1, h0⟩, by simp only; omega, [.id 0, .id 1, .id 5], by simp only [e, List.length_append, List.length_cons, List.length_nil, Nat.zero_add]; (refine ⟨by kernel_rfl, ?_, ?_⟩ <;> repeat (first | exact okTms_nil | refine okTms_cons ?_ ?_ | exact okBlks_nil | refine okBlks_cons ?_ ?_ | exact lws_nil | refine lws_cons ?_ ?_ | exact lb_dead | exact lb_same (by (first | assumption | exact noIds_encL (fun _ => rfl) _ | exact noIds_tab (fun _ => rfl) _ _ | rfl)) | exact lb_ro (by (first | assumption | exact noIds_encL (fun _ => rfl) _ | exact noIds_tab (fun _ => rfl) _ _ | rfl)) | exact lb_none | refine lb_cells ?_ (by simp) | exact lb_cap (Nat.le_refl _) (Nat.le_refl _) rfl rfl | exact lb_capn (by assumption) (by (first | assumption | exact noIds_encL (fun _ => rfl) _ | exact noIds_tab (fun _ => rfl) _ _ | rfl)) | exact lw_any | exact lw_int | exact lw_bool | exact lw_ptr rfl | exact lw_slo rfl | exact lw_nils | exact lw_slo_nils | exact lw_sl rfl | exact lw_noid rfl | exact lw_cap rfl (Nat.le_refl _) | refine lw_tup ?_ | refine lw_agg ?_ | assumption))⟩
        · exact ⟨rfl, ⟨k + 1, h0⟩, by simp only; omega, [.id 0, .id 1, .id 2], by simp only [no (fun h => ho h.2)]; (refine ⟨by kernel_rfl, ?_, ?_⟩ <;> repeat (first | exact okTms_nil | refine okTms_cons ?_ ?_ | exact okBlks_nil | refine okBlks_cons ?_ ?_ | exact lws_nil | refine lws_cons ?_ ?_ | exact lb_dead | exact lb_same (by (first | assumption | exact noIds_encL (fun _ => rfl) _ | exact noIds_tab (fun _ => rfl) _ _ | rfl)) | exact lb_ro (by (first | assumption | exact noIds_encL (fun _ => rfl) _ | exact noIds_tab (fun _ => rfl) _ _ | rfl)) | exact lb_none | refine lb_cells ?_ (by simp) | exact lb_cap (Nat.le_refl _) (Nat.le_refl _) rfl rfl | exact lb_capn (by assumption) (by (first | assumption | exact noIds_encL (fun _ => rfl) _ | exact noIds_tab (fun _ => rfl) _ _ | rfl)) | exact lw_any | exact lw_int | exact lw_bool | exact lw_ptr rfl | exact lw_slo rfl | exact lw_nils | exact lw_slo_nils | exact lw_sl rfl | exact lw_noid rfl | exact lw_cap rfl (Nat.le_refl _) | refine lw_tup ?_ | refine lw_agg ?_ | assumption))⟩
      · exact ⟨rfl, ⟨k + 1, h0⟩, by simp only; omega, [.id 0, .id 1, .id 2], by simp only [no (fun h => by rw [hh] at h; exact Bool.false_ne_true h.1)]; (refine ⟨by kernel_rfl, ?_, ?_⟩ <;> repeat (first | exact okTms_nil | refine okTms_cons ?_ ?_ | exact okBlks_nil | refine okBlks_cons ?_ ?_ | exact lws_nil | refine lws_cons ?_ ?_ | exact lb_dead | exact lb_same (by (first | assumption | exact noIds_encL (fun _ => rfl) _ | exact noIds_tab (fun _ => rfl) _ _ | rfl)) | exact lb_ro (by (first | assumption | exact noIds_encL (fun _ => rfl) _ | exact noIds_tab (fun _ => rfl) _ _ | rfl)) | exact lb_none | refine lb_cells ?_ (by simp) | exact lb_cap (Nat.le_refl _) (Nat.le_refl _) rfl rfl | exact lb_capn (by assumption) (by (first | assumption | exact noIds_encL (fun _ => rfl) _ | exact noIds_tab (fun _ => rfl) _ _ | rfl)) | exact lw_any | exact lw_int | exact lw_bool | exact lw_ptr rfl | exact lw_slo rfl | exact lw_nils | exact lw_slo_nils | exact lw_sl rfl | exact lw_noid rfl | exact lw_cap rfl (Nat.le_refl _) | refine lw_tup ?_ | refine lw_agg ?_ | assumption))⟩
    · obtain rfl : k = n := by omega
      exact ⟨rfl, (), [.id 0, .id 1, .id 2], by (refine ⟨by kernel_rfl, ?_, ?_⟩ <;> repeat (first | exact okTms_nil | refine okTms_cons ?_ ?_ | exact okBlks_nil | refine okBlks_cons ?_ ?_ | exact lws_nil | refine lws_cons ?_ ?_ | exact lb_dead | exact lb_same (by (first | assumption | exact noIds_encL (fun _ => rfl) _ | exact noIds_tab (fun _ => rfl) _ _ | rfl)) | exact lb_ro (by (first | assumption | exact noIds_encL (fun _ => rfl) _ | exact noIds_tab (fun _ => rfl) _ _ | rfl)) | exact lb_none | refine lb_cells ?_ (by simp) | exact lb_cap (Nat.le_refl _) (Nat.le_refl _) rfl rfl | exact lb_capn (by assumption) (by (first | assumption | exact noIds_encL (fun _ => rfl) _ | exact noIds_tab (fun _ => rfl) _ _ | rfl)) | exact lw_any | exact lw_int | exact lw_bool | exact lw_ptr rfl | exact lw_slo rfl | exact lw_nils | exact lw_slo_nils | exact lw_sl rfl | exact lw_noid rfl | exact lw_cap rfl (Nat.le_refl _) | refine lw_tup ?_ | refine lw_agg ?_ | assumption))⟩
  refine SSp.last noCx_ok (n := 40) (mkS_le (by simp)) ?_
  rw [he_z]
  exact ⟨trivial, rfl, _, _, [.id 0, .id 1, .id 2], ⟨rfl, rfl⟩, by (refine ⟨by kernel_rfl, ?_, ?_⟩ <;> repeat (first | exact okTms_nil | refine okTms_cons ?_ ?_ | exact okBlks_nil | refine okBlks_cons ?_ ?_ | exact lws_nil | refine lws_cons ?_ ?_ | exact lb_dead | exact lb_same (by (first | assumption | exact noIds_encL (fun _ => rfl) _ | exact noIds_tab (fun _ => rfl) _ _ | rfl)) | exact lb_ro (by (first | assumption | exact noIds_encL (fun _ => rfl) _ | exact noIds_tab (fun _ => rfl) _ _ | rfl)) | exact lb_none | refine lb_cells ?_ (by simp) | exact lb_cap (Nat.le_refl _) (Nat.le_refl _) rfl rfl | exact lb_capn (by assumption) (by (first | assumption | exact noIds_encL (fun _ => rfl) _ | exact noIds_tab (fun _ => rfl) _ _ | rfl)) | exact lw_any | exact lw_int | exact lw_bool | exact lw_ptr rfl | exact lw_slo rfl | exact lw_nils | exact lw_slo_nils | exact lw_sl rfl | exact lw_noid rfl | exact lw_cap rfl (Nat.le_refl _) | refine lw_tup ?_ | refine lw_agg ?_ | assumption))⟩
end
end Go.Lev
