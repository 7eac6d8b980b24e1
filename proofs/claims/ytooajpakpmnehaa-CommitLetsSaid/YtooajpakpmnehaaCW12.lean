/- chapter 25: the reference's Put; New; trees of alone -/
import Derived.Test.YtooajpakpmnehaaCW11
import Derived.Test.YtooajpakpmnehaaLc
import Derived.Test.YtooajpakpmnehaaChecked
import Derived.KernelRfl

namespace Go.Lev
open Go.RowKit
set_option linter.unusedVariables false
set_option linter.unusedSimpArgs false
set_option maxRecDepth 100000
noncomputable section
/-! Place, Put -/
def plcW (cs : List LV) (n : Nat) (a : Int) : Int := idxI ((decC cs).map Prod.fst) a

abbrev plL : List Nat := [0, 1, 4, 5]
abbrev plT (a : Int) (n k : Nat) : List (Nat × LV) := [(0, .slo 0 0 n 0), (1, .int .i64 a), (5, .int .i64 k)]
theorem pl_a (a : Int) (n : Nat) (cs : List LV) (K : Pk) : (xsp Go.Proofs.Try.prog (fun _ => none) 40 20 (seg (sp Go.Proofs.Try.prog 63) 0 2) (tm0 [.slo 0 0 n 0, .int .i64 a]) (mkS [.cells cs (some 2)]) (vK plL K)) = (
 K .normal [.slo 0 0 n 0, .int .i64 a, .int .i64 0, .int .i64 0] [some (.cells cs (some 2))] []) := by kernel_rfl
theorem pl_b (a : Int) (n k : Nat) (cs : List LV) (K : Pk) : (xcode Go.Proofs.Try.prog (fun _ => none) 40 20 (loopOf (nthC (sp Go.Proofs.Try.prog 63) 2)) (mkTm 20 (plT a n k)) (mkS [.cells cs (some 2)]) (vK plL K)) = (
 bif xcm .lss ↑k ↑n then (
 bif xle (xadd (xnat ↑k) 1) n then bif xle (xadd (xix 0 (xnat ↑k) 2) 1) (xln cs) then bif isI .i64 (nthD cs (xix 0 (xnat ↑k) 2)) then bif xcm .eql (asI (nthD cs (xix 0 (xnat ↑k) 2))) a then (
 K .ret [.slo 0 0 n 0, .int .i64 a, .int .i64 ↑k, .int .i64 ↑k] [some (.cells cs (some 2))] [])
 else (
 K .normal [.slo 0 0 n 0, .int .i64 a, .any, .int .i64 (xar .add .i64 (↑k) 1)] [some (.cells cs (some 2))] []) else False else False else False)
 else (
 K (.exit 0) [.slo 0 0 n 0, .int .i64 a, .any, .int .i64 ↑k] [some (.cells cs (some 2))] [])) := by kernel_rfl
theorem pl_z (cs : List LV) (K : Pk) : (xsp Go.Proofs.Try.prog (fun _ => none) 40 20 ((sp Go.Proofs.Try.prog 63).drop 3) (mkTm 20 []) (mkS [.cells cs (some 2)]) (vK plL K)) = (
 K .ret [.any, .any, .int .i64 (-1), .any] [some (.cells cs (some 2))] []) := by kernel_rfl
theorem place_ok (a : Int) (xs : List (Int × Int)) (hn : xs.length ≤ 9223372036854775807) : SFun Go.Proofs.Try.prog 63 [.slo 0 0 xs.length 0, .int .i64 a] (mkS [.cells (encL cell xs) (some 2)]) fun l s => l = .int .i64 (idxI (xs.map Prod.fst) a) ∧ s = mkS [.cells (encL cell xs) (some 2)] := by
  refine SFun.mono (SFun.pieces (Q := fun l b => l = .int .i64 (idxI (xs.map Prod.fst) a) ∧ b = [.cells (encL cell xs) (some 2)]) 20 1 plL [4] (by kernel_rfl) rfl rfl rfl ?_) fun l s' ⟨b0, ⟨h1, h2⟩, h3⟩ => ⟨h1, by rw [h3, h2]⟩
  have nx := noids_c xs
  have tl : (xs.map Prod.fst).length = xs.length := by simp
  refine SSp.to noCx_ok (n := 40) (g := []) 2 2 rfl (σ := Unit) (fun _ => plT a xs.length 0) (fun _ => [.cells (encL cell xs) (some 2)]) (mkS_le (Nat.le_refl _)) (by kernel_rfl) ?_ fun _ => ?_
  · rw [pl_a]; exact ⟨rfl, (), [.id 0], by (refine ⟨by kernel_rfl, ?_, ?_⟩ <;> repeat first | exact okTms_nil | refine okTms_cons ?_ ?_ | exact okBlks_nil | refine okBlks_cons ?_ ?_ | exact lws_nil | refine lws_cons ?_ ?_ | exact lb_dead | exact zy1 | exact zy2 | exact lb_none | refine zy3 ?_ | exact zy4 | exact lw_any | exact lw_int | exact lw_bool | exact zy5 | exact zy6 | exact lw_nils | exact lw_slo_nils | exact zy7 | exact zy8 | exact zy9 | refine lw_tup ?_ | refine lw_agg ?_ | assumption)⟩
  refine SSp.code_to (g := []) 3 rfl (σ := {_k : Unit // idxOf (xs.map Prod.fst) a = none}) (fun _ => []) (fun _ => [.cells (encL cell xs) (some 2)]) (by kernel_rfl) ?_ fun ⟨_, hs⟩ => ?_
  · refine SCode.loop_vc noCx_ok (n := 40) 0 (by kernel_rfl) (σ := {i : Nat // i ≤ xs.length ∧ ∀ j (hj : j < (xs.map Prod.fst).length), j < i → (xs.map Prod.fst)[j] ≠ a}) (fun i => plT a xs.length i.1) (fun _ => [.cells (encL cell xs) (some 2)]) (fun i => xs.length - i.1) (fun _ => Nat.le_of_ble_eq_true rfl) (fun ⟨i, hi, hall⟩ => ?_) ⟨0, Nat.zero_le _, fun j hj h => absurd h (by omega)⟩
    dsimp only
    rw [pl_b, wd_lss]
    refine ite_way (fun hk => ?_) (fun hk => ?_)
    · have e3 : xar .add .i64 (i : Int) 1 = ((i + 1 : Nat) : Int) := inc_i64 hk hn
      have et : (xs.map Prod.fst)[i]'(by omega) = xs[i].1 := by simp
      simp only [wd_nat, wd_asV, wd_isV, wd_ix, wd_add, wd_mul, wd_ln, Nat.zero_add, Nat.mul_one, wd_isI, wd_asI, wd_isB, wd_asB, wd_nn, cI_tlen, cB_tlen, cII_tlen, decide_true, cond_true, wd_not_t, wd_not_f, wd_and_t, wd_and_f, cell_0 hk, cell_n, e3]
      (with_reducible repeat first | refine zq1 ?_ | refine zq2 ?_ | refine zq3 ?_ | refine zq4 ?_ | refine zq5 ?_ | refine zq6 ?_ | refine zq7 ?_ | refine zq8 ?_ | refine zq9 ?_ | refine zqa ?_ | refine zqb ?_ | refine zqc ?_ | refine zqd ?_ | refine zqe ?_ | refine zqf ?_ | refine zqg ?_ | refine zqh ?_ | refine zqi ?_ | refine zqj ?_ | refine zqk ?_ | refine zql ?_ | refine zqm ?_ | refine zqn ?_ | refine zqo ?_ | refine zqp ?_)
      refine ways (fun h1 => ?_) (fun h1 => ?_)
      · have h1' : xs[i].1 = a := by simpa [xcm_eql] using h1
        have : idxI (xs.map Prod.fst) a = (i : Int) := by rw [idxI, idxOf_some (by omega : i < (xs.map Prod.fst).length) hall (by rw [et, h1'])]
        exact ⟨trivial, rfl, _, _, [.id 0], ⟨rfl, rfl⟩, by rw [this]; (refine ⟨by kernel_rfl, ?_, ?_⟩ <;> repeat first | exact okTms_nil | refine okTms_cons ?_ ?_ | exact okBlks_nil | refine okBlks_cons ?_ ?_ | exact lws_nil | refine lws_cons ?_ ?_ | exact lb_dead | exact zy1 | exact zy2 | exact lb_none | refine zy3 ?_ | exact zy4 | exact lw_any | exact lw_int | exact lw_bool | exact zy5 | exact zy6 | exact lw_nils | exact lw_slo_nils | exact zy7 | exact zy8 | exact zy9 | refine lw_tup ?_ | refine lw_agg ?_ | assumption)⟩
      · have h1' : ¬ xs[i].1 = a := by simpa [xcm_eql] using h1
        refine ⟨rfl, ⟨i + 1, hk, fun j hj hji => ?_⟩, by simp only; omega, [.id 0], by (refine ⟨by kernel_rfl, ?_, ?_⟩ <;> repeat first | exact okTms_nil | refine okTms_cons ?_ ?_ | exact okBlks_nil | refine okBlks_cons ?_ ?_ | exact lws_nil | refine lws_cons ?_ ?_ | exact lb_dead | exact zy1 | exact zy2 | exact lb_none | refine zy3 ?_ | exact zy4 | exact lw_any | exact lw_int | exact lw_bool | exact zy5 | exact zy6 | exact lw_nils | exact lw_slo_nils | exact zy7 | exact zy8 | exact zy9 | refine lw_tup ?_ | refine lw_agg ?_ | assumption)⟩
        rcases Nat.lt_succ_iff_lt_or_eq.1 hji with h | rfl
        · exact hall j hj h
        · rw [et]; exact h1'
    · refine ⟨rfl, ⟨(), idxOf_none fun j hj => hall j hj (by omega)⟩, [.id 0], by (refine ⟨by kernel_rfl, ?_, ?_⟩ <;> repeat first | exact okTms_nil | refine okTms_cons ?_ ?_ | exact okBlks_nil | refine okBlks_cons ?_ ?_ | exact lws_nil | refine lws_cons ?_ ?_ | exact lb_dead | exact zy1 | exact zy2 | exact lb_none | refine zy3 ?_ | exact zy4 | exact lw_any | exact lw_int | exact lw_bool | exact zy5 | exact zy6 | exact lw_nils | exact lw_slo_nils | exact zy7 | exact zy8 | exact zy9 | refine lw_tup ?_ | refine lw_agg ?_ | assumption)⟩
  refine SSp.last noCx_ok (n := 40) (mkS_le (Nat.le_of_ble_eq_true rfl)) ?_
  rw [pl_z]
  exact ⟨trivial, rfl, _, _, [.id 0], ⟨rfl, rfl⟩, by rw [idxI, hs]; (refine ⟨by kernel_rfl, ?_, ?_⟩ <;> repeat first | exact okTms_nil | refine okTms_cons ?_ ?_ | exact okBlks_nil | refine okBlks_cons ?_ ?_ | exact lws_nil | refine lws_cons ?_ ?_ | exact lb_dead | exact zy1 | exact zy2 | exact lb_none | refine zy3 ?_ | exact zy4 | exact lw_any | exact lw_int | exact lw_bool | exact zy5 | exact zy6 | exact lw_nils | exact lw_slo_nils | exact zy7 | exact zy8 | exact zy9 | refine lw_tup ?_ | refine lw_agg ?_ | assumption)⟩
theorem place_c (a : Int) (n : Nat) (cs : List LV) (k1 : okC cs n = true) : SFun Go.Proofs.Try.prog 63 [.slo 0 0 n 0, .int .i64 a] (mkS [.cells cs (some 2)]) fun l s => l = .int .i64 (plcW cs n a) ∧ s = mkS [.cells cs (some 2)] := by
  obtain ⟨xs, rfl, rfl, h2⟩ := okC_iff.1 k1
  rw [plcW, decC_enc]
  exact place_ok a xs h2
def placeG : Gc := fun args s => match args, s.g with
  | [.slo b 0 n 0, .int .i64 a], [] => (match s.h.get b with
    | some (.cells cs (some 2)) => (match s.lay [b] [.cells cs (some 2)] [] with
      | some s' => some ([okC cs n], .int .i64 (plcW cs n a), s')
      | none => none)
    | _ => none)
  | _, _ => none
theorem placeG_ok : GOk Go.Proofs.Try.prog 63 placeG := by
  intro args s bs l s' hg hb hfr
  unfold placeG at hg
  split at hg
  · rename_i b n a hgl
    split at hg
    · rename_i cs hb0
      split at hg
      · rename_i s1 hs1
        simp only [Option.some.injEq, Prod.mk.injEq] at hg
        obtain ⟨rfl, rfl, rfl⟩ := hg
        simp only [allT_cons] at hb
        obtain ⟨k1, _⟩ := hb
        have no : noIds cs = true := noids_ok k1
        refine SFun.lay (bs := [.cells cs (some 2)]) (args0 := [.slo 0 0 n 0, .int .i64 a]) (bs' := [.cells cs (some 2)]) (v0 := .int .i64 (plcW cs n a)) hfr hs1 (by simp)
          ⟨⟨there hfr hb0, _, hb0, by (first | exact lb_dead | exact lb_same (by (first | assumption | exact noIds_tab (fun _ => rfl) _ _ | exact noIds_encL (fun _ => rfl) _ | rfl)) | exact lb_ro (by (first | assumption | exact noIds_tab (fun _ => rfl) _ _ | exact noIds_encL (fun _ => rfl) _ | rfl)) | exact lb_none | exact lb_cells (by ((repeat refine lws_cons (by (first | exact lw_any | exact lw_int | exact lw_bool | exact lw_ptr rfl | exact lw_slo rfl | exact lw_nilp | exact lw_nils | exact lw_str | exact lw_slo_nils | exact lw_slo_sle | exact lw_sl rfl | exact lw_unb | exact lw_gptr | exact lw_noid rfl | exact lw_cap rfl (Nat.le_refl _) | exact lw_cap rfl (by omega) | assumption | exact lw_tup (by ((repeat refine lws_cons (by (first | exact lw_any | exact lw_int | exact lw_bool | exact lw_ptr rfl | exact lw_slo rfl | exact lw_nilp | exact lw_nils | exact lw_str | exact lw_slo_nils | exact lw_slo_sle | exact lw_sl rfl | exact lw_unb | exact lw_gptr | exact lw_noid rfl | exact lw_cap rfl (Nat.le_refl _) | exact lw_cap rfl (by omega) | assumption)) ?_); exact lws_nil)))) ?_); exact lws_nil)) (by simp) | exact lb_iter | exact lb_cap (Nat.le_refl _) (Nat.le_refl _) rfl rfl | exact lb_capn (by assumption) (by (first | assumption | exact noIds_tab (fun _ => rfl) _ _ | exact noIds_encL (fun _ => rfl) _ | rfl)) | assumption), fun κ hκ => by (first | exact lb_dead | exact lb_same (by (first | assumption | exact noIds_tab (fun _ => rfl) _ _ | exact noIds_encL (fun _ => rfl) _ | rfl)) | exact lb_ro (by (first | assumption | exact noIds_tab (fun _ => rfl) _ _ | exact noIds_encL (fun _ => rfl) _ | rfl)) | exact lb_none | exact lb_cells (by ((repeat refine lws_cons (by (first | exact lw_any | exact lw_int | exact lw_bool | exact lw_ptr rfl | exact lw_slo rfl | exact lw_nilp | exact lw_nils | exact lw_str | exact lw_slo_nils | exact lw_slo_sle | exact lw_sl rfl | exact lw_unb | exact lw_gptr | exact lw_noid rfl | exact lw_cap rfl (Nat.le_refl _) | exact lw_cap rfl (by omega) | assumption | exact lw_tup (by ((repeat refine lws_cons (by (first | exact lw_any | exact lw_int | exact lw_bool | exact lw_ptr rfl | exact lw_slo rfl | exact lw_nilp | exact lw_nils | exact lw_str | exact lw_slo_nils | exact lw_slo_sle | exact lw_sl rfl | exact lw_unb | exact lw_gptr | exact lw_noid rfl | exact lw_cap rfl (Nat.le_refl _) | exact lw_cap rfl (by omega) | assumption)) ?_); exact lws_nil)))) ?_); exact lws_nil)) (by simp) | exact lb_iter | exact lb_cap (Nat.le_refl _) (Nat.le_refl _) rfl rfl | exact lb_capn (by assumption) (by (first | assumption | exact noIds_tab (fun _ => rfl) _ _ | exact noIds_encL (fun _ => rfl) _ | rfl)) | assumption)⟩, trivial⟩ (by ((repeat refine lws_cons (by (first | exact lw_any | exact lw_int | exact lw_bool | exact lw_ptr rfl | exact lw_slo rfl | exact lw_nilp | exact lw_nils | exact lw_str | exact lw_slo_nils | exact lw_slo_sle | exact lw_sl rfl | exact lw_unb | exact lw_gptr | exact lw_noid rfl | exact lw_cap rfl (Nat.le_refl _) | exact lw_cap rfl (by omega) | assumption | exact lw_tup (by ((repeat refine lws_cons (by (first | exact lw_any | exact lw_int | exact lw_bool | exact lw_ptr rfl | exact lw_slo rfl | exact lw_nilp | exact lw_nils | exact lw_str | exact lw_slo_nils | exact lw_slo_sle | exact lw_sl rfl | exact lw_unb | exact lw_gptr | exact lw_noid rfl | exact lw_cap rfl (Nat.le_refl _) | exact lw_cap rfl (by omega) | assumption)) ?_); exact lws_nil)))) ?_); exact lws_nil)) ?_
          fun κ h1 h2 => ⟨⟨by (first | exact lb_dead | exact lb_same (by (first | assumption | exact noIds_tab (fun _ => rfl) _ _ | exact noIds_encL (fun _ => rfl) _ | rfl)) | exact lb_ro (by (first | assumption | exact noIds_tab (fun _ => rfl) _ _ | exact noIds_encL (fun _ => rfl) _ | rfl)) | exact lb_none | exact lb_cells (by ((repeat refine lws_cons (by (first | exact lw_any | exact lw_int | exact lw_bool | exact lw_ptr rfl | exact lw_slo rfl | exact lw_nilp | exact lw_nils | exact lw_str | exact lw_slo_nils | exact lw_slo_sle | exact lw_sl rfl | exact lw_unb | exact lw_gptr | exact lw_noid rfl | exact lw_cap rfl (Nat.le_refl _) | exact lw_cap rfl (by omega) | assumption | exact lw_tup (by ((repeat refine lws_cons (by (first | exact lw_any | exact lw_int | exact lw_bool | exact lw_ptr rfl | exact lw_slo rfl | exact lw_nilp | exact lw_nils | exact lw_str | exact lw_slo_nils | exact lw_slo_sle | exact lw_sl rfl | exact lw_unb | exact lw_gptr | exact lw_noid rfl | exact lw_cap rfl (Nat.le_refl _) | exact lw_cap rfl (by omega) | assumption)) ?_); exact lws_nil)))) ?_); exact lws_nil)) (by simp) | exact lb_iter | exact lb_cap (Nat.le_refl _) (Nat.le_refl _) rfl rfl | exact lb_capn (by assumption) (by (first | assumption | exact noIds_tab (fun _ => rfl) _ _ | exact noIds_encL (fun _ => rfl) _ | rfl)) | assumption), trivial⟩, lw_int⟩
        rw [hgl]; exact (place_c a n cs k1)
      · cases hg
    · cases hg
  · cases hg
/-- A cell put into a row. -/
def putL (xs : List (Int × Int)) (a v : Int) : List (Int × Int) := match idxOf (xs.map Prod.fst) a with
  | some i => xs.set i ((xs.getD i q0).1, v)
  | none => xs ++ [(a, v)]
def putN (cs : List LV) (a v : Int) : Nat := (putL (decC cs) a v).length

def putC (cs : List LV) (a v : Int) : List LV := encL cell (putL (decC cs) a v)

def cxq : Cx := cxl [(63, placeG)]
abbrev ptL : List Nat := [1, 2, 6, 7]
abbrev ptT (n : Nat) (a v : Int) : List (Nat × LV) := [(1, .int .i64 a), (2, .int .u64 v), (7, .slo 1 0 n 0)]
abbrev ptH (cs : List LV) : List LB := [.cells cs (some 2), .cells cs (some 2)]
theorem pt_a (n : Nat) (a v : Int) (cs : List LV) (K : Pk) : (xsp Go.Proofs.Try.prog cxq 40 28 (seg (sp Go.Proofs.Try.prog 24) 0 2) (tm0 [.slo 0 0 n 0, .int .i64 a, .int .u64 v]) (mkS [.cells cs (some 2)]) (vK ptL K)) = (
 bif xle (xadd 0 (xmul n 2)) (xln cs) then bif xz n then (
 K .normal [.int .i64 a, .int .u64 v, .nils, .nils] [some (.cells cs (some 2))] [])
 else (
 bif xle n 1000000 then
 K .normal [.int .i64 a, .int .u64 v, .nils, .slo 1 0 n 0] [some (.cells cs (some 2)), some (.cells (xcut cs 0 (xmul n 2)) (some 2))] [] else False) else False) := by kernel_rfl
theorem pt_z (n : Nat) (a v : Int) (cs : List LV) (K : Pk) : (xsp Go.Proofs.Try.prog cxq 40 28 ((sp Go.Proofs.Try.prog 24).drop 2) (mkTm 28 (ptT n a v)) (mkS (ptH cs)) (vK ptL K)) = (
 bif okC cs n then bif xcm .geq (plcW cs n a) 0 then (
 bif xnn (plcW cs n a) then bif xle (xadd (xnat (plcW cs n a)) 1) n then bif xle (xadd (xadd (xix 0 (xnat (plcW cs n a)) 2) 1) 1) (xln cs) then
 K .ret [.int .i64 a, .int .u64 v, .slo 1 0 n 0, .slo 1 0 n 0] [some (.cells cs (some 2)), some (.cells (xlay cs (xadd (xix 0 (xnat (plcW cs n a)) 2) 1) [.int .u64 v]) (some 2))] [] else False else False else False)
 else (
 bif xle (xadd n 1) 1000000 then bif xle (xadd 0 (xmul n 2)) (xln cs) then
 K .ret [.int .i64 a, .int .u64 v, .slo 3 0 (xadd n 1) 0, .slo 1 0 n 0] [some (.cells cs (some 2)), some .dead, some (.cells [.int .i64 a, .int .u64 v] none), some (.cells (xcat (xcut cs 0 (xmul n 2)) [.int .i64 a, .int .u64 v]) (some 2))] [] else False else False) else False) := by kernel_rfl
theorem cxq_ok : CtrOk Go.Proofs.Try.prog (ctrOf cxq) := cxl_ok ⟨placeG_ok, trivial⟩
theorem putL_len (xs : List (Int × Int)) (a v : Int) : xs.length ≤ (putL xs a v).length ∧ (putL xs a v).length ≤ xs.length + 1 := by
  unfold putL; split <;> simp
theorem put_ok (xs : List (Int × Int)) (a v : Int) (hn : xs.length < 1000000) : SFun Go.Proofs.Try.prog 24 [.slo 0 0 xs.length 0, .int .i64 a, .int .u64 v] (mkS [.cells (encL cell xs) (some 2)]) fun l s => l = .slo 1 0 (putL xs a v).length 0 ∧ s = mkS [.cells (encL cell xs) (some 2), .cells (encL cell (putL xs a v)) (some 2)] := by
  refine SFun.mono (SFun.pieces (Q := fun l b => l = .slo 1 0 (putL xs a v).length 0 ∧ b = [.cells (encL cell xs) (some 2), .cells (encL cell (putL xs a v)) (some 2)]) 28 1 ptL [6] (by kernel_rfl) rfl rfl rfl ?_) fun l s' ⟨b0, ⟨h1, h2⟩, h3⟩ => ⟨h1, by rw [h3, h2]⟩
  have nx := noids_c xs
  have lx := cell_n xs
  have xn := xnoid_c xs
  have xa : xcut (encL cell xs) 0 (xs.length * 2) = encL cell xs := xcut_all (by omega)
  refine SSp.to cxq_ok (n := 40) (g := []) 2 2 rfl (σ := Unit) (fun _ => ptT xs.length a v) (fun _ => ptH (encL cell xs)) (mkS_le (Nat.le_refl _)) (by kernel_rfl) ?_ fun _ => ?_
  · rw [pt_a]
    simp only [wd_nat, wd_asV, wd_isV, wd_ix, wd_add, wd_mul, wd_ln, Nat.zero_add, Nat.mul_one, wd_isI, wd_asI, wd_isB, wd_asB, wd_nn, cI_tlen, cB_tlen, cII_tlen, decide_true, cond_true, wd_not_t, wd_not_f, wd_and_t, wd_and_f, lx, xn, xa]
    (repeat (with_reducible refine must (by (first | with_reducible rfl | exact t_le (by omega) | exact t_eq (by omega) | exact t_nn (by omega) | exact t_lss (by omega) | exact t_leq (by omega) | exact t_gtr (by omega) | exact t_geq (by omega) | exact t_eql (by omega) | exact t_neq (by omega) | exact t_z (by omega) | exact wd_not_f | assumption)) ?_))
    refine ways (fun z => ?_) (fun z => ?_)
    · have z' : xs.length = 0 := by simpa [wd_z] using z
      obtain rfl := List.length_eq_zero_iff.1 z'
      exact ⟨rfl, (), [.id 0, .none], by (refine ⟨by kernel_rfl, ?_, ?_⟩ <;> repeat first | exact okTms_nil | refine okTms_cons ?_ ?_ | exact okBlks_nil | refine okBlks_cons ?_ ?_ | exact lws_nil | refine lws_cons ?_ ?_ | exact lb_dead | exact zy1 | exact zy2 | exact lb_none | refine zy3 ?_ | exact zy4 | exact lw_any | exact lw_int | exact lw_bool | exact zy5 | exact zy6 | exact lw_nils | exact lw_slo_nils | exact zy7 | exact zy8 | exact zy9 | refine lw_tup ?_ | refine lw_agg ?_ | assumption)⟩
    · (with_reducible repeat first | refine zq1 ?_ | refine zq2 ?_ | refine zq3 ?_ | refine zq4 ?_ | refine zq5 ?_ | refine zq6 ?_ | refine zq7 ?_ | refine zq8 ?_ | refine zq9 ?_ | refine zqa ?_ | refine zqb ?_ | refine zqc ?_ | refine zqd ?_ | refine zqe ?_ | refine zqf ?_ | refine zqg ?_ | refine zqh ?_ | refine zqi ?_ | refine zqj ?_ | refine zqk ?_ | refine zql ?_ | refine zqm ?_ | refine zqn ?_ | refine zqo ?_ | refine zqp ?_)
      exact ⟨rfl, (), [.id 0, .id 1], by (refine ⟨by kernel_rfl, ?_, ?_⟩ <;> repeat first | exact okTms_nil | refine okTms_cons ?_ ?_ | exact okBlks_nil | refine okBlks_cons ?_ ?_ | exact lws_nil | refine lws_cons ?_ ?_ | exact lb_dead | exact zy1 | exact zy2 | exact lb_none | refine zy3 ?_ | exact zy4 | exact lw_any | exact lw_int | exact lw_bool | exact zy5 | exact zy6 | exact lw_nils | exact lw_slo_nils | exact zy7 | exact zy8 | exact zy9 | refine lw_tup ?_ | refine lw_agg ?_ | assumption)⟩
  refine SSp.last cxq_ok (n := 40) (mkS_le (Nat.le_of_ble_eq_true rfl)) ?_
  rw [pt_z]
  have ok : okC (encL cell xs) xs.length = true := okC_enc (by omega)
  have e1 : plcW (encL cell xs) xs.length a = idxI (xs.map Prod.fst) a := by rw [plcW, decC_enc]
  simp only [wd_nat, wd_asV, wd_isV, wd_ix, wd_add, wd_mul, wd_ln, Nat.zero_add, Nat.mul_one, wd_isI, wd_asI, wd_isB, wd_asB, wd_nn, cI_tlen, cB_tlen, cII_tlen, decide_true, cond_true, wd_not_t, wd_not_f, wd_and_t, wd_and_f, ok, e1, lx]
  cases hi : idxOf (xs.map Prod.fst) a with
  | none =>
    have e2 : idxI (xs.map Prod.fst) a = -1 := by rw [idxI, hi]
    have e3 : putL xs a v = xs ++ [(a, v)] := by rw [putL, hi]
    have nz := noids_c (xs ++ [(a, v)])
    simp only [e2, e3]
    simp only [wd_nat, wd_asV, wd_isV, wd_ix, wd_add, wd_mul, wd_ln, Nat.zero_add, Nat.mul_one, wd_isI, wd_asI, wd_isB, wd_asB, wd_nn, cI_tlen, cB_tlen, cII_tlen, decide_true, cond_true, wd_not_t, wd_not_f, wd_and_t, wd_and_f, cell_push, List.length_append, List.length_cons, List.length_nil]
    (with_reducible repeat first | refine zq1 ?_ | refine zq2 ?_ | refine zq3 ?_ | refine zq4 ?_ | refine zq5 ?_ | refine zq6 ?_ | refine zq7 ?_ | refine zq8 ?_ | refine zq9 ?_ | refine zqa ?_ | refine zqb ?_ | refine zqc ?_ | refine zqd ?_ | refine zqe ?_ | refine zqf ?_ | refine zqg ?_ | refine zqh ?_ | refine zqi ?_ | refine zqj ?_ | refine zqk ?_ | refine zql ?_ | refine zqm ?_ | refine zqn ?_ | refine zqo ?_ | refine zqp ?_)
    exact ⟨trivial, rfl, _, _, [.id 0, .id 3], ⟨rfl, rfl⟩, by (refine ⟨by kernel_rfl, ?_, ?_⟩ <;> repeat first | exact okTms_nil | refine okTms_cons ?_ ?_ | exact okBlks_nil | refine okBlks_cons ?_ ?_ | exact lws_nil | refine lws_cons ?_ ?_ | exact lb_dead | exact zy1 | exact zy2 | exact lb_none | refine zy3 ?_ | exact zy4 | exact lw_any | exact lw_int | exact lw_bool | exact zy5 | exact zy6 | exact lw_nils | exact lw_slo_nils | exact zy7 | exact zy8 | exact zy9 | refine lw_tup ?_ | refine lw_agg ?_ | assumption)⟩
  | some i =>
    obtain ⟨hx, _⟩ := idxOf_lt hi
    have hix : i < xs.length := by simpa using hx
    have e2 : idxI (xs.map Prod.fst) a = (i : Int) := by rw [idxI, hi]
    have e3 : putL xs a v = xs.set i ((xs.getD i q0).1, v) := by rw [putL, hi]
    have e4 : xlay (encL cell xs) (i * 2 + 1) [.int .u64 v] = encL cell (xs.set i ((xs.getD i q0).1, v)) := by
      rw [getD_q hix]
      exact encL_set1 cell_len (y := (xs[i].1, v)) hix (j := 1) (by omega) rfl
    have nz := noids_c (xs.set i ((xs.getD i q0).1, v))
    have ll : (xs.set i ((xs.getD i q0).1, v)).length = xs.length := by simp
    simp only [e2, e3]
    simp only [wd_nat, wd_asV, wd_isV, wd_ix, wd_add, wd_mul, wd_ln, Nat.zero_add, Nat.mul_one, wd_isI, wd_asI, wd_isB, wd_asB, wd_nn, cI_tlen, cB_tlen, cII_tlen, decide_true, cond_true, wd_not_t, wd_not_f, wd_and_t, wd_and_f, e4, ll, lx]
    (with_reducible repeat first | refine zq1 ?_ | refine zq2 ?_ | refine zq3 ?_ | refine zq4 ?_ | refine zq5 ?_ | refine zq6 ?_ | refine zq7 ?_ | refine zq8 ?_ | refine zq9 ?_ | refine zqa ?_ | refine zqb ?_ | refine zqc ?_ | refine zqd ?_ | refine zqe ?_ | refine zqf ?_ | refine zqg ?_ | refine zqh ?_ | refine zqi ?_ | refine zqj ?_ | refine zqk ?_ | refine zql ?_ | refine zqm ?_ | refine zqn ?_ | refine zqo ?_ | refine zqp ?_)
    exact ⟨trivial, rfl, _, _, [.id 0, .id 1], ⟨rfl, rfl⟩, by (refine ⟨by kernel_rfl, ?_, ?_⟩ <;> repeat first | exact okTms_nil | refine okTms_cons ?_ ?_ | exact okBlks_nil | refine okBlks_cons ?_ ?_ | exact lws_nil | refine lws_cons ?_ ?_ | exact lb_dead | exact zy1 | exact zy2 | exact lb_none | refine zy3 ?_ | exact zy4 | exact lw_any | exact lw_int | exact lw_bool | exact zy5 | exact zy6 | exact lw_nils | exact lw_slo_nils | exact zy7 | exact zy8 | exact zy9 | refine lw_tup ?_ | refine lw_agg ?_ | assumption)⟩
theorem put_c (n : Nat) (a v : Int) (cs : List LV) (k1 : okC cs n = true) (k2 : xle n 99999 = true) : SFun Go.Proofs.Try.prog 24 [.slo 0 0 n 0, .int .i64 a, .int .u64 v] (mkS [.cells cs (some 2)]) fun l s => l = .slo 1 0 (putN cs a v) 0 ∧ s = mkS [.cells cs (some 2), .cells (putC cs a v) (some 2)] := by
  obtain ⟨xs, rfl, rfl, h2⟩ := okC_iff.1 k1
  rw [wd_le, decide_eq_true_eq] at k2
  simp only [putN, putC, decC_enc]
  exact put_ok xs a v (by omega)
def putG : Gc := fun args s => match args, s.g with
  | [.slo b 0 n 0, .int .i64 a, .int .u64 v], [] => (match s.h.get b with
    | some (.cells cs (some 2)) => (match s.lay [b] [.cells cs (some 2)] [.cells (putC cs a v) (some 2)] with
      | some s' => some ([okC cs n, xle n 99999], .slo s.n 0 (putN cs a v) 0, s')
      | none => none)
    | _ => none)
  | _, _ => none
theorem putG_ok : GOk Go.Proofs.Try.prog 24 putG := by
  intro args s bs l s' hg hb hfr
  unfold putG at hg
  split at hg
  · rename_i b n a v hgl
    split at hg
    · rename_i cs hb0
      split at hg
      · rename_i s1 hs1
        simp only [Option.some.injEq, Prod.mk.injEq] at hg
        obtain ⟨rfl, rfl, rfl⟩ := hg
        simp only [allT_cons] at hb
        obtain ⟨k1, k2, _⟩ := hb
        have no : noIds cs = true := noids_ok k1
        refine SFun.lay (bs := [.cells cs (some 2)]) (args0 := [.slo 0 0 n 0, .int .i64 a, .int .u64 v]) (bs' := [.cells cs (some 2), .cells (putC cs a v) (some 2)]) (v0 := .slo 1 0 (putN cs a v) 0) hfr hs1 (by simp)
          ⟨⟨there hfr hb0, _, hb0, by (first | exact lb_dead | exact lb_same (by (first | assumption | exact noIds_tab (fun _ => rfl) _ _ | exact noIds_encL (fun _ => rfl) _ | rfl)) | exact lb_ro (by (first | assumption | exact noIds_tab (fun _ => rfl) _ _ | exact noIds_encL (fun _ => rfl) _ | rfl)) | exact lb_none | exact lb_cells (by ((repeat refine lws_cons (by (first | exact lw_any | exact lw_int | exact lw_bool | exact lw_ptr rfl | exact lw_slo rfl | exact lw_nilp | exact lw_nils | exact lw_str | exact lw_slo_nils | exact lw_slo_sle | exact lw_sl rfl | exact lw_unb | exact lw_gptr | exact lw_noid rfl | exact lw_cap rfl (Nat.le_refl _) | exact lw_cap rfl (by omega) | assumption | exact lw_tup (by ((repeat refine lws_cons (by (first | exact lw_any | exact lw_int | exact lw_bool | exact lw_ptr rfl | exact lw_slo rfl | exact lw_nilp | exact lw_nils | exact lw_str | exact lw_slo_nils | exact lw_slo_sle | exact lw_sl rfl | exact lw_unb | exact lw_gptr | exact lw_noid rfl | exact lw_cap rfl (Nat.le_refl _) | exact lw_cap rfl (by omega) | assumption)) ?_); exact lws_nil)))) ?_); exact lws_nil)) (by simp) | exact lb_iter | exact lb_cap (Nat.le_refl _) (Nat.le_refl _) rfl rfl | exact lb_capn (by assumption) (by (first | assumption | exact noIds_tab (fun _ => rfl) _ _ | exact noIds_encL (fun _ => rfl) _ | rfl)) | assumption), fun κ hκ => by (first | exact lb_dead | exact lb_same (by (first | assumption | exact noIds_tab (fun _ => rfl) _ _ | exact noIds_encL (fun _ => rfl) _ | rfl)) | exact lb_ro (by (first | assumption | exact noIds_tab (fun _ => rfl) _ _ | exact noIds_encL (fun _ => rfl) _ | rfl)) | exact lb_none | exact lb_cells (by ((repeat refine lws_cons (by (first | exact lw_any | exact lw_int | exact lw_bool | exact lw_ptr rfl | exact lw_slo rfl | exact lw_nilp | exact lw_nils | exact lw_str | exact lw_slo_nils | exact lw_slo_sle | exact lw_sl rfl | exact lw_unb | exact lw_gptr | exact lw_noid rfl | exact lw_cap rfl (Nat.le_refl _) | exact lw_cap rfl (by omega) | assumption | exact lw_tup (by ((repeat refine lws_cons (by (first | exact lw_any | exact lw_int | exact lw_bool | exact lw_ptr rfl | exact lw_slo rfl | exact lw_nilp | exact lw_nils | exact lw_str | exact lw_slo_nils | exact lw_slo_sle | exact lw_sl rfl | exact lw_unb | exact lw_gptr | exact lw_noid rfl | exact lw_cap rfl (Nat.le_refl _) | exact lw_cap rfl (by omega) | assumption)) ?_); exact lws_nil)))) ?_); exact lws_nil)) (by simp) | exact lb_iter | exact lb_cap (Nat.le_refl _) (Nat.le_refl _) rfl rfl | exact lb_capn (by assumption) (by (first | assumption | exact noIds_tab (fun _ => rfl) _ _ | exact noIds_encL (fun _ => rfl) _ | rfl)) | assumption)⟩, trivial⟩ (by ((repeat refine lws_cons (by (first | exact lw_any | exact lw_int | exact lw_bool | exact lw_ptr rfl | exact lw_slo rfl | exact lw_nilp | exact lw_nils | exact lw_str | exact lw_slo_nils | exact lw_slo_sle | exact lw_sl rfl | exact lw_unb | exact lw_gptr | exact lw_noid rfl | exact lw_cap rfl (Nat.le_refl _) | exact lw_cap rfl (by omega) | assumption | exact lw_tup (by ((repeat refine lws_cons (by (first | exact lw_any | exact lw_int | exact lw_bool | exact lw_ptr rfl | exact lw_slo rfl | exact lw_nilp | exact lw_nils | exact lw_str | exact lw_slo_nils | exact lw_slo_sle | exact lw_sl rfl | exact lw_unb | exact lw_gptr | exact lw_noid rfl | exact lw_cap rfl (Nat.le_refl _) | exact lw_cap rfl (by omega) | assumption)) ?_); exact lws_nil)))) ?_); exact lws_nil)) ?_
          fun κ h1 h2 => ⟨⟨by (first | exact lb_dead | exact lb_same (by (first | assumption | exact noIds_tab (fun _ => rfl) _ _ | exact noIds_encL (fun _ => rfl) _ | rfl)) | exact lb_ro (by (first | assumption | exact noIds_tab (fun _ => rfl) _ _ | exact noIds_encL (fun _ => rfl) _ | rfl)) | exact lb_none | exact lb_cells (by ((repeat refine lws_cons (by (first | exact lw_any | exact lw_int | exact lw_bool | exact lw_ptr rfl | exact lw_slo rfl | exact lw_nilp | exact lw_nils | exact lw_str | exact lw_slo_nils | exact lw_slo_sle | exact lw_sl rfl | exact lw_unb | exact lw_gptr | exact lw_noid rfl | exact lw_cap rfl (Nat.le_refl _) | exact lw_cap rfl (by omega) | assumption | exact lw_tup (by ((repeat refine lws_cons (by (first | exact lw_any | exact lw_int | exact lw_bool | exact lw_ptr rfl | exact lw_slo rfl | exact lw_nilp | exact lw_nils | exact lw_str | exact lw_slo_nils | exact lw_slo_sle | exact lw_sl rfl | exact lw_unb | exact lw_gptr | exact lw_noid rfl | exact lw_cap rfl (Nat.le_refl _) | exact lw_cap rfl (by omega) | assumption)) ?_); exact lws_nil)))) ?_); exact lws_nil)) (by simp) | exact lb_iter | exact lb_cap (Nat.le_refl _) (Nat.le_refl _) rfl rfl | exact lb_capn (by assumption) (by (first | assumption | exact noIds_tab (fun _ => rfl) _ _ | exact noIds_encL (fun _ => rfl) _ | rfl)) | assumption), lb_same (noids_c _), trivial⟩, lw_slo (h2 0 (by simp))⟩
        rw [hgl]; exact (put_c n a v cs k1 k2)
      · cases hg
    · cases hg
  · cases hg
end
end Go.Lev
