/- InterpRefused: the law's trees -/
import Derived.Test.YtmhbamjlnanmlaaGreatDoorCV1
import Derived.Test.YtmhbamjlnanmlaaGreatDoorLc
import Derived.Test.YtmhbamjlnanmlaaGreatDoorChecked
import Derived.KernelRfl

namespace Go.Lev
open Go.RowKit
set_option linter.unusedVariables false
set_option linter.unusedSimpArgs false
set_option maxRecDepth 100000
noncomputable section
def okIns (n : Nat) (ls : List LV) : Bool := @decide (∃ L, ls = encL insE L ∧ L.length = n ∧ 1 ≤ n ∧ n ≤ 1000) (Classical.propDecidable _)

theorem okIns_iff {n : Nat} {ls : List LV} : okIns n ls = true ↔ ∃ L, ls = encL insE L ∧ L.length = n ∧ 1 ≤ n ∧ n ≤ 1000 := by simp only [okIns, decide_eq_true_eq]
theorem okIns_no {n : Nat} {ls : List LV} (h : okIns n ls = true) : noIds ls = true := by obtain ⟨L, rfl, _, _⟩ := okIns_iff.1 h; exact ins_noids L
theorem cln_s (n : Nat) (cs : List LV) (K : Pk) : (xsp Go.Proofs.Tryz.prog (fun _ => none) 40 8 ((sp Go.Proofs.Tryz.prog 21).drop 0) (tm0 [.slo 0 0 (n + 1) 0]) (mkS [.ro cs]) (vK [0, 2, 4] K)) = (
 bif xle (xadd 0 (xmul (n + 1) 5)) (xln cs) then
 bif xle (xadd 0 (n + 1)) 1000000 then
 K .ret [.slo 0 0 (n + 1) 0, .slo 2 0 (xadd 0 (n + 1)) 0, .bool false] [some (.ro cs), some (.cells [] none), some (.cells (xcat [] (xcut cs 0 (xmul (n + 1) 5))) (some 5))] []
 else False
 else False) := by kernel_rfl
theorem cln_ro {n : Nat} {ls : List LV} (h : okIns n ls = true) : SFun Go.Proofs.Tryz.prog 21 [.slo 0 0 n 0] (mkS [.ro ls]) fun l s => l = .slo 1 0 n 0 ∧ s = mkS [.ro ls, .cells ls (some 5)] := by
  have hno := okIns_no h
  obtain ⟨L, rfl, hl, h1, h2⟩ := okIns_iff.1 h
  obtain ⟨n, rfl⟩ : ∃ m, n = m + 1 := ⟨n - 1, by omega⟩
  refine SFun.mono (SFun.pieces (Q := fun l b => l = .slo 1 0 (n + 1) 0 ∧ b = [.ro (encL insE L), .cells (encL insE L) (some 5)]) 8 1 [0, 2, 4] [2] (by kernel_rfl) rfl rfl rfl ?_) fun l s' ⟨b0, ⟨h1, h2⟩, h3⟩ => ⟨h1, by rw [h3, h2]⟩
  refine SSp.last noCx_ok (n := 40) (mkS_le (Nat.le_refl _)) ?_
  have hle : (encL insE L).length = (n + 1) * 5 := by rw [ins_n, hl]
  have e : xcut (encL insE L) 0 ((n + 1) * 5) = encL insE L := xcut_all (by omega)
  rw [cln_s]
  simp only [wd_nat, wd_asV, wd_isV, wd_ix, wd_add, wd_mul, wd_ln, Nat.zero_add, Nat.mul_one, wd_isI, wd_asI, wd_isB, wd_asB, wd_nn, cI_tlen, cB_tlen, cII_tlen, decide_true, cond_true, wd_not_t, wd_not_f, wd_and_t, wd_and_f, e, hle]
  (repeat (first | (with_reducible refine way_t (by (first | with_reducible rfl | exact t_le (by omega) | exact t_eq (by omega) | exact t_nn (by omega) | exact t_lss (by omega) | exact t_leq (by omega) | exact t_gtr (by omega) | exact t_geq (by omega) | exact t_eql (by omega) | exact t_neq (by omega) | exact t_z (by omega) | exact wd_not_f | assumption)) ?_) | (with_reducible refine way_f (by (first | with_reducible rfl | exact f_le (by omega) | exact f_eq (by omega) | exact f_nn (by omega) | exact f_lss (by omega) | exact f_leq (by omega) | exact f_gtr (by omega) | exact f_geq (by omega) | exact f_eql (by omega) | exact f_neq (by omega) | exact f_z (by omega) | exact wd_not_t | assumption)) ?_)))
  exact ⟨trivial, rfl, _, _, [.id 0, .id 2], ⟨rfl, rfl⟩, by (refine ⟨by kernel_rfl, ?_, ?_⟩ <;> repeat (first | exact okTms_nil | refine okTms_cons ?_ ?_ | exact okBlks_nil | refine okBlks_cons ?_ ?_ | exact lws_nil | refine lws_cons ?_ ?_ | exact lb_dead | exact lb_same (by (first | assumption | exact noIds_encL (fun _ => rfl) _ | exact noIds_tab (fun _ => rfl) _ _ | rfl)) | exact lb_ro (by (first | assumption | exact noIds_encL (fun _ => rfl) _ | exact noIds_tab (fun _ => rfl) _ _ | rfl)) | exact lb_none | refine lb_cells ?_ (by simp) | exact lb_cap (Nat.le_refl _) (Nat.le_refl _) rfl rfl | exact lb_capn (by assumption) (by (first | assumption | exact noIds_encL (fun _ => rfl) _ | exact noIds_tab (fun _ => rfl) _ _ | rfl)) | exact lw_any | exact lw_int | exact lw_bool | exact lw_ptr rfl | exact lw_slo rfl | exact lw_nils | exact lw_slo_nils | exact lw_sl rfl | exact lw_noid rfl | exact lw_cap rfl (Nat.le_refl _) | refine lw_tup ?_ | refine lw_agg ?_ | assumption))⟩
def clnG : Gc := fun args s => match args, s.g with
  | [.slo a 0 n 0], [] => (match s.h.get a with
    | some (.ro ls) => (match s.lay [a] [.ro ls] [.cells ls (some 5)] with
      | some s' => some ([okIns n ls], .slo s.n 0 n 0, s')
      | none => none)
    | _ => none)
  | _, _ => none
theorem clnG_ok : GOk Go.Proofs.Tryz.prog 21 clnG := by
  intro args s bs l s' hg hb hfr
  unfold clnG at hg
  split at hg
  · rename_i a n hgl
    split at hg
    · rename_i ls hb0
      split at hg
      · rename_i s1 hs1
        simp only [Option.some.injEq, Prod.mk.injEq] at hg
        obtain ⟨rfl, rfl, rfl⟩ := hg
        simp only [allT_cons] at hb
        obtain ⟨k1, _⟩ := hb
        have no := okIns_no k1
        refine SFun.lay (bs := [.ro ls]) (args0 := [.slo 0 0 n 0]) (bs' := [.ro ls, .cells ls (some 5)]) (v0 := .slo 1 0 n 0) hfr hs1 (by simp)
          ⟨⟨there hfr hb0, _, hb0, by (first | exact lb_dead | exact lb_same (by (first | assumption | exact noIds_tab (fun _ => rfl) _ _ | exact noIds_encL (fun _ => rfl) _ | rfl)) | exact lb_ro (by (first | assumption | exact noIds_tab (fun _ => rfl) _ _ | exact noIds_encL (fun _ => rfl) _ | rfl)) | exact lb_none | exact lb_cells (by ((repeat refine lws_cons (by (first | exact lw_any | exact lw_int | exact lw_bool | exact lw_ptr rfl | exact lw_slo rfl | exact lw_nilp | exact lw_nils | exact lw_str | exact lw_slo_nils | exact lw_slo_sle | exact lw_sl rfl | exact lw_unb | exact lw_gptr | exact lw_noid rfl | exact lw_cap rfl (Nat.le_refl _) | exact lw_cap rfl (by omega) | assumption | exact lw_tup (by ((repeat refine lws_cons (by (first | exact lw_any | exact lw_int | exact lw_bool | exact lw_ptr rfl | exact lw_slo rfl | exact lw_nilp | exact lw_nils | exact lw_str | exact lw_slo_nils | exact lw_slo_sle | exact lw_sl rfl | exact lw_unb | exact lw_gptr | exact lw_noid rfl | exact lw_cap rfl (Nat.le_refl _) | exact lw_cap rfl (by omega) | assumption)) ?_); exact lws_nil)))) ?_); exact lws_nil)) (by simp) | exact lb_iter | exact lb_cap (Nat.le_refl _) (Nat.le_refl _) rfl rfl | exact lb_capn (by assumption) (by (first | assumption | exact noIds_tab (fun _ => rfl) _ _ | exact noIds_encL (fun _ => rfl) _ | rfl)) | assumption), fun κ hκ => by (first | exact lb_dead | exact lb_same (by (first | assumption | exact noIds_tab (fun _ => rfl) _ _ | exact noIds_encL (fun _ => rfl) _ | rfl)) | exact lb_ro (by (first | assumption | exact noIds_tab (fun _ => rfl) _ _ | exact noIds_encL (fun _ => rfl) _ | rfl)) | exact lb_none | exact lb_cells (by ((repeat refine lws_cons (by (first | exact lw_any | exact lw_int | exact lw_bool | exact lw_ptr rfl | exact lw_slo rfl | exact lw_nilp | exact lw_nils | exact lw_str | exact lw_slo_nils | exact lw_slo_sle | exact lw_sl rfl | exact lw_unb | exact lw_gptr | exact lw_noid rfl | exact lw_cap rfl (Nat.le_refl _) | exact lw_cap rfl (by omega) | assumption | exact lw_tup (by ((repeat refine lws_cons (by (first | exact lw_any | exact lw_int | exact lw_bool | exact lw_ptr rfl | exact lw_slo rfl | exact lw_nilp | exact lw_nils | exact lw_str | exact lw_slo_nils | exact lw_slo_sle | exact lw_sl rfl | exact lw_unb | exact lw_gptr | exact lw_noid rfl | exact lw_cap rfl (Nat.le_refl _) | exact lw_cap rfl (by omega) | assumption)) ?_); exact lws_nil)))) ?_); exact lws_nil)) (by simp) | exact lb_iter | exact lb_cap (Nat.le_refl _) (Nat.le_refl _) rfl rfl | exact lb_capn (by assumption) (by (first | assumption | exact noIds_tab (fun _ => rfl) _ _ | exact noIds_encL (fun _ => rfl) _ | rfl)) | assumption)⟩, trivial⟩ (by ((repeat refine lws_cons (by (first | exact lw_any | exact lw_int | exact lw_bool | exact lw_ptr rfl | exact lw_slo rfl | exact lw_nilp | exact lw_nils | exact lw_str | exact lw_slo_nils | exact lw_slo_sle | exact lw_sl rfl | exact lw_unb | exact lw_gptr | exact lw_noid rfl | exact lw_cap rfl (Nat.le_refl _) | exact lw_cap rfl (by omega) | assumption | exact lw_tup (by ((repeat refine lws_cons (by (first | exact lw_any | exact lw_int | exact lw_bool | exact lw_ptr rfl | exact lw_slo rfl | exact lw_nilp | exact lw_nils | exact lw_str | exact lw_slo_nils | exact lw_slo_sle | exact lw_sl rfl | exact lw_unb | exact lw_gptr | exact lw_noid rfl | exact lw_cap rfl (Nat.le_refl _) | exact lw_cap rfl (by omega) | assumption)) ?_); exact lws_nil)))) ?_); exact lws_nil)) ?_
          fun κ h1 h2 => ⟨⟨by (first | exact lb_dead | exact lb_same (by (first | assumption | exact noIds_tab (fun _ => rfl) _ _ | exact noIds_encL (fun _ => rfl) _ | rfl)) | exact lb_ro (by (first | assumption | exact noIds_tab (fun _ => rfl) _ _ | exact noIds_encL (fun _ => rfl) _ | rfl)) | exact lb_none | exact lb_cells (by ((repeat refine lws_cons (by (first | exact lw_any | exact lw_int | exact lw_bool | exact lw_ptr rfl | exact lw_slo rfl | exact lw_nilp | exact lw_nils | exact lw_str | exact lw_slo_nils | exact lw_slo_sle | exact lw_sl rfl | exact lw_unb | exact lw_gptr | exact lw_noid rfl | exact lw_cap rfl (Nat.le_refl _) | exact lw_cap rfl (by omega) | assumption | exact lw_tup (by ((repeat refine lws_cons (by (first | exact lw_any | exact lw_int | exact lw_bool | exact lw_ptr rfl | exact lw_slo rfl | exact lw_nilp | exact lw_nils | exact lw_str | exact lw_slo_nils | exact lw_slo_sle | exact lw_sl rfl | exact lw_unb | exact lw_gptr | exact lw_noid rfl | exact lw_cap rfl (Nat.le_refl _) | exact lw_cap rfl (by omega) | assumption)) ?_); exact lws_nil)))) ?_); exact lws_nil)) (by simp) | exact lb_iter | exact lb_cap (Nat.le_refl _) (Nat.le_refl _) rfl rfl | exact lb_capn (by assumption) (by (first | assumption | exact noIds_tab (fun _ => rfl) _ _ | exact noIds_encL (fun _ => rfl) _ | rfl)) | assumption), lb_same (no), trivial⟩, lw_slo (h2 0 (by simp))⟩
        rw [hgl]; exact cln_ro k1
      · cases hg
    · cases hg
  · cases hg
def runCk : Gc := fun args s => match args, s.g with
  | [], [(g0, F0)] => cond (Nat.beq g0 0 && eqbs F0 formsL) (some ([], .bool true, s)) none
  | _, _ => none
def noneG : Gc := fun _ _ => none
def cxIB : Cx := cxl [(4, runCk), (18, lookBG), (21, noneG)]
def cxIG : Cx := cxl [(4, runCk), (18, lookGG), (21, wrapG clnG)]
theorem ir_b (n : Nat) (fuel : Int) (ls : List LV) (K : Fk) : (xfun Go.Proofs.Tryz.prog cxIB 100 3 [.slo 0 0 n 0, .int .i64 fuel] (mkS [.ro ls] gtab) (vF K)) = (
 bif xcm .gtr (↑n) 100 then (
 K (.bool true) [some (.ro ls)] gtab)
 else (
 bif chB n ls then
 bif chB n ls then
 bif xcm .eql (chE ls) 0 then (
 False)
 else (
 bif xcm .eql (chE ls) 0 then (
 K (.bool true) [some (.ro ls), some (.cells [.slo 0 0 n 0] none), some (.cells [.slo 0 0 n 0] none), some (.cells [.int .i64 96, .nils] none), some (.cells [.ptr 3 0, .nils] none), some (.cells [.ptr 4 0] none), some (.cells [.int .i64 9, .sl 5 0 1 1] none), some (.cells [.int .i64 0, .int .i64 0, .int .i64 0, .int .i64 0, .int .i64 0, .int .i64 0, .int .i64 0, .int .i64 0, .int .i64 0, .int .i64 0, .int .i64 0, .int .i64 0, .int .i64 0, .int .i64 0, .int .i64 0, .int .i64 0, .int .i64 0, .int .i64 0, .int .i64 0, .int .i64 0, .int .i64 0, .int .i64 0, .int .i64 0, .int .i64 0, .int .i64 0, .int .i64 0, .int .i64 0, .int .i64 0, .int .i64 0, .int .i64 0, .int .i64 0, .int .i64 0, .int .i64 0, .int .i64 0, .int .i64 0, .int .i64 0, .int .i64 0, .int .i64 0, .int .i64 0, .int .i64 0] none), some (.cells [.nils, .sl 7 0 40 40, .int .i64 0, .ptr 6 0] none), some (.cells [.slo 0 0 n 0] none), some (.cells [.nils] none), some (.cells [.nils, .nils, .int .i64 (chE ls), .ptr 8 0, .ptr 10 0, .int .u64 0, .int .u64 0, .int .u64 0, .int .u64 0, .int .u64 0, .int .u64 0, .int .u64 0, .int .u64 0, .nils, .int .i64 0, .int .i64 (xmn (xmx fuel 0) 400), .int .i64 0, .int .i64 0] none), some (.cells [.slo 0 0 n 0] none)] gtab)
 else (
 bif xcm .neq (chE ls) 0 then (
 bif xcm .eql (chE ls) (chE ls) then (
 K (.bool true) [some (.ro ls), some (.cells [.slo 0 0 n 0] none), some (.cells [.slo 0 0 n 0] none), some (.cells [.int .i64 96, .nils] none), some (.cells [.ptr 3 0, .nils] none), some (.cells [.ptr 4 0] none), some (.cells [.int .i64 9, .sl 5 0 1 1] none), some (.cells [.int .i64 0, .int .i64 0, .int .i64 0, .int .i64 0, .int .i64 0, .int .i64 0, .int .i64 0, .int .i64 0, .int .i64 0, .int .i64 0, .int .i64 0, .int .i64 0, .int .i64 0, .int .i64 0, .int .i64 0, .int .i64 0, .int .i64 0, .int .i64 0, .int .i64 0, .int .i64 0, .int .i64 0, .int .i64 0, .int .i64 0, .int .i64 0, .int .i64 0, .int .i64 0, .int .i64 0, .int .i64 0, .int .i64 0, .int .i64 0, .int .i64 0, .int .i64 0, .int .i64 0, .int .i64 0, .int .i64 0, .int .i64 0, .int .i64 0, .int .i64 0, .int .i64 0, .int .i64 0] none), some (.cells [.nils, .sl 7 0 40 40, .int .i64 0, .ptr 6 0] none), some (.cells [.slo 0 0 n 0] none), some (.cells [.nils] none), some (.cells [.nils, .nils, .int .i64 (chE ls), .ptr 8 0, .ptr 10 0, .int .u64 0, .int .u64 0, .int .u64 0, .int .u64 0, .int .u64 0, .int .u64 0, .int .u64 0, .int .u64 0, .nils, .int .i64 0, .int .i64 (xmn (xmx fuel 0) 400), .int .i64 4, .int .i64 (chE ls)] none), some (.cells [.slo 0 0 n 0] none)] gtab)
 else (
 K (.bool false) [some (.ro ls), some (.cells [.slo 0 0 n 0] none), some (.cells [.slo 0 0 n 0] none), some (.cells [.int .i64 96, .nils] none), some (.cells [.ptr 3 0, .nils] none), some (.cells [.ptr 4 0] none), some (.cells [.int .i64 9, .sl 5 0 1 1] none), some (.cells [.int .i64 0, .int .i64 0, .int .i64 0, .int .i64 0, .int .i64 0, .int .i64 0, .int .i64 0, .int .i64 0, .int .i64 0, .int .i64 0, .int .i64 0, .int .i64 0, .int .i64 0, .int .i64 0, .int .i64 0, .int .i64 0, .int .i64 0, .int .i64 0, .int .i64 0, .int .i64 0, .int .i64 0, .int .i64 0, .int .i64 0, .int .i64 0, .int .i64 0, .int .i64 0, .int .i64 0, .int .i64 0, .int .i64 0, .int .i64 0, .int .i64 0, .int .i64 0, .int .i64 0, .int .i64 0, .int .i64 0, .int .i64 0, .int .i64 0, .int .i64 0, .int .i64 0, .int .i64 0] none), some (.cells [.nils, .sl 7 0 40 40, .int .i64 0, .ptr 6 0] none), some (.cells [.slo 0 0 n 0] none), some (.cells [.nils] none), some (.cells [.nils, .nils, .int .i64 (chE ls), .ptr 8 0, .ptr 10 0, .int .u64 0, .int .u64 0, .int .u64 0, .int .u64 0, .int .u64 0, .int .u64 0, .int .u64 0, .int .u64 0, .nils, .int .i64 0, .int .i64 (xmn (xmx fuel 0) 400), .int .i64 4, .int .i64 (chE ls)] none), some (.cells [.slo 0 0 n 0] none)] gtab))
 else (
 K (.bool false) [some (.ro ls), some (.cells [.slo 0 0 n 0] none), some (.cells [.slo 0 0 n 0] none), some (.cells [.int .i64 96, .nils] none), some (.cells [.ptr 3 0, .nils] none), some (.cells [.ptr 4 0] none), some (.cells [.int .i64 9, .sl 5 0 1 1] none), some (.cells [.int .i64 0, .int .i64 0, .int .i64 0, .int .i64 0, .int .i64 0, .int .i64 0, .int .i64 0, .int .i64 0, .int .i64 0, .int .i64 0, .int .i64 0, .int .i64 0, .int .i64 0, .int .i64 0, .int .i64 0, .int .i64 0, .int .i64 0, .int .i64 0, .int .i64 0, .int .i64 0, .int .i64 0, .int .i64 0, .int .i64 0, .int .i64 0, .int .i64 0, .int .i64 0, .int .i64 0, .int .i64 0, .int .i64 0, .int .i64 0, .int .i64 0, .int .i64 0, .int .i64 0, .int .i64 0, .int .i64 0, .int .i64 0, .int .i64 0, .int .i64 0, .int .i64 0, .int .i64 0] none), some (.cells [.nils, .sl 7 0 40 40, .int .i64 0, .ptr 6 0] none), some (.cells [.slo 0 0 n 0] none), some (.cells [.nils] none), some (.cells [.nils, .nils, .int .i64 (chE ls), .ptr 8 0, .ptr 10 0, .int .u64 0, .int .u64 0, .int .u64 0, .int .u64 0, .int .u64 0, .int .u64 0, .int .u64 0, .int .u64 0, .nils, .int .i64 0, .int .i64 (xmn (xmx fuel 0) 400), .int .i64 2, .int .i64 0] none), some (.cells [.slo 0 0 n 0] none)] gtab)))
 else False
 else False)) := by kernel_rfl
theorem ir_g (n : Nat) (fuel : Int) (ls : List LV) (K : Fk) : (xfun Go.Proofs.Tryz.prog cxIG 100 3 [.slo 0 0 n 0, .int .i64 fuel] (mkS [.ro ls] gtab) (vF K)) = (
 bif xcm .gtr (↑n) 100 then (
 K (.bool true) [some (.ro ls)] gtab)
 else (
 bif chG n ls then
 bif chG n ls then
 bif okIns n ls then
 bif chG n ls then
 bif xeq n n then
 bif xeq n n then
 K (.bool true) [some (.ro ls), some (.cells [.slo 0 0 n 0] none), some (.cells [.slo 0 0 n 0] none), some (.cells [.slo 0 0 n 0, .slo 6 0 0 0, .slo 4 0 n 0, .slo 5 0 n 0] none), some (.cells (chR ls) (some 1)), some (.cells (chM ls) (some 1)), some .dead, some (.cells [.int .i64 96, .nils] none), some (.cells [.ptr 7 0, .nils] none), some (.cells [.ptr 8 0] none), some (.cells [.int .i64 9, .sl 9 0 1 1] none), some (.cells [.int .i64 0, .int .i64 0, .int .i64 0, .int .i64 0, .int .i64 0, .int .i64 0, .int .i64 0, .int .i64 0, .int .i64 0, .int .i64 0, .int .i64 0, .int .i64 0, .int .i64 0, .int .i64 0, .int .i64 0, .int .i64 0, .int .i64 0, .int .i64 0, .int .i64 0, .int .i64 0, .int .i64 0, .int .i64 0, .int .i64 0, .int .i64 0, .int .i64 0, .int .i64 0, .int .i64 0, .int .i64 0, .int .i64 0, .int .i64 0, .int .i64 0, .int .i64 0, .int .i64 0, .int .i64 0, .int .i64 0, .int .i64 0, .int .i64 0, .int .i64 0, .int .i64 0, .int .i64 0] none), some (.cells [.nils, .sl 11 0 40 40, .int .i64 0, .ptr 10 0] none), some (.cells [.slo 0 0 n 0] none), some (.cells [.nils] none), some (.cells [.slo 21 0 n 0, .slo 25 0 n 0, .int .i64 0, .ptr 12 0, .ptr 14 0, .int .u64 0, .int .u64 0, .int .u64 0, .int .u64 0, .int .u64 0, .int .u64 0, .int .u64 0, .int .u64 0, .nils, .int .i64 0, .int .i64 (xmn (xmx fuel 0) 400), .int .i64 0, .int .i64 0] none), some (.cells [.slo 0 0 n 0] none), some (.cells [.slo 0 0 n 0, .slo 20 0 0 0, .slo 18 0 n 0, .slo 19 0 n 0] none), some (.cells (chR ls) (some 1)), some (.cells (chM ls) (some 1)), some .dead, some (.cells ls (some 5)), some (.cells [.slo 0 0 n 0] none), some (.cells [.slo 0 0 n 0, .slo 26 0 0 0, .slo 24 0 n 0, .slo 25 0 n 0] none), some (.cells (chR ls) (some 1)), some (.cells (chM ls) (some 1)), some .dead] gtab
 else False
 else False
 else False
 else False
 else False
 else False)) := by kernel_rfl
end
end Go.Lev
