/- CheckJumps: the law's trees -/
import Derived.Test.YtnpcobjiaimbhaaDoorCZ10
import Derived.Test.YtnpcobjiaimbhaaDoorLc
import Derived.Test.YtnpcobjiaimbhaaDoorChecked
import Derived.KernelRfl

import Derived.Test.YtnpcobjiaimbhaaDoorCV2
namespace Go.Lev
open Go.RowKit
set_option linter.unusedVariables false
set_option linter.unusedSimpArgs false
set_option maxRecDepth 100000
noncomputable section
theorem look_badO {n : Nat} {ls : List LV} (h : chB n ls = true) : SFun Go.Proofs.Tryd.prog 15 [.agg [.slo 0 0 n 0]] (mkS [.cells ls (some 5)] gtab) fun l s => l = .tup [.nilp, .int .i64 (chA ls), .int .i64 (chE ls)] ∧ s = mkS [.cells ls (some 5)] gtab :=
  SFun.froze rfl gtab_one (SFun.mono (look_bad h) fun l s h => h.1)
def lookOX : Gc := fun args s => match args, s.g with
  | [.agg [.slo a 0 n 0]], [(g0, F0)] => cond (Nat.beq g0 0 && eqbs F0 formsL) (match s.h.get a with
    | some (.cells ls (some 5)) => (match s.lay [a] [.cells ls (some 5)] [] with
      | some s' => some ([chB n ls], .tup [.nilp, .int .i64 (chA ls), .int .i64 (chE ls)], s')
      | none => none)
    | _ => none) none
  | _, _ => none
theorem lookOX_ok : GOk Go.Proofs.Tryd.prog 15 lookOX := by
  intro args s bs l s' hg hb hfr
  unfold lookOX at hg
  split at hg
  · rename_i a n g0 F0 hgl
    cases hc : (Nat.beq g0 0 && eqbs F0 formsL) with
    | false => rw [hc] at hg; cases hg
    | true =>
      rw [hc] at hg
      simp only [cond_true] at hg
      rw [Bool.and_eq_true] at hc
      replace hgl : s.g = gtab := by rw [hgl, Nat.eq_of_beq_eq_true hc.1, eqbs_eq hc.2]; rfl
      split at hg
      · rename_i ls hb0
        split at hg
        · rename_i s1 hs1
          simp only [Option.some.injEq, Prod.mk.injEq] at hg
          obtain ⟨rfl, rfl, rfl⟩ := hg
          simp only [allT_cons] at hb
          obtain ⟨k1, _⟩ := hb
          have no := chB_no k1
          refine SFun.lay (bs := [.cells ls (some 5)]) (args0 := [.agg [.slo 0 0 n 0]]) (bs' := [.cells ls (some 5)]) (v0 := .tup [.nilp, .int .i64 (chA ls), .int .i64 (chE ls)]) hfr hs1 (by simp)
            ⟨⟨there hfr hb0, _, hb0, by (first | exact lb_dead | exact lb_same (by (first | assumption | exact noIds_tab (fun _ => rfl) _ _ | exact noIds_encL (fun _ => rfl) _ | rfl)) | exact lb_ro (by (first | assumption | exact noIds_tab (fun _ => rfl) _ _ | exact noIds_encL (fun _ => rfl) _ | rfl)) | exact lb_none | exact lb_cells (by ((repeat refine lws_cons (by (first | exact lw_any | exact lw_int | exact lw_bool | exact lw_ptr rfl | exact lw_slo rfl | exact lw_nilp | exact lw_nils | exact lw_str | exact lw_slo_nils | exact lw_slo_sle | exact lw_sl rfl | exact lw_unb | exact lw_gptr | exact lw_noid rfl | exact lw_cap rfl (Nat.le_refl _) | exact lw_cap rfl (by omega) | assumption | exact lw_tup (by ((repeat refine lws_cons (by (first | exact lw_any | exact lw_int | exact lw_bool | exact lw_ptr rfl | exact lw_slo rfl | exact lw_nilp | exact lw_nils | exact lw_str | exact lw_slo_nils | exact lw_slo_sle | exact lw_sl rfl | exact lw_unb | exact lw_gptr | exact lw_noid rfl | exact lw_cap rfl (Nat.le_refl _) | exact lw_cap rfl (by omega) | assumption)) ?_); exact lws_nil)))) ?_); exact lws_nil)) (by simp) | exact lb_iter | exact lb_cap (Nat.le_refl _) (Nat.le_refl _) rfl rfl | exact lb_capn (by assumption) (by (first | assumption | exact noIds_tab (fun _ => rfl) _ _ | exact noIds_encL (fun _ => rfl) _ | rfl)) | assumption), fun κ hκ => by (first | exact lb_dead | exact lb_same (by (first | assumption | exact noIds_tab (fun _ => rfl) _ _ | exact noIds_encL (fun _ => rfl) _ | rfl)) | exact lb_ro (by (first | assumption | exact noIds_tab (fun _ => rfl) _ _ | exact noIds_encL (fun _ => rfl) _ | rfl)) | exact lb_none | exact lb_cells (by ((repeat refine lws_cons (by (first | exact lw_any | exact lw_int | exact lw_bool | exact lw_ptr rfl | exact lw_slo rfl | exact lw_nilp | exact lw_nils | exact lw_str | exact lw_slo_nils | exact lw_slo_sle | exact lw_sl rfl | exact lw_unb | exact lw_gptr | exact lw_noid rfl | exact lw_cap rfl (Nat.le_refl _) | exact lw_cap rfl (by omega) | assumption | exact lw_tup (by ((repeat refine lws_cons (by (first | exact lw_any | exact lw_int | exact lw_bool | exact lw_ptr rfl | exact lw_slo rfl | exact lw_nilp | exact lw_nils | exact lw_str | exact lw_slo_nils | exact lw_slo_sle | exact lw_sl rfl | exact lw_unb | exact lw_gptr | exact lw_noid rfl | exact lw_cap rfl (Nat.le_refl _) | exact lw_cap rfl (by omega) | assumption)) ?_); exact lws_nil)))) ?_); exact lws_nil)) (by simp) | exact lb_iter | exact lb_cap (Nat.le_refl _) (Nat.le_refl _) rfl rfl | exact lb_capn (by assumption) (by (first | assumption | exact noIds_tab (fun _ => rfl) _ _ | exact noIds_encL (fun _ => rfl) _ | rfl)) | assumption)⟩, trivial⟩ (by ((repeat refine lws_cons (by (first | exact lw_any | exact lw_int | exact lw_bool | exact lw_ptr rfl | exact lw_slo rfl | exact lw_nilp | exact lw_nils | exact lw_str | exact lw_slo_nils | exact lw_slo_sle | exact lw_sl rfl | exact lw_unb | exact lw_gptr | exact lw_noid rfl | exact lw_cap rfl (Nat.le_refl _) | exact lw_cap rfl (by omega) | assumption | exact lw_tup (by ((repeat refine lws_cons (by (first | exact lw_any | exact lw_int | exact lw_bool | exact lw_ptr rfl | exact lw_slo rfl | exact lw_nilp | exact lw_nils | exact lw_str | exact lw_slo_nils | exact lw_slo_sle | exact lw_sl rfl | exact lw_unb | exact lw_gptr | exact lw_noid rfl | exact lw_cap rfl (Nat.le_refl _) | exact lw_cap rfl (by omega) | assumption)) ?_); exact lws_nil)))) ?_); exact lws_nil)) ?_
            fun κ h1 h2 => ⟨⟨by (first | exact lb_dead | exact lb_same (by (first | assumption | exact noIds_tab (fun _ => rfl) _ _ | exact noIds_encL (fun _ => rfl) _ | rfl)) | exact lb_ro (by (first | assumption | exact noIds_tab (fun _ => rfl) _ _ | exact noIds_encL (fun _ => rfl) _ | rfl)) | exact lb_none | exact lb_cells (by ((repeat refine lws_cons (by (first | exact lw_any | exact lw_int | exact lw_bool | exact lw_ptr rfl | exact lw_slo rfl | exact lw_nilp | exact lw_nils | exact lw_str | exact lw_slo_nils | exact lw_slo_sle | exact lw_sl rfl | exact lw_unb | exact lw_gptr | exact lw_noid rfl | exact lw_cap rfl (Nat.le_refl _) | exact lw_cap rfl (by omega) | assumption | exact lw_tup (by ((repeat refine lws_cons (by (first | exact lw_any | exact lw_int | exact lw_bool | exact lw_ptr rfl | exact lw_slo rfl | exact lw_nilp | exact lw_nils | exact lw_str | exact lw_slo_nils | exact lw_slo_sle | exact lw_sl rfl | exact lw_unb | exact lw_gptr | exact lw_noid rfl | exact lw_cap rfl (Nat.le_refl _) | exact lw_cap rfl (by omega) | assumption)) ?_); exact lws_nil)))) ?_); exact lws_nil)) (by simp) | exact lb_iter | exact lb_cap (Nat.le_refl _) (Nat.le_refl _) rfl rfl | exact lb_capn (by assumption) (by (first | assumption | exact noIds_tab (fun _ => rfl) _ _ | exact noIds_encL (fun _ => rfl) _ | rfl)) | assumption), trivial⟩, lw_noid rfl⟩
          rw [hgl]; exact look_badO k1
        · cases hg
      · cases hg
  · cases hg
def cxJX : Cx := cxl [(15, lookOX)]
abbrev cjF : List Code := sp Go.Proofs.Tryd.prog 7
abbrev cjL : List Nat := [1, 2, 6, 7, 8, 9, 10, 11]
abbrev cjT0 (N : Nat) (at' to' : Int) : List (Nat × LV) := [(1, .int .u8 at'), (2, .int .u8 to'), (7, .ptr 1 0), (8, .slo 3 0 N 0)]
abbrev cjT (N i j : Nat) : List (Nat × LV) := [(7, .ptr 1 0), (8, .slo 3 0 N 0), (9, .int .i64 i), (10, .int .i64 j)]
abbrev cjU (N i j : Nat) : List (Nat × LV) := [(7, .ptr 1 0), (8, .slo 3 0 N 0), (9, .int .i64 i), (10, .int .i64 j), (11, .slo 4 0 N 0)]
abbrev cjH (N : Nat) (ks ps rs : List LV) : List LB := [.ro ks, .cells [.slo 2 0 N 0] none, .cells ps (some 5), .cells rs (some 1)]
abbrev cjJ (N : Nat) (ks ps rs ls : List LV) : List LB := [.ro ks, .cells [.slo 2 0 N 0] none, .cells ps (some 5), .cells rs (some 1), .cells ls (some 5)]
theorem cxJX_ok : CtrOk Go.Proofs.Tryd.prog (ctrOf cxJX) := cxl_ok ⟨lookOX_ok, trivial⟩
abbrev cj_a_b1 (ks : List LV) : List (Option LB) := [some (.ro ks), some (.cells (gW ks 38 true) (some 5)), some (.cells [.slo 1 0 (gN ks 38 true) 0] none), some (.cells [.slo 1 0 (gN ks 38 true) 0] none), some (.cells [.slo 1 0 (gN ks 38 true) 0, .slo 7 0 0 0, .slo 5 0 (gN ks 38 true) 0, .slo 6 0 (gN ks 38 true) 0] none), some (.cells (chR (gW ks 38 true)) (some 1)), some (.cells (chM (gW ks 38 true)) (some 1)), some .dead]
theorem cj_a (np : Nat) (at' to' : Int) (ks : List LV) (K : Pk) : (xsp Go.Proofs.Tryd.prog cxCM 60 112 (seg cjF 0 7) (tm0 [.slo 0 0 np 0, .int .u8 at', .int .u8 to']) (mkS [.ro ks] gtab) (vK cjL K)) = (
 bif okKin np ks 38 then
 bif chG (gN ks 38 true) (gW ks 38 true) then
 bif xcm .neq ↑(gN ks 38 true) ↑(gN ks 38 true) then (
 K .ret [.int .u8 at', .int .u8 to', .bool false, .ptr 2 0, .slo 5 0 (gN ks 38 true) 0, .tup [], .tup [], .tup []] (cj_a_b1 ks) gtab)
 else (
 bif xcm .eql (↑(gN ks 38 true)) 0 then (
 K .ret [.int .u8 at', .int .u8 to', .bool false, .ptr 2 0, .slo 5 0 (gN ks 38 true) 0, .tup [], .tup [], .tup []] (cj_a_b1 ks) gtab)
 else (
 K .normal [.int .u8 at', .int .u8 to', .bool false, .ptr 2 0, .slo 5 0 (gN ks 38 true) 0, .tup [], .tup [], .tup []] (cj_a_b1 ks) gtab))
 else False
 else False) := by kernel_rfl
abbrev cj_o_b1 (N : Nat) (ks : List LV) (ps : List LV) (rs : List LV) : List (Option LB) := [some (.ro ks), some (.cells [.slo 2 0 N 0] none), some (.cells ps (some 5)), some (.cells rs (some 1))]
theorem cj_o (N : Nat) (at' to' : Int) (ks ps rs : List LV) (K : Pk) : (xorders Go.Proofs.Tryd.prog cxCM 60 112 (nthC cjF 7) (mkTm 112 (cjT0 N at' to')) (mkS (cjH N ks ps rs) gtab) (vK cjL K)) = (
 (
 bif xcm .neq (↑N) 0 then
 bif xcm .neq (xar .add .i64 (↑N) 1) 0 then
 K .normal [.int .u8 at', .int .u8 to', .any, .ptr 1 0, .slo 3 0 N 0, .int .i64 (xar .rem .i64 (xwr .i64 at') ↑N), .int .i64 (xar .rem .i64 (xwr .i64 to') (xar .add .i64 (↑N) 1)), .any] (cj_o_b1 N ks ps rs) gtab
 else False
 else False)
 ∧ (
 bif xcm .neq (↑N) 0 then
 bif xcm .neq (xar .add .i64 (↑N) 1) 0 then
 K .normal [.int .u8 at', .int .u8 to', .any, .ptr 1 0, .slo 3 0 N 0, .int .i64 (xar .rem .i64 (xwr .i64 at') ↑N), .int .i64 (xar .rem .i64 (xwr .i64 to') (xar .add .i64 (↑N) 1)), .any] (cj_o_b1 N ks ps rs) gtab
 else False
 else False)) := by kernel_rfl
abbrev cj_b_b1 (N : Nat) (i : Nat) (j : Nat) (ks : List LV) (ps : List LV) (rs : List LV) : List (Option LB) := [some (.ro ks), some (.cells [.slo 2 0 (N + 1) 0] none), some (.cells ps (some 5)), some (.cells rs (some 1)), some (.cells (xlay (xcut ps 0 (xmul (N + 1) 5)) (xix 0 (xnat ↑i) 5) [.int .i64 12, .int .i64 0, .int .i64 0, .int .i64 ↑j, .int .u64 0]) (some 5))]
abbrev cj_b_b2 (N : Nat) (ks : List LV) (ps : List LV) (rs : List LV) : List (Option LB) := [some (.ro ks), some (.cells [.slo 2 0 (N + 1) 0] none), some (.cells ps (some 5)), some (.cells rs (some 1))]
theorem cj_b (N i j : Nat) (ks ps rs : List LV) (K : Pk) : (xsp Go.Proofs.Tryd.prog cxCM 60 112 (seg cjF 8 4) (mkTm 112 (cjT (N + 1) i j)) (mkS (cjH (N + 1) ks ps rs) gtab) (vK cjL K)) = (
 bif xle (xadd (xnat ↑i) 1) (N + 1) then
 bif xle (xadd (xix 0 (xnat ↑i) 5) 1) (xln ps) then
 bif isI .i64 (nthD ps (xix 0 (xnat ↑i) 5)) then
 bif xcm .eql (asI (nthD ps (xix 0 (xnat ↑i) 5))) 14 then (
 bif xcm .eql (asI (nthD ps (xix 0 (xnat ↑i) 5))) 14 then (
 K .ret [.any, .any, .bool true, .ptr 1 0, .slo 3 0 (N + 1) 0, .int .i64 ↑i, .int .i64 ↑j, .any] (cj_b_b2 N ks ps rs) gtab)
 else (
 bif xle (xadd 0 (xmul (N + 1) 5)) (xln ps) then
 bif xle (N + 1) 1000000 then
 bif xle (xadd (xnat ↑i) 1) (N + 1) then
 bif xle (xadd (xix 0 (xnat ↑i) 5) 5) (xln (xcut ps 0 (xmul (N + 1) 5))) then
 K .normal [.any, .any, .any, .ptr 1 0, .slo 3 0 (N + 1) 0, .int .i64 ↑i, .int .i64 ↑j, .slo 4 0 (N + 1) 0] (cj_b_b1 N i j ks ps rs) gtab
 else False
 else False
 else False
 else False))
 else (
 bif xcm .eql (asI (nthD ps (xix 0 (xnat ↑i) 5))) 15 then (
 bif xcm .eql (asI (nthD ps (xix 0 (xnat ↑i) 5))) 15 then (
 K .ret [.any, .any, .bool true, .ptr 1 0, .slo 3 0 (N + 1) 0, .int .i64 ↑i, .int .i64 ↑j, .any] (cj_b_b2 N ks ps rs) gtab)
 else (
 bif xle (xadd 0 (xmul (N + 1) 5)) (xln ps) then
 bif xle (N + 1) 1000000 then
 bif xle (xadd (xnat ↑i) 1) (N + 1) then
 bif xle (xadd (xix 0 (xnat ↑i) 5) 5) (xln (xcut ps 0 (xmul (N + 1) 5))) then
 K .normal [.any, .any, .any, .ptr 1 0, .slo 3 0 (N + 1) 0, .int .i64 ↑i, .int .i64 ↑j, .slo 4 0 (N + 1) 0] (cj_b_b1 N i j ks ps rs) gtab
 else False
 else False
 else False
 else False))
 else (
 bif xcm .eql (asI (nthD ps (xix 0 (xnat ↑i) 5))) 17 then (
 bif xcm .eql (asI (nthD ps (xix 0 (xnat ↑i) 5))) 17 then (
 K .ret [.any, .any, .bool true, .ptr 1 0, .slo 3 0 (N + 1) 0, .int .i64 ↑i, .int .i64 ↑j, .any] (cj_b_b2 N ks ps rs) gtab)
 else (
 bif xle (xadd 0 (xmul (N + 1) 5)) (xln ps) then
 bif xle (N + 1) 1000000 then
 bif xle (xadd (xnat ↑i) 1) (N + 1) then
 bif xle (xadd (xix 0 (xnat ↑i) 5) 5) (xln (xcut ps 0 (xmul (N + 1) 5))) then
 K .normal [.any, .any, .any, .ptr 1 0, .slo 3 0 (N + 1) 0, .int .i64 ↑i, .int .i64 ↑j, .slo 4 0 (N + 1) 0] (cj_b_b1 N i j ks ps rs) gtab
 else False
 else False
 else False
 else False))
 else (
 bif xcm .eql (asI (nthD ps (xix 0 (xnat ↑i) 5))) 18 then (
 bif xcm .eql (asI (nthD ps (xix 0 (xnat ↑i) 5))) 18 then (
 K .ret [.any, .any, .bool true, .ptr 1 0, .slo 3 0 (N + 1) 0, .int .i64 ↑i, .int .i64 ↑j, .any] (cj_b_b2 N ks ps rs) gtab)
 else (
 bif xle (xadd 0 (xmul (N + 1) 5)) (xln ps) then
 bif xle (N + 1) 1000000 then
 bif xle (xadd (xnat ↑i) 1) (N + 1) then
 bif xle (xadd (xix 0 (xnat ↑i) 5) 5) (xln (xcut ps 0 (xmul (N + 1) 5))) then
 K .normal [.any, .any, .any, .ptr 1 0, .slo 3 0 (N + 1) 0, .int .i64 ↑i, .int .i64 ↑j, .slo 4 0 (N + 1) 0] (cj_b_b1 N i j ks ps rs) gtab
 else False
 else False
 else False
 else False))
 else (
 bif xcm .eql (asI (nthD ps (xix 0 (xnat ↑i) 5))) 19 then (
 bif xcm .eql (asI (nthD ps (xix 0 (xnat ↑i) 5))) 19 then (
 K .ret [.any, .any, .bool true, .ptr 1 0, .slo 3 0 (N + 1) 0, .int .i64 ↑i, .int .i64 ↑j, .any] (cj_b_b2 N ks ps rs) gtab)
 else (
 bif xle (xadd 0 (xmul (N + 1) 5)) (xln ps) then
 bif xle (N + 1) 1000000 then
 bif xle (xadd (xnat ↑i) 1) (N + 1) then
 bif xle (xadd (xix 0 (xnat ↑i) 5) 5) (xln (xcut ps 0 (xmul (N + 1) 5))) then
 K .normal [.any, .any, .any, .ptr 1 0, .slo 3 0 (N + 1) 0, .int .i64 ↑i, .int .i64 ↑j, .slo 4 0 (N + 1) 0] (cj_b_b1 N i j ks ps rs) gtab
 else False
 else False
 else False
 else False))
 else (
 bif xcm .eql (asI (nthD ps (xix 0 (xnat ↑i) 5))) 16 then (
 K .ret [.any, .any, .bool true, .ptr 1 0, .slo 3 0 (N + 1) 0, .int .i64 ↑i, .int .i64 ↑j, .any] (cj_b_b2 N ks ps rs) gtab)
 else (
 bif xle (xadd 0 (xmul (N + 1) 5)) (xln ps) then
 bif xle (N + 1) 1000000 then
 bif xle (xadd (xnat ↑i) 1) (N + 1) then
 bif xle (xadd (xix 0 (xnat ↑i) 5) 5) (xln (xcut ps 0 (xmul (N + 1) 5))) then
 K .normal [.any, .any, .any, .ptr 1 0, .slo 3 0 (N + 1) 0, .int .i64 ↑i, .int .i64 ↑j, .slo 4 0 (N + 1) 0] (cj_b_b1 N i j ks ps rs) gtab
 else False
 else False
 else False
 else False))))))
 else False
 else False
 else False) := by kernel_rfl
abbrev cj_g_b1 (N : Nat) (ks : List LV) (ps : List LV) (rs : List LV) (ls : List LV) : List (Option LB) := [some (.ro ks), some (.cells [.slo 2 0 N 0] none), some (.cells ps (some 5)), some (.cells rs (some 1)), some (.cells ls (some 5)), some (.cells [.slo 4 0 N 0] none), some (.cells [.slo 4 0 N 0, .slo 9 0 0 0, .slo 7 0 N 0, .slo 8 0 N 0] none), some (.cells (chR ls) (some 1)), some (.cells (chM ls) (some 1)), some .dead]
theorem cj_g (N i j : Nat) (ks ps rs ls : List LV) (K : Pk) : (xsp Go.Proofs.Tryd.prog cxCM 60 112 (cjF.drop 12) (mkTm 112 (cjU N i j)) (mkS (cjJ N ks ps rs ls) gtab) (vK cjL K)) = (
 bif chG N ls then
 bif xcm .lss ↑j ↑N then (
 bif xle (xadd (xnat ↑j) 1) N then
 bif xle (xadd (xix 0 (xnat ↑j) 1) 1) (xln rs) then
 bif isI .i64 (nthD rs (xix 0 (xnat ↑j) 1)) then
 bif xle (xadd (xnat ↑i) 1) N then
 bif xle (xadd (xix 0 (xnat ↑i) 1) 1) (xln rs) then
 bif isI .i64 (nthD rs (xix 0 (xnat ↑i) 1)) then
 bif xcm .eql (asI (nthD rs (xix 0 (xnat ↑j) 1))) (asI (nthD rs (xix 0 (xnat ↑i) 1))) then (
 K .ret [.any, .any, .bool true, .ptr 1 0, .slo 3 0 N 0, .int .i64 ↑i, .int .i64 ↑j, .slo 4 0 N 0] (cj_g_b1 N ks ps rs ls) gtab)
 else (
 bif xcm .eql ↑j ↑N then (
 bif xle (xadd (xnat ↑i) 1) N then
 bif xle (xadd (xix 0 (xnat ↑i) 1) 1) (xln rs) then
 bif isI .i64 (nthD rs (xix 0 (xnat ↑i) 1)) then
 bif xcm .eql (asI (nthD rs (xix 0 (xnat ↑i) 1))) (-1) then (
 K .ret [.any, .any, .bool true, .ptr 1 0, .slo 3 0 N 0, .int .i64 ↑i, .int .i64 ↑j, .slo 4 0 N 0] (cj_g_b1 N ks ps rs ls) gtab)
 else (
 K .ret [.any, .any, .bool false, .ptr 1 0, .slo 3 0 N 0, .int .i64 ↑i, .int .i64 ↑j, .slo 4 0 N 0] (cj_g_b1 N ks ps rs ls) gtab)
 else False
 else False
 else False)
 else (
 K .ret [.any, .any, .bool false, .ptr 1 0, .slo 3 0 N 0, .int .i64 ↑i, .int .i64 ↑j, .slo 4 0 N 0] (cj_g_b1 N ks ps rs ls) gtab))
 else False
 else False
 else False
 else False
 else False
 else False)
 else (
 bif xcm .eql ↑j ↑N then (
 bif xle (xadd (xnat ↑i) 1) N then
 bif xle (xadd (xix 0 (xnat ↑i) 1) 1) (xln rs) then
 bif isI .i64 (nthD rs (xix 0 (xnat ↑i) 1)) then
 bif xcm .eql (asI (nthD rs (xix 0 (xnat ↑i) 1))) (-1) then (
 K .ret [.any, .any, .bool true, .ptr 1 0, .slo 3 0 N 0, .int .i64 ↑i, .int .i64 ↑j, .slo 4 0 N 0] (cj_g_b1 N ks ps rs ls) gtab)
 else (
 K .ret [.any, .any, .bool false, .ptr 1 0, .slo 3 0 N 0, .int .i64 ↑i, .int .i64 ↑j, .slo 4 0 N 0] (cj_g_b1 N ks ps rs ls) gtab)
 else False
 else False
 else False)
 else (
 K .ret [.any, .any, .bool false, .ptr 1 0, .slo 3 0 N 0, .int .i64 ↑i, .int .i64 ↑j, .slo 4 0 N 0] (cj_g_b1 N ks ps rs ls) gtab))
 else False) := by kernel_rfl
abbrev cj_x_b1 (N : Nat) (ks : List LV) (ps : List LV) (rs : List LV) (ls : List LV) : List (Option LB) := [some (.ro ks), some (.cells [.slo 2 0 N 0] none), some (.cells ps (some 5)), some (.cells rs (some 1)), some (.cells ls (some 5)), some (.cells [.slo 4 0 N 0] none)]
theorem cj_x (N i j : Nat) (ks ps rs ls : List LV) (K : Pk) : (xsp Go.Proofs.Tryd.prog cxJX 60 112 (cjF.drop 12) (mkTm 112 (cjU N i j)) (mkS (cjJ N ks ps rs ls) gtab) (vK cjL K)) = (
 bif chB N ls then
 bif xcm .lss ↑j ↑N then (
 bif xle (xadd (xnat ↑j) 1) N then
 bif xle (xadd (xix 0 (xnat ↑j) 1) 1) (xln rs) then
 bif isI .i64 (nthD rs (xix 0 (xnat ↑j) 1)) then
 bif xle (xadd (xnat ↑i) 1) N then
 bif xle (xadd (xix 0 (xnat ↑i) 1) 1) (xln rs) then
 bif isI .i64 (nthD rs (xix 0 (xnat ↑i) 1)) then
 bif xcm .eql (asI (nthD rs (xix 0 (xnat ↑j) 1))) (asI (nthD rs (xix 0 (xnat ↑i) 1))) then (
 bif xcm .eql (chE ls) 0 then (
 K .ret [.any, .any, .bool (xcm .eql (chA ls) 0), .ptr 1 0, .slo 3 0 N 0, .int .i64 ↑i, .int .i64 ↑j, .slo 4 0 N 0] (cj_x_b1 N ks ps rs ls) gtab)
 else (
 K .ret [.any, .any, .bool false, .ptr 1 0, .slo 3 0 N 0, .int .i64 ↑i, .int .i64 ↑j, .slo 4 0 N 0] (cj_x_b1 N ks ps rs ls) gtab))
 else (
 bif xcm .eql ↑j ↑N then (
 bif xle (xadd (xnat ↑i) 1) N then
 bif xle (xadd (xix 0 (xnat ↑i) 1) 1) (xln rs) then
 bif isI .i64 (nthD rs (xix 0 (xnat ↑i) 1)) then
 bif xcm .eql (asI (nthD rs (xix 0 (xnat ↑i) 1))) (-1) then (
 bif xcm .eql (chE ls) 0 then (
 K .ret [.any, .any, .bool (xcm .eql (chA ls) 0), .ptr 1 0, .slo 3 0 N 0, .int .i64 ↑i, .int .i64 ↑j, .slo 4 0 N 0] (cj_x_b1 N ks ps rs ls) gtab)
 else (
 K .ret [.any, .any, .bool false, .ptr 1 0, .slo 3 0 N 0, .int .i64 ↑i, .int .i64 ↑j, .slo 4 0 N 0] (cj_x_b1 N ks ps rs ls) gtab))
 else (
 bif xcm .eql (chE ls) 2 then (
 K .ret [.any, .any, .bool (xcm .eql (chA ls) ↑i), .ptr 1 0, .slo 3 0 N 0, .int .i64 ↑i, .int .i64 ↑j, .slo 4 0 N 0] (cj_x_b1 N ks ps rs ls) gtab)
 else (
 K .ret [.any, .any, .bool false, .ptr 1 0, .slo 3 0 N 0, .int .i64 ↑i, .int .i64 ↑j, .slo 4 0 N 0] (cj_x_b1 N ks ps rs ls) gtab))
 else False
 else False
 else False)
 else (
 bif xcm .eql (chE ls) 2 then (
 K .ret [.any, .any, .bool (xcm .eql (chA ls) ↑i), .ptr 1 0, .slo 3 0 N 0, .int .i64 ↑i, .int .i64 ↑j, .slo 4 0 N 0] (cj_x_b1 N ks ps rs ls) gtab)
 else (
 K .ret [.any, .any, .bool false, .ptr 1 0, .slo 3 0 N 0, .int .i64 ↑i, .int .i64 ↑j, .slo 4 0 N 0] (cj_x_b1 N ks ps rs ls) gtab)))
 else False
 else False
 else False
 else False
 else False
 else False)
 else (
 bif xcm .eql ↑j ↑N then (
 bif xle (xadd (xnat ↑i) 1) N then
 bif xle (xadd (xix 0 (xnat ↑i) 1) 1) (xln rs) then
 bif isI .i64 (nthD rs (xix 0 (xnat ↑i) 1)) then
 bif xcm .eql (asI (nthD rs (xix 0 (xnat ↑i) 1))) (-1) then (
 bif xcm .eql (chE ls) 0 then (
 K .ret [.any, .any, .bool (xcm .eql (chA ls) 0), .ptr 1 0, .slo 3 0 N 0, .int .i64 ↑i, .int .i64 ↑j, .slo 4 0 N 0] (cj_x_b1 N ks ps rs ls) gtab)
 else (
 K .ret [.any, .any, .bool false, .ptr 1 0, .slo 3 0 N 0, .int .i64 ↑i, .int .i64 ↑j, .slo 4 0 N 0] (cj_x_b1 N ks ps rs ls) gtab))
 else (
 bif xcm .eql (chE ls) 2 then (
 K .ret [.any, .any, .bool (xcm .eql (chA ls) ↑i), .ptr 1 0, .slo 3 0 N 0, .int .i64 ↑i, .int .i64 ↑j, .slo 4 0 N 0] (cj_x_b1 N ks ps rs ls) gtab)
 else (
 K .ret [.any, .any, .bool false, .ptr 1 0, .slo 3 0 N 0, .int .i64 ↑i, .int .i64 ↑j, .slo 4 0 N 0] (cj_x_b1 N ks ps rs ls) gtab))
 else False
 else False
 else False)
 else (
 bif xcm .eql (chE ls) 2 then (
 K .ret [.any, .any, .bool (xcm .eql (chA ls) ↑i), .ptr 1 0, .slo 3 0 N 0, .int .i64 ↑i, .int .i64 ↑j, .slo 4 0 N 0] (cj_x_b1 N ks ps rs ls) gtab)
 else (
 K .ret [.any, .any, .bool false, .ptr 1 0, .slo 3 0 N 0, .int .i64 ↑i, .int .i64 ↑j, .slo 4 0 N 0] (cj_x_b1 N ks ps rs ls) gtab)))
 else False) := by kernel_rfl
end
end Go.Lev
