/- CheckMakes: contracts over one's own row, the law's trees -/
import Derived.Test.YtnpcobjiaimbhaaDoorCZ5
import Derived.Test.YtnpcobjiaimbhaaDoorLc
import Derived.Test.YtnpcobjiaimbhaaDoorChecked
import Derived.KernelRfl

import Derived.Test.YtnpcobjiaimbhaaDoorCZ9
import Derived.Test.YtnpcobjiaimbhaaDoorCV1
namespace Go.Lev
open Go.RowKit
set_option linter.unusedVariables false
set_option linter.unusedSimpArgs false
set_option maxRecDepth 100000
noncomputable section
theorem chG_ne {n : Nat} {ls : List LV} (h : chG n ls = true) : ls ≠ [] := by
  obtain ⟨L, rfl, _, he⟩ := chG_iff.1 h
  intro e
  have hl := ins_n L
  rw [e] at hl
  have h0 : L.length = 0 ∨ 40 < L.length := .inl (by simp at hl; omega)
  rw [(chk_form h0).2] at he; exact absurd he (by decide)
theorem look_goodO {n : Nat} {ls : List LV} (h : chG n ls = true) : SFun Go.Proofs.Tryd.prog 15 [.agg [.slo 0 0 n 0]] (mkS [.cells ls (some 5)] gtab) fun l s => l = .tup [.ptr 1 0, .int .i64 0, .int .i64 0] ∧ s = mkS [.cells ls (some 5), .cells [.slo 0 0 n 0, .slo 4 0 0 0, .slo 2 0 n 0, .slo 3 0 n 0] none, .cells (chR ls) (some 1), .cells (chM ls) (some 1), .dead] gtab :=
  SFun.froze2 gtab_one (chG_ne h) (fun i ds => by match i with | 0 => simp | 1 => simp | 2 => simp | 3 => simp | i + 4 => simp) (look_good h)
def lookOG : Gc := fun args s => match args, s.g with
  | [.agg [.slo a 0 n 0]], [(g0, F0)] => cond (Nat.beq g0 0 && eqbs F0 formsL) (match s.h.get a with
    | some (.cells ls (some 5)) => (match s.lay [a] [.cells ls (some 5)] [.cells [.slo a 0 n 0, .slo (Nat.succ (Nat.succ (Nat.succ s.n))) 0 0 0, .slo (Nat.succ s.n) 0 n 0, .slo (Nat.succ (Nat.succ s.n)) 0 n 0] none, .cells (chR ls) (some 1), .cells (chM ls) (some 1), .dead] with
      | some s' => some ([chG n ls], .tup [.ptr s.n 0, .int .i64 0, .int .i64 0], s')
      | none => none)
    | _ => none) none
  | _, _ => none
theorem lookOG_ok : GOk Go.Proofs.Tryd.prog 15 lookOG := by
  intro args s bs l s' hg hb hfr
  unfold lookOG at hg
  split at hg
  · rename_i a n g0 F0 hgl
    cases hc : (Nat.beq g0 0 && eqbs F0 formsL) with
    | false => rw [hc] at hg; cases hg
    | true =>
      rw [hc] at hg
      simp only [cond_true] at hg
      rw [Bool.and_eq_true] at hc
      replace hgl : s.g = gtab := by rw [hgl, Nat.eq_of_beq_eq_true hc.1, eqbs_eq hc.2]; rfl
      split at hg
      · rename_i ls hb0
        split at hg
        · rename_i s1 hs1
          simp only [Option.some.injEq, Prod.mk.injEq] at hg
          obtain ⟨rfl, rfl, rfl⟩ := hg
          simp only [allT_cons] at hb
          obtain ⟨k1, _⟩ := hb
          have no := chG_no k1
          refine SFun.lay (bs := [.cells ls (some 5)]) (args0 := [.agg [.slo 0 0 n 0]]) (bs' := [.cells ls (some 5), .cells [.slo 0 0 n 0, .slo 4 0 0 0, .slo 2 0 n 0, .slo 3 0 n 0] none, .cells (chR ls) (some 1), .cells (chM ls) (some 1), .dead]) (v0 := .tup [.ptr 1 0, .int .i64 0, .int .i64 0]) hfr hs1 (by simp)
            ⟨⟨there hfr hb0, _, hb0, by (first | exact lb_dead | exact lb_same (by (first | assumption | exact noIds_tab (fun _ => rfl) _ _ | exact noIds_encL (fun _ => rfl) _ | rfl)) | exact lb_ro (by (first | assumption | exact noIds_tab (fun _ => rfl) _ _ | exact noIds_encL (fun _ => rfl) _ | rfl)) | exact lb_none | exact lb_cells (by ((repeat refine lws_cons (by (first | exact lw_any | exact lw_int | exact lw_bool | exact lw_ptr rfl | exact lw_slo rfl | exact lw_nilp | exact lw_nils | exact lw_str | exact lw_slo_nils | exact lw_slo_sle | exact lw_sl rfl | exact lw_unb | exact lw_gptr | exact lw_noid rfl | exact lw_cap rfl (Nat.le_refl _) | exact lw_cap rfl (by omega) | assumption | exact lw_tup (by ((repeat refine lws_cons (by (first | exact lw_any | exact lw_int | exact lw_bool | exact lw_ptr rfl | exact lw_slo rfl | exact lw_nilp | exact lw_nils | exact lw_str | exact lw_slo_nils | exact lw_slo_sle | exact lw_sl rfl | exact lw_unb | exact lw_gptr | exact lw_noid rfl | exact lw_cap rfl (Nat.le_refl _) | exact lw_cap rfl (by omega) | assumption)) ?_); exact lws_nil)))) ?_); exact lws_nil)) (by simp) | exact lb_iter | exact lb_cap (Nat.le_refl _) (Nat.le_refl _) rfl rfl | exact lb_capn (by assumption) (by (first | assumption | exact noIds_tab (fun _ => rfl) _ _ | exact noIds_encL (fun _ => rfl) _ | rfl)) | assumption), fun κ hκ => by (first | exact lb_dead | exact lb_same (by (first | assumption | exact noIds_tab (fun _ => rfl) _ _ | exact noIds_encL (fun _ => rfl) _ | rfl)) | exact lb_ro (by (first | assumption | exact noIds_tab (fun _ => rfl) _ _ | exact noIds_encL (fun _ => rfl) _ | rfl)) | exact lb_none | exact lb_cells (by ((repeat refine lws_cons (by (first | exact lw_any | exact lw_int | exact lw_bool | exact lw_ptr rfl | exact lw_slo rfl | exact lw_nilp | exact lw_nils | exact lw_str | exact lw_slo_nils | exact lw_slo_sle | exact lw_sl rfl | exact lw_unb | exact lw_gptr | exact lw_noid rfl | exact lw_cap rfl (Nat.le_refl _) | exact lw_cap rfl (by omega) | assumption | exact lw_tup (by ((repeat refine lws_cons (by (first | exact lw_any | exact lw_int | exact lw_bool | exact lw_ptr rfl | exact lw_slo rfl | exact lw_nilp | exact lw_nils | exact lw_str | exact lw_slo_nils | exact lw_slo_sle | exact lw_sl rfl | exact lw_unb | exact lw_gptr | exact lw_noid rfl | exact lw_cap rfl (Nat.le_refl _) | exact lw_cap rfl (by omega) | assumption)) ?_); exact lws_nil)))) ?_); exact lws_nil)) (by simp) | exact lb_iter | exact lb_cap (Nat.le_refl _) (Nat.le_refl _) rfl rfl | exact lb_capn (by assumption) (by (first | assumption | exact noIds_tab (fun _ => rfl) _ _ | exact noIds_encL (fun _ => rfl) _ | rfl)) | assumption)⟩, trivial⟩ (by ((repeat refine lws_cons (by (first | exact lw_any | exact lw_int | exact lw_bool | exact lw_ptr rfl | exact lw_slo rfl | exact lw_nilp | exact lw_nils | exact lw_str | exact lw_slo_nils | exact lw_slo_sle | exact lw_sl rfl | exact lw_unb | exact lw_gptr | exact lw_noid rfl | exact lw_cap rfl (Nat.le_refl _) | exact lw_cap rfl (by omega) | assumption | exact lw_tup (by ((repeat refine lws_cons (by (first | exact lw_any | exact lw_int | exact lw_bool | exact lw_ptr rfl | exact lw_slo rfl | exact lw_nilp | exact lw_nils | exact lw_str | exact lw_slo_nils | exact lw_slo_sle | exact lw_sl rfl | exact lw_unb | exact lw_gptr | exact lw_noid rfl | exact lw_cap rfl (Nat.le_refl _) | exact lw_cap rfl (by omega) | assumption)) ?_); exact lws_nil)))) ?_); exact lws_nil)) ?_
            fun κ h1 h2 => ⟨⟨by (first | exact lb_dead | exact lb_same (by (first | assumption | exact noIds_tab (fun _ => rfl) _ _ | exact noIds_encL (fun _ => rfl) _ | rfl)) | exact lb_ro (by (first | assumption | exact noIds_tab (fun _ => rfl) _ _ | exact noIds_encL (fun _ => rfl) _ | rfl)) | exact lb_none | exact lb_cells (by ((repeat refine lws_cons (by (first | exact lw_any | exact lw_int | exact lw_bool | exact lw_ptr rfl | exact lw_slo rfl | exact lw_nilp | exact lw_nils | exact lw_str | exact lw_slo_nils | exact lw_slo_sle | exact lw_sl rfl | exact lw_unb | exact lw_gptr | exact lw_noid rfl | exact lw_cap rfl (Nat.le_refl _) | exact lw_cap rfl (by omega) | assumption | exact lw_tup (by ((repeat refine lws_cons (by (first | exact lw_any | exact lw_int | exact lw_bool | exact lw_ptr rfl | exact lw_slo rfl | exact lw_nilp | exact lw_nils | exact lw_str | exact lw_slo_nils | exact lw_slo_sle | exact lw_sl rfl | exact lw_unb | exact lw_gptr | exact lw_noid rfl | exact lw_cap rfl (Nat.le_refl _) | exact lw_cap rfl (by omega) | assumption)) ?_); exact lws_nil)))) ?_); exact lws_nil)) (by simp) | exact lb_iter | exact lb_cap (Nat.le_refl _) (Nat.le_refl _) rfl rfl | exact lb_capn (by assumption) (by (first | assumption | exact noIds_tab (fun _ => rfl) _ _ | exact noIds_encL (fun _ => rfl) _ | rfl)) | assumption), lb_cells (lws_cons (lw_slo (h1 0 a rfl)) (lws_cons (lw_slo (h2 3 (by simp))) (lws_cons (lw_slo (h2 1 (by simp))) (lws_cons (lw_slo (h2 2 (by simp))) lws_nil)))) (by simp), lb_same (noIds_Ii64 _), lb_same (noIds_Ii64 _), lb_dead, trivial⟩, (lw_tup (lws_cons (lw_ptr (h2 0 (by simp))) (lws_cons (lw_int) (lws_cons (lw_int) lws_nil))))⟩
          rw [hgl]; exact look_goodO k1
        · cases hg
      · cases hg
  · cases hg
def cxCM : Cx := cxl [(3, runCk), (13, wrapG progG), (15, lookOG)]
abbrev mkF : List Code := sp Go.Proofs.Tryd.prog 6
abbrev mkR : List Code := spineL (loopOf (nthC mkF 10))
abbrev mkB : List Code := spineL (blockIn (nthC mkR 2))
abbrev mkL : List Nat := [4, 5, 6, 7, 8, 9, 10, 11, 12, 13]
abbrev mkT0 : List (Nat × LV) := [(5, .ptr 1 0), (6, .int .i64 0), (7, .int .i64 0)]
abbrev mkT1 (N : Nat) : List (Nat × LV) := [(5, .ptr 1 0), (6, .int .i64 0), (7, .int .i64 0), (8, .slo 3 0 N 0), (9, .slo 4 0 N 0)]
abbrev mkT (N d i : Nat) : List (Nat × LV) := [(5, .ptr 1 0), (8, .slo 3 0 N 0), (9, .slo 4 0 N 0), (10, .int .i64 d), (11, .int .i64 i)]
abbrev mkU (N d i : Nat) (op : Int) : List (Nat × LV) := [(5, .ptr 1 0), (8, .slo 3 0 N 0), (9, .slo 4 0 N 0), (10, .int .i64 d), (11, .int .i64 i), (12, .int .i64 op)]
abbrev mkV (N d i : Nat) (op : Int) (q : Bool) : List (Nat × LV) := [(5, .ptr 1 0), (8, .slo 3 0 N 0), (9, .slo 4 0 N 0), (10, .int .i64 d), (11, .int .i64 i), (12, .int .i64 op), (13, .bool q)]
abbrev mkH0 (N : Nat) (ks ps : List LV) : List LB := [.ro ks, .cells [.slo 2 0 N 0] none, .cells ps (some 5)]
abbrev mkH (N : Nat) (ks ps rs ms : List LV) : List LB := [.ro ks, .cells [.slo 2 0 N 0] none, .cells ps (some 5), .cells rs (some 1), .cells ms (some 1)]
theorem cxCM_ok : CtrOk Go.Proofs.Tryd.prog (ctrOf cxCM) := cxl_ok ⟨runCk_ok, wrapG_ok progG_ok, lookOG_ok, trivial⟩
theorem mk_a (np : Nat) (mo : Int) (ks : List LV) (K : Pk) : (xsp Go.Proofs.Tryd.prog cxCM 60 185 (seg mkF 0 5) (tm0 [.slo 0 0 np 0, .int .u8 mo]) (mkS [.ro ks] gtab) (vK mkL K)) = (
 bif okKin np ks (xar .add .i64 (xar .rem .i64 (xwr .i64 mo) 40) 1) then
 bif chG (gN ks (xar .add .i64 (xar .rem .i64 (xwr .i64 mo) 40) 1) false) (gW ks (xar .add .i64 (xar .rem .i64 (xwr .i64 mo) 40) 1) false) then
 K .normal [.bool false, .ptr 2 0, .int .i64 0, .int .i64 0, .tup [], .tup [], .tup [], .tup [], .tup [], .tup []] [some (.ro ks), some (.cells (gW ks (xar .add .i64 (xar .rem .i64 (xwr .i64 mo) 40) 1) false) (some 5)), some (.cells [.slo 1 0 (gN ks (xar .add .i64 (xar .rem .i64 (xwr .i64 mo) 40) 1) false) 0] none), some (.cells [.slo 1 0 (gN ks (xar .add .i64 (xar .rem .i64 (xwr .i64 mo) 40) 1) false) 0] none), some (.cells [.slo 1 0 (gN ks (xar .add .i64 (xar .rem .i64 (xwr .i64 mo) 40) 1) false) 0, .slo 7 0 0 0, .slo 5 0 (gN ks (xar .add .i64 (xar .rem .i64 (xwr .i64 mo) 40) 1) false) 0, .slo 6 0 (gN ks (xar .add .i64 (xar .rem .i64 (xwr .i64 mo) 40) 1) false) 0] none), some (.cells (chR (gW ks (xar .add .i64 (xar .rem .i64 (xwr .i64 mo) 40) 1) false)) (some 1)), some (.cells (chM (gW ks (xar .add .i64 (xar .rem .i64 (xwr .i64 mo) 40) 1) false)) (some 1)), some .dead] gtab
 else False
 else False) := by kernel_rfl
theorem mk_o (N : Nat) (ks ps : List LV) (K : Pk) : (xorders Go.Proofs.Tryd.prog cxCM 60 185 (nthC mkF 5) (mkTm 185 mkT0) (mkS (mkH0 N ks ps) gtab) (vK mkL K)) = (
 bif chG N ps then
 bif chG N ps then
 bif xeq N N then
 bif xeq N N then
 K .normal [.any, .ptr 1 0, .int .i64 0, .int .i64 0, .slo 5 0 N 0, .slo 11 0 N 0, .any, .any, .any, .any] [some (.ro ks), some (.cells [.slo 2 0 N 0] none), some (.cells ps (some 5)), some (.cells [.slo 2 0 N 0] none), some (.cells [.slo 2 0 N 0, .slo 7 0 0 0, .slo 5 0 N 0, .slo 6 0 N 0] none), some (.cells (chR ps) (some 1)), some (.cells (chM ps) (some 1)), some .dead, some (.cells [.slo 2 0 N 0] none), some (.cells [.slo 2 0 N 0, .slo 12 0 0 0, .slo 10 0 N 0, .slo 11 0 N 0] none), some (.cells (chR ps) (some 1)), some (.cells (chM ps) (some 1)), some .dead] gtab
 else False
 else False
 else False
 else False) := by kernel_rfl
abbrev mk_b_b1 (N : Nat) (ks : List LV) (ps : List LV) (rs : List LV) (ms : List LV) : List (Option LB) := [some (.ro ks), some (.cells [.slo 2 0 N 0] none), some (.cells ps (some 5)), some (.cells rs (some 1)), some (.cells ms (some 1))]
theorem mk_b (N : Nat) (ks ps rs ms : List LV) (K : Pk) : (xsp Go.Proofs.Tryd.prog cxCM 60 185 (seg mkF 6 4) (mkTm 185 (mkT1 N)) (mkS (mkH N ks ps rs ms) gtab) (vK mkL K)) = (
 bif xcm .neq ↑N ↑N then (
 K .ret [.bool false, .ptr 1 0, .int .i64 0, .int .i64 0, .slo 3 0 N 0, .slo 4 0 N 0, .any, .any, .any, .any] (mk_b_b1 N ks ps rs ms) gtab)
 else (
 bif xcm .neq ↑N ↑N then (
 K .ret [.bool false, .ptr 1 0, .int .i64 0, .int .i64 0, .slo 3 0 N 0, .slo 4 0 N 0, .any, .any, .any, .any] (mk_b_b1 N ks ps rs ms) gtab)
 else (
 K .normal [.any, .ptr 1 0, .int .i64 0, .int .i64 0, .slo 3 0 N 0, .slo 4 0 N 0, .int .i64 0, .int .i64 0, .any, .any] (mk_b_b1 N ks ps rs ms) gtab))) := by kernel_rfl
abbrev mk_h_b1 (N : Nat) (ks : List LV) (ps : List LV) (rs : List LV) (ms : List LV) : List (Option LB) := [some (.ro ks), some (.cells [.slo 2 0 N 0] none), some (.cells ps (some 5)), some (.cells rs (some 1)), some (.cells ms (some 1))]
theorem mk_h (N d i : Nat) (ks ps rs ms : List LV) (K : Pk) : (xsp Go.Proofs.Tryd.prog cxCM 60 185 (seg mkR 0 2) (mkTm 185 (mkT N d i)) (mkS (mkH N ks ps rs ms) gtab) (vK mkL K)) = (
 bif xcm .lss ↑i ↑N then (
 K .normal [.any, .ptr 1 0, .any, .any, .slo 3 0 N 0, .slo 4 0 N 0, .int .i64 ↑d, .int .i64 ↑i, .any, .any] (mk_h_b1 N ks ps rs ms) gtab)
 else (
 K (.exit 0) [.any, .ptr 1 0, .any, .any, .slo 3 0 N 0, .slo 4 0 N 0, .int .i64 ↑d, .int .i64 ↑i, .any, .any] (mk_h_b1 N ks ps rs ms) gtab)) := by kernel_rfl
abbrev mk_c_b1 (N : Nat) (ks : List LV) (ps : List LV) (rs : List LV) (ms : List LV) : List (Option LB) := [some (.ro ks), some (.cells [.slo 2 0 N 0] none), some (.cells ps (some 5)), some (.cells rs (some 1)), some (.cells ms (some 1))]
theorem mk_c (N d i : Nat) (ks ps rs ms : List LV) (K : Pk) : (xsp Go.Proofs.Tryd.prog cxCM 60 185 (seg mkB 0 3) (mkTm 185 (mkT N d i)) (mkS (mkH N ks ps rs ms) gtab) (vK mkL K)) = (
 bif xle (xadd (xnat ↑i) 1) N then
 bif xle (xadd (xix 0 (xnat ↑i) 5) 1) (xln ps) then
 bif isI .i64 (nthD ps (xix 0 (xnat ↑i) 5)) then
 bif xcm .eql (asI (nthD ps (xix 0 (xnat ↑i) 5))) 14 then (
 bif xcm .eql (asI (nthD ps (xix 0 (xnat ↑i) 5))) 14 then (
 K .normal [.any, .ptr 1 0, .any, .any, .slo 3 0 N 0, .slo 4 0 N 0, .int .i64 (xar .add .i64 (↑d) 1), .int .i64 ↑i, .int .i64 (asI (nthD ps (xix 0 (xnat ↑i) 5))), .any] (mk_c_b1 N ks ps rs ms) gtab)
 else (
 bif xcm .eql (asI (nthD ps (xix 0 (xnat ↑i) 5))) 15 then (
 bif xcm .eql (asI (nthD ps (xix 0 (xnat ↑i) 5))) 15 then (
 K .normal [.any, .ptr 1 0, .any, .any, .slo 3 0 N 0, .slo 4 0 N 0, .int .i64 (xar .sub .i64 (↑d) 1), .int .i64 ↑i, .int .i64 (asI (nthD ps (xix 0 (xnat ↑i) 5))), .any] (mk_c_b1 N ks ps rs ms) gtab)
 else (
 K .normal [.any, .ptr 1 0, .any, .any, .slo 3 0 N 0, .slo 4 0 N 0, .int .i64 ↑d, .int .i64 ↑i, .int .i64 (asI (nthD ps (xix 0 (xnat ↑i) 5))), .any] (mk_c_b1 N ks ps rs ms) gtab))
 else (
 bif xcm .eql (asI (nthD ps (xix 0 (xnat ↑i) 5))) 19 then (
 K .normal [.any, .ptr 1 0, .any, .any, .slo 3 0 N 0, .slo 4 0 N 0, .int .i64 (xar .sub .i64 (↑d) 1), .int .i64 ↑i, .int .i64 (asI (nthD ps (xix 0 (xnat ↑i) 5))), .any] (mk_c_b1 N ks ps rs ms) gtab)
 else (
 K .normal [.any, .ptr 1 0, .any, .any, .slo 3 0 N 0, .slo 4 0 N 0, .int .i64 ↑d, .int .i64 ↑i, .int .i64 (asI (nthD ps (xix 0 (xnat ↑i) 5))), .any] (mk_c_b1 N ks ps rs ms) gtab))))
 else (
 bif xcm .eql (asI (nthD ps (xix 0 (xnat ↑i) 5))) 17 then (
 K .normal [.any, .ptr 1 0, .any, .any, .slo 3 0 N 0, .slo 4 0 N 0, .int .i64 (xar .add .i64 (↑d) 1), .int .i64 ↑i, .int .i64 (asI (nthD ps (xix 0 (xnat ↑i) 5))), .any] (mk_c_b1 N ks ps rs ms) gtab)
 else (
 bif xcm .eql (asI (nthD ps (xix 0 (xnat ↑i) 5))) 15 then (
 bif xcm .eql (asI (nthD ps (xix 0 (xnat ↑i) 5))) 15 then (
 K .normal [.any, .ptr 1 0, .any, .any, .slo 3 0 N 0, .slo 4 0 N 0, .int .i64 (xar .sub .i64 (↑d) 1), .int .i64 ↑i, .int .i64 (asI (nthD ps (xix 0 (xnat ↑i) 5))), .any] (mk_c_b1 N ks ps rs ms) gtab)
 else (
 K .normal [.any, .ptr 1 0, .any, .any, .slo 3 0 N 0, .slo 4 0 N 0, .int .i64 ↑d, .int .i64 ↑i, .int .i64 (asI (nthD ps (xix 0 (xnat ↑i) 5))), .any] (mk_c_b1 N ks ps rs ms) gtab))
 else (
 bif xcm .eql (asI (nthD ps (xix 0 (xnat ↑i) 5))) 19 then (
 K .normal [.any, .ptr 1 0, .any, .any, .slo 3 0 N 0, .slo 4 0 N 0, .int .i64 (xar .sub .i64 (↑d) 1), .int .i64 ↑i, .int .i64 (asI (nthD ps (xix 0 (xnat ↑i) 5))), .any] (mk_c_b1 N ks ps rs ms) gtab)
 else (
 K .normal [.any, .ptr 1 0, .any, .any, .slo 3 0 N 0, .slo 4 0 N 0, .int .i64 ↑d, .int .i64 ↑i, .int .i64 (asI (nthD ps (xix 0 (xnat ↑i) 5))), .any] (mk_c_b1 N ks ps rs ms) gtab))))
 else False
 else False
 else False) := by kernel_rfl
abbrev mk_q_b1 (N : Nat) (ks : List LV) (ps : List LV) (rs : List LV) (ms : List LV) : List (Option LB) := [some (.ro ks), some (.cells [.slo 2 0 N 0] none), some (.cells ps (some 5)), some (.cells rs (some 1)), some (.cells ms (some 1))]
theorem mk_q (N d i : Nat) (op : Int) (ks ps rs ms : List LV) (K : Pk) : (xsp Go.Proofs.Tryd.prog cxCM 60 185 (seg mkB 3 1) (mkTm 185 (mkU N d i op)) (mkS (mkH N ks ps rs ms) gtab) (vK mkL K)) = (
 bif xcm .eql op 14 then (
 K .normal [.any, .ptr 1 0, .any, .any, .slo 3 0 N 0, .slo 4 0 N 0, .int .i64 ↑d, .int .i64 ↑i, .int .i64 op, .bool true] (mk_q_b1 N ks ps rs ms) gtab)
 else (
 bif xcm .eql op 17 then (
 K .normal [.any, .ptr 1 0, .any, .any, .slo 3 0 N 0, .slo 4 0 N 0, .int .i64 ↑d, .int .i64 ↑i, .int .i64 op, .bool true] (mk_q_b1 N ks ps rs ms) gtab)
 else (
 K .normal [.any, .ptr 1 0, .any, .any, .slo 3 0 N 0, .slo 4 0 N 0, .int .i64 ↑d, .int .i64 ↑i, .int .i64 op, .bool (xcm .eql op 18)] (mk_q_b1 N ks ps rs ms) gtab))) := by kernel_rfl
abbrev mk_r_b1 (N : Nat) (ks : List LV) (ps : List LV) (rs : List LV) (ms : List LV) : List (Option LB) := [some (.ro ks), some (.cells [.slo 2 0 N 0] none), some (.cells ps (some 5)), some (.cells rs (some 1)), some (.cells ms (some 1))]
theorem mk_r (N d i : Nat) (op : Int) (q : Bool) (ks ps rs ms : List LV) (K : Pk) : (xsp Go.Proofs.Tryd.prog cxCM 60 185 (seg mkB 4 2) (mkTm 185 (mkV N d i op q)) (mkS (mkH N ks ps rs ms) gtab) (vK mkL K)) = (
 bif xcm .lss (↑d) 0 then (
 K .ret [.bool false, .ptr 1 0, .any, .any, .slo 3 0 N 0, .slo 4 0 N 0, .int .i64 ↑d, .int .i64 ↑i, .int .i64 op, .bool q] (mk_r_b1 N ks ps rs ms) gtab)
 else (
 bif xcm .geq (↑d) 6 then (
 K .ret [.bool false, .ptr 1 0, .any, .any, .slo 3 0 N 0, .slo 4 0 N 0, .int .i64 ↑d, .int .i64 ↑i, .int .i64 op, .bool q] (mk_r_b1 N ks ps rs ms) gtab)
 else (
 bif xle (xadd (xnat ↑i) 1) N then
 bif xle (xadd (xix 0 (xnat ↑i) 1) 1) (xln rs) then
 bif isI .i64 (nthD rs (xix 0 (xnat ↑i) 1)) then
 bif xcm .geq (asI (nthD rs (xix 0 (xnat ↑i) 1))) ↑i then (
 K .ret [.bool false, .ptr 1 0, .any, .any, .slo 3 0 N 0, .slo 4 0 N 0, .int .i64 ↑d, .int .i64 ↑i, .int .i64 op, .bool q] (mk_r_b1 N ks ps rs ms) gtab)
 else (
 bif xle (xadd (xnat ↑i) 1) N then
 bif xle (xadd (xix 0 (xnat ↑i) 1) 1) (xln rs) then
 bif isI .i64 (nthD rs (xix 0 (xnat ↑i) 1)) then
 bif xcm .lss (asI (nthD rs (xix 0 (xnat ↑i) 1))) (-1) then (
 K .ret [.bool false, .ptr 1 0, .any, .any, .slo 3 0 N 0, .slo 4 0 N 0, .int .i64 ↑d, .int .i64 ↑i, .int .i64 op, .bool q] (mk_r_b1 N ks ps rs ms) gtab)
 else (
 bif xle (xadd (xnat ↑i) 1) N then
 bif xle (xadd (xix 0 (xnat ↑i) 1) 1) (xln ms) then
 bif isI .i64 (nthD ms (xix 0 (xnat ↑i) 1)) then
 bif q then (
 bif xnot (xbq (xcm .geq (asI (nthD ms (xix 0 (xnat ↑i) 1))) 0) true) then (
 K .ret [.bool false, .ptr 1 0, .any, .any, .slo 3 0 N 0, .slo 4 0 N 0, .int .i64 ↑d, .int .i64 ↑i, .int .i64 op, .bool q] (mk_r_b1 N ks ps rs ms) gtab)
 else (
 bif xle (xadd (xnat ↑i) 1) N then
 bif xle (xadd (xix 0 (xnat ↑i) 1) 1) (xln ms) then
 bif isI .i64 (nthD ms (xix 0 (xnat ↑i) 1)) then
 bif xcm .geq (asI (nthD ms (xix 0 (xnat ↑i) 1))) 0 then (
 bif xle (xadd (xnat ↑i) 1) N then
 bif xle (xadd (xix 0 (xnat ↑i) 1) 1) (xln ms) then
 bif isI .i64 (nthD ms (xix 0 (xnat ↑i) 1)) then
 bif xcm .leq (asI (nthD ms (xix 0 (xnat ↑i) 1))) ↑i then (
 K .ret [.bool false, .ptr 1 0, .any, .any, .slo 3 0 N 0, .slo 4 0 N 0, .int .i64 ↑d, .int .i64 ↑i, .int .i64 op, .bool q] (mk_r_b1 N ks ps rs ms) gtab)
 else (
 bif xle (xadd (xnat ↑i) 1) N then
 bif xle (xadd (xix 0 (xnat ↑i) 1) 1) (xln ms) then
 bif isI .i64 (nthD ms (xix 0 (xnat ↑i) 1)) then
 bif xcm .geq (asI (nthD ms (xix 0 (xnat ↑i) 1))) ↑N then (
 K .ret [.bool false, .ptr 1 0, .any, .any, .slo 3 0 N 0, .slo 4 0 N 0, .int .i64 ↑d, .int .i64 ↑i, .int .i64 op, .bool q] (mk_r_b1 N ks ps rs ms) gtab)
 else (
 K .normal [.any, .ptr 1 0, .any, .any, .slo 3 0 N 0, .slo 4 0 N 0, .int .i64 ↑d, .int .i64 ↑i, .int .i64 op, .bool q] (mk_r_b1 N ks ps rs ms) gtab)
 else False
 else False
 else False)
 else False
 else False
 else False)
 else (
 bif xle (xadd (xnat ↑i) 1) N then
 bif xle (xadd (xix 0 (xnat ↑i) 1) 1) (xln ms) then
 bif isI .i64 (nthD ms (xix 0 (xnat ↑i) 1)) then
 bif xcm .geq (asI (nthD ms (xix 0 (xnat ↑i) 1))) ↑N then (
 K .ret [.bool false, .ptr 1 0, .any, .any, .slo 3 0 N 0, .slo 4 0 N 0, .int .i64 ↑d, .int .i64 ↑i, .int .i64 op, .bool q] (mk_r_b1 N ks ps rs ms) gtab)
 else (
 K .normal [.any, .ptr 1 0, .any, .any, .slo 3 0 N 0, .slo 4 0 N 0, .int .i64 ↑d, .int .i64 ↑i, .int .i64 op, .bool q] (mk_r_b1 N ks ps rs ms) gtab)
 else False
 else False
 else False)
 else False
 else False
 else False))
 else (
 bif xnot (xbq (xcm .geq (asI (nthD ms (xix 0 (xnat ↑i) 1))) 0) (xcm .eql op 16)) then (
 K .ret [.bool false, .ptr 1 0, .any, .any, .slo 3 0 N 0, .slo 4 0 N 0, .int .i64 ↑d, .int .i64 ↑i, .int .i64 op, .bool q] (mk_r_b1 N ks ps rs ms) gtab)
 else (
 bif xle (xadd (xnat ↑i) 1) N then
 bif xle (xadd (xix 0 (xnat ↑i) 1) 1) (xln ms) then
 bif isI .i64 (nthD ms (xix 0 (xnat ↑i) 1)) then
 bif xcm .geq (asI (nthD ms (xix 0 (xnat ↑i) 1))) 0 then (
 bif xle (xadd (xnat ↑i) 1) N then
 bif xle (xadd (xix 0 (xnat ↑i) 1) 1) (xln ms) then
 bif isI .i64 (nthD ms (xix 0 (xnat ↑i) 1)) then
 bif xcm .leq (asI (nthD ms (xix 0 (xnat ↑i) 1))) ↑i then (
 K .ret [.bool false, .ptr 1 0, .any, .any, .slo 3 0 N 0, .slo 4 0 N 0, .int .i64 ↑d, .int .i64 ↑i, .int .i64 op, .bool q] (mk_r_b1 N ks ps rs ms) gtab)
 else (
 bif xle (xadd (xnat ↑i) 1) N then
 bif xle (xadd (xix 0 (xnat ↑i) 1) 1) (xln ms) then
 bif isI .i64 (nthD ms (xix 0 (xnat ↑i) 1)) then
 bif xcm .geq (asI (nthD ms (xix 0 (xnat ↑i) 1))) ↑N then (
 K .ret [.bool false, .ptr 1 0, .any, .any, .slo 3 0 N 0, .slo 4 0 N 0, .int .i64 ↑d, .int .i64 ↑i, .int .i64 op, .bool q] (mk_r_b1 N ks ps rs ms) gtab)
 else (
 K .normal [.any, .ptr 1 0, .any, .any, .slo 3 0 N 0, .slo 4 0 N 0, .int .i64 ↑d, .int .i64 ↑i, .int .i64 op, .bool q] (mk_r_b1 N ks ps rs ms) gtab)
 else False
 else False
 else False)
 else False
 else False
 else False)
 else (
 bif xle (xadd (xnat ↑i) 1) N then
 bif xle (xadd (xix 0 (xnat ↑i) 1) 1) (xln ms) then
 bif isI .i64 (nthD ms (xix 0 (xnat ↑i) 1)) then
 bif xcm .geq (asI (nthD ms (xix 0 (xnat ↑i) 1))) ↑N then (
 K .ret [.bool false, .ptr 1 0, .any, .any, .slo 3 0 N 0, .slo 4 0 N 0, .int .i64 ↑d, .int .i64 ↑i, .int .i64 op, .bool q] (mk_r_b1 N ks ps rs ms) gtab)
 else (
 K .normal [.any, .ptr 1 0, .any, .any, .slo 3 0 N 0, .slo 4 0 N 0, .int .i64 ↑d, .int .i64 ↑i, .int .i64 op, .bool q] (mk_r_b1 N ks ps rs ms) gtab)
 else False
 else False
 else False)
 else False
 else False
 else False))
 else False
 else False
 else False)
 else False
 else False
 else False)
 else False
 else False
 else False))) := by kernel_rfl
abbrev mk_s_b1 (N : Nat) (ks : List LV) (ps : List LV) (rs : List LV) (ms : List LV) : List (Option LB) := [some (.ro ks), some (.cells [.slo 2 0 N 0] none), some (.cells ps (some 5)), some (.cells rs (some 1)), some (.cells ms (some 1))]
theorem mk_s (N d i : Nat) (op : Int) (q : Bool) (ks ps rs ms : List LV) (K : Pk) : (xsp Go.Proofs.Tryd.prog cxCM 60 185 (mkB.drop 6) (mkTm 185 (mkV N d i op q)) (mkS (mkH N ks ps rs ms) gtab) (vK mkL K)) = (
 bif q then (
 bif xle (xadd (xnat ↑i) 1) N then
 bif xle (xadd (xix 0 (xnat ↑i) 1) 1) (xln ms) then
 bif isI .i64 (nthD ms (xix 0 (xnat ↑i) 1)) then
 bif xnn (asI (nthD ms (xix 0 (xnat ↑i) 1))) then
 bif xle (xadd (xnat (asI (nthD ms (xix 0 (xnat ↑i) 1)))) 1) N then
 bif xle (xadd (xix 0 (xnat (asI (nthD ms (xix 0 (xnat ↑i) 1)))) 1) 1) (xln rs) then
 bif isI .i64 (nthD rs (xix 0 (xnat (asI (nthD ms (xix 0 (xnat ↑i) 1)))) 1)) then
 bif xcm .neq (asI (nthD rs (xix 0 (xnat (asI (nthD ms (xix 0 (xnat ↑i) 1)))) 1))) ↑i then (
 K .ret [.bool false, .ptr 1 0, .any, .any, .slo 3 0 N 0, .slo 4 0 N 0, .int .i64 ↑d, .int .i64 ↑i, .int .i64 op, .bool q] (mk_s_b1 N ks ps rs ms) gtab)
 else (
 bif xcm .eql op 16 then (
 bif xle (xadd (xnat ↑i) 1) N then
 bif xle (xadd (xix 0 (xnat ↑i) 1) 1) (xln rs) then
 bif isI .i64 (nthD rs (xix 0 (xnat ↑i) 1)) then
 bif xcm .lss (asI (nthD rs (xix 0 (xnat ↑i) 1))) 0 then (
 K .ret [.bool false, .ptr 1 0, .any, .any, .slo 3 0 N 0, .slo 4 0 N 0, .int .i64 ↑d, .int .i64 ↑i, .int .i64 op, .bool q] (mk_s_b1 N ks ps rs ms) gtab)
 else (
 bif xle (xadd (xnat ↑i) 1) N then
 bif xle (xadd (xix 0 (xnat ↑i) 1) 1) (xln ms) then
 bif isI .i64 (nthD ms (xix 0 (xnat ↑i) 1)) then
 bif xle (xadd (xnat ↑i) 1) N then
 bif xle (xadd (xix 0 (xnat ↑i) 1) 1) (xln rs) then
 bif isI .i64 (nthD rs (xix 0 (xnat ↑i) 1)) then
 bif xnn (asI (nthD rs (xix 0 (xnat ↑i) 1))) then
 bif xle (xadd (xnat (asI (nthD rs (xix 0 (xnat ↑i) 1)))) 1) N then
 bif xle (xadd (xix 0 (xnat (asI (nthD rs (xix 0 (xnat ↑i) 1)))) 1) 1) (xln ms) then
 bif isI .i64 (nthD ms (xix 0 (xnat (asI (nthD rs (xix 0 (xnat ↑i) 1)))) 1)) then
 bif xcm .neq (asI (nthD ms (xix 0 (xnat ↑i) 1))) (asI (nthD ms (xix 0 (xnat (asI (nthD rs (xix 0 (xnat ↑i) 1)))) 1))) then (
 K .ret [.bool false, .ptr 1 0, .any, .any, .slo 3 0 N 0, .slo 4 0 N 0, .int .i64 ↑d, .int .i64 ↑i, .int .i64 op, .bool q] (mk_s_b1 N ks ps rs ms) gtab)
 else (
 K .normal [.any, .ptr 1 0, .any, .any, .slo 3 0 N 0, .slo 4 0 N 0, .int .i64 ↑d, .int .i64 ↑i, .int .i64 op, .bool q] (mk_s_b1 N ks ps rs ms) gtab)
 else False
 else False
 else False
 else False
 else False
 else False
 else False
 else False
 else False
 else False)
 else False
 else False
 else False)
 else (
 K .normal [.any, .ptr 1 0, .any, .any, .slo 3 0 N 0, .slo 4 0 N 0, .int .i64 ↑d, .int .i64 ↑i, .int .i64 op, .bool q] (mk_s_b1 N ks ps rs ms) gtab))
 else False
 else False
 else False
 else False
 else False
 else False
 else False)
 else (
 bif xcm .eql op 16 then (
 bif xle (xadd (xnat ↑i) 1) N then
 bif xle (xadd (xix 0 (xnat ↑i) 1) 1) (xln rs) then
 bif isI .i64 (nthD rs (xix 0 (xnat ↑i) 1)) then
 bif xcm .lss (asI (nthD rs (xix 0 (xnat ↑i) 1))) 0 then (
 K .ret [.bool false, .ptr 1 0, .any, .any, .slo 3 0 N 0, .slo 4 0 N 0, .int .i64 ↑d, .int .i64 ↑i, .int .i64 op, .bool q] (mk_s_b1 N ks ps rs ms) gtab)
 else (
 bif xle (xadd (xnat ↑i) 1) N then
 bif xle (xadd (xix 0 (xnat ↑i) 1) 1) (xln ms) then
 bif isI .i64 (nthD ms (xix 0 (xnat ↑i) 1)) then
 bif xle (xadd (xnat ↑i) 1) N then
 bif xle (xadd (xix 0 (xnat ↑i) 1) 1) (xln rs) then
 bif isI .i64 (nthD rs (xix 0 (xnat ↑i) 1)) then
 bif xnn (asI (nthD rs (xix 0 (xnat ↑i) 1))) then
 bif xle (xadd (xnat (asI (nthD rs (xix 0 (xnat ↑i) 1)))) 1) N then
 bif xle (xadd (xix 0 (xnat (asI (nthD rs (xix 0 (xnat ↑i) 1)))) 1) 1) (xln ms) then
 bif isI .i64 (nthD ms (xix 0 (xnat (asI (nthD rs (xix 0 (xnat ↑i) 1)))) 1)) then
 bif xcm .neq (asI (nthD ms (xix 0 (xnat ↑i) 1))) (asI (nthD ms (xix 0 (xnat (asI (nthD rs (xix 0 (xnat ↑i) 1)))) 1))) then (
 K .ret [.bool false, .ptr 1 0, .any, .any, .slo 3 0 N 0, .slo 4 0 N 0, .int .i64 ↑d, .int .i64 ↑i, .int .i64 op, .bool q] (mk_s_b1 N ks ps rs ms) gtab)
 else (
 K .normal [.any, .ptr 1 0, .any, .any, .slo 3 0 N 0, .slo 4 0 N 0, .int .i64 ↑d, .int .i64 ↑i, .int .i64 op, .bool q] (mk_s_b1 N ks ps rs ms) gtab)
 else False
 else False
 else False
 else False
 else False
 else False
 else False
 else False
 else False
 else False)
 else False
 else False
 else False)
 else (
 K .normal [.any, .ptr 1 0, .any, .any, .slo 3 0 N 0, .slo 4 0 N 0, .int .i64 ↑d, .int .i64 ↑i, .int .i64 op, .bool q] (mk_s_b1 N ks ps rs ms) gtab))) := by kernel_rfl
theorem mk_n (N d i : Nat) (ks ps rs ms : List LV) (K : Pk) : (xsp Go.Proofs.Tryd.prog cxCM 60 185 (mkR.drop 3) (mkTm 185 (mkT N d i)) (mkS (mkH N ks ps rs ms) gtab) (vK mkL K)) = (
 K .normal [.any, .ptr 1 0, .any, .any, .slo 3 0 N 0, .slo 4 0 N 0, .int .i64 ↑d, .int .i64 (xar .add .i64 (↑i) 1), .any, .any] [some (.ro ks), some (.cells [.slo 2 0 N 0] none), some (.cells ps (some 5)), some (.cells rs (some 1)), some (.cells ms (some 1))] gtab) := by kernel_rfl
theorem mk_z (N d i : Nat) (ks ps rs ms : List LV) (K : Pk) : (xsp Go.Proofs.Tryd.prog cxCM 60 185 (mkF.drop 11) (mkTm 185 (mkT N d i)) (mkS (mkH N ks ps rs ms) gtab) (vK mkL K)) = (
 K .ret [.bool (xcm .eql (↑d) 0), .ptr 1 0, .any, .any, .slo 3 0 N 0, .slo 4 0 N 0, .int .i64 ↑d, .int .i64 ↑i, .any, .any] [some (.ro ks), some (.cells [.slo 2 0 N 0] none), some (.cells ps (some 5)), some (.cells rs (some 1)), some (.cells ms (some 1))] gtab) := by kernel_rfl
end
end Go.Lev
