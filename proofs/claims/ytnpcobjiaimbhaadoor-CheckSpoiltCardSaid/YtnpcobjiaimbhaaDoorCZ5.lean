/- CheckSpoilt: the law's trees -/
import Derived.Test.YtnpcobjiaimbhaaDoorCW11
import Derived.Test.YtnpcobjiaimbhaaDoorCZ4
import Derived.Test.YtnpcobjiaimbhaaDoorLc
import Derived.Test.YtnpcobjiaimbhaaDoorChecked
import Derived.KernelRfl

import Derived.Test.YtnpcobjiaimbhaaDoorLc
namespace Go.Lev
open Go.RowKit
set_option linter.unusedVariables false
set_option linter.unusedSimpArgs false
set_option maxRecDepth 100000
noncomputable section
def decKin : List LV → List KinR
  | .int _ a :: .int _ b :: .int _ c :: .int _ d :: .int _ e :: r => ⟨a, b, c, d, e⟩ :: decKin r
  | _ => []
theorem decKin_enc : ∀ xs, decKin (encL kinE xs) = xs
  | [] => rfl
  | x :: r => by simp [encL, kinE, decKin, decKin_enc r]
def okKin (n : Nat) (ks : List LV) (m : Int) : Bool := @decide (∃ K, ks = encL kinE K ∧ K.length = n ∧ n ≤ 9223372036854775807 ∧ m ≤ 1000) (Classical.propDecidable _)

def gN (ks : List LV) (m : Int) (calm : Bool) : Nat := (gF (decKin ks) m calm).length

def gW (ks : List LV) (m : Int) (calm : Bool) : List LV := encL insE (gF (decKin ks) m calm)

theorem okKin_iff {n : Nat} {ks : List LV} {m : Int} : okKin n ks m = true ↔ ∃ K, ks = encL kinE K ∧ K.length = n ∧ n ≤ 9223372036854775807 ∧ m ≤ 1000 := by simp only [okKin, decide_eq_true_eq]
theorem okKin_no {n : Nat} {ks : List LV} {m : Int} (h : okKin n ks m = true) : noIds ks = true := by obtain ⟨K, rfl, _⟩ := okKin_iff.1 h; exact kin_noids K
theorem prog_in {n : Nat} {ks : List LV} {m : Int} (calm : Bool) (h : okKin n ks m = true) : SFun Go.Proofs.Tryd.prog 13 [.slo 0 0 n 0, .int .i64 m, .bool calm] (mkS [.ro ks]) fun l s => l = .agg [.slo 1 0 (gN ks m calm) 0] ∧ s = mkS [.ro ks, .cells (gW ks m calm) (some 5)] := by
  obtain ⟨K, rfl, rfl, h1, h2⟩ := okKin_iff.1 h
  refine SFun.mono (prog_fun K m calm h2 h1) fun l s ⟨b, hb, hs⟩ => ?_
  rw [gN, gW, decKin_enc]; exact ⟨hb.2.1, by rw [hs, hb.2.2]⟩
def progG : Gc := fun args s => match args, s.g with
  | [.slo a 0 n 0, .int .i64 m, .bool calm], [] => (match s.h.get a with
    | some (.ro ks) => (match s.lay [a] [.ro ks] [.cells (gW ks m calm) (some 5)] with
      | some s' => some ([okKin n ks m], .agg [.slo s.n 0 (gN ks m calm) 0], s')
      | none => none)
    | _ => none)
  | _, _ => none
theorem progG_ok : GOk Go.Proofs.Tryd.prog 13 progG := by
  intro args s bs l s' hg hb hfr
  unfold progG at hg
  split at hg
  · rename_i a n m calm hgl
    split at hg
    · rename_i ks hb0
      split at hg
      · rename_i s1 hs1
        simp only [Option.some.injEq, Prod.mk.injEq] at hg
        obtain ⟨rfl, rfl, rfl⟩ := hg
        simp only [allT_cons] at hb
        obtain ⟨k1, _⟩ := hb
        have no := okKin_no k1
        refine SFun.lay (bs := [.ro ks]) (args0 := [.slo 0 0 n 0, .int .i64 m, .bool calm]) (bs' := [.ro ks, .cells (gW ks m calm) (some 5)]) (v0 := .agg [.slo 1 0 (gN ks m calm) 0]) hfr hs1 (by simp)
          ⟨⟨there hfr hb0, _, hb0, by (first | exact lb_dead | exact lb_same (by (first | assumption | exact noIds_tab (fun _ => rfl) _ _ | exact noIds_encL (fun _ => rfl) _ | rfl)) | exact lb_ro (by (first | assumption | exact noIds_tab (fun _ => rfl) _ _ | exact noIds_encL (fun _ => rfl) _ | rfl)) | exact lb_none | exact lb_cells (by ((repeat refine lws_cons (by (first | exact lw_any | exact lw_int | exact lw_bool | exact lw_ptr rfl | exact lw_slo rfl | exact lw_nilp | exact lw_nils | exact lw_str | exact lw_slo_nils | exact lw_slo_sle | exact lw_sl rfl | exact lw_unb | exact lw_gptr | exact lw_noid rfl | exact lw_cap rfl (Nat.le_refl _) | exact lw_cap rfl (by omega) | assumption | exact lw_tup (by ((repeat refine lws_cons (by (first | exact lw_any | exact lw_int | exact lw_bool | exact lw_ptr rfl | exact lw_slo rfl | exact lw_nilp | exact lw_nils | exact lw_str | exact lw_slo_nils | exact lw_slo_sle | exact lw_sl rfl | exact lw_unb | exact lw_gptr | exact lw_noid rfl | exact lw_cap rfl (Nat.le_refl _) | exact lw_cap rfl (by omega) | assumption)) ?_); exact lws_nil)))) ?_); exact lws_nil)) (by simp) | exact lb_iter | exact lb_cap (Nat.le_refl _) (Nat.le_refl _) rfl rfl | exact lb_capn (by assumption) (by (first | assumption | exact noIds_tab (fun _ => rfl) _ _ | exact noIds_encL (fun _ => rfl) _ | rfl)) | assumption), fun κ hκ => by (first | exact lb_dead | exact lb_same (by (first | assumption | exact noIds_tab (fun _ => rfl) _ _ | exact noIds_encL (fun _ => rfl) _ | rfl)) | exact lb_ro (by (first | assumption | exact noIds_tab (fun _ => rfl) _ _ | exact noIds_encL (fun _ => rfl) _ | rfl)) | exact lb_none | exact lb_cells (by ((repeat refine lws_cons (by (first | exact lw_any | exact lw_int | exact lw_bool | exact lw_ptr rfl | exact lw_slo rfl | exact lw_nilp | exact lw_nils | exact lw_str | exact lw_slo_nils | exact lw_slo_sle | exact lw_sl rfl | exact lw_unb | exact lw_gptr | exact lw_noid rfl | exact lw_cap rfl (Nat.le_refl _) | exact lw_cap rfl (by omega) | assumption | exact lw_tup (by ((repeat refine lws_cons (by (first | exact lw_any | exact lw_int | exact lw_bool | exact lw_ptr rfl | exact lw_slo rfl | exact lw_nilp | exact lw_nils | exact lw_str | exact lw_slo_nils | exact lw_slo_sle | exact lw_sl rfl | exact lw_unb | exact lw_gptr | exact lw_noid rfl | exact lw_cap rfl (Nat.le_refl _) | exact lw_cap rfl (by omega) | assumption)) ?_); exact lws_nil)))) ?_); exact lws_nil)) (by simp) | exact lb_iter | exact lb_cap (Nat.le_refl _) (Nat.le_refl _) rfl rfl | exact lb_capn (by assumption) (by (first | assumption | exact noIds_tab (fun _ => rfl) _ _ | exact noIds_encL (fun _ => rfl) _ | rfl)) | assumption)⟩, trivial⟩ (by ((repeat refine lws_cons (by (first | exact lw_any | exact lw_int | exact lw_bool | exact lw_ptr rfl | exact lw_slo rfl | exact lw_nilp | exact lw_nils | exact lw_str | exact lw_slo_nils | exact lw_slo_sle | exact lw_sl rfl | exact lw_unb | exact lw_gptr | exact lw_noid rfl | exact lw_cap rfl (Nat.le_refl _) | exact lw_cap rfl (by omega) | assumption | exact lw_tup (by ((repeat refine lws_cons (by (first | exact lw_any | exact lw_int | exact lw_bool | exact lw_ptr rfl | exact lw_slo rfl | exact lw_nilp | exact lw_nils | exact lw_str | exact lw_slo_nils | exact lw_slo_sle | exact lw_sl rfl | exact lw_unb | exact lw_gptr | exact lw_noid rfl | exact lw_cap rfl (Nat.le_refl _) | exact lw_cap rfl (by omega) | assumption)) ?_); exact lws_nil)))) ?_); exact lws_nil)) ?_
          fun κ h1 h2 => ⟨⟨by (first | exact lb_dead | exact lb_same (by (first | assumption | exact noIds_tab (fun _ => rfl) _ _ | exact noIds_encL (fun _ => rfl) _ | rfl)) | exact lb_ro (by (first | assumption | exact noIds_tab (fun _ => rfl) _ _ | exact noIds_encL (fun _ => rfl) _ | rfl)) | exact lb_none | exact lb_cells (by ((repeat refine lws_cons (by (first | exact lw_any | exact lw_int | exact lw_bool | exact lw_ptr rfl | exact lw_slo rfl | exact lw_nilp | exact lw_nils | exact lw_str | exact lw_slo_nils | exact lw_slo_sle | exact lw_sl rfl | exact lw_unb | exact lw_gptr | exact lw_noid rfl | exact lw_cap rfl (Nat.le_refl _) | exact lw_cap rfl (by omega) | assumption | exact lw_tup (by ((repeat refine lws_cons (by (first | exact lw_any | exact lw_int | exact lw_bool | exact lw_ptr rfl | exact lw_slo rfl | exact lw_nilp | exact lw_nils | exact lw_str | exact lw_slo_nils | exact lw_slo_sle | exact lw_sl rfl | exact lw_unb | exact lw_gptr | exact lw_noid rfl | exact lw_cap rfl (Nat.le_refl _) | exact lw_cap rfl (by omega) | assumption)) ?_); exact lws_nil)))) ?_); exact lws_nil)) (by simp) | exact lb_iter | exact lb_cap (Nat.le_refl _) (Nat.le_refl _) rfl rfl | exact lb_capn (by assumption) (by (first | assumption | exact noIds_tab (fun _ => rfl) _ _ | exact noIds_encL (fun _ => rfl) _ | rfl)) | assumption), lb_same (ins_noids _), trivial⟩, (lw_agg (lws_cons (lw_slo (h2 0 (by simp))) lws_nil))⟩
        rw [hgl]; exact prog_in calm k1
      · cases hg
    · cases hg
  · cases hg
def cxCS : Cx := cxl [(3, runCk), (12, orG sameRG sameOG), (13, wrapG progG), (14, wrapG withinG)]
abbrev csL : List Nat := [3, 6, 8, 9, 10, 11, 12]
abbrev csT (how i : Int) (nl n : Nat) : List (Nat × LV) := [(3, .int .u8 how), (6, .ptr 1 0), (9, .ptr 2 0), (10, .int .i64 i), (11, .slo 4 0 nl 0), (12, .int .i64 n)]
abbrev csU (nl : Nat) : List (Nat × LV) := [(11, .slo 4 0 nl 0)]
abbrev csH (N : Nat) (ks ps ls : List LV) (xo xa xb xc xn : Int) : List LB := [.ro ks, .cells [.int .i64 xo, .int .i64 xa, .int .i64 xb, .int .i64 xc, .int .u64 xn] none, .cells [.slo 3 0 N 0] none, .cells ps (some 5), .cells ls (some 5)]
theorem cxCS_ok : CtrOk Go.Proofs.Tryd.prog (ctrOf cxCS) := cxl_ok ⟨runCk_ok, orG_ok sameRG_ok sameOG_ok, wrapG_ok progG_ok, wrapG_ok withinG_ok, trivial⟩
theorem cs_a (np : Nat) (at' how xo xa xb xc xn : Int) (ks : List LV) (K : Pk) : (xsp Go.Proofs.Tryd.prog cxCS 60 96 (seg (sp Go.Proofs.Tryd.prog 5) 0 10) (tm0 [.slo 0 0 np 0, .int .u8 at', .agg [.int .i64 xo, .int .i64 xa, .int .i64 xb, .int .i64 xc, .int .u64 xn], .int .u8 how]) (mkS [.ro ks] gtab) (vK csL K)) = (
 bif okKin np ks 38 then
 bif okIns (gN ks 38 false) (gW ks 38 false) then
 bif xcm .eql (↑(gN ks 38 false)) 0 then (
 K .ret [.int .u8 how, .ptr 1 0, .bool false, .ptr 3 0, .tup [], .tup [], .tup []] [some (.ro ks), some (.cells [.int .i64 xo, .int .i64 xa, .int .i64 xb, .int .i64 xc, .int .u64 xn] none), some (.cells (gW ks 38 false) (some 5)), some (.cells [.slo 2 0 (gN ks 38 false) 0] none)] gtab)
 else (
 bif xcm .neq (↑(gN ks 38 false)) 0 then
 bif xcm .leq 0 (xar .add .i64 (↑(gN ks 38 false)) 1) then
 bif xcm .leq (xar .add .i64 (↑(gN ks 38 false)) 1) 1000000 then
 bif xcm .eql xa xa then
 bif xcm .eql xa xa then
 bif xcm .eql xc xc then
 bif xcm .eql xc xc then
 bif xcm .eql xc xc then
 bif xcm .eql xc xc then
 bif xeq (gN ks 38 false) (gN ks 38 false) then
 bif xeq (gN ks 38 false) (gN ks 38 false) then
 bif xeq (gN ks 38 false) (gN ks 38 false) then
 bif xeq (gN ks 38 false) (gN ks 38 false) then
 K .normal [.int .u8 how, .ptr 1 0, .bool false, .ptr 3 0, .int .i64 (xar .rem .i64 (xwr .i64 at') ↑(gN ks 38 false)), .nils, .int .i64 0] [some (.ro ks), some (.cells [.int .i64 (wthV xo 1 23), .int .i64 (wthV xa 0 8), .int .i64 0, .int .i64 (wthV xc 0 (xar .add .i64 (↑(gN ks 38 false)) 1)), .int .u64 0] none), some (.cells (gW ks 38 false) (some 5)), some (.cells [.slo 2 0 (gN ks 38 false) 0] none)] gtab
 else False
 else False
 else False
 else False
 else False
 else False
 else False
 else False
 else False
 else False
 else False
 else False
 else False)
 else False
 else False) := by kernel_rfl
abbrev cs_b_b1 (N : Nat) (nl : Nat) (n : Nat) (xo : Int) (xa : Int) (xb : Int) (xc : Int) (xn : Int) (ks : List LV) (ps : List LV) (ls : List LV) : List (Option LB) := [some (.ro ks), some (.cells [.int .i64 xo, .int .i64 xa, .int .i64 xb, .int .i64 xc, .int .u64 xn] none), some (.cells [.slo 3 0 N 0] none), some (.cells ps (some 5)), some .dead, some (.cells [.int .i64 (asI (nthD ps (xix 0 (xnat ↑n) 5))), .int .i64 (asI (nthD ps (xadd (xix 0 (xnat ↑n) 5) 1))), .int .i64 (asI (nthD ps (xadd (xadd (xix 0 (xnat ↑n) 5) 1) 1))), .int .i64 (asI (nthD ps (xadd (xadd (xadd (xix 0 (xnat ↑n) 5) 1) 1) 1))), .int .u64 (asI (nthD ps (xadd (xadd (xadd (xadd (xix 0 (xnat ↑n) 5) 1) 1) 1) 1)))] none), some (.cells (xcat (xcut ls 0 (xmul nl 5)) [.int .i64 (asI (nthD ps (xix 0 (xnat ↑n) 5))), .int .i64 (asI (nthD ps (xadd (xix 0 (xnat ↑n) 5) 1))), .int .i64 (asI (nthD ps (xadd (xadd (xix 0 (xnat ↑n) 5) 1) 1))), .int .i64 (asI (nthD ps (xadd (xadd (xadd (xix 0 (xnat ↑n) 5) 1) 1) 1))), .int .u64 (asI (nthD ps (xadd (xadd (xadd (xadd (xix 0 (xnat ↑n) 5) 1) 1) 1) 1)))]) (some 5))]
abbrev cs_b_b2 (N : Nat) (nl : Nat) (n : Nat) (xo : Int) (xa : Int) (xb : Int) (xc : Int) (xn : Int) (ks : List LV) (ps : List LV) (ls : List LV) : List (Option LB) := [some (.ro ks), some (.cells [.int .i64 xo, .int .i64 xa, .int .i64 xb, .int .i64 xc, .int .u64 xn] none), some (.cells [.slo 3 0 N 0] none), some (.cells ps (some 5)), some .dead, some (.cells [.int .i64 xo, .int .i64 xa, .int .i64 xb, .int .i64 xc, .int .u64 xn] none), some .dead, some (.cells [.int .i64 (asI (nthD ps (xix 0 (xnat ↑n) 5))), .int .i64 (asI (nthD ps (xadd (xix 0 (xnat ↑n) 5) 1))), .int .i64 (asI (nthD ps (xadd (xadd (xix 0 (xnat ↑n) 5) 1) 1))), .int .i64 (asI (nthD ps (xadd (xadd (xadd (xix 0 (xnat ↑n) 5) 1) 1) 1))), .int .u64 (asI (nthD ps (xadd (xadd (xadd (xadd (xix 0 (xnat ↑n) 5) 1) 1) 1) 1)))] none), some (.cells (xcat (xcut (xcat (xcut ls 0 (xmul nl 5)) [.int .i64 xo, .int .i64 xa, .int .i64 xb, .int .i64 xc, .int .u64 xn]) 0 (xmul (xadd nl 1) 5)) [.int .i64 (asI (nthD ps (xix 0 (xnat ↑n) 5))), .int .i64 (asI (nthD ps (xadd (xix 0 (xnat ↑n) 5) 1))), .int .i64 (asI (nthD ps (xadd (xadd (xix 0 (xnat ↑n) 5) 1) 1))), .int .i64 (asI (nthD ps (xadd (xadd (xadd (xix 0 (xnat ↑n) 5) 1) 1) 1))), .int .u64 (asI (nthD ps (xadd (xadd (xadd (xadd (xix 0 (xnat ↑n) 5) 1) 1) 1) 1)))]) (some 5))]
abbrev cs_b_b3 (N : Nat) (nl : Nat) (n : Nat) (xo : Int) (xa : Int) (xb : Int) (xc : Int) (xn : Int) (ks : List LV) (ps : List LV) (ls : List LV) : List (Option LB) := [some (.ro ks), some (.cells [.int .i64 xo, .int .i64 xa, .int .i64 xb, .int .i64 xc, .int .u64 xn] none), some (.cells [.slo 3 0 N 0] none), some (.cells ps (some 5)), some .dead, some (.cells [.int .i64 (asI (nthD ps (xix 0 (xnat ↑n) 5))), .int .i64 (asI (nthD ps (xadd (xix 0 (xnat ↑n) 5) 1))), .int .i64 (asI (nthD ps (xadd (xadd (xix 0 (xnat ↑n) 5) 1) 1))), .int .i64 (asI (nthD ps (xadd (xadd (xadd (xix 0 (xnat ↑n) 5) 1) 1) 1))), .int .u64 (asI (nthD ps (xadd (xadd (xadd (xadd (xix 0 (xnat ↑n) 5) 1) 1) 1) 1)))] none), some .dead, some (.cells [.int .i64 xo, .int .i64 xa, .int .i64 xb, .int .i64 xc, .int .u64 xn] none), some (.cells (xcat (xcut (xcat (xcut ls 0 (xmul nl 5)) [.int .i64 (asI (nthD ps (xix 0 (xnat ↑n) 5))), .int .i64 (asI (nthD ps (xadd (xix 0 (xnat ↑n) 5) 1))), .int .i64 (asI (nthD ps (xadd (xadd (xix 0 (xnat ↑n) 5) 1) 1))), .int .i64 (asI (nthD ps (xadd (xadd (xadd (xix 0 (xnat ↑n) 5) 1) 1) 1))), .int .u64 (asI (nthD ps (xadd (xadd (xadd (xadd (xix 0 (xnat ↑n) 5) 1) 1) 1) 1)))]) 0 (xmul (xadd nl 1) 5)) [.int .i64 xo, .int .i64 xa, .int .i64 xb, .int .i64 xc, .int .u64 xn]) (some 5))]
abbrev cs_b_b4 (N : Nat) (nl : Nat) (n : Nat) (xo : Int) (xa : Int) (xb : Int) (xc : Int) (xn : Int) (ks : List LV) (ps : List LV) (ls : List LV) : List (Option LB) := [some (.ro ks), some (.cells [.int .i64 xo, .int .i64 xa, .int .i64 xb, .int .i64 xc, .int .u64 xn] none), some (.cells [.slo 3 0 N 0] none), some (.cells ps (some 5)), some .dead, some (.cells [.int .i64 xo, .int .i64 xa, .int .i64 xb, .int .i64 xc, .int .u64 xn] none), some .dead, some (.cells [.int .i64 (asI (nthD ps (xix 0 (xnat ↑n) 5))), .int .i64 (asI (nthD ps (xadd (xix 0 (xnat ↑n) 5) 1))), .int .i64 (asI (nthD ps (xadd (xadd (xix 0 (xnat ↑n) 5) 1) 1))), .int .i64 (asI (nthD ps (xadd (xadd (xadd (xix 0 (xnat ↑n) 5) 1) 1) 1))), .int .u64 (asI (nthD ps (xadd (xadd (xadd (xadd (xix 0 (xnat ↑n) 5) 1) 1) 1) 1)))] none), some .dead, some (.cells [.int .i64 xo, .int .i64 xa, .int .i64 xb, .int .i64 xc, .int .u64 xn] none), some (.cells (xcat (xcut (xcat (xcut (xcat (xcut ls 0 (xmul nl 5)) [.int .i64 xo, .int .i64 xa, .int .i64 xb, .int .i64 xc, .int .u64 xn]) 0 (xmul (xadd nl 1) 5)) [.int .i64 (asI (nthD ps (xix 0 (xnat ↑n) 5))), .int .i64 (asI (nthD ps (xadd (xix 0 (xnat ↑n) 5) 1))), .int .i64 (asI (nthD ps (xadd (xadd (xix 0 (xnat ↑n) 5) 1) 1))), .int .i64 (asI (nthD ps (xadd (xadd (xadd (xix 0 (xnat ↑n) 5) 1) 1) 1))), .int .u64 (asI (nthD ps (xadd (xadd (xadd (xadd (xix 0 (xnat ↑n) 5) 1) 1) 1) 1)))]) 0 (xmul (xadd (xadd nl 1) 1) 5)) [.int .i64 xo, .int .i64 xa, .int .i64 xb, .int .i64 xc, .int .u64 xn]) (some 5))]
abbrev cs_b_b5 (N : Nat) (nl : Nat) (xo : Int) (xa : Int) (xb : Int) (xc : Int) (xn : Int) (ks : List LV) (ps : List LV) (ls : List LV) : List (Option LB) := [some (.ro ks), some (.cells [.int .i64 xo, .int .i64 xa, .int .i64 xb, .int .i64 xc, .int .u64 xn] none), some (.cells [.slo 3 0 N 0] none), some (.cells ps (some 5)), some .dead, some (.cells [.int .i64 xo, .int .i64 xa, .int .i64 xb, .int .i64 xc, .int .u64 xn] none), some (.cells (xcat (xcut ls 0 (xmul nl 5)) [.int .i64 xo, .int .i64 xa, .int .i64 xb, .int .i64 xc, .int .u64 xn]) (some 5))]
abbrev cs_b_b6 (N : Nat) (xo : Int) (xa : Int) (xb : Int) (xc : Int) (xn : Int) (ks : List LV) (ps : List LV) (ls : List LV) : List (Option LB) := [some (.ro ks), some (.cells [.int .i64 xo, .int .i64 xa, .int .i64 xb, .int .i64 xc, .int .u64 xn] none), some (.cells [.slo 3 0 N 0] none), some (.cells ps (some 5)), some (.cells ls (some 5))]
theorem cs_b (N nl n : Nat) (how i xo xa xb xc xn : Int) (ks ps ls : List LV) (K : Pk) : (xcode Go.Proofs.Tryd.prog cxCS 60 96 (loopOf (nthC (sp Go.Proofs.Tryd.prog 5) 10)) (mkTm 96 (csT how i nl n)) (mkS (csH N ks ps ls xo xa xb xc xn) gtab) (vK csL K)) = (
 bif xcm .lss ↑n ↑N then (
 bif xcm .eql (↑n) i then (
 bif xcm .eql (xar .rem .u8 how 3) 1 then (
 bif xle (xadd nl 1) 1000000 then
 bif xle (xadd 0 (xmul nl 5)) (xln ls) then
 bif xcm .neq (↑n) i then (
 bif xle (xadd (xnat ↑n) 1) N then
 bif xle (xadd (xix 0 (xnat ↑n) 5) 5) (xln ps) then
 bif isI .i64 (nthD ps (xix 0 (xnat ↑n) 5)) then
 bif isI .i64 (nthD ps (xadd (xix 0 (xnat ↑n) 5) 1)) then
 bif isI .i64 (nthD ps (xadd (xadd (xix 0 (xnat ↑n) 5) 1) 1)) then
 bif isI .i64 (nthD ps (xadd (xadd (xadd (xix 0 (xnat ↑n) 5) 1) 1) 1)) then
 bif isI .u64 (nthD ps (xadd (xadd (xadd (xadd (xix 0 (xnat ↑n) 5) 1) 1) 1) 1)) then
 bif xle (xadd (xadd nl 1) 1) 1000000 then
 bif xle (xadd 0 (xmul (xadd nl 1) 5)) (xln (xcat (xcut ls 0 (xmul nl 5)) [.int .i64 xo, .int .i64 xa, .int .i64 xb, .int .i64 xc, .int .u64 xn])) then
 bif xcm .eql (↑n) i then (
 bif xcm .eql (xar .rem .u8 how 3) 0 then (
 bif xle (xadd (xadd (xadd nl 1) 1) 1) 1000000 then
 bif xle (xadd 0 (xmul (xadd (xadd nl 1) 1) 5)) (xln (xcat (xcut (xcat (xcut ls 0 (xmul nl 5)) [.int .i64 xo, .int .i64 xa, .int .i64 xb, .int .i64 xc, .int .u64 xn]) 0 (xmul (xadd nl 1) 5)) [.int .i64 (asI (nthD ps (xix 0 (xnat ↑n) 5))), .int .i64 (asI (nthD ps (xadd (xix 0 (xnat ↑n) 5) 1))), .int .i64 (asI (nthD ps (xadd (xadd (xix 0 (xnat ↑n) 5) 1) 1))), .int .i64 (asI (nthD ps (xadd (xadd (xadd (xix 0 (xnat ↑n) 5) 1) 1) 1))), .int .u64 (asI (nthD ps (xadd (xadd (xadd (xadd (xix 0 (xnat ↑n) 5) 1) 1) 1) 1)))])) then
 K .normal [.int .u8 how, .ptr 1 0, .any, .ptr 2 0, .int .i64 i, .slo 10 0 (xadd (xadd (xadd nl 1) 1) 1) 0, .int .i64 (xar .add .i64 (↑n) 1)] (cs_b_b4 N nl n xo xa xb xc xn ks ps ls) gtab
 else False
 else False)
 else (
 K .normal [.int .u8 how, .ptr 1 0, .any, .ptr 2 0, .int .i64 i, .slo 8 0 (xadd (xadd nl 1) 1) 0, .int .i64 (xar .add .i64 (↑n) 1)] (cs_b_b2 N nl n xo xa xb xc xn ks ps ls) gtab))
 else (
 K .normal [.int .u8 how, .ptr 1 0, .any, .ptr 2 0, .int .i64 i, .slo 8 0 (xadd (xadd nl 1) 1) 0, .int .i64 (xar .add .i64 (↑n) 1)] (cs_b_b2 N nl n xo xa xb xc xn ks ps ls) gtab)
 else False
 else False
 else False
 else False
 else False
 else False
 else False
 else False
 else False)
 else (
 bif xcm .eql (xar .rem .u8 how 3) 1 then (
 bif xle (xadd (xnat ↑n) 1) N then
 bif xle (xadd (xix 0 (xnat ↑n) 5) 5) (xln ps) then
 bif isI .i64 (nthD ps (xix 0 (xnat ↑n) 5)) then
 bif isI .i64 (nthD ps (xadd (xix 0 (xnat ↑n) 5) 1)) then
 bif isI .i64 (nthD ps (xadd (xadd (xix 0 (xnat ↑n) 5) 1) 1)) then
 bif isI .i64 (nthD ps (xadd (xadd (xadd (xix 0 (xnat ↑n) 5) 1) 1) 1)) then
 bif isI .u64 (nthD ps (xadd (xadd (xadd (xadd (xix 0 (xnat ↑n) 5) 1) 1) 1) 1)) then
 bif xle (xadd (xadd nl 1) 1) 1000000 then
 bif xle (xadd 0 (xmul (xadd nl 1) 5)) (xln (xcat (xcut ls 0 (xmul nl 5)) [.int .i64 xo, .int .i64 xa, .int .i64 xb, .int .i64 xc, .int .u64 xn])) then
 bif xcm .eql (↑n) i then (
 bif xcm .eql (xar .rem .u8 how 3) 0 then (
 bif xle (xadd (xadd (xadd nl 1) 1) 1) 1000000 then
 bif xle (xadd 0 (xmul (xadd (xadd nl 1) 1) 5)) (xln (xcat (xcut (xcat (xcut ls 0 (xmul nl 5)) [.int .i64 xo, .int .i64 xa, .int .i64 xb, .int .i64 xc, .int .u64 xn]) 0 (xmul (xadd nl 1) 5)) [.int .i64 (asI (nthD ps (xix 0 (xnat ↑n) 5))), .int .i64 (asI (nthD ps (xadd (xix 0 (xnat ↑n) 5) 1))), .int .i64 (asI (nthD ps (xadd (xadd (xix 0 (xnat ↑n) 5) 1) 1))), .int .i64 (asI (nthD ps (xadd (xadd (xadd (xix 0 (xnat ↑n) 5) 1) 1) 1))), .int .u64 (asI (nthD ps (xadd (xadd (xadd (xadd (xix 0 (xnat ↑n) 5) 1) 1) 1) 1)))])) then
 K .normal [.int .u8 how, .ptr 1 0, .any, .ptr 2 0, .int .i64 i, .slo 10 0 (xadd (xadd (xadd nl 1) 1) 1) 0, .int .i64 (xar .add .i64 (↑n) 1)] (cs_b_b4 N nl n xo xa xb xc xn ks ps ls) gtab
 else False
 else False)
 else (
 K .normal [.int .u8 how, .ptr 1 0, .any, .ptr 2 0, .int .i64 i, .slo 8 0 (xadd (xadd nl 1) 1) 0, .int .i64 (xar .add .i64 (↑n) 1)] (cs_b_b2 N nl n xo xa xb xc xn ks ps ls) gtab))
 else (
 K .normal [.int .u8 how, .ptr 1 0, .any, .ptr 2 0, .int .i64 i, .slo 8 0 (xadd (xadd nl 1) 1) 0, .int .i64 (xar .add .i64 (↑n) 1)] (cs_b_b2 N nl n xo xa xb xc xn ks ps ls) gtab)
 else False
 else False
 else False
 else False
 else False
 else False
 else False
 else False
 else False)
 else (
 bif xcm .eql (↑n) i then (
 bif xcm .eql (xar .rem .u8 how 3) 0 then (
 bif xle (xadd (xadd nl 1) 1) 1000000 then
 bif xle (xadd 0 (xmul (xadd nl 1) 5)) (xln (xcat (xcut ls 0 (xmul nl 5)) [.int .i64 xo, .int .i64 xa, .int .i64 xb, .int .i64 xc, .int .u64 xn])) then
 K .normal [.int .u8 how, .ptr 1 0, .any, .ptr 2 0, .int .i64 i, .slo 8 0 (xadd (xadd nl 1) 1) 0, .int .i64 (xar .add .i64 (↑n) 1)] [some (.ro ks), some (.cells [.int .i64 xo, .int .i64 xa, .int .i64 xb, .int .i64 xc, .int .u64 xn] none), some (.cells [.slo 3 0 N 0] none), some (.cells ps (some 5)), some .dead, some (.cells [.int .i64 xo, .int .i64 xa, .int .i64 xb, .int .i64 xc, .int .u64 xn] none), some .dead, some (.cells [.int .i64 xo, .int .i64 xa, .int .i64 xb, .int .i64 xc, .int .u64 xn] none), some (.cells (xcat (xcut (xcat (xcut ls 0 (xmul nl 5)) [.int .i64 xo, .int .i64 xa, .int .i64 xb, .int .i64 xc, .int .u64 xn]) 0 (xmul (xadd nl 1) 5)) [.int .i64 xo, .int .i64 xa, .int .i64 xb, .int .i64 xc, .int .u64 xn]) (some 5))] gtab
 else False
 else False)
 else (
 K .normal [.int .u8 how, .ptr 1 0, .any, .ptr 2 0, .int .i64 i, .slo 6 0 (xadd nl 1) 0, .int .i64 (xar .add .i64 (↑n) 1)] (cs_b_b5 N nl xo xa xb xc xn ks ps ls) gtab))
 else (
 K .normal [.int .u8 how, .ptr 1 0, .any, .ptr 2 0, .int .i64 i, .slo 6 0 (xadd nl 1) 0, .int .i64 (xar .add .i64 (↑n) 1)] (cs_b_b5 N nl xo xa xb xc xn ks ps ls) gtab)))
 else False
 else False)
 else (
 bif xcm .neq (↑n) i then (
 bif xle (xadd (xnat ↑n) 1) N then
 bif xle (xadd (xix 0 (xnat ↑n) 5) 5) (xln ps) then
 bif isI .i64 (nthD ps (xix 0 (xnat ↑n) 5)) then
 bif isI .i64 (nthD ps (xadd (xix 0 (xnat ↑n) 5) 1)) then
 bif isI .i64 (nthD ps (xadd (xadd (xix 0 (xnat ↑n) 5) 1) 1)) then
 bif isI .i64 (nthD ps (xadd (xadd (xadd (xix 0 (xnat ↑n) 5) 1) 1) 1)) then
 bif isI .u64 (nthD ps (xadd (xadd (xadd (xadd (xix 0 (xnat ↑n) 5) 1) 1) 1) 1)) then
 bif xle (xadd nl 1) 1000000 then
 bif xle (xadd 0 (xmul nl 5)) (xln ls) then
 bif xcm .eql (↑n) i then (
 bif xcm .eql (xar .rem .u8 how 3) 0 then (
 bif xle (xadd (xadd nl 1) 1) 1000000 then
 bif xle (xadd 0 (xmul (xadd nl 1) 5)) (xln (xcat (xcut ls 0 (xmul nl 5)) [.int .i64 (asI (nthD ps (xix 0 (xnat ↑n) 5))), .int .i64 (asI (nthD ps (xadd (xix 0 (xnat ↑n) 5) 1))), .int .i64 (asI (nthD ps (xadd (xadd (xix 0 (xnat ↑n) 5) 1) 1))), .int .i64 (asI (nthD ps (xadd (xadd (xadd (xix 0 (xnat ↑n) 5) 1) 1) 1))), .int .u64 (asI (nthD ps (xadd (xadd (xadd (xadd (xix 0 (xnat ↑n) 5) 1) 1) 1) 1)))])) then
 K .normal [.int .u8 how, .ptr 1 0, .any, .ptr 2 0, .int .i64 i, .slo 8 0 (xadd (xadd nl 1) 1) 0, .int .i64 (xar .add .i64 (↑n) 1)] (cs_b_b3 N nl n xo xa xb xc xn ks ps ls) gtab
 else False
 else False)
 else (
 K .normal [.int .u8 how, .ptr 1 0, .any, .ptr 2 0, .int .i64 i, .slo 6 0 (xadd nl 1) 0, .int .i64 (xar .add .i64 (↑n) 1)] (cs_b_b1 N nl n xo xa xb xc xn ks ps ls) gtab))
 else (
 K .normal [.int .u8 how, .ptr 1 0, .any, .ptr 2 0, .int .i64 i, .slo 6 0 (xadd nl 1) 0, .int .i64 (xar .add .i64 (↑n) 1)] (cs_b_b1 N nl n xo xa xb xc xn ks ps ls) gtab)
 else False
 else False
 else False
 else False
 else False
 else False
 else False
 else False
 else False)
 else (
 bif xcm .eql (xar .rem .u8 how 3) 1 then (
 bif xle (xadd (xnat ↑n) 1) N then
 bif xle (xadd (xix 0 (xnat ↑n) 5) 5) (xln ps) then
 bif isI .i64 (nthD ps (xix 0 (xnat ↑n) 5)) then
 bif isI .i64 (nthD ps (xadd (xix 0 (xnat ↑n) 5) 1)) then
 bif isI .i64 (nthD ps (xadd (xadd (xix 0 (xnat ↑n) 5) 1) 1)) then
 bif isI .i64 (nthD ps (xadd (xadd (xadd (xix 0 (xnat ↑n) 5) 1) 1) 1)) then
 bif isI .u64 (nthD ps (xadd (xadd (xadd (xadd (xix 0 (xnat ↑n) 5) 1) 1) 1) 1)) then
 bif xle (xadd nl 1) 1000000 then
 bif xle (xadd 0 (xmul nl 5)) (xln ls) then
 bif xcm .eql (↑n) i then (
 bif xcm .eql (xar .rem .u8 how 3) 0 then (
 bif xle (xadd (xadd nl 1) 1) 1000000 then
 bif xle (xadd 0 (xmul (xadd nl 1) 5)) (xln (xcat (xcut ls 0 (xmul nl 5)) [.int .i64 (asI (nthD ps (xix 0 (xnat ↑n) 5))), .int .i64 (asI (nthD ps (xadd (xix 0 (xnat ↑n) 5) 1))), .int .i64 (asI (nthD ps (xadd (xadd (xix 0 (xnat ↑n) 5) 1) 1))), .int .i64 (asI (nthD ps (xadd (xadd (xadd (xix 0 (xnat ↑n) 5) 1) 1) 1))), .int .u64 (asI (nthD ps (xadd (xadd (xadd (xadd (xix 0 (xnat ↑n) 5) 1) 1) 1) 1)))])) then
 K .normal [.int .u8 how, .ptr 1 0, .any, .ptr 2 0, .int .i64 i, .slo 8 0 (xadd (xadd nl 1) 1) 0, .int .i64 (xar .add .i64 (↑n) 1)] (cs_b_b3 N nl n xo xa xb xc xn ks ps ls) gtab
 else False
 else False)
 else (
 K .normal [.int .u8 how, .ptr 1 0, .any, .ptr 2 0, .int .i64 i, .slo 6 0 (xadd nl 1) 0, .int .i64 (xar .add .i64 (↑n) 1)] (cs_b_b1 N nl n xo xa xb xc xn ks ps ls) gtab))
 else (
 K .normal [.int .u8 how, .ptr 1 0, .any, .ptr 2 0, .int .i64 i, .slo 6 0 (xadd nl 1) 0, .int .i64 (xar .add .i64 (↑n) 1)] (cs_b_b1 N nl n xo xa xb xc xn ks ps ls) gtab)
 else False
 else False
 else False
 else False
 else False
 else False
 else False
 else False
 else False)
 else (
 bif xcm .eql (↑n) i then (
 bif xcm .eql (xar .rem .u8 how 3) 0 then (
 bif xle (xadd nl 1) 1000000 then
 bif xle (xadd 0 (xmul nl 5)) (xln ls) then
 K .normal [.int .u8 how, .ptr 1 0, .any, .ptr 2 0, .int .i64 i, .slo 6 0 (xadd nl 1) 0, .int .i64 (xar .add .i64 (↑n) 1)] (cs_b_b5 N nl xo xa xb xc xn ks ps ls) gtab
 else False
 else False)
 else (
 K .normal [.int .u8 how, .ptr 1 0, .any, .ptr 2 0, .int .i64 i, .slo 4 0 nl 0, .int .i64 (xar .add .i64 (↑n) 1)] (cs_b_b6 N xo xa xb xc xn ks ps ls) gtab))
 else (
 K .normal [.int .u8 how, .ptr 1 0, .any, .ptr 2 0, .int .i64 i, .slo 4 0 nl 0, .int .i64 (xar .add .i64 (↑n) 1)] (cs_b_b6 N xo xa xb xc xn ks ps ls) gtab)))))
 else (
 bif xcm .neq (↑n) i then (
 bif xle (xadd (xnat ↑n) 1) N then
 bif xle (xadd (xix 0 (xnat ↑n) 5) 5) (xln ps) then
 bif isI .i64 (nthD ps (xix 0 (xnat ↑n) 5)) then
 bif isI .i64 (nthD ps (xadd (xix 0 (xnat ↑n) 5) 1)) then
 bif isI .i64 (nthD ps (xadd (xadd (xix 0 (xnat ↑n) 5) 1) 1)) then
 bif isI .i64 (nthD ps (xadd (xadd (xadd (xix 0 (xnat ↑n) 5) 1) 1) 1)) then
 bif isI .u64 (nthD ps (xadd (xadd (xadd (xadd (xix 0 (xnat ↑n) 5) 1) 1) 1) 1)) then
 bif xle (xadd nl 1) 1000000 then
 bif xle (xadd 0 (xmul nl 5)) (xln ls) then
 bif xcm .eql (↑n) i then (
 bif xcm .eql (xar .rem .u8 how 3) 0 then (
 bif xle (xadd (xadd nl 1) 1) 1000000 then
 bif xle (xadd 0 (xmul (xadd nl 1) 5)) (xln (xcat (xcut ls 0 (xmul nl 5)) [.int .i64 (asI (nthD ps (xix 0 (xnat ↑n) 5))), .int .i64 (asI (nthD ps (xadd (xix 0 (xnat ↑n) 5) 1))), .int .i64 (asI (nthD ps (xadd (xadd (xix 0 (xnat ↑n) 5) 1) 1))), .int .i64 (asI (nthD ps (xadd (xadd (xadd (xix 0 (xnat ↑n) 5) 1) 1) 1))), .int .u64 (asI (nthD ps (xadd (xadd (xadd (xadd (xix 0 (xnat ↑n) 5) 1) 1) 1) 1)))])) then
 K .normal [.int .u8 how, .ptr 1 0, .any, .ptr 2 0, .int .i64 i, .slo 8 0 (xadd (xadd nl 1) 1) 0, .int .i64 (xar .add .i64 (↑n) 1)] (cs_b_b3 N nl n xo xa xb xc xn ks ps ls) gtab
 else False
 else False)
 else (
 K .normal [.int .u8 how, .ptr 1 0, .any, .ptr 2 0, .int .i64 i, .slo 6 0 (xadd nl 1) 0, .int .i64 (xar .add .i64 (↑n) 1)] (cs_b_b1 N nl n xo xa xb xc xn ks ps ls) gtab))
 else (
 K .normal [.int .u8 how, .ptr 1 0, .any, .ptr 2 0, .int .i64 i, .slo 6 0 (xadd nl 1) 0, .int .i64 (xar .add .i64 (↑n) 1)] (cs_b_b1 N nl n xo xa xb xc xn ks ps ls) gtab)
 else False
 else False
 else False
 else False
 else False
 else False
 else False
 else False
 else False)
 else (
 bif xcm .eql (xar .rem .u8 how 3) 1 then (
 bif xle (xadd (xnat ↑n) 1) N then
 bif xle (xadd (xix 0 (xnat ↑n) 5) 5) (xln ps) then
 bif isI .i64 (nthD ps (xix 0 (xnat ↑n) 5)) then
 bif isI .i64 (nthD ps (xadd (xix 0 (xnat ↑n) 5) 1)) then
 bif isI .i64 (nthD ps (xadd (xadd (xix 0 (xnat ↑n) 5) 1) 1)) then
 bif isI .i64 (nthD ps (xadd (xadd (xadd (xix 0 (xnat ↑n) 5) 1) 1) 1)) then
 bif isI .u64 (nthD ps (xadd (xadd (xadd (xadd (xix 0 (xnat ↑n) 5) 1) 1) 1) 1)) then
 bif xle (xadd nl 1) 1000000 then
 bif xle (xadd 0 (xmul nl 5)) (xln ls) then
 bif xcm .eql (↑n) i then (
 bif xcm .eql (xar .rem .u8 how 3) 0 then (
 bif xle (xadd (xadd nl 1) 1) 1000000 then
 bif xle (xadd 0 (xmul (xadd nl 1) 5)) (xln (xcat (xcut ls 0 (xmul nl 5)) [.int .i64 (asI (nthD ps (xix 0 (xnat ↑n) 5))), .int .i64 (asI (nthD ps (xadd (xix 0 (xnat ↑n) 5) 1))), .int .i64 (asI (nthD ps (xadd (xadd (xix 0 (xnat ↑n) 5) 1) 1))), .int .i64 (asI (nthD ps (xadd (xadd (xadd (xix 0 (xnat ↑n) 5) 1) 1) 1))), .int .u64 (asI (nthD ps (xadd (xadd (xadd (xadd (xix 0 (xnat ↑n) 5) 1) 1) 1) 1)))])) then
 K .normal [.int .u8 how, .ptr 1 0, .any, .ptr 2 0, .int .i64 i, .slo 8 0 (xadd (xadd nl 1) 1) 0, .int .i64 (xar .add .i64 (↑n) 1)] (cs_b_b3 N nl n xo xa xb xc xn ks ps ls) gtab
 else False
 else False)
 else (
 K .normal [.int .u8 how, .ptr 1 0, .any, .ptr 2 0, .int .i64 i, .slo 6 0 (xadd nl 1) 0, .int .i64 (xar .add .i64 (↑n) 1)] (cs_b_b1 N nl n xo xa xb xc xn ks ps ls) gtab))
 else (
 K .normal [.int .u8 how, .ptr 1 0, .any, .ptr 2 0, .int .i64 i, .slo 6 0 (xadd nl 1) 0, .int .i64 (xar .add .i64 (↑n) 1)] (cs_b_b1 N nl n xo xa xb xc xn ks ps ls) gtab)
 else False
 else False
 else False
 else False
 else False
 else False
 else False
 else False
 else False)
 else (
 bif xcm .eql (↑n) i then (
 bif xcm .eql (xar .rem .u8 how 3) 0 then (
 bif xle (xadd nl 1) 1000000 then
 bif xle (xadd 0 (xmul nl 5)) (xln ls) then
 K .normal [.int .u8 how, .ptr 1 0, .any, .ptr 2 0, .int .i64 i, .slo 6 0 (xadd nl 1) 0, .int .i64 (xar .add .i64 (↑n) 1)] (cs_b_b5 N nl xo xa xb xc xn ks ps ls) gtab
 else False
 else False)
 else (
 K .normal [.int .u8 how, .ptr 1 0, .any, .ptr 2 0, .int .i64 i, .slo 4 0 nl 0, .int .i64 (xar .add .i64 (↑n) 1)] (cs_b_b6 N xo xa xb xc xn ks ps ls) gtab))
 else (
 K .normal [.int .u8 how, .ptr 1 0, .any, .ptr 2 0, .int .i64 i, .slo 4 0 nl 0, .int .i64 (xar .add .i64 (↑n) 1)] (cs_b_b6 N xo xa xb xc xn ks ps ls) gtab)))))
 else (
 K (.exit 0) [.int .u8 how, .ptr 1 0, .any, .ptr 2 0, .int .i64 i, .slo 4 0 nl 0, .int .i64 ↑n] (cs_b_b6 N xo xa xb xc xn ks ps ls) gtab)) := by kernel_rfl
theorem cs_z (N nl : Nat) (xo xa xb xc xn : Int) (ks ps ls : List LV) (K : Pk) : (xsp Go.Proofs.Tryd.prog cxCS 60 96 ((sp Go.Proofs.Tryd.prog 5).drop 11) (mkTm 96 (csU nl)) (mkS (csH N ks ps ls xo xa xb xc xn) gtab) (vK csL K)) = (
 bif okIns nl ls then
 K .ret [.any, .any, .bool true, .any, .any, .slo 4 0 nl 0, .any] [some (.ro ks), some (.cells [.int .i64 xo, .int .i64 xa, .int .i64 xb, .int .i64 xc, .int .u64 xn] none), some (.cells [.slo 3 0 N 0] none), some (.cells ps (some 5)), some (.cells ls (some 5))] gtab
 else False) := by kernel_rfl
end
end Go.Lev
