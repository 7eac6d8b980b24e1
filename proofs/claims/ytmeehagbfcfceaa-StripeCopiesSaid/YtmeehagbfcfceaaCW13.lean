/- chapter 3: the loop of the law as a contract; trees of the laws -/
import Derived.Test.YtmeehagbfcfceaaCW12
import Derived.Test.YtmeehagbfcfceaaLc
import Derived.Test.YtmeehagbfcfceaaChecked
import Derived.KernelRfl

namespace Go.Lev
open Go.RowKit
set_option linter.unusedVariables false
set_option linter.unusedSimpArgs false
set_option maxRecDepth 100000
noncomputable section
def okR (ax : List LV) (n : Nat) : Bool := @decide (∃ xs : List Ask3, ax = encL askL xs ∧ xs.length = n ∧ n ≤ 9223372036854775807) (Classical.propDecidable _)

theorem okR_iff {ax : List LV} {n : Nat} : okR ax n = true ↔ ∃ xs : List Ask3, ax = encL askL xs ∧ xs.length = n ∧ n ≤ 9223372036854775807 := by simp only [okR, decide_eq_true_eq]
theorem okR_enc {xs : List Ask3} {n : Nat} (h : xs.length = n) (hn : n ≤ 9223372036854775807) : okR (encL askL xs) n = true := okR_iff.2 ⟨xs, rfl, h, hn⟩
def iL (n nl : Nat) (ax ls : List LV) (C : Int) : List LV := (runS nl (decOps ax) ls C (min n 60)).1

def iC (n nl : Nat) (ax ls : List LV) (C : Int) : Int := (runS nl (decOps ax) ls C (min n 60)).2

theorem okL_iL {nl : Nat} {ls : List LV} (h : okL ls nl = true) (n : Nat) (ax : List LV) (C : Int) : okL (iL n nl ax ls C) nl = true := okL_run h _ _ _
theorem do_fun2 (ax : List LV) (n : Nat) (sa sb sc sd se N C wi : Int) (nw nl ml ns : Nat) (ws ls ks ss : List LV) (o1 : okIu64 ws nw = true) (o2 : okL ls nl = true) (o3 : okIu64 ss ns = true) (w1 : nw ≤ 1000000) (w2 : nl ≤ 1000) (w3 : ns ≤ 1000000) (e1 : ml = nl) (e2 : ks = ls) (h : okR ax n = true) :
    SFun Go.Proofs.Try.prog 16 [.ptr 0 0, .ptr 2 0, .slo 6 0 n 0] (mkS [.cells [.int .i64 wi, .slo 1 0 ml 0] none, .cells ks (some 3), .cells [.int .i64 sa, .int .i64 sb, .int .i64 sc, .int .i64 sd, .int .u64 se, .slo 3 0 nw 0, .slo 4 0 nl 0, .int .u64 N, .slo 5 0 ns 0, .int .i64 C] none, .cells ws (some 1), .cells ls (some 3), .cells ss (some 1), .ro ax])
    fun l s => l = .bool true ∧ s = mkS [.cells [.int .i64 wi, .slo 1 0 ml 0] none, .cells (iL n nl ax ls C) (some 3), .cells [.int .i64 sa, .int .i64 sb, .int .i64 sc, .int .i64 sd, .int .u64 se, .slo 3 0 nw 0, .slo 4 0 nl 0, .int .u64 N, .slo 5 0 ns 0, .int .i64 (iC n nl ax ls C)] none, .cells ws (some 1), .cells (iL n nl ax ls C) (some 3), .cells ss (some 1), .ro ax] := by
  subst e1
  subst e2
  obtain ⟨xs, rfl, en, hn⟩ := okR_iff.1 h
  exact do_fun xs n en hn sa sb sc sd se N C wi nw ml ns ws ks ss o1 o2 o3 w1 w2 w3
theorem okR_noids {ax : List LV} {n : Nat} (h : okR ax n = true) : noIds ax = true := by obtain ⟨xs, rfl, _⟩ := okR_iff.1 h; exact noids_a xs
theorem okIu64_noids {ws : List LV} {n : Nat} (h : okIu64 ws n = true) : noIds ws = true := by obtain ⟨_, e, _⟩ := okIu64_iff.1 h; rw [e]; exact noIds_Iu64 _
def doG : Gc := fun args s => match args, s.g with
  | [.ptr c 0, .ptr b 0, .slo d 0 n 0], [] => (match s.h.get c with
    | some (.cells [.int .i64 wi, .slo c1 0 ml 0] none) => (match s.h.get c1 with
      | some (.cells ks (some 3)) => (match s.h.get b with
        | some (.cells [.int .i64 sa, .int .i64 sb, .int .i64 sc, .int .i64 sd, .int .u64 se, .slo b1 0 nw 0, .slo b2 0 nl 0, .int .u64 N, .slo b3 0 ns 0, .int .i64 C] none) => (match s.h.get b1 with
          | some (.cells ws (some 1)) => (match s.h.get b2 with
            | some (.cells ls (some 3)) => (match s.h.get b3 with
              | some (.cells ss (some 1)) => (match s.h.get d with
                | some (.ro ax) => cond (nodupB [c, c1, b, b1, b2, b3, d]) (match s.lay [c, c1, b, b1, b2, b3, d] [.cells [.int .i64 wi, .slo c1 0 ml 0] none, .cells (iL n nl ax ls C) (some 3), .cells [.int .i64 sa, .int .i64 sb, .int .i64 sc, .int .i64 sd, .int .u64 se, .slo b1 0 nw 0, .slo b2 0 nl 0, .int .u64 N, .slo b3 0 ns 0, .int .i64 (iC n nl ax ls C)] none, .cells ws (some 1), .cells (iL n nl ax ls C) (some 3), .cells ss (some 1), .ro ax] [] with
                  | some s' => some ([okIu64 ws nw, okL ls nl, okIu64 ss ns, xle nw 1000000, xle nl 1000, xle ns 1000000, xeq ml nl, eqLs ks ls, okR ax n], .bool true, s')
                  | none => none) none
                | _ => none)
              | _ => none)
            | _ => none)
          | _ => none)
        | _ => none)
      | _ => none)
    | _ => none)
  | _, _ => none
theorem doG_ok : GOk Go.Proofs.Try.prog 16 doG := by
  intro args s bs l s' hg hb hfr
  unfold doG at hg
  split at hg
  · rename_i c b d n hgl
    split at hg
    · rename_i wi c1 ml hb0
      split at hg
      · rename_i ks hb1
        split at hg
        · rename_i sa sb sc sd se b1 nw b2 nl N b3 ns C hb2
          split at hg
          · rename_i ws hb3
            split at hg
            · rename_i ls hb4
              split at hg
              · rename_i ss hb5
                split at hg
                · rename_i ax hb6
                  cases hbc : nodupB [c, c1, b, b1, b2, b3, d] with
                  | false => rw [hbc] at hg; cases hg
                  | true =>
                    rw [hbc] at hg
                    simp only [cond_true] at hg
                    split at hg
                    · rename_i s1 hs1
                      simp only [Option.some.injEq, Prod.mk.injEq] at hg
                      obtain ⟨rfl, rfl, rfl⟩ := hg
                      simp only [allT_cons] at hb
                      obtain ⟨k1, k2, k3, k4, k5, k6, k7, k8, k9, _⟩ := hb
                      rw [wd_le, decide_eq_true_eq] at k4 k5 k6
                      rw [wd_eq, decide_eq_true_eq] at k7
                      simp only [eqLs, decide_eq_true_eq] at k8
                      have z1 := okIu64_noids k1
                      have z2 := okL_noids k2
                      have z3 := okIu64_noids k3
                      have z4 := okR_noids k9
                      have z6 : noIds ks = true := by rw [k8]; exact z2
                      have z5 := okL_noids (okL_iL k2 n ax C)
                      refine SFun.lay (bs := [.cells [.int .i64 wi, .slo 1 0 ml 0] none, .cells ks (some 3), .cells [.int .i64 sa, .int .i64 sb, .int .i64 sc, .int .i64 sd, .int .u64 se, .slo 3 0 nw 0, .slo 4 0 nl 0, .int .u64 N, .slo 5 0 ns 0, .int .i64 C] none, .cells ws (some 1), .cells ls (some 3), .cells ss (some 1), .ro ax]) (args0 := [.ptr 0 0, .ptr 2 0, .slo 6 0 n 0]) (bs' := [.cells [.int .i64 wi, .slo 1 0 ml 0] none, .cells (iL n nl ax ls C) (some 3), .cells [.int .i64 sa, .int .i64 sb, .int .i64 sc, .int .i64 sd, .int .u64 se, .slo 3 0 nw 0, .slo 4 0 nl 0, .int .u64 N, .slo 5 0 ns 0, .int .i64 (iC n nl ax ls C)] none, .cells ws (some 1), .cells (iL n nl ax ls C) (some 3), .cells ss (some 1), .ro ax]) (v0 := .bool true) hfr hs1 (nodupB_nd hbc)
                        ⟨⟨there hfr hb0, _, hb0, by (first | exact lb_dead | exact lb_same (by (first | assumption | exact noIds_tab (fun _ => rfl) _ _ | exact noIds_encL (fun _ => rfl) _ | rfl)) | exact lb_ro (by (first | assumption | exact noIds_tab (fun _ => rfl) _ _ | exact noIds_encL (fun _ => rfl) _ | rfl)) | exact lb_none | exact lb_cells (by ((repeat refine lws_cons (by (first | exact lw_any | exact lw_int | exact lw_bool | exact lw_ptr rfl | exact lw_slo rfl | exact lw_nilp | exact lw_nils | exact lw_str | exact lw_slo_nils | exact lw_slo_sle | exact lw_sl rfl | exact lw_unb | exact lw_gptr | exact lw_noid rfl | exact lw_cap rfl (Nat.le_refl _) | exact lw_cap rfl (by omega) | assumption | exact lw_tup (by ((repeat refine lws_cons (by (first | exact lw_any | exact lw_int | exact lw_bool | exact lw_ptr rfl | exact lw_slo rfl | exact lw_nilp | exact lw_nils | exact lw_str | exact lw_slo_nils | exact lw_slo_sle | exact lw_sl rfl | exact lw_unb | exact lw_gptr | exact lw_noid rfl | exact lw_cap rfl (Nat.le_refl _) | exact lw_cap rfl (by omega) | assumption)) ?_); exact lws_nil)))) ?_); exact lws_nil)) (by simp) | exact lb_iter | exact lb_cap (Nat.le_refl _) (Nat.le_refl _) rfl rfl | exact lb_capn (by assumption) (by (first | assumption | exact noIds_tab (fun _ => rfl) _ _ | exact noIds_encL (fun _ => rfl) _ | rfl)) | assumption), fun κ hκ => lb_cells (lws_cons (lw_int) (lws_cons (lw_slo (hκ 1 c1 rfl)) lws_nil)) (by simp)⟩, ⟨there hfr hb1, _, hb1, by (first | exact lb_dead | exact lb_same (by (first | assumption | exact noIds_tab (fun _ => rfl) _ _ | exact noIds_encL (fun _ => rfl) _ | rfl)) | exact lb_ro (by (first | assumption | exact noIds_tab (fun _ => rfl) _ _ | exact noIds_encL (fun _ => rfl) _ | rfl)) | exact lb_none | exact lb_cells (by ((repeat refine lws_cons (by (first | exact lw_any | exact lw_int | exact lw_bool | exact lw_ptr rfl | exact lw_slo rfl | exact lw_nilp | exact lw_nils | exact lw_str | exact lw_slo_nils | exact lw_slo_sle | exact lw_sl rfl | exact lw_unb | exact lw_gptr | exact lw_noid rfl | exact lw_cap rfl (Nat.le_refl _) | exact lw_cap rfl (by omega) | assumption | exact lw_tup (by ((repeat refine lws_cons (by (first | exact lw_any | exact lw_int | exact lw_bool | exact lw_ptr rfl | exact lw_slo rfl | exact lw_nilp | exact lw_nils | exact lw_str | exact lw_slo_nils | exact lw_slo_sle | exact lw_sl rfl | exact lw_unb | exact lw_gptr | exact lw_noid rfl | exact lw_cap rfl (Nat.le_refl _) | exact lw_cap rfl (by omega) | assumption)) ?_); exact lws_nil)))) ?_); exact lws_nil)) (by simp) | exact lb_iter | exact lb_cap (Nat.le_refl _) (Nat.le_refl _) rfl rfl | exact lb_capn (by assumption) (by (first | assumption | exact noIds_tab (fun _ => rfl) _ _ | exact noIds_encL (fun _ => rfl) _ | rfl)) | assumption), fun κ hκ => by (first | exact lb_dead | exact lb_same (by (first | assumption | exact noIds_tab (fun _ => rfl) _ _ | exact noIds_encL (fun _ => rfl) _ | rfl)) | exact lb_ro (by (first | assumption | exact noIds_tab (fun _ => rfl) _ _ | exact noIds_encL (fun _ => rfl) _ | rfl)) | exact lb_none | exact lb_cells (by ((repeat refine lws_cons (by (first | exact lw_any | exact lw_int | exact lw_bool | exact lw_ptr rfl | exact lw_slo rfl | exact lw_nilp | exact lw_nils | exact lw_str | exact lw_slo_nils | exact lw_slo_sle | exact lw_sl rfl | exact lw_unb | exact lw_gptr | exact lw_noid rfl | exact lw_cap rfl (Nat.le_refl _) | exact lw_cap rfl (by omega) | assumption | exact lw_tup (by ((repeat refine lws_cons (by (first | exact lw_any | exact lw_int | exact lw_bool | exact lw_ptr rfl | exact lw_slo rfl | exact lw_nilp | exact lw_nils | exact lw_str | exact lw_slo_nils | exact lw_slo_sle | exact lw_sl rfl | exact lw_unb | exact lw_gptr | exact lw_noid rfl | exact lw_cap rfl (Nat.le_refl _) | exact lw_cap rfl (by omega) | assumption)) ?_); exact lws_nil)))) ?_); exact lws_nil)) (by simp) | exact lb_iter | exact lb_cap (Nat.le_refl _) (Nat.le_refl _) rfl rfl | exact lb_capn (by assumption) (by (first | assumption | exact noIds_tab (fun _ => rfl) _ _ | exact noIds_encL (fun _ => rfl) _ | rfl)) | assumption)⟩, ⟨there hfr hb2, _, hb2, by (first | exact lb_dead | exact lb_same (by (first | assumption | exact noIds_tab (fun _ => rfl) _ _ | exact noIds_encL (fun _ => rfl) _ | rfl)) | exact lb_ro (by (first | assumption | exact noIds_tab (fun _ => rfl) _ _ | exact noIds_encL (fun _ => rfl) _ | rfl)) | exact lb_none | exact lb_cells (by ((repeat refine lws_cons (by (first | exact lw_any | exact lw_int | exact lw_bool | exact lw_ptr rfl | exact lw_slo rfl | exact lw_nilp | exact lw_nils | exact lw_str | exact lw_slo_nils | exact lw_slo_sle | exact lw_sl rfl | exact lw_unb | exact lw_gptr | exact lw_noid rfl | exact lw_cap rfl (Nat.le_refl _) | exact lw_cap rfl (by omega) | assumption | exact lw_tup (by ((repeat refine lws_cons (by (first | exact lw_any | exact lw_int | exact lw_bool | exact lw_ptr rfl | exact lw_slo rfl | exact lw_nilp | exact lw_nils | exact lw_str | exact lw_slo_nils | exact lw_slo_sle | exact lw_sl rfl | exact lw_unb | exact lw_gptr | exact lw_noid rfl | exact lw_cap rfl (Nat.le_refl _) | exact lw_cap rfl (by omega) | assumption)) ?_); exact lws_nil)))) ?_); exact lws_nil)) (by simp) | exact lb_iter | exact lb_cap (Nat.le_refl _) (Nat.le_refl _) rfl rfl | exact lb_capn (by assumption) (by (first | assumption | exact noIds_tab (fun _ => rfl) _ _ | exact noIds_encL (fun _ => rfl) _ | rfl)) | assumption), fun κ hκ => lb_cells (lws_cons (lw_int) (lws_cons (lw_int) (lws_cons (lw_int) (lws_cons (lw_int) (lws_cons (lw_int) (lws_cons (lw_slo (hκ 3 b1 rfl)) (lws_cons (lw_slo (hκ 4 b2 rfl)) (lws_cons (lw_int) (lws_cons (lw_slo (hκ 5 b3 rfl)) (lws_cons (lw_int) lws_nil)))))))))) (by simp)⟩, ⟨there hfr hb3, _, hb3, by (first | exact lb_dead | exact lb_same (by (first | assumption | exact noIds_tab (fun _ => rfl) _ _ | exact noIds_encL (fun _ => rfl) _ | rfl)) | exact lb_ro (by (first | assumption | exact noIds_tab (fun _ => rfl) _ _ | exact noIds_encL (fun _ => rfl) _ | rfl)) | exact lb_none | exact lb_cells (by ((repeat refine lws_cons (by (first | exact lw_any | exact lw_int | exact lw_bool | exact lw_ptr rfl | exact lw_slo rfl | exact lw_nilp | exact lw_nils | exact lw_str | exact lw_slo_nils | exact lw_slo_sle | exact lw_sl rfl | exact lw_unb | exact lw_gptr | exact lw_noid rfl | exact lw_cap rfl (Nat.le_refl _) | exact lw_cap rfl (by omega) | assumption | exact lw_tup (by ((repeat refine lws_cons (by (first | exact lw_any | exact lw_int | exact lw_bool | exact lw_ptr rfl | exact lw_slo rfl | exact lw_nilp | exact lw_nils | exact lw_str | exact lw_slo_nils | exact lw_slo_sle | exact lw_sl rfl | exact lw_unb | exact lw_gptr | exact lw_noid rfl | exact lw_cap rfl (Nat.le_refl _) | exact lw_cap rfl (by omega) | assumption)) ?_); exact lws_nil)))) ?_); exact lws_nil)) (by simp) | exact lb_iter | exact lb_cap (Nat.le_refl _) (Nat.le_refl _) rfl rfl | exact lb_capn (by assumption) (by (first | assumption | exact noIds_tab (fun _ => rfl) _ _ | exact noIds_encL (fun _ => rfl) _ | rfl)) | assumption), fun κ hκ => by (first | exact lb_dead | exact lb_same (by (first | assumption | exact noIds_tab (fun _ => rfl) _ _ | exact noIds_encL (fun _ => rfl) _ | rfl)) | exact lb_ro (by (first | assumption | exact noIds_tab (fun _ => rfl) _ _ | exact noIds_encL (fun _ => rfl) _ | rfl)) | exact lb_none | exact lb_cells (by ((repeat refine lws_cons (by (first | exact lw_any | exact lw_int | exact lw_bool | exact lw_ptr rfl | exact lw_slo rfl | exact lw_nilp | exact lw_nils | exact lw_str | exact lw_slo_nils | exact lw_slo_sle | exact lw_sl rfl | exact lw_unb | exact lw_gptr | exact lw_noid rfl | exact lw_cap rfl (Nat.le_refl _) | exact lw_cap rfl (by omega) | assumption | exact lw_tup (by ((repeat refine lws_cons (by (first | exact lw_any | exact lw_int | exact lw_bool | exact lw_ptr rfl | exact lw_slo rfl | exact lw_nilp | exact lw_nils | exact lw_str | exact lw_slo_nils | exact lw_slo_sle | exact lw_sl rfl | exact lw_unb | exact lw_gptr | exact lw_noid rfl | exact lw_cap rfl (Nat.le_refl _) | exact lw_cap rfl (by omega) | assumption)) ?_); exact lws_nil)))) ?_); exact lws_nil)) (by simp) | exact lb_iter | exact lb_cap (Nat.le_refl _) (Nat.le_refl _) rfl rfl | exact lb_capn (by assumption) (by (first | assumption | exact noIds_tab (fun _ => rfl) _ _ | exact noIds_encL (fun _ => rfl) _ | rfl)) | assumption)⟩, ⟨there hfr hb4, _, hb4, by (first | exact lb_dead | exact lb_same (by (first | assumption | exact noIds_tab (fun _ => rfl) _ _ | exact noIds_encL (fun _ => rfl) _ | rfl)) | exact lb_ro (by (first | assumption | exact noIds_tab (fun _ => rfl) _ _ | exact noIds_encL (fun _ => rfl) _ | rfl)) | exact lb_none | exact lb_cells (by ((repeat refine lws_cons (by (first | exact lw_any | exact lw_int | exact lw_bool | exact lw_ptr rfl | exact lw_slo rfl | exact lw_nilp | exact lw_nils | exact lw_str | exact lw_slo_nils | exact lw_slo_sle | exact lw_sl rfl | exact lw_unb | exact lw_gptr | exact lw_noid rfl | exact lw_cap rfl (Nat.le_refl _) | exact lw_cap rfl (by omega) | assumption | exact lw_tup (by ((repeat refine lws_cons (by (first | exact lw_any | exact lw_int | exact lw_bool | exact lw_ptr rfl | exact lw_slo rfl | exact lw_nilp | exact lw_nils | exact lw_str | exact lw_slo_nils | exact lw_slo_sle | exact lw_sl rfl | exact lw_unb | exact lw_gptr | exact lw_noid rfl | exact lw_cap rfl (Nat.le_refl _) | exact lw_cap rfl (by omega) | assumption)) ?_); exact lws_nil)))) ?_); exact lws_nil)) (by simp) | exact lb_iter | exact lb_cap (Nat.le_refl _) (Nat.le_refl _) rfl rfl | exact lb_capn (by assumption) (by (first | assumption | exact noIds_tab (fun _ => rfl) _ _ | exact noIds_encL (fun _ => rfl) _ | rfl)) | assumption), fun κ hκ => by (first | exact lb_dead | exact lb_same (by (first | assumption | exact noIds_tab (fun _ => rfl) _ _ | exact noIds_encL (fun _ => rfl) _ | rfl)) | exact lb_ro (by (first | assumption | exact noIds_tab (fun _ => rfl) _ _ | exact noIds_encL (fun _ => rfl) _ | rfl)) | exact lb_none | exact lb_cells (by ((repeat refine lws_cons (by (first | exact lw_any | exact lw_int | exact lw_bool | exact lw_ptr rfl | exact lw_slo rfl | exact lw_nilp | exact lw_nils | exact lw_str | exact lw_slo_nils | exact lw_slo_sle | exact lw_sl rfl | exact lw_unb | exact lw_gptr | exact lw_noid rfl | exact lw_cap rfl (Nat.le_refl _) | exact lw_cap rfl (by omega) | assumption | exact lw_tup (by ((repeat refine lws_cons (by (first | exact lw_any | exact lw_int | exact lw_bool | exact lw_ptr rfl | exact lw_slo rfl | exact lw_nilp | exact lw_nils | exact lw_str | exact lw_slo_nils | exact lw_slo_sle | exact lw_sl rfl | exact lw_unb | exact lw_gptr | exact lw_noid rfl | exact lw_cap rfl (Nat.le_refl _) | exact lw_cap rfl (by omega) | assumption)) ?_); exact lws_nil)))) ?_); exact lws_nil)) (by simp) | exact lb_iter | exact lb_cap (Nat.le_refl _) (Nat.le_refl _) rfl rfl | exact lb_capn (by assumption) (by (first | assumption | exact noIds_tab (fun _ => rfl) _ _ | exact noIds_encL (fun _ => rfl) _ | rfl)) | assumption)⟩, ⟨there hfr hb5, _, hb5, by (first | exact lb_dead | exact lb_same (by (first | assumption | exact noIds_tab (fun _ => rfl) _ _ | exact noIds_encL (fun _ => rfl) _ | rfl)) | exact lb_ro (by (first | assumption | exact noIds_tab (fun _ => rfl) _ _ | exact noIds_encL (fun _ => rfl) _ | rfl)) | exact lb_none | exact lb_cells (by ((repeat refine lws_cons (by (first | exact lw_any | exact lw_int | exact lw_bool | exact lw_ptr rfl | exact lw_slo rfl | exact lw_nilp | exact lw_nils | exact lw_str | exact lw_slo_nils | exact lw_slo_sle | exact lw_sl rfl | exact lw_unb | exact lw_gptr | exact lw_noid rfl | exact lw_cap rfl (Nat.le_refl _) | exact lw_cap rfl (by omega) | assumption | exact lw_tup (by ((repeat refine lws_cons (by (first | exact lw_any | exact lw_int | exact lw_bool | exact lw_ptr rfl | exact lw_slo rfl | exact lw_nilp | exact lw_nils | exact lw_str | exact lw_slo_nils | exact lw_slo_sle | exact lw_sl rfl | exact lw_unb | exact lw_gptr | exact lw_noid rfl | exact lw_cap rfl (Nat.le_refl _) | exact lw_cap rfl (by omega) | assumption)) ?_); exact lws_nil)))) ?_); exact lws_nil)) (by simp) | exact lb_iter | exact lb_cap (Nat.le_refl _) (Nat.le_refl _) rfl rfl | exact lb_capn (by assumption) (by (first | assumption | exact noIds_tab (fun _ => rfl) _ _ | exact noIds_encL (fun _ => rfl) _ | rfl)) | assumption), fun κ hκ => by (first | exact lb_dead | exact lb_same (by (first | assumption | exact noIds_tab (fun _ => rfl) _ _ | exact noIds_encL (fun _ => rfl) _ | rfl)) | exact lb_ro (by (first | assumption | exact noIds_tab (fun _ => rfl) _ _ | exact noIds_encL (fun _ => rfl) _ | rfl)) | exact lb_none | exact lb_cells (by ((repeat refine lws_cons (by (first | exact lw_any | exact lw_int | exact lw_bool | exact lw_ptr rfl | exact lw_slo rfl | exact lw_nilp | exact lw_nils | exact lw_str | exact lw_slo_nils | exact lw_slo_sle | exact lw_sl rfl | exact lw_unb | exact lw_gptr | exact lw_noid rfl | exact lw_cap rfl (Nat.le_refl _) | exact lw_cap rfl (by omega) | assumption | exact lw_tup (by ((repeat refine lws_cons (by (first | exact lw_any | exact lw_int | exact lw_bool | exact lw_ptr rfl | exact lw_slo rfl | exact lw_nilp | exact lw_nils | exact lw_str | exact lw_slo_nils | exact lw_slo_sle | exact lw_sl rfl | exact lw_unb | exact lw_gptr | exact lw_noid rfl | exact lw_cap rfl (Nat.le_refl _) | exact lw_cap rfl (by omega) | assumption)) ?_); exact lws_nil)))) ?_); exact lws_nil)) (by simp) | exact lb_iter | exact lb_cap (Nat.le_refl _) (Nat.le_refl _) rfl rfl | exact lb_capn (by assumption) (by (first | assumption | exact noIds_tab (fun _ => rfl) _ _ | exact noIds_encL (fun _ => rfl) _ | rfl)) | assumption)⟩, ⟨there hfr hb6, _, hb6, by (first | exact lb_dead | exact lb_same (by (first | assumption | exact noIds_tab (fun _ => rfl) _ _ | exact noIds_encL (fun _ => rfl) _ | rfl)) | exact lb_ro (by (first | assumption | exact noIds_tab (fun _ => rfl) _ _ | exact noIds_encL (fun _ => rfl) _ | rfl)) | exact lb_none | exact lb_cells (by ((repeat refine lws_cons (by (first | exact lw_any | exact lw_int | exact lw_bool | exact lw_ptr rfl | exact lw_slo rfl | exact lw_nilp | exact lw_nils | exact lw_str | exact lw_slo_nils | exact lw_slo_sle | exact lw_sl rfl | exact lw_unb | exact lw_gptr | exact lw_noid rfl | exact lw_cap rfl (Nat.le_refl _) | exact lw_cap rfl (by omega) | assumption | exact lw_tup (by ((repeat refine lws_cons (by (first | exact lw_any | exact lw_int | exact lw_bool | exact lw_ptr rfl | exact lw_slo rfl | exact lw_nilp | exact lw_nils | exact lw_str | exact lw_slo_nils | exact lw_slo_sle | exact lw_sl rfl | exact lw_unb | exact lw_gptr | exact lw_noid rfl | exact lw_cap rfl (Nat.le_refl _) | exact lw_cap rfl (by omega) | assumption)) ?_); exact lws_nil)))) ?_); exact lws_nil)) (by simp) | exact lb_iter | exact lb_cap (Nat.le_refl _) (Nat.le_refl _) rfl rfl | exact lb_capn (by assumption) (by (first | assumption | exact noIds_tab (fun _ => rfl) _ _ | exact noIds_encL (fun _ => rfl) _ | rfl)) | assumption), fun κ hκ => by (first | exact lb_dead | exact lb_same (by (first | assumption | exact noIds_tab (fun _ => rfl) _ _ | exact noIds_encL (fun _ => rfl) _ | rfl)) | exact lb_ro (by (first | assumption | exact noIds_tab (fun _ => rfl) _ _ | exact noIds_encL (fun _ => rfl) _ | rfl)) | exact lb_none | exact lb_cells (by ((repeat refine lws_cons (by (first | exact lw_any | exact lw_int | exact lw_bool | exact lw_ptr rfl | exact lw_slo rfl | exact lw_nilp | exact lw_nils | exact lw_str | exact lw_slo_nils | exact lw_slo_sle | exact lw_sl rfl | exact lw_unb | exact lw_gptr | exact lw_noid rfl | exact lw_cap rfl (Nat.le_refl _) | exact lw_cap rfl (by omega) | assumption | exact lw_tup (by ((repeat refine lws_cons (by (first | exact lw_any | exact lw_int | exact lw_bool | exact lw_ptr rfl | exact lw_slo rfl | exact lw_nilp | exact lw_nils | exact lw_str | exact lw_slo_nils | exact lw_slo_sle | exact lw_sl rfl | exact lw_unb | exact lw_gptr | exact lw_noid rfl | exact lw_cap rfl (Nat.le_refl _) | exact lw_cap rfl (by omega) | assumption)) ?_); exact lws_nil)))) ?_); exact lws_nil)) (by simp) | exact lb_iter | exact lb_cap (Nat.le_refl _) (Nat.le_refl _) rfl rfl | exact lb_capn (by assumption) (by (first | assumption | exact noIds_tab (fun _ => rfl) _ _ | exact noIds_encL (fun _ => rfl) _ | rfl)) | assumption)⟩, trivial⟩ (by ((repeat refine lws_cons (by (first | exact lw_any | exact lw_int | exact lw_bool | exact lw_ptr rfl | exact lw_slo rfl | exact lw_nilp | exact lw_nils | exact lw_str | exact lw_slo_nils | exact lw_slo_sle | exact lw_sl rfl | exact lw_unb | exact lw_gptr | exact lw_noid rfl | exact lw_cap rfl (Nat.le_refl _) | exact lw_cap rfl (by omega) | assumption | exact lw_tup (by ((repeat refine lws_cons (by (first | exact lw_any | exact lw_int | exact lw_bool | exact lw_ptr rfl | exact lw_slo rfl | exact lw_nilp | exact lw_nils | exact lw_str | exact lw_slo_nils | exact lw_slo_sle | exact lw_sl rfl | exact lw_unb | exact lw_gptr | exact lw_noid rfl | exact lw_cap rfl (Nat.le_refl _) | exact lw_cap rfl (by omega) | assumption)) ?_); exact lws_nil)))) ?_); exact lws_nil)) ?_
                        fun κ h1 h2 => ⟨⟨lb_cells (lws_cons (lw_int) (lws_cons (lw_slo (h1 1 c1 rfl)) lws_nil)) (by simp), lb_same (z5), lb_cells (lws_cons (lw_int) (lws_cons (lw_int) (lws_cons (lw_int) (lws_cons (lw_int) (lws_cons (lw_int) (lws_cons (lw_slo (h1 3 b1 rfl)) (lws_cons (lw_slo (h1 4 b2 rfl)) (lws_cons (lw_int) (lws_cons (lw_slo (h1 5 b3 rfl)) (lws_cons (lw_int) lws_nil)))))))))) (by simp), by (first | exact lb_dead | exact lb_same (by (first | assumption | exact noIds_tab (fun _ => rfl) _ _ | exact noIds_encL (fun _ => rfl) _ | rfl)) | exact lb_ro (by (first | assumption | exact noIds_tab (fun _ => rfl) _ _ | exact noIds_encL (fun _ => rfl) _ | rfl)) | exact lb_none | exact lb_cells (by ((repeat refine lws_cons (by (first | exact lw_any | exact lw_int | exact lw_bool | exact lw_ptr rfl | exact lw_slo rfl | exact lw_nilp | exact lw_nils | exact lw_str | exact lw_slo_nils | exact lw_slo_sle | exact lw_sl rfl | exact lw_unb | exact lw_gptr | exact lw_noid rfl | exact lw_cap rfl (Nat.le_refl _) | exact lw_cap rfl (by omega) | assumption | exact lw_tup (by ((repeat refine lws_cons (by (first | exact lw_any | exact lw_int | exact lw_bool | exact lw_ptr rfl | exact lw_slo rfl | exact lw_nilp | exact lw_nils | exact lw_str | exact lw_slo_nils | exact lw_slo_sle | exact lw_sl rfl | exact lw_unb | exact lw_gptr | exact lw_noid rfl | exact lw_cap rfl (Nat.le_refl _) | exact lw_cap rfl (by omega) | assumption)) ?_); exact lws_nil)))) ?_); exact lws_nil)) (by simp) | exact lb_iter | exact lb_cap (Nat.le_refl _) (Nat.le_refl _) rfl rfl | exact lb_capn (by assumption) (by (first | assumption | exact noIds_tab (fun _ => rfl) _ _ | exact noIds_encL (fun _ => rfl) _ | rfl)) | assumption), lb_same (z5), by (first | exact lb_dead | exact lb_same (by (first | assumption | exact noIds_tab (fun _ => rfl) _ _ | exact noIds_encL (fun _ => rfl) _ | rfl)) | exact lb_ro (by (first | assumption | exact noIds_tab (fun _ => rfl) _ _ | exact noIds_encL (fun _ => rfl) _ | rfl)) | exact lb_none | exact lb_cells (by ((repeat refine lws_cons (by (first | exact lw_any | exact lw_int | exact lw_bool | exact lw_ptr rfl | exact lw_slo rfl | exact lw_nilp | exact lw_nils | exact lw_str | exact lw_slo_nils | exact lw_slo_sle | exact lw_sl rfl | exact lw_unb | exact lw_gptr | exact lw_noid rfl | exact lw_cap rfl (Nat.le_refl _) | exact lw_cap rfl (by omega) | assumption | exact lw_tup (by ((repeat refine lws_cons (by (first | exact lw_any | exact lw_int | exact lw_bool | exact lw_ptr rfl | exact lw_slo rfl | exact lw_nilp | exact lw_nils | exact lw_str | exact lw_slo_nils | exact lw_slo_sle | exact lw_sl rfl | exact lw_unb | exact lw_gptr | exact lw_noid rfl | exact lw_cap rfl (Nat.le_refl _) | exact lw_cap rfl (by omega) | assumption)) ?_); exact lws_nil)))) ?_); exact lws_nil)) (by simp) | exact lb_iter | exact lb_cap (Nat.le_refl _) (Nat.le_refl _) rfl rfl | exact lb_capn (by assumption) (by (first | assumption | exact noIds_tab (fun _ => rfl) _ _ | exact noIds_encL (fun _ => rfl) _ | rfl)) | assumption), by (first | exact lb_dead | exact lb_same (by (first | assumption | exact noIds_tab (fun _ => rfl) _ _ | exact noIds_encL (fun _ => rfl) _ | rfl)) | exact lb_ro (by (first | assumption | exact noIds_tab (fun _ => rfl) _ _ | exact noIds_encL (fun _ => rfl) _ | rfl)) | exact lb_none | exact lb_cells (by ((repeat refine lws_cons (by (first | exact lw_any | exact lw_int | exact lw_bool | exact lw_ptr rfl | exact lw_slo rfl | exact lw_nilp | exact lw_nils | exact lw_str | exact lw_slo_nils | exact lw_slo_sle | exact lw_sl rfl | exact lw_unb | exact lw_gptr | exact lw_noid rfl | exact lw_cap rfl (Nat.le_refl _) | exact lw_cap rfl (by omega) | assumption | exact lw_tup (by ((repeat refine lws_cons (by (first | exact lw_any | exact lw_int | exact lw_bool | exact lw_ptr rfl | exact lw_slo rfl | exact lw_nilp | exact lw_nils | exact lw_str | exact lw_slo_nils | exact lw_slo_sle | exact lw_sl rfl | exact lw_unb | exact lw_gptr | exact lw_noid rfl | exact lw_cap rfl (Nat.le_refl _) | exact lw_cap rfl (by omega) | assumption)) ?_); exact lws_nil)))) ?_); exact lws_nil)) (by simp) | exact lb_iter | exact lb_cap (Nat.le_refl _) (Nat.le_refl _) rfl rfl | exact lb_capn (by assumption) (by (first | assumption | exact noIds_tab (fun _ => rfl) _ _ | exact noIds_encL (fun _ => rfl) _ | rfl)) | assumption), trivial⟩, lw_bool⟩
                      rw [hgl]; exact do_fun2 ax n sa sb sc sd se N C wi nw nl ml ns ws ls ks ss k1 k2 k3 k4 k5 k6 k7 k8 k9
                    · cases hg
                · cases hg
              · cases hg
            · cases hg
          · cases hg
        · cases hg
      · cases hg
    · cases hg
  · cases hg
def cxp : Cx := cxl [(3, runG), (17, newmemG), (16, doG), (21, sameG), (33, cloneG 3)]
abbrev spL : List Nat := [0, 1, 2, 6, 7]
abbrev spT (a b : Int) (n : Nat) : List (Nat × LV) := [(0, .int .i64 a), (1, .int .i64 b), (2, .slo 0 0 n 0), (7, .ptr 1 0)]
abbrev spH (wi : Int) (nl : Nat) (ax ls : List LV) : List LB := [.ro ax, .cells [.int .i64 wi, .slo 2 0 nl 0] none, .cells ls (some 3)]
theorem sp_a (a b : Int) (n : Nat) (ax : List LV) (K : Pk) : (xsp Go.Proofs.Try.prog cxp 40 24 (seg (sp Go.Proofs.Try.prog 4) 0 4) (tm0 [.int .i64 a, .int .i64 b, .slo 0 0 n 0]) (mkS [.ro ax]) (vK spL K)) = (
  bif xnn (xmn (xmx a 1) 16) then
  bif xnn (xmn (xmx a 1) 16) then
  bif xle (xnat (xmn (xmx a 1) 16)) (xnat (xmn (xmx a 1) 16)) then
  bif xle (xnat (xmn (xmx a 1) 16)) 100000 then
  K .normal [.int .i64 a, .int .i64 b, .slo 0 0 n 0, .bool false, .ptr 2 0] [some (.ro ax), some (.cells (xrep (xnat (xmn (xmx a 1) 16)) [.int .u64 0, .bool false, .int .i64 0]) none), some (.cells [.int .i64 (xmn (xmx b 1) 16), .sl 1 0 (xnat (xmn (xmx a 1) 16)) (xnat (xmn (xmx a 1) 16))] none)] []
  else False
  else False
  else False
  else False) := by kernel_rfl
theorem sp_z (a b wi : Int) (n nl : Nat) (ax ls : List LV) (K : Pk) : (xsp Go.Proofs.Try.prog cxp 40 24 ((sp Go.Proofs.Try.prog 4).drop 4) (mkTm 24 (spT a b n)) (mkS (spH wi nl ax ls)) (vK spL K)) = (
  bif okIu64 [.int .u64 0, .int .u64 0, .int .u64 0, .int .u64 0, .int .u64 0, .int .u64 0, .int .u64 0, .int .u64 0, .int .u64 0, .int .u64 0, .int .u64 0, .int .u64 0, .int .u64 0, .int .u64 0, .int .u64 0, .int .u64 0, .int .u64 0, .int .u64 0, .int .u64 0, .int .u64 0, .int .u64 0, .int .u64 0, .int .u64 0, .int .u64 0, .int .u64 0, .int .u64 0, .int .u64 0, .int .u64 0, .int .u64 0, .int .u64 0, .int .u64 0, .int .u64 0] 32 then
  bif okL (zL (xnat (xmn (xmx a 1) 16))) (xnat (xmn (xmx a 1) 16)) then
  bif okIu64 [.int .u64 0] 1 then
  bif xle (xnat (xmn (xmx a 1) 16)) 1000 then
  bif xeq nl (xnat (xmn (xmx a 1) 16)) then
  bif eqLs ls (zL (xnat (xmn (xmx a 1) 16))) then
  bif okR ax n then
  K .ret [.int .i64 a, .int .i64 b, .slo 0 0 n 0, .bool true, .ptr 1 0] [some (.ro ax), some (.cells [.int .i64 wi, .slo 2 0 nl 0] none), some (.cells (iL n (xnat (xmn (xmx a 1) 16)) ax (zL (xnat (xmn (xmx a 1) 16))) 0) (some 3)), some (.cells [.int .i64 32, .int .i64 (xmn (xmx a 1) 16), .int .i64 (xmn (xmx b 1) 16), .int .i64 1, .int .u64 0, .slo 4 0 32 0, .slo 5 0 (xnat (xmn (xmx a 1) 16)) 0, .int .u64 0, .slo 6 0 1 0, .int .i64 (iC n (xnat (xmn (xmx a 1) 16)) ax (zL (xnat (xmn (xmx a 1) 16))) 0)] none), some (.cells [.int .u64 0, .int .u64 0, .int .u64 0, .int .u64 0, .int .u64 0, .int .u64 0, .int .u64 0, .int .u64 0, .int .u64 0, .int .u64 0, .int .u64 0, .int .u64 0, .int .u64 0, .int .u64 0, .int .u64 0, .int .u64 0, .int .u64 0, .int .u64 0, .int .u64 0, .int .u64 0, .int .u64 0, .int .u64 0, .int .u64 0, .int .u64 0, .int .u64 0, .int .u64 0, .int .u64 0, .int .u64 0, .int .u64 0, .int .u64 0, .int .u64 0, .int .u64 0] (some 1)), some (.cells (iL n (xnat (xmn (xmx a 1) 16)) ax (zL (xnat (xmn (xmx a 1) 16))) 0) (some 3)), some (.cells [.int .u64 0] (some 1))] []
  else False
  else False
  else False
  else False
  else False
  else False
  else False) := by kernel_rfl
abbrev scL : List Nat := [0, 1, 2, 3, 4, 10, 11, 12, 13, 14]
abbrev scT (na nb nc : Nat) : List (Nat × LV) := [(2, .slo 0 0 na 0), (3, .slo 1 0 nb 0), (4, .slo 2 0 nc 0), (11, .ptr 3 0), (12, .ptr 5 0)]
abbrev scU (nb nc : Nat) : List (Nat × LV) := [(3, .slo 1 0 nb 0), (4, .slo 2 0 nc 0), (11, .ptr 3 0), (12, .ptr 5 0), (13, .ptr 9 0), (14, .ptr 11 0)]
abbrev scH (sa sb sc sd se N C wi : Int) (nw nl ns : Nat) (ws ls ss ax bx dx : List LV) : List LB := [.ro ax, .ro bx, .ro dx, .cells [.int .i64 wi, .slo 4 0 nl 0] none, .cells ls (some 3), .cells [.int .i64 sa, .int .i64 sb, .int .i64 sc, .int .i64 sd, .int .u64 se, .slo 6 0 nw 0, .slo 7 0 nl 0, .int .u64 N, .slo 8 0 ns 0, .int .i64 C] none, .cells ws (some 1), .cells ls (some 3), .cells ss (some 1)]
abbrev scI (sa sb sc sd se N C wi : Int) (nw nl ns : Nat) (ws ls ss ax bx dx : List LV) : List LB := [.ro ax, .ro bx, .ro dx, .cells [.int .i64 wi, .slo 4 0 nl 0] none, .cells ls (some 3), .cells [.int .i64 sa, .int .i64 sb, .int .i64 sc, .int .i64 sd, .int .u64 se, .slo 6 0 nw 0, .slo 7 0 nl 0, .int .u64 N, .slo 8 0 ns 0, .int .i64 C] none, .cells ws (some 1), .cells ls (some 3), .cells ss (some 1), .cells [.int .i64 wi, .slo 10 0 nl 0] none, .cells ls (some 3), .cells [.int .i64 sa, .int .i64 sb, .int .i64 sc, .int .i64 sd, .int .u64 se, .slo 12 0 nw 0, .slo 13 0 nl 0, .int .u64 N, .slo 14 0 ns 0, .int .i64 C] none, .cells ws (some 1), .cells ls (some 3), .cells ss (some 1)]
theorem sc_a (a b : Int) (na nb nc : Nat) (ax bx dx : List LV) (K : Pk) : (xsp Go.Proofs.Try.prog cxp 40 63 (seg (sp Go.Proofs.Try.prog 8) 0 4) (tm0 [.int .i64 a, .int .i64 b, .slo 0 0 na 0, .slo 1 0 nb 0, .slo 2 0 nc 0]) (mkS [.ro ax, .ro bx, .ro dx]) (vK scL K)) = (
  bif xnn (xmn (xmx a 1) 16) then
  bif xnn (xmn (xmx a 1) 16) then
  bif xle (xnat (xmn (xmx a 1) 16)) (xnat (xmn (xmx a 1) 16)) then
  bif xle (xnat (xmn (xmx a 1) 16)) 100000 then
  K .normal [.int .i64 a, .int .i64 b, .slo 0 0 na 0, .slo 1 0 nb 0, .slo 2 0 nc 0, .bool false, .ptr 4 0, .ptr 5 0, .tup [], .tup []] [some (.ro ax), some (.ro bx), some (.ro dx), some (.cells (xrep (xnat (xmn (xmx a 1) 16)) [.int .u64 0, .bool false, .int .i64 0]) none), some (.cells [.int .i64 (xmn (xmx b 1) 16), .sl 3 0 (xnat (xmn (xmx a 1) 16)) (xnat (xmn (xmx a 1) 16))] none), some (.cells [.int .i64 32, .int .i64 (xmn (xmx a 1) 16), .int .i64 (xmn (xmx b 1) 16), .int .i64 1, .int .u64 0, .slo 6 0 32 0, .slo 7 0 (xnat (xmn (xmx a 1) 16)) 0, .int .u64 0, .slo 8 0 1 0, .int .i64 0] none), some (.cells [.int .u64 0, .int .u64 0, .int .u64 0, .int .u64 0, .int .u64 0, .int .u64 0, .int .u64 0, .int .u64 0, .int .u64 0, .int .u64 0, .int .u64 0, .int .u64 0, .int .u64 0, .int .u64 0, .int .u64 0, .int .u64 0, .int .u64 0, .int .u64 0, .int .u64 0, .int .u64 0, .int .u64 0, .int .u64 0, .int .u64 0, .int .u64 0, .int .u64 0, .int .u64 0, .int .u64 0, .int .u64 0, .int .u64 0, .int .u64 0, .int .u64 0, .int .u64 0] (some 1)), some (.cells (zL (xnat (xmn (xmx a 1) 16))) (some 3)), some (.cells [.int .u64 0] (some 1))] []
  else False
  else False
  else False
  else False) := by kernel_rfl
theorem sc_b (na nb nc : Nat) (sa sb sc sd se N C wi : Int) (nw nl ns : Nat) (ws ls ss ax bx dx : List LV) (K : Pk) : (xsp Go.Proofs.Try.prog cxp 40 63 (seg (sp Go.Proofs.Try.prog 8) 4 2) (mkTm 63 (scT na nb nc)) (mkS (scH sa sb sc sd se N C wi nw nl ns ws ls ss ax bx dx)) (vK scL K)) = (
  bif okIu64 ws nw then
  bif okL ls nl then
  bif okIu64 ss ns then
  bif xle nw 1000000 then
  bif xle nl 1000 then
  bif xle ns 1000000 then
  bif xeq nl nl then
  bif eqLs ls ls then
  bif okR ax na then
  K .normal [.any, .any, .slo 0 0 na 0, .slo 1 0 nb 0, .slo 2 0 nc 0, .any, .ptr 3 0, .ptr 5 0, .any, .any] [some (.ro ax), some (.ro bx), some (.ro dx), some (.cells [.int .i64 wi, .slo 4 0 nl 0] none), some (.cells (iL na nl ax ls C) (some 3)), some (.cells [.int .i64 sa, .int .i64 sb, .int .i64 sc, .int .i64 sd, .int .u64 se, .slo 6 0 nw 0, .slo 7 0 nl 0, .int .u64 N, .slo 8 0 ns 0, .int .i64 (iC na nl ax ls C)] none), some (.cells ws (some 1)), some (.cells (iL na nl ax ls C) (some 3)), some (.cells ss (some 1))] []
  else False
  else False
  else False
  else False
  else False
  else False
  else False
  else False
  else False) := by kernel_rfl
theorem sc_c (na nb nc : Nat) (sa sb sc sd se N C wi : Int) (nw nl ns : Nat) (ws ls ss ax bx dx : List LV) (K : Pk) : (xsp Go.Proofs.Try.prog cxp 40 63 (seg (sp Go.Proofs.Try.prog 8) 6 1) (mkTm 63 (scT na nb nc)) (mkS (scH sa sb sc sd se N C wi nw nl ns ws ls ss ax bx dx)) (vK scL K)) = (
  bif xle nl 1000000 then
  bif xeq (xln ls) (xmul nl 3) then
  bif xnoid ls then
  bif xcm .eql wi wi then
  bif xcm .eql wi wi then
  bif xle (xadd 0 (xmul nw 1)) (xln ws) then
  bif xz nw then (
   bif xle (xadd 0 (xmul nl 3)) (xln ls) then
   bif xz nl then (
    bif xle (xadd 0 (xmul ns 1)) (xln ss) then
    bif xz ns then (
     bif xcm .eql sa sa then
     bif xcm .eql sb sb then
     bif xcm .eql sc sc then
     bif xcm .eql sd sd then
     bif xcm .eql se se then
     bif xcm .eql sa sa then
     bif xcm .eql sb sb then
     bif xcm .eql sc sc then
     bif xcm .eql sd sd then
     bif xcm .eql se se then
     bif xcm .eql sa sa then
     bif xcm .eql sb sb then
     bif xcm .eql sc sc then
     bif xcm .eql sd sd then
     bif xcm .eql se se then
     bif xcm .eql sa sa then
     bif xcm .eql sb sb then
     bif xcm .eql sc sc then
     bif xcm .eql sd sd then
     bif xcm .eql se se then
     bif xcm .eql sa sa then
     bif xcm .eql sb sb then
     bif xcm .eql sc sc then
     bif xcm .eql sd sd then
     bif xcm .eql se se then
     bif xcm .eql sa sa then
     bif xcm .eql sb sb then
     bif xcm .eql sc sc then
     bif xcm .eql sd sd then
     bif xcm .eql se se then
     bif xeq nl nl then
     bif xeq nl nl then
     bif xcm .eql N N then
     bif xcm .eql N N then
     bif xcm .eql N N then
     bif xcm .eql N N then
     bif xcm .eql N N then
     bif xcm .eql N N then
     bif xeq ns ns then
     bif xeq ns ns then
     bif xeq ns ns then
     bif xeq ns ns then
     bif xcm .eql C C then
     bif xcm .eql C C then
     bif xcm .eql C C then
     bif xcm .eql C C then
     bif xcm .eql C C then
     bif xcm .eql C C then
     K .normal [.any, .any, .slo 0 0 na 0, .slo 1 0 nb 0, .slo 2 0 nc 0, .any, .ptr 3 0, .ptr 5 0, .ptr 10 0, .ptr 11 0] [some (.ro ax), some (.ro bx), some (.ro dx), some (.cells [.int .i64 wi, .slo 4 0 nl 0] none), some (.cells ls (some 3)), some (.cells [.int .i64 sa, .int .i64 sb, .int .i64 sc, .int .i64 sd, .int .u64 se, .slo 6 0 nw 0, .slo 7 0 nl 0, .int .u64 N, .slo 8 0 ns 0, .int .i64 C] none), some (.cells ws (some 1)), some (.cells ls (some 3)), some (.cells ss (some 1)), some (.cells ls (some 3)), some (.cells [.int .i64 wi, .slo 9 0 nl 0] none), some (.cells [.int .i64 sa, .int .i64 sb, .int .i64 sc, .int .i64 sd, .int .u64 se, .nils, .nils, .int .u64 N, .nils, .int .i64 C] none)] []
     else False
     else False
     else False
     else False
     else False
     else False
     else False
     else False
     else False
     else False
     else False
     else False
     else False
     else False
     else False
     else False
     else False
     else False
     else False
     else False
     else False
     else False
     else False
     else False
     else False
     else False
     else False
     else False
     else False
     else False
     else False
     else False
     else False
     else False
     else False
     else False
     else False
     else False
     else False
     else False
     else False
     else False
     else False
     else False
     else False
     else False
     else False
     else False)
    else (
     bif xle ns 1000000 then
     bif xcm .eql sa sa then
     bif xcm .eql sb sb then
     bif xcm .eql sc sc then
     bif xcm .eql sd sd then
     bif xcm .eql se se then
     bif xcm .eql sa sa then
     bif xcm .eql sb sb then
     bif xcm .eql sc sc then
     bif xcm .eql sd sd then
     bif xcm .eql se se then
     bif xcm .eql sa sa then
     bif xcm .eql sb sb then
     bif xcm .eql sc sc then
     bif xcm .eql sd sd then
     bif xcm .eql se se then
     bif xcm .eql sa sa then
     bif xcm .eql sb sb then
     bif xcm .eql sc sc then
     bif xcm .eql sd sd then
     bif xcm .eql se se then
     bif xcm .eql sa sa then
     bif xcm .eql sb sb then
     bif xcm .eql sc sc then
     bif xcm .eql sd sd then
     bif xcm .eql se se then
     bif xcm .eql sa sa then
     bif xcm .eql sb sb then
     bif xcm .eql sc sc then
     bif xcm .eql sd sd then
     bif xcm .eql se se then
     bif xeq nl nl then
     bif xeq nl nl then
     bif xcm .eql N N then
     bif xcm .eql N N then
     bif xcm .eql N N then
     bif xcm .eql N N then
     bif xcm .eql N N then
     bif xcm .eql N N then
     bif xeq ns ns then
     bif xeq ns ns then
     bif xeq ns ns then
     bif xeq ns ns then
     bif xcm .eql C C then
     bif xcm .eql C C then
     bif xcm .eql C C then
     bif xcm .eql C C then
     bif xcm .eql C C then
     bif xcm .eql C C then
     K .normal [.any, .any, .slo 0 0 na 0, .slo 1 0 nb 0, .slo 2 0 nc 0, .any, .ptr 3 0, .ptr 5 0, .ptr 10 0, .ptr 12 0] [some (.ro ax), some (.ro bx), some (.ro dx), some (.cells [.int .i64 wi, .slo 4 0 nl 0] none), some (.cells ls (some 3)), some (.cells [.int .i64 sa, .int .i64 sb, .int .i64 sc, .int .i64 sd, .int .u64 se, .slo 6 0 nw 0, .slo 7 0 nl 0, .int .u64 N, .slo 8 0 ns 0, .int .i64 C] none), some (.cells ws (some 1)), some (.cells ls (some 3)), some (.cells ss (some 1)), some (.cells ls (some 3)), some (.cells [.int .i64 wi, .slo 9 0 nl 0] none), some (.cells (xcut ss 0 (xmul ns 1)) (some 1)), some (.cells [.int .i64 sa, .int .i64 sb, .int .i64 sc, .int .i64 sd, .int .u64 se, .nils, .nils, .int .u64 N, .slo 11 0 ns 0, .int .i64 C] none)] []
     else False
     else False
     else False
     else False
     else False
     else False
     else False
     else False
     else False
     else False
     else False
     else False
     else False
     else False
     else False
     else False
     else False
     else False
     else False
     else False
     else False
     else False
     else False
     else False
     else False
     else False
     else False
     else False
     else False
     else False
     else False
     else False
     else False
     else False
     else False
     else False
     else False
     else False
     else False
     else False
     else False
     else False
     else False
     else False
     else False
     else False
     else False
     else False
     else False)
    else False)
   else (
    bif xle nl 1000000 then
    bif xle (xadd 0 (xmul ns 1)) (xln ss) then
    bif xz ns then (
     bif xcm .eql sa sa then
     bif xcm .eql sb sb then
     bif xcm .eql sc sc then
     bif xcm .eql sd sd then
     bif xcm .eql se se then
     bif xcm .eql sa sa then
     bif xcm .eql sb sb then
     bif xcm .eql sc sc then
     bif xcm .eql sd sd then
     bif xcm .eql se se then
     bif xcm .eql sa sa then
     bif xcm .eql sb sb then
     bif xcm .eql sc sc then
     bif xcm .eql sd sd then
     bif xcm .eql se se then
     bif xcm .eql sa sa then
     bif xcm .eql sb sb then
     bif xcm .eql sc sc then
     bif xcm .eql sd sd then
     bif xcm .eql se se then
     bif xcm .eql sa sa then
     bif xcm .eql sb sb then
     bif xcm .eql sc sc then
     bif xcm .eql sd sd then
     bif xcm .eql se se then
     bif xcm .eql sa sa then
     bif xcm .eql sb sb then
     bif xcm .eql sc sc then
     bif xcm .eql sd sd then
     bif xcm .eql se se then
     bif xeq nl nl then
     bif xeq nl nl then
     bif xcm .eql N N then
     bif xcm .eql N N then
     bif xcm .eql N N then
     bif xcm .eql N N then
     bif xcm .eql N N then
     bif xcm .eql N N then
     bif xeq ns ns then
     bif xeq ns ns then
     bif xeq ns ns then
     bif xeq ns ns then
     bif xcm .eql C C then
     bif xcm .eql C C then
     bif xcm .eql C C then
     bif xcm .eql C C then
     bif xcm .eql C C then
     bif xcm .eql C C then
     K .normal [.any, .any, .slo 0 0 na 0, .slo 1 0 nb 0, .slo 2 0 nc 0, .any, .ptr 3 0, .ptr 5 0, .ptr 10 0, .ptr 12 0] [some (.ro ax), some (.ro bx), some (.ro dx), some (.cells [.int .i64 wi, .slo 4 0 nl 0] none), some (.cells ls (some 3)), some (.cells [.int .i64 sa, .int .i64 sb, .int .i64 sc, .int .i64 sd, .int .u64 se, .slo 6 0 nw 0, .slo 7 0 nl 0, .int .u64 N, .slo 8 0 ns 0, .int .i64 C] none), some (.cells ws (some 1)), some (.cells ls (some 3)), some (.cells ss (some 1)), some (.cells ls (some 3)), some (.cells [.int .i64 wi, .slo 9 0 nl 0] none), some (.cells (xcut ls 0 (xmul nl 3)) (some 3)), some (.cells [.int .i64 sa, .int .i64 sb, .int .i64 sc, .int .i64 sd, .int .u64 se, .nils, .slo 11 0 nl 0, .int .u64 N, .nils, .int .i64 C] none)] []
     else False
     else False
     else False
     else False
     else False
     else False
     else False
     else False
     else False
     else False
     else False
     else False
     else False
     else False
     else False
     else False
     else False
     else False
     else False
     else False
     else False
     else False
     else False
     else False
     else False
     else False
     else False
     else False
     else False
     else False
     else False
     else False
     else False
     else False
     else False
     else False
     else False
     else False
     else False
     else False
     else False
     else False
     else False
     else False
     else False
     else False
     else False
     else False)
    else (
     bif xle ns 1000000 then
     bif xcm .eql sa sa then
     bif xcm .eql sb sb then
     bif xcm .eql sc sc then
     bif xcm .eql sd sd then
     bif xcm .eql se se then
     bif xcm .eql sa sa then
     bif xcm .eql sb sb then
     bif xcm .eql sc sc then
     bif xcm .eql sd sd then
     bif xcm .eql se se then
     bif xcm .eql sa sa then
     bif xcm .eql sb sb then
     bif xcm .eql sc sc then
     bif xcm .eql sd sd then
     bif xcm .eql se se then
     bif xcm .eql sa sa then
     bif xcm .eql sb sb then
     bif xcm .eql sc sc then
     bif xcm .eql sd sd then
     bif xcm .eql se se then
     bif xcm .eql sa sa then
     bif xcm .eql sb sb then
     bif xcm .eql sc sc then
     bif xcm .eql sd sd then
     bif xcm .eql se se then
     bif xcm .eql sa sa then
     bif xcm .eql sb sb then
     bif xcm .eql sc sc then
     bif xcm .eql sd sd then
     bif xcm .eql se se then
     bif xeq nl nl then
     bif xeq nl nl then
     bif xcm .eql N N then
     bif xcm .eql N N then
     bif xcm .eql N N then
     bif xcm .eql N N then
     bif xcm .eql N N then
     bif xcm .eql N N then
     bif xeq ns ns then
     bif xeq ns ns then
     bif xeq ns ns then
     bif xeq ns ns then
     bif xcm .eql C C then
     bif xcm .eql C C then
     bif xcm .eql C C then
     bif xcm .eql C C then
     bif xcm .eql C C then
     bif xcm .eql C C then
     K .normal [.any, .any, .slo 0 0 na 0, .slo 1 0 nb 0, .slo 2 0 nc 0, .any, .ptr 3 0, .ptr 5 0, .ptr 10 0, .ptr 13 0] [some (.ro ax), some (.ro bx), some (.ro dx), some (.cells [.int .i64 wi, .slo 4 0 nl 0] none), some (.cells ls (some 3)), some (.cells [.int .i64 sa, .int .i64 sb, .int .i64 sc, .int .i64 sd, .int .u64 se, .slo 6 0 nw 0, .slo 7 0 nl 0, .int .u64 N, .slo 8 0 ns 0, .int .i64 C] none), some (.cells ws (some 1)), some (.cells ls (some 3)), some (.cells ss (some 1)), some (.cells ls (some 3)), some (.cells [.int .i64 wi, .slo 9 0 nl 0] none), some (.cells (xcut ls 0 (xmul nl 3)) (some 3)), some (.cells (xcut ss 0 (xmul ns 1)) (some 1)), some (.cells [.int .i64 sa, .int .i64 sb, .int .i64 sc, .int .i64 sd, .int .u64 se, .nils, .slo 11 0 nl 0, .int .u64 N, .slo 12 0 ns 0, .int .i64 C] none)] []
     else False
     else False
     else False
     else False
     else False
     else False
     else False
     else False
     else False
     else False
     else False
     else False
     else False
     else False
     else False
     else False
     else False
     else False
     else False
     else False
     else False
     else False
     else False
     else False
     else False
     else False
     else False
     else False
     else False
     else False
     else False
     else False
     else False
     else False
     else False
     else False
     else False
     else False
     else False
     else False
     else False
     else False
     else False
     else False
     else False
     else False
     else False
     else False
     else False)
    else False
    else False)
   else False)
  else (
   bif xle nw 1000000 then
   bif xle (xadd 0 (xmul nl 3)) (xln ls) then
   bif xz nl then (
    bif xle (xadd 0 (xmul ns 1)) (xln ss) then
    bif xz ns then (
     bif xcm .eql sa sa then
     bif xcm .eql sb sb then
     bif xcm .eql sc sc then
     bif xcm .eql sd sd then
     bif xcm .eql se se then
     bif xcm .eql sa sa then
     bif xcm .eql sb sb then
     bif xcm .eql sc sc then
     bif xcm .eql sd sd then
     bif xcm .eql se se then
     bif xcm .eql sa sa then
     bif xcm .eql sb sb then
     bif xcm .eql sc sc then
     bif xcm .eql sd sd then
     bif xcm .eql se se then
     bif xcm .eql sa sa then
     bif xcm .eql sb sb then
     bif xcm .eql sc sc then
     bif xcm .eql sd sd then
     bif xcm .eql se se then
     bif xcm .eql sa sa then
     bif xcm .eql sb sb then
     bif xcm .eql sc sc then
     bif xcm .eql sd sd then
     bif xcm .eql se se then
     bif xcm .eql sa sa then
     bif xcm .eql sb sb then
     bif xcm .eql sc sc then
     bif xcm .eql sd sd then
     bif xcm .eql se se then
     bif xeq nl nl then
     bif xeq nl nl then
     bif xcm .eql N N then
     bif xcm .eql N N then
     bif xcm .eql N N then
     bif xcm .eql N N then
     bif xcm .eql N N then
     bif xcm .eql N N then
     bif xeq ns ns then
     bif xeq ns ns then
     bif xeq ns ns then
     bif xeq ns ns then
     bif xcm .eql C C then
     bif xcm .eql C C then
     bif xcm .eql C C then
     bif xcm .eql C C then
     bif xcm .eql C C then
     bif xcm .eql C C then
     K .normal [.any, .any, .slo 0 0 na 0, .slo 1 0 nb 0, .slo 2 0 nc 0, .any, .ptr 3 0, .ptr 5 0, .ptr 10 0, .ptr 12 0] [some (.ro ax), some (.ro bx), some (.ro dx), some (.cells [.int .i64 wi, .slo 4 0 nl 0] none), some (.cells ls (some 3)), some (.cells [.int .i64 sa, .int .i64 sb, .int .i64 sc, .int .i64 sd, .int .u64 se, .slo 6 0 nw 0, .slo 7 0 nl 0, .int .u64 N, .slo 8 0 ns 0, .int .i64 C] none), some (.cells ws (some 1)), some (.cells ls (some 3)), some (.cells ss (some 1)), some (.cells ls (some 3)), some (.cells [.int .i64 wi, .slo 9 0 nl 0] none), some (.cells (xcut ws 0 (xmul nw 1)) (some 1)), some (.cells [.int .i64 sa, .int .i64 sb, .int .i64 sc, .int .i64 sd, .int .u64 se, .slo 11 0 nw 0, .nils, .int .u64 N, .nils, .int .i64 C] none)] []
     else False
     else False
     else False
     else False
     else False
     else False
     else False
     else False
     else False
     else False
     else False
     else False
     else False
     else False
     else False
     else False
     else False
     else False
     else False
     else False
     else False
     else False
     else False
     else False
     else False
     else False
     else False
     else False
     else False
     else False
     else False
     else False
     else False
     else False
     else False
     else False
     else False
     else False
     else False
     else False
     else False
     else False
     else False
     else False
     else False
     else False
     else False
     else False)
    else (
     bif xle ns 1000000 then
     bif xcm .eql sa sa then
     bif xcm .eql sb sb then
     bif xcm .eql sc sc then
     bif xcm .eql sd sd then
     bif xcm .eql se se then
     bif xcm .eql sa sa then
     bif xcm .eql sb sb then
     bif xcm .eql sc sc then
     bif xcm .eql sd sd then
     bif xcm .eql se se then
     bif xcm .eql sa sa then
     bif xcm .eql sb sb then
     bif xcm .eql sc sc then
     bif xcm .eql sd sd then
     bif xcm .eql se se then
     bif xcm .eql sa sa then
     bif xcm .eql sb sb then
     bif xcm .eql sc sc then
     bif xcm .eql sd sd then
     bif xcm .eql se se then
     bif xcm .eql sa sa then
     bif xcm .eql sb sb then
     bif xcm .eql sc sc then
     bif xcm .eql sd sd then
     bif xcm .eql se se then
     bif xcm .eql sa sa then
     bif xcm .eql sb sb then
     bif xcm .eql sc sc then
     bif xcm .eql sd sd then
     bif xcm .eql se se then
     bif xeq nl nl then
     bif xeq nl nl then
     bif xcm .eql N N then
     bif xcm .eql N N then
     bif xcm .eql N N then
     bif xcm .eql N N then
     bif xcm .eql N N then
     bif xcm .eql N N then
     bif xeq ns ns then
     bif xeq ns ns then
     bif xeq ns ns then
     bif xeq ns ns then
     bif xcm .eql C C then
     bif xcm .eql C C then
     bif xcm .eql C C then
     bif xcm .eql C C then
     bif xcm .eql C C then
     bif xcm .eql C C then
     K .normal [.any, .any, .slo 0 0 na 0, .slo 1 0 nb 0, .slo 2 0 nc 0, .any, .ptr 3 0, .ptr 5 0, .ptr 10 0, .ptr 13 0] [some (.ro ax), some (.ro bx), some (.ro dx), some (.cells [.int .i64 wi, .slo 4 0 nl 0] none), some (.cells ls (some 3)), some (.cells [.int .i64 sa, .int .i64 sb, .int .i64 sc, .int .i64 sd, .int .u64 se, .slo 6 0 nw 0, .slo 7 0 nl 0, .int .u64 N, .slo 8 0 ns 0, .int .i64 C] none), some (.cells ws (some 1)), some (.cells ls (some 3)), some (.cells ss (some 1)), some (.cells ls (some 3)), some (.cells [.int .i64 wi, .slo 9 0 nl 0] none), some (.cells (xcut ws 0 (xmul nw 1)) (some 1)), some (.cells (xcut ss 0 (xmul ns 1)) (some 1)), some (.cells [.int .i64 sa, .int .i64 sb, .int .i64 sc, .int .i64 sd, .int .u64 se, .slo 11 0 nw 0, .nils, .int .u64 N, .slo 12 0 ns 0, .int .i64 C] none)] []
     else False
     else False
     else False
     else False
     else False
     else False
     else False
     else False
     else False
     else False
     else False
     else False
     else False
     else False
     else False
     else False
     else False
     else False
     else False
     else False
     else False
     else False
     else False
     else False
     else False
     else False
     else False
     else False
     else False
     else False
     else False
     else False
     else False
     else False
     else False
     else False
     else False
     else False
     else False
     else False
     else False
     else False
     else False
     else False
     else False
     else False
     else False
     else False
     else False)
    else False)
   else (
    bif xle nl 1000000 then
    bif xle (xadd 0 (xmul ns 1)) (xln ss) then
    bif xz ns then (
     bif xcm .eql sa sa then
     bif xcm .eql sb sb then
     bif xcm .eql sc sc then
     bif xcm .eql sd sd then
     bif xcm .eql se se then
     bif xcm .eql sa sa then
     bif xcm .eql sb sb then
     bif xcm .eql sc sc then
     bif xcm .eql sd sd then
     bif xcm .eql se se then
     bif xcm .eql sa sa then
     bif xcm .eql sb sb then
     bif xcm .eql sc sc then
     bif xcm .eql sd sd then
     bif xcm .eql se se then
     bif xcm .eql sa sa then
     bif xcm .eql sb sb then
     bif xcm .eql sc sc then
     bif xcm .eql sd sd then
     bif xcm .eql se se then
     bif xcm .eql sa sa then
     bif xcm .eql sb sb then
     bif xcm .eql sc sc then
     bif xcm .eql sd sd then
     bif xcm .eql se se then
     bif xcm .eql sa sa then
     bif xcm .eql sb sb then
     bif xcm .eql sc sc then
     bif xcm .eql sd sd then
     bif xcm .eql se se then
     bif xeq nl nl then
     bif xeq nl nl then
     bif xcm .eql N N then
     bif xcm .eql N N then
     bif xcm .eql N N then
     bif xcm .eql N N then
     bif xcm .eql N N then
     bif xcm .eql N N then
     bif xeq ns ns then
     bif xeq ns ns then
     bif xeq ns ns then
     bif xeq ns ns then
     bif xcm .eql C C then
     bif xcm .eql C C then
     bif xcm .eql C C then
     bif xcm .eql C C then
     bif xcm .eql C C then
     bif xcm .eql C C then
     K .normal [.any, .any, .slo 0 0 na 0, .slo 1 0 nb 0, .slo 2 0 nc 0, .any, .ptr 3 0, .ptr 5 0, .ptr 10 0, .ptr 13 0] [some (.ro ax), some (.ro bx), some (.ro dx), some (.cells [.int .i64 wi, .slo 4 0 nl 0] none), some (.cells ls (some 3)), some (.cells [.int .i64 sa, .int .i64 sb, .int .i64 sc, .int .i64 sd, .int .u64 se, .slo 6 0 nw 0, .slo 7 0 nl 0, .int .u64 N, .slo 8 0 ns 0, .int .i64 C] none), some (.cells ws (some 1)), some (.cells ls (some 3)), some (.cells ss (some 1)), some (.cells ls (some 3)), some (.cells [.int .i64 wi, .slo 9 0 nl 0] none), some (.cells (xcut ws 0 (xmul nw 1)) (some 1)), some (.cells (xcut ls 0 (xmul nl 3)) (some 3)), some (.cells [.int .i64 sa, .int .i64 sb, .int .i64 sc, .int .i64 sd, .int .u64 se, .slo 11 0 nw 0, .slo 12 0 nl 0, .int .u64 N, .nils, .int .i64 C] none)] []
     else False
     else False
     else False
     else False
     else False
     else False
     else False
     else False
     else False
     else False
     else False
     else False
     else False
     else False
     else False
     else False
     else False
     else False
     else False
     else False
     else False
     else False
     else False
     else False
     else False
     else False
     else False
     else False
     else False
     else False
     else False
     else False
     else False
     else False
     else False
     else False
     else False
     else False
     else False
     else False
     else False
     else False
     else False
     else False
     else False
     else False
     else False
     else False)
    else (
     bif xle ns 1000000 then
     bif xcm .eql sa sa then
     bif xcm .eql sb sb then
     bif xcm .eql sc sc then
     bif xcm .eql sd sd then
     bif xcm .eql se se then
     bif xcm .eql sa sa then
     bif xcm .eql sb sb then
     bif xcm .eql sc sc then
     bif xcm .eql sd sd then
     bif xcm .eql se se then
     bif xcm .eql sa sa then
     bif xcm .eql sb sb then
     bif xcm .eql sc sc then
     bif xcm .eql sd sd then
     bif xcm .eql se se then
     bif xcm .eql sa sa then
     bif xcm .eql sb sb then
     bif xcm .eql sc sc then
     bif xcm .eql sd sd then
     bif xcm .eql se se then
     bif xcm .eql sa sa then
     bif xcm .eql sb sb then
     bif xcm .eql sc sc then
     bif xcm .eql sd sd then
     bif xcm .eql se se then
     bif xcm .eql sa sa then
     bif xcm .eql sb sb then
     bif xcm .eql sc sc then
     bif xcm .eql sd sd then
     bif xcm .eql se se then
     bif xeq nl nl then
     bif xeq nl nl then
     bif xcm .eql N N then
     bif xcm .eql N N then
     bif xcm .eql N N then
     bif xcm .eql N N then
     bif xcm .eql N N then
     bif xcm .eql N N then
     bif xeq ns ns then
     bif xeq ns ns then
     bif xeq ns ns then
     bif xeq ns ns then
     bif xcm .eql C C then
     bif xcm .eql C C then
     bif xcm .eql C C then
     bif xcm .eql C C then
     bif xcm .eql C C then
     bif xcm .eql C C then
     K .normal [.any, .any, .slo 0 0 na 0, .slo 1 0 nb 0, .slo 2 0 nc 0, .any, .ptr 3 0, .ptr 5 0, .ptr 10 0, .ptr 14 0] [some (.ro ax), some (.ro bx), some (.ro dx), some (.cells [.int .i64 wi, .slo 4 0 nl 0] none), some (.cells ls (some 3)), some (.cells [.int .i64 sa, .int .i64 sb, .int .i64 sc, .int .i64 sd, .int .u64 se, .slo 6 0 nw 0, .slo 7 0 nl 0, .int .u64 N, .slo 8 0 ns 0, .int .i64 C] none), some (.cells ws (some 1)), some (.cells ls (some 3)), some (.cells ss (some 1)), some (.cells ls (some 3)), some (.cells [.int .i64 wi, .slo 9 0 nl 0] none), some (.cells (xcut ws 0 (xmul nw 1)) (some 1)), some (.cells (xcut ls 0 (xmul nl 3)) (some 3)), some (.cells (xcut ss 0 (xmul ns 1)) (some 1)), some (.cells [.int .i64 sa, .int .i64 sb, .int .i64 sc, .int .i64 sd, .int .u64 se, .slo 11 0 nw 0, .slo 12 0 nl 0, .int .u64 N, .slo 13 0 ns 0, .int .i64 C] none)] []
     else False
     else False
     else False
     else False
     else False
     else False
     else False
     else False
     else False
     else False
     else False
     else False
     else False
     else False
     else False
     else False
     else False
     else False
     else False
     else False
     else False
     else False
     else False
     else False
     else False
     else False
     else False
     else False
     else False
     else False
     else False
     else False
     else False
     else False
     else False
     else False
     else False
     else False
     else False
     else False
     else False
     else False
     else False
     else False
     else False
     else False
     else False
     else False
     else False)
    else False
    else False)
   else False
   else False)
  else False
  else False
  else False
  else False
  else False
  else False) := by kernel_rfl
theorem sc_z (nb nc : Nat) (sa sb sc sd se N C wi : Int) (nw nl ns : Nat) (ws ls ss ax bx dx : List LV) (K : Pk) : (xsp Go.Proofs.Try.prog cxp 40 63 ((sp Go.Proofs.Try.prog 8).drop 7) (mkTm 63 (scU nb nc)) (mkS (scI sa sb sc sd se N C wi nw nl ns ws ls ss ax bx dx)) (vK scL K)) = (
  bif okIu64 ws nw then
  bif okL ls nl then
  bif okIu64 ss ns then
  bif xle nw 1000000 then
  bif xle nl 1000 then
  bif xle ns 1000000 then
  bif xeq nl nl then
  bif eqLs ls ls then
  bif okR bx nb then
  bif okIu64 ws nw then
  bif okL ls nl then
  bif okIu64 ss ns then
  bif xle nw 1000000 then
  bif xle nl 1000 then
  bif xle ns 1000000 then
  bif xeq nl nl then
  bif eqLs ls ls then
  bif okR dx nc then
  bif okIu64 ws nw then
  bif okL (iL nb nl bx ls C) nl then
  bif okIu64 ss ns then
  bif xeq nl nl then
  bif eqLs (iL nb nl bx ls C) (iL nb nl bx ls C) then
  bif xle nl 1000 then
  bif xcm .neq (xmn (xmx wi 1) 16) 0 then
  bif xcm .neq (xmn (xmx (↑nl) 1) 16) 0 then
  bif xcm .neq (xmn (xmx wi 1) 16) 0 then
  bif xcm .neq (xmn (xmx (↑nl) 1) 16) 0 then
  K .ret [.any, .any, .any, .slo 1 0 nb 0, .slo 2 0 nc 0, .bool (xcm .eql (xar .rem .i64 (xar .quo .i64 7 (xmn (xmx wi 1) 16)) (xmn (xmx (↑nl) 1) 16)) (xar .rem .i64 (xar .quo .i64 7 (xmn (xmx wi 1) 16)) (xmn (xmx (↑nl) 1) 16))), .ptr 3 0, .ptr 5 0, .ptr 9 0, .ptr 11 0] [some (.ro ax), some (.ro bx), some (.ro dx), some (.cells [.int .i64 wi, .slo 4 0 nl 0] none), some (.cells (iL nc nl dx ls C) (some 3)), some (.cells [.int .i64 sa, .int .i64 sb, .int .i64 sc, .int .i64 sd, .int .u64 se, .slo 6 0 nw 0, .slo 7 0 nl 0, .int .u64 N, .slo 8 0 ns 0, .int .i64 (iC nc nl dx ls C)] none), some (.cells ws (some 1)), some (.cells (iL nc nl dx ls C) (some 3)), some (.cells ss (some 1)), some (.cells [.int .i64 wi, .slo 10 0 nl 0] none), some (.cells (iL nb nl bx ls C) (some 3)), some (.cells [.int .i64 sa, .int .i64 sb, .int .i64 sc, .int .i64 sd, .int .u64 se, .slo 12 0 nw 0, .slo 13 0 nl 0, .int .u64 N, .slo 14 0 ns 0, .int .i64 (iC nb nl bx ls C)] none), some (.cells ws (some 1)), some (.cells (iL nb nl bx ls C) (some 3)), some (.cells ss (some 1))] []
  else False
  else False
  else False
  else False
  else False
  else False
  else False
  else False
  else False
  else False
  else False
  else False
  else False
  else False
  else False
  else False
  else False
  else False
  else False
  else False
  else False
  else False
  else False
  else False
  else False
  else False
  else False
  else False) := by kernel_rfl
end
end Go.Lev
