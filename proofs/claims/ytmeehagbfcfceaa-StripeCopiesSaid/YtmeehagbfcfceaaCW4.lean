/- chapter 3: the table's operations as contracts; lockOf; Held -/
import Derived.Test.YtmeehagbfcfceaaCW3
import Derived.Test.YtmeehagbfcfceaaLc
import Derived.Test.YtmeehagbfcfceaaChecked
import Derived.KernelRfl

namespace Go.Lev
open Go.RowKit
set_option linter.unusedVariables false
set_option linter.unusedSimpArgs false
set_option maxRecDepth 100000
noncomputable section
def tldG : Gc := fun args s => match args, s.g with
  | [.ptr b 0, .int .i64 a], [] => (match s.h.get b with
    | some (.cells [.int .i64 wi, .slo b1 0 nl 0] none) => (match s.h.get b1 with
      | some (.cells ls (some 3)) => cond (nodupB [b, b1]) (match s.lay [b, b1] [.cells [.int .i64 wi, .slo b1 0 nl 0] none, .cells ls (some 3)] [] with
        | some s' => some ([okL ls nl], .tup [.agg [.int .u64 (vV ls nl a), .bool (vH ls nl a), .int .i64 (vO ls nl a)], .int .i64 (vE nl a)], s')
        | none => none) none
      | _ => none)
    | _ => none)
  | _, _ => none
theorem tldG_ok : GOk Go.Proofs.Try.prog 11 tldG := by
  intro args s bs l s' hg hb hfr
  unfold tldG at hg
  split at hg
  · rename_i b a hgl
    split at hg
    · rename_i wi b1 nl hb0
      split at hg
      · rename_i ls hb1
        cases hbc : nodupB [b, b1] with
        | false => rw [hbc] at hg; cases hg
        | true =>
          rw [hbc] at hg
          simp only [cond_true] at hg
          split at hg
          · rename_i s1 hs1
            simp only [Option.some.injEq, Prod.mk.injEq] at hg
            obtain ⟨rfl, rfl, rfl⟩ := hg
            obtain ⟨L, rfl, rfl, h2⟩ := okL_iff.1 (allT_cons.1 hb).1
            have n2 := noids_l L
            have n4 : noIds (encL cL L) = true := n2
            refine SFun.lay (bs := tS wi L.length (encL cL L)) (args0 := [.ptr 0 0, .int .i64 a]) (bs' := tS wi L.length (encL cL L)) (v0 := .tup [.agg [.int .u64 (vV (encL cL L) L.length a), .bool (vH (encL cL L) L.length a), .int .i64 (vO (encL cL L) L.length a)], .int .i64 (vE L.length a)]) hfr hs1 (nodupB_ok hbc)
              ⟨⟨there hfr hb0, _, hb0, by (first | exact lb_dead | exact lb_same (by (first | assumption | exact noIds_tab (fun _ => rfl) _ _ | exact noIds_encL (fun _ => rfl) _ | rfl)) | exact lb_ro (by (first | assumption | exact noIds_tab (fun _ => rfl) _ _ | exact noIds_encL (fun _ => rfl) _ | rfl)) | exact lb_none | exact lb_cells (by ((repeat refine lws_cons (by (first | exact lw_any | exact lw_int | exact lw_bool | exact lw_ptr rfl | exact lw_slo rfl | exact lw_nilp | exact lw_nils | exact lw_str | exact lw_slo_nils | exact lw_slo_sle | exact lw_sl rfl | exact lw_unb | exact lw_gptr | exact lw_noid rfl | exact lw_cap rfl (Nat.le_refl _) | exact lw_cap rfl (by omega) | assumption | exact lw_tup (by ((repeat refine lws_cons (by (first | exact lw_any | exact lw_int | exact lw_bool | exact lw_ptr rfl | exact lw_slo rfl | exact lw_nilp | exact lw_nils | exact lw_str | exact lw_slo_nils | exact lw_slo_sle | exact lw_sl rfl | exact lw_unb | exact lw_gptr | exact lw_noid rfl | exact lw_cap rfl (Nat.le_refl _) | exact lw_cap rfl (by omega) | assumption)) ?_); exact lws_nil)))) ?_); exact lws_nil)) (by simp) | exact lb_iter | exact lb_cap (Nat.le_refl _) (Nat.le_refl _) rfl rfl | exact lb_capn (by assumption) (by (first | assumption | exact noIds_tab (fun _ => rfl) _ _ | exact noIds_encL (fun _ => rfl) _ | rfl)) | assumption), fun κ hκ => lb_cells (lws_cons lw_int (lws_cons (lw_slo (hκ 1 b1 rfl)) lws_nil)) (by simp)⟩, ⟨there hfr hb1, _, hb1, by (first | exact lb_dead | exact lb_same (by (first | assumption | exact noIds_tab (fun _ => rfl) _ _ | exact noIds_encL (fun _ => rfl) _ | rfl)) | exact lb_ro (by (first | assumption | exact noIds_tab (fun _ => rfl) _ _ | exact noIds_encL (fun _ => rfl) _ | rfl)) | exact lb_none | exact lb_cells (by ((repeat refine lws_cons (by (first | exact lw_any | exact lw_int | exact lw_bool | exact lw_ptr rfl | exact lw_slo rfl | exact lw_nilp | exact lw_nils | exact lw_str | exact lw_slo_nils | exact lw_slo_sle | exact lw_sl rfl | exact lw_unb | exact lw_gptr | exact lw_noid rfl | exact lw_cap rfl (Nat.le_refl _) | exact lw_cap rfl (by omega) | assumption | exact lw_tup (by ((repeat refine lws_cons (by (first | exact lw_any | exact lw_int | exact lw_bool | exact lw_ptr rfl | exact lw_slo rfl | exact lw_nilp | exact lw_nils | exact lw_str | exact lw_slo_nils | exact lw_slo_sle | exact lw_sl rfl | exact lw_unb | exact lw_gptr | exact lw_noid rfl | exact lw_cap rfl (Nat.le_refl _) | exact lw_cap rfl (by omega) | assumption)) ?_); exact lws_nil)))) ?_); exact lws_nil)) (by simp) | exact lb_iter | exact lb_cap (Nat.le_refl _) (Nat.le_refl _) rfl rfl | exact lb_capn (by assumption) (by (first | assumption | exact noIds_tab (fun _ => rfl) _ _ | exact noIds_encL (fun _ => rfl) _ | rfl)) | assumption), fun κ hκ => by (first | exact lb_dead | exact lb_same (by (first | assumption | exact noIds_tab (fun _ => rfl) _ _ | exact noIds_encL (fun _ => rfl) _ | rfl)) | exact lb_ro (by (first | assumption | exact noIds_tab (fun _ => rfl) _ _ | exact noIds_encL (fun _ => rfl) _ | rfl)) | exact lb_none | exact lb_cells (by ((repeat refine lws_cons (by (first | exact lw_any | exact lw_int | exact lw_bool | exact lw_ptr rfl | exact lw_slo rfl | exact lw_nilp | exact lw_nils | exact lw_str | exact lw_slo_nils | exact lw_slo_sle | exact lw_sl rfl | exact lw_unb | exact lw_gptr | exact lw_noid rfl | exact lw_cap rfl (Nat.le_refl _) | exact lw_cap rfl (by omega) | assumption | exact lw_tup (by ((repeat refine lws_cons (by (first | exact lw_any | exact lw_int | exact lw_bool | exact lw_ptr rfl | exact lw_slo rfl | exact lw_nilp | exact lw_nils | exact lw_str | exact lw_slo_nils | exact lw_slo_sle | exact lw_sl rfl | exact lw_unb | exact lw_gptr | exact lw_noid rfl | exact lw_cap rfl (Nat.le_refl _) | exact lw_cap rfl (by omega) | assumption)) ?_); exact lws_nil)))) ?_); exact lws_nil)) (by simp) | exact lb_iter | exact lb_cap (Nat.le_refl _) (Nat.le_refl _) rfl rfl | exact lb_capn (by assumption) (by (first | assumption | exact noIds_tab (fun _ => rfl) _ _ | exact noIds_encL (fun _ => rfl) _ | rfl)) | assumption)⟩, trivial⟩ (by ((repeat refine lws_cons (by (first | exact lw_any | exact lw_int | exact lw_bool | exact lw_ptr rfl | exact lw_slo rfl | exact lw_nilp | exact lw_nils | exact lw_str | exact lw_slo_nils | exact lw_slo_sle | exact lw_sl rfl | exact lw_unb | exact lw_gptr | exact lw_noid rfl | exact lw_cap rfl (Nat.le_refl _) | exact lw_cap rfl (by omega) | assumption | exact lw_tup (by ((repeat refine lws_cons (by (first | exact lw_any | exact lw_int | exact lw_bool | exact lw_ptr rfl | exact lw_slo rfl | exact lw_nilp | exact lw_nils | exact lw_str | exact lw_slo_nils | exact lw_slo_sle | exact lw_sl rfl | exact lw_unb | exact lw_gptr | exact lw_noid rfl | exact lw_cap rfl (Nat.le_refl _) | exact lw_cap rfl (by omega) | assumption)) ?_); exact lws_nil)))) ?_); exact lws_nil)) ?_
              fun κ h1 h2 => ⟨⟨lb_cells (lws_cons lw_int (lws_cons (lw_slo (h1 1 b1 rfl)) lws_nil)) (by simp), lb_same n4, trivial⟩, lw_noid rfl⟩
            rw [hgl]
            exact tld_ok a wi L h2
          · cases hg
      · cases hg
    · cases hg
  · cases hg
def tstG : Gc := fun args s => match args, s.g with
  | [.ptr b 0, .int .i64 a, .agg [.int .u64 lv, .bool lh, .int .i64 lo]], [] => (match s.h.get b with
    | some (.cells [.int .i64 wi, .slo b1 0 nl 0] none) => (match s.h.get b1 with
      | some (.cells ls (some 3)) => cond (nodupB [b, b1]) (match s.lay [b, b1] [.cells [.int .i64 wi, .slo b1 0 nl 0] none, .cells (vS ls nl a lv lh lo) (some 3)] [] with
        | some s' => some ([okL ls nl], .int .i64 (vQ nl a lv lh lo), s')
        | none => none) none
      | _ => none)
    | _ => none)
  | _, _ => none
theorem tstG_ok : GOk Go.Proofs.Try.prog 29 tstG := by
  intro args s bs l s' hg hb hfr
  unfold tstG at hg
  split at hg
  · rename_i b a lv lh lo hgl
    split at hg
    · rename_i wi b1 nl hb0
      split at hg
      · rename_i ls hb1
        cases hbc : nodupB [b, b1] with
        | false => rw [hbc] at hg; cases hg
        | true =>
          rw [hbc] at hg
          simp only [cond_true] at hg
          split at hg
          · rename_i s1 hs1
            simp only [Option.some.injEq, Prod.mk.injEq] at hg
            obtain ⟨rfl, rfl, rfl⟩ := hg
            obtain ⟨L, rfl, rfl, h2⟩ := okL_iff.1 (allT_cons.1 hb).1
            have n2 := noids_l L
            have n4 : noIds (vS (encL cL L) L.length a lv lh lo) = true := noids_vS _ _ _ _ _
            refine SFun.lay (bs := tS wi L.length (encL cL L)) (args0 := [.ptr 0 0, .int .i64 a, .agg [.int .u64 lv, .bool lh, .int .i64 lo]]) (bs' := tS wi L.length (vS (encL cL L) L.length a lv lh lo)) (v0 := .int .i64 (vQ L.length a lv lh lo)) hfr hs1 (nodupB_ok hbc)
              ⟨⟨there hfr hb0, _, hb0, by (first | exact lb_dead | exact lb_same (by (first | assumption | exact noIds_tab (fun _ => rfl) _ _ | exact noIds_encL (fun _ => rfl) _ | rfl)) | exact lb_ro (by (first | assumption | exact noIds_tab (fun _ => rfl) _ _ | exact noIds_encL (fun _ => rfl) _ | rfl)) | exact lb_none | exact lb_cells (by ((repeat refine lws_cons (by (first | exact lw_any | exact lw_int | exact lw_bool | exact lw_ptr rfl | exact lw_slo rfl | exact lw_nilp | exact lw_nils | exact lw_str | exact lw_slo_nils | exact lw_slo_sle | exact lw_sl rfl | exact lw_unb | exact lw_gptr | exact lw_noid rfl | exact lw_cap rfl (Nat.le_refl _) | exact lw_cap rfl (by omega) | assumption | exact lw_tup (by ((repeat refine lws_cons (by (first | exact lw_any | exact lw_int | exact lw_bool | exact lw_ptr rfl | exact lw_slo rfl | exact lw_nilp | exact lw_nils | exact lw_str | exact lw_slo_nils | exact lw_slo_sle | exact lw_sl rfl | exact lw_unb | exact lw_gptr | exact lw_noid rfl | exact lw_cap rfl (Nat.le_refl _) | exact lw_cap rfl (by omega) | assumption)) ?_); exact lws_nil)))) ?_); exact lws_nil)) (by simp) | exact lb_iter | exact lb_cap (Nat.le_refl _) (Nat.le_refl _) rfl rfl | exact lb_capn (by assumption) (by (first | assumption | exact noIds_tab (fun _ => rfl) _ _ | exact noIds_encL (fun _ => rfl) _ | rfl)) | assumption), fun κ hκ => lb_cells (lws_cons lw_int (lws_cons (lw_slo (hκ 1 b1 rfl)) lws_nil)) (by simp)⟩, ⟨there hfr hb1, _, hb1, by (first | exact lb_dead | exact lb_same (by (first | assumption | exact noIds_tab (fun _ => rfl) _ _ | exact noIds_encL (fun _ => rfl) _ | rfl)) | exact lb_ro (by (first | assumption | exact noIds_tab (fun _ => rfl) _ _ | exact noIds_encL (fun _ => rfl) _ | rfl)) | exact lb_none | exact lb_cells (by ((repeat refine lws_cons (by (first | exact lw_any | exact lw_int | exact lw_bool | exact lw_ptr rfl | exact lw_slo rfl | exact lw_nilp | exact lw_nils | exact lw_str | exact lw_slo_nils | exact lw_slo_sle | exact lw_sl rfl | exact lw_unb | exact lw_gptr | exact lw_noid rfl | exact lw_cap rfl (Nat.le_refl _) | exact lw_cap rfl (by omega) | assumption | exact lw_tup (by ((repeat refine lws_cons (by (first | exact lw_any | exact lw_int | exact lw_bool | exact lw_ptr rfl | exact lw_slo rfl | exact lw_nilp | exact lw_nils | exact lw_str | exact lw_slo_nils | exact lw_slo_sle | exact lw_sl rfl | exact lw_unb | exact lw_gptr | exact lw_noid rfl | exact lw_cap rfl (Nat.le_refl _) | exact lw_cap rfl (by omega) | assumption)) ?_); exact lws_nil)))) ?_); exact lws_nil)) (by simp) | exact lb_iter | exact lb_cap (Nat.le_refl _) (Nat.le_refl _) rfl rfl | exact lb_capn (by assumption) (by (first | assumption | exact noIds_tab (fun _ => rfl) _ _ | exact noIds_encL (fun _ => rfl) _ | rfl)) | assumption), fun κ hκ => by (first | exact lb_dead | exact lb_same (by (first | assumption | exact noIds_tab (fun _ => rfl) _ _ | exact noIds_encL (fun _ => rfl) _ | rfl)) | exact lb_ro (by (first | assumption | exact noIds_tab (fun _ => rfl) _ _ | exact noIds_encL (fun _ => rfl) _ | rfl)) | exact lb_none | exact lb_cells (by ((repeat refine lws_cons (by (first | exact lw_any | exact lw_int | exact lw_bool | exact lw_ptr rfl | exact lw_slo rfl | exact lw_nilp | exact lw_nils | exact lw_str | exact lw_slo_nils | exact lw_slo_sle | exact lw_sl rfl | exact lw_unb | exact lw_gptr | exact lw_noid rfl | exact lw_cap rfl (Nat.le_refl _) | exact lw_cap rfl (by omega) | assumption | exact lw_tup (by ((repeat refine lws_cons (by (first | exact lw_any | exact lw_int | exact lw_bool | exact lw_ptr rfl | exact lw_slo rfl | exact lw_nilp | exact lw_nils | exact lw_str | exact lw_slo_nils | exact lw_slo_sle | exact lw_sl rfl | exact lw_unb | exact lw_gptr | exact lw_noid rfl | exact lw_cap rfl (Nat.le_refl _) | exact lw_cap rfl (by omega) | assumption)) ?_); exact lws_nil)))) ?_); exact lws_nil)) (by simp) | exact lb_iter | exact lb_cap (Nat.le_refl _) (Nat.le_refl _) rfl rfl | exact lb_capn (by assumption) (by (first | assumption | exact noIds_tab (fun _ => rfl) _ _ | exact noIds_encL (fun _ => rfl) _ | rfl)) | assumption)⟩, trivial⟩ (by ((repeat refine lws_cons (by (first | exact lw_any | exact lw_int | exact lw_bool | exact lw_ptr rfl | exact lw_slo rfl | exact lw_nilp | exact lw_nils | exact lw_str | exact lw_slo_nils | exact lw_slo_sle | exact lw_sl rfl | exact lw_unb | exact lw_gptr | exact lw_noid rfl | exact lw_cap rfl (Nat.le_refl _) | exact lw_cap rfl (by omega) | assumption | exact lw_tup (by ((repeat refine lws_cons (by (first | exact lw_any | exact lw_int | exact lw_bool | exact lw_ptr rfl | exact lw_slo rfl | exact lw_nilp | exact lw_nils | exact lw_str | exact lw_slo_nils | exact lw_slo_sle | exact lw_sl rfl | exact lw_unb | exact lw_gptr | exact lw_noid rfl | exact lw_cap rfl (Nat.le_refl _) | exact lw_cap rfl (by omega) | assumption)) ?_); exact lws_nil)))) ?_); exact lws_nil)) ?_
              fun κ h1 h2 => ⟨⟨lb_cells (lws_cons lw_int (lws_cons (lw_slo (h1 1 b1 rfl)) lws_nil)) (by simp), lb_same n4, trivial⟩, lw_noid rfl⟩
            rw [hgl]
            exact tst_ok a lv lh lo wi L h2
          · cases hg
      · cases hg
    · cases hg
  · cases hg
def tcsG : Gc := fun args s => match args, s.g with
  | [.ptr b 0, .int .i64 a, .agg [.int .u64 wv, .bool wh, .int .i64 wo], .agg [.int .u64 lv, .bool lh, .int .i64 lo]], [] => (match s.h.get b with
    | some (.cells [.int .i64 wi, .slo b1 0 nl 0] none) => (match s.h.get b1 with
      | some (.cells ls (some 3)) => cond (nodupB [b, b1]) (match s.lay [b, b1] [.cells [.int .i64 wi, .slo b1 0 nl 0] none, .cells (vX ls nl a wv wh wo lv lh lo) (some 3)] [] with
        | some s' => some ([okL ls nl], .tup [.bool (vD ls nl a wv wh wo lv lh lo), .int .i64 (vQ nl a lv lh lo)], s')
        | none => none) none
      | _ => none)
    | _ => none)
  | _, _ => none
theorem tcsG_ok : GOk Go.Proofs.Try.prog 10 tcsG := by
  intro args s bs l s' hg hb hfr
  unfold tcsG at hg
  split at hg
  · rename_i b a wv wh wo lv lh lo hgl
    split at hg
    · rename_i wi b1 nl hb0
      split at hg
      · rename_i ls hb1
        cases hbc : nodupB [b, b1] with
        | false => rw [hbc] at hg; cases hg
        | true =>
          rw [hbc] at hg
          simp only [cond_true] at hg
          split at hg
          · rename_i s1 hs1
            simp only [Option.some.injEq, Prod.mk.injEq] at hg
            obtain ⟨rfl, rfl, rfl⟩ := hg
            obtain ⟨L, rfl, rfl, h2⟩ := okL_iff.1 (allT_cons.1 hb).1
            have n2 := noids_l L
            have n4 : noIds (vX (encL cL L) L.length a wv wh wo lv lh lo) = true := noids_vX _ _ _ _ _ _ _ _
            refine SFun.lay (bs := tS wi L.length (encL cL L)) (args0 := [.ptr 0 0, .int .i64 a, .agg [.int .u64 wv, .bool wh, .int .i64 wo], .agg [.int .u64 lv, .bool lh, .int .i64 lo]]) (bs' := tS wi L.length (vX (encL cL L) L.length a wv wh wo lv lh lo)) (v0 := .tup [.bool (vD (encL cL L) L.length a wv wh wo lv lh lo), .int .i64 (vQ L.length a lv lh lo)]) hfr hs1 (nodupB_ok hbc)
              ⟨⟨there hfr hb0, _, hb0, by (first | exact lb_dead | exact lb_same (by (first | assumption | exact noIds_tab (fun _ => rfl) _ _ | exact noIds_encL (fun _ => rfl) _ | rfl)) | exact lb_ro (by (first | assumption | exact noIds_tab (fun _ => rfl) _ _ | exact noIds_encL (fun _ => rfl) _ | rfl)) | exact lb_none | exact lb_cells (by ((repeat refine lws_cons (by (first | exact lw_any | exact lw_int | exact lw_bool | exact lw_ptr rfl | exact lw_slo rfl | exact lw_nilp | exact lw_nils | exact lw_str | exact lw_slo_nils | exact lw_slo_sle | exact lw_sl rfl | exact lw_unb | exact lw_gptr | exact lw_noid rfl | exact lw_cap rfl (Nat.le_refl _) | exact lw_cap rfl (by omega) | assumption | exact lw_tup (by ((repeat refine lws_cons (by (first | exact lw_any | exact lw_int | exact lw_bool | exact lw_ptr rfl | exact lw_slo rfl | exact lw_nilp | exact lw_nils | exact lw_str | exact lw_slo_nils | exact lw_slo_sle | exact lw_sl rfl | exact lw_unb | exact lw_gptr | exact lw_noid rfl | exact lw_cap rfl (Nat.le_refl _) | exact lw_cap rfl (by omega) | assumption)) ?_); exact lws_nil)))) ?_); exact lws_nil)) (by simp) | exact lb_iter | exact lb_cap (Nat.le_refl _) (Nat.le_refl _) rfl rfl | exact lb_capn (by assumption) (by (first | assumption | exact noIds_tab (fun _ => rfl) _ _ | exact noIds_encL (fun _ => rfl) _ | rfl)) | assumption), fun κ hκ => lb_cells (lws_cons lw_int (lws_cons (lw_slo (hκ 1 b1 rfl)) lws_nil)) (by simp)⟩, ⟨there hfr hb1, _, hb1, by (first | exact lb_dead | exact lb_same (by (first | assumption | exact noIds_tab (fun _ => rfl) _ _ | exact noIds_encL (fun _ => rfl) _ | rfl)) | exact lb_ro (by (first | assumption | exact noIds_tab (fun _ => rfl) _ _ | exact noIds_encL (fun _ => rfl) _ | rfl)) | exact lb_none | exact lb_cells (by ((repeat refine lws_cons (by (first | exact lw_any | exact lw_int | exact lw_bool | exact lw_ptr rfl | exact lw_slo rfl | exact lw_nilp | exact lw_nils | exact lw_str | exact lw_slo_nils | exact lw_slo_sle | exact lw_sl rfl | exact lw_unb | exact lw_gptr | exact lw_noid rfl | exact lw_cap rfl (Nat.le_refl _) | exact lw_cap rfl (by omega) | assumption | exact lw_tup (by ((repeat refine lws_cons (by (first | exact lw_any | exact lw_int | exact lw_bool | exact lw_ptr rfl | exact lw_slo rfl | exact lw_nilp | exact lw_nils | exact lw_str | exact lw_slo_nils | exact lw_slo_sle | exact lw_sl rfl | exact lw_unb | exact lw_gptr | exact lw_noid rfl | exact lw_cap rfl (Nat.le_refl _) | exact lw_cap rfl (by omega) | assumption)) ?_); exact lws_nil)))) ?_); exact lws_nil)) (by simp) | exact lb_iter | exact lb_cap (Nat.le_refl _) (Nat.le_refl _) rfl rfl | exact lb_capn (by assumption) (by (first | assumption | exact noIds_tab (fun _ => rfl) _ _ | exact noIds_encL (fun _ => rfl) _ | rfl)) | assumption), fun κ hκ => by (first | exact lb_dead | exact lb_same (by (first | assumption | exact noIds_tab (fun _ => rfl) _ _ | exact noIds_encL (fun _ => rfl) _ | rfl)) | exact lb_ro (by (first | assumption | exact noIds_tab (fun _ => rfl) _ _ | exact noIds_encL (fun _ => rfl) _ | rfl)) | exact lb_none | exact lb_cells (by ((repeat refine lws_cons (by (first | exact lw_any | exact lw_int | exact lw_bool | exact lw_ptr rfl | exact lw_slo rfl | exact lw_nilp | exact lw_nils | exact lw_str | exact lw_slo_nils | exact lw_slo_sle | exact lw_sl rfl | exact lw_unb | exact lw_gptr | exact lw_noid rfl | exact lw_cap rfl (Nat.le_refl _) | exact lw_cap rfl (by omega) | assumption | exact lw_tup (by ((repeat refine lws_cons (by (first | exact lw_any | exact lw_int | exact lw_bool | exact lw_ptr rfl | exact lw_slo rfl | exact lw_nilp | exact lw_nils | exact lw_str | exact lw_slo_nils | exact lw_slo_sle | exact lw_sl rfl | exact lw_unb | exact lw_gptr | exact lw_noid rfl | exact lw_cap rfl (Nat.le_refl _) | exact lw_cap rfl (by omega) | assumption)) ?_); exact lws_nil)))) ?_); exact lws_nil)) (by simp) | exact lb_iter | exact lb_cap (Nat.le_refl _) (Nat.le_refl _) rfl rfl | exact lb_capn (by assumption) (by (first | assumption | exact noIds_tab (fun _ => rfl) _ _ | exact noIds_encL (fun _ => rfl) _ | rfl)) | assumption)⟩, trivial⟩ (by ((repeat refine lws_cons (by (first | exact lw_any | exact lw_int | exact lw_bool | exact lw_ptr rfl | exact lw_slo rfl | exact lw_nilp | exact lw_nils | exact lw_str | exact lw_slo_nils | exact lw_slo_sle | exact lw_sl rfl | exact lw_unb | exact lw_gptr | exact lw_noid rfl | exact lw_cap rfl (Nat.le_refl _) | exact lw_cap rfl (by omega) | assumption | exact lw_tup (by ((repeat refine lws_cons (by (first | exact lw_any | exact lw_int | exact lw_bool | exact lw_ptr rfl | exact lw_slo rfl | exact lw_nilp | exact lw_nils | exact lw_str | exact lw_slo_nils | exact lw_slo_sle | exact lw_sl rfl | exact lw_unb | exact lw_gptr | exact lw_noid rfl | exact lw_cap rfl (Nat.le_refl _) | exact lw_cap rfl (by omega) | assumption)) ?_); exact lws_nil)))) ?_); exact lws_nil)) ?_
              fun κ h1 h2 => ⟨⟨lb_cells (lws_cons lw_int (lws_cons (lw_slo (h1 1 b1 rfl)) lws_nil)) (by simp), lb_same n4, trivial⟩, lw_noid rfl⟩
            rw [hgl]
            exact tcs_ok a wv wh wo lv lh lo wi L h2
          · cases hg
      · cases hg
    · cases hg
  · cases hg
/-! lockOf -/
theorem lof_x (v : Int) (h : Bool) (o : Int) (raw : Bool) (K : Fk) : (xfun Go.Proofs.Try.prog (fun _ => none) 40 27 [.agg [.int .u64 v, .bool h, .int .i64 o], .bool raw] (mkS []) (vF K)) = (
  bif raw then (
   K (.agg [.int .u64 v, .bool h, .int .i64 o]) [some (.cells [.int .u64 v, .bool h, .int .i64 o] none), some (.cells [.int .u64 v, .bool h, .int .i64 o] none)] [])
  else (
   bif xnot h then (
    K (.agg [.int .u64 (xar .rem .u64 v 20), .bool h, .int .i64 0]) [some (.cells [.int .u64 (xar .rem .u64 v 20), .bool h, .int .i64 0] none), some (.cells [.int .u64 (xar .rem .u64 v 20), .bool h, .int .i64 0] none)] [])
   else (
    K (.agg [.int .u64 (xar .rem .u64 v 20), .bool h, .int .i64 (xwr .i64 (xar .rem .u64 (xwr .u64 o) 4))]) [some (.cells [.int .u64 (xar .rem .u64 v 20), .bool h, .int .i64 (xwr .i64 (xar .rem .u64 (xwr .u64 o) 4))] none), some (.cells [.int .u64 (xar .rem .u64 v 20), .bool h, .int .i64 (xwr .i64 (xar .rem .u64 (xwr .u64 o) 4))] none)] []))) := by kernel_rfl
def lfV (raw : Bool) (v : Int) : Int := if raw then v else xar .rem .u64 v 20

def lfO (raw h : Bool) (o : Int) : Int := if raw then o else if h then xwr .i64 (xar .rem .u64 (xwr .u64 o) 4) else 0

theorem lof_ok (v : Int) (h : Bool) (o : Int) (raw : Bool) : SFun Go.Proofs.Try.prog 27 [.agg [.int .u64 v, .bool h, .int .i64 o], .bool raw] (mkS []) fun l s => l = .agg [.int .u64 (lfV raw v), .bool h, .int .i64 (lfO raw h o)] ∧ s = mkS [] := by
  refine SFun.mono (SFun.vc (Q := fun l b => l = .agg [.int .u64 (lfV raw v), .bool h, .int .i64 (lfO raw h o)] ∧ b = []) noCx_ok (n := 40) 0 rfl ?_) fun l s' ⟨b0, ⟨h1, h2⟩, h3⟩ => ⟨h1, by rw [h3, h2]⟩
  rw [lof_x]
  cases raw with
  | true => rw [cond_true]; exact ⟨rfl, _, _, [], ⟨rfl, rfl⟩, by simp only [lfV, lfO, if_true]; (refine ⟨by kernel_rfl, ?_, ?_⟩ <;> repeat (first | exact okTms_nil | refine okTms_cons ?_ ?_ | exact okBlks_nil | refine okBlks_cons ?_ ?_ | exact lws_nil | refine lws_cons ?_ ?_ | exact lb_dead | exact lb_same (by (first | assumption | exact noIds_encL (fun _ => rfl) _ | exact noIds_tab (fun _ => rfl) _ _ | rfl)) | exact lb_ro (by (first | assumption | exact noIds_encL (fun _ => rfl) _ | exact noIds_tab (fun _ => rfl) _ _ | rfl)) | exact lb_none | refine lb_cells ?_ (by simp) | exact lb_cap (Nat.le_refl _) (Nat.le_refl _) rfl rfl | exact lb_capn (by assumption) (by (first | assumption | exact noIds_encL (fun _ => rfl) _ | exact noIds_tab (fun _ => rfl) _ _ | rfl)) | exact lw_any | exact lw_int | exact lw_bool | exact lw_ptr rfl | exact lw_slo rfl | exact lw_nils | exact lw_slo_nils | exact lw_sl rfl | exact lw_noid rfl | exact lw_cap rfl (Nat.le_refl _) | refine lw_tup ?_ | refine lw_agg ?_ | assumption))⟩
  | false =>
    rw [cond_false]
    cases h with
    | false => rw [wd_not_f, cond_true]; exact ⟨rfl, _, _, [], ⟨rfl, rfl⟩, by simp only [lfV, lfO, Bool.false_eq_true, if_false]; (refine ⟨by kernel_rfl, ?_, ?_⟩ <;> repeat (first | exact okTms_nil | refine okTms_cons ?_ ?_ | exact okBlks_nil | refine okBlks_cons ?_ ?_ | exact lws_nil | refine lws_cons ?_ ?_ | exact lb_dead | exact lb_same (by (first | assumption | exact noIds_encL (fun _ => rfl) _ | exact noIds_tab (fun _ => rfl) _ _ | rfl)) | exact lb_ro (by (first | assumption | exact noIds_encL (fun _ => rfl) _ | exact noIds_tab (fun _ => rfl) _ _ | rfl)) | exact lb_none | refine lb_cells ?_ (by simp) | exact lb_cap (Nat.le_refl _) (Nat.le_refl _) rfl rfl | exact lb_capn (by assumption) (by (first | assumption | exact noIds_encL (fun _ => rfl) _ | exact noIds_tab (fun _ => rfl) _ _ | rfl)) | exact lw_any | exact lw_int | exact lw_bool | exact lw_ptr rfl | exact lw_slo rfl | exact lw_nils | exact lw_slo_nils | exact lw_sl rfl | exact lw_noid rfl | exact lw_cap rfl (Nat.le_refl _) | refine lw_tup ?_ | refine lw_agg ?_ | assumption))⟩
    | true => rw [wd_not_t, cond_false]; exact ⟨rfl, _, _, [], ⟨rfl, rfl⟩, by simp only [lfV, lfO, Bool.false_eq_true, if_false, if_true]; (refine ⟨by kernel_rfl, ?_, ?_⟩ <;> repeat (first | exact okTms_nil | refine okTms_cons ?_ ?_ | exact okBlks_nil | refine okBlks_cons ?_ ?_ | exact lws_nil | refine lws_cons ?_ ?_ | exact lb_dead | exact lb_same (by (first | assumption | exact noIds_encL (fun _ => rfl) _ | exact noIds_tab (fun _ => rfl) _ _ | rfl)) | exact lb_ro (by (first | assumption | exact noIds_encL (fun _ => rfl) _ | exact noIds_tab (fun _ => rfl) _ _ | rfl)) | exact lb_none | refine lb_cells ?_ (by simp) | exact lb_cap (Nat.le_refl _) (Nat.le_refl _) rfl rfl | exact lb_capn (by assumption) (by (first | assumption | exact noIds_encL (fun _ => rfl) _ | exact noIds_tab (fun _ => rfl) _ _ | rfl)) | exact lw_any | exact lw_int | exact lw_bool | exact lw_ptr rfl | exact lw_slo rfl | exact lw_nils | exact lw_slo_nils | exact lw_sl rfl | exact lw_noid rfl | exact lw_cap rfl (Nat.le_refl _) | refine lw_tup ?_ | refine lw_agg ?_ | assumption))⟩
def lofG : Gc := fun args s => match args, s.g with
  | [.agg [.int .u64 v, .bool h, .int .i64 o], .bool raw], [] => some ([], .agg [.int .u64 (lfV raw v), .bool h, .int .i64 (lfO raw h o)], s)
  | _, _ => none
theorem lofG_ok : GOk Go.Proofs.Try.prog 27 lofG := by
  intro args s bs l s' hg hb hfr
  unfold lofG at hg
  split at hg
  · rename_i v h o raw hgl
    simp only [Option.some.injEq, Prod.mk.injEq] at hg
    obtain ⟨rfl, rfl, rfl⟩ := hg
    exact SFun.pure hfr hgl rfl rfl (lof_ok v h o raw)
  · cases hg
end
end Go.Lev
