/- CheckTells: the check as contracts -/
import Derived.Test.YtnpcobjiaimbhaaDoorCW5
import Derived.Test.YtnpcobjiaimbhaaDoorLc
import Derived.Test.YtnpcobjiaimbhaaDoorChecked
import Derived.KernelRfl

namespace Go.Lev
open Go.RowKit
set_option linter.unusedVariables false
set_option linter.unusedSimpArgs false
set_option maxRecDepth 100000
noncomputable section
def chB (n : Nat) (ls : List LV) : Bool := @decide (∃ L, ls = encL insE L ∧ L.length = n ∧ (chk L).2.1 ≠ 0) (Classical.propDecidable _)

def chG (n : Nat) (ls : List LV) : Bool := @decide (∃ L, ls = encL insE L ∧ L.length = n ∧ (chk L).2.1 = 0) (Classical.propDecidable _)

def chA (ls : List LV) : Int := (chk (decIns ls)).1

def chE (ls : List LV) : Int := (chk (decIns ls)).2.1

def chR (ls : List LV) : List LV := encL (cI .i64) (chk (decIns ls)).2.2.1

def chM (ls : List LV) : List LV := encL (cI .i64) (chk (decIns ls)).2.2.2

theorem chB_iff {n : Nat} {ls : List LV} : chB n ls = true ↔ ∃ L, ls = encL insE L ∧ L.length = n ∧ (chk L).2.1 ≠ 0 := by simp only [chB, decide_eq_true_eq]
theorem chG_iff {n : Nat} {ls : List LV} : chG n ls = true ↔ ∃ L, ls = encL insE L ∧ L.length = n ∧ (chk L).2.1 = 0 := by simp only [chG, decide_eq_true_eq]
theorem chB_no {n : Nat} {ls : List LV} (h : chB n ls = true) : noIds ls = true := by obtain ⟨L, rfl, _, _⟩ := chB_iff.1 h; exact ins_noids L
theorem chG_no {n : Nat} {ls : List LV} (h : chG n ls = true) : noIds ls = true := by obtain ⟨L, rfl, _, _⟩ := chG_iff.1 h; exact ins_noids L
theorem look_bad {n : Nat} {ls : List LV} (h : chB n ls = true) : SFun Go.Proofs.Tryd.prog 15 [.agg [.slo 0 0 n 0]] (mkS [.ro ls] gtab) fun l s => l = .tup [.nilp, .int .i64 (chA ls), .int .i64 (chE ls)] ∧ s = mkS [.ro ls] gtab := by
  obtain ⟨L, rfl, rfl, he⟩ := chB_iff.1 h
  refine SFun.mono (look_fun L) fun l s ⟨b, hb, hs⟩ => ?_
  rw [lookQ, if_neg he] at hb
  rw [chA, chE, decIns_enc]; exact ⟨hb.1, by rw [hs, hb.2]⟩
theorem look_good {n : Nat} {ls : List LV} (h : chG n ls = true) : SFun Go.Proofs.Tryd.prog 15 [.agg [.slo 0 0 n 0]] (mkS [.ro ls] gtab) fun l s => l = .tup [.ptr 1 0, .int .i64 0, .int .i64 0] ∧ s = mkS [.ro ls, .cells [.slo 0 0 n 0, .slo 4 0 0 0, .slo 2 0 n 0, .slo 3 0 n 0] none, .cells (chR ls) (some 1), .cells (chM ls) (some 1), .dead] gtab := by
  obtain ⟨L, rfl, rfl, he⟩ := chG_iff.1 h
  refine SFun.mono (look_fun L) fun l s ⟨b, hb, hs⟩ => ?_
  rw [lookQ, if_pos he] at hb
  rw [chR, chM, decIns_enc]; exact ⟨hb.1, by rw [hs, hb.2]⟩
def lookBG : Gc := fun args s => match args, s.g with
  | [.agg [.slo a 0 n 0]], [(g0, F0)] => cond (Nat.beq g0 0 && eqbs F0 formsL) (match s.h.get a with
    | some (.ro ls) => (match s.lay [a] [.ro ls] [] with
      | some s' => some ([chB n ls], .tup [.nilp, .int .i64 (chA ls), .int .i64 (chE ls)], s')
      | none => none)
    | _ => none) none
  | _, _ => none
theorem lookBG_ok : GOk Go.Proofs.Tryd.prog 15 lookBG := by
  intro args s bs l s' hg hb hfr
  unfold lookBG at hg
  split at hg
  · rename_i a n g0 F0 hgl
    cases hc : (Nat.beq g0 0 && eqbs F0 formsL) with
    | false => rw [hc] at hg; cases hg
    | true =>
      rw [hc] at hg
      simp only [cond_true] at hg
      rw [Bool.and_eq_true] at hc
      replace hgl : s.g = gtab := by rw [hgl, Nat.eq_of_beq_eq_true hc.1, eqbs_eq hc.2]; rfl
      split at hg
      · rename_i ls hb0
        split at hg
        · rename_i s1 hs1
          simp only [Option.some.injEq, Prod.mk.injEq] at hg
          obtain ⟨rfl, rfl, rfl⟩ := hg
          simp only [allT_cons] at hb
          obtain ⟨k1, _⟩ := hb
          have no := chB_no k1
          refine SFun.lay (bs := [.ro ls]) (args0 := [.agg [.slo 0 0 n 0]]) (bs' := [.ro ls]) (v0 := .tup [.nilp, .int .i64 (chA ls), .int .i64 (chE ls)]) hfr hs1 (by simp)
            ⟨⟨there hfr hb0, _, hb0, by (first | exact lb_dead | exact lb_same (by (first | assumption | exact noIds_tab (fun _ => rfl) _ _ | exact noIds_encL (fun _ => rfl) _ | rfl)) | exact lb_ro (by (first | assumption | exact noIds_tab (fun _ => rfl) _ _ | exact noIds_encL (fun _ => rfl) _ | rfl)) | exact lb_none | exact lb_cells (by ((repeat refine lws_cons (by (first | exact lw_any | exact lw_int | exact lw_bool | exact lw_ptr rfl | exact lw_slo rfl | exact lw_nilp | exact lw_nils | exact lw_str | exact lw_slo_nils | exact lw_slo_sle | exact lw_sl rfl | exact lw_unb | exact lw_gptr | exact lw_noid rfl | exact lw_cap rfl (Nat.le_refl _) | exact lw_cap rfl (by omega) | assumption | exact lw_tup (by ((repeat refine lws_cons (by (first | exact lw_any | exact lw_int | exact lw_bool | exact lw_ptr rfl | exact lw_slo rfl | exact lw_nilp | exact lw_nils | exact lw_str | exact lw_slo_nils | exact lw_slo_sle | exact lw_sl rfl | exact lw_unb | exact lw_gptr | exact lw_noid rfl | exact lw_cap rfl (Nat.le_refl _) | exact lw_cap rfl (by omega) | assumption)) ?_); exact lws_nil)))) ?_); exact lws_nil)) (by simp) | exact lb_iter | exact lb_cap (Nat.le_refl _) (Nat.le_refl _) rfl rfl | exact lb_capn (by assumption) (by (first | assumption | exact noIds_tab (fun _ => rfl) _ _ | exact noIds_encL (fun _ => rfl) _ | rfl)) | assumption), fun κ hκ => by (first | exact lb_dead | exact lb_same (by (first | assumption | exact noIds_tab (fun _ => rfl) _ _ | exact noIds_encL (fun _ => rfl) _ | rfl)) | exact lb_ro (by (first | assumption | exact noIds_tab (fun _ => rfl) _ _ | exact noIds_encL (fun _ => rfl) _ | rfl)) | exact lb_none | exact lb_cells (by ((repeat refine lws_cons (by (first | exact lw_any | exact lw_int | exact lw_bool | exact lw_ptr rfl | exact lw_slo rfl | exact lw_nilp | exact lw_nils | exact lw_str | exact lw_slo_nils | exact lw_slo_sle | exact lw_sl rfl | exact lw_unb | exact lw_gptr | exact lw_noid rfl | exact lw_cap rfl (Nat.le_refl _) | exact lw_cap rfl (by omega) | assumption | exact lw_tup (by ((repeat refine lws_cons (by (first | exact lw_any | exact lw_int | exact lw_bool | exact lw_ptr rfl | exact lw_slo rfl | exact lw_nilp | exact lw_nils | exact lw_str | exact lw_slo_nils | exact lw_slo_sle | exact lw_sl rfl | exact lw_unb | exact lw_gptr | exact lw_noid rfl | exact lw_cap rfl (Nat.le_refl _) | exact lw_cap rfl (by omega) | assumption)) ?_); exact lws_nil)))) ?_); exact lws_nil)) (by simp) | exact lb_iter | exact lb_cap (Nat.le_refl _) (Nat.le_refl _) rfl rfl | exact lb_capn (by assumption) (by (first | assumption | exact noIds_tab (fun _ => rfl) _ _ | exact noIds_encL (fun _ => rfl) _ | rfl)) | assumption)⟩, trivial⟩ (by ((repeat refine lws_cons (by (first | exact lw_any | exact lw_int | exact lw_bool | exact lw_ptr rfl | exact lw_slo rfl | exact lw_nilp | exact lw_nils | exact lw_str | exact lw_slo_nils | exact lw_slo_sle | exact lw_sl rfl | exact lw_unb | exact lw_gptr | exact lw_noid rfl | exact lw_cap rfl (Nat.le_refl _) | exact lw_cap rfl (by omega) | assumption | exact lw_tup (by ((repeat refine lws_cons (by (first | exact lw_any | exact lw_int | exact lw_bool | exact lw_ptr rfl | exact lw_slo rfl | exact lw_nilp | exact lw_nils | exact lw_str | exact lw_slo_nils | exact lw_slo_sle | exact lw_sl rfl | exact lw_unb | exact lw_gptr | exact lw_noid rfl | exact lw_cap rfl (Nat.le_refl _) | exact lw_cap rfl (by omega) | assumption)) ?_); exact lws_nil)))) ?_); exact lws_nil)) ?_
            fun κ h1 h2 => ⟨⟨by (first | exact lb_dead | exact lb_same (by (first | assumption | exact noIds_tab (fun _ => rfl) _ _ | exact noIds_encL (fun _ => rfl) _ | rfl)) | exact lb_ro (by (first | assumption | exact noIds_tab (fun _ => rfl) _ _ | exact noIds_encL (fun _ => rfl) _ | rfl)) | exact lb_none | exact lb_cells (by ((repeat refine lws_cons (by (first | exact lw_any | exact lw_int | exact lw_bool | exact lw_ptr rfl | exact lw_slo rfl | exact lw_nilp | exact lw_nils | exact lw_str | exact lw_slo_nils | exact lw_slo_sle | exact lw_sl rfl | exact lw_unb | exact lw_gptr | exact lw_noid rfl | exact lw_cap rfl (Nat.le_refl _) | exact lw_cap rfl (by omega) | assumption | exact lw_tup (by ((repeat refine lws_cons (by (first | exact lw_any | exact lw_int | exact lw_bool | exact lw_ptr rfl | exact lw_slo rfl | exact lw_nilp | exact lw_nils | exact lw_str | exact lw_slo_nils | exact lw_slo_sle | exact lw_sl rfl | exact lw_unb | exact lw_gptr | exact lw_noid rfl | exact lw_cap rfl (Nat.le_refl _) | exact lw_cap rfl (by omega) | assumption)) ?_); exact lws_nil)))) ?_); exact lws_nil)) (by simp) | exact lb_iter | exact lb_cap (Nat.le_refl _) (Nat.le_refl _) rfl rfl | exact lb_capn (by assumption) (by (first | assumption | exact noIds_tab (fun _ => rfl) _ _ | exact noIds_encL (fun _ => rfl) _ | rfl)) | assumption), trivial⟩, lw_noid rfl⟩
          rw [hgl]; exact look_bad k1
        · cases hg
      · cases hg
  · cases hg
def lookGG : Gc := fun args s => match args, s.g with
  | [.agg [.slo a 0 n 0]], [(g0, F0)] => cond (Nat.beq g0 0 && eqbs F0 formsL) (match s.h.get a with
    | some (.ro ls) => (match s.lay [a] [.ro ls] [.cells [.slo a 0 n 0, .slo (Nat.succ (Nat.succ (Nat.succ s.n))) 0 0 0, .slo (Nat.succ s.n) 0 n 0, .slo (Nat.succ (Nat.succ s.n)) 0 n 0] none, .cells (chR ls) (some 1), .cells (chM ls) (some 1), .dead] with
      | some s' => some ([chG n ls], .tup [.ptr s.n 0, .int .i64 0, .int .i64 0], s')
      | none => none)
    | _ => none) none
  | _, _ => none
theorem lookGG_ok : GOk Go.Proofs.Tryd.prog 15 lookGG := by
  intro args s bs l s' hg hb hfr
  unfold lookGG at hg
  split at hg
  · rename_i a n g0 F0 hgl
    cases hc : (Nat.beq g0 0 && eqbs F0 formsL) with
    | false => rw [hc] at hg; cases hg
    | true =>
      rw [hc] at hg
      simp only [cond_true] at hg
      rw [Bool.and_eq_true] at hc
      replace hgl : s.g = gtab := by rw [hgl, Nat.eq_of_beq_eq_true hc.1, eqbs_eq hc.2]; rfl
      split at hg
      · rename_i ls hb0
        split at hg
        · rename_i s1 hs1
          simp only [Option.some.injEq, Prod.mk.injEq] at hg
          obtain ⟨rfl, rfl, rfl⟩ := hg
          simp only [allT_cons] at hb
          obtain ⟨k1, _⟩ := hb
          have no := chG_no k1
          refine SFun.lay (bs := [.ro ls]) (args0 := [.agg [.slo 0 0 n 0]]) (bs' := [.ro ls, .cells [.slo 0 0 n 0, .slo 4 0 0 0, .slo 2 0 n 0, .slo 3 0 n 0] none, .cells (chR ls) (some 1), .cells (chM ls) (some 1), .dead]) (v0 := .tup [.ptr 1 0, .int .i64 0, .int .i64 0]) hfr hs1 (by simp)
            ⟨⟨there hfr hb0, _, hb0, by (first | exact lb_dead | exact lb_same (by (first | assumption | exact noIds_tab (fun _ => rfl) _ _ | exact noIds_encL (fun _ => rfl) _ | rfl)) | exact lb_ro (by (first | assumption | exact noIds_tab (fun _ => rfl) _ _ | exact noIds_encL (fun _ => rfl) _ | rfl)) | exact lb_none | exact lb_cells (by ((repeat refine lws_cons (by (first | exact lw_any | exact lw_int | exact lw_bool | exact lw_ptr rfl | exact lw_slo rfl | exact lw_nilp | exact lw_nils | exact lw_str | exact lw_slo_nils | exact lw_slo_sle | exact lw_sl rfl | exact lw_unb | exact lw_gptr | exact lw_noid rfl | exact lw_cap rfl (Nat.le_refl _) | exact lw_cap rfl (by omega) | assumption | exact lw_tup (by ((repeat refine lws_cons (by (first | exact lw_any | exact lw_int | exact lw_bool | exact lw_ptr rfl | exact lw_slo rfl | exact lw_nilp | exact lw_nils | exact lw_str | exact lw_slo_nils | exact lw_slo_sle | exact lw_sl rfl | exact lw_unb | exact lw_gptr | exact lw_noid rfl | exact lw_cap rfl (Nat.le_refl _) | exact lw_cap rfl (by omega) | assumption)) ?_); exact lws_nil)))) ?_); exact lws_nil)) (by simp) | exact lb_iter | exact lb_cap (Nat.le_refl _) (Nat.le_refl _) rfl rfl | exact lb_capn (by assumption) (by (first | assumption | exact noIds_tab (fun _ => rfl) _ _ | exact noIds_encL (fun _ => rfl) _ | rfl)) | assumption), fun κ hκ => by (first | exact lb_dead | exact lb_same (by (first | assumption | exact noIds_tab (fun _ => rfl) _ _ | exact noIds_encL (fun _ => rfl) _ | rfl)) | exact lb_ro (by (first | assumption | exact noIds_tab (fun _ => rfl) _ _ | exact noIds_encL (fun _ => rfl) _ | rfl)) | exact lb_none | exact lb_cells (by ((repeat refine lws_cons (by (first | exact lw_any | exact lw_int | exact lw_bool | exact lw_ptr rfl | exact lw_slo rfl | exact lw_nilp | exact lw_nils | exact lw_str | exact lw_slo_nils | exact lw_slo_sle | exact lw_sl rfl | exact lw_unb | exact lw_gptr | exact lw_noid rfl | exact lw_cap rfl (Nat.le_refl _) | exact lw_cap rfl (by omega) | assumption | exact lw_tup (by ((repeat refine lws_cons (by (first | exact lw_any | exact lw_int | exact lw_bool | exact lw_ptr rfl | exact lw_slo rfl | exact lw_nilp | exact lw_nils | exact lw_str | exact lw_slo_nils | exact lw_slo_sle | exact lw_sl rfl | exact lw_unb | exact lw_gptr | exact lw_noid rfl | exact lw_cap rfl (Nat.le_refl _) | exact lw_cap rfl (by omega) | assumption)) ?_); exact lws_nil)))) ?_); exact lws_nil)) (by simp) | exact lb_iter | exact lb_cap (Nat.le_refl _) (Nat.le_refl _) rfl rfl | exact lb_capn (by assumption) (by (first | assumption | exact noIds_tab (fun _ => rfl) _ _ | exact noIds_encL (fun _ => rfl) _ | rfl)) | assumption)⟩, trivial⟩ (by ((repeat refine lws_cons (by (first | exact lw_any | exact lw_int | exact lw_bool | exact lw_ptr rfl | exact lw_slo rfl | exact lw_nilp | exact lw_nils | exact lw_str | exact lw_slo_nils | exact lw_slo_sle | exact lw_sl rfl | exact lw_unb | exact lw_gptr | exact lw_noid rfl | exact lw_cap rfl (Nat.le_refl _) | exact lw_cap rfl (by omega) | assumption | exact lw_tup (by ((repeat refine lws_cons (by (first | exact lw_any | exact lw_int | exact lw_bool | exact lw_ptr rfl | exact lw_slo rfl | exact lw_nilp | exact lw_nils | exact lw_str | exact lw_slo_nils | exact lw_slo_sle | exact lw_sl rfl | exact lw_unb | exact lw_gptr | exact lw_noid rfl | exact lw_cap rfl (Nat.le_refl _) | exact lw_cap rfl (by omega) | assumption)) ?_); exact lws_nil)))) ?_); exact lws_nil)) ?_
            fun κ h1 h2 => ⟨⟨by (first | exact lb_dead | exact lb_same (by (first | assumption | exact noIds_tab (fun _ => rfl) _ _ | exact noIds_encL (fun _ => rfl) _ | rfl)) | exact lb_ro (by (first | assumption | exact noIds_tab (fun _ => rfl) _ _ | exact noIds_encL (fun _ => rfl) _ | rfl)) | exact lb_none | exact lb_cells (by ((repeat refine lws_cons (by (first | exact lw_any | exact lw_int | exact lw_bool | exact lw_ptr rfl | exact lw_slo rfl | exact lw_nilp | exact lw_nils | exact lw_str | exact lw_slo_nils | exact lw_slo_sle | exact lw_sl rfl | exact lw_unb | exact lw_gptr | exact lw_noid rfl | exact lw_cap rfl (Nat.le_refl _) | exact lw_cap rfl (by omega) | assumption | exact lw_tup (by ((repeat refine lws_cons (by (first | exact lw_any | exact lw_int | exact lw_bool | exact lw_ptr rfl | exact lw_slo rfl | exact lw_nilp | exact lw_nils | exact lw_str | exact lw_slo_nils | exact lw_slo_sle | exact lw_sl rfl | exact lw_unb | exact lw_gptr | exact lw_noid rfl | exact lw_cap rfl (Nat.le_refl _) | exact lw_cap rfl (by omega) | assumption)) ?_); exact lws_nil)))) ?_); exact lws_nil)) (by simp) | exact lb_iter | exact lb_cap (Nat.le_refl _) (Nat.le_refl _) rfl rfl | exact lb_capn (by assumption) (by (first | assumption | exact noIds_tab (fun _ => rfl) _ _ | exact noIds_encL (fun _ => rfl) _ | rfl)) | assumption), lb_cells (lws_cons (lw_slo (h1 0 a rfl)) (lws_cons (lw_slo (h2 3 (by simp))) (lws_cons (lw_slo (h2 1 (by simp))) (lws_cons (lw_slo (h2 2 (by simp))) lws_nil)))) (by simp), lb_same (noIds_Ii64 _), lb_same (noIds_Ii64 _), lb_dead, trivial⟩, (lw_tup (lws_cons (lw_ptr (h2 0 (by simp))) (lws_cons (lw_int) (lws_cons (lw_int) lws_nil))))⟩
          rw [hgl]; exact look_good k1
        · cases hg
      · cases hg
  · cases hg
theorem chE_ne {n : Nat} {ls : List LV} (h : chB n ls = true) : chE ls ≠ 0 := by
  obtain ⟨L, rfl, rfl, he⟩ := chB_iff.1 h
  rw [chE, decIns_enc]; exact he
end
end Go.Lev
