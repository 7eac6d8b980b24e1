/- CheckMakes: the contract of programs; the law's trees -/
import Derived.Test.YtnpcobjiaimbhaaDoorCW9
import Derived.Test.YtnpcobjiaimbhaaDoorCZ4
import Derived.Test.YtnpcobjiaimbhaaDoorLc
import Derived.Test.YtnpcobjiaimbhaaDoorChecked
import Derived.KernelRfl

import Derived.Test.YtnpcobjiaimbhaaDoorLc
namespace Go.Lev
open Go.RowKit
set_option linter.unusedVariables false
set_option linter.unusedSimpArgs false
set_option maxRecDepth 100000
noncomputable section
theorem gtab_one : ∀ x ∈ gtab, x.2.length ≠ 1 := fun x hx => by
  rcases List.mem_singleton.1 hx with rfl
  show formsL.length ≠ 1
  intro h
  have e : Nat.beq formsL.length 1 = false := by kernel_rfl
  rw [h] at e; cases e
def runCk : Gc := fun args s => match args, s.g with
  | [], [(g0, F0)] => cond (Nat.beq g0 0 && eqbs F0 formsL) (some ([], .bool true, s)) none
  | _, _ => none
theorem runs15 : isTrue (lrun Go.Proofs.Tryd.prog 8000 3 gtab) = true := by kernel_rfl
theorem runCk_ok : GOk Go.Proofs.Tryd.prog 3 runCk := by
  intro args s bs l s' hg hb hfr
  unfold runCk at hg
  split at hg
  · rename_i g0 F0 hgl
    cases hc : (Nat.beq g0 0 && eqbs F0 formsL) with
    | false => rw [hc] at hg; cases hg
    | true =>
      rw [hc] at hg
      simp only [cond_true, Option.some.injEq, Prod.mk.injEq] at hg
      obtain ⟨rfl, rfl, rfl⟩ := hg
      rw [Bool.and_eq_true] at hc
      have e : s.g = gtab := by rw [hgl, Nat.eq_of_beq_eq_true hc.1, eqbs_eq hc.2]; rfl
      exact SFun.closed hfr (by rw [e]; exact runs15)
  · cases hg
def decKin : List LV → List KinR
  | .int _ a :: .int _ b :: .int _ c :: .int _ d :: .int _ e :: r => ⟨a, b, c, d, e⟩ :: decKin r
  | _ => []
theorem decKin_enc : ∀ xs, decKin (encL kinE xs) = xs
  | [] => rfl
  | x :: r => by simp [encL, kinE, decKin, decKin_enc r]
def okKin (n : Nat) (ks : List LV) (m : Int) : Bool := @decide (∃ K, ks = encL kinE K ∧ K.length = n ∧ n ≤ 9223372036854775807 ∧ m ≤ 1000) (Classical.propDecidable _)

def gN (ks : List LV) (m : Int) (calm : Bool) : Nat := (gF (decKin ks) m calm).length

def gW (ks : List LV) (m : Int) (calm : Bool) : List LV := encL insE (gF (decKin ks) m calm)

theorem okKin_iff {n : Nat} {ks : List LV} {m : Int} : okKin n ks m = true ↔ ∃ K, ks = encL kinE K ∧ K.length = n ∧ n ≤ 9223372036854775807 ∧ m ≤ 1000 := by simp only [okKin, decide_eq_true_eq]
theorem okKin_no {n : Nat} {ks : List LV} {m : Int} (h : okKin n ks m = true) : noIds ks = true := by obtain ⟨K, rfl, _⟩ := okKin_iff.1 h; exact kin_noids K
theorem prog_in {n : Nat} {ks : List LV} {m : Int} (calm : Bool) (h : okKin n ks m = true) : SFun Go.Proofs.Tryd.prog 13 [.slo 0 0 n 0, .int .i64 m, .bool calm] (mkS [.ro ks]) fun l s => l = .agg [.slo 1 0 (gN ks m calm) 0] ∧ s = mkS [.ro ks, .cells (gW ks m calm) (some 5)] := by
  obtain ⟨K, rfl, rfl, h1, h2⟩ := okKin_iff.1 h
  refine SFun.mono (prog_fun K m calm h2 h1) fun l s ⟨b, hb, hs⟩ => ?_
  rw [gN, gW, decKin_enc]; exact ⟨hb.2.1, by rw [hs, hb.2.2]⟩
def progG : Gc := fun args s => match args, s.g with
  | [.slo a 0 n 0, .int .i64 m, .bool calm], [] => (match s.h.get a with
    | some (.ro ks) => (match s.lay [a] [.ro ks] [.cells (gW ks m calm) (some 5)] with
      | some s' => some ([okKin n ks m], .agg [.slo s.n 0 (gN ks m calm) 0], s')
      | none => none)
    | _ => none)
  | _, _ => none
theorem progG_ok : GOk Go.Proofs.Tryd.prog 13 progG := by
  intro args s bs l s' hg hb hfr
  unfold progG at hg
  split at hg
  · rename_i a n m calm hgl
    split at hg
    · rename_i ks hb0
      split at hg
      · rename_i s1 hs1
        simp only [Option.some.injEq, Prod.mk.injEq] at hg
        obtain ⟨rfl, rfl, rfl⟩ := hg
        simp only [allT_cons] at hb
        obtain ⟨k1, _⟩ := hb
        have no := okKin_no k1
        refine SFun.lay (bs := [.ro ks]) (args0 := [.slo 0 0 n 0, .int .i64 m, .bool calm]) (bs' := [.ro ks, .cells (gW ks m calm) (some 5)]) (v0 := .agg [.slo 1 0 (gN ks m calm) 0]) hfr hs1 (by simp)
          ⟨⟨there hfr hb0, _, hb0, by (first | exact lb_dead | exact lb_same (by (first | assumption | exact noIds_tab (fun _ => rfl) _ _ | exact noIds_encL (fun _ => rfl) _ | rfl)) | exact lb_ro (by (first | assumption | exact noIds_tab (fun _ => rfl) _ _ | exact noIds_encL (fun _ => rfl) _ | rfl)) | exact lb_none | exact lb_cells (by ((repeat refine lws_cons (by (first | exact lw_any | exact lw_int | exact lw_bool | exact lw_ptr rfl | exact lw_slo rfl | exact lw_nilp | exact lw_nils | exact lw_str | exact lw_slo_nils | exact lw_slo_sle | exact lw_sl rfl | exact lw_unb | exact lw_gptr | exact lw_noid rfl | exact lw_cap rfl (Nat.le_refl _) | exact lw_cap rfl (by omega) | assumption | exact lw_tup (by ((repeat refine lws_cons (by (first | exact lw_any | exact lw_int | exact lw_bool | exact lw_ptr rfl | exact lw_slo rfl | exact lw_nilp | exact lw_nils | exact lw_str | exact lw_slo_nils | exact lw_slo_sle | exact lw_sl rfl | exact lw_unb | exact lw_gptr | exact lw_noid rfl | exact lw_cap rfl (Nat.le_refl _) | exact lw_cap rfl (by omega) | assumption)) ?_); exact lws_nil)))) ?_); exact lws_nil)) (by simp) | exact lb_iter | exact lb_cap (Nat.le_refl _) (Nat.le_refl _) rfl rfl | exact lb_capn (by assumption) (by (first | assumption | exact noIds_tab (fun _ => rfl) _ _ | exact noIds_encL (fun _ => rfl) _ | rfl)) | assumption), fun κ hκ => by (first | exact lb_dead | exact lb_same (by (first | assumption | exact noIds_tab (fun _ => rfl) _ _ | exact noIds_encL (fun _ => rfl) _ | rfl)) | exact lb_ro (by (first | assumption | exact noIds_tab (fun _ => rfl) _ _ | exact noIds_encL (fun _ => rfl) _ | rfl)) | exact lb_none | exact lb_cells (by ((repeat refine lws_cons (by (first | exact lw_any | exact lw_int | exact lw_bool | exact lw_ptr rfl | exact lw_slo rfl | exact lw_nilp | exact lw_nils | exact lw_str | exact lw_slo_nils | exact lw_slo_sle | exact lw_sl rfl | exact lw_unb | exact lw_gptr | exact lw_noid rfl | exact lw_cap rfl (Nat.le_refl _) | exact lw_cap rfl (by omega) | assumption | exact lw_tup (by ((repeat refine lws_cons (by (first | exact lw_any | exact lw_int | exact lw_bool | exact lw_ptr rfl | exact lw_slo rfl | exact lw_nilp | exact lw_nils | exact lw_str | exact lw_slo_nils | exact lw_slo_sle | exact lw_sl rfl | exact lw_unb | exact lw_gptr | exact lw_noid rfl | exact lw_cap rfl (Nat.le_refl _) | exact lw_cap rfl (by omega) | assumption)) ?_); exact lws_nil)))) ?_); exact lws_nil)) (by simp) | exact lb_iter | exact lb_cap (Nat.le_refl _) (Nat.le_refl _) rfl rfl | exact lb_capn (by assumption) (by (first | assumption | exact noIds_tab (fun _ => rfl) _ _ | exact noIds_encL (fun _ => rfl) _ | rfl)) | assumption)⟩, trivial⟩ (by ((repeat refine lws_cons (by (first | exact lw_any | exact lw_int | exact lw_bool | exact lw_ptr rfl | exact lw_slo rfl | exact lw_nilp | exact lw_nils | exact lw_str | exact lw_slo_nils | exact lw_slo_sle | exact lw_sl rfl | exact lw_unb | exact lw_gptr | exact lw_noid rfl | exact lw_cap rfl (Nat.le_refl _) | exact lw_cap rfl (by omega) | assumption | exact lw_tup (by ((repeat refine lws_cons (by (first | exact lw_any | exact lw_int | exact lw_bool | exact lw_ptr rfl | exact lw_slo rfl | exact lw_nilp | exact lw_nils | exact lw_str | exact lw_slo_nils | exact lw_slo_sle | exact lw_sl rfl | exact lw_unb | exact lw_gptr | exact lw_noid rfl | exact lw_cap rfl (Nat.le_refl _) | exact lw_cap rfl (by omega) | assumption)) ?_); exact lws_nil)))) ?_); exact lws_nil)) ?_
          fun κ h1 h2 => ⟨⟨by (first | exact lb_dead | exact lb_same (by (first | assumption | exact noIds_tab (fun _ => rfl) _ _ | exact noIds_encL (fun _ => rfl) _ | rfl)) | exact lb_ro (by (first | assumption | exact noIds_tab (fun _ => rfl) _ _ | exact noIds_encL (fun _ => rfl) _ | rfl)) | exact lb_none | exact lb_cells (by ((repeat refine lws_cons (by (first | exact lw_any | exact lw_int | exact lw_bool | exact lw_ptr rfl | exact lw_slo rfl | exact lw_nilp | exact lw_nils | exact lw_str | exact lw_slo_nils | exact lw_slo_sle | exact lw_sl rfl | exact lw_unb | exact lw_gptr | exact lw_noid rfl | exact lw_cap rfl (Nat.le_refl _) | exact lw_cap rfl (by omega) | assumption | exact lw_tup (by ((repeat refine lws_cons (by (first | exact lw_any | exact lw_int | exact lw_bool | exact lw_ptr rfl | exact lw_slo rfl | exact lw_nilp | exact lw_nils | exact lw_str | exact lw_slo_nils | exact lw_slo_sle | exact lw_sl rfl | exact lw_unb | exact lw_gptr | exact lw_noid rfl | exact lw_cap rfl (Nat.le_refl _) | exact lw_cap rfl (by omega) | assumption)) ?_); exact lws_nil)))) ?_); exact lws_nil)) (by simp) | exact lb_iter | exact lb_cap (Nat.le_refl _) (Nat.le_refl _) rfl rfl | exact lb_capn (by assumption) (by (first | assumption | exact noIds_tab (fun _ => rfl) _ _ | exact noIds_encL (fun _ => rfl) _ | rfl)) | assumption), lb_same (ins_noids _), trivial⟩, (lw_agg (lws_cons (lw_slo (h2 0 (by simp))) lws_nil))⟩
        rw [hgl]; exact prog_in calm k1
      · cases hg
    · cases hg
  · cases hg
end
end Go.Lev
