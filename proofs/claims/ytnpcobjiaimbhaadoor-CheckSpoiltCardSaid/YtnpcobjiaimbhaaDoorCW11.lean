/- CheckTells: the law's trees -/
import Derived.Test.YtnpcobjiaimbhaaDoorCW10
import Derived.Test.YtnpcobjiaimbhaaDoorLc
import Derived.Test.YtnpcobjiaimbhaaDoorChecked
import Derived.KernelRfl

namespace Go.Lev
open Go.RowKit
set_option linter.unusedVariables false
set_option linter.unusedSimpArgs false
set_option maxRecDepth 100000
noncomputable section
/-! rows of integers -/
def decIu8 : List LV → List Int
  | .int _ a :: r => a :: decIu8 r
  | _ => []
theorem decIu8_enc : ∀ xs, decIu8 (encL (cI .u8) xs) = xs
  | [] => rfl
  | x :: r => by simp [encL, cI, decIu8, decIu8_enc r]
def okIu8 (cs : List LV) (n : Nat) : Bool := @decide (cs = encL (cI .u8) (decIu8 cs) ∧ (decIu8 cs).length = n ∧ n ≤ 9223372036854775807) (Classical.propDecidable _)

theorem okIu8_iff {cs : List LV} {n : Nat} : okIu8 cs n = true ↔ ∃ xs, cs = encL (cI .u8) xs ∧ xs.length = n ∧ n ≤ 9223372036854775807 := by
  simp only [okIu8, decide_eq_true_eq]
  exact ⟨fun h => ⟨_, h⟩, fun ⟨xs, h1, h2⟩ => by subst h1; rw [decIu8_enc]; exact ⟨rfl, h2⟩⟩
theorem okIu8_tab {n : Nat} (g : Nat → Int) (h : n ≤ 9223372036854775807) : okIu8 (tab (cI .u8) n g) n = true := okIu8_iff.2 ⟨_, rfl, by simp, h⟩
theorem okIu8_enc {xs : List Int} (h : xs.length ≤ 9223372036854775807) : okIu8 (encL (cI .u8) xs) xs.length = true := okIu8_iff.2 ⟨_, rfl, rfl, h⟩
theorem encIu8_len (xs : List Int) : (encL (cI .u8) xs).length = xs.length := by rw [encL_length (cI_len .u8)]; omega
theorem encIu8_push (xs : List Int) (y : Int) : xcat (xcut (encL (cI .u8) xs) 0 xs.length) [.int .u8 y] = encL (cI .u8) (xs ++ [y]) := by
  rw [xcut_all (by rw [encIu8_len]; omega), encL_append]; rfl
theorem encIu8_nth {xs : List Int} {i : Nat} (h : i < xs.length) : nthD (encL (cI .u8) xs) i = .int .u8 xs[i] := by
  have := encL_nth (cI_len .u8) (j := 0) h (by omega)
  simp only [Nat.mul_one, Nat.add_zero] at this
  exact this
theorem noIds_Iu8 (xs : List Int) : noIds (encL (cI .u8) xs) = true := noIds_encL (fun _ => rfl) xs
theorem xnoid_Iu8 (xs : List Int) : xnoid (encL (cI .u8) xs) = true := xnoid_encL (fun _ => rfl) xs

def okIns (n : Nat) (ls : List LV) : Bool := @decide (∃ L, ls = encL insE L ∧ L.length = n ∧ n ≤ 1000) (Classical.propDecidable _)

theorem okIns_iff {n : Nat} {ls : List LV} : okIns n ls = true ↔ ∃ L, ls = encL insE L ∧ L.length = n ∧ n ≤ 1000 := by simp only [okIns, decide_eq_true_eq]
theorem okIns_no {n : Nat} {ls : List LV} (h : okIns n ls = true) : noIds ls = true := by obtain ⟨L, rfl, _, _⟩ := okIns_iff.1 h; exact ins_noids L
theorem same_ro {n : Nat} {ls : List LV} (h : okIns n ls = true) : SFun Go.Proofs.Tryd.prog 12 [.agg [.slo 0 0 n 0]] (mkS [.ro ls] gtab) fun l s => l = .bool true ∧ s = mkS [.ro ls] gtab := by
  obtain ⟨L, rfl, rfl, h⟩ := okIns_iff.1 h
  exact same_all L h
theorem gtab_one : ∀ x ∈ gtab, x.2.length ≠ 1 := fun x hx => by
  rcases List.mem_singleton.1 hx with rfl
  show formsL.length ≠ 1
  intro h
  have e : Nat.beq formsL.length 1 = false := by kernel_rfl
  rw [h] at e; cases e
theorem same_own {n : Nat} {ls : List LV} (h : okIns n ls = true) : SFun Go.Proofs.Tryd.prog 12 [.agg [.slo 0 0 n 0]] (mkS [.cells ls (some 5)] gtab) fun l s => l = .bool true ∧ s = mkS [.cells ls (some 5)] gtab :=
  SFun.froze rfl gtab_one (SFun.mono (same_ro h) fun l s h => h.1)
def sameRG : Gc := fun args s => match args, s.g with
  | [.agg [.slo a 0 n 0]], [(g0, F0)] => cond (Nat.beq g0 0 && eqbs F0 formsL) (match s.h.get a with
    | some (.ro ls) => (match s.lay [a] [.ro ls] [] with
      | some s' => some ([okIns n ls], .bool true, s')
      | none => none)
    | _ => none) none
  | _, _ => none
theorem sameRG_ok : GOk Go.Proofs.Tryd.prog 12 sameRG := by
  intro args s bs l s' hg hb hfr
  unfold sameRG at hg
  split at hg
  · rename_i a n g0 F0 hgl
    cases hc : (Nat.beq g0 0 && eqbs F0 formsL) with
    | false => rw [hc] at hg; cases hg
    | true =>
      rw [hc] at hg
      simp only [cond_true] at hg
      rw [Bool.and_eq_true] at hc
      replace hgl : s.g = gtab := by rw [hgl, Nat.eq_of_beq_eq_true hc.1, eqbs_eq hc.2]; rfl
      split at hg
      · rename_i ls hb0
        split at hg
        · rename_i s1 hs1
          simp only [Option.some.injEq, Prod.mk.injEq] at hg
          obtain ⟨rfl, rfl, rfl⟩ := hg
          simp only [allT_cons] at hb
          obtain ⟨k1, _⟩ := hb
          have no := okIns_no k1
          refine SFun.lay (bs := [.ro ls]) (args0 := [.agg [.slo 0 0 n 0]]) (bs' := [.ro ls]) (v0 := .bool true) hfr hs1 (by simp)
            ⟨⟨there hfr hb0, _, hb0, by (first | exact lb_dead | exact lb_same (by (first | assumption | exact noIds_tab (fun _ => rfl) _ _ | exact noIds_encL (fun _ => rfl) _ | rfl)) | exact lb_ro (by (first | assumption | exact noIds_tab (fun _ => rfl) _ _ | exact noIds_encL (fun _ => rfl) _ | rfl)) | exact lb_none | exact lb_cells (by ((repeat refine lws_cons (by (first | exact lw_any | exact lw_int | exact lw_bool | exact lw_ptr rfl | exact lw_slo rfl | exact lw_nilp | exact lw_nils | exact lw_str | exact lw_slo_nils | exact lw_slo_sle | exact lw_sl rfl | exact lw_unb | exact lw_gptr | exact lw_noid rfl | exact lw_cap rfl (Nat.le_refl _) | exact lw_cap rfl (by omega) | assumption | exact lw_tup (by ((repeat refine lws_cons (by (first | exact lw_any | exact lw_int | exact lw_bool | exact lw_ptr rfl | exact lw_slo rfl | exact lw_nilp | exact lw_nils | exact lw_str | exact lw_slo_nils | exact lw_slo_sle | exact lw_sl rfl | exact lw_unb | exact lw_gptr | exact lw_noid rfl | exact lw_cap rfl (Nat.le_refl _) | exact lw_cap rfl (by omega) | assumption)) ?_); exact lws_nil)))) ?_); exact lws_nil)) (by simp) | exact lb_iter | exact lb_cap (Nat.le_refl _) (Nat.le_refl _) rfl rfl | exact lb_capn (by assumption) (by (first | assumption | exact noIds_tab (fun _ => rfl) _ _ | exact noIds_encL (fun _ => rfl) _ | rfl)) | assumption), fun κ hκ => by (first | exact lb_dead | exact lb_same (by (first | assumption | exact noIds_tab (fun _ => rfl) _ _ | exact noIds_encL (fun _ => rfl) _ | rfl)) | exact lb_ro (by (first | assumption | exact noIds_tab (fun _ => rfl) _ _ | exact noIds_encL (fun _ => rfl) _ | rfl)) | exact lb_none | exact lb_cells (by ((repeat refine lws_cons (by (first | exact lw_any | exact lw_int | exact lw_bool | exact lw_ptr rfl | exact lw_slo rfl | exact lw_nilp | exact lw_nils | exact lw_str | exact lw_slo_nils | exact lw_slo_sle | exact lw_sl rfl | exact lw_unb | exact lw_gptr | exact lw_noid rfl | exact lw_cap rfl (Nat.le_refl _) | exact lw_cap rfl (by omega) | assumption | exact lw_tup (by ((repeat refine lws_cons (by (first | exact lw_any | exact lw_int | exact lw_bool | exact lw_ptr rfl | exact lw_slo rfl | exact lw_nilp | exact lw_nils | exact lw_str | exact lw_slo_nils | exact lw_slo_sle | exact lw_sl rfl | exact lw_unb | exact lw_gptr | exact lw_noid rfl | exact lw_cap rfl (Nat.le_refl _) | exact lw_cap rfl (by omega) | assumption)) ?_); exact lws_nil)))) ?_); exact lws_nil)) (by simp) | exact lb_iter | exact lb_cap (Nat.le_refl _) (Nat.le_refl _) rfl rfl | exact lb_capn (by assumption) (by (first | assumption | exact noIds_tab (fun _ => rfl) _ _ | exact noIds_encL (fun _ => rfl) _ | rfl)) | assumption)⟩, trivial⟩ (by ((repeat refine lws_cons (by (first | exact lw_any | exact lw_int | exact lw_bool | exact lw_ptr rfl | exact lw_slo rfl | exact lw_nilp | exact lw_nils | exact lw_str | exact lw_slo_nils | exact lw_slo_sle | exact lw_sl rfl | exact lw_unb | exact lw_gptr | exact lw_noid rfl | exact lw_cap rfl (Nat.le_refl _) | exact lw_cap rfl (by omega) | assumption | exact lw_tup (by ((repeat refine lws_cons (by (first | exact lw_any | exact lw_int | exact lw_bool | exact lw_ptr rfl | exact lw_slo rfl | exact lw_nilp | exact lw_nils | exact lw_str | exact lw_slo_nils | exact lw_slo_sle | exact lw_sl rfl | exact lw_unb | exact lw_gptr | exact lw_noid rfl | exact lw_cap rfl (Nat.le_refl _) | exact lw_cap rfl (by omega) | assumption)) ?_); exact lws_nil)))) ?_); exact lws_nil)) ?_
            fun κ h1 h2 => ⟨⟨by (first | exact lb_dead | exact lb_same (by (first | assumption | exact noIds_tab (fun _ => rfl) _ _ | exact noIds_encL (fun _ => rfl) _ | rfl)) | exact lb_ro (by (first | assumption | exact noIds_tab (fun _ => rfl) _ _ | exact noIds_encL (fun _ => rfl) _ | rfl)) | exact lb_none | exact lb_cells (by ((repeat refine lws_cons (by (first | exact lw_any | exact lw_int | exact lw_bool | exact lw_ptr rfl | exact lw_slo rfl | exact lw_nilp | exact lw_nils | exact lw_str | exact lw_slo_nils | exact lw_slo_sle | exact lw_sl rfl | exact lw_unb | exact lw_gptr | exact lw_noid rfl | exact lw_cap rfl (Nat.le_refl _) | exact lw_cap rfl (by omega) | assumption | exact lw_tup (by ((repeat refine lws_cons (by (first | exact lw_any | exact lw_int | exact lw_bool | exact lw_ptr rfl | exact lw_slo rfl | exact lw_nilp | exact lw_nils | exact lw_str | exact lw_slo_nils | exact lw_slo_sle | exact lw_sl rfl | exact lw_unb | exact lw_gptr | exact lw_noid rfl | exact lw_cap rfl (Nat.le_refl _) | exact lw_cap rfl (by omega) | assumption)) ?_); exact lws_nil)))) ?_); exact lws_nil)) (by simp) | exact lb_iter | exact lb_cap (Nat.le_refl _) (Nat.le_refl _) rfl rfl | exact lb_capn (by assumption) (by (first | assumption | exact noIds_tab (fun _ => rfl) _ _ | exact noIds_encL (fun _ => rfl) _ | rfl)) | assumption), trivial⟩, lw_bool⟩
          rw [hgl]; exact same_ro k1
        · cases hg
      · cases hg
  · cases hg
def sameOG : Gc := fun args s => match args, s.g with
  | [.agg [.slo a 0 n 0]], [(g0, F0)] => cond (Nat.beq g0 0 && eqbs F0 formsL) (match s.h.get a with
    | some (.cells ls (some 5)) => (match s.lay [a] [.cells ls (some 5)] [] with
      | some s' => some ([okIns n ls], .bool true, s')
      | none => none)
    | _ => none) none
  | _, _ => none
theorem sameOG_ok : GOk Go.Proofs.Tryd.prog 12 sameOG := by
  intro args s bs l s' hg hb hfr
  unfold sameOG at hg
  split at hg
  · rename_i a n g0 F0 hgl
    cases hc : (Nat.beq g0 0 && eqbs F0 formsL) with
    | false => rw [hc] at hg; cases hg
    | true =>
      rw [hc] at hg
      simp only [cond_true] at hg
      rw [Bool.and_eq_true] at hc
      replace hgl : s.g = gtab := by rw [hgl, Nat.eq_of_beq_eq_true hc.1, eqbs_eq hc.2]; rfl
      split at hg
      · rename_i ls hb0
        split at hg
        · rename_i s1 hs1
          simp only [Option.some.injEq, Prod.mk.injEq] at hg
          obtain ⟨rfl, rfl, rfl⟩ := hg
          simp only [allT_cons] at hb
          obtain ⟨k1, _⟩ := hb
          have no := okIns_no k1
          refine SFun.lay (bs := [.cells ls (some 5)]) (args0 := [.agg [.slo 0 0 n 0]]) (bs' := [.cells ls (some 5)]) (v0 := .bool true) hfr hs1 (by simp)
            ⟨⟨there hfr hb0, _, hb0, by (first | exact lb_dead | exact lb_same (by (first | assumption | exact noIds_tab (fun _ => rfl) _ _ | exact noIds_encL (fun _ => rfl) _ | rfl)) | exact lb_ro (by (first | assumption | exact noIds_tab (fun _ => rfl) _ _ | exact noIds_encL (fun _ => rfl) _ | rfl)) | exact lb_none | exact lb_cells (by ((repeat refine lws_cons (by (first | exact lw_any | exact lw_int | exact lw_bool | exact lw_ptr rfl | exact lw_slo rfl | exact lw_nilp | exact lw_nils | exact lw_str | exact lw_slo_nils | exact lw_slo_sle | exact lw_sl rfl | exact lw_unb | exact lw_gptr | exact lw_noid rfl | exact lw_cap rfl (Nat.le_refl _) | exact lw_cap rfl (by omega) | assumption | exact lw_tup (by ((repeat refine lws_cons (by (first | exact lw_any | exact lw_int | exact lw_bool | exact lw_ptr rfl | exact lw_slo rfl | exact lw_nilp | exact lw_nils | exact lw_str | exact lw_slo_nils | exact lw_slo_sle | exact lw_sl rfl | exact lw_unb | exact lw_gptr | exact lw_noid rfl | exact lw_cap rfl (Nat.le_refl _) | exact lw_cap rfl (by omega) | assumption)) ?_); exact lws_nil)))) ?_); exact lws_nil)) (by simp) | exact lb_iter | exact lb_cap (Nat.le_refl _) (Nat.le_refl _) rfl rfl | exact lb_capn (by assumption) (by (first | assumption | exact noIds_tab (fun _ => rfl) _ _ | exact noIds_encL (fun _ => rfl) _ | rfl)) | assumption), fun κ hκ => by (first | exact lb_dead | exact lb_same (by (first | assumption | exact noIds_tab (fun _ => rfl) _ _ | exact noIds_encL (fun _ => rfl) _ | rfl)) | exact lb_ro (by (first | assumption | exact noIds_tab (fun _ => rfl) _ _ | exact noIds_encL (fun _ => rfl) _ | rfl)) | exact lb_none | exact lb_cells (by ((repeat refine lws_cons (by (first | exact lw_any | exact lw_int | exact lw_bool | exact lw_ptr rfl | exact lw_slo rfl | exact lw_nilp | exact lw_nils | exact lw_str | exact lw_slo_nils | exact lw_slo_sle | exact lw_sl rfl | exact lw_unb | exact lw_gptr | exact lw_noid rfl | exact lw_cap rfl (Nat.le_refl _) | exact lw_cap rfl (by omega) | assumption | exact lw_tup (by ((repeat refine lws_cons (by (first | exact lw_any | exact lw_int | exact lw_bool | exact lw_ptr rfl | exact lw_slo rfl | exact lw_nilp | exact lw_nils | exact lw_str | exact lw_slo_nils | exact lw_slo_sle | exact lw_sl rfl | exact lw_unb | exact lw_gptr | exact lw_noid rfl | exact lw_cap rfl (Nat.le_refl _) | exact lw_cap rfl (by omega) | assumption)) ?_); exact lws_nil)))) ?_); exact lws_nil)) (by simp) | exact lb_iter | exact lb_cap (Nat.le_refl _) (Nat.le_refl _) rfl rfl | exact lb_capn (by assumption) (by (first | assumption | exact noIds_tab (fun _ => rfl) _ _ | exact noIds_encL (fun _ => rfl) _ | rfl)) | assumption)⟩, trivial⟩ (by ((repeat refine lws_cons (by (first | exact lw_any | exact lw_int | exact lw_bool | exact lw_ptr rfl | exact lw_slo rfl | exact lw_nilp | exact lw_nils | exact lw_str | exact lw_slo_nils | exact lw_slo_sle | exact lw_sl rfl | exact lw_unb | exact lw_gptr | exact lw_noid rfl | exact lw_cap rfl (Nat.le_refl _) | exact lw_cap rfl (by omega) | assumption | exact lw_tup (by ((repeat refine lws_cons (by (first | exact lw_any | exact lw_int | exact lw_bool | exact lw_ptr rfl | exact lw_slo rfl | exact lw_nilp | exact lw_nils | exact lw_str | exact lw_slo_nils | exact lw_slo_sle | exact lw_sl rfl | exact lw_unb | exact lw_gptr | exact lw_noid rfl | exact lw_cap rfl (Nat.le_refl _) | exact lw_cap rfl (by omega) | assumption)) ?_); exact lws_nil)))) ?_); exact lws_nil)) ?_
            fun κ h1 h2 => ⟨⟨by (first | exact lb_dead | exact lb_same (by (first | assumption | exact noIds_tab (fun _ => rfl) _ _ | exact noIds_encL (fun _ => rfl) _ | rfl)) | exact lb_ro (by (first | assumption | exact noIds_tab (fun _ => rfl) _ _ | exact noIds_encL (fun _ => rfl) _ | rfl)) | exact lb_none | exact lb_cells (by ((repeat refine lws_cons (by (first | exact lw_any | exact lw_int | exact lw_bool | exact lw_ptr rfl | exact lw_slo rfl | exact lw_nilp | exact lw_nils | exact lw_str | exact lw_slo_nils | exact lw_slo_sle | exact lw_sl rfl | exact lw_unb | exact lw_gptr | exact lw_noid rfl | exact lw_cap rfl (Nat.le_refl _) | exact lw_cap rfl (by omega) | assumption | exact lw_tup (by ((repeat refine lws_cons (by (first | exact lw_any | exact lw_int | exact lw_bool | exact lw_ptr rfl | exact lw_slo rfl | exact lw_nilp | exact lw_nils | exact lw_str | exact lw_slo_nils | exact lw_slo_sle | exact lw_sl rfl | exact lw_unb | exact lw_gptr | exact lw_noid rfl | exact lw_cap rfl (Nat.le_refl _) | exact lw_cap rfl (by omega) | assumption)) ?_); exact lws_nil)))) ?_); exact lws_nil)) (by simp) | exact lb_iter | exact lb_cap (Nat.le_refl _) (Nat.le_refl _) rfl rfl | exact lb_capn (by assumption) (by (first | assumption | exact noIds_tab (fun _ => rfl) _ _ | exact noIds_encL (fun _ => rfl) _ | rfl)) | assumption), trivial⟩, lw_bool⟩
          rw [hgl]; exact same_own k1
        · cases hg
      · cases hg
  · cases hg
def orG (g1 g2 : Gc) : Gc := fun args s => match g1 args s with | some r => some r | none => g2 args s
def runCk : Gc := fun args s => match args, s.g with
  | [], [(g0, F0)] => cond (Nat.beq g0 0 && eqbs F0 formsL) (some ([], .bool true, s)) none
  | _, _ => none
theorem orG_ok {f : Nat} {g1 g2 : Gc} (h1 : GOk Go.Proofs.Tryd.prog f g1) (h2 : GOk Go.Proofs.Tryd.prog f g2) : GOk Go.Proofs.Tryd.prog f (orG g1 g2) := by
  intro args s bs l s' hg hb hfr
  unfold orG at hg
  cases h : g1 args s with
  | some r => rw [h] at hg; cases hg; exact h1 args s _ _ _ h hb hfr
  | none => rw [h] at hg; exact h2 args s bs l s' hg hb hfr
theorem runs15 : isTrue (lrun Go.Proofs.Tryd.prog 8000 3 gtab) = true := by kernel_rfl
theorem runCk_ok : GOk Go.Proofs.Tryd.prog 3 runCk := by
  intro args s bs l s' hg hb hfr
  unfold runCk at hg
  split at hg
  · rename_i g0 F0 hgl
    cases hc : (Nat.beq g0 0 && eqbs F0 formsL) with
    | false => rw [hc] at hg; cases hg
    | true =>
      rw [hc] at hg
      simp only [cond_true, Option.some.injEq, Prod.mk.injEq] at hg
      obtain ⟨rfl, rfl, rfl⟩ := hg
      rw [Bool.and_eq_true] at hc
      have e : s.g = gtab := by rw [hgl, Nat.eq_of_beq_eq_true hc.1, eqbs_eq hc.2]; rfl
      exact SFun.closed hfr (by rw [e]; exact runs15)
  · cases hg
def cxT : Cx := cxl [(3, runCk), (12, orG sameRG sameOG)]
abbrev tlL : List Nat := [0, 1, 4, 5, 6]
abbrev tlT (n m i : Nat) : List (Nat × LV) := [(0, .slo 0 0 n 0), (1, .slo 1 0 m 0), (5, .slo 2 0 i 0), (6, .int .i64 i)]
abbrev tlE (n m i : Nat) : List (Nat × LV) := [(0, .slo 0 0 n 0), (1, .slo 1 0 m 0), (5, .slo 2 0 i 0)]
abbrev tlH (ls os ps : List LV) : List LB := [.ro ls, .ro os, .cells ps (some 5)]
theorem cxT_ok : CtrOk Go.Proofs.Tryd.prog (ctrOf cxT) := cxl_ok ⟨runCk_ok, orG_ok sameRG_ok sameOG_ok, trivial⟩
theorem tl_a (n m : Nat) (ls os : List LV) (K : Pk) : (xsp Go.Proofs.Tryd.prog cxT 40 56 (seg (sp Go.Proofs.Tryd.prog 4) 0 7) (tm0 [.slo 0 0 n 0, .slo 1 0 m 0]) (mkS [.ro ls, .ro os] gtab) (vK tlL K)) = (
 bif xcm .gtr (↑n) 100 then (
 K .ret [.slo 0 0 n 0, .slo 1 0 m 0, .bool true, .tup [], .tup []] [some (.ro ls), some (.ro os)] gtab)
 else (
 bif xcm .gtr (↑m) 100 then (
 K .ret [.slo 0 0 n 0, .slo 1 0 m 0, .bool true, .tup [], .tup []] [some (.ro ls), some (.ro os)] gtab)
 else (
 K .normal [.slo 0 0 n 0, .slo 1 0 m 0, .bool false, .nils, .int .i64 0] [some (.ro ls), some (.ro os)] gtab))) := by kernel_rfl
theorem tl_b (n m i : Nat) (ls os ps : List LV) (K : Pk) : (xcode Go.Proofs.Tryd.prog cxT 40 56 (loopOf (nthC (sp Go.Proofs.Tryd.prog 4) 7)) (mkTm 56 (tlT n m i)) (mkS (tlH ls os ps) gtab) (vK tlL K)) = (
 bif xcm .lss ↑i ↑m then (
 bif xle (xadd (xnat ↑i) 1) m then
 bif xle (xadd (xix 0 (xnat ↑i) 1) 1) (xln os) then
 bif isI .u8 (nthD os (xix 0 (xnat ↑i) 1)) then
 bif xle (xadd (xnat ↑i) 1) m then
 bif xle (xadd (xix 0 (xnat ↑i) 1) 1) (xln os) then
 bif isI .u8 (nthD os (xix 0 (xnat ↑i) 1)) then
 bif xcm .gtr (asI (nthD os (xix 0 (xnat ↑i) 1))) 200 then (
 bif xle (xadd (xnat ↑i) 1) m then
 bif xle (xadd (xix 0 (xnat ↑i) 1) 1) (xln os) then
 bif isI .u8 (nthD os (xix 0 (xnat ↑i) 1)) then
 bif xle (xadd i 1) 1000000 then
 bif xle (xadd 0 (xmul i 5)) (xln ps) then
 K .normal [.slo 0 0 n 0, .slo 1 0 m 0, .any, .slo 5 0 (xadd i 1) 0, .int .i64 (xar .add .i64 (↑i) 1)] [some (.ro ls), some (.ro os), some .dead, some (.cells [.int .i64 12, .int .i64 0, .int .i64 0, .int .i64 (xar .rem .i64 (xwr .i64 (asI (nthD os (xix 0 (xnat ↑i) 1)))) 45), .int .u64 0] none), some (.cells [.int .i64 12, .int .i64 0, .int .i64 0, .int .i64 (xar .rem .i64 (xwr .i64 (asI (nthD os (xix 0 (xnat ↑i) 1)))) 45), .int .u64 0] none), some (.cells (xcat (xcut ps 0 (xmul i 5)) [.int .i64 12, .int .i64 0, .int .i64 0, .int .i64 (xar .rem .i64 (xwr .i64 (asI (nthD os (xix 0 (xnat ↑i) 1)))) 45), .int .u64 0]) (some 5))] gtab
 else False
 else False
 else False
 else False
 else False)
 else (
 bif xle (xadd i 1) 1000000 then
 bif xle (xadd 0 (xmul i 5)) (xln ps) then
 K .normal [.slo 0 0 n 0, .slo 1 0 m 0, .any, .slo 5 0 (xadd i 1) 0, .int .i64 (xar .add .i64 (↑i) 1)] [some (.ro ls), some (.ro os), some .dead, some (.cells [.int .i64 (xar .add .i64 14 (xwr .i64 (xar .rem .u8 (asI (nthD os (xix 0 (xnat ↑i) 1))) 7))), .int .i64 0, .int .i64 0, .int .i64 0, .int .u64 0] none), some (.cells [.int .i64 (xar .add .i64 14 (xwr .i64 (xar .rem .u8 (asI (nthD os (xix 0 (xnat ↑i) 1))) 7))), .int .i64 0, .int .i64 0, .int .i64 0, .int .u64 0] none), some (.cells (xcat (xcut ps 0 (xmul i 5)) [.int .i64 (xar .add .i64 14 (xwr .i64 (xar .rem .u8 (asI (nthD os (xix 0 (xnat ↑i) 1))) 7))), .int .i64 0, .int .i64 0, .int .i64 0, .int .u64 0]) (some 5))] gtab
 else False
 else False)
 else False
 else False
 else False
 else False
 else False
 else False)
 else (
 K (.exit 0) [.slo 0 0 n 0, .slo 1 0 m 0, .any, .slo 2 0 i 0, .int .i64 ↑i] [some (.ro ls), some (.ro os), some (.cells ps (some 5))] gtab)) := by kernel_rfl
theorem tl_z (n m i : Nat) (ls os ps : List LV) (K : Pk) : (xsp Go.Proofs.Tryd.prog cxT 40 56 ((sp Go.Proofs.Tryd.prog 4).drop 8) (mkTm 56 (tlE n m i)) (mkS (tlH ls os ps) gtab) (vK tlL K)) = (
 bif okIns n ls then
 bif okIns i ps then
 K .ret [.slo 0 0 n 0, .slo 1 0 m 0, .bool true, .slo 2 0 i 0, .any] [some (.ro ls), some (.ro os), some (.cells ps (some 5))] gtab
 else False
 else False) := by kernel_rfl
end
end Go.Lev
