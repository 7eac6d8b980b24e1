/- MemApart (P6.2): for any shape, any operations, the law returns true; what was there stays as it was. No condition. -/
import Derived.Test.YtmfakfopedneoaaCW14
import Derived.Test.YtmfakfopedneoaaLc
import Derived.Test.YtmfakfopedneoaaChecked
import Derived.KernelRfl

namespace Go.Lev
open Go.RowKit
set_option linter.unusedVariables false
set_option linter.unusedSimpArgs false
set_option maxRecDepth 100000
noncomputable section
theorem cxq6_ok : CtrOk Go.Proofs.Try.prog (ctrOf cxq6) := cxl_ok ⟨runG_ok runs6, newmemG_ok, doG_ok, nearG_ok, mdoG_ok, cloneU_ok, cloneL_ok, trivial⟩
theorem set_ne {α : Type} {xs : List α} {q i : Nat} {y : α} (h : i < xs.length) (hs : i < (xs.set q y).length) (e : xs[i] ≠ (xs.set q y)[i]) : i = q ∧ (xs.set q y)[i] = y := by
  rw [List.getElem_set] at e ⊢
  by_cases hq : q = i
  · subst hq; simp
  · rw [if_neg hq] at e; exact absurd rfl e
/-- What an operation touches. -/
structure Apart (m m' : MS) (o : OpR) (d : Bool) : Prop where
  w : ∀ i (h : i < m.W.length) (h' : i < m'.W.length), m.W[i] ≠ m'.W[i] → o.k = 2 ∧ (i : Int) = o.at' ∧ m'.W[i] = o.w
  l : ∀ i (h : i < m.L.length) (h' : i < m'.L.length), m.L[i] ≠ m'.L[i] → (o.k = 5 ∨ (o.k = 4 ∧ d = true)) ∧ (i : Int) = o.at' ∧ m'.L[i] = o.lk
  s : ∀ i (h : i < m.S.length) (h' : i < m'.S.length), m.S[i] ≠ m'.S[i] → o.k = 9 ∧ (i : Int) = o.at' ∧ m'.S[i] = o.w
  n : m.N = m'.N ∨ (o.k = 7 ∧ d = true ∧ m'.N = o.w)
theorem Apart.same (m : MS) (o : OpR) (d : Bool) (C : Int) : Apart m { m with C := C } o d :=
  ⟨fun _ _ _ e => absurd rfl e, fun _ _ _ e => absurd rfl e, fun _ _ _ e => absurd rfl e, .inl rfl⟩
theorem apart (m : MS) (o : OpR) : Apart m (stepM m o).1 o (stepM m o).2.2.2.1 := by
  rw [stepM]
  split
  · simp only [ldW]; split; exact Apart.same _ _ _ _; exact Apart.same _ _ _ _
  split
  · rename_i h2
    simp only [stW]
    split
    · rename_i h
      refine ⟨fun i h1 h1' e => ?_, fun _ _ _ e => absurd rfl e, fun _ _ _ e => absurd rfl e, .inl rfl⟩
      obtain ⟨q, hq⟩ := Int.eq_ofNat_of_zero_le (show 0 ≤ o.at' by omega)
      obtain ⟨e1, e2⟩ := set_ne h1 h1' e
      refine ⟨h2, ?_, e2⟩
      rw [e1, hq]; simp
    · exact Apart.same _ _ _ _
  split
  · simp only [ldL]; split; exact Apart.same _ _ _ _; exact Apart.same _ _ _ _
  split
  · rename_i h4
    simp only [csL]
    split
    · rename_i h
      split
      · split
        · refine ⟨fun _ _ _ e => absurd rfl e, fun i h1 h1' e => ?_, fun _ _ _ e => absurd rfl e, .inl rfl⟩
          obtain ⟨q, hq⟩ := Int.eq_ofNat_of_zero_le h.1
          obtain ⟨e1, e2⟩ := set_ne h1 h1' e
          refine ⟨.inr ⟨h4, rfl⟩, ?_, e2⟩
          rw [e1, hq]; simp
        · exact Apart.same _ _ _ _
      · exact Apart.same _ _ _ _
    · exact Apart.same _ _ _ _
  split
  · rename_i h5
    simp only [stL]
    split
    · rename_i h
      split
      · refine ⟨fun _ _ _ e => absurd rfl e, fun i h1 h1' e => ?_, fun _ _ _ e => absurd rfl e, .inl rfl⟩
        obtain ⟨q, hq⟩ := Int.eq_ofNat_of_zero_le h.1
        obtain ⟨e1, e2⟩ := set_ne h1 h1' e
        refine ⟨.inl h5, ?_, e2⟩
        rw [e1, hq]; simp
      · exact Apart.same _ _ _ _
    · exact Apart.same _ _ _ _
  split
  · exact Apart.same _ _ _ _
  split
  · rename_i h7
    simp only [csN]
    split
    · exact Apart.same _ _ _ _
    · split
      · exact Apart.same _ _ _ _
      · split
        · exact ⟨fun _ _ _ e => absurd rfl e, fun _ _ _ e => absurd rfl e, fun _ _ _ e => absurd rfl e, .inr ⟨h7, rfl, rfl⟩⟩
        · exact Apart.same _ _ _ _
  split
  · simp only [ldS]; split; exact Apart.same _ _ _ _; exact Apart.same _ _ _ _
  split
  · rename_i h9
    simp only [stS]
    split
    · rename_i h
      refine ⟨fun _ _ _ e => absurd rfl e, fun _ _ _ e => absurd rfl e, fun i h1 h1' e => ?_, .inl rfl⟩
      obtain ⟨q, hq⟩ := Int.eq_ofNat_of_zero_le h.1
      obtain ⟨e1, e2⟩ := set_ne h1 h1' e
      refine ⟨h9, ?_, e2⟩
      rw [e1, hq]; simp
    · exact Apart.same _ _ _ _
  · exact Apart.same _ _ _ _
theorem xnm_self (x : Int) : xcm .neq x x = false := f_neq rfl
theorem an1_x (M : MS) (o : OpR) : anW (encL (cI .u64) M.W) (encL cL M.L) (encL (cI .u64) M.S) M.N M.C [.int .i64 o.k, .int .i64 o.at', .int .u64 o.old, .int .u64 o.w, .int .u64 o.was.1, .bool o.was.2.1, .int .i64 o.was.2.2, .int .u64 o.lk.1, .bool o.lk.2.1, .int .i64 o.lk.2.2] = (stepM M o).2.1 := by
  have h : decO [.int .i64 o.k, .int .i64 o.at', .int .u64 o.old, .int .u64 o.w, .int .u64 o.was.1, .bool o.was.2.1, .int .i64 o.was.2.2, .int .u64 o.lk.1, .bool o.lk.2.1, .int .i64 o.lk.2.2] = o := rfl
  simp only [anW, decM_enc, h]
theorem an2_x (M : MS) (o : OpR) : anV (encL (cI .u64) M.W) (encL cL M.L) (encL (cI .u64) M.S) M.N M.C [.int .i64 o.k, .int .i64 o.at', .int .u64 o.old, .int .u64 o.w, .int .u64 o.was.1, .bool o.was.2.1, .int .i64 o.was.2.2, .int .u64 o.lk.1, .bool o.lk.2.1, .int .i64 o.lk.2.2] = (stepM M o).2.2.1.1 := by
  have h : decO [.int .i64 o.k, .int .i64 o.at', .int .u64 o.old, .int .u64 o.w, .int .u64 o.was.1, .bool o.was.2.1, .int .i64 o.was.2.2, .int .u64 o.lk.1, .bool o.lk.2.1, .int .i64 o.lk.2.2] = o := rfl
  simp only [anV, decM_enc, h]
theorem an3_x (M : MS) (o : OpR) : anH (encL (cI .u64) M.W) (encL cL M.L) (encL (cI .u64) M.S) M.N M.C [.int .i64 o.k, .int .i64 o.at', .int .u64 o.old, .int .u64 o.w, .int .u64 o.was.1, .bool o.was.2.1, .int .i64 o.was.2.2, .int .u64 o.lk.1, .bool o.lk.2.1, .int .i64 o.lk.2.2] = (stepM M o).2.2.1.2.1 := by
  have h : decO [.int .i64 o.k, .int .i64 o.at', .int .u64 o.old, .int .u64 o.w, .int .u64 o.was.1, .bool o.was.2.1, .int .i64 o.was.2.2, .int .u64 o.lk.1, .bool o.lk.2.1, .int .i64 o.lk.2.2] = o := rfl
  simp only [anH, decM_enc, h]
theorem an4_x (M : MS) (o : OpR) : anO (encL (cI .u64) M.W) (encL cL M.L) (encL (cI .u64) M.S) M.N M.C [.int .i64 o.k, .int .i64 o.at', .int .u64 o.old, .int .u64 o.w, .int .u64 o.was.1, .bool o.was.2.1, .int .i64 o.was.2.2, .int .u64 o.lk.1, .bool o.lk.2.1, .int .i64 o.lk.2.2] = (stepM M o).2.2.1.2.2 := by
  have h : decO [.int .i64 o.k, .int .i64 o.at', .int .u64 o.old, .int .u64 o.w, .int .u64 o.was.1, .bool o.was.2.1, .int .i64 o.was.2.2, .int .u64 o.lk.1, .bool o.lk.2.1, .int .i64 o.lk.2.2] = o := rfl
  simp only [anO, decM_enc, h]
theorem an5_x (M : MS) (o : OpR) : anD (encL (cI .u64) M.W) (encL cL M.L) (encL (cI .u64) M.S) M.N M.C [.int .i64 o.k, .int .i64 o.at', .int .u64 o.old, .int .u64 o.w, .int .u64 o.was.1, .bool o.was.2.1, .int .i64 o.was.2.2, .int .u64 o.lk.1, .bool o.lk.2.1, .int .i64 o.lk.2.2] = (stepM M o).2.2.2.1 := by
  have h : decO [.int .i64 o.k, .int .i64 o.at', .int .u64 o.old, .int .u64 o.w, .int .u64 o.was.1, .bool o.was.2.1, .int .i64 o.was.2.2, .int .u64 o.lk.1, .bool o.lk.2.1, .int .i64 o.lk.2.2] = o := rfl
  simp only [anD, decM_enc, h]
theorem an6_x (M : MS) (o : OpR) : anE (encL (cI .u64) M.W) (encL cL M.L) (encL (cI .u64) M.S) M.N M.C [.int .i64 o.k, .int .i64 o.at', .int .u64 o.old, .int .u64 o.w, .int .u64 o.was.1, .bool o.was.2.1, .int .i64 o.was.2.2, .int .u64 o.lk.1, .bool o.lk.2.1, .int .i64 o.lk.2.2] = (stepM M o).2.2.2.2 := by
  have h : decO [.int .i64 o.k, .int .i64 o.at', .int .u64 o.old, .int .u64 o.w, .int .u64 o.was.1, .bool o.was.2.1, .int .i64 o.was.2.2, .int .u64 o.lk.1, .bool o.lk.2.1, .int .i64 o.lk.2.2] = o := rfl
  simp only [anE, decM_enc, h]
set_option maxHeartbeats 4000000 in
theorem apart_fun (xs : List OpR) (n : Nat) (en : xs.length = n) (hn : n ≤ 9223372036854775807) (sa sb sc sd se : Int) (o0 : OpR) :
    SFun Go.Proofs.Try.prog 6 [.agg (shC sa sb sc sd se), .slo 0 0 n 0, .agg (opL o0)] (mkS [.ro (encL opL xs)]) fun l _ => l = .bool true := by
  refine SFun.mono (SFun.pieces (Q := fun l _ => l = .bool true) 210 1 maL [6] (by kernel_rfl) rfl rfl rfl ?_) fun l s' ⟨b0, h1, _⟩ => h1
  have nx := noids_o xs
  have ok := okR_enc en hn
  obtain ⟨c1, c1'⟩ := cl_in sa (show (32 : Int) ≤ 256 by omega)
  obtain ⟨c2, c2'⟩ := cl_in sb (show (1 : Int) ≤ 16 by omega)
  obtain ⟨c3, c3'⟩ := cl_in sc (show (1 : Int) ≤ 16 by omega)
  obtain ⟨c4, c4'⟩ := cl_in sd (show (1 : Int) ≤ 4 by omega)
  have hma := ma_a sa sb sc sd se n o0.k o0.at' o0.old o0.w o0.was.1 o0.was.2.1 o0.was.2.2 o0.lk.1 o0.lk.2.1 o0.lk.2.2 (encL opL xs)
  have i1 := cl_id c1 c1'
  have i2 := cl_id c2 c2'
  have i3 := cl_id c3 c3'
  have i4 := cl_id c4 c4'
  have i5 : xmn (xmn se 4611686018427387903) 4611686018427387903 = xmn se 4611686018427387903 := by simp only [wd_mn]; split <;> (try split) <;> omega
  simp only [i1, i2, i3, i4, i5, xcm_self, xbq_self, wd_and_t, cond_true] at hma
  generalize xmn (xmx sa 32) 256 = pa at *
  generalize xmn (xmx sb 1) 16 = pb at *
  generalize xmn (xmx sc 1) 16 = pc at *
  generalize xmn (xmx sd 1) 4 = pd at *
  generalize xmn se 4611686018427387903 = pe at *
  obtain ⟨qa, rfl⟩ := Int.eq_ofNat_of_zero_le (show 0 ≤ pa by omega)
  obtain ⟨qb, rfl⟩ := Int.eq_ofNat_of_zero_le (show 0 ≤ pb by omega)
  obtain ⟨qd, rfl⟩ := Int.eq_ofNat_of_zero_le (show 0 ≤ pd by omega)
  have z1 := zW_len qa
  have z2 := zL_len qb
  have z3 := zW_len qd
  have w1 := noids_zW qa
  have w2 := noids_zL qb
  have w3 := noids_zW qd
  refine SSp.to cxq6_ok (n := 40) (g := []) 4 4 rfl (σ := {m : MS // Sized qa qb qd m}) (fun _ => maT n) (fun ⟨M, _⟩ => maH qa qb pc qd pe M.N M.C qa qb qd (encL (cI .u64) M.W) (encL cL M.L) (encL (cI .u64) M.S) o0.k o0.at' o0.old o0.w o0.was.1 o0.was.2.1 o0.was.2.2 o0.lk.1 o0.lk.2.1 o0.lk.2.2 (encL opL xs)) (mkS_le (Nat.le_refl _)) (by kernel_rfl) ?_ fun ⟨M, hM⟩ => ?_
  · rw [hma]
    simp only [wd_nat, rep_w, rep_l]
    (repeat (first | (with_reducible refine way_t (by (first | with_reducible rfl | exact t_le (by omega) | exact t_eq (by omega) | exact t_nn (by omega) | exact t_lss (by omega) | exact t_leq (by omega) | exact t_gtr (by omega) | exact t_geq (by omega) | exact t_eql (by omega) | exact t_neq (by omega) | exact t_z (by omega) | exact wd_not_f | assumption)) ?_) | (with_reducible refine way_f (by (first | with_reducible rfl | exact f_le (by omega) | exact f_eq (by omega) | exact f_nn (by omega) | exact f_lss (by omega) | exact f_leq (by omega) | exact f_gtr (by omega) | exact f_geq (by omega) | exact f_eql (by omega) | exact f_neq (by omega) | exact f_z (by omega) | exact wd_not_t | assumption)) ?_)))
    exact ⟨rfl, ⟨mz qa qb qd pe, Sized.mz _ _ _ _⟩, [.id 0, .id 13, .id 7, .cap 6 0 qa, .id 9, .cap 8 0 qb, .id 10, .id 12, .cap 11 0 qd, .id 14, .id 15, .id 16, .id 17, .id 2], by simp only [mz, zW, zL] at *; (refine ⟨by kernel_rfl, ?_, ?_⟩ <;> repeat (first | exact okTms_nil | refine okTms_cons ?_ ?_ | exact okBlks_nil | refine okBlks_cons ?_ ?_ | exact lws_nil | refine lws_cons ?_ ?_ | exact lb_dead | exact lb_same (by (first | assumption | exact noIds_encL (fun _ => rfl) _ | exact noIds_tab (fun _ => rfl) _ _ | rfl)) | exact lb_ro (by (first | assumption | exact noIds_encL (fun _ => rfl) _ | exact noIds_tab (fun _ => rfl) _ _ | rfl)) | exact lb_none | refine lb_cells ?_ (by simp) | exact lb_cap (Nat.le_refl _) (Nat.le_refl _) rfl rfl | exact lb_capn (by assumption) (by (first | assumption | exact noIds_encL (fun _ => rfl) _ | exact noIds_tab (fun _ => rfl) _ _ | rfl)) | exact lw_any | exact lw_int | exact lw_bool | exact lw_ptr rfl | exact lw_slo rfl | exact lw_nils | exact lw_slo_nils | exact lw_sl rfl | exact lw_noid rfl | exact lw_cap rfl (Nat.le_refl _) | assumption))⟩
  dsimp only
  obtain ⟨o1, o2, o3⟩ := hM.oks (by omega) (by omega) (by omega)
  refine SSp.to cxq6_ok (n := 40) (g := []) 2 6 rfl (σ := {m : MS // Sized qa qb qd m}) (fun _ => maT n) (fun ⟨M, _⟩ => maH qa qb pc qd pe M.N M.C qa qb qd (encL (cI .u64) M.W) (encL cL M.L) (encL (cI .u64) M.S) o0.k o0.at' o0.old o0.w o0.was.1 o0.was.2.1 o0.was.2.2 o0.lk.1 o0.lk.2.1 o0.lk.2.2 (encL opL xs)) (mkS_le (Nat.le_of_ble_eq_true rfl)) (by kernel_rfl) ?_ fun ⟨M, hM⟩ => ?_
  · rw [ma_b]
    simp only [o1, o2, o3, ok, eqLs_self, xcm_self, xbq_self, cond_true, iW_x, iL_x, iS_x, iN_x, iC_x]
    (repeat (first | (with_reducible refine way_t (by (first | with_reducible rfl | exact t_le (by omega) | exact t_eq (by omega) | exact t_nn (by omega) | exact t_lss (by omega) | exact t_leq (by omega) | exact t_gtr (by omega) | exact t_geq (by omega) | exact t_eql (by omega) | exact t_neq (by omega) | exact t_z (by omega) | exact wd_not_f | assumption)) ?_) | (with_reducible refine way_f (by (first | with_reducible rfl | exact f_le (by omega) | exact f_eq (by omega) | exact f_nn (by omega) | exact f_lss (by omega) | exact f_leq (by omega) | exact f_gtr (by omega) | exact f_geq (by omega) | exact f_eql (by omega) | exact f_neq (by omega) | exact f_z (by omega) | exact wd_not_t | assumption)) ?_)))
    exact ⟨rfl, ⟨_, hM.run false (decOps (encL opL xs)) (min n 60)⟩, [.id 0, .id 1, .id 2, .id 3, .id 4, .id 5, .id 6, .id 7, .id 8, .id 9, .id 10, .id 11, .id 12, .id 13], by (refine ⟨by kernel_rfl, ?_, ?_⟩ <;> repeat (first | exact okTms_nil | refine okTms_cons ?_ ?_ | exact okBlks_nil | refine okBlks_cons ?_ ?_ | exact lws_nil | refine lws_cons ?_ ?_ | exact lb_dead | exact lb_same (by (first | assumption | exact noIds_encL (fun _ => rfl) _ | exact noIds_tab (fun _ => rfl) _ _ | rfl)) | exact lb_ro (by (first | assumption | exact noIds_encL (fun _ => rfl) _ | exact noIds_tab (fun _ => rfl) _ _ | rfl)) | exact lb_none | refine lb_cells ?_ (by simp) | exact lb_cap (Nat.le_refl _) (Nat.le_refl _) rfl rfl | exact lb_capn (by assumption) (by (first | assumption | exact noIds_encL (fun _ => rfl) _ | exact noIds_tab (fun _ => rfl) _ _ | rfl)) | exact lw_any | exact lw_int | exact lw_bool | exact lw_ptr rfl | exact lw_slo rfl | exact lw_nils | exact lw_slo_nils | exact lw_sl rfl | exact lw_noid rfl | exact lw_cap rfl (Nat.le_refl _) | assumption))⟩
  dsimp only
  obtain ⟨o1, o2, o3⟩ := hM.oks (by omega) (by omega) (by omega)
  refine SSp.to cxq6_ok (n := 40) (g := []) 1 7 rfl (σ := OpR) (fun _ => maT n) (fun o => maH qa qb pc qd pe M.N M.C qa qb qd (encL (cI .u64) M.W) (encL cL M.L) (encL (cI .u64) M.S) o.k o.at' o.old o.w o.was.1 o.was.2.1 o.was.2.2 o.lk.1 o.lk.2.1 o.lk.2.2 (encL opL xs)) (mkS_le (Nat.le_of_ble_eq_true rfl)) (by kernel_rfl) ?_ fun o => ?_
  · rw [ma_c]
    simp only [o1, o2, o3, okO_x, xcm_self, xbq_self, cond_true, nr_x]
    (repeat (first | (with_reducible refine way_t (by (first | with_reducible rfl | exact t_le (by omega) | exact t_eq (by omega) | exact t_nn (by omega) | exact t_lss (by omega) | exact t_leq (by omega) | exact t_gtr (by omega) | exact t_geq (by omega) | exact t_eql (by omega) | exact t_neq (by omega) | exact t_z (by omega) | exact wd_not_f | assumption)) ?_) | (with_reducible refine way_f (by (first | with_reducible rfl | exact f_le (by omega) | exact f_eq (by omega) | exact f_nn (by omega) | exact f_lss (by omega) | exact f_leq (by omega) | exact f_gtr (by omega) | exact f_geq (by omega) | exact f_eql (by omega) | exact f_neq (by omega) | exact f_z (by omega) | exact wd_not_t | assumption)) ?_)))
    exact ⟨rfl, nearM false M o0, [.id 0, .id 1, .id 2, .id 3, .id 4, .id 5, .id 6, .id 7, .id 8, .id 9, .id 10, .id 11, .id 12, .id 13], by (refine ⟨by kernel_rfl, ?_, ?_⟩ <;> repeat (first | exact okTms_nil | refine okTms_cons ?_ ?_ | exact okBlks_nil | refine okBlks_cons ?_ ?_ | exact lws_nil | refine lws_cons ?_ ?_ | exact lb_dead | exact lb_same (by (first | assumption | exact noIds_encL (fun _ => rfl) _ | exact noIds_tab (fun _ => rfl) _ _ | rfl)) | exact lb_ro (by (first | assumption | exact noIds_encL (fun _ => rfl) _ | exact noIds_tab (fun _ => rfl) _ _ | rfl)) | exact lb_none | refine lb_cells ?_ (by simp) | exact lb_cap (Nat.le_refl _) (Nat.le_refl _) rfl rfl | exact lb_capn (by assumption) (by (first | assumption | exact noIds_encL (fun _ => rfl) _ | exact noIds_tab (fun _ => rfl) _ _ | rfl)) | exact lw_any | exact lw_int | exact lw_bool | exact lw_ptr rfl | exact lw_slo rfl | exact lw_nils | exact lw_slo_nils | exact lw_sl rfl | exact lw_noid rfl | exact lw_cap rfl (Nat.le_refl _) | assumption))⟩
  refine SSp.to cxq6_ok (n := 40) (g := []) 1 8 rfl (σ := Unit) (fun _ => maU M.N qa qb qd) (fun _ => maI qa qb pc qd pe M.N M.C qa qb qd (encL (cI .u64) M.W) (encL cL M.L) (encL (cI .u64) M.S) o.k o.at' o.old o.w o.was.1 o.was.2.1 o.was.2.2 o.lk.1 o.lk.2.1 o.lk.2.2 (encL opL xs)) (mkS_le (Nat.le_of_ble_eq_true rfl)) (by kernel_rfl) ?_ fun _ => ?_
  · rw [ma_d]
    simp only [xcm_self, xbq_self, cond_true, encIu64_len, lk_n, hM.w, hM.l, hM.s, xnoid_Iu64, xnoid_l, wd_ln, wd_mul, wd_add, Nat.zero_add]
    (repeat (first | (with_reducible refine way_t (by (first | with_reducible rfl | exact t_le (by omega) | exact t_eq (by omega) | exact t_nn (by omega) | exact t_lss (by omega) | exact t_leq (by omega) | exact t_gtr (by omega) | exact t_geq (by omega) | exact t_eql (by omega) | exact t_neq (by omega) | exact t_z (by omega) | exact wd_not_f | assumption)) ?_) | (with_reducible refine way_f (by (first | with_reducible rfl | exact f_le (by omega) | exact f_eq (by omega) | exact f_nn (by omega) | exact f_lss (by omega) | exact f_leq (by omega) | exact f_gtr (by omega) | exact f_geq (by omega) | exact f_eql (by omega) | exact f_neq (by omega) | exact f_z (by omega) | exact wd_not_t | assumption)) ?_)))
    exact ⟨rfl, (), [.id 0, .id 1, .id 2, .id 3, .id 4, .id 5, .id 6, .id 7, .id 8, .id 13, .id 14, .id 15, .id 16], by (refine ⟨by kernel_rfl, ?_, ?_⟩ <;> repeat (first | exact okTms_nil | refine okTms_cons ?_ ?_ | exact okBlks_nil | refine okBlks_cons ?_ ?_ | exact lws_nil | refine lws_cons ?_ ?_ | exact lb_dead | exact lb_same (by (first | assumption | exact noIds_encL (fun _ => rfl) _ | exact noIds_tab (fun _ => rfl) _ _ | rfl)) | exact lb_ro (by (first | assumption | exact noIds_encL (fun _ => rfl) _ | exact noIds_tab (fun _ => rfl) _ _ | rfl)) | exact lb_none | refine lb_cells ?_ (by simp) | exact lb_cap (Nat.le_refl _) (Nat.le_refl _) rfl rfl | exact lb_capn (by assumption) (by (first | assumption | exact noIds_encL (fun _ => rfl) _ | exact noIds_tab (fun _ => rfl) _ _ | rfl)) | exact lw_any | exact lw_int | exact lw_bool | exact lw_ptr rfl | exact lw_slo rfl | exact lw_nils | exact lw_slo_nils | exact lw_sl rfl | exact lw_noid rfl | exact lw_cap rfl (Nat.le_refl _) | assumption))⟩
  obtain ⟨s1, s2, s3⟩ := stepM_len M o
  have hN : Sized qa qb qd (stepM M o).1 := ⟨s1.trans hM.w, s2.trans hM.l, s3.trans hM.s⟩
  refine SSp.to cxq6_ok (n := 40) (g := []) 1 9 rfl (σ := Unit) (fun _ => maV M.N qa qb qd) (fun _ => maJ qa qb pc qd pe (stepM M o).1.N (stepM M o).1.C qa qb qd (encL (cI .u64) (stepM M o).1.W) (encL cL (stepM M o).1.L) (encL (cI .u64) (stepM M o).1.S) o.k o.at' o.old o.w o.was.1 o.was.2.1 o.was.2.2 o.lk.1 o.lk.2.1 o.lk.2.2 (stepM M o).2.1 (stepM M o).2.2.1.1 (stepM M o).2.2.1.2.1 (stepM M o).2.2.1.2.2 (stepM M o).2.2.2.1 (stepM M o).2.2.2.2 (encL (cI .u64) M.W) (encL cL M.L) (encL (cI .u64) M.S) (encL opL xs)) (mkS_le (Nat.le_of_ble_eq_true rfl)) (by kernel_rfl) ?_ fun _ => ?_
  · rw [ma_e]
    simp only [o1, o2, o3, okO_x, xcm_self, xbq_self, cond_true, dW_x, dL_x, dS_x, dN_x, dC_x, an1_x, an2_x, an3_x, an4_x, an5_x, an6_x]
    (repeat (first | (with_reducible refine way_t (by (first | with_reducible rfl | exact t_le (by omega) | exact t_eq (by omega) | exact t_nn (by omega) | exact t_lss (by omega) | exact t_leq (by omega) | exact t_gtr (by omega) | exact t_geq (by omega) | exact t_eql (by omega) | exact t_neq (by omega) | exact t_z (by omega) | exact wd_not_f | assumption)) ?_) | (with_reducible refine way_f (by (first | with_reducible rfl | exact f_le (by omega) | exact f_eq (by omega) | exact f_nn (by omega) | exact f_lss (by omega) | exact f_leq (by omega) | exact f_gtr (by omega) | exact f_geq (by omega) | exact f_eql (by omega) | exact f_neq (by omega) | exact f_z (by omega) | exact wd_not_t | assumption)) ?_)))
    exact ⟨rfl, (), [.id 0, .id 1, .id 2, .id 3, .id 4, .id 5, .id 6, .id 7, .id 8, .id 9, .id 10, .id 11, .id 12, .id 13], by (refine ⟨by kernel_rfl, ?_, ?_⟩ <;> repeat (first | exact okTms_nil | refine okTms_cons ?_ ?_ | exact okBlks_nil | refine okBlks_cons ?_ ?_ | exact lws_nil | refine lws_cons ?_ ?_ | exact lb_dead | exact lb_same (by (first | assumption | exact noIds_encL (fun _ => rfl) _ | exact noIds_tab (fun _ => rfl) _ _ | rfl)) | exact lb_ro (by (first | assumption | exact noIds_encL (fun _ => rfl) _ | exact noIds_tab (fun _ => rfl) _ _ | rfl)) | exact lb_none | refine lb_cells ?_ (by simp) | exact lb_cap (Nat.le_refl _) (Nat.le_refl _) rfl rfl | exact lb_capn (by assumption) (by (first | assumption | exact noIds_encL (fun _ => rfl) _ | exact noIds_tab (fun _ => rfl) _ _ | rfl)) | exact lw_any | exact lw_int | exact lw_bool | exact lw_ptr rfl | exact lw_slo rfl | exact lw_nils | exact lw_slo_nils | exact lw_sl rfl | exact lw_noid rfl | exact lw_cap rfl (Nat.le_refl _) | assumption))⟩
  have ap := apart M o
  generalize (stepM M o).1 = M' at *
  generalize (stepM M o).2 = an at *
  refine SSp.to cxq6_ok (n := 40) (g := []) 4 13 rfl (σ := Unit) (fun _ => maW1 M.N M'.N qa qb qd 0) (fun _ => maX o.k o.at' o.old o.w o.was.1 o.was.2.1 o.was.2.2 o.lk.1 o.lk.2.1 o.lk.2.2 an.1 an.2.1.1 an.2.1.2.1 an.2.1.2.2 an.2.2.1 an.2.2.2 (encL (cI .u64) M.W) (encL cL M.L) (encL (cI .u64) M.S) (encL (cI .u64) M'.W) (encL cL M'.L) (encL (cI .u64) M'.S) (encL opL xs)) (mkS_le (Nat.le_of_ble_eq_true rfl)) (by kernel_rfl) ?_ fun _ => ?_
  · rw [ma_f]
    simp only [xcm_self, xnm_self, xbq_self, cond_true, cond_false, encIu64_len, lk_n, hN.w, hN.l, hN.s, xnoid_Iu64, xnoid_l, wd_ln, wd_mul, wd_add, Nat.zero_add]
    (repeat (first | (with_reducible refine way_t (by (first | with_reducible rfl | exact t_le (by omega) | exact t_eq (by omega) | exact t_nn (by omega) | exact t_lss (by omega) | exact t_leq (by omega) | exact t_gtr (by omega) | exact t_geq (by omega) | exact t_eql (by omega) | exact t_neq (by omega) | exact t_z (by omega) | exact wd_not_f | assumption)) ?_) | (with_reducible refine way_f (by (first | with_reducible rfl | exact f_le (by omega) | exact f_eq (by omega) | exact f_nn (by omega) | exact f_lss (by omega) | exact f_leq (by omega) | exact f_gtr (by omega) | exact f_geq (by omega) | exact f_eql (by omega) | exact f_neq (by omega) | exact f_z (by omega) | exact wd_not_t | assumption)) ?_)))
    exact ⟨rfl, (), [.id 0, .id 9, .id 10, .id 11, .id 12, .id 13, .id 14, .id 15, .id 16], by (refine ⟨by kernel_rfl, ?_, ?_⟩ <;> repeat (first | exact okTms_nil | refine okTms_cons ?_ ?_ | exact okBlks_nil | refine okBlks_cons ?_ ?_ | exact lws_nil | refine lws_cons ?_ ?_ | exact lb_dead | exact lb_same (by (first | assumption | exact noIds_encL (fun _ => rfl) _ | exact noIds_tab (fun _ => rfl) _ _ | rfl)) | exact lb_ro (by (first | assumption | exact noIds_encL (fun _ => rfl) _ | exact noIds_tab (fun _ => rfl) _ _ | rfl)) | exact lb_none | refine lb_cells ?_ (by simp) | exact lb_cap (Nat.le_refl _) (Nat.le_refl _) rfl rfl | exact lb_capn (by assumption) (by (first | assumption | exact noIds_encL (fun _ => rfl) _ | exact noIds_tab (fun _ => rfl) _ _ | rfl)) | exact lw_any | exact lw_int | exact lw_bool | exact lw_ptr rfl | exact lw_slo rfl | exact lw_nils | exact lw_slo_nils | exact lw_sl rfl | exact lw_noid rfl | exact lw_cap rfl (Nat.le_refl _) | assumption))⟩
  refine SSp.code_to (g := []) 14 rfl (σ := Unit) (fun _ => maW1 M.N M'.N qa qb qd qa) (fun _ => maX o.k o.at' o.old o.w o.was.1 o.was.2.1 o.was.2.2 o.lk.1 o.lk.2.1 o.lk.2.2 an.1 an.2.1.1 an.2.1.2.1 an.2.1.2.2 an.2.2.1 an.2.2.2 (encL (cI .u64) M.W) (encL cL M.L) (encL (cI .u64) M.S) (encL (cI .u64) M'.W) (encL cL M'.L) (encL (cI .u64) M'.S) (encL opL xs)) (by kernel_rfl) ?_ fun _ => ?_
  · refine SCode.loop_vc cxq6_ok (n := 40) 0 (by kernel_rfl) (σ := {i : Nat // i ≤ qa}) (fun i => maW1 M.N M'.N qa qb qd i.1) (fun _ => maX o.k o.at' o.old o.w o.was.1 o.was.2.1 o.was.2.2 o.lk.1 o.lk.2.1 o.lk.2.2 an.1 an.2.1.1 an.2.1.2.1 an.2.1.2.2 an.2.2.1 an.2.2.2 (encL (cI .u64) M.W) (encL cL M.L) (encL (cI .u64) M.S) (encL (cI .u64) M'.W) (encL cL M'.L) (encL (cI .u64) M'.S) (encL opL xs)) (fun i => qa - i.1) (fun _ => Nat.le_of_ble_eq_true rfl) (fun ⟨i, hi⟩ => ?_) ⟨0, Nat.zero_le _⟩
    dsimp only
    rw [ma_g, wd_lss]
    refine ite_way (fun h0 => ?_) (fun h0 => ?_)
    · have h1 : i < M.W.length := by rw [hM.w]; exact h0
      have h2 : i < M'.W.length := by rw [hN.w]; exact h0
      simp only [wd_nat, wd_ix, wd_add, wd_mul, wd_ln, Nat.zero_add, Nat.mul_one, wd_isI, wd_asI, wd_isB, wd_asB, wd_nn, cI_tlen, cB_tlen, cII_tlen, decide_true, cond_true, wd_not_t, wd_not_f, wd_and_t, wd_and_f, encIu64_nth h1, encIu64_nth h2, encIu64_len, hM.w, hN.w, inc_i64 h0 (show qa ≤ 9223372036854775807 by omega)]
      (repeat (with_reducible refine must (by (first | with_reducible rfl | exact t_le (by omega) | exact t_eq (by omega) | exact t_nn (by omega) | exact t_lss (by omega) | exact t_leq (by omega) | exact t_gtr (by omega) | exact t_geq (by omega) | exact t_eql (by omega) | exact t_neq (by omega) | exact t_z (by omega) | exact wd_not_f | assumption)) ?_))
      by_cases e : M.W[i] = M'.W[i]
      · refine way_f (f_neq e) ?_
        exact ⟨rfl, ⟨i + 1, h0⟩, by simp only; omega, [.id 0, .id 1, .id 2, .id 3, .id 4, .id 5, .id 6, .id 7, .id 8], by (refine ⟨by kernel_rfl, ?_, ?_⟩ <;> repeat (first | exact okTms_nil | refine okTms_cons ?_ ?_ | exact okBlks_nil | refine okBlks_cons ?_ ?_ | exact lws_nil | refine lws_cons ?_ ?_ | exact lb_dead | exact lb_same (by (first | assumption | exact noIds_encL (fun _ => rfl) _ | exact noIds_tab (fun _ => rfl) _ _ | rfl)) | exact lb_ro (by (first | assumption | exact noIds_encL (fun _ => rfl) _ | exact noIds_tab (fun _ => rfl) _ _ | rfl)) | exact lb_none | refine lb_cells ?_ (by simp) | exact lb_cap (Nat.le_refl _) (Nat.le_refl _) rfl rfl | exact lb_capn (by assumption) (by (first | assumption | exact noIds_encL (fun _ => rfl) _ | exact noIds_tab (fun _ => rfl) _ _ | rfl)) | exact lw_any | exact lw_int | exact lw_bool | exact lw_ptr rfl | exact lw_slo rfl | exact lw_nils | exact lw_slo_nils | exact lw_sl rfl | exact lw_noid rfl | exact lw_cap rfl (Nat.le_refl _) | assumption))⟩
      · obtain ⟨e1, e2, e3⟩ := ap.w i h1 h2 e
        refine way_t (t_neq e) ?_
        (repeat (first | (with_reducible refine way_t (by (first | with_reducible rfl | exact t_le (by omega) | exact t_eq (by omega) | exact t_nn (by omega) | exact t_lss (by omega) | exact t_leq (by omega) | exact t_gtr (by omega) | exact t_geq (by omega) | exact t_eql (by omega) | exact t_neq (by omega) | exact t_z (by omega) | exact wd_not_f | assumption)) ?_) | (with_reducible refine way_f (by (first | with_reducible rfl | exact f_le (by omega) | exact f_eq (by omega) | exact f_nn (by omega) | exact f_lss (by omega) | exact f_leq (by omega) | exact f_gtr (by omega) | exact f_geq (by omega) | exact f_eql (by omega) | exact f_neq (by omega) | exact f_z (by omega) | exact wd_not_t | assumption)) ?_)))
        exact ⟨rfl, ⟨i + 1, h0⟩, by simp only; omega, [.id 0, .id 1, .id 2, .id 3, .id 4, .id 5, .id 6, .id 7, .id 8], by (refine ⟨by kernel_rfl, ?_, ?_⟩ <;> repeat (first | exact okTms_nil | refine okTms_cons ?_ ?_ | exact okBlks_nil | refine okBlks_cons ?_ ?_ | exact lws_nil | refine lws_cons ?_ ?_ | exact lb_dead | exact lb_same (by (first | assumption | exact noIds_encL (fun _ => rfl) _ | exact noIds_tab (fun _ => rfl) _ _ | rfl)) | exact lb_ro (by (first | assumption | exact noIds_encL (fun _ => rfl) _ | exact noIds_tab (fun _ => rfl) _ _ | rfl)) | exact lb_none | refine lb_cells ?_ (by simp) | exact lb_cap (Nat.le_refl _) (Nat.le_refl _) rfl rfl | exact lb_capn (by assumption) (by (first | assumption | exact noIds_encL (fun _ => rfl) _ | exact noIds_tab (fun _ => rfl) _ _ | rfl)) | exact lw_any | exact lw_int | exact lw_bool | exact lw_ptr rfl | exact lw_slo rfl | exact lw_nils | exact lw_slo_nils | exact lw_sl rfl | exact lw_noid rfl | exact lw_cap rfl (Nat.le_refl _) | assumption))⟩
    · obtain rfl : i = qa := by omega
      exact ⟨rfl, (), [.id 0, .id 1, .id 2, .id 3, .id 4, .id 5, .id 6, .id 7, .id 8], by (refine ⟨by kernel_rfl, ?_, ?_⟩ <;> repeat (first | exact okTms_nil | refine okTms_cons ?_ ?_ | exact okBlks_nil | refine okBlks_cons ?_ ?_ | exact lws_nil | refine lws_cons ?_ ?_ | exact lb_dead | exact lb_same (by (first | assumption | exact noIds_encL (fun _ => rfl) _ | exact noIds_tab (fun _ => rfl) _ _ | rfl)) | exact lb_ro (by (first | assumption | exact noIds_encL (fun _ => rfl) _ | exact noIds_tab (fun _ => rfl) _ _ | rfl)) | exact lb_none | refine lb_cells ?_ (by simp) | exact lb_cap (Nat.le_refl _) (Nat.le_refl _) rfl rfl | exact lb_capn (by assumption) (by (first | assumption | exact noIds_encL (fun _ => rfl) _ | exact noIds_tab (fun _ => rfl) _ _ | rfl)) | exact lw_any | exact lw_int | exact lw_bool | exact lw_ptr rfl | exact lw_slo rfl | exact lw_nils | exact lw_slo_nils | exact lw_sl rfl | exact lw_noid rfl | exact lw_cap rfl (Nat.le_refl _) | assumption))⟩
  refine SSp.to cxq6_ok (n := 40) (g := []) 1 15 rfl (σ := Unit) (fun _ => maW2 M.N M'.N qa qb qd 0) (fun _ => maX o.k o.at' o.old o.w o.was.1 o.was.2.1 o.was.2.2 o.lk.1 o.lk.2.1 o.lk.2.2 an.1 an.2.1.1 an.2.1.2.1 an.2.1.2.2 an.2.2.1 an.2.2.2 (encL (cI .u64) M.W) (encL cL M.L) (encL (cI .u64) M.S) (encL (cI .u64) M'.W) (encL cL M'.L) (encL (cI .u64) M'.S) (encL opL xs)) (mkS_le (Nat.le_of_ble_eq_true rfl)) (by kernel_rfl) ?_ fun _ => ?_
  · rw [ma_h]
    (try simp only [xcm_self, xbq_self, cond_true])
    (repeat (first | (with_reducible refine way_t (by (first | with_reducible rfl | exact t_le (by omega) | exact t_eq (by omega) | exact t_nn (by omega) | exact t_lss (by omega) | exact t_leq (by omega) | exact t_gtr (by omega) | exact t_geq (by omega) | exact t_eql (by omega) | exact t_neq (by omega) | exact t_z (by omega) | exact wd_not_f | assumption)) ?_) | (with_reducible refine way_f (by (first | with_reducible rfl | exact f_le (by omega) | exact f_eq (by omega) | exact f_nn (by omega) | exact f_lss (by omega) | exact f_leq (by omega) | exact f_gtr (by omega) | exact f_geq (by omega) | exact f_eql (by omega) | exact f_neq (by omega) | exact f_z (by omega) | exact wd_not_t | assumption)) ?_)))
    exact ⟨rfl, (), [.id 0, .id 1, .id 2, .id 3, .id 4, .id 5, .id 6, .id 7, .id 8], by (refine ⟨by kernel_rfl, ?_, ?_⟩ <;> repeat (first | exact okTms_nil | refine okTms_cons ?_ ?_ | exact okBlks_nil | refine okBlks_cons ?_ ?_ | exact lws_nil | refine lws_cons ?_ ?_ | exact lb_dead | exact lb_same (by (first | assumption | exact noIds_encL (fun _ => rfl) _ | exact noIds_tab (fun _ => rfl) _ _ | rfl)) | exact lb_ro (by (first | assumption | exact noIds_encL (fun _ => rfl) _ | exact noIds_tab (fun _ => rfl) _ _ | rfl)) | exact lb_none | refine lb_cells ?_ (by simp) | exact lb_cap (Nat.le_refl _) (Nat.le_refl _) rfl rfl | exact lb_capn (by assumption) (by (first | assumption | exact noIds_encL (fun _ => rfl) _ | exact noIds_tab (fun _ => rfl) _ _ | rfl)) | exact lw_any | exact lw_int | exact lw_bool | exact lw_ptr rfl | exact lw_slo rfl | exact lw_nils | exact lw_slo_nils | exact lw_sl rfl | exact lw_noid rfl | exact lw_cap rfl (Nat.le_refl _) | assumption))⟩
  refine SSp.code_to (g := []) 16 rfl (σ := Unit) (fun _ => maW2 M.N M'.N qa qb qd qb) (fun _ => maX o.k o.at' o.old o.w o.was.1 o.was.2.1 o.was.2.2 o.lk.1 o.lk.2.1 o.lk.2.2 an.1 an.2.1.1 an.2.1.2.1 an.2.1.2.2 an.2.2.1 an.2.2.2 (encL (cI .u64) M.W) (encL cL M.L) (encL (cI .u64) M.S) (encL (cI .u64) M'.W) (encL cL M'.L) (encL (cI .u64) M'.S) (encL opL xs)) (by kernel_rfl) ?_ fun _ => ?_
  · refine SCode.loop_vc cxq6_ok (n := 40) 2 (by kernel_rfl) (σ := {i : Nat // i ≤ qb}) (fun i => maW2 M.N M'.N qa qb qd i.1) (fun _ => maX o.k o.at' o.old o.w o.was.1 o.was.2.1 o.was.2.2 o.lk.1 o.lk.2.1 o.lk.2.2 an.1 an.2.1.1 an.2.1.2.1 an.2.1.2.2 an.2.2.1 an.2.2.2 (encL (cI .u64) M.W) (encL cL M.L) (encL (cI .u64) M.S) (encL (cI .u64) M'.W) (encL cL M'.L) (encL (cI .u64) M'.S) (encL opL xs)) (fun i => qb - i.1) (fun _ => Nat.le_of_ble_eq_true rfl) (fun ⟨i, hi⟩ => ?_) ⟨0, Nat.zero_le _⟩
    dsimp only
    rw [ma_i, wd_lss]
    refine ite_way (fun h0 => ?_) (fun h0 => ?_)
    · have h1 : i < M.L.length := by rw [hM.l]; exact h0
      have h2 : i < M'.L.length := by rw [hN.l]; exact h0
      simp only [wd_nat, wd_ix, wd_add, wd_mul, wd_ln, Nat.zero_add, Nat.mul_one, wd_isI, wd_asI, wd_isB, wd_asB, wd_nn, cI_tlen, cB_tlen, cII_tlen, decide_true, cond_true, wd_not_t, wd_not_f, wd_and_t, wd_and_f, lk_0 h1, lk_1 h1, lk_2' h1, lk_0 h2, lk_1 h2, lk_2' h2, lk_n, hM.l, hN.l, lkEq, inc_i64 h0 (show qb ≤ 9223372036854775807 by omega)]
      (repeat (with_reducible refine must (by (first | with_reducible rfl | exact t_le (by omega) | exact t_eq (by omega) | exact t_nn (by omega) | exact t_lss (by omega) | exact t_leq (by omega) | exact t_gtr (by omega) | exact t_geq (by omega) | exact t_eql (by omega) | exact t_neq (by omega) | exact t_z (by omega) | exact wd_not_f | assumption)) ?_))
      by_cases e : M.L[i] = M'.L[i]
      · simp only [show decide (M.L[i] = (M'.L[i].1, M'.L[i].2.1, M'.L[i].2.2)) = true from decide_eq_true e, wd_not_t, cond_false]
        exact ⟨rfl, ⟨i + 1, h0⟩, by simp only; omega, [.id 0, .id 1, .id 2, .id 3, .id 4, .id 5, .id 6, .id 7, .id 8], by (refine ⟨by kernel_rfl, ?_, ?_⟩ <;> repeat (first | exact okTms_nil | refine okTms_cons ?_ ?_ | exact okBlks_nil | refine okBlks_cons ?_ ?_ | exact lws_nil | refine lws_cons ?_ ?_ | exact lb_dead | exact lb_same (by (first | assumption | exact noIds_encL (fun _ => rfl) _ | exact noIds_tab (fun _ => rfl) _ _ | rfl)) | exact lb_ro (by (first | assumption | exact noIds_encL (fun _ => rfl) _ | exact noIds_tab (fun _ => rfl) _ _ | rfl)) | exact lb_none | refine lb_cells ?_ (by simp) | exact lb_cap (Nat.le_refl _) (Nat.le_refl _) rfl rfl | exact lb_capn (by assumption) (by (first | assumption | exact noIds_encL (fun _ => rfl) _ | exact noIds_tab (fun _ => rfl) _ _ | rfl)) | exact lw_any | exact lw_int | exact lw_bool | exact lw_ptr rfl | exact lw_slo rfl | exact lw_nils | exact lw_slo_nils | exact lw_sl rfl | exact lw_noid rfl | exact lw_cap rfl (Nat.le_refl _) | assumption))⟩
      · obtain ⟨e0, e1, e2⟩ := ap.l i h1 h2 e
        have ht : decide (M.L[i] = (M'.L[i].1, M'.L[i].2.1, M'.L[i].2.2)) = false := decide_eq_false e
        have h3 : decide (M'.L[i] = (o.lk.1, o.lk.2.1, o.lk.2.2)) = true := decide_eq_true e2
        simp only [ht, h3, wd_not_f, wd_not_t, cond_true, cond_false]
        rcases e0 with e0 | ⟨e0, ed⟩
        · (repeat (first | (with_reducible refine way_t (by (first | with_reducible rfl | exact t_le (by omega) | exact t_eq (by omega) | exact t_nn (by omega) | exact t_lss (by omega) | exact t_leq (by omega) | exact t_gtr (by omega) | exact t_geq (by omega) | exact t_eql (by omega) | exact t_neq (by omega) | exact t_z (by omega) | exact wd_not_f | assumption)) ?_) | (with_reducible refine way_f (by (first | with_reducible rfl | exact f_le (by omega) | exact f_eq (by omega) | exact f_nn (by omega) | exact f_lss (by omega) | exact f_leq (by omega) | exact f_gtr (by omega) | exact f_geq (by omega) | exact f_eql (by omega) | exact f_neq (by omega) | exact f_z (by omega) | exact wd_not_t | assumption)) ?_)))
          exact ⟨rfl, ⟨i + 1, h0⟩, by simp only; omega, [.id 0, .id 1, .id 2, .id 3, .id 4, .id 5, .id 6, .id 7, .id 8], by (refine ⟨by kernel_rfl, ?_, ?_⟩ <;> repeat (first | exact okTms_nil | refine okTms_cons ?_ ?_ | exact okBlks_nil | refine okBlks_cons ?_ ?_ | exact lws_nil | refine lws_cons ?_ ?_ | exact lb_dead | exact lb_same (by (first | assumption | exact noIds_encL (fun _ => rfl) _ | exact noIds_tab (fun _ => rfl) _ _ | rfl)) | exact lb_ro (by (first | assumption | exact noIds_encL (fun _ => rfl) _ | exact noIds_tab (fun _ => rfl) _ _ | rfl)) | exact lb_none | refine lb_cells ?_ (by simp) | exact lb_cap (Nat.le_refl _) (Nat.le_refl _) rfl rfl | exact lb_capn (by assumption) (by (first | assumption | exact noIds_encL (fun _ => rfl) _ | exact noIds_tab (fun _ => rfl) _ _ | rfl)) | exact lw_any | exact lw_int | exact lw_bool | exact lw_ptr rfl | exact lw_slo rfl | exact lw_nils | exact lw_slo_nils | exact lw_sl rfl | exact lw_noid rfl | exact lw_cap rfl (Nat.le_refl _) | assumption))⟩
        · simp only [ed, wd_not_t, cond_false]
          (repeat (first | (with_reducible refine way_t (by (first | with_reducible rfl | exact t_le (by omega) | exact t_eq (by omega) | exact t_nn (by omega) | exact t_lss (by omega) | exact t_leq (by omega) | exact t_gtr (by omega) | exact t_geq (by omega) | exact t_eql (by omega) | exact t_neq (by omega) | exact t_z (by omega) | exact wd_not_f | assumption)) ?_) | (with_reducible refine way_f (by (first | with_reducible rfl | exact f_le (by omega) | exact f_eq (by omega) | exact f_nn (by omega) | exact f_lss (by omega) | exact f_leq (by omega) | exact f_gtr (by omega) | exact f_geq (by omega) | exact f_eql (by omega) | exact f_neq (by omega) | exact f_z (by omega) | exact wd_not_t | assumption)) ?_)))
          exact ⟨rfl, ⟨i + 1, h0⟩, by simp only; omega, [.id 0, .id 1, .id 2, .id 3, .id 4, .id 5, .id 6, .id 7, .id 8], by (refine ⟨by kernel_rfl, ?_, ?_⟩ <;> repeat (first | exact okTms_nil | refine okTms_cons ?_ ?_ | exact okBlks_nil | refine okBlks_cons ?_ ?_ | exact lws_nil | refine lws_cons ?_ ?_ | exact lb_dead | exact lb_same (by (first | assumption | exact noIds_encL (fun _ => rfl) _ | exact noIds_tab (fun _ => rfl) _ _ | rfl)) | exact lb_ro (by (first | assumption | exact noIds_encL (fun _ => rfl) _ | exact noIds_tab (fun _ => rfl) _ _ | rfl)) | exact lb_none | refine lb_cells ?_ (by simp) | exact lb_cap (Nat.le_refl _) (Nat.le_refl _) rfl rfl | exact lb_capn (by assumption) (by (first | assumption | exact noIds_encL (fun _ => rfl) _ | exact noIds_tab (fun _ => rfl) _ _ | rfl)) | exact lw_any | exact lw_int | exact lw_bool | exact lw_ptr rfl | exact lw_slo rfl | exact lw_nils | exact lw_slo_nils | exact lw_sl rfl | exact lw_noid rfl | exact lw_cap rfl (Nat.le_refl _) | assumption))⟩
    · obtain rfl : i = qb := by omega
      exact ⟨rfl, (), [.id 0, .id 1, .id 2, .id 3, .id 4, .id 5, .id 6, .id 7, .id 8], by (refine ⟨by kernel_rfl, ?_, ?_⟩ <;> repeat (first | exact okTms_nil | refine okTms_cons ?_ ?_ | exact okBlks_nil | refine okBlks_cons ?_ ?_ | exact lws_nil | refine lws_cons ?_ ?_ | exact lb_dead | exact lb_same (by (first | assumption | exact noIds_encL (fun _ => rfl) _ | exact noIds_tab (fun _ => rfl) _ _ | rfl)) | exact lb_ro (by (first | assumption | exact noIds_encL (fun _ => rfl) _ | exact noIds_tab (fun _ => rfl) _ _ | rfl)) | exact lb_none | refine lb_cells ?_ (by simp) | exact lb_cap (Nat.le_refl _) (Nat.le_refl _) rfl rfl | exact lb_capn (by assumption) (by (first | assumption | exact noIds_encL (fun _ => rfl) _ | exact noIds_tab (fun _ => rfl) _ _ | rfl)) | exact lw_any | exact lw_int | exact lw_bool | exact lw_ptr rfl | exact lw_slo rfl | exact lw_nils | exact lw_slo_nils | exact lw_sl rfl | exact lw_noid rfl | exact lw_cap rfl (Nat.le_refl _) | assumption))⟩
  refine SSp.to cxq6_ok (n := 40) (g := []) 1 17 rfl (σ := Unit) (fun _ => maW3 M.N M'.N qa qb qd 0) (fun _ => maX o.k o.at' o.old o.w o.was.1 o.was.2.1 o.was.2.2 o.lk.1 o.lk.2.1 o.lk.2.2 an.1 an.2.1.1 an.2.1.2.1 an.2.1.2.2 an.2.2.1 an.2.2.2 (encL (cI .u64) M.W) (encL cL M.L) (encL (cI .u64) M.S) (encL (cI .u64) M'.W) (encL cL M'.L) (encL (cI .u64) M'.S) (encL opL xs)) (mkS_le (Nat.le_of_ble_eq_true rfl)) (by kernel_rfl) ?_ fun _ => ?_
  · rw [ma_j]
    (try simp only [xcm_self, xbq_self, cond_true])
    (repeat (first | (with_reducible refine way_t (by (first | with_reducible rfl | exact t_le (by omega) | exact t_eq (by omega) | exact t_nn (by omega) | exact t_lss (by omega) | exact t_leq (by omega) | exact t_gtr (by omega) | exact t_geq (by omega) | exact t_eql (by omega) | exact t_neq (by omega) | exact t_z (by omega) | exact wd_not_f | assumption)) ?_) | (with_reducible refine way_f (by (first | with_reducible rfl | exact f_le (by omega) | exact f_eq (by omega) | exact f_nn (by omega) | exact f_lss (by omega) | exact f_leq (by omega) | exact f_gtr (by omega) | exact f_geq (by omega) | exact f_eql (by omega) | exact f_neq (by omega) | exact f_z (by omega) | exact wd_not_t | assumption)) ?_)))
    exact ⟨rfl, (), [.id 0, .id 1, .id 2, .id 3, .id 4, .id 5, .id 6, .id 7, .id 8], by (refine ⟨by kernel_rfl, ?_, ?_⟩ <;> repeat (first | exact okTms_nil | refine okTms_cons ?_ ?_ | exact okBlks_nil | refine okBlks_cons ?_ ?_ | exact lws_nil | refine lws_cons ?_ ?_ | exact lb_dead | exact lb_same (by (first | assumption | exact noIds_encL (fun _ => rfl) _ | exact noIds_tab (fun _ => rfl) _ _ | rfl)) | exact lb_ro (by (first | assumption | exact noIds_encL (fun _ => rfl) _ | exact noIds_tab (fun _ => rfl) _ _ | rfl)) | exact lb_none | refine lb_cells ?_ (by simp) | exact lb_cap (Nat.le_refl _) (Nat.le_refl _) rfl rfl | exact lb_capn (by assumption) (by (first | assumption | exact noIds_encL (fun _ => rfl) _ | exact noIds_tab (fun _ => rfl) _ _ | rfl)) | exact lw_any | exact lw_int | exact lw_bool | exact lw_ptr rfl | exact lw_slo rfl | exact lw_nils | exact lw_slo_nils | exact lw_sl rfl | exact lw_noid rfl | exact lw_cap rfl (Nat.le_refl _) | assumption))⟩
  refine SSp.code_to (g := []) 18 rfl (σ := Unit) (fun _ => maW3 M.N M'.N qa qb qd qd) (fun _ => maX o.k o.at' o.old o.w o.was.1 o.was.2.1 o.was.2.2 o.lk.1 o.lk.2.1 o.lk.2.2 an.1 an.2.1.1 an.2.1.2.1 an.2.1.2.2 an.2.2.1 an.2.2.2 (encL (cI .u64) M.W) (encL cL M.L) (encL (cI .u64) M.S) (encL (cI .u64) M'.W) (encL cL M'.L) (encL (cI .u64) M'.S) (encL opL xs)) (by kernel_rfl) ?_ fun _ => ?_
  · refine SCode.loop_vc cxq6_ok (n := 40) 4 (by kernel_rfl) (σ := {i : Nat // i ≤ qd}) (fun i => maW3 M.N M'.N qa qb qd i.1) (fun _ => maX o.k o.at' o.old o.w o.was.1 o.was.2.1 o.was.2.2 o.lk.1 o.lk.2.1 o.lk.2.2 an.1 an.2.1.1 an.2.1.2.1 an.2.1.2.2 an.2.2.1 an.2.2.2 (encL (cI .u64) M.W) (encL cL M.L) (encL (cI .u64) M.S) (encL (cI .u64) M'.W) (encL cL M'.L) (encL (cI .u64) M'.S) (encL opL xs)) (fun i => qd - i.1) (fun _ => Nat.le_of_ble_eq_true rfl) (fun ⟨i, hi⟩ => ?_) ⟨0, Nat.zero_le _⟩
    dsimp only
    rw [ma_k, wd_lss]
    refine ite_way (fun h0 => ?_) (fun h0 => ?_)
    · have h1 : i < M.S.length := by rw [hM.s]; exact h0
      have h2 : i < M'.S.length := by rw [hN.s]; exact h0
      simp only [wd_nat, wd_ix, wd_add, wd_mul, wd_ln, Nat.zero_add, Nat.mul_one, wd_isI, wd_asI, wd_isB, wd_asB, wd_nn, cI_tlen, cB_tlen, cII_tlen, decide_true, cond_true, wd_not_t, wd_not_f, wd_and_t, wd_and_f, encIu64_nth h1, encIu64_nth h2, encIu64_len, hM.s, hN.s, inc_i64 h0 (show qd ≤ 9223372036854775807 by omega)]
      (repeat (with_reducible refine must (by (first | with_reducible rfl | exact t_le (by omega) | exact t_eq (by omega) | exact t_nn (by omega) | exact t_lss (by omega) | exact t_leq (by omega) | exact t_gtr (by omega) | exact t_geq (by omega) | exact t_eql (by omega) | exact t_neq (by omega) | exact t_z (by omega) | exact wd_not_f | assumption)) ?_))
      by_cases e : M.S[i] = M'.S[i]
      · refine way_f (f_neq e) ?_
        exact ⟨rfl, ⟨i + 1, h0⟩, by simp only; omega, [.id 0, .id 1, .id 2, .id 3, .id 4, .id 5, .id 6, .id 7, .id 8], by (refine ⟨by kernel_rfl, ?_, ?_⟩ <;> repeat (first | exact okTms_nil | refine okTms_cons ?_ ?_ | exact okBlks_nil | refine okBlks_cons ?_ ?_ | exact lws_nil | refine lws_cons ?_ ?_ | exact lb_dead | exact lb_same (by (first | assumption | exact noIds_encL (fun _ => rfl) _ | exact noIds_tab (fun _ => rfl) _ _ | rfl)) | exact lb_ro (by (first | assumption | exact noIds_encL (fun _ => rfl) _ | exact noIds_tab (fun _ => rfl) _ _ | rfl)) | exact lb_none | refine lb_cells ?_ (by simp) | exact lb_cap (Nat.le_refl _) (Nat.le_refl _) rfl rfl | exact lb_capn (by assumption) (by (first | assumption | exact noIds_encL (fun _ => rfl) _ | exact noIds_tab (fun _ => rfl) _ _ | rfl)) | exact lw_any | exact lw_int | exact lw_bool | exact lw_ptr rfl | exact lw_slo rfl | exact lw_nils | exact lw_slo_nils | exact lw_sl rfl | exact lw_noid rfl | exact lw_cap rfl (Nat.le_refl _) | assumption))⟩
      · obtain ⟨e1, e2, e3⟩ := ap.s i h1 h2 e
        refine way_t (t_neq e) ?_
        (repeat (first | (with_reducible refine way_t (by (first | with_reducible rfl | exact t_le (by omega) | exact t_eq (by omega) | exact t_nn (by omega) | exact t_lss (by omega) | exact t_leq (by omega) | exact t_gtr (by omega) | exact t_geq (by omega) | exact t_eql (by omega) | exact t_neq (by omega) | exact t_z (by omega) | exact wd_not_f | assumption)) ?_) | (with_reducible refine way_f (by (first | with_reducible rfl | exact f_le (by omega) | exact f_eq (by omega) | exact f_nn (by omega) | exact f_lss (by omega) | exact f_leq (by omega) | exact f_gtr (by omega) | exact f_geq (by omega) | exact f_eql (by omega) | exact f_neq (by omega) | exact f_z (by omega) | exact wd_not_t | assumption)) ?_)))
        exact ⟨rfl, ⟨i + 1, h0⟩, by simp only; omega, [.id 0, .id 1, .id 2, .id 3, .id 4, .id 5, .id 6, .id 7, .id 8], by (refine ⟨by kernel_rfl, ?_, ?_⟩ <;> repeat (first | exact okTms_nil | refine okTms_cons ?_ ?_ | exact okBlks_nil | refine okBlks_cons ?_ ?_ | exact lws_nil | refine lws_cons ?_ ?_ | exact lb_dead | exact lb_same (by (first | assumption | exact noIds_encL (fun _ => rfl) _ | exact noIds_tab (fun _ => rfl) _ _ | rfl)) | exact lb_ro (by (first | assumption | exact noIds_encL (fun _ => rfl) _ | exact noIds_tab (fun _ => rfl) _ _ | rfl)) | exact lb_none | refine lb_cells ?_ (by simp) | exact lb_cap (Nat.le_refl _) (Nat.le_refl _) rfl rfl | exact lb_capn (by assumption) (by (first | assumption | exact noIds_encL (fun _ => rfl) _ | exact noIds_tab (fun _ => rfl) _ _ | rfl)) | exact lw_any | exact lw_int | exact lw_bool | exact lw_ptr rfl | exact lw_slo rfl | exact lw_nils | exact lw_slo_nils | exact lw_sl rfl | exact lw_noid rfl | exact lw_cap rfl (Nat.le_refl _) | assumption))⟩
    · obtain rfl : i = qd := by omega
      exact ⟨rfl, (), [.id 0, .id 1, .id 2, .id 3, .id 4, .id 5, .id 6, .id 7, .id 8], by (refine ⟨by kernel_rfl, ?_, ?_⟩ <;> repeat (first | exact okTms_nil | refine okTms_cons ?_ ?_ | exact okBlks_nil | refine okBlks_cons ?_ ?_ | exact lws_nil | refine lws_cons ?_ ?_ | exact lb_dead | exact lb_same (by (first | assumption | exact noIds_encL (fun _ => rfl) _ | exact noIds_tab (fun _ => rfl) _ _ | rfl)) | exact lb_ro (by (first | assumption | exact noIds_encL (fun _ => rfl) _ | exact noIds_tab (fun _ => rfl) _ _ | rfl)) | exact lb_none | refine lb_cells ?_ (by simp) | exact lb_cap (Nat.le_refl _) (Nat.le_refl _) rfl rfl | exact lb_capn (by assumption) (by (first | assumption | exact noIds_encL (fun _ => rfl) _ | exact noIds_tab (fun _ => rfl) _ _ | rfl)) | exact lw_any | exact lw_int | exact lw_bool | exact lw_ptr rfl | exact lw_slo rfl | exact lw_nils | exact lw_slo_nils | exact lw_sl rfl | exact lw_noid rfl | exact lw_cap rfl (Nat.le_refl _) | assumption))⟩
  refine SSp.last cxq6_ok (n := 40) (mkS_le (Nat.le_of_ble_eq_true rfl)) ?_
  rw [ma_z]
  by_cases e : M.N = M'.N
  · refine way_t (t_eql e) ?_
    exact ⟨trivial, rfl, .bool true, [.ro _], [.id 0], rfl, by (refine ⟨by kernel_rfl, ?_, ?_⟩ <;> repeat (first | exact okTms_nil | refine okTms_cons ?_ ?_ | exact okBlks_nil | refine okBlks_cons ?_ ?_ | exact lws_nil | refine lws_cons ?_ ?_ | exact lb_dead | exact lb_same (by (first | assumption | exact noIds_encL (fun _ => rfl) _ | exact noIds_tab (fun _ => rfl) _ _ | rfl)) | exact lb_ro (by (first | assumption | exact noIds_encL (fun _ => rfl) _ | exact noIds_tab (fun _ => rfl) _ _ | rfl)) | exact lb_none | refine lb_cells ?_ (by simp) | exact lb_cap (Nat.le_refl _) (Nat.le_refl _) rfl rfl | exact lb_capn (by assumption) (by (first | assumption | exact noIds_encL (fun _ => rfl) _ | exact noIds_tab (fun _ => rfl) _ _ | rfl)) | exact lw_any | exact lw_int | exact lw_bool | exact lw_ptr rfl | exact lw_slo rfl | exact lw_nils | exact lw_slo_nils | exact lw_sl rfl | exact lw_noid rfl | exact lw_cap rfl (Nat.le_refl _) | assumption))⟩
  · obtain ⟨e1, e2, e3⟩ := ap.n.resolve_left e
    refine way_f (f_eql e) ?_
    simp only [e2, cond_true]
    (repeat (first | (with_reducible refine way_t (by (first | with_reducible rfl | exact t_le (by omega) | exact t_eq (by omega) | exact t_nn (by omega) | exact t_lss (by omega) | exact t_leq (by omega) | exact t_gtr (by omega) | exact t_geq (by omega) | exact t_eql (by omega) | exact t_neq (by omega) | exact t_z (by omega) | exact wd_not_f | assumption)) ?_) | (with_reducible refine way_f (by (first | with_reducible rfl | exact f_le (by omega) | exact f_eq (by omega) | exact f_nn (by omega) | exact f_lss (by omega) | exact f_leq (by omega) | exact f_gtr (by omega) | exact f_geq (by omega) | exact f_eql (by omega) | exact f_neq (by omega) | exact f_z (by omega) | exact wd_not_t | assumption)) ?_)))
    rw [show xcm .eql M'.N o.w = true from t_eql e3]
    exact ⟨trivial, rfl, .bool true, [.ro _], [.id 0], rfl, by (refine ⟨by kernel_rfl, ?_, ?_⟩ <;> repeat (first | exact okTms_nil | refine okTms_cons ?_ ?_ | exact okBlks_nil | refine okBlks_cons ?_ ?_ | exact lws_nil | refine lws_cons ?_ ?_ | exact lb_dead | exact lb_same (by (first | assumption | exact noIds_encL (fun _ => rfl) _ | exact noIds_tab (fun _ => rfl) _ _ | rfl)) | exact lb_ro (by (first | assumption | exact noIds_encL (fun _ => rfl) _ | exact noIds_tab (fun _ => rfl) _ _ | rfl)) | exact lb_none | refine lb_cells ?_ (by simp) | exact lb_cap (Nat.le_refl _) (Nat.le_refl _) rfl rfl | exact lb_capn (by assumption) (by (first | assumption | exact noIds_encL (fun _ => rfl) _ | exact noIds_tab (fun _ => rfl) _ _ | rfl)) | exact lw_any | exact lw_int | exact lw_bool | exact lw_ptr rfl | exact lw_slo rfl | exact lw_nils | exact lw_slo_nils | exact lw_sl rfl | exact lw_noid rfl | exact lw_cap rfl (Nat.le_refl _) | assumption))⟩
end
end Go.Lev
