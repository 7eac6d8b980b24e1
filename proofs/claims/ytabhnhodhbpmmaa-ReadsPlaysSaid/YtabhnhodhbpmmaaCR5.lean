/- ReadsPlays (P7.1, P7.2): for any room, any stripes and versions, any locks the law returns true; what was there stays as it was. No condition. -/
import Derived.Test.YtabhnhodhbpmmaaCR4
import Derived.Test.YtabhnhodhbpmmaaLc
import Derived.Test.YtabhnhodhbpmmaaChecked
import Derived.KernelRfl

namespace Go.Lev
open Go.RowKit
set_option linter.unusedVariables false
set_option linter.unusedSimpArgs false
set_option maxRecDepth 100000
noncomputable section
/-! rows of integers -/
theorem encIu64_len (xs : List Int) : (encL (cI .u64) xs).length = xs.length := by rw [encL_length (cI_len .u64)]; omega
theorem encIu64_nth {xs : List Int} {i : Nat} (h : i < xs.length) : nthD (encL (cI .u64) xs) i = .int .u64 xs[i] := by
  have := encL_nth (cI_len .u64) (j := 0) h (by omega)
  simp only [Nat.mul_one, Nat.add_zero] at this
  exact this
theorem noIds_Iu64 (xs : List Int) : noIds (encL (cI .u64) xs) = true := noIds_encL (fun _ => rfl) xs
theorem runs7 : isTrue (lrun Go.Proofs.Try.prog 4000 3 []) = true := by kernel_rfl
theorem cxp_ok : CtrOk Go.Proofs.Try.prog (ctrOf cxp) := cxl_ok ⟨runG_ok runs7, newG_ok, onewG_ok, withinG_ok, addG_ok, oaddG_ok, cloneSeen_ok, sameCSeenG_ok, stdG_ok, ostdG_ok, getG_ok, trivial⟩
theorem nm_self (x : Int) : xcm .neq x x = false := by rw [xcm_neq]; simp
theorem bq_self (b : Bool) : xbq b b = true := by rw [wd_bq]; simp
theorem lk_push (xs : List Lk) (a : Int) (b : Bool) (c : Int) : xcat (xcut (encL cL xs) 0 (xs.length * 3)) [.int .u64 a, .bool b, .int .i64 c] = encL cL (xs ++ [(a, b, c)]) := by
  rw [xcut_all (by rw [lk_n]; omega), encL_append]; rfl
theorem lk_set' {xs : List Lk} {i : Nat} (h : i < xs.length) (a : Int) (b : Bool) (c : Int) : xlay (encL cL xs) (i * 3) [.int .u64 a, .bool b, .int .i64 c] = encL cL (xs.set i (a, b, c)) := lk_set h (a, b, c)
theorem fndV_out {xs : List (Int × Int)} {s : Int} (h : fndV xs s = none) : ∀ j (hj : j < xs.length), xs[j].1 ≠ s := by
  induction xs with
  | nil => intro j hj; simp at hj
  | cons x r ih =>
    rw [fndV] at h
    by_cases q : x.1 = s
    · rw [if_pos q] at h; cases h
    · rw [if_neg q] at h
      intro j hj
      cases j with
      | zero => exact q
      | succ j => exact ih h j (by simpa using hj)
structure Gd (xs : List (Int × Int)) (i : Nat) : Prop where
  n : xs.length ≤ i
  p : ∀ x ∈ xs, 0 ≤ x.1
  u : ∀ a b (ha : a < xs.length) (hb : b < xs.length), xs[a].1 = xs[b].1 → a = b
theorem Gd.add {xs : List (Int × Int)} {i : Nat} (h : Gd xs i) (most s v : Int) : Gd (addF most xs s v).2 (i + 1) := by
  have same : Gd xs (i + 1) := ⟨Nat.le_succ_of_le h.n, h.p, h.u⟩
  unfold addF
  by_cases c : s < 0 ∨ 16 ≤ s ∨ 4611686018427387904 ≤ v
  · rw [if_pos c]; exact same
  rw [if_neg c]
  cases hf : fndV xs s with
  | some u => exact same
  | none =>
    by_cases c4 : most ≤ xs.length
    · simp only [if_pos c4]; exact same
    · simp only [if_neg c4]
      have ho := fndV_out hf
      refine ⟨by simpa using h.n, fun x hx => ?_, fun a b ha hb e => ?_⟩
      · rcases List.mem_append.1 hx with hx | hx
        · exact h.p x hx
        · rw [List.mem_singleton.1 hx]; show 0 ≤ s; omega
      · have la : a < xs.length + 1 := by simpa using ha
        have lb : b < xs.length + 1 := by simpa using hb
        rcases Nat.lt_or_ge a xs.length with ha' | ha' <;> rcases Nat.lt_or_ge b xs.length with hb' | hb'
        · rw [List.getElem_append_left ha', List.getElem_append_left hb'] at e; exact h.u a b ha' hb' e
        · have : b = xs.length := by omega
          subst this
          rw [List.getElem_append_left ha', List.getElem_append_right (Nat.le_refl _)] at e
          exact absurd (by simpa using e) (ho a ha')
        · have : a = xs.length := by omega
          subst this
          rw [List.getElem_append_left hb', List.getElem_append_right (Nat.le_refl _)] at e
          exact absurd (by simpa using e.symm) (ho b hb')
        · omega
/-- The last of that stripe, as far as was looked. -/
structure Lst (xs : List (Int × Int)) (s : Int) (p : Nat × Int × Bool) : Prop where
  n : p.1 ≤ xs.length
  f : p.2.2 = false → p.2.1 = 0 ∧ ∀ k (hk : k < xs.length), k < p.1 → xs[k].1 ≠ s
  t : p.2.2 = true → ∃ k, ∃ hk : k < xs.length, xs[k].1 = s ∧ p.2.1 = xs[k].2
theorem Lst.fin {xs : List (Int × Int)} {i : Nat} {s : Int} {p : Nat × Int × Bool} (g : Gd xs i) (h : Lst xs s p) (e : xs.length ≤ p.1) : p.2.1 = fV xs s ∧ p.2.2 = fB xs s := by
  cases q : p.2.2 with
  | false =>
    obtain ⟨h1, h2⟩ := h.f q
    have hf : fndV xs s = none := fndV_none fun j hj => h2 j hj (by omega)
    exact ⟨by rw [h1, fV, hf]; rfl, by rw [fB, hf]; rfl⟩
  | true =>
    obtain ⟨k, hk, h1, h2⟩ := h.t q
    have hf := fndV_some hk (fun j hj hjk e => by have := g.u j k hj hk (e.trans h1.symm); omega) h1
    exact ⟨by rw [h2, fV, hf]; rfl, by rw [fB, hf]; rfl⟩
abbrev ids8 : List Src := [.id 0, .id 1, .id 2, .id 3, .id 4, .id 5, .id 6, .id 7]
/-- The locks are laid. -/
theorem rp_locks (most : Int) (n0 : Nat) (lx kx : List LV) (nlx : noIds lx = true) (nkx : noIds kx = true) (us : List Int) (hu : us.length ≤ 9223372036854775807) (ks : List Lk) (hk : ks.length ≤ 40) (Φ : Pk) : SCode Go.Proofs.Try.prog 158 (nthC (sp Go.Proofs.Try.prog 4) 10) 3 (mkTm 158 (rpT n0 us.length ks.length 0)) (mkS (rpK lx kx (encL (cI .u64) us) most 0 [] (encL cL ks)))
    (vK rpL (toK (σ := {p : Nat × List Lk // p.2.length ≤ 56}) 3 158 rpL [] (fun p => rpT n0 us.length p.1.2.length p.1.1) (fun p => rpK lx kx (encL (cI .u64) us) most 0 [] (encL cL p.1.2)) Φ)) := by
  have nus := noIds_Iu64 us
  refine SCode.loop_vc (cx := cxp) cxp_ok (n := 60) 0 (by kernel_rfl) (σ := {p : Nat × List Lk // p.1 ≤ 16 ∧ p.1 ≤ us.length ∧ p.2.length ≤ 40 + p.1 ∧ (p.1 ≤ p.2.length)}) (fun p => rpT n0 us.length p.1.2.length p.1.1) (fun p => rpK lx kx (encL (cI .u64) us) most 0 [] (encL cL p.1.2)) (fun p => 16 - p.1.1) (fun _ => Nat.le_of_ble_eq_true rfl) (fun ⟨⟨i, ks⟩, h16, hiu, h40, hik⟩ => ?_) ⟨(0, ks), Nat.zero_le _, Nat.zero_le _, hk, Nat.zero_le _⟩
  dsimp only at h16 hiu h40 hik ⊢
  have nl := noids_l ks
  rw [rp_b]
  by_cases c1 : i < us.length <;> by_cases c2 : i < 16
  · have e3 : xar .add .i64 (i : Int) 1 = ((i + 1 : Nat) : Int) := inc_i64 c1 (by omega)
    by_cases c3 : ks.length ≤ i
    · have L1 : (ks ++ [((0 : Int), false, (0 : Int))]).length = ks.length + 1 := by simp
      have hi : i < (ks ++ [((0 : Int), false, (0 : Int))]).length := by omega
      have m1 := noids_l ((ks ++ [((0 : Int), false, (0 : Int))]).set i (xar .rem .u64 us[i] 3, false, 0))
      have L2 : ((ks ++ [((0 : Int), false, (0 : Int))]).set i (xar .rem .u64 us[i] 3, false, 0)).length = ks.length + 1 := by simp
      simp only [wd_nat, wd_asV, wd_isV, wd_ix, wd_add, wd_mul, wd_ln, Nat.zero_add, Nat.mul_one, wd_isI, wd_asI, wd_isB, wd_asB, wd_nn, cI_tlen, cB_tlen, cII_tlen, decide_true, cond_true, wd_not_t, wd_not_f, wd_and_t, wd_and_f, Nat.add_assoc, Nat.reduceAdd, lk_push, lk_set' hi, lk_n, L1, e3, encIu64_nth c1, encIu64_len]
      (with_reducible repeat first | refine zq1 ?_ | refine zq2 ?_ | refine zq3 ?_ | refine zq4 ?_ | refine zq5 ?_ | refine zq6 ?_ | refine zq7 ?_ | refine zq8 ?_ | refine zq9 ?_ | refine zqa ?_ | refine zqb ?_ | refine zqc ?_ | refine zqd ?_ | refine zqe ?_ | refine zqf ?_ | refine zqg ?_ | refine zqh ?_ | refine zqi ?_ | refine zqj ?_ | refine zqk ?_ | refine zql ?_ | refine zqm ?_ | refine zqn ?_ | refine zqo ?_ | refine zqp ?_)
      refine ⟨rfl, ⟨(i + 1, (ks ++ [((0 : Int), false, (0 : Int))]).set i (xar .rem .u64 us[i] 3, false, 0)), by simp only; omega, by simp only; omega, by simp only [L2]; omega, by simp only [L2]; omega⟩, by simp only; omega, [.id 0, .id 1, .id 2, .id 3, .id 4, .id 5, .id 6, .id 9], ?_⟩
      dsimp only
      rw [L2]
      (refine ⟨by kernel_rfl, ?_, ?_⟩ <;> repeat first | exact okTms_nil | refine okTms_cons ?_ ?_ | exact okBlks_nil | refine okBlks_cons ?_ ?_ | exact lws_nil | refine lws_cons ?_ ?_ | exact lb_dead | exact zy1 | exact zy2 | exact lb_none | refine zy3 ?_ | exact zy4 | exact lw_any | exact lw_int | exact lw_bool | exact zy5 | exact zy6 | exact lw_nils | exact lw_slo_nils | exact zy7 | exact zy8 | exact zy9 | refine lw_tup ?_ | refine lw_agg ?_ | assumption)
    · have hi : i < ks.length := by omega
      have m1 := noids_l (ks.set i (xar .rem .u64 us[i] 3, false, 0))
      have L2 : (ks.set i (xar .rem .u64 us[i] 3, false, 0)).length = ks.length := by simp
      simp only [wd_nat, wd_asV, wd_isV, wd_ix, wd_add, wd_mul, wd_ln, Nat.zero_add, Nat.mul_one, wd_isI, wd_asI, wd_isB, wd_asB, wd_nn, cI_tlen, cB_tlen, cII_tlen, decide_true, cond_true, wd_not_t, wd_not_f, wd_and_t, wd_and_f, Nat.add_assoc, Nat.reduceAdd, lk_set' hi, lk_n, e3, encIu64_nth c1, encIu64_len]
      (with_reducible repeat first | refine zq1 ?_ | refine zq2 ?_ | refine zq3 ?_ | refine zq4 ?_ | refine zq5 ?_ | refine zq6 ?_ | refine zq7 ?_ | refine zq8 ?_ | refine zq9 ?_ | refine zqa ?_ | refine zqb ?_ | refine zqc ?_ | refine zqd ?_ | refine zqe ?_ | refine zqf ?_ | refine zqg ?_ | refine zqh ?_ | refine zqi ?_ | refine zqj ?_ | refine zqk ?_ | refine zql ?_ | refine zqm ?_ | refine zqn ?_ | refine zqo ?_ | refine zqp ?_)
      refine ⟨rfl, ⟨(i + 1, ks.set i (xar .rem .u64 us[i] 3, false, 0)), by simp only; omega, by simp only; omega, by simp only [L2]; omega, by simp only [L2]; omega⟩, by simp only; omega, ids8, ?_⟩
      dsimp only
      rw [L2]
      (refine ⟨by kernel_rfl, ?_, ?_⟩ <;> repeat first | exact okTms_nil | refine okTms_cons ?_ ?_ | exact okBlks_nil | refine okBlks_cons ?_ ?_ | exact lws_nil | refine lws_cons ?_ ?_ | exact lb_dead | exact zy1 | exact zy2 | exact lb_none | refine zy3 ?_ | exact zy4 | exact lw_any | exact lw_int | exact lw_bool | exact zy5 | exact zy6 | exact lw_nils | exact lw_slo_nils | exact zy7 | exact zy8 | exact zy9 | refine lw_tup ?_ | refine lw_agg ?_ | assumption)
  all_goals
    (with_reducible repeat first | refine zq1 ?_ | refine zq2 ?_ | refine zq3 ?_ | refine zq4 ?_ | refine zq5 ?_ | refine zq6 ?_ | refine zq7 ?_ | refine zq8 ?_ | refine zq9 ?_ | refine zqa ?_ | refine zqb ?_ | refine zqc ?_ | refine zqd ?_ | refine zqe ?_ | refine zqf ?_ | refine zqg ?_ | refine zqh ?_ | refine zqi ?_ | refine zqj ?_ | refine zqk ?_ | refine zql ?_ | refine zqm ?_ | refine zqn ?_ | refine zqo ?_ | refine zqp ?_)
    exact ⟨rfl, ⟨(i, ks), by simp only; omega⟩, ids8, by (refine ⟨by kernel_rfl, ?_, ?_⟩ <;> repeat first | exact okTms_nil | refine okTms_cons ?_ ?_ | exact okBlks_nil | refine okBlks_cons ?_ ?_ | exact lws_nil | refine lws_cons ?_ ?_ | exact lb_dead | exact zy1 | exact zy2 | exact lb_none | refine zy3 ?_ | exact zy4 | exact lw_any | exact lw_int | exact lw_bool | exact zy5 | exact zy6 | exact lw_nils | exact lw_slo_nils | exact zy7 | exact zy8 | exact zy9 | refine lw_tup ?_ | refine lw_agg ?_ | assumption)⟩
/-- Both note the same, and tell the same of it. -/
theorem rp_asks (most : Int) (n0 i : Nat) (lx kx vx : List LV) (nlx : noIds lx = true) (nkx : noIds kx = true) (nvx : noIds vx = true) (ks : List Lk) (hk : ks.length ≤ 56) (xs : List (Int × Int)) (hi : i < 60) (g : Gd xs i) (s v : Int) (Φ : Pk) : xorders Go.Proofs.Try.prog cxp 60 158 (nthC rpB 1) (mkTm 158 (rpV n0 ks.length i)) (mkS (rpJ lx kx vx most xs.length (encL cell xs) (encL cL ks) s v))
    (vK rpL (toK (σ := {ys : List (Int × Int) // Gd ys (i + 1)}) 3 158 rpL [] (fun _ => rpX n0 ks.length i) (fun ys => rpJ lx kx vx most ys.1.length (encL cell ys.1) (encL cL ks) s v) Φ)) := by
  have nx := noids_c xs
  have nl := noids_l ks
  have gy := g.add most s v
  have a1 : addN most (encL cell xs) s v = (addF most xs s v).2.length := by rw [addN, decC_enc]
  have a2 : addC most (encL cell xs) s v = encL cell (addF most xs s v).2 := by rw [addC, decC_enc]
  have gn := g.n
  have o1 : okC (encL cell xs) xs.length = true := okC_enc (by omega)
  rw [rp_o]
  simp only [rp_o_b1, a1, a2, o1, cm_self, nm_self, cond_true, cond_false]
  generalize (addF most xs s v).2 = ys at gy ⊢
  have yn := gy.n
  have ny := noids_c ys
  have x1 := xnoid_c ys
  have ly := cell_n ys
  have o2 : okC (encL cell ys) ys.length = true := okC_enc (by omega)
  have o3 : okQ (encL cell ys) ys.length = true := okQ_iff.2 ⟨ys, rfl, rfl, by omega, gy.p⟩
  have o4 : okL (encL cL ks) ks.length = true := okL_enc (by omega)
  simp only [o2, o3, o4, x1, ly, wd_ln, wd_mul, wd_add, sameCSeen_self, bq_self, wd_not_t, cond_true, cond_false]
  (with_reducible repeat first | refine zq1 ?_ | refine zq2 ?_ | refine zq3 ?_ | refine zq4 ?_ | refine zq5 ?_ | refine zq6 ?_ | refine zq7 ?_ | refine zq8 ?_ | refine zq9 ?_ | refine zqa ?_ | refine zqb ?_ | refine zqc ?_ | refine zqd ?_ | refine zqe ?_ | refine zqf ?_ | refine zqg ?_ | refine zqh ?_ | refine zqi ?_ | refine zqj ?_ | refine zqk ?_ | refine zql ?_ | refine zqm ?_ | refine zqn ?_ | refine zqo ?_ | refine zqp ?_)
  exact ⟨rfl, ⟨ys, gy⟩, [.id 0, .id 1, .id 2, .id 3, .id 9, .id 5, .id 10, .id 7, .id 8], by (refine ⟨by kernel_rfl, ?_, ?_⟩ <;> repeat first | exact okTms_nil | refine okTms_cons ?_ ?_ | exact okBlks_nil | refine okBlks_cons ?_ ?_ | exact lws_nil | refine lws_cons ?_ ?_ | exact lb_dead | exact zy1 | exact zy2 | exact lb_none | refine zy3 ?_ | exact zy4 | exact lw_any | exact lw_int | exact lw_bool | exact zy5 | exact zy6 | exact lw_nils | exact lw_slo_nils | exact zy7 | exact zy8 | exact zy9 | refine lw_tup ?_ | refine lw_agg ?_ | assumption)⟩
/-- What the reference holds of that stripe. -/
theorem rp_last (most : Int) (n0 i : Nat) (lx kx vx : List LV) (nlx : noIds lx = true) (nkx : noIds kx = true) (nvx : noIds vx = true) (ks : List Lk) (xs : List (Int × Int)) (hi : i ≤ 60) (g : Gd xs i) (s v : Int) (i' : Nat) (Φ : Pk) : SCode Go.Proofs.Try.prog 158 (nthC rpB 6) 3 (mkTm 158 (rpY n0 ks.length i' (fV xs s) (fB xs s) 0 false 0)) (mkS (rpJ lx kx vx most xs.length (encL cell xs) (encL cL ks) s v))
    (vK rpL (toK (σ := Nat) 3 158 rpL [] (fun j => rpY n0 ks.length i' (fV xs s) (fB xs s) (fV xs s) (fB xs s) j) (fun _ => rpJ lx kx vx most xs.length (encL cell xs) (encL cL ks) s v) Φ)) := by
  have nx := noids_c xs
  have nl := noids_l ks
  have gn := g.n
  refine SCode.loop_vc (cx := cxp) cxp_ok (n := 60) 4 (by kernel_rfl) (σ := {p : Nat × Int × Bool // Lst xs s p}) (fun p => rpY n0 ks.length i' (fV xs s) (fB xs s) p.1.2.1 p.1.2.2 p.1.1) (fun _ => rpJ lx kx vx most xs.length (encL cell xs) (encL cL ks) s v) (fun p => xs.length - p.1.1) (fun _ => Nat.le_of_ble_eq_true rfl) (fun ⟨⟨j, w, is⟩, h⟩ => ?_) ⟨(0, 0, false), Nat.zero_le _, fun _ => ⟨rfl, fun k hk h => absurd h (by simp)⟩, fun h => by cases h⟩
  have hn := h.n
  dsimp only at hn ⊢
  rw [rp_g, wd_lss]
  refine ite_way (fun hk => ?_) (fun hk => ?_)
  · have e3 : xar .add .i64 (j : Int) 1 = ((j + 1 : Nat) : Int) := inc_i64 hk (by omega)
    simp only [wd_nat, wd_asV, wd_isV, wd_ix, wd_add, wd_mul, wd_ln, Nat.zero_add, Nat.mul_one, wd_isI, wd_asI, wd_isB, wd_asB, wd_nn, cI_tlen, cB_tlen, cII_tlen, decide_true, cond_true, wd_not_t, wd_not_f, wd_and_t, wd_and_f, Nat.add_assoc, Nat.reduceAdd, cell_0 hk, cell_1 hk, cell_n, e3]
    by_cases c : xs[j].1 = s
    · (with_reducible repeat first | refine zq1 ?_ | refine zq2 ?_ | refine zq3 ?_ | refine zq4 ?_ | refine zq5 ?_ | refine zq6 ?_ | refine zq7 ?_ | refine zq8 ?_ | refine zq9 ?_ | refine zqa ?_ | refine zqb ?_ | refine zqc ?_ | refine zqd ?_ | refine zqe ?_ | refine zqf ?_ | refine zqg ?_ | refine zqh ?_ | refine zqi ?_ | refine zqj ?_ | refine zqk ?_ | refine zql ?_ | refine zqm ?_ | refine zqn ?_ | refine zqo ?_ | refine zqp ?_)
      exact ⟨rfl, ⟨(j + 1, xs[j].2, true), hk, fun h => by (cases h), fun _ => ⟨j, hk, c, rfl⟩⟩, by simp only; omega, [.id 0, .id 1, .id 2, .id 3, .id 4, .id 5, .id 6, .id 7, .id 8], by (refine ⟨by kernel_rfl, ?_, ?_⟩ <;> repeat first | exact okTms_nil | refine okTms_cons ?_ ?_ | exact okBlks_nil | refine okBlks_cons ?_ ?_ | exact lws_nil | refine lws_cons ?_ ?_ | exact lb_dead | exact zy1 | exact zy2 | exact lb_none | refine zy3 ?_ | exact zy4 | exact lw_any | exact lw_int | exact lw_bool | exact zy5 | exact zy6 | exact lw_nils | exact lw_slo_nils | exact zy7 | exact zy8 | exact zy9 | refine lw_tup ?_ | refine lw_agg ?_ | assumption)⟩
    · (with_reducible repeat first | refine zq1 ?_ | refine zq2 ?_ | refine zq3 ?_ | refine zq4 ?_ | refine zq5 ?_ | refine zq6 ?_ | refine zq7 ?_ | refine zq8 ?_ | refine zq9 ?_ | refine zqa ?_ | refine zqb ?_ | refine zqc ?_ | refine zqd ?_ | refine zqe ?_ | refine zqf ?_ | refine zqg ?_ | refine zqh ?_ | refine zqi ?_ | refine zqj ?_ | refine zqk ?_ | refine zql ?_ | refine zqm ?_ | refine zqn ?_ | refine zqo ?_ | refine zqp ?_)
      refine ⟨rfl, ⟨(j + 1, w, is), hk, fun e => ⟨(h.f e).1, fun k hk' hkj => ?_⟩, h.t⟩, by simp only; omega, [.id 0, .id 1, .id 2, .id 3, .id 4, .id 5, .id 6, .id 7, .id 8], by (refine ⟨by kernel_rfl, ?_, ?_⟩ <;> repeat first | exact okTms_nil | refine okTms_cons ?_ ?_ | exact okBlks_nil | refine okBlks_cons ?_ ?_ | exact lws_nil | refine lws_cons ?_ ?_ | exact lb_dead | exact zy1 | exact zy2 | exact lb_none | refine zy3 ?_ | exact zy4 | exact lw_any | exact lw_int | exact lw_bool | exact zy5 | exact zy6 | exact lw_nils | exact lw_slo_nils | exact zy7 | exact zy8 | exact zy9 | refine lw_tup ?_ | refine lw_agg ?_ | assumption)⟩
      rcases Nat.lt_succ_iff_lt_or_eq.1 hkj with h' | rfl
      · exact (h.f e).2 k hk' h'
      · exact c
  · obtain ⟨e1, e2⟩ := h.fin g (by simp only; omega)
    dsimp only at e1 e2
    subst e1 e2
    exact ⟨rfl, j, [.id 0, .id 1, .id 2, .id 3, .id 4, .id 5, .id 6, .id 7, .id 8], by (refine ⟨by kernel_rfl, ?_, ?_⟩ <;> repeat first | exact okTms_nil | refine okTms_cons ?_ ?_ | exact okBlks_nil | refine okBlks_cons ?_ ?_ | exact lws_nil | refine lws_cons ?_ ?_ | exact lb_dead | exact zy1 | exact zy2 | exact lb_none | refine zy3 ?_ | exact zy4 | exact lw_any | exact lw_int | exact lw_bool | exact zy5 | exact zy6 | exact lw_nils | exact lw_slo_nils | exact zy7 | exact zy8 | exact zy9 | refine lw_tup ?_ | refine lw_agg ?_ | assumption)⟩
set_option maxHeartbeats 1000000 in
theorem plays_fun (most : Int) (ls : List (Int × Int)) (ks : List Lk) (us : List Int) (n0 n1 n2 : Nat) (e0 : ls.length = n0) (e1 : ks.length = n1) (e2 : us.length = n2) (h0 : n0 ≤ 9223372036854775807) (h1 : n1 * 24 ≤ 140737488355328) (h2 : n2 ≤ 9223372036854775807) :
    SFun Go.Proofs.Try.prog 4 [.int .i64 most, .slo 0 0 n0 0, .slo 1 0 n1 0, .slo 2 0 n2 0] (mkS [.ro (encL cell ls), .ro (encL cL ks), .ro (encL (cI .u64) us)]) fun l _ => l = .bool true := by
  subst e0 e1 e2
  refine SFun.mono (SFun.pieces (Q := fun l _ => l = .bool true) 158 3 rpL [8] (by kernel_rfl) rfl rfl rfl ?_) fun l s' ⟨b0, h1, _⟩ => h1
  have nlx := noids_c ls
  have nkx := noids_l ks
  have nvx := noIds_Iu64 us
  refine SSp.to cxp_ok (n := 60) (g := []) 10 10 rfl (σ := {_k : Unit // ks.length ≤ 40}) (fun _ => rpT ls.length us.length ks.length 0) (fun _ => rpK (encL cell ls) (encL cL ks) (encL (cI .u64) us) (xmn (xmx most 1) 16) 0 [] (encL cL ks)) (mkS_le (Nat.le_refl _)) (by kernel_rfl) ?_ fun ⟨_, hk40⟩ => ?_
  · have lk := lk_n ks
    have cc : xcut (encL cL ks) 0 (ks.length * 3) = encL cL ks := xcut_all (by omega)
    rw [rp_a]
    by_cases z : ks.length = 0
    · have : ks = [] := List.length_eq_zero_iff.1 z
      subst this
      exact ⟨rfl, ⟨(), Nat.zero_le _⟩, [.id 0, .id 1, .id 2, .id 3, .id 4, .id 5, .id 6, .none], by (refine ⟨by kernel_rfl, ?_, ?_⟩ <;> repeat first | exact okTms_nil | refine okTms_cons ?_ ?_ | exact okBlks_nil | refine okBlks_cons ?_ ?_ | exact lws_nil | refine lws_cons ?_ ?_ | exact lb_dead | exact zy1 | exact zy2 | exact lb_none | refine zy3 ?_ | exact zy4 | exact lw_any | exact lw_int | exact lw_bool | exact zy5 | exact zy6 | exact lw_nils | exact lw_slo_nils | exact zy7 | exact zy8 | exact zy9 | refine lw_tup ?_ | refine lw_agg ?_ | assumption)⟩
    by_cases c : ks.length ≤ 40
    · simp only [wd_nat, wd_asV, wd_isV, wd_ix, wd_add, wd_mul, wd_ln, Nat.zero_add, Nat.mul_one, wd_isI, wd_asI, wd_isB, wd_asB, wd_nn, cI_tlen, cB_tlen, cII_tlen, decide_true, cond_true, wd_not_t, wd_not_f, wd_and_t, wd_and_f, lk, cc]
      (with_reducible repeat first | refine zq1 ?_ | refine zq2 ?_ | refine zq3 ?_ | refine zq4 ?_ | refine zq5 ?_ | refine zq6 ?_ | refine zq7 ?_ | refine zq8 ?_ | refine zq9 ?_ | refine zqa ?_ | refine zqb ?_ | refine zqc ?_ | refine zqd ?_ | refine zqe ?_ | refine zqf ?_ | refine zqg ?_ | refine zqh ?_ | refine zqi ?_ | refine zqj ?_ | refine zqk ?_ | refine zql ?_ | refine zqm ?_ | refine zqn ?_ | refine zqo ?_ | refine zqp ?_)
      exact ⟨rfl, ⟨(), c⟩, ids8, by (refine ⟨by kernel_rfl, ?_, ?_⟩ <;> repeat first | exact okTms_nil | refine okTms_cons ?_ ?_ | exact okBlks_nil | refine okBlks_cons ?_ ?_ | exact lws_nil | refine lws_cons ?_ ?_ | exact lb_dead | exact zy1 | exact zy2 | exact lb_none | refine zy3 ?_ | exact zy4 | exact lw_any | exact lw_int | exact lw_bool | exact zy5 | exact zy6 | exact lw_nils | exact lw_slo_nils | exact zy7 | exact zy8 | exact zy9 | refine lw_tup ?_ | refine lw_agg ?_ | assumption)⟩
    · simp only [wd_nat, wd_asV, wd_isV, wd_ix, wd_add, wd_mul, wd_ln, Nat.zero_add, Nat.mul_one, wd_isI, wd_asI, wd_isB, wd_asB, wd_nn, cI_tlen, cB_tlen, cII_tlen, decide_true, cond_true, wd_not_t, wd_not_f, wd_and_t, wd_and_f, lk, cc]
      (with_reducible repeat first | refine zq1 ?_ | refine zq2 ?_ | refine zq3 ?_ | refine zq4 ?_ | refine zq5 ?_ | refine zq6 ?_ | refine zq7 ?_ | refine zq8 ?_ | refine zq9 ?_ | refine zqa ?_ | refine zqb ?_ | refine zqc ?_ | refine zqd ?_ | refine zqe ?_ | refine zqf ?_ | refine zqg ?_ | refine zqh ?_ | refine zqi ?_ | refine zqj ?_ | refine zqk ?_ | refine zql ?_ | refine zqm ?_ | refine zqn ?_ | refine zqo ?_ | refine zqp ?_)
      exact ⟨trivial, rfl, .bool true, [.ro _, .ro _, .ro _], [.id 0, .id 1, .id 2], rfl, by (refine ⟨by kernel_rfl, ?_, ?_⟩ <;> repeat first | exact okTms_nil | refine okTms_cons ?_ ?_ | exact okBlks_nil | refine okBlks_cons ?_ ?_ | exact lws_nil | refine lws_cons ?_ ?_ | exact lb_dead | exact zy1 | exact zy2 | exact lb_none | refine zy3 ?_ | exact zy4 | exact lw_any | exact lw_int | exact lw_bool | exact zy5 | exact zy6 | exact lw_nils | exact lw_slo_nils | exact zy7 | exact zy8 | exact zy9 | refine lw_tup ?_ | refine lw_agg ?_ | assumption)⟩
  generalize xmn (xmx most 1) 16 = most' at *
  refine SSp.code_to (g := []) 11 rfl (σ := {p : Nat × List Lk // p.2.length ≤ 56}) (fun p => rpT ls.length us.length p.1.2.length p.1.1) (fun p => rpK (encL cell ls) (encL cL ks) (encL (cI .u64) us) most' 0 [] (encL cL p.1.2)) (by kernel_rfl) (rp_locks most' ls.length _ _ nlx nkx us h2 ks hk40 _) fun ⟨⟨i0, ms⟩, hm⟩ => ?_
  dsimp only at hm ⊢
  have nl := noids_l ms
  refine SSp.to cxp_ok (n := 60) (g := []) 1 12 rfl (σ := Unit) (fun _ => rpU ls.length ms.length 0) (fun _ => rpK (encL cell ls) (encL cL ks) (encL (cI .u64) us) most' 0 [] (encL cL ms)) (mkS_le (Nat.le_of_ble_eq_true rfl)) (by kernel_rfl) ?_ fun _ => ?_
  · rw [rp_c]
    exact ⟨rfl, (), ids8, by (refine ⟨by kernel_rfl, ?_, ?_⟩ <;> repeat first | exact okTms_nil | refine okTms_cons ?_ ?_ | exact okBlks_nil | refine okBlks_cons ?_ ?_ | exact lws_nil | refine lws_cons ?_ ?_ | exact lb_dead | exact zy1 | exact zy2 | exact lb_none | refine zy3 ?_ | exact zy4 | exact lw_any | exact lw_int | exact lw_bool | exact zy5 | exact zy6 | exact lw_nils | exact lw_slo_nils | exact zy7 | exact zy8 | exact zy9 | refine lw_tup ?_ | refine lw_agg ?_ | assumption)⟩
  refine SSp.code_to (g := []) 13 rfl (σ := Unit) (fun _ => []) (fun _ => [.ro (encL cell ls), .ro (encL cL ks), .ro (encL (cI .u64) us)]) (by kernel_rfl) ?_ fun _ => ?_
  · refine SCode.loop_sp 2 (by kernel_rfl) (σ := {p : Nat × List (Int × Int) // Gd p.2 p.1 ∧ p.1 ≤ 60}) (fun p => rpU ls.length ms.length p.1.1) (fun p => rpK (encL cell ls) (encL cL ks) (encL (cI .u64) us) most' p.1.2.length (encL cell p.1.2) (encL cL ms)) (fun p => 60 - p.1.1) (fun _ => Nat.le_of_ble_eq_true rfl) (fun ⟨⟨i, xs⟩, hg, hi60⟩ => ?_) ⟨(0, []), ⟨Nat.le_refl _, fun x hx => (by cases hx), fun a b ha => absurd ha (by simp)⟩, Nat.zero_le _⟩
    dsimp only at hg hi60 ⊢
    have nx := noids_c xs
    refine SSp.to cxp_ok (n := 60) (g := []) 2 2 rfl (σ := {_k : Unit // i < 60 ∧ i < ls.length}) (fun _ => rpU ls.length ms.length i) (fun _ => rpK (encL cell ls) (encL cL ks) (encL (cI .u64) us) most' xs.length (encL cell xs) (encL cL ms)) (mkS_le (Nat.le_of_ble_eq_true rfl)) (by kernel_rfl) ?_ fun ⟨_, i60, hil⟩ => ?_
    · rw [rp_d]
      by_cases c1 : i < ls.length <;> by_cases c2 : i < 60
      · (with_reducible repeat first | refine zq1 ?_ | refine zq2 ?_ | refine zq3 ?_ | refine zq4 ?_ | refine zq5 ?_ | refine zq6 ?_ | refine zq7 ?_ | refine zq8 ?_ | refine zq9 ?_ | refine zqa ?_ | refine zqb ?_ | refine zqc ?_ | refine zqd ?_ | refine zqe ?_ | refine zqf ?_ | refine zqg ?_ | refine zqh ?_ | refine zqi ?_ | refine zqj ?_ | refine zqk ?_ | refine zql ?_ | refine zqm ?_ | refine zqn ?_ | refine zqo ?_ | refine zqp ?_)
        exact ⟨rfl, ⟨(), c2, c1⟩, ids8, by (refine ⟨by kernel_rfl, ?_, ?_⟩ <;> repeat first | exact okTms_nil | refine okTms_cons ?_ ?_ | exact okBlks_nil | refine okBlks_cons ?_ ?_ | exact lws_nil | refine lws_cons ?_ ?_ | exact lb_dead | exact zy1 | exact zy2 | exact lb_none | refine zy3 ?_ | exact zy4 | exact lw_any | exact lw_int | exact lw_bool | exact zy5 | exact zy6 | exact lw_nils | exact lw_slo_nils | exact zy7 | exact zy8 | exact zy9 | refine lw_tup ?_ | refine lw_agg ?_ | assumption)⟩
      all_goals
        (with_reducible repeat first | refine zq1 ?_ | refine zq2 ?_ | refine zq3 ?_ | refine zq4 ?_ | refine zq5 ?_ | refine zq6 ?_ | refine zq7 ?_ | refine zq8 ?_ | refine zq9 ?_ | refine zqa ?_ | refine zqb ?_ | refine zqc ?_ | refine zqd ?_ | refine zqe ?_ | refine zqf ?_ | refine zqg ?_ | refine zqh ?_ | refine zqi ?_ | refine zqj ?_ | refine zqk ?_ | refine zql ?_ | refine zqm ?_ | refine zqn ?_ | refine zqo ?_ | refine zqp ?_)
        exact ⟨rfl, (), [.id 0, .id 1, .id 2], by (refine ⟨by kernel_rfl, ?_, ?_⟩ <;> repeat first | exact okTms_nil | refine okTms_cons ?_ ?_ | exact okBlks_nil | refine okBlks_cons ?_ ?_ | exact lws_nil | refine lws_cons ?_ ?_ | exact lb_dead | exact zy1 | exact zy2 | exact lb_none | refine zy3 ?_ | exact zy4 | exact lw_any | exact lw_int | exact lw_bool | exact zy5 | exact zy6 | exact lw_nils | exact lw_slo_nils | exact zy7 | exact zy8 | exact zy9 | refine lw_tup ?_ | refine lw_agg ?_ | assumption)⟩
    refine SSp.code_to (g := []) 3 rfl (σ := {ys : List (Int × Int) // Gd ys (i + 1)}) (fun _ => rpU ls.length ms.length i) (fun ys => rpK (encL cell ls) (encL cL ks) (encL (cI .u64) us) most' ys.1.length (encL cell ys.1) (encL cL ms)) (by kernel_rfl) ?_ fun ⟨ys, hy⟩ => ?_
    · refine SCode.block_sp 3 (by kernel_rfl) ?_
      refine SSp.to cxp_ok (n := 60) (g := []) 1 1 rfl (σ := Int × Int) (fun _ => rpV ls.length ms.length i) (fun p => rpJ (encL cell ls) (encL cL ks) (encL (cI .u64) us) most' xs.length (encL cell xs) (encL cL ms) p.1 p.2) (mkS_le (Nat.le_of_ble_eq_true rfl)) (by kernel_rfl) ?_ fun ⟨s, v⟩ => ?_
      · rw [rp_e]
        simp only [wd_nat, wd_asV, wd_isV, wd_ix, wd_add, wd_mul, wd_ln, Nat.zero_add, Nat.mul_one, wd_isI, wd_asI, wd_isB, wd_asB, wd_nn, cI_tlen, cB_tlen, cII_tlen, decide_true, cond_true, wd_not_t, wd_not_f, wd_and_t, wd_and_f, Nat.add_assoc, Nat.reduceAdd, cell_0 hil, cell_1 hil, cell_n, cm_self]
        (repeat (with_reducible refine must (by (first | with_reducible rfl | exact t_le (by omega) | exact t_eq (by omega) | exact t_nn (by omega) | exact t_lss (by omega) | exact t_leq (by omega) | exact t_gtr (by omega) | exact t_geq (by omega) | exact t_eql (by omega) | exact t_neq (by omega) | exact t_z (by omega) | exact wd_not_f | assumption)) ?_))
        refine ways (fun _ => ?_) (fun _ => ?_)
        · exact ⟨rfl, (ls[i].1, ls[i].2), [.id 0, .id 1, .id 2, .id 3, .id 4, .id 5, .id 6, .id 7, .id 10], by (refine ⟨by kernel_rfl, ?_, ?_⟩ <;> repeat first | exact okTms_nil | refine okTms_cons ?_ ?_ | exact okBlks_nil | refine okBlks_cons ?_ ?_ | exact lws_nil | refine lws_cons ?_ ?_ | exact lb_dead | exact zy1 | exact zy2 | exact lb_none | refine zy3 ?_ | exact zy4 | exact lw_any | exact lw_int | exact lw_bool | exact zy5 | exact zy6 | exact lw_nils | exact lw_slo_nils | exact zy7 | exact zy8 | exact zy9 | refine lw_tup ?_ | refine lw_agg ?_ | assumption)⟩
        · exact ⟨rfl, (wthV ls[i].1 0 15, xar .rem .u64 ls[i].2 3), [.id 0, .id 1, .id 2, .id 3, .id 4, .id 5, .id 6, .id 7, .id 10], by (refine ⟨by kernel_rfl, ?_, ?_⟩ <;> repeat first | exact okTms_nil | refine okTms_cons ?_ ?_ | exact okBlks_nil | refine okBlks_cons ?_ ?_ | exact lws_nil | refine lws_cons ?_ ?_ | exact lb_dead | exact zy1 | exact zy2 | exact lb_none | refine zy3 ?_ | exact zy4 | exact lw_any | exact lw_int | exact lw_bool | exact zy5 | exact zy6 | exact lw_nils | exact lw_slo_nils | exact zy7 | exact zy8 | exact zy9 | refine lw_tup ?_ | refine lw_agg ?_ | assumption)⟩
      dsimp only
      refine SSp.code_to (g := []) 2 rfl (σ := {ys : List (Int × Int) // Gd ys (i + 1)}) (fun _ => rpX ls.length ms.length i) (fun ys => rpJ (encL cell ls) (encL cL ks) (encL (cI .u64) us) most' ys.1.length (encL cell ys.1) (encL cL ms) s v) (by kernel_rfl) ?_ fun ⟨ys, hy⟩ => ?_
      · refine SCode.orders cxp_ok (n := 60) (mkS_le (Nat.le_of_ble_eq_true rfl)) ?_
        exact rp_asks most' ls.length i _ _ _ nlx nkx nvx ms hm xs i60 hg s v _
      have ny := noids_c ys
      have yn := hy.n
      dsimp only
      refine SSp.to cxp_ok (n := 60) (g := []) 4 6 rfl (σ := Unit) (fun _ => rpY ls.length ms.length i (fV ys s) (fB ys s) 0 false 0) (fun _ => rpJ (encL cell ls) (encL cL ks) (encL (cI .u64) us) most' ys.length (encL cell ys) (encL cL ms) s v) (mkS_le (Nat.le_of_ble_eq_true rfl)) (by kernel_rfl) ?_ fun _ => ?_
      · have o1 : okC (encL cell ys) ys.length = true := okC_enc (by omega)
        rw [rp_f]
        simp only [o1, getV, getB, decC_enc, cond_true]
        (with_reducible repeat first | refine zq1 ?_ | refine zq2 ?_ | refine zq3 ?_ | refine zq4 ?_ | refine zq5 ?_ | refine zq6 ?_ | refine zq7 ?_ | refine zq8 ?_ | refine zq9 ?_ | refine zqa ?_ | refine zqb ?_ | refine zqc ?_ | refine zqd ?_ | refine zqe ?_ | refine zqf ?_ | refine zqg ?_ | refine zqh ?_ | refine zqi ?_ | refine zqj ?_ | refine zqk ?_ | refine zql ?_ | refine zqm ?_ | refine zqn ?_ | refine zqo ?_ | refine zqp ?_)
        exact ⟨rfl, (), [.id 0, .id 1, .id 2, .id 3, .id 4, .id 5, .id 6, .id 7, .id 8], by (refine ⟨by kernel_rfl, ?_, ?_⟩ <;> repeat first | exact okTms_nil | refine okTms_cons ?_ ?_ | exact okBlks_nil | refine okBlks_cons ?_ ?_ | exact lws_nil | refine lws_cons ?_ ?_ | exact lb_dead | exact zy1 | exact zy2 | exact lb_none | refine zy3 ?_ | exact zy4 | exact lw_any | exact lw_int | exact lw_bool | exact zy5 | exact zy6 | exact lw_nils | exact lw_slo_nils | exact zy7 | exact zy8 | exact zy9 | refine lw_tup ?_ | refine lw_agg ?_ | assumption)⟩
      refine SSp.code_to (g := []) 7 rfl (σ := Nat) (fun j => rpY ls.length ms.length i (fV ys s) (fB ys s) (fV ys s) (fB ys s) j) (fun _ => rpJ (encL cell ls) (encL cL ks) (encL (cI .u64) us) most' ys.length (encL cell ys) (encL cL ms) s v) (by kernel_rfl) (rp_last most' ls.length (i + 1) _ _ _ nlx nkx nvx ms ys i60 hy s v i _) fun j => ?_
      refine SSp.last cxp_ok (n := 60) (mkS_le (Nat.le_of_ble_eq_true rfl)) ?_
      rw [rp_h]
      simp only [nm_self, bq_self, wd_not_t, cond_false]
      exact ⟨rfl, ⟨ys, hy⟩, ids8, by (refine ⟨by kernel_rfl, ?_, ?_⟩ <;> repeat first | exact okTms_nil | refine okTms_cons ?_ ?_ | exact okBlks_nil | refine okBlks_cons ?_ ?_ | exact lws_nil | refine lws_cons ?_ ?_ | exact lb_dead | exact zy1 | exact zy2 | exact lb_none | refine zy3 ?_ | exact zy4 | exact lw_any | exact lw_int | exact lw_bool | exact zy5 | exact zy6 | exact lw_nils | exact lw_slo_nils | exact zy7 | exact zy8 | exact zy9 | refine lw_tup ?_ | refine lw_agg ?_ | assumption)⟩
    have ny := noids_c ys
    dsimp only
    refine SSp.last cxp_ok (n := 60) (mkS_le (Nat.le_of_ble_eq_true rfl)) ?_
    have e3 : xar .add .i64 (i : Int) 1 = ((i + 1 : Nat) : Int) := inc_i64 hil (by omega)
    rw [rp_i, e3]
    exact ⟨rfl, ⟨(i + 1, ys), hy, i60⟩, by simp only; omega, ids8, by (refine ⟨by kernel_rfl, ?_, ?_⟩ <;> repeat first | exact okTms_nil | refine okTms_cons ?_ ?_ | exact okBlks_nil | refine okBlks_cons ?_ ?_ | exact lws_nil | refine lws_cons ?_ ?_ | exact lb_dead | exact zy1 | exact zy2 | exact lb_none | refine zy3 ?_ | exact zy4 | exact lw_any | exact lw_int | exact lw_bool | exact zy5 | exact zy6 | exact lw_nils | exact lw_slo_nils | exact zy7 | exact zy8 | exact zy9 | refine lw_tup ?_ | refine lw_agg ?_ | assumption)⟩
  refine SSp.last cxp_ok (n := 60) (mkS_le (Nat.le_of_ble_eq_true rfl)) ?_
  rw [rp_z]
  exact ⟨trivial, rfl, .bool true, [.ro _, .ro _, .ro _], [.id 0, .id 1, .id 2], rfl, by (refine ⟨by kernel_rfl, ?_, ?_⟩ <;> repeat first | exact okTms_nil | refine okTms_cons ?_ ?_ | exact okBlks_nil | refine okBlks_cons ?_ ?_ | exact lws_nil | refine lws_cons ?_ ?_ | exact lb_dead | exact zy1 | exact zy2 | exact lb_none | refine zy3 ?_ | exact zy4 | exact lw_any | exact lw_int | exact lw_bool | exact zy5 | exact zy6 | exact lw_nils | exact lw_slo_nils | exact zy7 | exact zy8 | exact zy9 | refine lw_tup ?_ | refine lw_agg ?_ | assumption)⟩
end
end Go.Lev
