/- chapter 7: a read set: New and Stands as contracts -/
import Derived.Test.YtabhnhodhbpmmaaCR2
import Derived.Test.YtabhnhodhbpmmaaLc
import Derived.Test.YtabhnhodhbpmmaaChecked
import Derived.KernelRfl

namespace Go.Lev
open Go.RowKit
set_option linter.unusedVariables false
set_option linter.unusedSimpArgs false
set_option maxRecDepth 100000
noncomputable section
theorem new_c (m : Int) : SFun Go.Proofs.Try.prog 7 [.int .i64 m] (mkS []) fun l t => l = .ptr 0 0 ∧ t = mkS [.cells [.int .i64 (xmn (xmx m 1) 16), .slo 1 0 0 0] none, .cells [] (some 2)] := by
  refine SFun.mono (SFun.vc (Q := fun l b => l = .ptr 0 0 ∧ b = [.cells [.int .i64 (xmn (xmx m 1) 16), .slo 1 0 0 0] none, .cells [] (some 2)]) noCx_ok (n := 60) 0 rfl ?_) fun l s' ⟨b0, ⟨h1, h2⟩, h3⟩ => ⟨h1, by rw [h3, h2]⟩
  rw [nw_x]
  exact ⟨rfl, _, _, [.id 0, .none], ⟨rfl, rfl⟩, by (refine ⟨by kernel_rfl, ?_, ?_⟩ <;> repeat first | exact okTms_nil | refine okTms_cons ?_ ?_ | exact okBlks_nil | refine okBlks_cons ?_ ?_ | exact lws_nil | refine lws_cons ?_ ?_ | exact lb_dead | exact zy1 | exact zy2 | exact lb_none | refine zy3 ?_ | exact zy4 | exact lw_any | exact lw_int | exact lw_bool | exact zy5 | exact zy6 | exact lw_nils | exact lw_slo_nils | exact zy7 | exact zy8 | exact zy9 | refine lw_tup ?_ | refine lw_agg ?_ | assumption)⟩
theorem onew_c (m : Int) : SFun Go.Proofs.Try.prog 13 [.int .i64 m] (mkS []) fun l t => l = .ptr 0 0 ∧ t = mkS [.cells [.int .i64 (xmn (xmx m 1) 16), .slo 1 0 0 0] none, .cells [] (some 2)] := by
  refine SFun.mono (SFun.vc (Q := fun l b => l = .ptr 0 0 ∧ b = [.cells [.int .i64 (xmn (xmx m 1) 16), .slo 1 0 0 0] none, .cells [] (some 2)]) noCx_ok (n := 60) 0 rfl ?_) fun l s' ⟨b0, ⟨h1, h2⟩, h3⟩ => ⟨h1, by rw [h3, h2]⟩
  rw [no_x]
  by_cases c1 : m < 1
  · have e : xmn (xmx m 1) 16 = 1 := by simp only [wd_mn, wd_mx]; split <;> (try split) <;> omega
    rw [e]
    (with_reducible repeat first | refine zq1 ?_ | refine zq2 ?_ | refine zq3 ?_ | refine zq4 ?_ | refine zq5 ?_ | refine zq6 ?_ | refine zq7 ?_ | refine zq8 ?_ | refine zq9 ?_ | refine zqa ?_ | refine zqb ?_ | refine zqc ?_ | refine zqd ?_ | refine zqe ?_ | refine zqf ?_ | refine zqg ?_ | refine zqh ?_ | refine zqi ?_ | refine zqj ?_ | refine zqk ?_ | refine zql ?_ | refine zqm ?_ | refine zqn ?_ | refine zqo ?_ | refine zqp ?_)
    exact ⟨rfl, _, _, [.id 0, .none], ⟨rfl, rfl⟩, by (refine ⟨by kernel_rfl, ?_, ?_⟩ <;> repeat first | exact okTms_nil | refine okTms_cons ?_ ?_ | exact okBlks_nil | refine okBlks_cons ?_ ?_ | exact lws_nil | refine lws_cons ?_ ?_ | exact lb_dead | exact zy1 | exact zy2 | exact lb_none | refine zy3 ?_ | exact zy4 | exact lw_any | exact lw_int | exact lw_bool | exact zy5 | exact zy6 | exact lw_nils | exact lw_slo_nils | exact zy7 | exact zy8 | exact zy9 | refine lw_tup ?_ | refine lw_agg ?_ | assumption)⟩
  by_cases c2 : 16 < m
  · have e : xmn (xmx m 1) 16 = 16 := by simp only [wd_mn, wd_mx]; split <;> (try split) <;> omega
    rw [e]
    (with_reducible repeat first | refine zq1 ?_ | refine zq2 ?_ | refine zq3 ?_ | refine zq4 ?_ | refine zq5 ?_ | refine zq6 ?_ | refine zq7 ?_ | refine zq8 ?_ | refine zq9 ?_ | refine zqa ?_ | refine zqb ?_ | refine zqc ?_ | refine zqd ?_ | refine zqe ?_ | refine zqf ?_ | refine zqg ?_ | refine zqh ?_ | refine zqi ?_ | refine zqj ?_ | refine zqk ?_ | refine zql ?_ | refine zqm ?_ | refine zqn ?_ | refine zqo ?_ | refine zqp ?_)
    exact ⟨rfl, _, _, [.id 0, .none], ⟨rfl, rfl⟩, by (refine ⟨by kernel_rfl, ?_, ?_⟩ <;> repeat first | exact okTms_nil | refine okTms_cons ?_ ?_ | exact okBlks_nil | refine okBlks_cons ?_ ?_ | exact lws_nil | refine lws_cons ?_ ?_ | exact lb_dead | exact zy1 | exact zy2 | exact lb_none | refine zy3 ?_ | exact zy4 | exact lw_any | exact lw_int | exact lw_bool | exact zy5 | exact zy6 | exact lw_nils | exact lw_slo_nils | exact zy7 | exact zy8 | exact zy9 | refine lw_tup ?_ | refine lw_agg ?_ | assumption)⟩
  · have e : xmn (xmx m 1) 16 = m := by simp only [wd_mn, wd_mx]; split <;> (try split) <;> omega
    rw [e]
    (with_reducible repeat first | refine zq1 ?_ | refine zq2 ?_ | refine zq3 ?_ | refine zq4 ?_ | refine zq5 ?_ | refine zq6 ?_ | refine zq7 ?_ | refine zq8 ?_ | refine zq9 ?_ | refine zqa ?_ | refine zqb ?_ | refine zqc ?_ | refine zqd ?_ | refine zqe ?_ | refine zqf ?_ | refine zqg ?_ | refine zqh ?_ | refine zqi ?_ | refine zqj ?_ | refine zqk ?_ | refine zql ?_ | refine zqm ?_ | refine zqn ?_ | refine zqo ?_ | refine zqp ?_)
    exact ⟨rfl, _, _, [.id 0, .none], ⟨rfl, rfl⟩, by (refine ⟨by kernel_rfl, ?_, ?_⟩ <;> repeat first | exact okTms_nil | refine okTms_cons ?_ ?_ | exact okBlks_nil | refine okBlks_cons ?_ ?_ | exact lws_nil | refine lws_cons ?_ ?_ | exact lb_dead | exact zy1 | exact zy2 | exact lb_none | refine zy3 ?_ | exact zy4 | exact lw_any | exact lw_int | exact lw_bool | exact zy5 | exact zy6 | exact lw_nils | exact lw_slo_nils | exact zy7 | exact zy8 | exact zy9 | refine lw_tup ?_ | refine lw_agg ?_ | assumption)⟩
def newG : Gc := fun args s => match args, s.g with
  | [.int .i64 m], [] => (match s.lay [] [] [.cells [.int .i64 (xmn (xmx m 1) 16), .slo (Nat.succ s.n) 0 0 0] none, .cells [] (some 2)] with
    | some s' => some ([], .ptr s.n 0, s')
    | none => none)
  | _, _ => none
theorem newG_ok : GOk Go.Proofs.Try.prog 7 newG := by
  intro args s bs l s' hg hb hfr
  unfold newG at hg
  split at hg
  · rename_i m hgl
    split at hg
    · rename_i s1 hs1
      simp only [Option.some.injEq, Prod.mk.injEq] at hg
      obtain ⟨rfl, rfl, rfl⟩ := hg
      refine SFun.lay (bs := []) (args0 := [.int .i64 m]) (bs' := [.cells [.int .i64 (xmn (xmx m 1) 16), .slo 1 0 0 0] none, .cells [] (some 2)]) (v0 := .ptr 0 0) hfr hs1 (by simp)
        trivial (by ((repeat refine lws_cons (by (first | exact lw_any | exact lw_int | exact lw_bool | exact lw_ptr rfl | exact lw_slo rfl | exact lw_nilp | exact lw_nils | exact lw_str | exact lw_slo_nils | exact lw_slo_sle | exact lw_sl rfl | exact lw_unb | exact lw_gptr | exact lw_noid rfl | exact lw_cap rfl (Nat.le_refl _) | exact lw_cap rfl (by omega) | assumption | exact lw_tup (by ((repeat refine lws_cons (by (first | exact lw_any | exact lw_int | exact lw_bool | exact lw_ptr rfl | exact lw_slo rfl | exact lw_nilp | exact lw_nils | exact lw_str | exact lw_slo_nils | exact lw_slo_sle | exact lw_sl rfl | exact lw_unb | exact lw_gptr | exact lw_noid rfl | exact lw_cap rfl (Nat.le_refl _) | exact lw_cap rfl (by omega) | assumption)) ?_); exact lws_nil)))) ?_); exact lws_nil)) ?_
        fun κ h1 h2 => ⟨⟨lb_cells (lws_cons (lw_int) (lws_cons (lw_slo (h2 1 (by simp))) lws_nil)) (by simp), lb_cells lws_nil (by simp), trivial⟩, lw_ptr (h2 0 (by simp))⟩
      rw [hgl]; exact (new_c m)
    · cases hg
  · cases hg
def onewG : Gc := fun args s => match args, s.g with
  | [.int .i64 m], [] => (match s.lay [] [] [.cells [.int .i64 (xmn (xmx m 1) 16), .slo (Nat.succ s.n) 0 0 0] none, .cells [] (some 2)] with
    | some s' => some ([], .ptr s.n 0, s')
    | none => none)
  | _, _ => none
theorem onewG_ok : GOk Go.Proofs.Try.prog 13 onewG := by
  intro args s bs l s' hg hb hfr
  unfold onewG at hg
  split at hg
  · rename_i m hgl
    split at hg
    · rename_i s1 hs1
      simp only [Option.some.injEq, Prod.mk.injEq] at hg
      obtain ⟨rfl, rfl, rfl⟩ := hg
      refine SFun.lay (bs := []) (args0 := [.int .i64 m]) (bs' := [.cells [.int .i64 (xmn (xmx m 1) 16), .slo 1 0 0 0] none, .cells [] (some 2)]) (v0 := .ptr 0 0) hfr hs1 (by simp)
        trivial (by ((repeat refine lws_cons (by (first | exact lw_any | exact lw_int | exact lw_bool | exact lw_ptr rfl | exact lw_slo rfl | exact lw_nilp | exact lw_nils | exact lw_str | exact lw_slo_nils | exact lw_slo_sle | exact lw_sl rfl | exact lw_unb | exact lw_gptr | exact lw_noid rfl | exact lw_cap rfl (Nat.le_refl _) | exact lw_cap rfl (by omega) | assumption | exact lw_tup (by ((repeat refine lws_cons (by (first | exact lw_any | exact lw_int | exact lw_bool | exact lw_ptr rfl | exact lw_slo rfl | exact lw_nilp | exact lw_nils | exact lw_str | exact lw_slo_nils | exact lw_slo_sle | exact lw_sl rfl | exact lw_unb | exact lw_gptr | exact lw_noid rfl | exact lw_cap rfl (Nat.le_refl _) | exact lw_cap rfl (by omega) | assumption)) ?_); exact lws_nil)))) ?_); exact lws_nil)) ?_
        fun κ h1 h2 => ⟨⟨lb_cells (lws_cons (lw_int) (lws_cons (lw_slo (h2 1 (by simp))) lws_nil)) (by simp), lb_cells lws_nil (by simp), trivial⟩, lw_ptr (h2 0 (by simp))⟩
      rw [hgl]; exact (onew_c m)
    · cases hg
  · cases hg
/-! Stands -/
def stB1 (ks : List Lk) (x : Int × Int) : Bool := decide (x.1 < ks.length) && (!(ks.getD x.1.toNat (0, false, 0)).2.1 && decide ((ks.getD x.1.toNat (0, false, 0)).1 = x.2))
def standsF (xs : List (Int × Int)) (ks : List Lk) : Bool := xs.all (stB1 ks)
theorem standsF_t {xs : List (Int × Int)} {ks : List Lk} (h : ∀ i (hi : i < xs.length), stB1 ks xs[i] = true) : standsF xs ks = true := by
  rw [standsF, List.all_eq_true]
  intro x hx
  obtain ⟨i, hi, rfl⟩ := List.mem_iff_getElem.1 hx
  exact h i hi
theorem standsF_f {xs : List (Int × Int)} {ks : List Lk} {i : Nat} (hi : i < xs.length) (h : stB1 ks xs[i] = false) : standsF xs ks = false := by
  rw [standsF, List.all_eq_false]
  exact ⟨xs[i], List.getElem_mem hi, by simp [h]⟩
def stdW (qc lc : List LV) : Bool := standsF (decC qc) (decL lc)

def okQ (qc : List LV) (n : Nat) : Bool := @decide (∃ xs : List (Int × Int), qc = encL cell xs ∧ n = xs.length ∧ n ≤ 1000000 ∧ ∀ x ∈ xs, 0 ≤ x.1) (Classical.propDecidable _)

theorem okQ_iff {qc : List LV} {n : Nat} : okQ qc n = true ↔ ∃ xs : List (Int × Int), qc = encL cell xs ∧ n = xs.length ∧ n ≤ 1000000 ∧ ∀ x ∈ xs, 0 ≤ x.1 := by simp only [okQ, decide_eq_true_eq]
theorem st_case {ks : List Lk} {x : Int × Int} {p : Nat} (hp : x.1 = (p : Int)) : (ks.length ≤ p ∧ stB1 ks x = false) ∨ ∃ h : p < ks.length, (ks[p].2.1 = true ∧ stB1 ks x = false) ∨ (ks[p].2.1 = false ∧ ks[p].1 ≠ x.2 ∧ stB1 ks x = false) ∨ (ks[p].2.1 = false ∧ ks[p].1 = x.2 ∧ stB1 ks x = true) := by
  have e : x.1.toNat = p := by omega
  rcases Nat.lt_or_ge p ks.length with h | h
  · right
    refine ⟨h, ?_⟩
    have g : ks.getD p (0, false, 0) = ks[p] := by rw [List.getD_eq_getElem?_getD, List.getElem?_eq_getElem h]; rfl
    have l : x.1 < (ks.length : Int) := by omega
    simp only [stB1, e, g, l, decide_true, Bool.true_and]
    by_cases q : ks[p].2.1 = true
    · left; simp [q]
    · have q' : ks[p].2.1 = false := by simpa using q
      by_cases u : ks[p].1 = x.2
      · right; right; simp [q', u]
      · right; left; simp [q', u]
  · left
    refine ⟨h, ?_⟩
    have l : ¬ x.1 < (ks.length : Int) := by omega
    simp [stB1, l]
theorem stands_ok (most : Int) (xs : List (Int × Int)) (ks : List Lk) (hn : xs.length ≤ 1000000) (hk : ks.length ≤ 1000000) (h0 : ∀ x ∈ xs, 0 ≤ x.1) : SFun Go.Proofs.Try.prog 12 [.ptr 0 0, .slo 2 0 ks.length 0] (mkS (saH most xs.length (encL cell xs) (encL cL ks))) fun l t => l = .bool (standsF xs ks) ∧ t = mkS (saH most xs.length (encL cell xs) (encL cL ks)) := by
  refine SFun.mono (SFun.pieces (Q := fun l b => l = .bool (standsF xs ks) ∧ b = saH most xs.length (encL cell xs) (encL cL ks)) 37 3 saL [4] (by kernel_rfl) rfl rfl rfl ?_) fun l s' ⟨b0, ⟨h1, h2⟩, h3⟩ => ⟨h1, by rw [h3, h2]⟩
  have nx := noids_c xs
  have nl := noids_l ks
  refine SSp.to noCx_ok (n := 40) (g := []) 2 2 rfl (σ := Unit) (fun _ => saT ks.length xs.length 0) (fun _ => saH most xs.length (encL cell xs) (encL cL ks)) (mkS_le (Nat.le_refl _)) (by kernel_rfl) ?_ fun _ => ?_
  · rw [sa_a]; exact ⟨rfl, (), [.id 0, .id 1, .id 2], by (refine ⟨by kernel_rfl, ?_, ?_⟩ <;> repeat first | exact okTms_nil | refine okTms_cons ?_ ?_ | exact okBlks_nil | refine okBlks_cons ?_ ?_ | exact lws_nil | refine lws_cons ?_ ?_ | exact lb_dead | exact zy1 | exact zy2 | exact lb_none | refine zy3 ?_ | exact zy4 | exact lw_any | exact lw_int | exact lw_bool | exact zy5 | exact zy6 | exact lw_nils | exact lw_slo_nils | exact zy7 | exact zy8 | exact zy9 | refine lw_tup ?_ | refine lw_agg ?_ | assumption)⟩
  refine SSp.code_to (g := []) 3 rfl (σ := {_k : Unit // standsF xs ks = true}) (fun _ => []) (fun _ => saH most xs.length (encL cell xs) (encL cL ks)) (by kernel_rfl) ?_ fun ⟨_, hs⟩ => ?_
  · refine SCode.loop_vc noCx_ok (n := 40) 0 (by kernel_rfl) (σ := {i : Nat // i ≤ xs.length ∧ ∀ j (hj : j < xs.length), j < i → stB1 ks xs[j] = true}) (fun i => saT ks.length xs.length i.1) (fun _ => saH most xs.length (encL cell xs) (encL cL ks)) (fun i => xs.length - i.1) (fun _ => Nat.le_of_ble_eq_true rfl) (fun ⟨i, hi, hall⟩ => ?_) ⟨0, Nat.zero_le _, fun j hj h => absurd h (by omega)⟩
    dsimp only
    rw [sa_b]; simp only [sa_b_b1]; rw [wd_lss]
    refine ite_way (fun hk => ?_) (fun hk => ⟨rfl, ⟨(), standsF_t fun j hj => hall j hj (by omega)⟩, [.id 0, .id 1, .id 2], by (refine ⟨by kernel_rfl, ?_, ?_⟩ <;> repeat first | exact okTms_nil | refine okTms_cons ?_ ?_ | exact okBlks_nil | refine okBlks_cons ?_ ?_ | exact lws_nil | refine lws_cons ?_ ?_ | exact lb_dead | exact zy1 | exact zy2 | exact lb_none | refine zy3 ?_ | exact zy4 | exact lw_any | exact lw_int | exact lw_bool | exact zy5 | exact zy6 | exact lw_nils | exact lw_slo_nils | exact zy7 | exact zy8 | exact zy9 | refine lw_tup ?_ | refine lw_agg ?_ | assumption)⟩)
    have e3 : xar .add .i64 (i : Int) 1 = ((i + 1 : Nat) : Int) := inc_i64 hk (by omega)
    obtain ⟨p, hp⟩ := Int.eq_ofNat_of_zero_le (h0 _ (List.getElem_mem hk))
    have lq := cell_n xs
    simp only [wd_nat, wd_asV, wd_isV, wd_ix, wd_add, wd_mul, wd_ln, Nat.zero_add, Nat.mul_one, wd_isI, wd_asI, wd_isB, wd_asB, wd_nn, cI_tlen, cB_tlen, cII_tlen, decide_true, cond_true, wd_not_t, wd_not_f, wd_and_t, wd_and_f, Nat.add_assoc, Nat.reduceAdd, cell_0 hk, cell_1 hk, lq, e3, hp]
    rcases st_case (ks := ks) hp with ⟨h1, e⟩ | ⟨h1, ⟨q, e⟩ | ⟨q, u, e⟩ | ⟨q, u, e⟩⟩
    · have ef := standsF_f hk e
      (with_reducible repeat first | refine zq1 ?_ | refine zq2 ?_ | refine zq3 ?_ | refine zq4 ?_ | refine zq5 ?_ | refine zq6 ?_ | refine zq7 ?_ | refine zq8 ?_ | refine zq9 ?_ | refine zqa ?_ | refine zqb ?_ | refine zqc ?_ | refine zqd ?_ | refine zqe ?_ | refine zqf ?_ | refine zqg ?_ | refine zqh ?_ | refine zqi ?_ | refine zqj ?_ | refine zqk ?_ | refine zql ?_ | refine zqm ?_ | refine zqn ?_ | refine zqo ?_ | refine zqp ?_)
      exact ⟨trivial, rfl, _, _, [.id 0, .id 1, .id 2], ⟨rfl, rfl⟩, by rw [ef]; (refine ⟨by kernel_rfl, ?_, ?_⟩ <;> repeat first | exact okTms_nil | refine okTms_cons ?_ ?_ | exact okBlks_nil | refine okBlks_cons ?_ ?_ | exact lws_nil | refine lws_cons ?_ ?_ | exact lb_dead | exact zy1 | exact zy2 | exact lb_none | refine zy3 ?_ | exact zy4 | exact lw_any | exact lw_int | exact lw_bool | exact zy5 | exact zy6 | exact lw_nils | exact lw_slo_nils | exact zy7 | exact zy8 | exact zy9 | refine lw_tup ?_ | refine lw_agg ?_ | assumption)⟩
    · have ef := standsF_f hk e
      simp only [wd_nat, wd_asV, wd_isV, wd_ix, wd_add, wd_mul, wd_ln, Nat.zero_add, Nat.mul_one, wd_isI, wd_asI, wd_isB, wd_asB, wd_nn, cI_tlen, cB_tlen, cII_tlen, decide_true, cond_true, wd_not_t, wd_not_f, wd_and_t, wd_and_f, Nat.add_assoc, Nat.reduceAdd, lk_0 h1, lk_1 h1, lk_2 h1, lk_n, q]
      (with_reducible repeat first | refine zq1 ?_ | refine zq2 ?_ | refine zq3 ?_ | refine zq4 ?_ | refine zq5 ?_ | refine zq6 ?_ | refine zq7 ?_ | refine zq8 ?_ | refine zq9 ?_ | refine zqa ?_ | refine zqb ?_ | refine zqc ?_ | refine zqd ?_ | refine zqe ?_ | refine zqf ?_ | refine zqg ?_ | refine zqh ?_ | refine zqi ?_ | refine zqj ?_ | refine zqk ?_ | refine zql ?_ | refine zqm ?_ | refine zqn ?_ | refine zqo ?_ | refine zqp ?_)
      exact ⟨trivial, rfl, _, _, [.id 0, .id 1, .id 2], ⟨rfl, rfl⟩, by rw [ef]; (refine ⟨by kernel_rfl, ?_, ?_⟩ <;> repeat first | exact okTms_nil | refine okTms_cons ?_ ?_ | exact okBlks_nil | refine okBlks_cons ?_ ?_ | exact lws_nil | refine lws_cons ?_ ?_ | exact lb_dead | exact zy1 | exact zy2 | exact lb_none | refine zy3 ?_ | exact zy4 | exact lw_any | exact lw_int | exact lw_bool | exact zy5 | exact zy6 | exact lw_nils | exact lw_slo_nils | exact zy7 | exact zy8 | exact zy9 | refine lw_tup ?_ | refine lw_agg ?_ | assumption)⟩
    · have ef := standsF_f hk e
      simp only [wd_nat, wd_asV, wd_isV, wd_ix, wd_add, wd_mul, wd_ln, Nat.zero_add, Nat.mul_one, wd_isI, wd_asI, wd_isB, wd_asB, wd_nn, cI_tlen, cB_tlen, cII_tlen, decide_true, cond_true, wd_not_t, wd_not_f, wd_and_t, wd_and_f, Nat.add_assoc, Nat.reduceAdd, lk_0 h1, lk_1 h1, lk_2 h1, lk_n, q, cond_false]
      (with_reducible repeat first | refine zq1 ?_ | refine zq2 ?_ | refine zq3 ?_ | refine zq4 ?_ | refine zq5 ?_ | refine zq6 ?_ | refine zq7 ?_ | refine zq8 ?_ | refine zq9 ?_ | refine zqa ?_ | refine zqb ?_ | refine zqc ?_ | refine zqd ?_ | refine zqe ?_ | refine zqf ?_ | refine zqg ?_ | refine zqh ?_ | refine zqi ?_ | refine zqj ?_ | refine zqk ?_ | refine zql ?_ | refine zqm ?_ | refine zqn ?_ | refine zqo ?_ | refine zqp ?_)
      exact ⟨trivial, rfl, _, _, [.id 0, .id 1, .id 2], ⟨rfl, rfl⟩, by rw [ef]; (refine ⟨by kernel_rfl, ?_, ?_⟩ <;> repeat first | exact okTms_nil | refine okTms_cons ?_ ?_ | exact okBlks_nil | refine okBlks_cons ?_ ?_ | exact lws_nil | refine lws_cons ?_ ?_ | exact lb_dead | exact zy1 | exact zy2 | exact lb_none | refine zy3 ?_ | exact zy4 | exact lw_any | exact lw_int | exact lw_bool | exact zy5 | exact zy6 | exact lw_nils | exact lw_slo_nils | exact zy7 | exact zy8 | exact zy9 | refine lw_tup ?_ | refine lw_agg ?_ | assumption)⟩
    · simp only [wd_nat, wd_asV, wd_isV, wd_ix, wd_add, wd_mul, wd_ln, Nat.zero_add, Nat.mul_one, wd_isI, wd_asI, wd_isB, wd_asB, wd_nn, cI_tlen, cB_tlen, cII_tlen, decide_true, cond_true, wd_not_t, wd_not_f, wd_and_t, wd_and_f, Nat.add_assoc, Nat.reduceAdd, lk_0 h1, lk_1 h1, lk_2 h1, lk_n, q, cond_false]
      (with_reducible repeat first | refine zq1 ?_ | refine zq2 ?_ | refine zq3 ?_ | refine zq4 ?_ | refine zq5 ?_ | refine zq6 ?_ | refine zq7 ?_ | refine zq8 ?_ | refine zq9 ?_ | refine zqa ?_ | refine zqb ?_ | refine zqc ?_ | refine zqd ?_ | refine zqe ?_ | refine zqf ?_ | refine zqg ?_ | refine zqh ?_ | refine zqi ?_ | refine zqj ?_ | refine zqk ?_ | refine zql ?_ | refine zqm ?_ | refine zqn ?_ | refine zqo ?_ | refine zqp ?_)
      refine ⟨rfl, ⟨i + 1, hk, fun j hj hji => ?_⟩, by simp only; omega, [.id 0, .id 1, .id 2], by (refine ⟨by kernel_rfl, ?_, ?_⟩ <;> repeat first | exact okTms_nil | refine okTms_cons ?_ ?_ | exact okBlks_nil | refine okBlks_cons ?_ ?_ | exact lws_nil | refine lws_cons ?_ ?_ | exact lb_dead | exact zy1 | exact zy2 | exact lb_none | refine zy3 ?_ | exact zy4 | exact lw_any | exact lw_int | exact lw_bool | exact zy5 | exact zy6 | exact lw_nils | exact lw_slo_nils | exact zy7 | exact zy8 | exact zy9 | refine lw_tup ?_ | refine lw_agg ?_ | assumption)⟩
      rcases Nat.lt_succ_iff_lt_or_eq.1 hji with h | rfl
      · exact hall j hj h
      · exact e
  refine SSp.last noCx_ok (n := 40) (mkS_le (Nat.le_of_ble_eq_true rfl)) ?_
  rw [sa_z]
  exact ⟨trivial, rfl, _, _, [.id 0, .id 1, .id 2], ⟨rfl, rfl⟩, by rw [hs]; (refine ⟨by kernel_rfl, ?_, ?_⟩ <;> repeat first | exact okTms_nil | refine okTms_cons ?_ ?_ | exact okBlks_nil | refine okBlks_cons ?_ ?_ | exact lws_nil | refine lws_cons ?_ ?_ | exact lb_dead | exact zy1 | exact zy2 | exact lb_none | refine zy3 ?_ | exact zy4 | exact lw_any | exact lw_int | exact lw_bool | exact zy5 | exact zy6 | exact lw_nils | exact lw_slo_nils | exact zy7 | exact zy8 | exact zy9 | refine lw_tup ?_ | refine lw_agg ?_ | assumption)⟩
theorem ostands_ok (xs : List (Int × Int)) (ks : List Lk) (hn : xs.length ≤ 1000000) (hk : ks.length ≤ 1000000) (h0 : ∀ x ∈ xs, 0 ≤ x.1) : SFun Go.Proofs.Try.prog 17 [.slo 0 0 xs.length 0, .slo 1 0 ks.length 0] (mkS (sbH (encL cell xs) (encL cL ks))) fun l t => l = .bool (standsF xs ks) ∧ t = mkS (sbH (encL cell xs) (encL cL ks)) := by
  refine SFun.mono (SFun.pieces (Q := fun l b => l = .bool (standsF xs ks) ∧ b = sbH (encL cell xs) (encL cL ks)) 46 2 sbL [4] (by kernel_rfl) rfl rfl rfl ?_) fun l s' ⟨b0, ⟨h1, h2⟩, h3⟩ => ⟨h1, by rw [h3, h2]⟩
  have nx := noids_c xs
  have nl := noids_l ks
  refine SSp.to noCx_ok (n := 40) (g := []) 2 2 rfl (σ := Unit) (fun _ => sbT xs.length ks.length 0) (fun _ => sbH (encL cell xs) (encL cL ks)) (mkS_le (Nat.le_refl _)) (by kernel_rfl) ?_ fun _ => ?_
  · rw [sb_a]; exact ⟨rfl, (), [.id 0, .id 1], by (refine ⟨by kernel_rfl, ?_, ?_⟩ <;> repeat first | exact okTms_nil | refine okTms_cons ?_ ?_ | exact okBlks_nil | refine okBlks_cons ?_ ?_ | exact lws_nil | refine lws_cons ?_ ?_ | exact lb_dead | exact zy1 | exact zy2 | exact lb_none | refine zy3 ?_ | exact zy4 | exact lw_any | exact lw_int | exact lw_bool | exact zy5 | exact zy6 | exact lw_nils | exact lw_slo_nils | exact zy7 | exact zy8 | exact zy9 | refine lw_tup ?_ | refine lw_agg ?_ | assumption)⟩
  refine SSp.code_to (g := []) 3 rfl (σ := {_k : Unit // standsF xs ks = true}) (fun _ => []) (fun _ => sbH (encL cell xs) (encL cL ks)) (by kernel_rfl) ?_ fun ⟨_, hs⟩ => ?_
  · refine SCode.loop_vc noCx_ok (n := 40) 0 (by kernel_rfl) (σ := {i : Nat // i ≤ xs.length ∧ ∀ j (hj : j < xs.length), j < i → stB1 ks xs[j] = true}) (fun i => sbT xs.length ks.length i.1) (fun _ => sbH (encL cell xs) (encL cL ks)) (fun i => xs.length - i.1) (fun _ => Nat.le_of_ble_eq_true rfl) (fun ⟨i, hi, hall⟩ => ?_) ⟨0, Nat.zero_le _, fun j hj h => absurd h (by omega)⟩
    dsimp only
    rw [sb_b, wd_lss]
    refine ite_way (fun hk => ?_) (fun hk => ⟨rfl, ⟨(), standsF_t fun j hj => hall j hj (by omega)⟩, [.id 0, .id 1], by (refine ⟨by kernel_rfl, ?_, ?_⟩ <;> repeat first | exact okTms_nil | refine okTms_cons ?_ ?_ | exact okBlks_nil | refine okBlks_cons ?_ ?_ | exact lws_nil | refine lws_cons ?_ ?_ | exact lb_dead | exact zy1 | exact zy2 | exact lb_none | refine zy3 ?_ | exact zy4 | exact lw_any | exact lw_int | exact lw_bool | exact zy5 | exact zy6 | exact lw_nils | exact lw_slo_nils | exact zy7 | exact zy8 | exact zy9 | refine lw_tup ?_ | refine lw_agg ?_ | assumption)⟩)
    have e3 : xar .add .i64 (i : Int) 1 = ((i + 1 : Nat) : Int) := inc_i64 hk (by omega)
    obtain ⟨p, hp⟩ := Int.eq_ofNat_of_zero_le (h0 _ (List.getElem_mem hk))
    have lq := cell_n xs
    simp only [wd_nat, wd_asV, wd_isV, wd_ix, wd_add, wd_mul, wd_ln, Nat.zero_add, Nat.mul_one, wd_isI, wd_asI, wd_isB, wd_asB, wd_nn, cI_tlen, cB_tlen, cII_tlen, decide_true, cond_true, wd_not_t, wd_not_f, wd_and_t, wd_and_f, Nat.add_assoc, Nat.reduceAdd, cell_0 hk, cell_1 hk, lq, e3, hp]
    rcases st_case (ks := ks) hp with ⟨h1, e⟩ | ⟨h1, ⟨q, e⟩ | ⟨q, u, e⟩ | ⟨q, u, e⟩⟩
    · have ef := standsF_f hk e
      (with_reducible repeat first | refine zq1 ?_ | refine zq2 ?_ | refine zq3 ?_ | refine zq4 ?_ | refine zq5 ?_ | refine zq6 ?_ | refine zq7 ?_ | refine zq8 ?_ | refine zq9 ?_ | refine zqa ?_ | refine zqb ?_ | refine zqc ?_ | refine zqd ?_ | refine zqe ?_ | refine zqf ?_ | refine zqg ?_ | refine zqh ?_ | refine zqi ?_ | refine zqj ?_ | refine zqk ?_ | refine zql ?_ | refine zqm ?_ | refine zqn ?_ | refine zqo ?_ | refine zqp ?_)
      exact ⟨trivial, rfl, _, _, [.id 0, .id 1], ⟨rfl, rfl⟩, by rw [ef]; (refine ⟨by kernel_rfl, ?_, ?_⟩ <;> repeat first | exact okTms_nil | refine okTms_cons ?_ ?_ | exact okBlks_nil | refine okBlks_cons ?_ ?_ | exact lws_nil | refine lws_cons ?_ ?_ | exact lb_dead | exact zy1 | exact zy2 | exact lb_none | refine zy3 ?_ | exact zy4 | exact lw_any | exact lw_int | exact lw_bool | exact zy5 | exact zy6 | exact lw_nils | exact lw_slo_nils | exact zy7 | exact zy8 | exact zy9 | refine lw_tup ?_ | refine lw_agg ?_ | assumption)⟩
    · have ef := standsF_f hk e
      simp only [wd_nat, wd_asV, wd_isV, wd_ix, wd_add, wd_mul, wd_ln, Nat.zero_add, Nat.mul_one, wd_isI, wd_asI, wd_isB, wd_asB, wd_nn, cI_tlen, cB_tlen, cII_tlen, decide_true, cond_true, wd_not_t, wd_not_f, wd_and_t, wd_and_f, Nat.add_assoc, Nat.reduceAdd, lk_0 h1, lk_1 h1, lk_2 h1, lk_n, q]
      (with_reducible repeat first | refine zq1 ?_ | refine zq2 ?_ | refine zq3 ?_ | refine zq4 ?_ | refine zq5 ?_ | refine zq6 ?_ | refine zq7 ?_ | refine zq8 ?_ | refine zq9 ?_ | refine zqa ?_ | refine zqb ?_ | refine zqc ?_ | refine zqd ?_ | refine zqe ?_ | refine zqf ?_ | refine zqg ?_ | refine zqh ?_ | refine zqi ?_ | refine zqj ?_ | refine zqk ?_ | refine zql ?_ | refine zqm ?_ | refine zqn ?_ | refine zqo ?_ | refine zqp ?_)
      exact ⟨trivial, rfl, _, _, [.id 0, .id 1], ⟨rfl, rfl⟩, by rw [ef]; (refine ⟨by kernel_rfl, ?_, ?_⟩ <;> repeat first | exact okTms_nil | refine okTms_cons ?_ ?_ | exact okBlks_nil | refine okBlks_cons ?_ ?_ | exact lws_nil | refine lws_cons ?_ ?_ | exact lb_dead | exact zy1 | exact zy2 | exact lb_none | refine zy3 ?_ | exact zy4 | exact lw_any | exact lw_int | exact lw_bool | exact zy5 | exact zy6 | exact lw_nils | exact lw_slo_nils | exact zy7 | exact zy8 | exact zy9 | refine lw_tup ?_ | refine lw_agg ?_ | assumption)⟩
    · have ef := standsF_f hk e
      simp only [wd_nat, wd_asV, wd_isV, wd_ix, wd_add, wd_mul, wd_ln, Nat.zero_add, Nat.mul_one, wd_isI, wd_asI, wd_isB, wd_asB, wd_nn, cI_tlen, cB_tlen, cII_tlen, decide_true, cond_true, wd_not_t, wd_not_f, wd_and_t, wd_and_f, Nat.add_assoc, Nat.reduceAdd, lk_0 h1, lk_1 h1, lk_2 h1, lk_n, q, cond_false]
      (with_reducible repeat first | refine zq1 ?_ | refine zq2 ?_ | refine zq3 ?_ | refine zq4 ?_ | refine zq5 ?_ | refine zq6 ?_ | refine zq7 ?_ | refine zq8 ?_ | refine zq9 ?_ | refine zqa ?_ | refine zqb ?_ | refine zqc ?_ | refine zqd ?_ | refine zqe ?_ | refine zqf ?_ | refine zqg ?_ | refine zqh ?_ | refine zqi ?_ | refine zqj ?_ | refine zqk ?_ | refine zql ?_ | refine zqm ?_ | refine zqn ?_ | refine zqo ?_ | refine zqp ?_)
      exact ⟨trivial, rfl, _, _, [.id 0, .id 1], ⟨rfl, rfl⟩, by rw [ef]; (refine ⟨by kernel_rfl, ?_, ?_⟩ <;> repeat first | exact okTms_nil | refine okTms_cons ?_ ?_ | exact okBlks_nil | refine okBlks_cons ?_ ?_ | exact lws_nil | refine lws_cons ?_ ?_ | exact lb_dead | exact zy1 | exact zy2 | exact lb_none | refine zy3 ?_ | exact zy4 | exact lw_any | exact lw_int | exact lw_bool | exact zy5 | exact zy6 | exact lw_nils | exact lw_slo_nils | exact zy7 | exact zy8 | exact zy9 | refine lw_tup ?_ | refine lw_agg ?_ | assumption)⟩
    · simp only [wd_nat, wd_asV, wd_isV, wd_ix, wd_add, wd_mul, wd_ln, Nat.zero_add, Nat.mul_one, wd_isI, wd_asI, wd_isB, wd_asB, wd_nn, cI_tlen, cB_tlen, cII_tlen, decide_true, cond_true, wd_not_t, wd_not_f, wd_and_t, wd_and_f, Nat.add_assoc, Nat.reduceAdd, lk_0 h1, lk_1 h1, lk_2 h1, lk_n, q, cond_false]
      (with_reducible repeat first | refine zq1 ?_ | refine zq2 ?_ | refine zq3 ?_ | refine zq4 ?_ | refine zq5 ?_ | refine zq6 ?_ | refine zq7 ?_ | refine zq8 ?_ | refine zq9 ?_ | refine zqa ?_ | refine zqb ?_ | refine zqc ?_ | refine zqd ?_ | refine zqe ?_ | refine zqf ?_ | refine zqg ?_ | refine zqh ?_ | refine zqi ?_ | refine zqj ?_ | refine zqk ?_ | refine zql ?_ | refine zqm ?_ | refine zqn ?_ | refine zqo ?_ | refine zqp ?_)
      refine ⟨rfl, ⟨i + 1, hk, fun j hj hji => ?_⟩, by simp only; omega, [.id 0, .id 1], by (refine ⟨by kernel_rfl, ?_, ?_⟩ <;> repeat first | exact okTms_nil | refine okTms_cons ?_ ?_ | exact okBlks_nil | refine okBlks_cons ?_ ?_ | exact lws_nil | refine lws_cons ?_ ?_ | exact lb_dead | exact zy1 | exact zy2 | exact lb_none | refine zy3 ?_ | exact zy4 | exact lw_any | exact lw_int | exact lw_bool | exact zy5 | exact zy6 | exact lw_nils | exact lw_slo_nils | exact zy7 | exact zy8 | exact zy9 | refine lw_tup ?_ | refine lw_agg ?_ | assumption)⟩
      rcases Nat.lt_succ_iff_lt_or_eq.1 hji with h | rfl
      · exact hall j hj h
      · exact e
  refine SSp.last noCx_ok (n := 40) (mkS_le (Nat.le_of_ble_eq_true rfl)) ?_
  rw [sb_z]
  exact ⟨trivial, rfl, _, _, [.id 0, .id 1], ⟨rfl, rfl⟩, by rw [hs]; (refine ⟨by kernel_rfl, ?_, ?_⟩ <;> repeat first | exact okTms_nil | refine okTms_cons ?_ ?_ | exact okBlks_nil | refine okBlks_cons ?_ ?_ | exact lws_nil | refine lws_cons ?_ ?_ | exact lb_dead | exact zy1 | exact zy2 | exact lb_none | refine zy3 ?_ | exact zy4 | exact lw_any | exact lw_int | exact lw_bool | exact zy5 | exact zy6 | exact lw_nils | exact lw_slo_nils | exact zy7 | exact zy8 | exact zy9 | refine lw_tup ?_ | refine lw_agg ?_ | assumption)⟩
theorem stands_c (most : Int) (n m : Nat) (qc lc : List LV) (k1 : okQ qc n = true) (k2 : okL lc m = true) : SFun Go.Proofs.Try.prog 12 [.ptr 0 0, .slo 2 0 m 0] (mkS (saH most n qc lc)) fun l t => l = .bool (stdW qc lc) ∧ t = mkS (saH most n qc lc) := by
  obtain ⟨xs, rfl, rfl, h1, h2⟩ := okQ_iff.1 k1
  obtain ⟨ks, rfl, rfl, h3⟩ := okL_iff.1 k2
  simp only [stdW, decC_enc, decL_enc]
  exact stands_ok most xs ks h1 h3 h2
theorem ostands_c (n m : Nat) (qc lc : List LV) (k1 : okQ qc n = true) (k2 : okL lc m = true) : SFun Go.Proofs.Try.prog 17 [.slo 0 0 n 0, .slo 1 0 m 0] (mkS (sbH qc lc)) fun l t => l = .bool (stdW qc lc) ∧ t = mkS (sbH qc lc) := by
  obtain ⟨xs, rfl, rfl, h1, h2⟩ := okQ_iff.1 k1
  obtain ⟨ks, rfl, rfl, h3⟩ := okL_iff.1 k2
  simp only [stdW, decC_enc, decL_enc]
  exact ostands_ok xs ks h1 h3 h2
def stdG : Gc := fun args s => match args, s.g with
  | [.ptr b 0, .slo r 0 m 0], [] => (match s.h.get b with
    | some (.cells [.int .i64 most, .slo q 0 n 0] none) => (match s.h.get q with
      | some (.cells qc (some 2)) => (match s.h.get r with
        | some (.cells lc (some 3)) => cond (nodupB [b, q, r]) (match s.lay [b, q, r] [.cells [.int .i64 most, .slo q 0 n 0] none, .cells qc (some 2), .cells lc (some 3)] [] with
          | some s' => some ([okQ qc n, okL lc m], .bool (stdW qc lc), s')
          | none => none) none
        | _ => none)
      | _ => none)
    | _ => none)
  | _, _ => none
theorem stdG_ok : GOk Go.Proofs.Try.prog 12 stdG := by
  intro args s bs l s' hg hb hfr
  unfold stdG at hg
  split at hg
  · rename_i b r m hgl
    split at hg
    · rename_i most q n hb0
      split at hg
      · rename_i qc hb1
        split at hg
        · rename_i lc hb2
          cases hbc : nodupB [b, q, r] with
          | false => rw [hbc] at hg; cases hg
          | true =>
            rw [hbc] at hg
            simp only [cond_true] at hg
            split at hg
            · rename_i s1 hs1
              simp only [Option.some.injEq, Prod.mk.injEq] at hg
              obtain ⟨rfl, rfl, rfl⟩ := hg
              simp only [allT_cons] at hb
              obtain ⟨k1, k2, _⟩ := hb
              have no : noIds qc = true := by obtain ⟨_, e, _⟩ := okQ_iff.1 k1; rw [e]; exact noids_c _
              have no2 : noIds lc = true := by obtain ⟨_, e, _⟩ := okL_iff.1 k2; rw [e]; exact noids_l _
              refine SFun.lay (bs := [.cells [.int .i64 most, .slo 1 0 n 0] none, .cells qc (some 2), .cells lc (some 3)]) (args0 := [.ptr 0 0, .slo 2 0 m 0]) (bs' := [.cells [.int .i64 most, .slo 1 0 n 0] none, .cells qc (some 2), .cells lc (some 3)]) (v0 := .bool (stdW qc lc)) hfr hs1 (nodupB_nd hbc)
                ⟨⟨there hfr hb0, _, hb0, by first | exact lb_same rfl | exact lb_cells (lws_cons (lw_int) (lws_cons (lw_slo rfl) lws_nil)) (by simp), fun κ hκ => lb_cells (lws_cons (lw_int) (lws_cons (lw_slo (hκ 1 q rfl)) lws_nil)) (by simp)⟩, ⟨there hfr hb1, _, hb1, lb_same (by (first | assumption | exact noIds_tab (fun _ => rfl) _ _ | exact noIds_encL (fun _ => rfl) _ | rfl)), fun κ hκ => lb_same (by (first | assumption | exact noIds_tab (fun _ => rfl) _ _ | exact noIds_encL (fun _ => rfl) _ | rfl))⟩, ⟨there hfr hb2, _, hb2, lb_same (by (first | assumption | exact noIds_tab (fun _ => rfl) _ _ | exact noIds_encL (fun _ => rfl) _ | rfl)), fun κ hκ => lb_same (by (first | assumption | exact noIds_tab (fun _ => rfl) _ _ | exact noIds_encL (fun _ => rfl) _ | rfl))⟩, trivial⟩ (by ((repeat refine lws_cons (by (first | exact lw_any | exact lw_int | exact lw_bool | exact lw_ptr rfl | exact lw_slo rfl | exact lw_nilp | exact lw_nils | exact lw_str | exact lw_slo_nils | exact lw_slo_sle | exact lw_sl rfl | exact lw_unb | exact lw_gptr | exact lw_noid rfl | exact lw_cap rfl (Nat.le_refl _) | exact lw_cap rfl (by omega) | assumption | exact lw_tup (by ((repeat refine lws_cons (by (first | exact lw_any | exact lw_int | exact lw_bool | exact lw_ptr rfl | exact lw_slo rfl | exact lw_nilp | exact lw_nils | exact lw_str | exact lw_slo_nils | exact lw_slo_sle | exact lw_sl rfl | exact lw_unb | exact lw_gptr | exact lw_noid rfl | exact lw_cap rfl (Nat.le_refl _) | exact lw_cap rfl (by omega) | assumption)) ?_); exact lws_nil)))) ?_); exact lws_nil)) ?_
                fun κ h1 h2 => ⟨⟨lb_cells (lws_cons (lw_int) (lws_cons (lw_slo (h1 1 q rfl)) lws_nil)) (by simp), lb_same (by (first | assumption | exact noIds_tab (fun _ => rfl) _ _ | exact noIds_encL (fun _ => rfl) _ | rfl)), lb_same (by (first | assumption | exact noIds_tab (fun _ => rfl) _ _ | exact noIds_encL (fun _ => rfl) _ | rfl)), trivial⟩, lw_bool⟩
              rw [hgl]; exact (stands_c most n m qc lc k1 k2)
            · cases hg
        · cases hg
      · cases hg
    · cases hg
  · cases hg
def ostdG : Gc := fun args s => match args, s.g with
  | [.slo q 0 n 0, .slo r 0 m 0], [] => (match s.h.get q with
    | some (.cells qc (some 2)) => (match s.h.get r with
      | some (.cells lc (some 3)) => cond (nodupB [q, r]) (match s.lay [q, r] [.cells qc (some 2), .cells lc (some 3)] [] with
        | some s' => some ([okQ qc n, okL lc m], .bool (stdW qc lc), s')
        | none => none) none
      | _ => none)
    | _ => none)
  | _, _ => none
theorem ostdG_ok : GOk Go.Proofs.Try.prog 17 ostdG := by
  intro args s bs l s' hg hb hfr
  unfold ostdG at hg
  split at hg
  · rename_i q n r m hgl
    split at hg
    · rename_i qc hb0
      split at hg
      · rename_i lc hb1
        cases hbc : nodupB [q, r] with
        | false => rw [hbc] at hg; cases hg
        | true =>
          rw [hbc] at hg
          simp only [cond_true] at hg
          split at hg
          · rename_i s1 hs1
            simp only [Option.some.injEq, Prod.mk.injEq] at hg
            obtain ⟨rfl, rfl, rfl⟩ := hg
            simp only [allT_cons] at hb
            obtain ⟨k1, k2, _⟩ := hb
            have no : noIds qc = true := by obtain ⟨_, e, _⟩ := okQ_iff.1 k1; rw [e]; exact noids_c _
            have no2 : noIds lc = true := by obtain ⟨_, e, _⟩ := okL_iff.1 k2; rw [e]; exact noids_l _
            refine SFun.lay (bs := [.cells qc (some 2), .cells lc (some 3)]) (args0 := [.slo 0 0 n 0, .slo 1 0 m 0]) (bs' := [.cells qc (some 2), .cells lc (some 3)]) (v0 := .bool (stdW qc lc)) hfr hs1 (nodupB_nd hbc)
              ⟨⟨there hfr hb0, _, hb0, lb_same (by (first | assumption | exact noIds_tab (fun _ => rfl) _ _ | exact noIds_encL (fun _ => rfl) _ | rfl)), fun κ hκ => lb_same (by (first | assumption | exact noIds_tab (fun _ => rfl) _ _ | exact noIds_encL (fun _ => rfl) _ | rfl))⟩, ⟨there hfr hb1, _, hb1, lb_same (by (first | assumption | exact noIds_tab (fun _ => rfl) _ _ | exact noIds_encL (fun _ => rfl) _ | rfl)), fun κ hκ => lb_same (by (first | assumption | exact noIds_tab (fun _ => rfl) _ _ | exact noIds_encL (fun _ => rfl) _ | rfl))⟩, trivial⟩ (by ((repeat refine lws_cons (by (first | exact lw_any | exact lw_int | exact lw_bool | exact lw_ptr rfl | exact lw_slo rfl | exact lw_nilp | exact lw_nils | exact lw_str | exact lw_slo_nils | exact lw_slo_sle | exact lw_sl rfl | exact lw_unb | exact lw_gptr | exact lw_noid rfl | exact lw_cap rfl (Nat.le_refl _) | exact lw_cap rfl (by omega) | assumption | exact lw_tup (by ((repeat refine lws_cons (by (first | exact lw_any | exact lw_int | exact lw_bool | exact lw_ptr rfl | exact lw_slo rfl | exact lw_nilp | exact lw_nils | exact lw_str | exact lw_slo_nils | exact lw_slo_sle | exact lw_sl rfl | exact lw_unb | exact lw_gptr | exact lw_noid rfl | exact lw_cap rfl (Nat.le_refl _) | exact lw_cap rfl (by omega) | assumption)) ?_); exact lws_nil)))) ?_); exact lws_nil)) ?_
              fun κ h1 h2 => ⟨⟨lb_same (by (first | assumption | exact noIds_tab (fun _ => rfl) _ _ | exact noIds_encL (fun _ => rfl) _ | rfl)), lb_same (by (first | assumption | exact noIds_tab (fun _ => rfl) _ _ | exact noIds_encL (fun _ => rfl) _ | rfl)), trivial⟩, lw_bool⟩
            rw [hgl]; exact (ostands_c n m qc lc k1 k2)
          · cases hg
      · cases hg
    · cases hg
  · cases hg
end
end Go.Lev
