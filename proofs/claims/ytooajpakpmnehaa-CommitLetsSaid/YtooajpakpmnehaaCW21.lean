/- chapter 25: the stripes of cells -/
import Derived.Test.YtooajpakpmnehaaCW20
import Derived.Test.YtooajpakpmnehaaLc
import Derived.Test.YtooajpakpmnehaaChecked
import Derived.KernelRfl

namespace Go.Lev
open Go.RowKit
set_option linter.unusedVariables false
set_option linter.unusedSimpArgs false
set_option maxRecDepth 100000
noncomputable section
theorem ofV_hld (a n w : Int) : ofV a n w < hld n := by
  have h1 := hld_in n
  simp only [ofV]
  split
  · omega
  · exact (tmod_pos _ _ (by omega)).2.1
theorem gat_mem (m : Nat → Bool) (v : Int) : ∀ S, v ∈ gat m S ↔ ∃ s, s < S ∧ m s = true ∧ v = (s : Int)
  | 0 => by simp [gat]
  | S + 1 => by
    rw [gat]
    have ih := gat_mem m v S
    split
    · rename_i h
      rw [List.mem_append, ih]
      constructor
      · rintro (⟨s, h1, h2, h3⟩ | h1)
        · exact ⟨s, by omega, h2, h3⟩
        · exact ⟨S, Nat.lt_succ_self _, h, by simpa using h1⟩
      · rintro ⟨s, h1, h2, h3⟩
        rcases Nat.lt_succ_iff_lt_or_eq.1 h1 with h4 | rfl
        · exact .inl ⟨s, h4, h2, h3⟩
        · exact .inr (by simp [h3])
    · rename_i h
      rw [ih]
      constructor
      · rintro ⟨s, h1, h2, h3⟩; exact ⟨s, by omega, h2, h3⟩
      · rintro ⟨s, h1, h2, h3⟩
        rcases Nat.lt_succ_iff_lt_or_eq.1 h1 with h4 | rfl
        · exact ⟨s, h4, h2, h3⟩
        · exact absurd h2 h
theorem gat_nodup (m : Nat → Bool) : ∀ S, (gat m S).Nodup
  | 0 => List.nodup_nil
  | S + 1 => by
    rw [gat]
    split
    · refine List.nodup_append.2 ⟨gat_nodup m S, by simp, fun a ha b hb e => ?_⟩
      subst e
      obtain ⟨s, h1, _, h3⟩ := (gat_mem m a S).1 ha
      have : a = (S : Int) := by simpa using hb
      omega
    · exact gat_nodup m S
theorem metR_lt {lg : Nat → Int × Int} {n w : Int} : ∀ {k s : Nat}, metR lg n w k s = true → (s : Int) < hld n
  | 0, s, h => by simp [metR] at h
  | k + 1, s, h => by
    rw [metR] at h
    split at h
    · rename_i h0
      simp only [upd] at h
      split at h
      · rename_i e
        have := ofV_hld (lg k).1 n w
        omega
      · exact metR_lt h
    · exact metR_lt h
theorem metR_of {lg : Nat → Int × Int} {n w : Int} : ∀ {k j : Nat}, j < k → 0 ≤ ofV (lg j).1 n w → metR lg n w k (ofV (lg j).1 n w).toNat = true
  | 0, j, h, _ => by omega
  | k + 1, j, h, h0 => by
    rw [metR]
    rcases Nat.lt_succ_iff_lt_or_eq.1 h with h1 | rfl
    · have ih := metR_of h1 h0
      split
      · simp only [upd]; split
        · rfl
        · exact ih
      · exact ih
    · rw [if_pos h0]; simp [upd]
theorem str_rng (cs : List (Int × Int)) (n w : Int) {t : Nat} (h : t < (strL cs n w).length) : 0 ≤ (strL cs n w).getD t 0 ∧ (strL cs n w).getD t 0 < hld n := by
  have hm : (strL cs n w).getD t 0 ∈ strL cs n w := by
    simp only [List.getD_eq_getElem?_getD, List.getElem?_eq_getElem h, Option.getD_some]; exact List.getElem_mem h
  obtain ⟨s, h1, h2, h3⟩ := (gat_mem _ _ _).1 hm
  rw [h3]
  exact ⟨by omega, metR_lt h2⟩
theorem str_inj (cs : List (Int × Int)) (n w : Int) {t t' : Nat} (h : t < (strL cs n w).length) (h' : t' < (strL cs n w).length) (e : (strL cs n w).getD t 0 = (strL cs n w).getD t' 0) : t = t' := by
  simp only [List.getD_eq_getElem?_getD, List.getElem?_eq_getElem h, List.getElem?_eq_getElem h', Option.getD_some] at e
  exact (List.getElem_inj (gat_nodup _ _)).1 e
/-- The stripe of each cell is one of them. -/
theorem str_has (cs : List (Int × Int)) (n w : Int) {j : Nat} (h : j < cs.length) (h0 : 0 ≤ ofV (cs.getD j q0).1 n w) : ∃ t, t < (strL cs n w).length ∧ (strL cs n w).getD t 0 = ofV (cs.getD j q0).1 n w := by
  have e : decG (encL cell cs) j = cs.getD j q0 := by rw [decG_enc h]; simp [List.getD_eq_getElem?_getD, h]
  have hm : ofV (cs.getD j q0).1 n w ∈ strL cs n w := by
    refine (gat_mem _ _ _).2 ⟨(ofV (cs.getD j q0).1 n w).toNat, ?_, ?_, by omega⟩
    · have := ofV_lt (cs.getD j q0).1 n w; omega
    · rw [← e] at h0 ⊢; exact metR_of h h0
  obtain ⟨t, ht, he⟩ := List.getElem_of_mem hm
  exact ⟨t, ht, by simp [List.getD_eq_getElem?_getD, ht, he]⟩
/-- What is put stays near. -/
theorem putL_in {P : Int → Prop} {xs : List (Int × Int)} (h : ∀ j, j < xs.length → P (xs.getD j q0).1) {a v : Int} (ha : P a) : ∀ j, j < (putL xs a v).length → P ((putL xs a v).getD j q0).1 := by
  intro j hj
  unfold putL at hj ⊢
  split
  · rename_i i hi
    simp only [hi, List.length_set] at hj
    obtain ⟨hx, _⟩ := idxOf_lt hi
    simp only [List.length_map] at hx
    simp only [List.getD_eq_getElem?_getD, List.getElem?_set]
    by_cases e : i = j
    · subst e
      simp only [if_pos hj, Option.getD_some, if_true]
      have := h i hj
      simp only [List.getD_eq_getElem?_getD] at this
      exact this
    · rw [if_neg e]
      have := h j hj
      simp only [List.getD_eq_getElem?_getD] at this
      exact this
  · rename_i hi
    simp only [hi, List.length_append, List.length_cons, List.length_nil] at hj
    by_cases e : j < xs.length
    · have := h j e
      simp only [List.getD_eq_getElem?_getD, List.getElem?_append_left e] at this ⊢
      exact this
    · have : j = xs.length := by omega
      subst this
      simp only [List.getD_eq_getElem?_getD, List.getElem?_append_right (Nat.le_refl _), Nat.sub_self]
      exact ha
end
end Go.Lev
