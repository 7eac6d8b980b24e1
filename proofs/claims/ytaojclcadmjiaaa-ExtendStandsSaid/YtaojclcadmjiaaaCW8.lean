/- ExtendStands: what holds -/
import Derived.Test.YtaojclcadmjiaaaCW7
import Derived.Test.YtaojclcadmjiaaaLc
import Derived.Test.YtaojclcadmjiaaaChecked
import Derived.KernelRfl

namespace Go.Lev
open Go.RowKit
set_option linter.unusedVariables false
set_option linter.unusedSimpArgs false
set_option maxRecDepth 100000
noncomputable section
abbrev d0 : Lk := (0, false, 0)
structure LFr (L : List Lk) : Prop where
  n : L.length = 16
  h : ∀ j : Nat, (L.getD j d0).2.1 = false
structure LHd (hd o : Int) (L : List Lk) : Prop where
  n : L.length = 16
  h : ∀ j : Nat, j < 16 → ((L.getD j d0).2.1 = true ↔ hd = (j : Int))
  o : ∀ j : Nat, j < 16 → hd = (j : Int) → (L.getD j d0).2.2 = o
theorem getD_set {L : List Lk} {i : Nat} (hi : i < L.length) (y : Lk) (j : Nat) : (L.set i y).getD j d0 = if j = i then y else L.getD j d0 := by
  simp only [List.getD_eq_getElem?_getD, List.getElem?_set]
  by_cases e : i = j
  · subst e; simp [hi]
  · rw [if_neg e, if_neg (Ne.symm e)]
theorem LFr.zero : LFr (List.replicate 16 (0, false, 0)) := ⟨by simp, fun j => by
  rw [List.getD_eq_getElem?_getD, List.getElem?_replicate]; split <;> rfl⟩
theorem LFr.put {L : List Lk} (h : LFr L) {i : Nat} (hi : i < 16) (v : Int) : LFr (L.set i (v, false, 0)) :=
  ⟨by rw [List.length_set]; exact h.n, fun j => by rw [getD_set (by rw [h.n]; exact hi)]; split; rfl; exact h.h j⟩
theorem LFr.none {L : List Lk} (h : LFr L) {hd : Int} (hh : 16 ≤ hd) (o : Int) : LHd hd o L :=
  ⟨h.n, fun j hj => ⟨fun k => (by rw [h.h j] at k; cases k), fun k => by omega⟩, fun j hj k => by omega⟩
theorem LFr.hold {L : List Lk} (h : LFr L) {p : Nat} (hp : p < 16) (o : Int) : LHd (p : Int) o (L.set p (0, true, o)) := by
  refine ⟨by rw [List.length_set]; exact h.n, fun j hj => ?_, fun j hj k => ?_⟩
  · rw [getD_set (by rw [h.n]; exact hp)]
    split
    · rename_i e; subst e; simp
    · rename_i e; rw [h.h j]; simp only [Bool.false_eq_true, false_iff]; omega
  · rw [getD_set (by rw [h.n]; exact hp), if_pos (by omega)]
abbrev yk (ys : List (Int × Int)) (k : Nat) : Int × Int := ys.getD k (0, 0)
abbrev lk' (L : List Lk) (y : Int × Int) : Lk := L.getD y.1.toNat d0
def Blk (ys : List (Int × Int)) (L : List Lk) (k : Nat) : Prop := k < ys.length ∧ (lk' L (yk ys k)).2.1 = true
/-- What holds between the look, the memory and how often it was asked. -/
structure SI (ys : List (Int × Int)) (L : List Lk) (o N : Int) (n : Nat) (s : ESt) : Prop where
  ok : s.ok ys.length
  en : s.en = 0 ∨ s.en = 2 ∨ s.en = 5
  a : s.en = 0 → s.dt = false → n = 0 ∧ s.sp = 3
  b : s.en = 0 → s.dt = true → s.sm = N ∧ (∀ j, j < s.k → stA L (yk ys j)) ∧ (s.sp = 3 ∨ Blk ys L s.k) ∧ ((n : Int) = s.k + 1 + (3 - s.sp) ∨ (Blk ys L s.k ∧ 1 < o))
  d : s.en = 2 → s.sm = N ∧ (∀ y ∈ ys, stA L y) ∧ n = ys.length + 1
  e : s.en = 5 → ∃ y ∈ ys, ¬ stA L y
theorem yk_mem {ys : List (Int × Int)} {k : Nat} (h : k < ys.length) : yk ys k ∈ ys := by
  have : yk ys k = ys[k] := by simp [List.getD_eq_getElem?_getD, h]
  rw [this]; exact List.getElem_mem h
theorem yk_all {ys : List (Int × Int)} {P : Int × Int → Prop} (h : ∀ j, j < ys.length → P (yk ys j)) : ∀ y ∈ ys, P y := by
  intro y hy
  obtain ⟨j, hj, rfl⟩ := List.getElem_of_mem hy
  have := h j hj
  rwa [show yk ys j = ys[j] by simp [List.getD_eq_getElem?_getD, hj]] at this
theorem SI.clock {ys : List (Int × Int)} {L : List Lk} {o N : Int} {n : Nat} {s : ESt} (h : SI ys L o N n s) (cs : List LV) (h0 : s.en = 0) (h1 : s.dt = false) : SI ys L o N (n + 1) (eStep 1 ys.length cs s N 0 false 0 0) := by
  have hk := eStep_ok (me := 1) (cs := cs) h.ok N 0 false 0 0
  have k0 := h.ok.dt h1
  obtain ⟨n0, sp⟩ := h.a h0 h1
  by_cases hm : ys.length = 0
  · have E : eStep 1 ys.length cs s N 0 false 0 0 = { s with dt := true, sm := N, en := 2 } := by simp [eStep, h0, h1, hm]
    rw [E] at hk ⊢
    exact ⟨hk, .inr (.inl rfl), fun h => by simp at h, fun h => by simp at h, fun _ => ⟨rfl, fun y hy => (by rw [List.length_eq_zero_iff.1 hm] at hy; cases hy), by omega⟩, fun h => by simp at h⟩
  · have E : eStep 1 ys.length cs s N 0 false 0 0 = { s with dt := true, sm := N, en := 0 } := by simp only [eStep]; simp [h0, h1, hm]
    rw [E] at hk ⊢
    exact ⟨hk, .inl rfl, fun _ h => by simp at h, fun _ _ => ⟨rfl, fun j hj => by simp only at hj; omega, .inl sp, .inl (by simp only; omega)⟩, fun h => by simp at h, fun h => by simp at h⟩
theorem SI.look {ys : List (Int × Int)} {L : List Lk} {hd o N : Int} {n : Nat} {s : ESt} (h : SI ys L o N n s) (hL : LHd hd o L) (hy : ∀ y ∈ ys, 0 ≤ y.1 ∧ y.1 < 16) (h0 : s.en = 0) (h1 : s.dt = true) :
    SI ys L o N (n + 1) (eStep 1 ys.length (encL cellQ ys) s 0 (lk' L (yk ys s.k)).1 (lk' L (yk ys s.k)).2.1 (lk' L (yk ys s.k)).2.2 0) := by
  have hk := eStep_ok (me := 1) (cs := encL cellQ ys) h.ok 0 (lk' L (yk ys s.k)).1 (lk' L (yk ys s.k)).2.1 (lk' L (yk ys s.k)).2.2 0
  obtain ⟨b1, b2, b3, b4⟩ := h.b h0 h1
  obtain ⟨e1, e2, e3⟩ := h.ok.en h0
  have km := e3 h1
  have ym := yk_mem km
  have yb := hy _ ym
  have ev : eVer (encL cellQ ys) s.k = (yk ys s.k).2 := by rw [eVer_enc km]; simp [List.getD_eq_getElem?_getD, km]
  obtain ⟨sp0, sp4⟩ := h.ok.sp
  have g0 : ∀ w v hh oo, eStep 1 ys.length (encL cellQ ys) s w v hh oo 0 = if hh = true then (if 1 < oo then s else if 0 < s.sp then { s with sp := s.sp - 1 } else { s with en := 5, bu := oo }) else if v ≠ (yk ys s.k).2 then { s with en := 5 } else { s with k := s.k + 1, en := if s.k + 1 = ys.length then 2 else 0 } := fun w v hh oo => by
    rw [← ev]; simp only [eStep, h0, h1, ne_eq, not_true, if_false, Bool.true_eq_false]
  rw [g0] at hk ⊢
  cases hh : (lk' L (yk ys s.k)).2.1 with
  | true =>
    rw [hh, if_pos rfl] at hk
    rw [if_pos rfl]
    have hB : Blk ys L s.k := ⟨km, hh⟩
    have hp : (yk ys s.k).1.toNat < 16 := by omega
    have ho : (lk' L (yk ys s.k)).2.2 = o := hL.o _ hp ((hL.h _ hp).1 hh)
    rw [ho] at hk ⊢
    by_cases q1 : 1 < o
    · rw [if_pos q1] at hk ⊢
      exact ⟨hk, h.en, fun _ q => (by rw [h1] at q; cases q), fun _ _ => ⟨b1, b2, .inr hB, .inr ⟨hB, q1⟩⟩, fun q => by omega, fun q => by omega⟩
    rw [if_neg q1] at hk ⊢
    by_cases q2 : 0 < s.sp
    · rw [if_pos q2] at hk ⊢
      refine ⟨hk, h.en, fun _ q => (by simp only [h1] at q; cases q), fun _ _ => ⟨b1, b2, .inr hB, .inl ?_⟩, fun q => by simp only at q; omega, fun q => by simp only at q; omega⟩
      simp only
      rcases b4 with b4 | ⟨_, b4⟩ <;> omega
    · rw [if_neg q2] at hk ⊢
      exact ⟨hk, .inr (.inr rfl), fun q => by simp at q, fun q => by simp at q, fun q => by simp at q, fun _ => ⟨_, ym, fun k => by have := k.2.2.1; rw [hh] at this; cases this⟩⟩
  | false =>
    rw [hh, if_neg (by simp)] at hk
    rw [if_neg (by simp)]
    have nB : ¬ Blk ys L s.k := fun k => by have := k.2; rw [hh] at this; cases this
    have s3 : s.sp = 3 := by rcases b3 with b | b; exact b; exact absurd b nB
    have nk : (n : Int) = s.k + 1 + (3 - s.sp) := by rcases b4 with b | b; exact b; exact absurd b.1 nB
    by_cases q1 : (lk' L (yk ys s.k)).1 = (yk ys s.k).2
    · rw [if_neg (by simpa using q1)] at hk ⊢
      have hst : stA L (yk ys s.k) := ⟨yb.1, by rw [hL.n]; exact yb.2, hh, q1⟩
      have b2' : ∀ j, j < s.k + 1 → stA L (yk ys j) := fun j hj => by
        rcases Nat.lt_succ_iff_lt_or_eq.1 hj with h | rfl
        · exact b2 j h
        · exact hst
      by_cases q2 : s.k + 1 = ys.length
      · rw [if_pos q2] at hk ⊢
        exact ⟨hk, .inr (.inl rfl), fun q => by simp at q, fun q => by simp at q, fun _ => ⟨b1, yk_all fun j hj => b2' j (by omega), by omega⟩, fun q => by simp at q⟩
      · rw [if_neg q2] at hk ⊢
        exact ⟨hk, .inl rfl, fun _ q => (by simp only [h1] at q; cases q), fun _ _ => ⟨b1, b2', .inl s3, .inl (by simp only; omega)⟩, fun q => by simp at q, fun q => by simp at q⟩
    · rw [if_pos q1] at hk ⊢
      exact ⟨hk, .inr (.inr rfl), fun q => by simp at q, fun q => by simp at q, fun q => by simp at q, fun _ => ⟨_, ym, fun k => q1 k.2.2.2⟩⟩
end
end Go.Lev
