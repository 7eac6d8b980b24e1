/- chapter 25: how a commit alone ends -/
import Derived.Test.YtooajpakpmnehaaCW16
import Derived.Test.YtooajpakpmnehaaLc
import Derived.Test.YtooajpakpmnehaaChecked
import Derived.KernelRfl

namespace Go.Lev
open Go.RowKit
set_option linter.unusedVariables false
set_option linter.unusedSimpArgs false
set_option maxRecDepth 100000
noncomputable section
theorem getD_setL {L : List Lk} {i : Nat} (hi : i < L.length) (y : Lk) (j : Nat) : (L.set i y).getD j d0 = if j = i then y else L.getD j d0 := by
  simp only [List.getD_eq_getElem?_getD, List.getElem?_set]
  by_cases e : i = j
  · subst e; simp [hi]
  · rw [if_neg e, if_neg (Ne.symm e)]
/-- All locks are as they were but those of the stripes j .. k - 1 of a row. -/
structure LKs (L0 : List Lk) (ss : List Int) (j k : Nat) (L : List Lk) : Prop where
  len : L.length = L0.length
  out : ∀ i : Nat, i < L0.length → (∀ t, j ≤ t → t < k → ss.getD t 0 ≠ (i : Int)) → L.getD i d0 = L0.getD i d0
theorem LKs.zero (L0 : List Lk) (ss : List Int) (j : Nat) : LKs L0 ss j j L0 := ⟨rfl, fun _ _ _ => rfl⟩
theorem LKs.done {L0 L : List Lk} {ss : List Int} {j : Nat} (h : LKs L0 ss j j L) : L = L0 := by
  refine List.ext_getElem h.len fun i h1 h2 => ?_
  have := h.out i h2 fun t a b => by omega
  simpa [List.getD_eq_getElem?_getD, h1, h2] using this
/-- What is known of the commit, the memory, and how it may end. -/
structure Env (me stm : Int) (qs cs : List (Int × Int)) (ss : List Int) (L0 : List Lk) (W0 : List Int) (N0 : Int) (D : Prop) (R : Int → Int → Int → Int → Prop) : Prop where
  hme : 0 ≤ me ∧ me < 4
  bq : qs.length ≤ 1
  bc : cs.length ≤ 20
  bs : ss.length ≤ 16
  W : W0.length = 64
  L : L0.length ≤ 16
  cel : ∀ j, j < cs.length → 1 ≤ (cs.getD j q0).1 ∧ (cs.getD j q0).1 < 64
  inj : ∀ t t', t < ss.length → t' < ss.length → ss.getD t 0 = ss.getD t' 0 → t = t'
  rng : ∀ t, t < ss.length → 0 ≤ ss.getD t 0 ∧ ss.getD t 0 < (L0.length : Int)
  ok : ∀ i, i < L0.length → isLk (L0.getD i d0) = true
  N : 0 ≤ N0
  hel : ∀ t, t < ss.length → (L0.getD (ss.getD t 0).toNat d0).2.1 = true → ¬ me < (L0.getD (ss.getD t 0).toNat d0).2.2 ∧ R 5 (L0.getD (ss.getD t 0).toNat d0).2.2 0 N0
  clk : 4611686018427387903 ≤ N0 → R 4 (-1) 7 N0
  see : (∀ t, t < ss.length → (L0.getD (ss.getD t 0).toNat d0).2.1 = false) → N0 < 4611686018427387903 → stm ≠ N0 → qs.length = 1 ∧ 0 ≤ (qs.getD 0 q0).1 ∧ (qs.getD 0 q0).1 < (L0.length : Int) ∧ (L0.getD (qs.getD 0 q0).1.toNat d0).2.1 = false ∧ (L0.getD (qs.getD 0 q0).1.toNat d0).1 ≠ (qs.getD 0 q0).2 ∧ R 5 (-1) 0 (N0 + 1)
  dn : (∀ t, t < ss.length → (L0.getD (ss.getD t 0).toNat d0).2.1 = false) → N0 < 4611686018427387903 → stm = N0 → D
  z : ∀ a b c d, R a b c d → a ≠ 0
/-- How it has ended. -/
def Fin (L0 : List Lk) (W0 : List Int) (N0 : Int) (D : Prop) (R : Int → Int → Int → Int → Prop) (p : CS × MS) : Prop :=
  (p.1.en = 2 ∧ D ∧ p.2.N = N0 + 1) ∨ (R p.1.en p.1.bu p.1.er p.2.N ∧ p.1.st = false ∧ p.2.L = L0 ∧ p.2.W = W0)
/-- What holds as long as it goes on. -/
structure Gs (stm : Int) (qs : List (Int × Int)) (ss : List Int) (L0 : List Lk) (W0 : List Int) (N0 : Int) (D : Prop) (R : Int → Int → Int → Int → Prop) (p : CS × MS) : Prop where
  tk : ∀ t, t < p.1.tk.length → p.1.tk.getD t d0 = L0.getD (ss.getD t 0).toNat d0
  fr : ∀ t, t < p.1.tk.length → (L0.getD (ss.getD t 0).toNat d0).2.1 = false
  a : p.1.ph ≤ 4 → LKs L0 ss 0 p.1.tk.length p.2.L ∧ p.2.W = W0 ∧ p.1.st = false
  a3 : p.1.ph ≤ 3 → p.2.N = N0
  c1 : p.1.ph = 1 → p.1.lk = L0.getD (ss.getD p.1.at' 0).toNat d0 ∧ p.1.lk.2.1 = false
  c3 : p.1.ph = 3 → p.1.now = N0 ∧ N0 < 4611686018427387903
  c4 : p.1.ph = 4 → p.2.N = N0 + 1 ∧ p.1.at' = 0 ∧ stm ≠ N0 ∧ N0 < 4611686018427387903 ∧ ∀ t, t < p.1.tk.length → ss.getD t 0 ≠ (qs.getD 0 q0).1
  c5 : p.1.ph = 5 ∨ p.1.ph = 6 → p.2.N = N0 + 1 ∧ D
  c7 : p.1.ph = 7 → LKs L0 ss p.1.at' p.1.tk.length p.2.L ∧ p.2.W = W0 ∧ p.1.st = false ∧ R p.1.ve p.1.vb p.1.vr p.2.N
structure Js (stm : Int) (qs cs : List (Int × Int)) (ss : List Int) (L0 : List Lk) (W0 : List Int) (N0 : Int) (D : Prop) (R : Int → Int → Int → Int → Prop) (p : CS × MS) : Prop where
  ok : AOk qs cs ss p
  wl : p.2.W.length = 64
  ll : p.2.L.length = L0.length
  fin : p.1.en ≠ 0 → Fin L0 W0 N0 D R p
  go : p.1.en = 0 → Gs stm qs ss L0 W0 N0 D R p
/-- How many steps there are at most. -/
def pot (nc ns : Nat) (s : CS) : Nat :=
  if s.ph = 0 then 110 + 8 * (ns - s.at') + s.su.toNat else if s.ph = 1 then 105 + 8 * (ns - s.at') + s.su.toNat else if s.ph = 2 then 104 else if s.ph = 3 then 103 else if s.ph = 4 then 102
  else if s.ph = 5 then 60 + (nc - s.at') else if s.ph = 6 then 30 + (ns - s.at') else 1 + (s.tk.length - s.at')
theorem gGo_id {qs : List (Int × Int)} {nc : Nat} {ss : List Int} {s : CS} (h0 : s.ph = 0 → s.at' ≠ ss.length) (h4 : s.ph ≠ 4) (h5 : s.ph = 5 → s.at' ≠ nc) (h6 : s.ph = 6 ∨ s.ph = 7 → s.at' ≠ s.tk.length) : gGo qs nc ss s = s := by
  unfold gGo
  rw [g1, if_neg fun k => h0 k.1 k.2, gch_no fun k => h4 k.1, g3, if_neg fun k => h4 k.1, g4, if_neg fun k => h5 k.1 k.2, g5, if_neg fun k => h6 (.inl k.1) k.2, g6, if_neg fun k => h6 (.inr k.1) k.2]
theorem gGo_dating {qs : List (Int × Int)} {nc : Nat} {ss : List Int} {s : CS} (h0 : s.ph = 0) (h1 : s.at' = ss.length) : gGo qs nc ss s = s.enter 2 := by
  unfold gGo
  rw [g1, if_pos ⟨h0, h1⟩, gch_no (by simp), g3, if_neg (by simp), g4, if_neg (by simp), g5, if_neg (by simp), g6, if_neg (by simp)]
theorem gGo_let {qs : List (Int × Int)} {nc : Nat} {ss : List Int} (s : CS) (e b r : Int) : gGo qs nc ss (s.letGo e b r) = if s.tk.length = 0 then (s.letGo e b r).stop e r b else s.letGo e b r := by
  unfold gGo
  rw [g1, if_neg (by simp), gch_no (by simp), g3, if_neg (by simp), g4, if_neg (by simp), g5, if_neg (by simp), g6]
  by_cases q : s.tk.length = 0
  · rw [if_pos ⟨rfl, q.symm⟩, if_pos q]
  · rw [if_neg fun k => q k.2.symm, if_neg q]
theorem gGo_stop6 {qs : List (Int × Int)} {nc : Nat} {ss : List Int} {s : CS} (h : s.ph = 6) (h1 : s.at' = s.tk.length) : gGo qs nc ss s = s.stop 2 0 (-1) := by
  unfold gGo
  rw [g1, if_neg (by omega), gch_no (by omega), g3, if_neg (by omega), g4, if_neg (by omega), g5, if_pos ⟨h, h1⟩, g6, if_neg (by simp [h])]
theorem gGo_stop7 {qs : List (Int × Int)} {nc : Nat} {ss : List Int} {s : CS} (h : s.ph = 7) (h1 : s.at' = s.tk.length) : gGo qs nc ss s = s.stop s.ve s.vr s.vb := by
  unfold gGo
  rw [g1, if_neg (by omega), gch_no (by omega), g3, if_neg (by omega), g4, if_neg (by omega), g5, if_neg (by omega), g6, if_pos ⟨h, h1⟩]
/-- Where it begins to free its stripes, or is done. -/
theorem gGo_free {qs : List (Int × Int)} {nc : Nat} {ss : List Int} {s : CS} (h : s.ph = 5) (h1 : s.at' = nc) : gGo qs nc ss s = if s.tk.length = 0 then (s.enter 6).stop 2 0 (-1) else s.enter 6 := by
  unfold gGo
  rw [g1, if_neg (by omega), gch_no (by omega), g3, if_neg (by omega), g4, if_pos ⟨h, h1⟩, g5]
  by_cases q : s.tk.length = 0
  · rw [if_pos ⟨rfl, q.symm⟩, if_pos q, g6, if_neg (by simp)]
  · rw [if_neg fun k => q k.2.symm, if_neg q, g6, if_neg (by simp)]
theorem gGo_sure {qs : List (Int × Int)} {nc : Nat} {ss : List Int} {s : CS} (h : s.ph = 4) (h1 : s.at' = qs.length) : gGo qs nc ss s = if nc = 0 then (if s.tk.length = 0 then (s.sure.enter 6).stop 2 0 (-1) else s.sure.enter 6) else s.sure := by
  unfold gGo
  rw [g1, if_neg (by omega), gch_no (by omega), g3, if_pos ⟨h, h1⟩, g4]
  by_cases q : nc = 0
  · rw [if_pos ⟨rfl, q.symm⟩, if_pos q, g5]
    by_cases r : s.tk.length = 0
    · rw [if_pos ⟨rfl, r.symm⟩, if_pos r, g6, if_neg (by simp)]
    · rw [if_neg fun k => r k.2.symm, if_neg r, g6, if_neg (by simp)]
  · rw [if_neg fun k => q k.2.symm, if_neg q, g5, if_neg (by simp), g6, if_neg (by simp)]
theorem aStep_eq {me stm : Int} {qs cs : List (Int × Int)} {ss : List Int} {s : CS} {m m' : MS} {w : Int} {l : Lk} {d : Bool} (h0 : s.en = 0) (h : stepM m (opOf me qs cs ss s) = (m', w, l, d, 0)) : aStep me stm qs cs ss (s, m) = (gGo qs cs.length ss (gSw me stm qs s w l.1 l.2.1 l.2.2 d), m') := by
  simp only [aStep, h]
  rw [gTell, if_neg (by simpa using h0), if_neg (by simp)]
section
variable {me stm : Int} {qs cs : List (Int × Int)} {ss : List Int} {L0 : List Lk} {W0 : List Int} {N0 : Int} {D : Prop} {R : Int → Int → Int → Int → Prop}
/-- It lets go. -/
theorem Js.letGo (E : Env me stm qs cs ss L0 W0 N0 D R) {s : CS} {m : MS} {e b r : Int} (hok : AOk qs cs ss (gGo qs cs.length ss (s.letGo e b r), m)) (hen : s.en = 0) (hw : m.W.length = 64) (hl : LKs L0 ss 0 s.tk.length m.L) (hW : m.W = W0) (hst : s.st = false) (hR : R e b r m.N)
    (htk : ∀ t, t < s.tk.length → s.tk.getD t d0 = L0.getD (ss.getD t 0).toNat d0) (hfr : ∀ t, t < s.tk.length → (L0.getD (ss.getD t 0).toNat d0).2.1 = false) (P : Nat) (hP : 20 < P) :
    Js stm qs cs ss L0 W0 N0 D R (gGo qs cs.length ss (s.letGo e b r), m) ∧ ((gGo qs cs.length ss (s.letGo e b r)).en = 0 → pot cs.length ss.length (gGo qs cs.length ss (s.letGo e b r)) < P) := by
  have hts := hok.s.tk
  refine ⟨⟨hok, hw, hl.len, ?_, ?_⟩, ?_⟩
  · rw [gGo_let]
    split
    · rename_i q
      intro _
      rw [q] at hl
      exact .inr ⟨hR, hst, hl.done, hW⟩
    · intro h; exact absurd hen h
  · rw [gGo_let]
    split
    · intro h; exact absurd h (E.z _ _ _ _ hR)
    · intro _
      exact ⟨htk, hfr, fun h => by simp at h, fun h => by simp at h, fun h => by simp at h, fun h => by simp at h, fun h => by simp at h, fun h => by simp at h, fun _ => ⟨hl, hW, hst, hR⟩⟩
  · rw [gGo_let] at hts ⊢
    split
    · intro h; exact absurd h (E.z _ _ _ _ hR)
    · intro hz
      rename_i q
      rw [if_neg q] at hts
      have hbs := E.bs
      simp only at hts
      simp only [pot]
      simp
      omega
end
end
end Go.Lev
