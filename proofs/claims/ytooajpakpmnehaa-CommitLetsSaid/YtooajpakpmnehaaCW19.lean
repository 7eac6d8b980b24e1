/- chapter 25: a step of a commit alone -/
import Derived.Test.YtooajpakpmnehaaCW18
import Derived.Test.YtooajpakpmnehaaLc
import Derived.Test.YtooajpakpmnehaaChecked
import Derived.KernelRfl

namespace Go.Lev
open Go.RowKit
set_option linter.unusedVariables false
set_option linter.unusedSimpArgs false
set_option maxRecDepth 100000
noncomputable section
theorem opOf_go {me : Int} {qs cs : List (Int × Int)} {ss : List Int} {s : CS} (h0 : s.en = 0) : opOf me qs cs ss s = if s.ph = 0 then ⟨3, ss.getD s.at' 0, 0, 0, d0, d0⟩
  else if s.ph = 1 then ⟨4, ss.getD s.at' 0, 0, 0, s.lk, (s.lk.1, true, me)⟩
  else if s.ph = 2 then ⟨6, 0, 0, 0, d0, d0⟩
  else if s.ph = 3 then ⟨7, 0, s.now, s.now + 1, d0, d0⟩
  else if s.ph = 4 then ⟨3, (qs.getD s.at' q0).1, 0, 0, d0, d0⟩
  else if s.ph = 5 then ⟨2, (cs.getD s.at' q0).1, 0, (cs.getD s.at' q0).2, d0, d0⟩
  else if s.ph = 6 then ⟨5, ss.getD s.at' 0, 0, 0, d0, (s.now + 1, false, 0)⟩
  else ⟨5, ss.getD s.at' 0, 0, 0, d0, s.tk.getD s.at' d0⟩ := by rw [opOf, if_neg (by simpa using h0)]
theorem sm3 (m : MS) (a o w : Int) (x y : Lk) : stepM m ⟨3, a, o, w, x, y⟩ = ldL m a := rfl
theorem sm4 (m : MS) (a o w : Int) (x y : Lk) : stepM m ⟨4, a, o, w, x, y⟩ = csL m a x y := rfl
theorem sm5 (m : MS) (a o w : Int) (x y : Lk) : stepM m ⟨5, a, o, w, x, y⟩ = stL m a y := rfl
theorem sm6 (m : MS) (a o w : Int) (x y : Lk) : stepM m ⟨6, a, o, w, x, y⟩ = ldN m := rfl
theorem sm7 (m : MS) (a o w : Int) (x y : Lk) : stepM m ⟨7, a, o, w, x, y⟩ = csN m o w := rfl
theorem sm2 (m : MS) (a o w : Int) (x y : Lk) : stepM m ⟨2, a, o, w, x, y⟩ = stW m a w := rfl
section
variable {me stm : Int} {qs cs : List (Int × Int)} {ss : List Int} {L0 : List Lk} {W0 : List Int} {N0 : Int} {D : Prop} {R : Int → Int → Int → Int → Prop}
abbrev Nxt (stm : Int) (qs cs : List (Int × Int)) (ss : List Int) (L0 : List Lk) (W0 : List Int) (N0 : Int) (D : Prop) (R : Int → Int → Int → Int → Prop) (s : CS) (p : CS × MS) : Prop :=
  Js stm qs cs ss L0 W0 N0 D R p ∧ (p.1.en = 0 → pot cs.length ss.length p.1 < pot cs.length ss.length s)
theorem step0 (E : Env me stm qs cs ss L0 W0 N0 D R) {s : CS} {m : MS} (J : Js stm qs cs ss L0 W0 N0 D R (s, m)) (h0 : s.en = 0) (p0 : s.ph = 0) : Nxt stm qs cs ss L0 W0 N0 D R s (aStep me stm qs cs ss (s, m)) := by
  have hb : qs.length ≤ 1000000 ∧ cs.length ≤ 1000000 ∧ ss.length ≤ 1000000 := ⟨by have := E.bq; omega, by have := E.bc; omega, by have := E.bs; omega⟩
  have hok := aStep_ok (me := me) (stm := stm) hb J.ok
  obtain ⟨q1, q2, q3, q4, q5⟩ := J
  have G := q5 h0
  have ga := (q1.s.go h0).a (.inl p0)
  obtain ⟨ha, hW, hst⟩ := G.a (by simp only; omega)
  simp only at ga ha hW hst q2 q3
  have hr := E.rng s.at' ga.2
  have hget : m.L.getD (ss.getD s.at' 0).toNat d0 = L0.getD (ss.getD s.at' 0).toNat d0 := ha.out _ (by omega) fun t _ ht e => by
    have hts := q1.s.tk
    simp only at hts
    have := E.inj t s.at' (by omega) ga.2 (by omega)
    omega
  have hop : stepM m (opOf me qs cs ss s) = (m.bump, 0, L0.getD (ss.getD s.at' 0).toNat d0, false, 0) := by
    rw [opOf_go h0, if_pos p0, sm3, ldL, if_pos ⟨hr.1, by omega⟩, hget]
  rw [aStep_eq h0 hop] at hok ⊢
  generalize hl : L0.getD (ss.getD s.at' 0).toNat d0 = l at *
  rw [gSw, if_pos p0] at hok ⊢
  by_cases hh : l.2.1 = true
  · rw [if_pos hh] at hok ⊢
    obtain ⟨e1, e2⟩ := E.hel s.at' ga.2 (by rw [hl]; exact hh)
    rw [hl] at e1 e2
    rw [gAw, if_neg e1] at hok ⊢
    by_cases u : s.su = 0
    · rw [if_pos u] at hok ⊢
      refine Js.letGo E hok h0 q2 ha hW hst (by have := G.a3 (by simp only; omega); simp only at this; show R 5 l.2.2 0 m.N; rw [this]; exact e2) G.tk G.fr _ ?_
      rw [pot, if_pos p0]; omega
    · rw [if_neg u] at hok ⊢
      have hsu := q1.s.su
      simp only at hsu
      rw [gGo_id (by simp only; omega) (by simp only; omega) (by simp only; omega) (by simp only; omega)] at hok ⊢
      refine ⟨⟨hok, q2, q3, fun h => absurd h0 h, fun _ => ⟨G.tk, G.fr, G.a, G.a3, G.c1, G.c3, G.c4, G.c5, G.c7⟩⟩, fun _ => ?_⟩
      simp only [pot, p0, if_true]
      omega
  · rw [if_neg hh] at hok ⊢
    rw [gGo_id (by simp) (by simp) (by simp) (by simp)] at hok ⊢
    refine ⟨⟨hok, q2, q3, fun h => absurd h0 h, fun _ => ⟨G.tk, G.fr, fun _ => G.a (by simp only; omega), fun _ => G.a3 (by simp only; omega), fun _ => ⟨?_, ?_⟩, fun h => by simp at h, fun h => by simp at h, fun h => by simp at h, fun h => by simp at h⟩⟩, fun _ => ?_⟩
    · show (l.1, l.2.1, l.2.2) = _
      rw [hl]
    · show l.2.1 = false
      simpa using hh
    · have : pot cs.length ss.length s = 110 + 8 * (ss.length - s.at') + s.su.toNat := by rw [pot, if_pos p0]
      rw [this]
      show pot cs.length ss.length (s.lok (l.1, l.2.1, l.2.2)) < _
      simp only [pot]
      simp <;> omega
theorem step1 (E : Env me stm qs cs ss L0 W0 N0 D R) {s : CS} {m : MS} (J : Js stm qs cs ss L0 W0 N0 D R (s, m)) (h0 : s.en = 0) (p1 : s.ph = 1) : Nxt stm qs cs ss L0 W0 N0 D R s (aStep me stm qs cs ss (s, m)) := by
  have hb : qs.length ≤ 1000000 ∧ cs.length ≤ 1000000 ∧ ss.length ≤ 1000000 := ⟨by have := E.bq; omega, by have := E.bc; omega, by have := E.bs; omega⟩
  have hok := aStep_ok (me := me) (stm := stm) hb J.ok
  obtain ⟨q1, q2, q3, q4, q5⟩ := J
  have G := q5 h0
  have ga := (q1.s.go h0).a (.inr p1)
  obtain ⟨ha, hW, hst⟩ := G.a (by simp only; omega)
  simp only at ga ha hW hst q2 q3
  have hr := E.rng s.at' ga.2
  have hget : m.L.getD (ss.getD s.at' 0).toNat d0 = L0.getD (ss.getD s.at' 0).toNat d0 := ha.out _ (by omega) fun t _ ht e => by
    have hts := q1.s.tk
    simp only at hts
    have := E.inj t s.at' (by omega) ga.2 (by omega)
    omega
  obtain ⟨c1, c2⟩ := G.c1 p1
  simp only at c1 c2
  have hlk0 := E.ok (ss.getD s.at' 0).toNat (by omega)
  rw [← c1] at hlk0
  have hlk : isLk (s.lk.1, true, me) = true := by
    simp only [isLk, Bool.and_eq_true, decide_eq_true_eq, if_true] at hlk0 ⊢
    exact ⟨hlk0.1, E.hme⟩
  have hop : stepM m (opOf me qs cs ss s) = ({ m.bump with L := m.L.set (ss.getD s.at' 0).toNat (s.lk.1, true, me) }, 0, (0, false, 0), true, 0) := by
    rw [opOf_go h0, if_neg (by omega), if_pos p1, sm4, csL, if_pos ⟨hr.1, by omega⟩, if_pos hlk, hget, if_pos c1.symm]
  rw [aStep_eq h0 hop] at hok ⊢
  rw [gSw, if_neg (by omega), if_pos p1, if_pos rfl] at hok ⊢
  have hG : ∀ x : CS, x.tk = s.tk ++ [s.lk] → x.en = 0 → x.st = s.st → ((x.ph = 0) ∨ x.ph = 2) → Gs stm qs ss L0 W0 N0 D R (x, { m.bump with L := m.L.set (ss.getD s.at' 0).toNat (s.lk.1, true, me) }) := fun x e1 e2 e3 e4 => by
    have tl : x.tk.length = s.tk.length + 1 := by rw [e1]; simp
    have gt : ∀ t, t < s.tk.length + 1 → x.tk.getD t d0 = L0.getD (ss.getD t 0).toNat d0 := fun t ht => by
      rw [e1]
      rcases Nat.lt_succ_iff_lt_or_eq.1 ht with h | rfl
      · rw [← G.tk t h]; simp [List.getD_eq_getElem?_getD, List.getElem?_append_left h]
      · rw [← ga.1, ← c1]; simp [List.getD_eq_getElem?_getD, ga.1]
    refine ⟨fun t ht => gt t (by simp only at ht; omega), fun t ht => ?_, fun _ => ⟨⟨by simp only [List.length_set]; exact q3, fun i hi ho => ?_⟩, hW, by rw [e3]; exact hst⟩, fun _ => G.a3 (by simp only; omega), fun h => by simp only at h; omega, fun h => by simp only at h; omega, fun h => by simp only at h; omega, fun h => by simp only at h; omega, fun h => by simp only at h; omega⟩
    · simp only at ht
      rcases Nat.lt_succ_iff_lt_or_eq.1 (show t < s.tk.length + 1 by omega) with h | rfl
      · exact G.fr t h
      · rw [← ga.1, ← c1]; exact c2
    · simp only at ho ⊢
      rw [tl] at ho
      have hk := ho s.tk.length (Nat.zero_le _) (Nat.lt_succ_self _)
      have hr' := hr
      rw [ga.1] at hr' ⊢
      rw [getD_setL (by omega), if_neg (by omega)]
      exact ha.out i hi fun t a b => ho t a (by omega)
  have hts := hok.s.tk
  by_cases u : s.at' + 1 = ss.length
  · rw [gGo_dating rfl u] at hok ⊢
    refine ⟨⟨hok, q2, by simp only [List.length_set]; exact q3, fun h => absurd h0 h, fun _ => hG _ rfl h0 rfl (.inr rfl)⟩, fun _ => ?_⟩
    have : pot cs.length ss.length s = 105 + 8 * (ss.length - s.at') + s.su.toNat := by rw [pot, if_neg (by omega), if_pos p1]
    rw [this]
    simp only [pot]
    simp
    omega
  · rw [gGo_id (fun _ => u) (by simp) (by simp) (by simp)] at hok ⊢
    refine ⟨⟨hok, q2, by simp only [List.length_set]; exact q3, fun h => absurd h0 h, fun _ => hG _ rfl h0 rfl (.inl rfl)⟩, fun _ => ?_⟩
    have : pot cs.length ss.length s = 105 + 8 * (ss.length - s.at') + s.su.toNat := by rw [pot, if_neg (by omega), if_pos p1]
    rw [this]
    show pot cs.length ss.length s.got < _
    simp only [pot]
    simp
    omega
theorem step2 (E : Env me stm qs cs ss L0 W0 N0 D R) {s : CS} {m : MS} (J : Js stm qs cs ss L0 W0 N0 D R (s, m)) (h0 : s.en = 0) (p2 : s.ph = 2) : Nxt stm qs cs ss L0 W0 N0 D R s (aStep me stm qs cs ss (s, m)) := by
  have hb : qs.length ≤ 1000000 ∧ cs.length ≤ 1000000 ∧ ss.length ≤ 1000000 := ⟨by have := E.bq; omega, by have := E.bc; omega, by have := E.bs; omega⟩
  have hok := aStep_ok (me := me) (stm := stm) hb J.ok
  obtain ⟨q1, q2, q3, q4, q5⟩ := J
  have G := q5 h0
  obtain ⟨ha, hW, hst⟩ := G.a (by simp only; omega)
  have hN := G.a3 (by simp only; omega)
  simp only at ha hW hst q2 q3 hN
  have hop : stepM m (opOf me qs cs ss s) = (m.bump, N0, (0, false, 0), false, 0) := by
    rw [opOf_go h0, if_neg (by omega), if_neg (by omega), if_pos p2, sm6, ldN, hN]
  rw [aStep_eq h0 hop] at hok ⊢
  rw [gSw, if_neg (by omega), if_neg (by omega), if_pos p2] at hok ⊢
  by_cases u : 4611686018427387903 ≤ N0
  · rw [if_pos u] at hok ⊢
    refine Js.letGo E hok h0 q2 ha hW hst (by show R 4 (-1) 7 m.N; rw [hN]; exact E.clk u) G.tk G.fr _ ?_
    rw [pot, if_neg (by omega), if_neg (by omega), if_pos p2]; omega
  · rw [if_neg u] at hok ⊢
    rw [gGo_id (by simp) (by simp) (by simp) (by simp)] at hok ⊢
    refine ⟨⟨hok, q2, q3, fun h => absurd h0 h, fun _ => ⟨G.tk, G.fr, fun _ => G.a (by simp only; omega), fun _ => G.a3 (by simp only; omega), fun h => by simp at h, fun _ => ⟨rfl, by omega⟩, fun h => by simp at h, fun h => by simp at h, fun h => by simp at h⟩⟩, fun _ => ?_⟩
    rw [pot, if_neg (by simp), if_neg (by simp), if_neg (by simp), if_pos (by simp), pot, if_neg (by omega), if_neg (by omega), if_pos p2]
    omega
end
end
end Go.Lev
