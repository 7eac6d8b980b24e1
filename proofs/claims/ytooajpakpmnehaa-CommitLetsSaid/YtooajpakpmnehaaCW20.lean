/- chapter 25: further steps of a commit alone; how it ends -/
import Derived.Test.YtooajpakpmnehaaCW19
import Derived.Test.YtooajpakpmnehaaLc
import Derived.Test.YtooajpakpmnehaaChecked
import Derived.KernelRfl

namespace Go.Lev
open Go.RowKit
set_option linter.unusedVariables false
set_option linter.unusedSimpArgs false
set_option maxRecDepth 100000
noncomputable section
section
variable {me stm : Int} {qs cs : List (Int × Int)} {ss : List Int} {L0 : List Lk} {W0 : List Int} {N0 : Int} {D : Prop} {R : Int → Int → Int → Int → Prop}
theorem potv {nc ns : Nat} {s : CS} (k : Int) (v : Nat) (h : s.ph = k) (e : k = 2 ∧ v = 104 ∨ k = 3 ∧ v = 103 ∨ k = 4 ∧ v = 102 ∨ k = 5 ∧ v = 60 + (nc - s.at') ∨ k = 6 ∧ v = 30 + (ns - s.at') ∨ k = 7 ∧ v = 1 + (s.tk.length - s.at')) : pot nc ns s = v := by
  unfold pot
  rcases e with ⟨e, e'⟩ | ⟨e, e'⟩ | ⟨e, e'⟩ | ⟨e, e'⟩ | ⟨e, e'⟩ | ⟨e, e'⟩ <;> subst e <;> simp [h, e']
theorem Js.done (hN : ∀ s : CS, ∀ m : MS, True) {s : CS} {m : MS} (hok : AOk qs cs ss (s, m)) (hw : m.W.length = 64) (hl : m.L.length = L0.length) (h : s.en = 2) (hn : m.N = N0 + 1) (hD : D) (P : Nat) : Js stm qs cs ss L0 W0 N0 D R (s, m) ∧ (s.en = 0 → pot cs.length ss.length s < P) :=
  ⟨⟨hok, hw, hl, fun _ => .inl ⟨h, hD, hn⟩, fun h' => by rw [h] at h'; cases h'⟩, fun h' => by rw [h] at h'; cases h'⟩
/-- It writes, or frees. -/
theorem Js.late {s : CS} {m : MS} (hok : AOk qs cs ss (s, m)) (hw : m.W.length = 64) (hl : m.L.length = L0.length) (h0 : s.en = 0) (hp : s.ph = 5 ∨ s.ph = 6) (hn : m.N = N0 + 1) (hD : D)
    (htk : ∀ t, t < s.tk.length → s.tk.getD t d0 = L0.getD (ss.getD t 0).toNat d0) (hfr : ∀ t, t < s.tk.length → (L0.getD (ss.getD t 0).toNat d0).2.1 = false) : Js stm qs cs ss L0 W0 N0 D R (s, m) :=
  ⟨hok, hw, hl, fun h => absurd h0 h, fun _ => ⟨htk, hfr, fun h => by simp only at h; omega, fun h => by simp only at h; omega, fun h => by simp only at h; omega, fun h => by simp only at h; omega, fun h => by simp only at h; omega, fun _ => ⟨hn, hD⟩, fun h => by simp only at h; omega⟩⟩
theorem step3 (E : Env me stm qs cs ss L0 W0 N0 D R) {s : CS} {m : MS} (J : Js stm qs cs ss L0 W0 N0 D R (s, m)) (h0 : s.en = 0) (p3 : s.ph = 3) : Nxt stm qs cs ss L0 W0 N0 D R s (aStep me stm qs cs ss (s, m)) := by
  have hb : qs.length ≤ 1000000 ∧ cs.length ≤ 1000000 ∧ ss.length ≤ 1000000 := ⟨by have := E.bq; omega, by have := E.bc; omega, by have := E.bs; omega⟩
  have hok := aStep_ok (me := me) (stm := stm) hb J.ok
  obtain ⟨q1, q2, q3, q4, q5⟩ := J
  have G := q5 h0
  have hgo := q1.s.go h0
  have hfull := hgo.f (by simp only; omega) (by simp only; omega)
  obtain ⟨ha, hW, hst⟩ := G.a (by simp only; omega)
  have hN := G.a3 (by simp only; omega)
  obtain ⟨c1, c2⟩ := G.c3 p3
  have hN0 := E.N
  have hz := hgo.z (.inr p3)
  simp only at ha hW hst q2 q3 hN c1 hfull hz
  have hallf : ∀ t, t < ss.length → (L0.getD (ss.getD t 0).toNat d0).2.1 = false := fun t ht => G.fr t (by simp only; omega)
  have hop : stepM m (opOf me qs cs ss s) = ({ m.bump with N := s.now + 1 }, 0, (0, false, 0), true, 0) := by
    rw [opOf_go h0, if_neg (by omega), if_neg (by omega), if_neg (by omega), if_pos p3, sm7, csN, if_neg (by omega), if_neg (by omega), if_pos (by omega)]
  have hpot : pot cs.length ss.length s = 103 := potv 3 103 p3 (by omega)
  have hbc := E.bc
  have hbs := E.bs
  have hbq := E.bq
  rw [aStep_eq h0 hop] at hok ⊢
  rw [gSw, if_neg (by omega), if_neg (by omega), if_neg (by omega), if_pos p3, if_pos rfl] at hok ⊢
  by_cases u : s.now = stm
  · rw [if_pos u] at hok ⊢
    have hD := E.dn hallf c2 (by omega)
    rw [gGo_sure rfl rfl] at hok ⊢
    split
    · rename_i hc
      rw [if_pos hc] at hok
      split
      · rename_i hk
        rw [if_pos hk] at hok
        exact Js.done (fun _ _ => trivial) hok q2 q3 rfl (by simp only; omega) hD _
      · rename_i hk
        rw [if_neg hk] at hok
        refine ⟨Js.late hok q2 q3 h0 (.inr rfl) (by simp only; omega) hD G.tk G.fr, fun _ => ?_⟩
        rw [hpot, potv 6 (30 + ss.length) rfl (by simp)]; omega
    · rename_i hc
      rw [if_neg hc] at hok
      refine ⟨Js.late hok q2 q3 h0 (.inl rfl) (by simp only; omega) hD G.tk G.fr, fun _ => ?_⟩
      rw [hpot, potv 5 (60 + cs.length) rfl (by simp)]; omega
  · rw [if_neg u] at hok ⊢
    obtain ⟨s1, s2, s3, s4, s5, s6⟩ := E.see hallf c2 (by omega)
    have e4 : (s.enter 4).at' < qs.length := by simp only; omega
    cases hi : idxOf (ss.take s.tk.length) (qs.getD 0 q0).1 with
    | some i =>
      obtain ⟨hx, hxe⟩ := idxOf_lt hi
      have hit : i < s.tk.length := by simp at hx; omega
      have his : i < ss.length := by omega
      have hti := G.tk i hit
      have hssi : ss.getD i 0 = (qs.getD 0 q0).1 := by
        rw [← hxe]; simp [List.getD_eq_getElem?_getD, his]
      simp only at hti
      have eg : gGo qs cs.length ss (s.enter 4) = gGo qs cs.length ss ((s.enter 4).letGo 5 (-1) 0) := by
        unfold gGo
        rw [g1, if_neg (by simp), g1, if_neg (by simp), gch_some (s := s.enter 4) rfl e4 hi, gcmp, if_pos]
        show (s.tk.getD i d0).1 ≠ (qs.getD 0 q0).2
        rw [hti, hssi]; exact s5
      rw [eg] at hok ⊢
      refine Js.letGo (s := s.enter 4) E hok h0 q2 ha hW hst (by simp only; rw [c1]; exact s6) G.tk G.fr _ ?_
      rw [hpot]; omega
    | none =>
      have hno : ∀ t, t < s.tk.length → ss.getD t 0 ≠ (qs.getD 0 q0).1 := fun t ht e => by
        have hts : t < ss.length := by omega
        have : ∀ (xs : List Int) (v : Int), idxOf xs v = none → ∀ j (hj : j < xs.length), xs[j] ≠ v := by
          intro xs
          induction xs with
          | nil => intro v _ j hj; simp at hj
          | cons x r ih =>
            intro v h j hj
            rw [idxOf] at h
            split at h
            · cases h
            · rename_i hne
              cases j with
              | zero => exact hne
              | succ j =>
                refine ih v ?_ j (by simpa using hj)
                cases hr : idxOf r v with
                | none => rfl
                | some k => rw [hr] at h; cases h
        have h2 := this _ _ hi t (by simp; omega)
        apply h2
        rw [← e]; simp [List.getD_eq_getElem?_getD, hts]
      have eg : gGo qs cs.length ss (s.enter 4) = s.enter 4 := by
        unfold gGo
        rw [g1, if_neg (by simp), gch_none (s := s.enter 4) hi, g3, if_neg (by simp only; omega), g4, if_neg (by simp), g5, if_neg (by simp), g6, if_neg (by simp)]
      rw [eg] at hok ⊢
      refine ⟨⟨hok, q2, q3, fun h => absurd h0 h, fun _ => ⟨G.tk, G.fr, fun _ => ⟨ha, hW, hst⟩, fun h => by simp at h, fun h => by simp at h, fun h => by simp at h, fun _ => ⟨by simp only; omega, rfl, by omega, c2, hno⟩, fun h => by simp at h, fun h => by simp at h⟩⟩, fun _ => ?_⟩
      rw [hpot, potv 4 102 rfl (by simp)]; omega
theorem step4 (E : Env me stm qs cs ss L0 W0 N0 D R) {s : CS} {m : MS} (J : Js stm qs cs ss L0 W0 N0 D R (s, m)) (h0 : s.en = 0) (p4 : s.ph = 4) : Nxt stm qs cs ss L0 W0 N0 D R s (aStep me stm qs cs ss (s, m)) := by
  have hb : qs.length ≤ 1000000 ∧ cs.length ≤ 1000000 ∧ ss.length ≤ 1000000 := ⟨by have := E.bq; omega, by have := E.bc; omega, by have := E.bs; omega⟩
  have hok := aStep_ok (me := me) (stm := stm) hb J.ok
  obtain ⟨q1, q2, q3, q4, q5⟩ := J
  have G := q5 h0
  have hfull := (q1.s.go h0).f (by simp only; omega) (by simp only; omega)
  obtain ⟨ha, hW, hst⟩ := G.a (by simp only; omega)
  obtain ⟨c1, c2, c3, c4, c5⟩ := G.c4 p4
  simp only at ha hW hst q2 q3 c1 c2 hfull c5
  have hallf : ∀ t, t < ss.length → (L0.getD (ss.getD t 0).toNat d0).2.1 = false := fun t ht => G.fr t (by simp only; omega)
  obtain ⟨s1, s2, s3, s4, s5, s6⟩ := E.see hallf c4 c3
  have hget : m.L.getD (qs.getD 0 q0).1.toNat d0 = L0.getD (qs.getD 0 q0).1.toNat d0 := ha.out _ (by omega) fun t _ ht e => by
    have := c5 t ht; omega
  have hop : stepM m (opOf me qs cs ss s) = (m.bump, 0, L0.getD (qs.getD 0 q0).1.toNat d0, false, 0) := by
    rw [opOf_go h0, if_neg (by omega), if_neg (by omega), if_neg (by omega), if_neg (by omega), if_pos p4, sm3, ldL, c2, if_pos ⟨s2, by omega⟩, hget]
  rw [aStep_eq h0 hop] at hok ⊢
  rw [gSw, if_neg (by omega), if_neg (by omega), if_neg (by omega), if_neg (by omega), if_pos p4, if_neg (by rw [s4]; simp), gcmp, if_pos (by rw [c2]; exact s5)] at hok ⊢
  refine Js.letGo E hok h0 q2 ha hW hst (by show R 5 (-1) 0 m.N; rw [c1]; exact s6) G.tk G.fr _ ?_
  rw [potv 4 102 p4 (by simp)]; omega
theorem step5 (E : Env me stm qs cs ss L0 W0 N0 D R) {s : CS} {m : MS} (J : Js stm qs cs ss L0 W0 N0 D R (s, m)) (h0 : s.en = 0) (p5 : s.ph = 5) : Nxt stm qs cs ss L0 W0 N0 D R s (aStep me stm qs cs ss (s, m)) := by
  have hb : qs.length ≤ 1000000 ∧ cs.length ≤ 1000000 ∧ ss.length ≤ 1000000 := ⟨by have := E.bq; omega, by have := E.bc; omega, by have := E.bs; omega⟩
  have hok := aStep_ok (me := me) (stm := stm) hb J.ok
  obtain ⟨q1, q2, q3, q4, q5⟩ := J
  have G := q5 h0
  have hfull := (q1.s.go h0).f (by simp only; omega) (by simp only; omega)
  have hat := (q1.s.go h0).c p5
  obtain ⟨c1, c2⟩ := G.c5 (.inl p5)
  simp only at q2 q3 c1 hfull hat
  have hce := E.cel s.at' hat
  have hop : stepM m (opOf me qs cs ss s) = ({ m.bump with W := m.W.set (cs.getD s.at' q0).1.toNat (cs.getD s.at' q0).2 }, 0, (0, false, 0), false, 0) := by
    rw [opOf_go h0, if_neg (by omega), if_neg (by omega), if_neg (by omega), if_neg (by omega), if_neg (by omega), if_pos p5, sm2, stW, if_pos ⟨hce.1, by omega⟩]
  have hpot : pot cs.length ss.length s = 60 + (cs.length - s.at') := potv 5 _ p5 (by simp)
  have hbs := E.bs
  rw [aStep_eq h0 hop] at hok ⊢
  rw [gSw, if_neg (by omega), if_neg (by omega), if_neg (by omega), if_neg (by omega), if_neg (by omega)] at hok ⊢
  by_cases u : s.at' + 1 = cs.length
  · rw [gGo_free (s := s.step) p5 u] at hok ⊢
    split
    · rename_i hk
      rw [if_pos hk] at hok
      exact Js.done (fun _ _ => trivial) hok (by simp only [List.length_set]; exact q2) q3 rfl c1 c2 _
    · rename_i hk
      rw [if_neg hk] at hok
      refine ⟨Js.late hok (by simp only [List.length_set]; exact q2) q3 h0 (.inr rfl) c1 c2 G.tk G.fr, fun _ => ?_⟩
      rw [hpot, potv 6 (30 + ss.length) rfl (by simp)]; omega
  · rw [gGo_id (by simp only; omega) (by simp only; omega) (fun _ => u) (by simp only; omega)] at hok ⊢
    refine ⟨Js.late hok (by simp only [List.length_set]; exact q2) q3 h0 (.inl p5) c1 c2 G.tk G.fr, fun _ => ?_⟩
    rw [hpot, potv (s := s.step) 5 (60 + (cs.length - (s.at' + 1))) p5 (by simp)]; omega
theorem step6 (E : Env me stm qs cs ss L0 W0 N0 D R) {s : CS} {m : MS} (J : Js stm qs cs ss L0 W0 N0 D R (s, m)) (h0 : s.en = 0) (p6 : s.ph = 6) : Nxt stm qs cs ss L0 W0 N0 D R s (aStep me stm qs cs ss (s, m)) := by
  have hb : qs.length ≤ 1000000 ∧ cs.length ≤ 1000000 ∧ ss.length ≤ 1000000 := ⟨by have := E.bq; omega, by have := E.bc; omega, by have := E.bs; omega⟩
  have hok := aStep_ok (me := me) (stm := stm) hb J.ok
  obtain ⟨q1, q2, q3, q4, q5⟩ := J
  have G := q5 h0
  have hfull := (q1.s.go h0).f (by simp only; omega) (by simp only; omega)
  have hat := (q1.s.go h0).d (.inl p6)
  have hn := (q1.s.go h0).n (by simp only; omega) (by simp only; omega)
  obtain ⟨c1, c2⟩ := G.c5 (.inr p6)
  simp only at q2 q3 c1 hfull hat hn
  have hr := E.rng s.at' (by omega)
  have hlk : isLk (s.now + 1, false, 0) = true := by
    simp [isLk]; omega
  have hop : stepM m (opOf me qs cs ss s) = ({ m.bump with L := m.L.set (ss.getD s.at' 0).toNat (s.now + 1, false, 0) }, 0, (0, false, 0), false, 0) := by
    rw [opOf_go h0, if_neg (by omega), if_neg (by omega), if_neg (by omega), if_neg (by omega), if_neg (by omega), if_neg (by omega), if_pos p6, sm5, stL, if_pos ⟨hr.1, by omega⟩, if_pos hlk]
  have hpot : pot cs.length ss.length s = 30 + (ss.length - s.at') := potv 6 _ p6 (by simp)
  rw [aStep_eq h0 hop] at hok ⊢
  rw [gSw, if_neg (by omega), if_neg (by omega), if_neg (by omega), if_neg (by omega), if_neg (by omega)] at hok ⊢
  by_cases u : s.at' + 1 = s.tk.length
  · rw [gGo_stop6 (s := s.step) p6 u] at hok ⊢
    exact Js.done (fun _ _ => trivial) hok q2 (by simp only [List.length_set]; exact q3) rfl c1 c2 _
  · rw [gGo_id (by simp only; omega) (by simp only; omega) (by simp only; omega) (fun _ => u)] at hok ⊢
    refine ⟨Js.late hok q2 (by simp only [List.length_set]; exact q3) h0 (.inr p6) c1 c2 G.tk G.fr, fun _ => ?_⟩
    rw [hpot, potv (s := s.step) 6 (30 + (ss.length - (s.at' + 1))) p6 (by simp)]; omega
theorem step7 (E : Env me stm qs cs ss L0 W0 N0 D R) {s : CS} {m : MS} (J : Js stm qs cs ss L0 W0 N0 D R (s, m)) (h0 : s.en = 0) (p7 : s.ph = 7) : Nxt stm qs cs ss L0 W0 N0 D R s (aStep me stm qs cs ss (s, m)) := by
  have hb : qs.length ≤ 1000000 ∧ cs.length ≤ 1000000 ∧ ss.length ≤ 1000000 := ⟨by have := E.bq; omega, by have := E.bc; omega, by have := E.bs; omega⟩
  have hok := aStep_ok (me := me) (stm := stm) hb J.ok
  obtain ⟨q1, q2, q3, q4, q5⟩ := J
  have G := q5 h0
  have hat := (q1.s.go h0).d (.inr p7)
  have hts := q1.s.tk
  obtain ⟨ha, hW, hst, hR⟩ := G.c7 p7
  simp only at q2 q3 ha hW hst hR hat hts
  have hr := E.rng s.at' (by omega)
  have htk := G.tk s.at' hat
  simp only at htk
  have hlk : isLk (s.tk.getD s.at' d0) = true := by rw [htk]; exact E.ok _ (by omega)
  have hop : stepM m (opOf me qs cs ss s) = ({ m.bump with L := m.L.set (ss.getD s.at' 0).toNat (s.tk.getD s.at' d0) }, 0, (0, false, 0), false, 0) := by
    rw [opOf_go h0, if_neg (by omega), if_neg (by omega), if_neg (by omega), if_neg (by omega), if_neg (by omega), if_neg (by omega), if_neg (by omega), sm5, stL, if_pos ⟨hr.1, by omega⟩, if_pos hlk]
  have hpot : pot cs.length ss.length s = 1 + (s.tk.length - s.at') := potv 7 _ p7 (by simp)
  have hL : LKs L0 ss (s.at' + 1) s.tk.length (m.L.set (ss.getD s.at' 0).toNat (s.tk.getD s.at' d0)) := by
    refine ⟨by rw [List.length_set]; exact ha.len, fun i hi ho => ?_⟩
    rw [getD_setL (by omega)]
    by_cases e : i = (ss.getD s.at' 0).toNat
    · rw [if_pos e, htk, e]
    · rw [if_neg e]
      refine ha.out i hi fun t a b e' => ?_
      rcases Nat.lt_or_ge s.at' t with h | h
      · exact ho t h b e'
      · have : t = s.at' := by omega
        subst this
        omega
  rw [aStep_eq h0 hop] at hok ⊢
  rw [gSw, if_neg (by omega), if_neg (by omega), if_neg (by omega), if_neg (by omega), if_neg (by omega)] at hok ⊢
  by_cases u : s.at' + 1 = s.tk.length
  · rw [gGo_stop7 (s := s.step) p7 u] at hok ⊢
    rw [u] at hL
    refine ⟨⟨hok, q2, by simp only [List.length_set]; exact q3, fun _ => .inr ⟨hR, hst, hL.done, hW⟩, fun h => absurd h (E.z _ _ _ _ hR)⟩, fun h => absurd h (E.z _ _ _ _ hR)⟩
  · rw [gGo_id (by simp only; omega) (by simp only; omega) (by simp only; omega) (fun _ => u)] at hok ⊢
    refine ⟨⟨hok, q2, by simp only [List.length_set]; exact q3, fun h => absurd h0 h, fun _ => ⟨G.tk, G.fr, fun h => by simp only at h; omega, fun h => by simp only at h; omega, fun h => by simp only at h; omega, fun h => by simp only at h; omega, fun h => by simp only at h; omega, fun h => by simp only at h; omega, fun _ => ⟨hL, hW, hst, hR⟩⟩⟩, fun _ => ?_⟩
    rw [hpot, potv (s := s.step) 7 (1 + (s.tk.length - (s.at' + 1))) p7 (by simp)]; omega
theorem step_all (E : Env me stm qs cs ss L0 W0 N0 D R) {p : CS × MS} (J : Js stm qs cs ss L0 W0 N0 D R p) (h0 : p.1.en = 0) : Nxt stm qs cs ss L0 W0 N0 D R p.1 (aStep me stm qs cs ss p) := by
  obtain ⟨s, m⟩ := p
  have h0 : s.en = 0 := h0
  have hp : 0 ≤ s.ph ∧ s.ph ≤ 7 := (J.ok.s.go h0).ph
  by_cases c0 : s.ph = 0; exact step0 E J h0 c0
  by_cases c1 : s.ph = 1; exact step1 E J h0 c1
  by_cases c2 : s.ph = 2; exact step2 E J h0 c2
  by_cases c3 : s.ph = 3; exact step3 E J h0 c3
  by_cases c4 : s.ph = 4; exact step4 E J h0 c4
  by_cases c5 : s.ph = 5; exact step5 E J h0 c5
  by_cases c6 : s.ph = 6; exact step6 E J h0 c6
  exact step7 E J h0 (show s.ph = 7 by omega)
theorem run_end (E : Env me stm qs cs ss L0 W0 N0 D R) : ∀ (f : Nat) {p : CS × MS}, Js stm qs cs ss L0 W0 N0 D R p → (p.1.en = 0 → pot cs.length ss.length p.1 < f) → (aRun me stm qs cs ss f p).1.en ≠ 0 ∧ Fin L0 W0 N0 D R (aRun me stm qs cs ss f p) ∧ AOk qs cs ss (aRun me stm qs cs ss f p)
  | 0, p, J, h => by
    by_cases h0 : p.1.en = 0
    · exact absurd (h h0) (by omega)
    · exact ⟨h0, J.fin h0, J.ok⟩
  | f + 1, p, J, h => by
    by_cases h0 : p.1.en = 0
    · rw [aRun_go h0]
      obtain ⟨k1, k2⟩ := step_all E J h0
      exact run_end E f k1 fun h' => by have := k2 h'; have := h h0; omega
    · rw [aRun_end h0]; exact ⟨h0, J.fin h0, J.ok⟩
/-- From its beginning. -/
theorem run_cs0 (E : Env me stm qs cs ss L0 W0 N0 D R) (su : Int) {m : MS} (hm : m.ok) (hL : m.L = L0) (hW : m.W = W0) (hN : m.N = N0) : (aRun me stm qs cs ss 299 (cs0 su ss.length, m)).1.en ≠ 0 ∧ Fin L0 W0 N0 D R (aRun me stm qs cs ss 299 (cs0 su ss.length, m)) ∧ AOk qs cs ss (aRun me stm qs cs ss 299 (cs0 su ss.length, m)) := by
  have hbs := E.bs
  have hsu := spW_in su
  refine run_end E 299 ⟨⟨cs0_ok su _ _ _, hm, by rw [hN]; exact E.N⟩, by rw [hW]; exact E.W, by rw [hL], fun h => absurd rfl h, fun _ => ?_⟩ fun _ => ?_
  · have hp : phW ss.length = 0 ∨ phW ss.length = 2 := by
      by_cases e : ss.length = 0
      · exact .inr (if_pos e)
      · exact .inl (if_neg e)
    refine ⟨fun t ht => by simp at ht, fun t ht => by simp at ht, fun _ => ⟨by simp only [List.length_nil]; rw [hL]; exact LKs.zero _ _ _, hW, rfl⟩, fun _ => hN, fun h => ?_, fun h => ?_, fun h => ?_, fun h => ?_, fun h => ?_⟩ <;> simp only at h <;> omega
  · have hp : phW ss.length = 0 ∨ phW ss.length = 2 := by
      by_cases e : ss.length = 0
      · exact .inr (if_pos e)
      · exact .inl (if_neg e)
    rcases hp with hp | hp
    · rw [pot, if_pos hp]
      simp only
      omega
    · rw [potv 2 104 hp (by simp)]; omega
end
end
end Go.Lev
