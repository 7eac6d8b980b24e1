/- chapter 25: what holds of a commit -/
import Derived.Test.YtooajpakpmnehaaCW4
import Derived.Test.YtooajpakpmnehaaLc
import Derived.Test.YtooajpakpmnehaaChecked
import Derived.KernelRfl

namespace Go.Lev
open Go.RowKit
set_option linter.unusedVariables false
set_option linter.unusedSimpArgs false
set_option maxRecDepth 100000
noncomputable section
/-- What holds of a commit that is going. -/
structure CS.Go (nq nc ns : Nat) (s : CS) : Prop where
  ph : 0 ≤ s.ph ∧ s.ph ≤ 7
  a : s.ph = 0 ∨ s.ph = 1 → s.at' = s.tk.length ∧ s.at' < ns
  z : s.ph = 2 ∨ s.ph = 3 → s.at' = 0
  b : s.ph = 4 → s.at' < nq
  c : s.ph = 5 → s.at' < nc
  f : 2 ≤ s.ph → s.ph ≤ 6 → s.tk.length = ns
  d : s.ph = 6 ∨ s.ph = 7 → s.at' < s.tk.length
  n : 3 ≤ s.ph → s.ph ≤ 6 → 0 ≤ s.now ∧ s.now < 4611686018427387903
  v : s.ph = 7 → s.ve ≠ 0
  e : s.bu = -1 ∧ s.er = 0
structure CS.Ok (nq nc ns : Nat) (s : CS) : Prop where
  su : 0 ≤ s.su ∧ s.su ≤ 4
  tk : s.tk.length ≤ ns
  at1 : s.at' ≤ 1000000
  go : s.en = 0 → s.Go nq nc ns
/-- What holds ahead of goOn. -/
structure CS.Pre (nq nc ns : Nat) (s : CS) : Prop where
  su : 0 ≤ s.su ∧ s.su ≤ 4
  tk : s.tk.length ≤ ns
  at1 : s.at' ≤ 1000000
  en : s.en = 0
  ph : 0 ≤ s.ph ∧ s.ph ≤ 7
  a : s.ph = 0 → s.at' = s.tk.length
  a1 : s.ph = 1 → s.at' = s.tk.length ∧ s.at' < ns
  z : s.ph = 2 ∨ s.ph = 3 → s.at' = 0
  b : s.ph = 4 → s.at' ≤ nq
  c : s.ph = 5 → s.at' ≤ nc
  f : 2 ≤ s.ph → s.ph ≤ 6 → s.tk.length = ns
  d : s.ph = 6 ∨ s.ph = 7 → s.at' ≤ s.tk.length
  n : 3 ≤ s.ph → s.ph ≤ 6 → 0 ≤ s.now ∧ s.now < 4611686018427387903
  v : s.ph = 7 → s.ve ≠ 0
  e : s.bu = -1 ∧ s.er = 0
theorem CS.Ok.can {nq nc ns : Nat} {s : CS} (h : s.Ok nq nc ns) : s.Can nq ns := ⟨h.su, h.tk, h.at1, fun e p => by have := (h.go e).a (.inr p); omega, fun e p => (h.go e).b p⟩
theorem g1_pre {nq nc ns : Nat} {s : CS} (h : s.Pre nq nc ns) : (g1 ns s).Pre nq nc ns ∧ ((g1 ns s).ph = 0 → (g1 ns s).at' < ns) := by
  unfold g1
  by_cases p : s.ph = 0 ∧ s.at' = ns
  · rw [if_pos p]
    obtain ⟨h1, h2, h3, h4, h5, h6, h7, h8, h9, h10, h11, h12, h13, h14, h15⟩ := h
    have := h6 p.1
    exact ⟨⟨h1, h2, Nat.zero_le _, h4, by simp, fun h => by simp at h, fun h => by simp at h, fun _ => rfl, fun h => by simp at h, fun h => by simp at h, fun _ _ => by simp only; omega, fun h => by simp at h, fun h => by simp at h, fun h => by simp at h, h15⟩, fun h => by simp at h⟩
  · rw [if_neg p]
    refine ⟨h, fun q => ?_⟩
    have h1 := h.a q
    have h2 := h.tk
    omega
theorem gch_pre {qs : List (Int × Int)} {nc : Nat} {ss : List Int} {s : CS} (hq : qs.length ≤ 1000000) (h : s.Pre qs.length nc ss.length) : (gch qs ss s).Pre qs.length nc ss.length ∧ (s.ph ≠ 4 → gch qs ss s = s) := by
  refine ⟨?_, fun p => gch_no fun k => p k.1⟩
  have H : ∀ f (s : CS), s.Pre qs.length nc ss.length → (gchk qs ss f s).Pre qs.length nc ss.length := by
    intro f
    induction f with
    | zero => exact fun s h => h
    | succ f ih =>
      intro s h
      rw [gchk]
      split
      · rename_i p
        split
        · exact h
        · refine ih _ ?_
          obtain ⟨h1, h2, h3, h4, h5, h6, h7, h8, h9, h10, h11, h12, h13, h14, h15⟩ := h
          unfold gcmp
          split
          · exact ⟨h1, h2, Nat.zero_le _, h4, by simp, fun h => by simp at h, fun h => by simp at h, fun h => by simp at h, fun h => by simp at h, fun h => by simp at h, fun _ h => by simp at h, fun _ => Nat.zero_le _, fun _ h => by simp at h, fun _ => by simp, h15⟩
          · refine ⟨h1, h2, ?_, h4, h5, fun h => ?_, fun h => ?_, fun h => ?_, fun _ => ?_, fun h => ?_, h11, fun h => ?_, h13, h14, h15⟩ <;> simp only at * <;> omega
      · exact h
  exact H _ _ h
theorem gGo_ok {qs : List (Int × Int)} {nc : Nat} {ss : List Int} {s : CS} (hb : qs.length ≤ 1000000 ∧ nc ≤ 1000000 ∧ ss.length ≤ 1000000) (h : s.Pre qs.length nc ss.length) : (gGo qs nc ss s).Ok qs.length nc ss.length := by
  unfold gGo
  obtain ⟨a1, a2⟩ := g1_pre h
  generalize g1 ss.length s = s1 at a1 a2
  obtain ⟨b1, b2⟩ := gch_pre hb.1 a1
  have b3 : (gch qs ss s1).ph = 0 → (gch qs ss s1).at' < ss.length := fun p => by
    by_cases q : s1.ph = 4
    · exfalso
      have H : ∀ f (s : CS), s.ph = 4 ∨ s.ph = 7 → (gchk qs ss f s).ph ≠ 0 := by
        intro f
        induction f with
        | zero => intro s h; simp only [gchk]; omega
        | succ f ih =>
          intro s h
          rw [gchk]
          split
          · split
            · omega
            · refine ih _ ?_
              unfold gcmp
              split
              · right; rfl
              · exact h
          · omega
      exact H _ _ (.inl q) p
    · rw [b2 q] at p ⊢; exact a2 p
  generalize gch qs ss s1 = s2 at b1 b3
  have c1 : (g3 qs.length s2).Pre qs.length nc ss.length ∧ ((g3 qs.length s2).ph = 0 → (g3 qs.length s2).at' < ss.length) ∧ ((g3 qs.length s2).ph = 4 → (g3 qs.length s2).at' < qs.length) := by
    unfold g3
    by_cases p : s2.ph = 4 ∧ s2.at' = qs.length
    · rw [if_pos p]
      obtain ⟨h1, h2, h3, h4, h5, h6, h7, h8, h9, h10, h11, h12, h13, h14, h15⟩ := b1
      exact ⟨⟨h1, h2, Nat.zero_le _, h4, by simp, fun h => by simp at h, fun h => by simp at h, fun h => by simp at h, fun h => by simp at h, fun _ => Nat.zero_le _, fun _ _ => h11 (by omega) (by omega), fun h => by simp at h, fun _ _ => h13 (by omega) (by omega), fun h => by simp at h, h15⟩, fun h => by simp at h, fun h => by simp at h⟩
    · rw [if_neg p]
      exact ⟨b1, b3, fun q => by have := b1.b q; omega⟩
  generalize g3 qs.length s2 = s3 at c1
  obtain ⟨c1, c2, c3⟩ := c1
  have d1 : (g4 nc s3).Pre qs.length nc ss.length ∧ ((g4 nc s3).ph = 0 → (g4 nc s3).at' < ss.length) ∧ ((g4 nc s3).ph = 4 → (g4 nc s3).at' < qs.length) ∧ ((g4 nc s3).ph = 5 → (g4 nc s3).at' < nc) := by
    unfold g4
    by_cases p : s3.ph = 5 ∧ s3.at' = nc
    · rw [if_pos p]
      obtain ⟨h1, h2, h3, h4, h5, h6, h7, h8, h9, h10, h11, h12, h13, h14, h15⟩ := c1
      exact ⟨⟨h1, h2, Nat.zero_le _, h4, by simp, fun h => by simp at h, fun h => by simp at h, fun h => by simp at h, fun h => by simp at h, fun h => by simp at h, fun _ _ => h11 (by omega) (by omega), fun _ => Nat.zero_le _, fun _ _ => h13 (by omega) (by omega), fun h => by simp at h, h15⟩, fun h => by simp at h, fun h => by simp at h, fun h => by simp at h⟩
    · rw [if_neg p]
      exact ⟨c1, c2, c3, fun q => by have := c1.c q; omega⟩
  generalize g4 nc s3 = s4 at d1
  obtain ⟨d1, d2, d3, d4⟩ := d1
  have hen := d1.en
  unfold g5
  by_cases p : s4.ph = 6 ∧ s4.at' = s4.tk.length
  · rw [if_pos p, g6, if_neg fun k => by have := k.1; simp only at this; omega]
    exact ⟨d1.su, d1.tk, d1.at1, fun h => by simp at h⟩
  · rw [if_neg p]
    unfold g6
    by_cases q : s4.ph = 7 ∧ s4.at' = s4.tk.length
    · rw [if_pos q]
      exact ⟨d1.su, d1.tk, d1.at1, fun h => absurd h (d1.v q.1)⟩
    · rw [if_neg q]
      obtain ⟨h1, h2, h3, h4, h5, h6, h7, h8, h9, h10, h11, h12, h13, h14, h15⟩ := d1
      refine ⟨h1, h2, h3, fun _ => ⟨h5, fun r => ?_, h8, d3, d4, h11, fun r => ?_, h13, h14, h15⟩⟩
      · rcases r with r | r
        · exact ⟨h6 r, d2 r⟩
        · exact h7 r
      · have := h12 r; omega
theorem gSw_pre {me stm : Int} {qs : List (Int × Int)} {nc : Nat} {ss : List Int} {s : CS} (hb : qs.length ≤ 1000000 ∧ nc ≤ 1000000 ∧ ss.length ≤ 1000000) (h : s.Ok qs.length nc ss.length) (h0 : s.en = 0) (w v : Int) (hw : 0 ≤ w) (hh : Bool) (o : Int) (d : Bool) : (gSw me stm qs s w v hh o d).Pre qs.length nc ss.length := by
  obtain ⟨k1, k2, k3, k4⟩ := h
  obtain ⟨h5, h6, h8, h9, h10, h11, h12, h13, h14, h15⟩ := k4 h0
  have base : s.Pre qs.length nc ss.length := ⟨k1, k2, k3, h0, h5, fun p => (h6 (.inl p)).1, fun p => h6 (.inr p), h8, fun p => Nat.le_of_lt (h9 p), fun p => Nat.le_of_lt (h10 p), h11, fun p => Nat.le_of_lt (h12 p), h13, h14, h15⟩
  have let0 : ∀ e b r, e ≠ 0 → (s.letGo e b r).Pre qs.length nc ss.length := fun e b r he => ⟨k1, k2, Nat.zero_le _, h0, by simp, fun h => by simp at h, fun h => by simp at h, fun h => by simp at h, fun h => by simp at h, fun h => by simp at h, fun _ h => by simp at h, fun _ => Nat.zero_le _, fun _ h => by simp at h, fun _ => he, h15⟩
  have aw : (gAw me s o).Pre qs.length nc ss.length := by
    unfold gAw
    split
    · exact base
    · split
      · exact let0 _ _ _ (by omega)
      · obtain ⟨b1, b2, b3, b4, b5, b6, b7, b8, b9, b10, b11, b12, b13, b14, b15⟩ := base
        exact ⟨by simp only; omega, b2, b3, b4, b5, b6, b7, b8, b9, b10, b11, b12, b13, b14, b15⟩
  unfold gSw
  by_cases p0 : s.ph = 0
  · rw [if_pos p0]
    have ha := h6 (.inl p0)
    split
    · exact aw
    · exact ⟨k1, k2, k3, h0, by simp, fun h => by simp at h, fun _ => ha, fun h => by simp at h, fun h => by simp at h, fun h => by simp at h, fun h => by simp at h, fun h => by simp at h, fun h => by simp at h, fun h => by simp at h, h15⟩
  rw [if_neg p0]
  by_cases p1 : s.ph = 1
  · rw [if_pos p1]
    have ha := h6 (.inr p1)
    split
    · exact ⟨k1, by simp only [List.length_append, List.length_cons, List.length_nil]; omega, by simp only; omega, h0, by simp, fun _ => by simp only [List.length_append, List.length_cons, List.length_nil]; omega, fun h => by simp at h, fun h => by simp at h, fun h => by simp at h, fun h => by simp at h, fun h => by simp at h, fun h => by simp at h, fun h => by simp at h, fun h => by simp at h, h15⟩
    · exact ⟨k1, k2, k3, h0, by simp, fun _ => ha.1, fun h => by simp at h, fun h => by simp at h, fun h => by simp at h, fun h => by simp at h, fun h => by simp at h, fun h => by simp at h, fun h => by simp at h, fun h => by simp at h, h15⟩
  rw [if_neg p1]
  by_cases p2 : s.ph = 2
  · rw [if_pos p2]
    split
    · exact let0 _ _ _ (by omega)
    · have := h11 (by omega) (by omega)
      exact ⟨k1, k2, k3, h0, by simp, fun h => by simp at h, fun h => by simp at h, fun _ => h8 (.inl p2), fun h => by simp at h, fun h => by simp at h, fun _ _ => this, fun h => by simp at h, fun _ _ => by simp only; omega, fun h => by simp at h, h15⟩
  rw [if_neg p2]
  by_cases p3 : s.ph = 3
  · rw [if_pos p3]
    have hf := h11 (by omega) (by omega)
    have hn := h13 (by omega) (by omega)
    split
    · split
      · exact ⟨k1, k2, hb.1, h0, by simp, fun h => by simp at h, fun h => by simp at h, fun h => by simp at h, fun _ => Nat.le_refl _, fun h => by simp at h, fun _ _ => hf, fun h => by simp at h, fun _ _ => hn, fun h => by simp at h, h15⟩
      · exact ⟨k1, k2, Nat.zero_le _, h0, by simp, fun h => by simp at h, fun h => by simp at h, fun h => by simp at h, fun _ => Nat.zero_le _, fun h => by simp at h, fun _ _ => hf, fun h => by simp at h, fun _ _ => hn, fun h => by simp at h, h15⟩
    · exact ⟨k1, k2, Nat.zero_le _, h0, by simp, fun h => by simp at h, fun h => by simp at h, fun _ => rfl, fun h => by simp at h, fun h => by simp at h, fun _ _ => hf, fun h => by simp at h, fun h => by simp at h, fun h => by simp at h, h15⟩
  rw [if_neg p3]
  have stp : (s.ph = 4 → s.at' < qs.length) → (s.ph = 4 ∨ s.ph = 5 ∨ s.ph = 6 ∨ s.ph = 7) → s.step.Pre qs.length nc ss.length := fun hx hp => by
    refine ⟨k1, k2, ?_, h0, h5, fun h => ?_, fun h => ?_, fun h => ?_, fun h => ?_, fun h => ?_, h11, fun h => ?_, h13, h14, h15⟩ <;> simp only at *
    · rcases hp with hp | hp | hp | hp
      · have := h9 hp; omega
      · have := h10 hp; omega
      · have := h12 (.inl hp); omega
      · have := h12 (.inr hp); omega
    · omega
    · omega
    · omega
    · exact h9 h
    · exact h10 h
    · exact h12 h
  by_cases p4 : s.ph = 4
  · rw [if_pos p4]
    split
    · exact aw
    · unfold gcmp
      split
      · exact let0 _ _ _ (by omega)
      · exact stp h9 (.inl p4)
  rw [if_neg p4]
  exact stp h9 (by omega)
theorem gTell_ok {me stm : Int} {qs : List (Int × Int)} {nc : Nat} {ss : List Int} {s : CS} (hb : qs.length ≤ 1000000 ∧ nc ≤ 1000000 ∧ ss.length ≤ 1000000) (h : s.Ok qs.length nc ss.length) (w v : Int) (hw : 0 ≤ w) (hh : Bool) (o : Int) (d : Bool) (e : Int) : (gTell me stm qs nc ss s w v hh o d e).Ok qs.length nc ss.length := by
  unfold gTell
  by_cases q0 : s.en = 0
  case neg => rw [if_pos q0]; exact h
  rw [if_neg (by simpa using q0)]
  by_cases q1 : e = 0
  case neg => rw [if_pos q1]; exact ⟨h.su, h.tk, h.at1, fun h => by simp at h⟩
  rw [if_neg (by simpa using q1)]
  exact gGo_ok hb (gSw_pre hb h q0 w v hw hh o d)
end
end Go.Lev
