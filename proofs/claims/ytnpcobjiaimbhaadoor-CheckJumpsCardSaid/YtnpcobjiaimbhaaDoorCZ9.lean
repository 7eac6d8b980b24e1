/- what a check tells of a program that may run: regions and matches -/
import Derived.Test.YtnpcobjiaimbhaaDoorCZ8
import Derived.Test.YtnpcobjiaimbhaaDoorLc
import Derived.Test.YtnpcobjiaimbhaaDoorChecked
import Derived.KernelRfl

namespace Go.Lev
open Go.RowKit
set_option linter.unusedVariables false
set_option linter.unusedSimpArgs false
set_option maxRecDepth 100000
noncomputable section
abbrev bgs (op : Int) : Prop := op = 14 ∨ op = 17 ∨ op = 18
structure MInv (L : List InsR) (i : Nat) (s : PS) : Prop where
  b : ∀ j, j < i → bgs (opAt L (j : Int)) → (j : Int) ∈ s.o ∨ ∃ k : Nat, s.m.getD j 0 = (k : Int) ∧ j < k ∧ k < i ∧ s.r.getD k 0 = (j : Int)
  n : ∀ j, j < i → ¬ bgs (opAt L (j : Int)) → s.m.getD j 0 = -1
  u : ∀ k, k < i → opAt L (k : Int) = 16 → ∃ j : Nat, s.r.getD k 0 = (j : Int) ∧ opAt L (j : Int) = 14 ∧ j < k ∧ ((j : Int) ∈ s.o ∨ ∃ k' : Nat, s.m.getD j 0 = (k' : Int) ∧ k < k')
theorem gd_app {l : List Int} {x : Int} {j : Nat} (h : j < l.length) : (l ++ [x]).getD j 0 = l.getD j 0 := by
  rw [List.getD_eq_getElem?_getD, List.getD_eq_getElem?_getD, List.getElem?_append_left h]
theorem gd_new {l : List Int} {x : Int} {j : Nat} (h : j = l.length) : (l ++ [x]).getD j 0 = x := by
  subst h; rw [List.getD_eq_getElem?_getD, List.getElem?_append_right (Nat.le_refl _), Nat.sub_self]; rfl
theorem gd_set {l : List Int} {x : Int} {j k : Nat} (h : j < l.length) : (l.set j x).getD k 0 = if j = k then x else l.getD k 0 := by
  rw [List.getD_eq_getElem?_getD, List.getD_eq_getElem?_getD, List.getElem?_set]
  split
  · rename_i e; subst e; simp [h]
  · rfl
/-- A step that opens, or does neither. -/
theorem minv_app {L : List InsR} {i : Nat} (h : i < L.length) {s : PS} (rl : s.r.length = i) (ml : s.m.length = i) (hI : MInv L i s) {o : List Int} {x : Int} (hs : ∀ y ∈ s.o, y ∈ o) (hb : bgs (opAt L (i : Int)) → (i : Int) ∈ o)
    (hu : opAt L (i : Int) = 16 → ∃ j : Nat, x = (j : Int) ∧ opAt L (j : Int) = 14 ∧ j < i ∧ (j : Int) ∈ o) : MInv L (i + 1) ⟨o, s.r ++ [x], s.m ++ [-1]⟩ := by
  refine ⟨fun j hj hbg => ?_, fun j hj hbg => ?_, fun k hk hop => ?_⟩
  · rcases Nat.lt_succ_iff_lt_or_eq.1 hj with hj | rfl
    · rcases hI.b j hj hbg with e | ⟨k, e1, e2, e3, e4⟩
      · exact .inl (hs _ e)
      · refine .inr ⟨k, ?_, e2, by omega, ?_⟩
        · show (s.m ++ [-1]).getD j 0 = _; rw [gd_app (by omega)]; exact e1
        · show (s.r ++ [x]).getD k 0 = _; rw [gd_app (by omega)]; exact e4
    · exact .inl (hb hbg)
  · show (s.m ++ [-1]).getD j 0 = _
    rcases Nat.lt_succ_iff_lt_or_eq.1 hj with hj | rfl
    · rw [gd_app (by omega)]; exact hI.n j hj hbg
    · rw [gd_new ml.symm]
  · rcases Nat.lt_succ_iff_lt_or_eq.1 hk with hk | rfl
    · obtain ⟨j, e1, e2, e3, e4⟩ := hI.u k hk hop
      refine ⟨j, ?_, e2, e3, ?_⟩
      · show (s.r ++ [x]).getD k 0 = _; rw [gd_app (by omega)]; exact e1
      · rcases e4 with e | ⟨k', e5, e6⟩
        · exact .inl (hs _ e)
        · exact .inr ⟨k', by show (s.m ++ [-1]).getD j 0 = _; rw [gd_app (by omega)]; exact e5, e6⟩
    · obtain ⟨j, e1, e2, e3, e4⟩ := hu hop
      exact ⟨j, by show (s.r ++ [x]).getD k 0 = _; rw [gd_new rl.symm]; exact e1, e2, e3, .inl e4⟩
/-- A step that ends what is open inmost. -/
theorem minv_pop {L : List InsR} {i : Nat} (h : i < L.length) {s : PS} (rl : s.r.length = i) (ml : s.m.length = i) (hI : MInv L i s) {o o' : List Int} {j0 : Nat} (hj0 : j0 < i) (ho : s.o = o' ++ [(j0 : Int)]) (hb0 : bgs (opAt L (j0 : Int))) (hs : ∀ y ∈ o', y ∈ o) (hb : bgs (opAt L (i : Int)) → (i : Int) ∈ o) (hu : opAt L (i : Int) ≠ 16) :
    MInv L (i + 1) ⟨o, s.r ++ [(j0 : Int)], (s.m ++ [-1]).set j0 (i : Int)⟩ := by
  have hl : j0 < (s.m ++ [-1]).length := by simp; omega
  have hm : ∀ j, ((s.m ++ [-1]).set j0 (i : Int)).getD j 0 = if j0 = j then (i : Int) else (s.m ++ [-1]).getD j 0 := fun j => gd_set hl
  have split_o : ∀ y, y ∈ s.o → y ≠ (j0 : Int) → y ∈ o := fun y hy hne => by
    rw [ho] at hy
    rcases List.mem_append.1 hy with hy | hy
    · exact hs y hy
    · exact absurd (List.mem_singleton.1 hy) hne
  refine ⟨fun j hj hbg => ?_, fun j hj hbg => ?_, fun k hk hop => ?_⟩
  · by_cases e : j0 = j
    · subst e
      refine .inr ⟨i, ?_, hj0, by omega, ?_⟩
      · show ((s.m ++ [-1]).set j0 (i : Int)).getD j0 0 = _; rw [hm, if_pos rfl]
      · show (s.r ++ [(j0 : Int)]).getD i 0 = _; rw [gd_new rl.symm]
    · rcases Nat.lt_succ_iff_lt_or_eq.1 hj with hj | rfl
      · rcases hI.b j hj hbg with q | ⟨k, e1, e2, e3, e4⟩
        · exact .inl (split_o _ q (by omega))
        · refine .inr ⟨k, ?_, e2, by omega, ?_⟩
          · show ((s.m ++ [-1]).set j0 (i : Int)).getD j 0 = _; rw [hm, if_neg e, gd_app (by omega)]; exact e1
          · show (s.r ++ [(j0 : Int)]).getD k 0 = _; rw [gd_app (by omega)]; exact e4
      · exact .inl (hb hbg)
  · have e : ¬ j0 = j := fun e => hbg (e ▸ hb0)
    show ((s.m ++ [-1]).set j0 (i : Int)).getD j 0 = _
    rw [hm, if_neg e]
    rcases Nat.lt_succ_iff_lt_or_eq.1 hj with hj | rfl
    · rw [gd_app (by omega)]; exact hI.n j hj hbg
    · rw [gd_new ml.symm]
  · rcases Nat.lt_succ_iff_lt_or_eq.1 hk with hk | rfl
    · obtain ⟨j, e1, e2, e3, e4⟩ := hI.u k hk hop
      refine ⟨j, ?_, e2, e3, ?_⟩
      · show (s.r ++ [(j0 : Int)]).getD k 0 = _; rw [gd_app (by omega)]; exact e1
      · by_cases e : j0 = j
        · exact .inr ⟨i, by show ((s.m ++ [-1]).set j0 (i : Int)).getD j 0 = _; rw [hm, if_pos e], hk⟩
        · rcases e4 with q | ⟨k', e5, e6⟩
          · exact .inl (split_o _ q (by omega))
          · exact .inr ⟨k', by show ((s.m ++ [-1]).set j0 (i : Int)).getD j 0 = _; rw [hm, if_neg e, gd_app (by omega)]; exact e5, e6⟩
    · exact absurd hop hu
theorem beg_nat {L : List InsR} {o : List Int} {i : Nat} {k : Int} (hoo : ∀ x ∈ o, 0 ≤ x ∧ x < (i : Int)) (hb : beg L (inm o) k) : ∃ (o' : List Int) (j : Nat), o = o' ++ [(j : Int)] ∧ j < i ∧ opAt L (j : Int) = k ∧ inm o = (j : Int) := by
  rcases nil_snoc o with rfl | ⟨o', y, rfl⟩
  · exact absurd rfl hb.1
  · have := hoo y (by simp)
    rw [inm_snoc] at hb ⊢
    refine ⟨o', y.toNat, by rw [Int.toNat_of_nonneg this.1], by omega, by rw [Int.toNat_of_nonneg this.1]; exact hb.2, by rw [Int.toNat_of_nonneg this.1]⟩
theorem minv_next {L : List InsR} {i : Nat} (h : i < L.length) {s : PS} (hC : CInv L i s) (hI : MInv L i s) (h0 : (stp L i L[i] s).1 = 0) : MInv L (i + 1) (stp L i L[i] s).2 := by
  obtain ⟨rl, ml, ol, oo, rr, un, ma⟩ := hC
  have hop := opAt_get h
  unfold stp at h0 ⊢
  split at h0
  · simp at h0
  rename_i hm
  rw [if_neg hm]
  split at h0
  · rename_i q
    split at h0
    · simp at h0
    · rename_i q2
      rw [if_pos q, if_neg q2]
      exact minv_app h rl ml hI (fun y hy => List.mem_append_left _ hy) (fun _ => by simp) (fun e => by omega)
  rename_i q
  rw [if_neg q]
  split at h0
  · rename_i q1
    split at h0
    · rename_i q2
      rw [if_pos q1, if_pos q2]
      obtain ⟨o', j, e1, e2, e3, e4⟩ := beg_nat oo q2
      exact minv_app h rl ml hI (fun y hy => hy) (fun e => by rw [hop] at e; omega) (fun _ => ⟨j, e4, e3, e2, by rw [e1]; simp⟩)
    · simp at h0
  rename_i q1
  rw [if_neg q1]
  split at h0
  · rename_i q2
    split at h0
    · rename_i q3
      rw [if_pos q2, if_pos q3]
      obtain ⟨o', j, e1, e2, e3, e4⟩ := beg_nat oo q3
      have := minv_pop h rl ml hI (o := o') e2 e1 (.inl e3) (fun y hy => hy) (fun e => by rw [hop] at e; omega) (by rw [hop]; omega)
      rw [e4]
      show MInv L (i + 1) ⟨s.o.dropLast, s.r ++ [(j : Int)], (s.m ++ [-1]).set ((j : Int)).toNat (i : Int)⟩
      rw [e1, List.dropLast_concat]; exact this
    · simp at h0
  rename_i q2
  rw [if_neg q2]
  split at h0
  · rename_i q2'
    split at h0
    · rename_i q3
      rw [if_pos q2', if_pos q3]
      obtain ⟨o', j, e1, e2, e3, e4⟩ := beg_nat oo q3
      have := minv_pop h rl ml hI (o := o') e2 e1 (.inr (.inr e3)) (fun y hy => hy) (fun e => by rw [hop] at e; omega) (by rw [hop]; omega)
      rw [e4]
      show MInv L (i + 1) ⟨s.o.dropLast, s.r ++ [(j : Int)], (s.m ++ [-1]).set ((j : Int)).toNat (i : Int)⟩
      rw [e1, List.dropLast_concat]; exact this
    · simp at h0
  rename_i q2'
  rw [if_neg q2']
  split at h0
  · rename_i q3'
    split at h0
    · rename_i q3
      rw [if_pos q3', if_pos q3]
      obtain ⟨o', j, e1, e2, e3, e4⟩ := beg_nat oo q3
      have := minv_pop h rl ml hI (o := o' ++ [(i : Int)]) e2 e1 (.inr (.inl e3)) (fun y hy => List.mem_append_left _ hy) (fun _ => by simp) (by rw [hop]; omega)
      rw [e4]
      show MInv L (i + 1) ⟨s.o.dropLast ++ [(i : Int)], s.r ++ [(j : Int)], (s.m ++ [-1]).set ((j : Int)).toNat (i : Int)⟩
      rw [e1, List.dropLast_concat]; exact this
    · simp at h0
  rename_i q3'
  rw [if_neg q3']
  exact minv_app h rl ml hI (fun y hy => hy) (fun e => by rw [hop] at e; omega) (fun e => by rw [hop] at e; omega)
theorem minv_all (L : List InsR) : ∀ i, i ≤ L.length → (goS L i).1 = 0 → MInv L i (goS L i).2.2
  | 0, _, _ => ⟨fun j h => absurd h (by omega), fun j h => absurd h (by omega), fun j h => absurd h (by omega)⟩
  | i + 1, h, h0 => by
    have hp : (goS L i).1 = 0 := by
      rcases Classical.em ((goS L i).1 = 0) with e | e
      · exact e
      · rw [goS, if_pos e] at h0; exact h0
    have e := goS_next (L := L) (i := i) (by omega) hp
    rw [e] at h0 ⊢
    exact minv_next (by omega) (goS_inv L i (by omega) hp) (minv_all L i (by omega) hp) h0
/-- Undos have their open's match; all others their own. -/
theorem und_at {L : List InsR} {r m : List Int} (hml : m.length = L.length) (hu : ∀ k, k < L.length → opAt L (k : Int) = 16 → ∃ j : Nat, r.getD k 0 = (j : Int) ∧ opAt L (j : Int) = 14) : ∀ n, n ≤ L.length → ∀ k, k < L.length → (opAt L (k : Int) ≠ 16 → (und L r m n).getD k 0 = m.getD k 0) ∧ (opAt L (k : Int) = 16 → k < n → (und L r m n).getD k 0 = m.getD (r.getD k 0).toNat 0)
  | 0, _, k, hk => ⟨fun _ => rfl, fun _ h => absurd h (by omega)⟩
  | n + 1, hn, k, hk => by
    obtain ⟨h1, h2⟩ := und_at hml hu n (by omega) k hk
    have hlen : (und L r m n).length = L.length := (und_len L r m n).trans hml
    rw [und]
    split
    · rename_i e
      obtain ⟨j, e1, e2⟩ := hu n (by omega) e
      have hjl : j < L.length := by
        rcases Nat.lt_or_ge j L.length with q | q
        · exact q
        · unfold opAt at e2
          rw [show ((j : Int)).toNat = j from rfl, List.getElem?_eq_none q] at e2; simp at e2
      have hj := (und_at hml hu n (by omega) j hjl).1 (by omega)
      refine ⟨fun hne => ?_, fun he hlt => ?_⟩
      · rw [gd_set (by omega), if_neg (show ¬ n = k from fun q => by subst q; exact hne e)]; exact h1 hne
      · rw [gd_set (by omega)]
        split
        · rename_i q; subst q; rw [e1, show ((j : Int)).toNat = j from rfl]; exact hj
        · exact h2 he (by omega)
    · rename_i e
      exact ⟨h1, fun he hlt => h2 he (by rcases Nat.lt_succ_iff_lt_or_eq.1 hlt with q | rfl; exact q; exact absurd he e)⟩
theorem ok_le {L : List InsR} {i n : Nat} (h : i ≤ n) (h0 : (goS L n).1 = 0) : (goS L i).1 = 0 := by
  rcases Classical.em ((goS L i).1 = 0) with e | e
  · exact e
  · have := goS_stay e (n - i)
    rw [show i + (n - i) = n by omega] at this
    rw [this] at h0; exact h0
theorem r_lt {L : List InsR} (h0 : (goS L L.length).1 = 0) {i : Nat} (hi : i < L.length) : -1 ≤ ((goS L L.length).2.2.r).getD i 0 ∧ ((goS L L.length).2.2.r).getD i 0 < (i : Int) := by
  rw [r_at L.length (Nat.le_refl _) h0 i hi]
  have := inm_rng (goS_inv L i (by omega) (ok_le (by omega) h0)).oo
  rcases this with e | e
  · show -1 ≤ inm (goS L i).2.2.o ∧ inm (goS L i).2.2.o < _; omega
  · show -1 ≤ inm (goS L i).2.2.o ∧ inm (goS L i).2.2.o < _; omega
theorem stp_len {L : List InsR} {i : Nat} {x : InsR} {s : PS} (hd : ∀ k, beg L (inm s.o) k → s.o.dropLast.length + 1 = s.o.length) (h : (stp L i x s).1 = 0) : ((x.op = 14 ∨ x.op = 17) → (stp L i x s).2.o.length = s.o.length + 1) ∧ ((x.op = 15 ∨ x.op = 19) → (stp L i x s).2.o.length + 1 = s.o.length) ∧ (¬ (x.op = 14 ∨ x.op = 17) → ¬ (x.op = 15 ∨ x.op = 19) → (stp L i x s).2.o.length = s.o.length) := by
  unfold stp at h ⊢
  split at h
  · simp at h
  rename_i hm
  rw [if_neg hm]
  split at h
  · rename_i q
    split at h
    · simp at h
    · rename_i q2
      rw [if_pos q, if_neg q2]
      exact ⟨fun _ => by simp, fun _ => by omega, fun e => absurd q e⟩
  rename_i q
  rw [if_neg q]
  split at h
  · rename_i q1
    split at h
    · rename_i q2
      rw [if_pos q1, if_pos q2]
      exact ⟨fun e => absurd e q, fun _ => by omega, fun _ _ => rfl⟩
    · simp at h
  rename_i q1
  rw [if_neg q1]
  split at h
  · rename_i q2
    split at h
    · rename_i q3
      rw [if_pos q2, if_pos q3]
      exact ⟨fun e => absurd e q, fun _ => hd _ q3, fun _ e => absurd (.inl q2) e⟩
    · simp at h
  rename_i q2
  rw [if_neg q2]
  split at h
  · rename_i q2'
    split at h
    · rename_i q3
      rw [if_pos q2', if_pos q3]
      exact ⟨fun e => absurd e q, fun _ => hd _ q3, fun _ e => absurd (.inr q2') e⟩
    · simp at h
  rename_i q2'
  rw [if_neg q2']
  split at h
  · rename_i q3'
    split at h
    · rename_i q3
      rw [if_pos q3', if_pos q3]
      have := hd _ q3
      exact ⟨fun e => absurd e q, fun _ => by omega, fun _ _ => by simp only [List.length_append, List.length_singleton]; omega⟩
    · simp at h
  rename_i q3'
  rw [if_neg q3']
  exact ⟨fun e => absurd e q, fun _ => by omega, fun _ _ => rfl⟩
/-- How deep it is behind each instruction. -/
theorem plc_next {L : List InsR} {i : Nat} (h : i < L.length) (h0 : (goS L (i + 1)).1 = 0) : ((L[i].op = 14 ∨ L[i].op = 17) → (plc L (i + 1)).length = (plc L i).length + 1) ∧ ((L[i].op = 15 ∨ L[i].op = 19) → (plc L (i + 1)).length + 1 = (plc L i).length) ∧ (¬ (L[i].op = 14 ∨ L[i].op = 17) → ¬ (L[i].op = 15 ∨ L[i].op = 19) → (plc L (i + 1)).length = (plc L i).length) := by
  have hp : (goS L i).1 = 0 := ok_le (by omega) h0
  have e := goS_next (L := L) (i := i) h hp
  rw [e] at h0
  have hpl : plc L (i + 1) = (stp L i L[i] (goS L i).2.2).2.o := by show (goS L (i + 1)).2.2.o = _; rw [e]
  rw [hpl]
  refine stp_len (fun k hb => ?_) h0
  obtain ⟨o', j, e1, _⟩ := beg_nat (goS_inv L i (by omega) hp).oo hb
  rw [e1, List.dropLast_concat]; simp
theorem makes_ok {L : List InsR} (hok : (goS L L.length).1 = 0) (hp : plc L L.length = []) {r mF : List Int} (er : r = (goS L L.length).2.2.r) (em : mF = und L r (goS L L.length).2.2.m L.length) {i : Nat} (hi : i < L.length) :
    (-1 ≤ r.getD i 0 ∧ r.getD i 0 < (i : Int)) ∧ ((bgs L[i].op ∨ L[i].op = 16) → ∃ k : Nat, mF.getD i 0 = (k : Int) ∧ i < k ∧ k < L.length ∧ (bgs L[i].op → r.getD k 0 = (i : Int))) ∧ (¬ (bgs L[i].op ∨ L[i].op = 16) → mF.getD i 0 = -1) ∧ (L[i].op = 16 → ∃ j : Nat, r.getD i 0 = (j : Int) ∧ j < i ∧ mF.getD i 0 = mF.getD j 0) := by
  subst er em
  have hx := r_lt hok hi
  have hC := goS_inv L L.length (Nat.le_refl _) hok
  have hM := minv_all L L.length (Nat.le_refl _) hok
  have ho : (goS L L.length).2.2.o = [] := hp
  generalize (goS L L.length).2.2 = s at *
  obtain ⟨rl, ml, ol, oo, rr, un, ma⟩ := hC
  have hop := opAt_get hi
  have hu : ∀ k, k < L.length → opAt L (k : Int) = 16 → ∃ j : Nat, s.r.getD k 0 = (j : Int) ∧ opAt L (j : Int) = 14 := fun k hk e => by
    obtain ⟨j, e1, e2, _⟩ := hM.u k hk e; exact ⟨j, e1, e2⟩
  have hund := und_at ml hu L.length (Nat.le_refl _)
  have hb : ∀ j, j < L.length → bgs (opAt L (j : Int)) → ∃ k : Nat, s.m.getD j 0 = (k : Int) ∧ j < k ∧ k < L.length ∧ s.r.getD k 0 = (j : Int) := fun j hj hbg => by
    rcases hM.b j hj hbg with e | e
    · rw [ho] at e; cases e
    · exact e
  have hir : i < s.r.length := by omega
  have hri : s.r.getD i 0 = s.r[i] := by simp [List.getD_eq_getElem?_getD, hir]
  have hrr := rr _ (List.getElem_mem hir)
  refine ⟨?_, fun hq => ?_, fun hq => ?_, fun hq => ?_⟩
  · exact hx
  · by_cases h16 : L[i].op = 16
    · obtain ⟨j, e1, e2, e3, e4⟩ := hM.u i hi (hop.trans h16)
      obtain ⟨k, k1, k2, k3, k4⟩ := hb j (by omega) (by rw [e2]; exact .inl rfl)
      rcases e4 with e | ⟨k', e5, e6⟩
      · rw [ho] at e; cases e
      · refine ⟨k, ?_, by omega, k3, fun q => by omega⟩
        rw [(hund i hi).2 (hop.trans h16) hi, e1]; exact k1
    · obtain ⟨k, k1, k2, k3, k4⟩ := hb i hi (by rw [hop]; rcases hq with q | q; exact q; exact absurd q h16)
      exact ⟨k, by rw [(hund i hi).1 (by rw [hop]; exact h16)]; exact k1, k2, k3, fun _ => k4⟩
  · rw [(hund i hi).1 (by rw [hop]; exact fun q => hq (.inr q))]
    exact hM.n i hi (by rw [hop]; exact fun q => hq (.inl q))
  · obtain ⟨j, e1, e2, e3, e4⟩ := hM.u i hi (hop.trans hq)
    refine ⟨j, e1, e3, ?_⟩
    rw [(hund i hi).2 (hop.trans hq) hi, (hund j (by omega)).1 (by omega), e1]; rfl
end
end Go.Lev
