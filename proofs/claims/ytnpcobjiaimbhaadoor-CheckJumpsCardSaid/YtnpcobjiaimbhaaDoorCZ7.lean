/- programs of draws may run: list reasoning -/
import Derived.Test.YtnpcobjiaimbhaaDoorCW5
import Derived.Test.YtnpcobjiaimbhaaDoorCZ4
import Derived.Test.YtnpcobjiaimbhaaDoorLc
import Derived.Test.YtnpcobjiaimbhaaDoorChecked
import Derived.KernelRfl

namespace Go.Lev
open Go.RowKit
set_option linter.unusedVariables false
set_option linter.unusedSimpArgs false
set_option maxRecDepth 100000
noncomputable section
theorem gL_bd {m : Int} {calm : Bool} {n : Nat} (hm : m ≤ (n : Int)) : ∀ (ks : List KinR) (l : List InsR) (o : List Int), o.length ≤ 5 → l.length + 2 * o.length ≤ n → (gL m calm ks l o).2.length ≤ 5 ∧ (gL m calm ks l o).1.length + 2 * (gL m calm ks l o).2.length ≤ n
  | [], l, o, h1, h2 => ⟨h1, h2⟩
  | x :: r, l, o, h1, h2 => by
    rw [gL]
    split
    · exact ⟨h1, h2⟩
    · have := gst_GI (calm := calm) (x := x) (l := l) (o := o) (n := n) h1 (by omega)
      exact gL_bd hm r _ _ this.1 this.2.1
theorem gC_bd : ∀ (f : Nat) (l : List InsR) (o : List Int), (gC f l o).length ≤ l.length + gwt o
  | 0, l, o => by rw [gC]; omega
  | f + 1, l, o => by
    rw [gC]
    split
    · omega
    · rename_i h
      rcases nil_snoc o with rfl | ⟨o2, y, rfl⟩
      · exact absurd rfl h
      · have h1 := gC_bd f (shS l (o2 ++ [y])).1 (shS l (o2 ++ [y])).2
        have h2 := shS_w (l := l) (o' := o2) (x := y)
        omega
theorem gF_le {ks : List KinR} {m : Int} {calm : Bool} {n : Nat} (hm : m ≤ (n : Int)) (h1 : 1 ≤ n) : (gF ks m calm).length ≤ n := by
  have h2 := gL_bd (calm := calm) hm ks [] [] (by simp) (by simp)
  have h3 := gC_bd 20 (gL m calm ks [] []).1 (gL m calm ks [] []).2
  have h4 := gwt_le (gL m calm ks [] []).2
  unfold gF
  split
  · simpa using h1
  · omega
theorem opAt_app {l t : List InsR} {j : Int} (h0 : 0 ≤ j) (h : j < (l.length : Int)) : opAt (l ++ t) j = opAt l j := by
  unfold opAt; rw [List.getElem?_append_left (by omega)]
theorem inm_rng {o : List Int} {i : Nat} (h : ∀ x ∈ o, 0 ≤ x ∧ x < (i : Int)) : inm o = -1 ∨ (0 ≤ inm o ∧ inm o < (i : Int)) := by
  rcases inm_mem (o := o) with ⟨e, _⟩ | e
  · exact .inl e
  · exact .inr (h _ e)
theorem beg_app {l t : List InsR} {inn k : Int} (h : inn = -1 ∨ (0 ≤ inn ∧ inn < (l.length : Int))) : beg (l ++ t) inn k ↔ beg l inn k := by
  rcases h with rfl | ⟨h0, h1⟩
  · exact ⟨fun h => absurd rfl h.1, fun h => absurd rfl h.1⟩
  · show (inn ≠ -1 ∧ opAt (l ++ t) inn = k) ↔ _
    rw [opAt_app h0 h1]
theorem stp_app {l t : List InsR} {i : Nat} {x : InsR} {s : PS} (hi : i ≤ l.length) (oo : ∀ y ∈ s.o, 0 ≤ y ∧ y < (i : Int)) : stp (l ++ t) i x s = stp l i x s := by
  have hb : ∀ k, beg (l ++ t) (inm s.o) k ↔ beg l (inm s.o) k := fun k => beg_app (by rcases inm_rng oo with e | e; exact .inl e; exact .inr ⟨e.1, by omega⟩)
  unfold stp
  simp only [hb]
theorem goS_app (l t : List InsR) : ∀ i, i ≤ l.length → goS (l ++ t) i = goS l i
  | 0, _ => rfl
  | i + 1, h => by
    have ih := goS_app l t i (by omega)
    by_cases h0 : (goS l i).1 = 0
    · rw [goS_next (L := l) (by omega) h0, goS_next (L := l ++ t) (i := i) (by simp; omega) (by rw [ih]; exact h0), ih, List.getElem_append_left (by omega), stp_app (by omega) (goS_inv l i (by omega) h0).oo]
    · have e1 : goS l (i + 1) = goS l i := goS_stay h0 1
      have e2 : goS (l ++ t) (i + 1) = goS (l ++ t) i := goS_stay (by rw [ih]; exact h0) 1
      rw [e1, e2, ih]
theorem app1 {l : List InsR} {x : InsR} (h : (goS l l.length).1 = 0) {s' : PS} (hs : stp l l.length x (goS l l.length).2.2 = (0, s')) : (goS (l ++ [x]) (l.length + 1)).1 = 0 ∧ (goS (l ++ [x]) (l.length + 1)).2.2 = s' := by
  have e := goS_app l [x] l.length (Nat.le_refl _)
  have hl : l.length < (l ++ [x]).length := by simp
  have ex : (l ++ [x])[l.length] = x := by simp
  rw [goS_next hl (by rw [e]; exact h), e, ex, stp_app (Nat.le_refl _) (goS_inv l _ (Nat.le_refl _) h).oo, hs]
  exact ⟨rfl, rfl⟩
theorem map_app {l t : List InsR} {o : List Int} (h : ∀ y ∈ o, 0 ≤ y ∧ y < (l.length : Int)) : o.map (opAt (l ++ t)) = o.map (opAt l) := List.map_congr_left fun y hy => opAt_app (h y hy).1 (h y hy).2
abbrev plc (l : List InsR) (i : Nat) : List Int := (goS l i).2.2.o
structure RepO (l : List InsR) (o : List Int) : Prop where
  ok : (goS l l.length).1 = 0
  ops : (plc l l.length).map (opAt l) = o
theorem RepO.len {l : List InsR} {o : List Int} (h : RepO l o) : (plc l l.length).length = o.length := by rw [← h.ops, List.length_map]
theorem RepO.oo {l : List InsR} {o : List Int} (h : RepO l o) : ∀ y ∈ plc l l.length, 0 ≤ y ∧ y < (l.length : Int) := (goS_inv l _ (Nat.le_refl _) h.ok).oo
theorem RepO.beg {l : List InsR} {o : List Int} (h : RepO l o) {k : Int} (hk : 0 < o.length) (he : inm o = k) : Go.Lev.beg l (inm (plc l l.length)) k := by
  have hl := h.len
  have hoo := h.oo
  have hops := h.ops
  rcases nil_snoc (plc l l.length) with e | ⟨p, j, e⟩
  · rw [e] at hl; simp at hl; omega
  · rw [e] at hops hoo ⊢
    rw [List.map_append, List.map_singleton] at hops
    rw [← hops, inm_snoc] at he
    rw [inm_snoc]
    have := hoo j (by simp)
    exact ⟨by omega, he⟩
theorem repO_plain {l : List InsR} {o : List Int} {x : InsR} (h : RepO l o) (hm : mayI x = true) (hx : x.op < 14 ∨ 19 < x.op) : RepO (l ++ [x]) o ∧ plc (l ++ [x]) (l.length + 1) = plc l l.length := by
  have hst : stp l l.length x (goS l l.length).2.2 = (0, ⟨plc l l.length, (goS l l.length).2.2.r ++ [inm (plc l l.length)], (goS l l.length).2.2.m ++ [-1]⟩) := by
    rw [stp, if_neg (by simp [hm]), if_neg (by omega), if_neg (by omega), if_neg (by omega), if_neg (by omega), if_neg (by omega)]
  obtain ⟨h1, h2⟩ := app1 h.ok hst
  have hp : plc (l ++ [x]) (l.length + 1) = plc l l.length := by show (goS _ _).2.2.o = _; rw [h2]
  refine ⟨⟨by simpa using h1, ?_⟩, hp⟩
  rw [List.length_append, List.length_singleton, hp, map_app h.oo]; exact h.ops
theorem opAt_new (l : List InsR) (x : InsR) : opAt (l ++ [x]) (l.length : Int) = x.op := by
  have := opAt_get (L := l ++ [x]) (j := l.length) (by simp)
  rw [this]; simp
theorem repO_open {l : List InsR} {o : List Int} {k : Int} (h : RepO l o) (hk : k = 14 ∨ k = 17) (hm : mayI (I1 k) = true) (h5 : o.length < 5) : RepO (l ++ [I1 k]) (o ++ [k]) := by
  have hst : stp l l.length (I1 k) (goS l l.length).2.2 = (0, ⟨plc l l.length ++ [(l.length : Int)], (goS l l.length).2.2.r ++ [inm (plc l l.length)], (goS l l.length).2.2.m ++ [-1]⟩) := by
    have hl := h.len
    rw [stp, if_neg (by simp [hm]), if_pos (show (I1 k).op = 14 ∨ (I1 k).op = 17 from hk), if_neg (show ¬ 5 ≤ (plc l l.length).length by omega)]
  obtain ⟨h1, h2⟩ := app1 h.ok hst
  have hp : plc (l ++ [I1 k]) (l.length + 1) = plc l l.length ++ [(l.length : Int)] := by show (goS _ _).2.2.o = _; rw [h2]
  refine ⟨by simpa using h1, ?_⟩
  rw [List.length_append, List.length_singleton, hp, List.map_append, map_app h.oo, h.ops, List.map_singleton, opAt_new]; rfl
theorem repO_undo {l : List InsR} {o : List Int} (h : RepO l o) (hm : mayI (I1 16) = true) (h0 : 0 < o.length) (hi : inm o = 14) : RepO (l ++ [I1 16]) o := by
  have hb := h.beg h0 hi
  have hst : stp l l.length (I1 16) (goS l l.length).2.2 = (0, ⟨plc l l.length, (goS l l.length).2.2.r ++ [inm (plc l l.length)], (goS l l.length).2.2.m ++ [-1]⟩) := by
    rw [stp, if_neg (by simp [hm]), if_neg (by simp [I1]), if_pos (show (I1 16).op = 16 from rfl), if_pos hb]
  obtain ⟨h1, h2⟩ := app1 h.ok hst
  have hp : plc (l ++ [I1 16]) (l.length + 1) = plc l l.length := by show (goS _ _).2.2.o = _; rw [h2]
  refine ⟨by simpa using h1, ?_⟩
  rw [List.length_append, List.length_singleton, hp, map_app h.oo]; exact h.ops
theorem I1_may {k : Int} (h : k = 14 ∨ k = 15 ∨ k = 16 ∨ k = 17 ∨ k = 18 ∨ k = 19 ∨ k = 20 ∨ k = 22) : mayI (I1 k) = true := by
  rcases h with rfl | rfl | rfl | rfl | rfl | rfl | rfl | rfl
  · exact (mw14 _ _ _ _).2 (by simp [I1])
  · exact (mw15 _ _ _ _).2 (by simp [I1])
  · exact (mw16 _ _ _ _).2 (by simp [I1])
  · exact (mw17 _ _ _ _).2 (by simp [I1])
  · exact (mw18 _ _ _ _).2 (by simp [I1])
  · exact (mw19 _ _ _ _).2 (by simp [I1])
  · exact (mw20 _ _ _ _).2 (by simp [I1])
  · exact (mw22 _ _ _ _).2 (by simp [I1])
abbrev OK3 (o : List Int) : Prop := ∀ y ∈ o, y = 14 ∨ y = 17 ∨ y = 18
theorem map_dropLast {l : List InsR} {p : List Int} {j : Int} {o : List Int} {f : Int → Int} (h : (p ++ [j]).map f = o) : p.map f = o.dropLast := by
  rw [← h, List.map_append, List.map_singleton, List.dropLast_concat]
theorem repO_shut {l : List InsR} {o : List Int} (h : RepO l o) (h3 : OK3 o) (h0 : 0 < o.length) : RepO (shS l o).1 (shS l o).2 ∧ OK3 (shS l o).2 ∧ ∃ k, (shS l o).1 = l ++ [I1 k] ∧ (k = 15 ∨ k = 18 ∨ k = 19) := by
  have hoo := h.oo
  have hops := h.ops
  have hl := h.len
  have hpop : ∀ (k w : Int), mayI (I1 k) = true → ¬ (k = 14 ∨ k = 17) → ¬ k = 16 → inm o = w → (∀ s, s.o = plc l l.length → beg l (inm s.o) w → (stp l l.length (I1 k) s).1 = 0 ∧ (stp l l.length (I1 k) s).2.o = s.o.dropLast) → RepO (l ++ [I1 k]) o.dropLast := by
    intro k w hm _ _ hw hs
    have hb := h.beg h0 hw
    obtain ⟨s1, s2⟩ := hs (goS l l.length).2.2 rfl hb
    obtain ⟨h1, h2⟩ := app1 h.ok (x := I1 k) (s' := (stp l l.length (I1 k) (goS l l.length).2.2).2) (by rw [← s1])
    have hp : plc (l ++ [I1 k]) (l.length + 1) = (plc l l.length).dropLast := by show (goS _ _).2.2.o = _; rw [h2, s2]
    refine ⟨by simpa using h1, ?_⟩
    rw [List.length_append, List.length_singleton, hp, map_app (fun y hy => hoo y ((List.dropLast_sublist _).subset hy)), ← hops]
    rcases nil_snoc (plc l l.length) with e | ⟨p, j, e⟩
    · rw [e]; rfl
    · rw [e, List.dropLast_concat, List.map_append, List.map_singleton, List.dropLast_concat]
  have hd3 : OK3 o.dropLast := fun y hy => h3 y ((List.dropLast_sublist _).subset hy)
  unfold shS
  by_cases e1 : inm o = 14
  · rw [if_pos e1]
    refine ⟨hpop 15 14 (I1_may (by omega)) (by decide) (by decide) e1 fun s _ hb => ?_, hd3, 15, rfl, by omega⟩
    rw [stp, if_neg (by simp [I1_may]), if_neg (by simp [I1]), if_neg (by simp [I1]), if_pos (by simp [I1]), if_pos hb]; exact ⟨rfl, rfl⟩
  rw [if_neg e1]
  by_cases e2 : inm o = 17
  · rw [if_pos e2]
    have hb := h.beg h0 e2
    refine ⟨?_, fun y hy => ?_, 18, rfl, by omega⟩
    · obtain ⟨s', hs, ho⟩ : ∃ s', stp l l.length (I1 18) (goS l l.length).2.2 = (0, s') ∧ s'.o = (plc l l.length).dropLast ++ [(l.length : Int)] := by
        rw [stp, if_neg (by simp [I1_may]), if_neg (by simp [I1]), if_neg (by simp [I1]), if_neg (by simp [I1]), if_neg (by simp [I1]), if_pos (by simp [I1]), if_pos hb]; exact ⟨_, rfl, rfl⟩
      obtain ⟨h1, h2⟩ := app1 h.ok hs
      have hp : plc (l ++ [I1 18]) (l.length + 1) = (plc l l.length).dropLast ++ [(l.length : Int)] := by show (goS _ _).2.2.o = _; rw [h2, ho]
      refine ⟨by simpa using h1, ?_⟩
      rw [List.length_append, List.length_singleton, hp, List.map_append, List.map_singleton, opAt_new, map_app (fun y hy => hoo y ((List.dropLast_sublist _).subset hy)), ← hops]
      rcases nil_snoc (plc l l.length) with e | ⟨p, j, e⟩
      · rw [e]; rfl
      · rw [e, List.dropLast_concat, List.map_append, List.map_singleton, List.dropLast_concat]; rfl
    · rcases List.mem_append.1 hy with hy | hy
      · exact hd3 y hy
      · rw [List.mem_singleton.1 hy]; omega
  rw [if_neg e2]
  have e3 : inm o = 18 := by
    rcases inm_mem (o := o) with ⟨_, e⟩ | e
    · rw [e] at h0; simp at h0
    · have := h3 _ e; omega
  refine ⟨hpop 19 18 (I1_may (by omega)) (by decide) (by decide) e3 fun s _ hb => ?_, hd3, 19, rfl, by omega⟩
  rw [stp, if_neg (by simp [I1_may]), if_neg (by simp [I1]), if_neg (by simp [I1]), if_neg (by simp [I1]), if_pos (by simp [I1]), if_pos hb]; exact ⟨rfl, rfl⟩
end
end Go.Lev
