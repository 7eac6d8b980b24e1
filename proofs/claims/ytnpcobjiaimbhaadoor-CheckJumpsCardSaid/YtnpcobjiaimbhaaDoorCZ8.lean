/- programs of draws may run: whole -/
import Derived.Test.YtnpcobjiaimbhaaDoorCZ7
import Derived.Test.YtnpcobjiaimbhaaDoorLc
import Derived.Test.YtnpcobjiaimbhaaDoorChecked
import Derived.KernelRfl

namespace Go.Lev
open Go.RowKit
set_option linter.unusedVariables false
set_option linter.unusedSimpArgs false
set_option maxRecDepth 100000
noncomputable section
theorem plc_app {l t : List InsR} {i : Nat} (h : i ≤ l.length) : plc (l ++ t) i = plc l i := by show (goS _ _).2.2.o = _; rw [goS_app l t i h]
def JInv (l : List InsR) : Prop := ∀ k (h : k < l.length), (l[k].op = 12 ∨ l[k].op = 13) → ∃ c : Nat, l[k].c = (c : Int) ∧ c ≤ l.length ∧ inm (plc l c) = inm (plc l k)
theorem JInv.one {l : List InsR} {x : InsR} (h : JInv l) (hx : ¬ (x.op = 12 ∨ x.op = 13)) : JInv (l ++ [x]) := by
  intro k hk ho
  have hk' : k < l.length + 1 := by simpa using hk
  by_cases hlt : k < l.length
  · rw [List.getElem_append_left hlt] at ho ⊢
    obtain ⟨c, e1, e2, e3⟩ := h k hlt ho
    exact ⟨c, e1, by simp; omega, by rw [plc_app e2, plc_app (by omega)]; exact e3⟩
  · obtain rfl : k = l.length := by omega
    simp at ho
    exact absurd ho hx
/-- A jump whose place is told is put behind, with what comes there. -/
theorem JInv.jmp {l : List InsR} {x : InsR} {c : Nat} (h : JInv l) (t : List InsR) (hx : x.c = (c : Int)) (hc : c ≤ (l ++ [x] ++ t).length) (ht : ∀ y ∈ t, ¬ (y.op = 12 ∨ y.op = 13)) (hp : inm (plc (l ++ [x] ++ t) c) = inm (plc (l ++ [x] ++ t) l.length)) : JInv (l ++ [x] ++ t) := by
  intro k hk ho
  by_cases hlt : k < l.length
  · have e : (l ++ [x] ++ t)[k] = l[k] := by rw [List.getElem_append_left (by simp; omega), List.getElem_append_left hlt]
    rw [e] at ho ⊢
    obtain ⟨c, e1, e2, e3⟩ := h k hlt ho
    refine ⟨c, e1, by simp; omega, ?_⟩
    rw [List.append_assoc, plc_app e2, plc_app (by omega)]; exact e3
  · by_cases he : k = l.length
    · subst he
      have e : (l ++ [x] ++ t)[l.length] = x := by rw [List.getElem_append_left (by simp), List.getElem_append_right (Nat.le_refl _)]; simp
      rw [e]
      exact ⟨c, hx, hc, hp⟩
    · have e : (l ++ [x] ++ t)[k] ∈ t := by
        rw [List.getElem_append_right (by simp; omega)]; exact List.getElem_mem _
      exact absurd ho (ht _ e)
structure GS (l : List InsR) (o : List Int) : Prop where
  rep : RepO l o
  k3 : OK3 o
  j : JInv l
theorem GS.plain {l : List InsR} {o : List Int} {x : InsR} (h : GS l o) (hm : mayI x = true) (hx : x.op < 12 ∨ 19 < x.op) : GS (l ++ [x]) o := ⟨(repO_plain h.rep hm (by omega)).1, h.k3, h.j.one (by omega)⟩
theorem app2 (l : List InsR) (z y : InsR) : l ++ [z, y] = l ++ [z] ++ [y] := by simp
/-- A jump over the next one. -/
theorem GS.zero {l : List InsR} {o : List Int} {z y : InsR} (h : GS l o) (hz : mayI z = true) (oz : z.op = 13) (cz : z.c = ((l.length + 2 : Nat) : Int)) (hy : mayI y = true) (oy : y.op < 12 ∨ 19 < y.op) : GS (l ++ [z, y]) o := by
  obtain ⟨r1, p1⟩ := repO_plain h.rep hz (by omega)
  obtain ⟨r2, p2⟩ := repO_plain r1 hy (by omega)
  rw [app2]
  refine ⟨r2, h.k3, h.j.jmp [y] cz (by simp) (fun q hq => by rw [List.mem_singleton.1 hq]; omega) ?_⟩
  rw [List.length_append, List.length_singleton] at p2
  rw [show l.length + 2 = l.length + 1 + 1 from rfl, p2, p1, List.append_assoc, plc_app (Nat.le_refl _)]
/-- A jump back to the one before. -/
theorem GS.back {l : List InsR} {o : List Int} {z y : InsR} (h : GS l o) (hz : mayI z = true) (oz : z.op = 13) (cz : z.c = (l.length : Int)) (hy : mayI y = true) (oy : y.op < 12 ∨ 19 < y.op) : GS (l ++ [y, z]) o := by
  obtain ⟨r1, p1⟩ := repO_plain h.rep hy (by omega)
  obtain ⟨r2, p2⟩ := repO_plain r1 hz (by omega)
  rw [app2]
  have := (h.j.one (x := y) (by omega)).jmp (x := z) (c := l.length) [] cz (by simp) (fun q hq => by cases hq) (by
    rw [List.append_nil, plc_app (by simp), plc_app (l := l ++ [y]) (by simp), plc_app (Nat.le_refl _), List.length_append, List.length_singleton, p1])
  rw [List.append_nil] at this
  exact ⟨r2, h.k3, this⟩
theorem sim_op (w a b c n : Int) : (simF w a b c n).op < 12 ∨ 19 < (simF w a b c n).op := by
  have h4 := wthV_in (a := xwr .i64 (xar .rem .u64 n 64)) (lo := 0) (hi := 4) (by decide)
  have e : xar .add .i64 3 (wthV (xwr .i64 (xar .rem .u64 n 64)) 0 4) = 3 + wthV (xwr .i64 (xar .rem .u64 n 64)) 0 4 := add_i64 (by omega) (by omega)
  unfold simF simV
  repeat' split
  all_goals first | (left; dsimp only; omega) | (right; dsimp only; omega)
theorem sim_may (w a b c n : Int) : mayI (simF w a b c n) = true := by
  have h4 := wthV_in (a := xwr .i64 (xar .rem .u64 n 64)) (lo := 0) (hi := 4) (by decide)
  have e : xar .add .i64 3 (wthV (xwr .i64 (xar .rem .u64 n 64)) 0 4) = 3 + wthV (xwr .i64 (xar .rem .u64 n 64)) 0 4 := add_i64 (by omega) (by omega)
  have ha := wthV_in (a := a) (lo := 0) (hi := 6) (by decide)
  have hb := wthV_in (a := b) (lo := 0) (hi := 6) (by decide)
  have hc := wthV_in (a := c) (lo := 0) (hi := 6) (by decide)
  have hc3 := wthV_in (a := c) (lo := 0) (hi := 3) (by decide)
  have hc15 := wthV_in (a := c) (lo := 6) (hi := 15) (by decide)
  unfold simF simV mayI
  split
  · dsimp only; exact (mw1 _ _ _ _).2 ⟨by omega, by omega, by omega, by omega, by omega, by omega, .inl rfl⟩
  split
  · dsimp only; exact (mw1 _ _ _ _).2 ⟨by omega, by omega, by omega, by omega, by omega, by omega, .inl rfl⟩
  split
  · dsimp only; exact (mw2 _ _ _ _).2 ⟨by omega, by omega, by omega, by omega, by omega, by omega, .inr rfl⟩
  split
  · dsimp only; rw [e]
    generalize wthV (xwr .i64 (xar .rem .u64 n 64)) 0 4 = v at *
    rcases (show v = 0 ∨ v = 1 ∨ v = 2 ∨ v = 3 ∨ v = 4 by omega) with rfl | rfl | rfl | rfl | rfl
    · exact (mw3 _ _ _ _).2 ⟨by omega, by omega, by omega, by omega, by omega, by omega, .inr rfl⟩
    · exact (mw4 _ _ _ _).2 ⟨by omega, by omega, by omega, by omega, by omega, by omega, .inr rfl⟩
    · exact (mw5 _ _ _ _).2 ⟨by omega, by omega, by omega, by omega, by omega, by omega, .inr rfl⟩
    · exact (mw6 _ _ _ _).2 ⟨by omega, by omega, by omega, by omega, by omega, by omega, .inr rfl⟩
    · exact (mw7 _ _ _ _).2 ⟨by omega, by omega, by omega, by omega, by omega, by omega, .inr rfl⟩
  split
  · dsimp only; exact (mw8 _ _ _ _).2 ⟨by omega, by omega, by omega, by omega, by omega, by omega, .inr rfl⟩
  split
  · dsimp only; exact (mw9 _ _ _ _).2 ⟨by omega, by omega, by omega, by omega, by omega, by omega, .inr rfl⟩
  split
  · dsimp only; exact (mw8 _ _ _ _).2 ⟨by omega, by omega, by omega, by omega, by omega, by omega, .inr rfl⟩
  split
  · dsimp only; exact (mw9 _ _ _ _).2 ⟨by omega, by omega, by omega, by omega, by omega, by omega, .inr rfl⟩
  split
  · dsimp only; exact (mw10 _ _ _ _).2 ⟨by omega, by omega, by omega, by omega, by omega, by omega, .inr rfl⟩
  split
  · dsimp only; exact (mw11 _ _ _ _).2 ⟨by omega, by omega, by omega, by omega, by omega, by omega, .inr rfl⟩
  · dsimp only; exact (mw21 _ _ _ _).2 ⟨by omega, by omega, by omega, by omega, by omega, by omega, .inr rfl⟩
theorem zero_may {a : Int} {c : Nat} (hc : c ≤ 40) : mayI ⟨13, wthV a 0 6, 0, (c : Int), 0⟩ = true := by
  have ha := wthV_in (a := a) (lo := 0) (hi := 6) (by decide)
  unfold mayI; dsimp only; exact (mw13 _ _ _ _).2 ⟨by omega, by omega, by omega, by omega, by omega, by omega, .inr rfl⟩
theorem gst_GS {calm : Bool} {x : KinR} {l : List InsR} {o : List Int} (h : GS l o) (hl : l.length ≤ 38) : GS (gst calm x l o).1 (gst calm x l o).2 := by
  unfold gst
  split
  · rename_i q
    exact ⟨repO_open h.rep (.inl rfl) (I1_may (by omega)) q.2, fun y hy => by rcases List.mem_append.1 hy with hy | hy; exact h.k3 y hy; rw [List.mem_singleton.1 hy]; omega, h.j.one (by simp [I1])⟩
  split
  · rename_i q
    exact ⟨repO_open h.rep (.inr rfl) (I1_may (by omega)) q.2, fun y hy => by rcases List.mem_append.1 hy with hy | hy; exact h.k3 y hy; rw [List.mem_singleton.1 hy]; omega, h.j.one (by simp [I1])⟩
  split
  · rename_i q
    obtain ⟨r1, r2, k, e, hk⟩ := repO_shut h.rep h.k3 q.2
    refine ⟨r1, r2, ?_⟩
    rw [e]; exact h.j.one (by show ¬ (k = 12 ∨ k = 13); omega)
  split
  · rename_i q
    exact ⟨repO_undo h.rep (I1_may (by omega)) q.2.1 q.2.2, h.k3, h.j.one (by simp [I1])⟩
  split
  · exact h.zero (zero_may (by omega)) rfl rfl (I1_may (by omega)) (by simp [I1])
  split
  · exact h.zero (zero_may (by omega)) rfl rfl (I1_may (by omega)) (by simp [I1])
  split
  · exact h.zero (zero_may (by omega)) rfl rfl (I1_may (by omega)) (by simp [I1])
  split
  · exact h.zero (zero_may (by omega)) rfl rfl (sim_may ..) (sim_op ..)
  split
  · exact h.back (zero_may (by omega)) rfl rfl (sim_may ..) (sim_op ..)
  · exact h.plain (sim_may ..) (sim_op ..)
theorem gL_GS {m : Int} {calm : Bool} (hm : m ≤ 40) : ∀ (ks : List KinR) (l : List InsR) (o : List Int), GS l o → o.length ≤ 5 → l.length + 2 * o.length ≤ 40 → GS (gL m calm ks l o).1 (gL m calm ks l o).2
  | [], l, o, h, _, _ => h
  | x :: r, l, o, h, h1, h2 => by
    rw [gL]
    split
    · exact h
    · have := gst_GI (calm := calm) (x := x) (l := l) (o := o) (n := 40) h1 (by omega)
      exact gL_GS hm r _ _ (gst_GS h (by omega)) this.1 this.2.1
theorem gC_GS : ∀ (f : Nat) (l : List InsR) (o : List Int), gwt o ≤ f → GS l o → RepO (gC f l o) [] ∧ JInv (gC f l o)
  | 0, l, o, hw, h => by
    have := gwt_le o
    have e : o = [] := List.length_eq_zero_iff.1 (by omega)
    subst e
    exact ⟨h.rep, h.j⟩
  | f + 1, l, o, hw, h => by
    rw [gC]
    split
    · rename_i e; subst e; exact ⟨h.rep, h.j⟩
    · rename_i hne
      have h0 : 0 < o.length := List.length_pos_iff.2 hne
      obtain ⟨r1, r2, k, e, hk⟩ := repO_shut h.rep h.k3 h0
      have hw2 : gwt (shS l o).2 ≤ f := by
        rcases nil_snoc o with rfl | ⟨o2, y, rfl⟩
        · exact absurd rfl hne
        · have := shS_w (l := l) (o' := o2) (x := y); omega
      exact gC_GS f _ _ hw2 ⟨r1, r2, by rw [e]; exact h.j.one (by show ¬ (k = 12 ∨ k = 13); omega)⟩
theorem GS_nil : GS [] [] := ⟨⟨rfl, rfl⟩, (fun y hy => by cases hy), fun k h => absurd h (by simp)⟩
theorem gF_rep {ks : List KinR} {m : Int} {calm : Bool} (hm : m ≤ 40) : RepO (gF ks m calm) [] ∧ JInv (gF ks m calm) := by
  have h1 := gL_GS (calm := calm) hm ks [] [] GS_nil (by simp) (by simp)
  have h2 := gL_bd (calm := calm) (n := 40) (by omega) ks [] [] (by simp) (by simp)
  have h4 := gwt_le (gL m calm ks [] []).2
  have h3 := gC_GS 20 (gL m calm ks [] []).1 (gL m calm ks [] []).2 (by omega) h1
  unfold gF
  split
  · have := GS_nil.plain (x := ⟨1, 0, 0, 0, 1⟩) (by unfold mayI; dsimp only; exact (mw1 _ _ _ _).2 ⟨by omega, by omega, by omega, by omega, by omega, by omega, .inl rfl⟩) (.inl (by decide))
    exact ⟨this.rep, this.j⟩
  · exact h3
theorem stp_r {L : List InsR} {i : Nat} {x : InsR} {s : PS} (h : (stp L i x s).1 = 0) : (stp L i x s).2.r = s.r ++ [inm s.o] := by
  revert h
  unfold stp
  repeat' split
  all_goals intro h
  all_goals first | rfl | exact absurd h (by simp)
theorem r_at {L : List InsR} : ∀ n, n ≤ L.length → (goS L n).1 = 0 → ∀ k, k < n → ((goS L n).2.2.r).getD k 0 = inm (plc L k)
  | 0, _, _, k, hk => by omega
  | n + 1, hn, h0, k, hk => by
    have hp : (goS L n).1 = 0 := by
      rcases Classical.em ((goS L n).1 = 0) with e | e
      · exact e
      · rw [goS, if_pos e] at h0; exact h0
    have e := goS_next (L := L) (i := n) (by omega) hp
    rw [e] at h0
    have hr : (goS L (n + 1)).2.2.r = (goS L n).2.2.r ++ [inm (plc L n)] := by rw [e]; exact stp_r h0
    have hl := (goS_inv L n (by omega) hp).rl
    rw [hr]
    rcases Nat.lt_succ_iff_lt_or_eq.1 hk with hk | rfl
    · have := r_at n (by omega) hp k hk
      rw [List.getD_eq_getElem?_getD] at this ⊢
      rw [List.getElem?_append_left (by omega)]; exact this
    · rw [List.getD_eq_getElem?_getD, List.getElem?_append_right (by omega), hl, Nat.sub_self]; rfl
theorem chk_gF {ks : List KinR} {m : Int} {calm : Bool} (hm : m ≤ 40) : chk (gF ks m calm) = (0, 0, (goS (gF ks m calm) (gF ks m calm).length).2.2.r, und (gF ks m calm) (goS (gF ks m calm) (gF ks m calm).length).2.2.r (goS (gF ks m calm) (gF ks m calm).length).2.2.m (gF ks m calm).length) := by
  obtain ⟨hr, hj⟩ := gF_rep (ks := ks) (calm := calm) hm
  have hg1 : 1 ≤ (gF ks m calm).length := gF_len
  have hg2 : (gF ks m calm).length ≤ 40 := gF_le (n := 40) (by omega) (by decide)
  generalize gF ks m calm = L at *
  have ho : (goS L L.length).2.2.o = [] := by have := hr.ops; simpa using this
  refine chk_good (by omega) hr.ok ho ?_
  suffices h : ∀ k, k ≤ L.length → goJ L (goS L L.length).2.2.r k = none from h _ (Nat.le_refl _)
  intro k
  induction k with
  | zero => intro _; rfl
  | succ k ih =>
    intro hk
    refine goJ_good (by omega) (ih (by omega)) fun hop => ?_
    obtain ⟨c, e1, e2, e3⟩ := hj k (by omega) hop
    rw [e1, r_at L.length (Nat.le_refl _) hr.ok k (by omega)]
    by_cases hc : c = L.length
    · left
      subst hc
      exact ⟨rfl, by rw [← e3]; show inm (goS L L.length).2.2.o = -1; rw [ho]; rfl⟩
    · right
      exact ⟨by omega, by rw [show ((c : Int)).toNat = c from rfl, r_at L.length (Nat.le_refl _) hr.ok c (by omega)]; exact e3⟩
end
end Go.Lev
