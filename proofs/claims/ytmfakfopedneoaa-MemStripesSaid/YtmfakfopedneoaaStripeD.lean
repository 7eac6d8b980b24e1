/- Contracts of package stripe: Store, Cas. -/

import Derived.Test.YtmfakfopedneoaaStripeC
namespace Go.Proofs.Ytmfakfopedneoaa
open Go.ChangeShapes Go.WideShapes Go.ChangeAt Go.RowKit
open Go.ChangeMaps (open_string shut_string)
set_option linter.unusedVariables false
def putL (w : World) (r j : Nat) (l : Lk) : World := ((w.setCell ⟨r, j * 3, none⟩ (.int .u64 l.v)).setCell ⟨r, j * 3 + 1, none⟩ (.bool l.h)).setCell ⟨r, j * 3 + 2, none⟩ (.int .i64 l.o)
theorem LRow.put {w : World} {r n : Nat} {L : List Lk} (q : LRow w r n L) (j : Nat) (hj : j < n) (l : Lk) : LRow (putL w r j l) r n (L.set j l) := by
  have hg : ∀ i, i < n → (L.set j l).getD i .zero = if j = i then l else L.getD i .zero := fun i hi => by
    simp only [List.getD_eq_getElem?_getD, List.getElem?_set]
    split
    · simp [q.len, hj]
    · rfl
  have s : ∀ (w : World) (a b : Nat) (v : Value), a ≠ b → (w.setCell ⟨r, a, none⟩ v).cell? ⟨r, b, none⟩ = w.cell? ⟨r, b, none⟩ := fun w a b v h => World.cell?_setCell_other _ _ _ _ (by simp [h])
  refine ⟨by simp [q.len], fun i hi => ?_, fun i hi => ?_, fun i hi => ?_, fun m hm => ?_⟩
  · rw [hg i hi, putL, s _ _ _ _ (by omega), s _ _ _ _ (by omega)]
    split
    · rename_i e; subst e; rw [World.cell?_setCell_same _ _ _ (q.cv j hj)]
    · rw [s _ _ _ _ (by omega), q.cv i hi]
  · rw [hg i hi, putL, s _ _ _ _ (by omega)]
    split
    · rename_i e; subst e; rw [World.cell?_setCell_same _ _ _ ((s _ _ _ _ (by omega)).trans (q.ch j hj))]
    · rw [s _ _ _ _ (by omega), s _ _ _ _ (by omega), q.ch i hi]
  · rw [hg i hi, putL]
    split
    · rename_i e; subst e; rw [World.cell?_setCell_same _ _ _ ((s _ _ _ _ (by omega)).trans ((s _ _ _ _ (by omega)).trans (q.co j hj)))]
    · rw [s _ _ _ _ (by omega), s _ _ _ _ (by omega), s _ _ _ _ (by omega), q.co i hi]
  · simp only [putL, World.frozen?_setCell]; exact q.fz m hm
theorem LRow.only {w w' : World} {r n : Nat} {L : List Lk} {bs : List Nat} (q : LRow w r n L) (h0 : 0 < n) (h : Only bs w w') (hr : r ∉ bs) : LRow w' r n L := by
  have hl : r < w.heap.size := World.block_lt_of_cell? w _ (q.cv 0 h0)
  exact ⟨q.len, fun i hi => (h.cell hl hr).trans (q.cv i hi), fun i hi => (h.cell hl hr).trans (q.ch i hi), fun i hi => (h.cell hl hr).trans (q.co i hi), fun j hj => (h.frozen hl hr).trans (q.fz j hj)⟩
theorem TabAt.only {w w' : World} {t r n : Nat} {wd : Int} {L : List Lk} {bs : List Nat} (q : TabAt w t r n wd L) (h0 : 0 < n) (h : Only bs w w') (ht : t ∉ bs) (hr : r ∉ bs) : TabAt w' t r n wd L :=
  ⟨(h.cell q.lt ht).trans q.c0, q.c1.imp fun _ e => (h.cell q.lt ht).trans e, q.row.only h0 h hr, q.ne, Nat.lt_of_lt_of_le q.lt h.size⟩
theorem TabAt.rlt {w : World} {t r n : Nat} {wd : Int} {L : List Lk} (q : TabAt w t r n wd L) (h0 : 0 < n) : r < w.heap.size := World.block_lt_of_cell? w _ (q.row.cv 0 h0)
theorem TabAt.put {w : World} {t r n : Nat} {wd : Int} {L : List Lk} (q : TabAt w t r n wd L) (j : Nat) (hj : j < n) (l : Lk) : TabAt (putL w r j l) t r n wd (L.set j l) := by
  have s : ∀ (w : World) (a b : Nat) (v : Value), (w.setCell ⟨r, a, none⟩ v).cell? ⟨t, b, none⟩ = w.cell? ⟨t, b, none⟩ := fun w a b v => World.cell?_setCell_other _ _ _ _ (by simp [Ne.symm q.ne])
  exact ⟨by rw [putL, s, s, s, q.c0], q.c1.imp fun _ e => by rw [putL, s, s, s, e], q.row.put j hj l, q.ne, by simpa [putL] using q.lt⟩
theorem only_putL (bs : List Nat) (w : World) (r j : Nat) (l : Lk) (h : r ∈ bs) : Only bs w (putL w r j l) := (((Only.refl bs w).set r _ h _).set r _ h _).set r _ h _
def StPost (w : World) (t r n : Nat) (wd : Int) (L : List Lk) (v : Value) (e : Ending) (w' : World) : Prop := e = .returned v ∧ TabAt w' t r n wd L ∧ Only [r] w w'
def stoL (n : Nat) (L : List Lk) (i : Int) (l : Lk) : List Lk := if refE n i l = 0 then L.set i.toNat l else L
set_option maxHeartbeats 1000000 in
theorem store_any (t r n : Nat) (wd : Int) (L : List Lk) (i : Int) (l : Lk) (w : World) (q : TabAt w t r n wd L) (h0 : 0 < n) (hn : n ≤ 1000) : Calls Try.prog 51 #[ptr t, .int .i64 i, lkV l] w (StPost w t r n wd (stoL n L i l) (.int .i64 (refE n i l))) := by
  obtain ⟨c, h1⟩ := q.c1
  have hl := q.lt
  have hrl := q.rlt h0
  have HR : Hid (∀ o : Obj, Calls Try.prog 63 #[ptr t, .int .i64 i, lkV l] (w.alloc o) fun e w' => e = .returned (.int .i64 (refE n i l)) ∧ Below (w.heap.size + 1) (w.alloc o) w') := fun o => by
    have := refuse_any t r n i l (w.alloc o) ((World.cell?_alloc_lt _ _ _ hl).trans h1) (by simp; omega)
    simpa using this
  have QQ := Lib.hid q
  by_cases he : refE n i l = 0
  · have hr : inR n i = true := by cases h : inR n i with | true => rfl | false => simp [refE, h] at he
    obtain ⟨j, rfl⟩ := Int.eq_ofNat_of_zero_le (show 0 ≤ i by simp [inR] at hr; omega)
    have hj : j < n := by simp [inR] at hr; omega
    have e1 : stoL n L j l = L.set j l := by simp [stoL, he]
    rw [e1, he]
    rw [he] at HR
    have b0 : (0 : Int) ≤ (j : Int) := by omega
    have b1 : (j : Int) < (n : Int) := by omega
    have HJ : Hid (j < n) := hj
    clear e1 hr q he hj
    go_enter Try.func51, Try.ntmps51
    go_wp2_with (fail)
    refine (HR.out _).mono ?_
    rintro e w1 ⟨rfl, hb⟩
    have B1 : Below w.heap.size w w1 := (((Below.refl _ _).alloc (Nat.le_refl _) _).trans (hb.mono (by simp)))
    have x0 : w1.cell? ⟨w.heap.size, 0, none⟩ = some (.int .u64 l.v) := (hb.cell (by simp)).trans (by simp)
    have x1 : w1.cell? ⟨w.heap.size, 1, none⟩ = some (.bool l.h) := (hb.cell (by simp)).trans (by simp)
    have x2 : w1.cell? ⟨w.heap.size, 2, none⟩ = some (.int .i64 l.o) := (hb.cell (by simp)).trans (by simp)
    have q1 := QQ.out.below h0 B1
    obtain ⟨c', h1'⟩ := q1.c1
    have cv := q1.row.cv j HJ.out
    have ch := q1.row.ch j HJ.out
    have co := q1.row.co j HJ.out
    have fv := q1.row.fz (j * 3) (by have := HJ.out; omega)
    have fh := q1.row.fz (j * 3 + 1) (by have := HJ.out; omega)
    have fo := q1.row.fz (j * 3 + 2) (by have := HJ.out; omega)
    have n1 : ¬ w.heap.size = r := by omega
    have n2 : ¬ r = w.heap.size := by omega
    have n3 : ¬ t = r := q1.ne
    have n4 : ¬ r = t := fun e => q1.ne e.symm
    have Q1 := Lib.hid q1
    have BB := Lib.hid B1
    clear hb B1 q1
    go_wp2
    try go_region
    all_goals go_wp2
    all_goals go_ret
    all_goals refine ⟨rfl, ?_, ?_⟩
    all_goals first | exact Q1.out.put j HJ.out l | exact (Q1.out.put j HJ.out l).below h0 ⟨rfl, rfl, rfl, Nat.le_refl _, fun _ _ => rfl⟩ | exact ((Only.of_below BB.out).trans (only_putL [r] w1 r j l (by simp))) | exact ((Only.of_below BB.out).trans (only_putL [r] w1 r j l (by simp))).drew
  · have hd : (refE n i l == 0) = false := by simpa using he
    have e1 : stoL n L i l = L := by simp [stoL, he]
    rw [e1]
    clear e1 he q
    generalize refE n i l = x at *
    go_enter Try.func51, Try.ntmps51
    go_wp2_with (first | (go_at_call 63; (with_reducible refine (HR.out _).mono ?_); rintro e w1 ⟨rfl, hb⟩; have HB := Lib.hid hb; clear hb))
    go_ret
    have B1 : Below w.heap.size w w1 := (((Below.refl _ _).alloc (Nat.le_refl _) _).trans (HB.out.mono (by simp)))
    exact ⟨rfl, QQ.out.below h0 B1, Only.of_below B1⟩
def casD (n : Nat) (L : List Lk) (i : Int) (was l : Lk) : Bool := decide (refE n i l = 0) && decide (L.getD i.toNat .zero = was)
def casL (n : Nat) (L : List Lk) (i : Int) (was l : Lk) : List Lk := if casD n L i was l then L.set i.toNat l else L
theorem beq_lk_no {a b : Lk} (h : a ≠ b) : (a.v == b.v) = false ∨ ((a.v = b.v) ∧ (a.h == b.h) = false) ∨ ((a.v = b.v) ∧ a.h = b.h ∧ (a.o == b.o) = false) := by
  by_cases h1 : a.v = b.v
  · by_cases h2 : a.h = b.h
    · refine .inr (.inr ⟨h1, h2, ?_⟩)
      simp only [beq_eq_false_iff_ne, ne_eq]
      intro h3
      exact h (by cases a; cases b; simp_all)
    · exact .inr (.inl ⟨h1, by simpa using h2⟩)
  · exact .inl (by simpa using h1)
set_option maxHeartbeats 2000000 in
theorem cas_any (t r n : Nat) (wd : Int) (L : List Lk) (i : Int) (was l : Lk) (w : World) (q : TabAt w t r n wd L) (h0 : 0 < n) (hn : n ≤ 1000) : Calls Try.prog 50 #[ptr t, .int .i64 i, lkV was, lkV l] w (StPost w t r n wd (casL n L i was l) (.tuple #[.bool (casD n L i was l), .int .i64 (refE n i l)])) := by
  obtain ⟨c, h1⟩ := q.c1
  have hl := q.lt
  have hrl := q.rlt h0
  have HR : Hid (∀ o p : Obj, Calls Try.prog 63 #[ptr t, .int .i64 i, lkV l] ((w.alloc o).alloc p) fun e w' => e = .returned (.int .i64 (refE n i l)) ∧ Below (w.heap.size + 1 + 1) ((w.alloc o).alloc p) w') := fun o p => by
    have := refuse_any t r n i l ((w.alloc o).alloc p) ((cas2 _ _ _ _ (by rw [h1]; rfl)).trans h1) (by simp; omega)
    simpa using this
  have QQ := Lib.hid q
  by_cases he : refE n i l = 0
  · have hr : inR n i = true := by cases h : inR n i with | true => rfl | false => simp [refE, h] at he
    obtain ⟨j, rfl⟩ := Int.eq_ofNat_of_zero_le (show 0 ≤ i by simp [inR] at hr; omega)
    have hj : j < n := by simp [inR] at hr; omega
    have eD : casD n L j was l = decide (L.getD j .zero = was) := by simp [casD, he]
    have eL : casL n L j was l = if L.getD j .zero = was then L.set j l else L := by simp [casL, eD]
    rw [eD, eL, he]
    rw [he] at HR
    have b0 : (0 : Int) ≤ (j : Int) := by omega
    have b1 : (j : Int) < (n : Int) := by omega
    have HJ : Hid (j < n) := hj
    obtain ⟨x, hx⟩ : ∃ x, L.getD j .zero = x := ⟨_, rfl⟩
    have HX := Lib.hid hx
    rw [hx]
    clear eD eL hr q he hj hx
    by_cases hxw : x = was
    · subst hxw
      rw [if_pos rfl, decide_eq_true rfl]
      have s1 : (x.v == x.v) = true := by simp
      have s2 : (x.h == x.h) = true := by simp
      have s3 : (x.o == x.o) = true := by simp
      go_enter Try.func50, Try.ntmps50
      go_wp2_with (fail)
      refine (HR.out _ _).mono ?_
      rintro e w1 ⟨rfl, hb⟩
      have B1 : Below w.heap.size w w1 := (((Below.refl _ _).alloc (Nat.le_refl _) _).alloc (by simp) _).trans (hb.mono (by omega))
      have y0 : w1.cell? ⟨w.heap.size, 0, none⟩ = some (.int .u64 x.v) := (hb.cell (by simp; omega)).trans (by simp [cas1])
      have y1 : w1.cell? ⟨w.heap.size, 1, none⟩ = some (.bool x.h) := (hb.cell (by simp; omega)).trans (by simp [cas1])
      have y2 : w1.cell? ⟨w.heap.size, 2, none⟩ = some (.int .i64 x.o) := (hb.cell (by simp; omega)).trans (by simp [cas1])
      have x0 : w1.cell? ⟨w.heap.size + 1, 0, none⟩ = some (.int .u64 l.v) := (hb.cell (by simp)).trans (by simp [World.cell?_alloc_at])
      have x1 : w1.cell? ⟨w.heap.size + 1, 1, none⟩ = some (.bool l.h) := (hb.cell (by simp)).trans (by simp [World.cell?_alloc_at])
      have x2 : w1.cell? ⟨w.heap.size + 1, 2, none⟩ = some (.int .i64 l.o) := (hb.cell (by simp)).trans (by simp [World.cell?_alloc_at])
      have q1 := QQ.out.below h0 B1
      obtain ⟨c', h1'⟩ := q1.c1
      have cv := q1.row.cv j HJ.out
      have ch := q1.row.ch j HJ.out
      have co := q1.row.co j HJ.out
      rw [HX.out] at cv ch co
      have fv := q1.row.fz (j * 3) (by have := HJ.out; omega)
      have fh := q1.row.fz (j * 3 + 1) (by have := HJ.out; omega)
      have fo := q1.row.fz (j * 3 + 2) (by have := HJ.out; omega)
      have n1 : ¬ w.heap.size = r := by omega
      have n2 : ¬ r = w.heap.size := by omega
      have n1' : ¬ w.heap.size + 1 = r := by omega
      have n2' : ¬ r = w.heap.size + 1 := by omega
      have n3 : ¬ t = r := q1.ne
      have n4 : ¬ r = t := fun e => q1.ne e.symm
      have Q1 := Lib.hid q1
      have BB := Lib.hid B1
      clear hb B1 q1
      go_wp2
      go_quiet (fail)
      go_wp2
      go_region
      all_goals go_wp2
      all_goals go_ret2
      all_goals refine ⟨rfl, ?_, ?_⟩
      · exact (Q1.out.put j HJ.out l).below h0 ⟨rfl, rfl, rfl, Nat.le_refl _, fun _ _ => rfl⟩
      · exact ⟨(((Only.of_below BB.out).trans (only_putL [r] w1 r j l (by simp)))).os, (((Only.of_below BB.out).trans (only_putL [r] w1 r j l (by simp)))).tape, (((Only.of_below BB.out).trans (only_putL [r] w1 r j l (by simp)))).output, (((Only.of_below BB.out).trans (only_putL [r] w1 r j l (by simp)))).size, (((Only.of_below BB.out).trans (only_putL [r] w1 r j l (by simp)))).block⟩
    · rw [if_neg hxw, decide_eq_false hxw]
      have K3 := Lib.hid (beq_lk_no hxw)
      have K := Lib.hid hxw
      clear hxw
      go_enter Try.func50, Try.ntmps50
      go_wp2_with (fail)
      refine (HR.out _ _).mono ?_
      rintro e w1 ⟨rfl, hb⟩
      have B1 : Below w.heap.size w w1 := (((Below.refl _ _).alloc (Nat.le_refl _) _).alloc (by simp) _).trans (hb.mono (by omega))
      have y0 : w1.cell? ⟨w.heap.size, 0, none⟩ = some (.int .u64 was.v) := (hb.cell (by simp; omega)).trans (by simp [cas1])
      have y1 : w1.cell? ⟨w.heap.size, 1, none⟩ = some (.bool was.h) := (hb.cell (by simp; omega)).trans (by simp [cas1])
      have y2 : w1.cell? ⟨w.heap.size, 2, none⟩ = some (.int .i64 was.o) := (hb.cell (by simp; omega)).trans (by simp [cas1])
      have x0 : w1.cell? ⟨w.heap.size + 1, 0, none⟩ = some (.int .u64 l.v) := (hb.cell (by simp)).trans (by simp [World.cell?_alloc_at])
      have x1 : w1.cell? ⟨w.heap.size + 1, 1, none⟩ = some (.bool l.h) := (hb.cell (by simp)).trans (by simp [World.cell?_alloc_at])
      have x2 : w1.cell? ⟨w.heap.size + 1, 2, none⟩ = some (.int .i64 l.o) := (hb.cell (by simp)).trans (by simp [World.cell?_alloc_at])
      have q1 := QQ.out.below h0 B1
      obtain ⟨c', h1'⟩ := q1.c1
      have cv := q1.row.cv j HJ.out
      have ch := q1.row.ch j HJ.out
      have co := q1.row.co j HJ.out
      rw [HX.out] at cv ch co
      have fv := q1.row.fz (j * 3) (by have := HJ.out; omega)
      have fh := q1.row.fz (j * 3 + 1) (by have := HJ.out; omega)
      have fo := q1.row.fz (j * 3 + 2) (by have := HJ.out; omega)
      have n1 : ¬ w.heap.size = r := by omega
      have n2 : ¬ r = w.heap.size := by omega
      have n1' : ¬ w.heap.size + 1 = r := by omega
      have n2' : ¬ r = w.heap.size + 1 := by omega
      have n3 : ¬ t = r := q1.ne
      have n4 : ¬ r = t := fun e => q1.ne e.symm
      have Q1 := Lib.hid q1
      have BB := Lib.hid B1
      clear hb B1 q1
      rcases K3.out with k1 | ⟨k0, k1⟩ | ⟨k00, k0, k1⟩
      · go_wp2
        go_quiet (fail)
        go_wp2
        go_ret2
        exact ⟨rfl, Q1.out.below h0 (below_drewN (Below.refl _ _) _), (Only.of_below BB.out).drewN _⟩
      · rw [k0] at cv
        clear k0
        have s1 : (was.v == was.v) = true := by simp
        go_wp2
        go_quiet (fail)
        go_wp2
        go_ret2
        exact ⟨rfl, Q1.out.below h0 (below_drewN (Below.refl _ _) _), (Only.of_below BB.out).drewN _⟩
      · rw [k00] at cv
        rw [k0] at ch
        clear k00 k0
        have s1 : (was.v == was.v) = true := by simp
        have s2 : (was.h == was.h) = true := by simp
        go_wp2
        go_quiet (fail)
        go_wp2
        go_ret2
        exact ⟨rfl, Q1.out.below h0 (below_drewN (Below.refl _ _) _), (Only.of_below BB.out).drewN _⟩
  · have hd : (refE n i l == 0) = false := by simpa using he
    have e1 : casD n L i was l = false := by simp [casD, he]
    have e2 : casL n L i was l = L := by simp [casL, e1]
    rw [e1, e2]
    clear e1 e2 he q
    generalize refE n i l = x at *
    go_enter Try.func50, Try.ntmps50
    go_wp2_with (first | (go_at_call 63; (with_reducible refine (HR.out _ _).mono ?_); rintro e w1 ⟨rfl, hb⟩; have HB := Lib.hid hb; clear hb))
    go_ret2
    have B1 : Below w.heap.size w w1 := (((Below.refl _ _).alloc (Nat.le_refl _) _).alloc (by simp) _).trans (HB.out.mono (by omega))
    exact ⟨rfl, QQ.out.below h0 B1, Only.of_below B1⟩
end Go.Proofs.Ytmfakfopedneoaa
