/- The reference's memory: what stands where; its locks, one operation. -/

import Derived.Test.YtmfakfopedneoaaStripeD
namespace Go.Proofs.Ytmfakfopedneoaa
open Go.ChangeShapes Go.WideShapes Go.ChangeAt Go.RowKit
open Go.ChangeMaps (open_string shut_string)
set_option linter.unusedVariables false
/-- A row of words in block r. -/
structure URow (w : World) (r n : Nat) (xs : List Int) : Prop where
  len : xs.length = n
  c : ∀ i, i < n → w.cell? ⟨r, i, none⟩ = some (.int .u64 (xs.getD i 0))
  f : ∀ i, i < n → w.frozen? ⟨r, i, none⟩ = false
/-- A struct of one field, a row of words, stands at block h, its words in block r. -/
structure VecAt (w : World) (h r n : Nat) (xs : List Int) : Prop where
  hs : ∃ c, w.cell? ⟨h, 0, none⟩ = some (.slice (some ⟨r, 0, none⟩) n c)
  row : URow w r n xs
  ne : h ≠ r
  lt : h < w.heap.size
theorem URow.lt {w : World} {r n : Nat} {xs : List Int} (q : URow w r n xs) (h0 : 0 < n) : r < w.heap.size := World.block_lt_of_cell? w _ (q.c 0 h0)
theorem URow.put {w : World} {r n : Nat} {xs : List Int} (q : URow w r n xs) (i : Nat) (hi : i < n) (v : Int) : URow (w.setCell ⟨r, i, none⟩ (.int .u64 v)) r n (xs.set i v) := by
  refine ⟨by simp [q.len], fun j hj => ?_, fun j hj => (World.frozen?_setCell _ _ _ _).trans (q.f j hj)⟩
  by_cases e : i = j
  · subst e
    rw [World.cell?_setCell_same _ _ _ (q.c i hi)]
    simp [List.getD_eq_getElem?_getD, List.getElem?_set, q.len, hi]
  · rw [World.cell?_setCell_other _ _ _ _ (by simp [e]), q.c j hj]
    simp [List.getD_eq_getElem?_getD, List.getElem?_set, e]
theorem URow.below {w w' : World} {r n : Nat} {xs : List Int} (q : URow w r n xs) (hb : Below w.heap.size w w') : URow w' r n xs :=
  ⟨q.len, fun i hi => (hb.cell (by exact World.block_lt_of_cell? w _ (q.c i hi))).trans (q.c i hi), fun i hi => (hb.frozen (by exact World.block_lt_of_cell? w _ (q.c i hi))).trans (q.f i hi)⟩
theorem URow.only {w w' : World} {r n : Nat} {xs : List Int} {bs : List Nat} (q : URow w r n xs) (h : Only bs w w') (hr : r ∉ bs) : URow w' r n xs :=
  ⟨q.len, fun i hi => (h.cell (World.block_lt_of_cell? w _ (q.c i hi)) hr).trans (q.c i hi), fun i hi => (h.frozen (World.block_lt_of_cell? w _ (q.c i hi)) hr).trans (q.f i hi)⟩
theorem URow.own {w : World} {g n cap base : Nat} {e : TypeId} {xs : List Int} (h : w.ownsRow base e 1 (.slice (some ⟨g, 0, none⟩) n cap) n (xs.map (Value.int .u64))) (hl : xs.length = n) : URow w g n xs :=
  ⟨hl, fun i hi => by rw [h.cellAt i (by omega), List.getElem?_map, List.getD_eq_getElem?_getD, List.getElem?_eq_getElem (by omega)]; rfl, fun i _ => h.frozenAt i⟩
theorem VecAt.below {w w' : World} {h r n : Nat} {xs : List Int} (q : VecAt w h r n xs) (hb : Below w.heap.size w w') : VecAt w' h r n xs :=
  ⟨q.hs.imp fun _ e => (hb.cell (by exact q.lt)).trans e, q.row.below hb, q.ne, Nat.lt_of_lt_of_le q.lt hb.size⟩
theorem VecAt.only {w w' : World} {h r n : Nat} {xs : List Int} {bs : List Nat} (q : VecAt w h r n xs) (hb : Only bs w w') (h1 : h ∉ bs) (h2 : r ∉ bs) : VecAt w' h r n xs :=
  ⟨q.hs.imp fun _ e => (hb.cell q.lt h1).trans e, q.row.only hb h2, q.ne, Nat.lt_of_lt_of_le q.lt hb.size⟩
theorem VecAt.put {w : World} {h r n : Nat} {xs : List Int} (q : VecAt w h r n xs) (i : Nat) (hi : i < n) (v : Int) : VecAt (w.setCell ⟨r, i, none⟩ (.int .u64 v)) h r n (xs.set i v) :=
  ⟨q.hs.imp fun _ e => (World.cell?_setCell_other _ _ _ _ (by simp [Ne.symm q.ne])).trans e, q.row.put i hi v, q.ne, by simpa using q.lt⟩
def inV (lo : Int) (n : Nat) (i : Int) : Bool := decide (lo ≤ i) && decide (i < (n : Int))
theorem inV_nat {lo : Int} {n : Nat} {i : Int} (h : inV lo n i = true) (h0 : 0 ≤ lo) : ∃ j : Nat, i = j ∧ j < n ∧ lo ≤ (j : Int) := by
  simp [inV] at h
  exact ⟨i.toNat, by omega, by omega, by omega⟩
def ldW (lo : Int) (n : Nat) (xs : List Int) (i : Int) : Int := if inV lo n i then xs.getD i.toNat 0 else 0
def ldE (lo : Int) (n : Nat) (i : Int) : Int := if inV lo n i then 0 else 2
def stW (lo : Int) (n : Nat) (xs : List Int) (i v : Int) : List Int := if inV lo n i then xs.set i.toNat v else xs
def VecPost (w : World) (h r n : Nat) (xs : List Int) (v : Value) (e : Ending) (w' : World) : Prop := e = .returned v ∧ VecAt w' h r n xs ∧ Only [r] w w'
theorem map_oneCell (xs : List Int) (k : IntKind) : ∀ u ∈ xs.map (Value.int k), u.oneCell' = true := fun u hu => by simp at hu; obtain ⟨x, _, rfl⟩ := hu; rfl
theorem URow.news {w : World} {r n : Nat} {xs : List Int} (q : URow w r n xs) : ∀ j u, (xs.map (Value.int .u64))[j]? = some u → w.cell? ((⟨r, 0, none⟩ : Addr).add j) = some u := fun j u hj => by
  have hlt : j < n := by have := (List.getElem?_eq_some_iff.1 hj).1; simp at this; have := q.len; omega
  have e : (⟨r, 0, none⟩ : Addr).add j = ⟨r, j, none⟩ := by unfold Addr.add; split <;> simp_all
  rw [e, q.c j hlt, ← hj, List.getElem?_map, List.getD_eq_getElem?_getD, List.getElem?_eq_getElem (by have := q.len; omega)]
  rfl

abbrev opV (k a old wd : Int) (was l : Lk) : Value := .agg #[.int .i64 k, .int .i64 a, .int .u64 old, .int .u64 wd, .int .u64 was.v, .bool was.h, .int .i64 was.o, .int .u64 l.v, .bool l.h, .int .i64 l.o]
abbrev opC (k a old wd : Int) (was l : Lk) : Array Value := #[.int .i64 k, .int .i64 a, .int .u64 old, .int .u64 wd, .int .u64 was.v, .bool was.h, .int .i64 was.o, .int .u64 l.v, .bool l.h, .int .i64 l.o]
abbrev ansV (wd : Int) (l : Lk) (d : Bool) (e : Int) : Value := .agg #[.int .u64 wd, .int .u64 l.v, .bool l.h, .int .i64 l.o, .bool d, .int .i64 e]
/-- Where a memory stands, and how long its rows are. -/
structure Bl where
  m : Nat
  bW : Nat
  bL : Nat
  bS : Nat
  nW : Nat
  nL : Nat
  nS : Nat
structure Ms where
  a : Int
  b : Int
  c : Int
  d : Int
  s : Int
  W : List Int
  L : List Lk
  N : Int
  S : List Int
  C : Int
structure MemAt (w : World) (B : Bl) (M : Ms) : Prop where
  c0 : w.cell? ⟨B.m, 0, none⟩ = some (.int .i64 M.a)
  c1 : w.cell? ⟨B.m, 1, none⟩ = some (.int .i64 M.b)
  c2 : w.cell? ⟨B.m, 2, none⟩ = some (.int .i64 M.c)
  c3 : w.cell? ⟨B.m, 3, none⟩ = some (.int .i64 M.d)
  c4 : w.cell? ⟨B.m, 4, none⟩ = some (.int .u64 M.s)
  c5 : ∃ c, w.cell? ⟨B.m, 5, none⟩ = some (.slice (some ⟨B.bW, 0, none⟩) B.nW c)
  c6 : ∃ c, w.cell? ⟨B.m, 6, none⟩ = some (.slice (some ⟨B.bL, 0, none⟩) B.nL c)
  c7 : w.cell? ⟨B.m, 7, none⟩ = some (.int .u64 M.N)
  c8 : ∃ c, w.cell? ⟨B.m, 8, none⟩ = some (.slice (some ⟨B.bS, 0, none⟩) B.nS c)
  c9 : w.cell? ⟨B.m, 9, none⟩ = some (.int .i64 M.C)
  fm : ∀ o, o < 10 → w.frozen? ⟨B.m, o, none⟩ = false
  rW : URow w B.bW B.nW M.W
  rL : LRow w B.bL B.nL M.L
  rS : URow w B.bS B.nS M.S
  h0 : 0 < B.nW ∧ 0 < B.nL ∧ 0 < B.nS ∧ B.nW ≤ 1000 ∧ B.nL ≤ 1000 ∧ B.nS ≤ 1000
  ne : B.m ≠ B.bW ∧ B.m ≠ B.bL ∧ B.m ≠ B.bS ∧ B.bW ≠ B.bL ∧ B.bW ≠ B.bS ∧ B.bL ≠ B.bS
  lt : B.m < w.heap.size
abbrev Bl.all (B : Bl) : List Nat := [B.m, B.bW, B.bL, B.bS]
theorem MemAt.below {w w' : World} {B : Bl} {M : Ms} (q : MemAt w B M) (hb : Below w.heap.size w w') : MemAt w' B M :=
  ⟨(hb.cell q.lt).trans q.c0, (hb.cell q.lt).trans q.c1, (hb.cell q.lt).trans q.c2, (hb.cell q.lt).trans q.c3, (hb.cell q.lt).trans q.c4, q.c5.imp fun _ e => (hb.cell q.lt).trans e, q.c6.imp fun _ e => (hb.cell q.lt).trans e, (hb.cell q.lt).trans q.c7, q.c8.imp fun _ e => (hb.cell q.lt).trans e, (hb.cell q.lt).trans q.c9, fun o ho => (hb.frozen q.lt).trans (q.fm o ho), q.rW.below hb, q.rL.below q.h0.2.1 hb, q.rS.below hb, q.h0, q.ne, Nat.lt_of_lt_of_le q.lt hb.size⟩
theorem MemAt.only {w w' : World} {B : Bl} {M : Ms} {bs : List Nat} (q : MemAt w B M) (h : Only bs w w') (h1 : B.m ∉ bs) (h2 : B.bW ∉ bs) (h3 : B.bL ∉ bs) (h4 : B.bS ∉ bs) : MemAt w' B M :=
  ⟨(h.cell q.lt h1).trans q.c0, (h.cell q.lt h1).trans q.c1, (h.cell q.lt h1).trans q.c2, (h.cell q.lt h1).trans q.c3, (h.cell q.lt h1).trans q.c4, q.c5.imp fun _ e => (h.cell q.lt h1).trans e, q.c6.imp fun _ e => (h.cell q.lt h1).trans e, (h.cell q.lt h1).trans q.c7, q.c8.imp fun _ e => (h.cell q.lt h1).trans e, (h.cell q.lt h1).trans q.c9, fun o ho => (h.frozen q.lt h1).trans (q.fm o ho), q.rW.only h h2, q.rL.only q.h0.2.1 h h3, q.rS.only h h4, q.h0, q.ne, Nat.lt_of_lt_of_le q.lt h.size⟩
theorem MemAt.lts {w : World} {B : Bl} {M : Ms} (q : MemAt w B M) : B.m < w.heap.size ∧ B.bW < w.heap.size ∧ B.bL < w.heap.size ∧ B.bS < w.heap.size :=
  ⟨q.lt, q.rW.lt q.h0.1, World.block_lt_of_cell? w _ (q.rL.cv 0 q.h0.2.1), q.rS.lt q.h0.2.2.1⟩
/-- The same memory, its lock j another one. -/
theorem MemAt.putL {w : World} {B : Bl} {M : Ms} (q : MemAt w B M) (j : Nat) (hj : j < B.nL) (l : Lk) : MemAt (putL w B.bL j l) B { M with L := M.L.set j l } := by
  have s : ∀ (w : World) (a b c : Nat) (v : Value), B.bL ≠ c → (w.setCell ⟨B.bL, a, none⟩ v).cell? ⟨c, b, none⟩ = w.cell? ⟨c, b, none⟩ := fun w a b c v h => World.cell?_setCell_other _ _ _ _ (by simp [h])
  have n1 : B.bL ≠ B.m := fun e => q.ne.2.1 e.symm
  have k : ∀ b c, B.bL ≠ c → (Go.Proofs.Ytmfakfopedneoaa.putL w B.bL j l).cell? ⟨c, b, none⟩ = w.cell? ⟨c, b, none⟩ := fun b c h => by rw [Go.Proofs.Ytmfakfopedneoaa.putL, s _ _ _ _ _ h, s _ _ _ _ _ h, s _ _ _ _ _ h]
  have f : ∀ b c, (Go.Proofs.Ytmfakfopedneoaa.putL w B.bL j l).frozen? ⟨c, b, none⟩ = w.frozen? ⟨c, b, none⟩ := fun b c => by simp [Go.Proofs.Ytmfakfopedneoaa.putL, World.frozen?_setCell]
  exact ⟨(k _ _ n1).trans q.c0, (k _ _ n1).trans q.c1, (k _ _ n1).trans q.c2, (k _ _ n1).trans q.c3, (k _ _ n1).trans q.c4, q.c5.imp fun _ e => (k _ _ n1).trans e, q.c6.imp fun _ e => (k _ _ n1).trans e, (k _ _ n1).trans q.c7, q.c8.imp fun _ e => (k _ _ n1).trans e, (k _ _ n1).trans q.c9, fun o ho => (f _ _).trans (q.fm o ho),
    ⟨q.rW.len, fun i hi => (k _ _ (fun e => q.ne.2.2.2.1 e.symm)).trans (q.rW.c i hi), fun i hi => (f _ _).trans (q.rW.f i hi)⟩, q.rL.put j hj l, ⟨q.rS.len, fun i hi => (k _ _ (fun e => q.ne.2.2.2.2.2 e)).trans (q.rS.c i hi), fun i hi => (f _ _).trans (q.rS.f i hi)⟩, q.h0, q.ne, by simpa [Go.Proofs.Ytmfakfopedneoaa.putL] using q.lt⟩
/-- One more is counted. -/
theorem MemAt.count {w : World} {B : Bl} {M : Ms} (q : MemAt w B M) (c : Int) : MemAt (w.setCell ⟨B.m, 9, none⟩ (.int .i64 c)) B { M with C := c } := by
  have k : ∀ b o, ¬ (B.m = b ∧ 9 = o) → (w.setCell ⟨B.m, 9, none⟩ (.int .i64 c)).cell? ⟨b, o, none⟩ = w.cell? ⟨b, o, none⟩ := fun b o h => World.cell?_setCell_other _ _ _ _ (by simp; intro e1 e2; exact h ⟨e1, e2⟩)
  have f : ∀ b o, (w.setCell ⟨B.m, 9, none⟩ (.int .i64 c)).frozen? ⟨b, o, none⟩ = w.frozen? ⟨b, o, none⟩ := fun b o => World.frozen?_setCell _ _ _ _
  exact ⟨(k _ _ (by simp)).trans q.c0, (k _ _ (by simp)).trans q.c1, (k _ _ (by simp)).trans q.c2, (k _ _ (by simp)).trans q.c3, (k _ _ (by simp)).trans q.c4, q.c5.imp fun _ e => (k _ _ (by simp)).trans e, q.c6.imp fun _ e => (k _ _ (by simp)).trans e, (k _ _ (by simp)).trans q.c7, q.c8.imp fun _ e => (k _ _ (by simp)).trans e, World.cell?_setCell_same _ _ _ q.c9, fun o ho => (f _ _).trans (q.fm o ho),
    ⟨q.rW.len, fun i hi => (k _ _ (fun e => q.ne.1 e.1)).trans (q.rW.c i hi), fun i hi => (f _ _).trans (q.rW.f i hi)⟩,
    ⟨q.rL.len, fun i hi => (k _ _ (fun e => q.ne.2.1 e.1)).trans (q.rL.cv i hi), fun i hi => (k _ _ (fun e => q.ne.2.1 e.1)).trans (q.rL.ch i hi), fun i hi => (k _ _ (fun e => q.ne.2.1 e.1)).trans (q.rL.co i hi), fun i hi => (f _ _).trans (q.rL.fz i hi)⟩,
    ⟨q.rS.len, fun i hi => (k _ _ (fun e => q.ne.2.2.1 e.1)).trans (q.rS.c i hi), fun i hi => (f _ _).trans (q.rS.f i hi)⟩, q.h0, q.ne, by simpa using q.lt⟩
def MemPost (w : World) (B : Bl) (M : Ms) (v : Value) (e : Ending) (w' : World) : Prop := e = .returned v ∧ MemAt w' B M ∧ Only B.all w w'
theorem isL_any2 (v : Int) (h : Bool) (o : Int) (w : World) : Calls Try.prog 65 #[.agg #[.int .u64 v, .bool h, .int .i64 o]] w fun e w' => e = .returned (.bool (isL ⟨v, h, o⟩)) ∧ w' = w.alloc (.cells #[.int .u64 v, .bool h, .int .i64 o] 28) := by
  by_cases hv : v < 4611686018427387904
  · cases h
    · by_cases ho : o = 0
      · subst ho
        go_enter Try.func65, Try.ntmps65
        go_wp2
        go_ret
        exact ⟨by simp [isL, hv], rfl⟩
      · have ho2 : (o == 0) = false := by simpa using ho
        clear ho
        go_enter Try.func65, Try.ntmps65
        go_wp2
        go_ret
        exact ⟨by simp [isL, hv, ho2], rfl⟩
    · have e : isL ⟨v, true, o⟩ = mh o := by simp [isL, hv]
      rw [e]
      clear e
      by_cases h1 : 0 ≤ o
      · by_cases h2 : o < 4
        · have e : mh o = true := by simp [mh, h1, h2]
          have E := Lib.hid e
          clear e
          go_enter Try.func65, Try.ntmps65
          go_wp2
          go_ret
          exact ⟨by rw [E.out]; rfl, rfl⟩
        · have e : mh o = false := by simp [mh, h2]
          have h3 : decide (o < 4) = false := by simpa using h2
          have E := Lib.hid e
          clear e h2
          go_enter Try.func65, Try.ntmps65
          go_wp2
          go_ret
          exact ⟨by rw [E.out]; rfl, rfl⟩
      · have e : mh o = false := by simp [mh, h1]
        have h3 : decide (0 ≤ o) = false := by simpa using h1
        have E := Lib.hid e
        clear e h1
        go_enter Try.func65, Try.ntmps65
        go_wp2
        go_ret
        exact ⟨by rw [E.out]; rfl, rfl⟩
  · have hv2 : 4611686018427387904 ≤ v := by omega
    go_enter Try.func65, Try.ntmps65
    go_wp2
    go_ret
    exact ⟨by simp [isL]; omega, rfl⟩
end Go.Proofs.Ytmfakfopedneoaa
