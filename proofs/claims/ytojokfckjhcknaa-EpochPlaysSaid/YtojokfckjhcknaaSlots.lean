/- Contracts of package epoch: slots of any number, in words of the slots' row. -/

import Derived.Test.YtojokfckjhcknaaEpoch
import Derived.Laws.OwnMore
namespace Go.Proofs.Ytojokfckjhcknaa
open Go.ChangeShapes Go.WideShapes Go.ChangeAt Go.RowKit
open Go.ChangeMaps (open_string shut_string)
set_option linter.unusedVariables false
/-- Of what was there only the blocks bs may have turned. -/
structure Only (bs : List Nat) (w w' : World) : Prop where
  os : w'.os = w.os
  tape : w'.tape = w.tape
  output : w'.output = w.output
  size : w.heap.size ≤ w'.heap.size
  block : ∀ k, k < w.heap.size → k ∉ bs → w'.heap[k]? = w.heap[k]?
theorem Only.refl (bs : List Nat) (w : World) : Only bs w w := ⟨rfl, rfl, rfl, Nat.le_refl _, fun _ _ _ => rfl⟩
theorem Only.alloc {bs : List Nat} {a w : World} (h : Only bs a w) (o : Obj) : Only bs a (w.alloc o) :=
  ⟨h.os, h.tape, h.output, by have := h.size; simp; omega, fun k hk h1 => (Below.heap_alloc w o k (by have := h.size; omega)).trans (h.block k hk h1)⟩
theorem Only.drewN {bs : List Nat} {a w : World} (h : Only bs a w) (n : Nat) : Only bs a (w.drewN n) := ⟨h.os, h.tape, h.output, h.size, h.block⟩
theorem Only.drew {bs : List Nat} {a w : World} (h : Only bs a w) : Only bs a w.drew := ⟨h.os, h.tape, h.output, h.size, h.block⟩
theorem Only.set {bs : List Nat} {a w : World} (h : Only bs a w) (b o : Nat) (hb : b ∈ bs) (v : Value) : Only bs a (w.setCell ⟨b, o, none⟩ v) :=
  ⟨h.os, h.tape, h.output, by have := h.size; simp; omega, fun k hk h1 => (Below.heap_setCell w _ v k (fun e => h1 (e ▸ hb))).trans (h.block k hk h1)⟩
theorem Only.setNew {bs : List Nat} {a w : World} (h : Only bs a w) (x : Addr) (hx : a.heap.size ≤ x.block) (v : Value) : Only bs a (w.setCell x v) :=
  ⟨h.os, h.tape, h.output, by have := h.size; simp; omega, fun k hk h1 => (Below.heap_setCell w _ v k (by omega)).trans (h.block k hk h1)⟩
theorem Only.trans {bs : List Nat} {a b c : World} (h : Only bs a b) (g : Only bs b c) : Only bs a c :=
  ⟨g.os.trans h.os, g.tape.trans h.tape, g.output.trans h.output, Nat.le_trans h.size g.size, fun k hk h1 => (g.block k (by have := h.size; omega) h1).trans (h.block k hk h1)⟩
theorem Only.mono {bs cs : List Nat} {a b : World} (h : Only bs a b) (hs : ∀ x ∈ bs, x ∈ cs) : Only cs a b :=
  ⟨h.os, h.tape, h.output, h.size, fun k hk h1 => h.block k hk (fun e => h1 (hs k e))⟩
/-- Blocks that are new to the first world need not be listed. -/
theorem Only.fresh {bs cs : List Nat} {a b : World} (h : Only bs a b) (hs : ∀ x ∈ bs, x ∈ cs ∨ a.heap.size ≤ x) : Only cs a b :=
  ⟨h.os, h.tape, h.output, h.size, fun k hk h1 => h.block k hk (fun e => by rcases hs k e with h2 | h2; exact h1 h2; omega)⟩
theorem Only.then {bs : List Nat} {a b c : World} (h : Only bs a b) (g : Below b.heap.size b c) : Only bs a c :=
  ⟨g.os.trans h.os, g.tape.trans h.tape, g.output.trans h.output, Nat.le_trans h.size g.size, fun k hk h1 => (g.block k (by have := h.size; omega)).trans (h.block k hk h1)⟩
theorem Only.of_below {bs : List Nat} {a b : World} (g : Below a.heap.size a b) : Only bs a b := (Only.refl bs a).then g
theorem Only.below {bs : List Nat} {B : Nat} {a w : World} (h : Only bs a w) (hb : ∀ b ∈ bs, B ≤ b) (hB : B ≤ a.heap.size) : Below B a w :=
  ⟨h.os, h.tape, h.output, h.size, fun k hk => h.block k (by omega) (fun e => by have := hb k e; omega)⟩
theorem Only.cell {bs : List Nat} {a w : World} (h : Only bs a w) {b o : Nat} (hb : b < a.heap.size) (h1 : b ∉ bs) : w.cell? ⟨b, o, none⟩ = a.cell? ⟨b, o, none⟩ := World.cell?_of_block (h.block b hb h1)
theorem Only.frozen {bs : List Nat} {a w : World} (h : Only bs a w) {b o : Nat} (hb : b < a.heap.size) (h1 : b ∉ bs) : w.frozen? ⟨b, o, none⟩ = a.frozen? ⟨b, o, none⟩ := World.frozen?_of_block (h.block b hb h1)
theorem keepO {bs : List Nat} {W w1 : World} (hg : Only bs W w1) : ∀ {L : List (Addr × Value)}, (∀ p ∈ L, p.1.block ∉ bs) → AllC W L → AllC w1 L
  | [], _, _ => trivial
  | p :: _, hn, h => ⟨(World.cell?_of_block (hg.block p.1.block (World.block_lt_of_cell? W _ h.1) (hn p (by simp)))).trans h.1, keepO hg (fun q hq => hn q (by simp [hq])) h.2⟩

/-- A row of words in block r. -/
structure URow (w : World) (r n : Nat) (xs : List Int) : Prop where
  len : xs.length = n
  c : ∀ i, i < n → w.cell? ⟨r, i, none⟩ = some (.int .u64 (xs.getD i 0))
  f : ∀ i, i < n → w.frozen? ⟨r, i, none⟩ = false
/-- A struct of one field, a row of words, stands at block h, its words in block r. -/
structure VecAt (w : World) (h r n : Nat) (xs : List Int) : Prop where
  hs : ∃ c, w.cell? ⟨h, 0, none⟩ = some (.slice (some ⟨r, 0, none⟩) n c)
  row : URow w r n xs
  ne : h ≠ r
  lt : h < w.heap.size
theorem URow.lt {w : World} {r n : Nat} {xs : List Int} (q : URow w r n xs) (h0 : 0 < n) : r < w.heap.size := World.block_lt_of_cell? w _ (q.c 0 h0)
theorem URow.put {w : World} {r n : Nat} {xs : List Int} (q : URow w r n xs) (i : Nat) (hi : i < n) (v : Int) : URow (w.setCell ⟨r, i, none⟩ (.int .u64 v)) r n (xs.set i v) := by
  refine ⟨by simp [q.len], fun j hj => ?_, fun j hj => (World.frozen?_setCell _ _ _ _).trans (q.f j hj)⟩
  by_cases e : i = j
  · subst e
    rw [World.cell?_setCell_same _ _ _ (q.c i hi)]
    simp [List.getD_eq_getElem?_getD, List.getElem?_set, q.len, hi]
  · rw [World.cell?_setCell_other _ _ _ _ (by simp [e]), q.c j hj]
    simp [List.getD_eq_getElem?_getD, List.getElem?_set, e]
theorem URow.below {w w' : World} {r n : Nat} {xs : List Int} (q : URow w r n xs) (hb : Below w.heap.size w w') : URow w' r n xs :=
  ⟨q.len, fun i hi => (hb.cell (by exact World.block_lt_of_cell? w _ (q.c i hi))).trans (q.c i hi), fun i hi => (hb.frozen (by exact World.block_lt_of_cell? w _ (q.c i hi))).trans (q.f i hi)⟩
theorem URow.only {w w' : World} {r n : Nat} {xs : List Int} {bs : List Nat} (q : URow w r n xs) (h : Only bs w w') (hr : r ∉ bs) : URow w' r n xs :=
  ⟨q.len, fun i hi => (h.cell (World.block_lt_of_cell? w _ (q.c i hi)) hr).trans (q.c i hi), fun i hi => (h.frozen (World.block_lt_of_cell? w _ (q.c i hi)) hr).trans (q.f i hi)⟩
theorem URow.own {w : World} {g n cap base : Nat} {e : TypeId} {xs : List Int} (h : w.ownsRow base e 1 (.slice (some ⟨g, 0, none⟩) n cap) n (xs.map (Value.int .u64))) (hl : xs.length = n) : URow w g n xs :=
  ⟨hl, fun i hi => by rw [h.cellAt i (by omega), List.getElem?_map, List.getD_eq_getElem?_getD, List.getElem?_eq_getElem (by omega)]; rfl, fun i _ => h.frozenAt i⟩
theorem VecAt.below {w w' : World} {h r n : Nat} {xs : List Int} (q : VecAt w h r n xs) (hb : Below w.heap.size w w') : VecAt w' h r n xs :=
  ⟨q.hs.imp fun _ e => (hb.cell (by exact q.lt)).trans e, q.row.below hb, q.ne, Nat.lt_of_lt_of_le q.lt hb.size⟩
theorem VecAt.only {w w' : World} {h r n : Nat} {xs : List Int} {bs : List Nat} (q : VecAt w h r n xs) (hb : Only bs w w') (h1 : h ∉ bs) (h2 : r ∉ bs) : VecAt w' h r n xs :=
  ⟨q.hs.imp fun _ e => (hb.cell q.lt h1).trans e, q.row.only hb h2, q.ne, Nat.lt_of_lt_of_le q.lt hb.size⟩
theorem VecAt.put {w : World} {h r n : Nat} {xs : List Int} (q : VecAt w h r n xs) (i : Nat) (hi : i < n) (v : Int) : VecAt (w.setCell ⟨r, i, none⟩ (.int .u64 v)) h r n (xs.set i v) :=
  ⟨q.hs.imp fun _ e => (World.cell?_setCell_other _ _ _ _ (by simp [Ne.symm q.ne])).trans e, q.row.put i hi v, q.ne, by simpa using q.lt⟩
def inV (lo : Int) (n : Nat) (i : Int) : Bool := decide (lo ≤ i) && decide (i < (n : Int))
theorem inV_nat {lo : Int} {n : Nat} {i : Int} (h : inV lo n i = true) (h0 : 0 ≤ lo) : ∃ j : Nat, i = j ∧ j < n ∧ lo ≤ (j : Int) := by
  simp [inV] at h
  exact ⟨i.toNat, by omega, by omega, by omega⟩
def ldW (lo : Int) (n : Nat) (xs : List Int) (i : Int) : Int := if inV lo n i then xs.getD i.toNat 0 else 0
def ldE (lo : Int) (n : Nat) (i : Int) : Int := if inV lo n i then 0 else 2
def stW (lo : Int) (n : Nat) (xs : List Int) (i v : Int) : List Int := if inV lo n i then xs.set i.toNat v else xs
def VecPost (w : World) (h r n : Nat) (xs : List Int) (v : Value) (e : Ending) (w' : World) : Prop := e = .returned v ∧ VecAt w' h r n xs ∧ Only [r] w w'
def AllPost (w : World) (n : Nat) (xs : List Int) (e : Ending) (w' : World) : Prop := ∃ g cap, e = .returned (.slice (some ⟨g, 0, none⟩) n cap) ∧ w'.ownsRow w.heap.size 26 1 (.slice (some ⟨g, 0, none⟩) n cap) n (xs.map (Value.int .u64)) ∧ Below w.heap.size w w'
theorem map_oneCell (xs : List Int) (k : IntKind) : ∀ u ∈ xs.map (Value.int k), u.oneCell' = true := fun u hu => by simp at hu; obtain ⟨x, _, rfl⟩ := hu; rfl
theorem URow.news {w : World} {r n : Nat} {xs : List Int} (q : URow w r n xs) : ∀ j u, (xs.map (Value.int .u64))[j]? = some u → w.cell? ((⟨r, 0, none⟩ : Addr).add j) = some u := fun j u hj => by
  have hlt : j < n := by have := (List.getElem?_eq_some_iff.1 hj).1; simp at this; have := q.len; omega
  have e : (⟨r, 0, none⟩ : Addr).add j = ⟨r, j, none⟩ := by unfold Addr.add; split <;> simp_all
  rw [e, q.c j hlt, ← hj, List.getElem?_map, List.getD_eq_getElem?_getD, List.getElem?_eq_getElem (by have := q.len; omega)]
  rfl

theorem sl_has (h r n : Nat) (i : Int) {c : Nat} (w : World) (hs : w.cell? ⟨h, 0, none⟩ = some (.slice (some ⟨r, 0, none⟩) n c)) : Calls Try.prog 18 #[ptr h, .int .i64 i] w fun e w' => e = .returned (.bool (inV 0 n i)) ∧ w = w' := by
  by_cases h0 : 0 ≤ i
  · by_cases h1 : i < (n : Int)
    · go_enter Try.func18, Try.ntmps18
      go_wp2
      go_ret
      exact ⟨by simp [inV, h0, h1], rfl⟩
    · have h2 : decide (i < (n : Int)) = false := by simpa using h1
      clear h1
      go_enter Try.func18, Try.ntmps18
      go_wp2
      go_ret
      exact ⟨by simp [inV, h0, h2], rfl⟩
  · have h2 : decide (0 ≤ i) = false := by simpa using h0
    clear h0
    go_enter Try.func18, Try.ntmps18
    go_wp2
    go_ret
    exact ⟨by simp [inV, h2], rfl⟩
theorem sl_load (h r n : Nat) (i : Int) (xs : List Int) (w : World) (q : VecAt w h r n xs) (hn : n ≤ 1000000) : Calls Try.prog 20 #[ptr h, .int .i64 i] w fun e w' => e = .returned (.tuple #[.int .u64 (ldW 0 n xs i), .int .i64 (ldE 0 n i)]) ∧ w = w' := by
  obtain ⟨c, hs⟩ := q.hs
  have R := Lib.hid (sl_has h r n i w hs)
  cases hv : inV 0 n i
  · have e1 : ldW 0 n xs i = 0 := by simp [ldW, hv]
    have e2 : ldE 0 n i = 2 := by simp [ldE, hv]
    rw [e1, e2]
    rw [hv] at R
    clear e1 e2 hv q
    go_enter Try.func20, Try.ntmps20
    go_wp2_with (first | (go_at_call 18; (with_reducible refine R.out.mono ?_); rintro e w' ⟨rfl, rfl⟩))
    go_ret2
    exact ⟨rfl, rfl⟩
  · obtain ⟨j, rfl, hj, _⟩ := inV_nat hv (by decide)
    have e1 : ldW 0 n xs j = xs.getD j 0 := by simp [ldW, hv]
    have e2 : ldE 0 n j = 0 := by simp [ldE, hv]
    rw [e1, e2]
    rw [hv] at R
    have hc := q.row.c j hj
    have b0 : (0 : Int) ≤ (j : Int) := by omega
    have b1 : (j : Int) < (n : Int) := by omega
    generalize xs.getD j 0 = x at *
    clear e1 e2 hv q hj
    go_enter Try.func20, Try.ntmps20
    go_wp2_with (first | (go_at_call 18; (with_reducible refine R.out.mono ?_); rintro e w' ⟨rfl, rfl⟩))
    go_ret2
    exact ⟨rfl, rfl⟩
theorem sl_store (h r n : Nat) (i v : Int) (xs : List Int) (w : World) (q : VecAt w h r n xs) (hn : n ≤ 1000000) : Calls Try.prog 8 #[ptr h, .int .i64 i, .int .u64 v] w (VecPost w h r n (stW 0 n xs i v) (.int .i64 (ldE 0 n i))) := by
  obtain ⟨c, hs⟩ := q.hs
  have R := Lib.hid (sl_has h r n i w hs)
  cases hv : inV 0 n i
  · have e1 : stW 0 n xs i v = xs := by simp [stW, hv]
    have e2 : ldE 0 n i = 2 := by simp [ldE, hv]
    rw [e1, e2]
    rw [hv] at R
    have Q := Lib.hid q
    clear e1 e2 hv q
    go_enter Try.func8, Try.ntmps8
    go_wp2_with (first | (go_at_call 18; (with_reducible refine R.out.mono ?_); rintro e w' ⟨rfl, rfl⟩))
    go_ret
    exact ⟨rfl, Q.out, Only.refl _ _⟩
  · obtain ⟨j, rfl, hj, _⟩ := inV_nat hv (by decide)
    have e1 : stW 0 n xs j v = xs.set j v := by simp [stW, hv]
    have e2 : ldE 0 n j = 0 := by simp [ldE, hv]
    rw [e1, e2]
    rw [hv] at R
    have hc := q.row.c j hj
    have hf := q.row.f j hj
    have b0 : (0 : Int) ≤ (j : Int) := by omega
    have b1 : (j : Int) < (n : Int) := by omega
    have Q := Lib.hid (q.put j hj v)
    clear e1 e2 hv q hj
    go_enter Try.func8, Try.ntmps8
    go_wp2_with (first | (go_at_call 18; (with_reducible refine R.out.mono ?_); rintro e w' ⟨rfl, rfl⟩))
    go_ret
    exact ⟨rfl, Q.out, (Only.refl _ _).set _ _ (by simp) _⟩
theorem sl_len (s r n : Nat) {c : Nat} (w : World) (hs : w.cell? ⟨s, 0, none⟩ = some (.slice (some ⟨r, 0, none⟩) n c)) : Calls Try.prog 11 #[ptr s] w fun e w' => e = .returned (.int .i64 n) ∧ w = w' := by
  go_enter Try.func11, Try.ntmps11
  go_wp2
  go_ret
  exact ⟨rfl, rfl⟩
theorem sl_all (h r n : Nat) (xs : List Int) (w : World) (q : VecAt w h r n xs) (h0 : 0 < n) (hn : n ≤ 1000000) :
    Calls Try.prog 12 #[ptr h] w (AllPost w n xs) := by
  obtain ⟨c, hs⟩ := q.hs
  have R := Lib.hid (clone_row r 0 n c (xs.map (Value.int .u64)) w (by simpa using q.row.len) hn q.row.news (map_oneCell xs _))
  clear q
  go_enter Try.func12, Try.ntmps12
  go_wp2_with (first | (go_at_call 19; (with_reducible refine R.out.mono ?_); rintro e w' ⟨v, rfl, hown, hb⟩; have HO := Lib.hid hown; have HB := Lib.hid hb; clear hown hb))
  go_ret
  rcases HO.out.2 with ⟨_, rfl⟩ | ⟨g, cap, cur, rfl, _⟩
  · omega
  · exact ⟨g, cap, rfl, HO.out, HB.out⟩
theorem sl_copy (h r n : Nat) (xs : List Int) (w : World) (q : VecAt w h r n xs) (h0 : 0 < n) (hn : n ≤ 1000000) :
    Calls Try.prog 13 #[ptr h] w fun e w' => ∃ h' r', e = .returned (ptr h') ∧ w.heap.size ≤ h' ∧ w.heap.size ≤ r' ∧ VecAt w' h' r' n xs ∧ Below w.heap.size w w' := by
  have R := Lib.hid (sl_all h r n xs w q h0 hn)
  have HL := Lib.hid q.row.len
  clear q
  go_enter Try.func13, Try.ntmps13
  go_wp2_with (first | (go_at_call 12; (with_reducible refine R.out.mono ?_); rintro e w1 ⟨g, cap, rfl, hown, hb⟩; have HO := Lib.hid hown; have HB := Lib.hid hb; clear hown hb))
  go_ret
  have hg := HO.out.lt g rfl
  exact ⟨_, g, rfl, HB.out.size, hg.1, ⟨⟨cap, by simp⟩, (URow.own (HO.out.alloc _) HL.out), by omega, by simp⟩, HB.out.alloc HB.out.size _⟩
def c4 (n : Int) : Int := if n < 1 then 1 else if 4 < n then 4 else n
theorem c4_bd (n : Int) : 1 ≤ c4 n ∧ c4 n ≤ 4 := by unfold c4; split; omega; split <;> omega
theorem mk_row (m : Int) (h0 : 0 ≤ m) (h1 : m ≤ 1000) (w : World) : (Instr.makeSlice 31 (.int .i64 m) (.int .i64 m)).run Try.prog w = .ok (.slice (some ⟨w.heap.size, 0, none⟩) m.toNat m.toNat) (w.alloc (.cells (madeCells #[.int .u64 0] m.toNat) 26)) := by
  obtain ⟨i, hi, hz0, hz1, hz2⟩ := info_parts info_clone
  have := run_make (P := Try.prog) w 31 26 i (.int .u64 0) Try.underlying31 hi hz0 .i64 .i64 m m h0 (Int.le_refl _) (by rw [hz2]; omega) (by omega)
  rw [hz1, show (Value.int .u64 0).cells = #[.int .u64 0] from rfl] at this
  simpa using this
theorem urow_made (w : World) (N : Nat) (o : TypeId) : URow (w.alloc (.cells (madeCells #[.int .u64 0] N) o)) w.heap.size N (List.replicate N 0) := by
  refine ⟨by simp, fun i hi => ?_, fun i hi => ?_⟩
  · rw [World.cell?_alloc_new]
    simp [madeCells, hi, List.getD_eq_getElem?_getD, List.getElem?_replicate, Nat.mod_one]
  · rw [World.frozen?_alloc_new]
def newS (w : World) (n : Int) : World := (w.alloc (.cells (madeCells #[.int .u64 0] (c4 n).toNat) 26)).alloc (.cells #[.slice (some ⟨w.heap.size, 0, none⟩) (c4 n).toNat (c4 n).toNat] 44)
theorem sl_new (n : Int) (w : World) : Calls Try.prog 7 #[.int .i64 n] w fun e w' => e = .returned (ptr (w.heap.size + 1)) ∧ w' = newS w n := by
  have MK := Lib.hid mk_row
  by_cases h1 : n < 1
  · have e : c4 n = 1 := by simp [c4, h1]
    have hmk := fun w => MK.out 1 (by decide) (by decide) w
    have E := Lib.hid e
    have hm : ¬ (1 : Int) < n := by omega
    have hm2 : n ≤ 1 := by omega
    clear e
    go_enter Try.func7, Try.ntmps7
    go_wp2
    go_ret
    exact ⟨rfl, by rw [newS, E.out]; rfl⟩
  · by_cases h2 : 4 < n
    · have e : c4 n = 4 := by simp [c4, h1, h2]
      have hmk := fun w => MK.out 4 (by decide) (by decide) w
      have E := Lib.hid e
      have hm : (1 : Int) < n := by omega
      clear e
      go_enter Try.func7, Try.ntmps7
      go_wp2
      go_ret
      exact ⟨rfl, by rw [newS, E.out]; rfl⟩
    · have e : c4 n = n := by simp [c4, h1, h2]
      have hmk := fun w => MK.out n (by omega) (by omega) w
      have E := Lib.hid e
      clear e
      by_cases h3 : n = 1
      · subst h3
        go_enter Try.func7, Try.ntmps7
        go_wp2
        go_ret
        exact ⟨rfl, by rw [newS, E.out]; rfl⟩
      · have hm : (1 : Int) < n := by omega
        have hm3 : ¬ n < 1 := by omega
        clear h3
        go_enter Try.func7, Try.ntmps7
        go_wp2
        go_ret
        exact ⟨rfl, by rw [newS, E.out]⟩
theorem below_newS (w : World) (n : Int) : Below w.heap.size w (newS w n) := ((Below.refl _ _).alloc (Nat.le_refl _) _).alloc (by simp) _
theorem vec_newS (w : World) (n : Int) : VecAt (newS w n) (w.heap.size + 1) w.heap.size (c4 n).toNat (List.replicate (c4 n).toNat 0) :=
  ⟨⟨(c4 n).toNat, by simp [newS, World.cell?_alloc_at]⟩, (urow_made w _ _).below ((Below.refl _ _).alloc (Nat.le_refl _) _), by omega, by simp [newS]⟩
theorem spassed_any (s r n : Nat) (xs : List Int) (st : Int) (w : World) (q : VecAt w s r n xs) (hn : n ≤ 1000000) (hb : ∀ i, i < n → 0 ≤ xs.getD i 0) (h0 : 0 ≤ st) :
    Calls Try.prog 10 #[ptr s, .int .u64 st] w fun e w' => e = .returned (.bool (psd (fun i => xs.getD i 0) st n)) ∧ w = w' := by
  obtain ⟨c, hs⟩ := q.hs
  have R := Lib.hid (passed_row r 0 n c (fun i => xs.getD i 0) st w (by omega) hb h0 (fun i hi => by rw [Nat.zero_add]; exact q.row.c i hi))
  clear hb q
  generalize psd (fun i => xs.getD i 0) st n = x at *
  go_enter Try.func10, Try.ntmps10
  go_wp2_with (first | (go_at_call 14; (with_reducible refine R.out.mono ?_); rintro e w' ⟨rfl, rfl⟩))
  go_ret
  exact ⟨rfl, rfl⟩
end Go.Proofs.Ytojokfckjhcknaa
