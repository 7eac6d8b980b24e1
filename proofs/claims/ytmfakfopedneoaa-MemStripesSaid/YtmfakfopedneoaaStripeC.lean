/- Contracts of package stripe: what a lock may be; Load, Store, Cas. -/

import Derived.Test.YtmfakfopedneoaaStripeB
namespace Go.Proofs.Ytmfakfopedneoaa
open Go.ChangeShapes Go.WideShapes Go.ChangeAt Go.RowKit
open Go.ChangeMaps (open_string shut_string)
set_option linter.unusedVariables false
/-- Of what was there only the blocks bs may have turned. -/
structure Only (bs : List Nat) (w w' : World) : Prop where
  os : w'.os = w.os
  tape : w'.tape = w.tape
  output : w'.output = w.output
  size : w.heap.size ≤ w'.heap.size
  block : ∀ k, k < w.heap.size → k ∉ bs → w'.heap[k]? = w.heap[k]?
theorem Only.refl (bs : List Nat) (w : World) : Only bs w w := ⟨rfl, rfl, rfl, Nat.le_refl _, fun _ _ _ => rfl⟩
theorem Only.alloc {bs : List Nat} {a w : World} (h : Only bs a w) (o : Obj) : Only bs a (w.alloc o) :=
  ⟨h.os, h.tape, h.output, by have := h.size; simp; omega, fun k hk h1 => (Below.heap_alloc w o k (by have := h.size; omega)).trans (h.block k hk h1)⟩
theorem Only.drewN {bs : List Nat} {a w : World} (h : Only bs a w) (n : Nat) : Only bs a (w.drewN n) := ⟨h.os, h.tape, h.output, h.size, h.block⟩
theorem Only.drew {bs : List Nat} {a w : World} (h : Only bs a w) : Only bs a w.drew := ⟨h.os, h.tape, h.output, h.size, h.block⟩
theorem Only.set {bs : List Nat} {a w : World} (h : Only bs a w) (b o : Nat) (hb : b ∈ bs) (v : Value) : Only bs a (w.setCell ⟨b, o, none⟩ v) :=
  ⟨h.os, h.tape, h.output, by have := h.size; simp; omega, fun k hk h1 => (Below.heap_setCell w _ v k (fun e => h1 (e ▸ hb))).trans (h.block k hk h1)⟩
theorem Only.setNew {bs : List Nat} {a w : World} (h : Only bs a w) (x : Addr) (hx : a.heap.size ≤ x.block) (v : Value) : Only bs a (w.setCell x v) :=
  ⟨h.os, h.tape, h.output, by have := h.size; simp; omega, fun k hk h1 => (Below.heap_setCell w _ v k (by omega)).trans (h.block k hk h1)⟩
theorem Only.trans {bs : List Nat} {a b c : World} (h : Only bs a b) (g : Only bs b c) : Only bs a c :=
  ⟨g.os.trans h.os, g.tape.trans h.tape, g.output.trans h.output, Nat.le_trans h.size g.size, fun k hk h1 => (g.block k (by have := h.size; omega) h1).trans (h.block k hk h1)⟩
theorem Only.mono {bs cs : List Nat} {a b : World} (h : Only bs a b) (hs : ∀ x ∈ bs, x ∈ cs) : Only cs a b :=
  ⟨h.os, h.tape, h.output, h.size, fun k hk h1 => h.block k hk (fun e => h1 (hs k e))⟩
/-- Blocks that are new to the first world need not be listed. -/
theorem Only.fresh {bs cs : List Nat} {a b : World} (h : Only bs a b) (hs : ∀ x ∈ bs, x ∈ cs ∨ a.heap.size ≤ x) : Only cs a b :=
  ⟨h.os, h.tape, h.output, h.size, fun k hk h1 => h.block k hk (fun e => by rcases hs k e with h2 | h2; exact h1 h2; omega)⟩
theorem Only.then {bs : List Nat} {a b c : World} (h : Only bs a b) (g : Below b.heap.size b c) : Only bs a c :=
  ⟨g.os.trans h.os, g.tape.trans h.tape, g.output.trans h.output, Nat.le_trans h.size g.size, fun k hk h1 => (g.block k (by have := h.size; omega)).trans (h.block k hk h1)⟩
theorem Only.of_below {bs : List Nat} {a b : World} (g : Below a.heap.size a b) : Only bs a b := (Only.refl bs a).then g
theorem Only.below {bs : List Nat} {B : Nat} {a w : World} (h : Only bs a w) (hb : ∀ b ∈ bs, B ≤ b) (hB : B ≤ a.heap.size) : Below B a w :=
  ⟨h.os, h.tape, h.output, h.size, fun k hk => h.block k (by omega) (fun e => by have := hb k e; omega)⟩
theorem Only.cell {bs : List Nat} {a w : World} (h : Only bs a w) {b o : Nat} (hb : b < a.heap.size) (h1 : b ∉ bs) : w.cell? ⟨b, o, none⟩ = a.cell? ⟨b, o, none⟩ := World.cell?_of_block (h.block b hb h1)
theorem Only.frozen {bs : List Nat} {a w : World} (h : Only bs a w) {b o : Nat} (hb : b < a.heap.size) (h1 : b ∉ bs) : w.frozen? ⟨b, o, none⟩ = a.frozen? ⟨b, o, none⟩ := World.frozen?_of_block (h.block b hb h1)
theorem keepO {bs : List Nat} {W w1 : World} (hg : Only bs W w1) : ∀ {L : List (Addr × Value)}, (∀ p ∈ L, p.1.block ∉ bs) → AllC W L → AllC w1 L
  | [], _, _ => trivial
  | p :: _, hn, h => ⟨(World.cell?_of_block (hg.block p.1.block (World.block_lt_of_cell? W _ h.1) (hn p (by simp)))).trans h.1, keepO hg (fun q hq => hn q (by simp [hq])) h.2⟩

deriving instance DecidableEq for Lk
def mh (o : Int) : Bool := decide (0 ≤ o) && decide (o < 4)
def isL (l : Lk) : Bool := decide (l.v < 4611686018427387904) && (if l.h then mh l.o else l.o == 0)
theorem mayHold_any (o : Int) (w : World) : Calls Try.prog 67 #[.int .i64 o] w fun e w' => e = .returned (.bool (mh o)) ∧ w = w' := by
  by_cases h : 0 ≤ o
  · by_cases h2 : o < 4
    · go_enter Try.func67, Try.ntmps67
      go_wp2
      go_ret
      exact ⟨by simp [mh, h, h2], rfl⟩
    · go_enter Try.func67, Try.ntmps67
      go_wp2
      go_ret
      exact ⟨by simp [mh, h, h2], rfl⟩
  · go_enter Try.func67, Try.ntmps67
    go_wp2
    go_ret
    exact ⟨by simp [mh]; omega, rfl⟩
theorem is_any (v : Int) (h : Bool) (o : Int) (w : World) : Calls Try.prog 66 #[.agg #[.int .u64 v, .bool h, .int .i64 o]] w fun e w' => e = .returned (.bool (isL ⟨v, h, o⟩)) ∧ w' = w.alloc (.cells #[.int .u64 v, .bool h, .int .i64 o] 28) := by
  by_cases hv : v < 4611686018427387904
  · cases h
    · go_enter Try.func66, Try.ntmps66
      go_wp2
      go_ret
      exact ⟨by simp [isL, hv], rfl⟩
    · have HM := Lib.hid (mayHold_any o)
      have e : isL ⟨v, true, o⟩ = mh o := by simp [isL, hv]
      rw [e]
      clear e
      generalize mh o = x at *
      go_enter Try.func66, Try.ntmps66
      go_wp2_with (first | (go_at_call 67; (with_reducible refine (HM.out _).mono ?_); rintro e w' ⟨rfl, rfl⟩))
      go_ret
      exact ⟨rfl, rfl⟩
  · have hv2 : 4611686018427387904 ≤ v := by omega
    go_enter Try.func66, Try.ntmps66
    go_wp2
    go_ret
    exact ⟨by simp [isL]; omega, rfl⟩
def inR (n : Nat) (i : Int) : Bool := decide (0 ≤ i) && decide (i < (n : Int))
theorem has_any (t r n : Nat) (i : Int) {c : Nat} (w : World) (h1 : w.cell? ⟨t, 1, none⟩ = some (.slice (some ⟨r, 0, none⟩) n c)) : Calls Try.prog 62 #[ptr t, .int .i64 i] w fun e w' => e = .returned (.bool (inR n i)) ∧ w = w' := by
  by_cases h : 0 ≤ i
  · by_cases h2 : i < (n : Int)
    · go_enter Try.func62, Try.ntmps62
      go_wp2
      go_ret
      exact ⟨by simp [inR, h, h2], rfl⟩
    · have h3 : decide (i < (n : Int)) = false := by simpa using h2
      clear h2
      go_enter Try.func62, Try.ntmps62
      go_wp2
      go_ret
      exact ⟨by simp [inR, h, h3], rfl⟩
  · have h3 : decide (0 ≤ i) = false := by simpa using h
    clear h
    go_enter Try.func62, Try.ntmps62
    go_wp2
    go_ret
    exact ⟨by simp [inR, h3], rfl⟩
def refE (n : Nat) (i : Int) (l : Lk) : Int := if inR n i then (if isL l then 0 else 1) else 2
theorem refuse_any (t r n : Nat) (i : Int) (l : Lk) {c : Nat} (w : World) (h1 : w.cell? ⟨t, 1, none⟩ = some (.slice (some ⟨r, 0, none⟩) n c)) (hl : t < w.heap.size) : Calls Try.prog 63 #[ptr t, .int .i64 i, lkV l] w fun e w' => e = .returned (.int .i64 (refE n i l)) ∧ Below w.heap.size w w' := by
  have hne : ¬ t = w.heap.size := by omega
  have hne2 : ¬ w.heap.size = t := by omega
  have HH : Hid (∀ w : World, w.cell? ⟨t, 1, none⟩ = some (.slice (some ⟨r, 0, none⟩) n c) → Calls Try.prog 62 #[ptr t, .int .i64 i] w fun e w' => e = .returned (.bool (inR n i)) ∧ w = w') := fun w h => has_any t r n i w h
  have HI : Hid (∀ w : World, Calls Try.prog 66 #[lkV l] w fun e w' => e = .returned (.bool (isL l)) ∧ w' = w.alloc (.cells #[.int .u64 l.v, .bool l.h, .int .i64 l.o] 28)) := fun w => is_any l.v l.h l.o w
  cases hr : inR n i
  · have e : refE n i l = 2 := by simp [refE, hr]
    rw [e]
    rw [hr] at HH
    clear e hr
    go_enter Try.func63, Try.ntmps63
    go_wp2_with (first | (go_at_call 62; (with_reducible refine (HH.out _ (by simp [h1, hne, cas1])).mono ?_); rintro e w' ⟨rfl, rfl⟩))
    go_ret
    exact ⟨rfl, (Below.refl _ _).alloc (Nat.le_refl _) _⟩
  · cases hi : isL l
    · have e : refE n i l = 1 := by simp [refE, hr, hi]
      rw [e]
      rw [hr] at HH
      rw [hi] at HI
      clear e hr hi
      go_enter Try.func63, Try.ntmps63
      go_wp2_with (first | (go_at_call 62; (with_reducible refine (HH.out _ (by simp [h1, hne, cas1])).mono ?_); rintro e w' ⟨rfl, rfl⟩) | (go_at_call 66; (with_reducible refine (HI.out _).mono ?_); rintro e w' ⟨rfl, rfl⟩))
      go_ret
      exact ⟨rfl, ((Below.refl _ _).alloc (Nat.le_refl _) _).alloc (by simp) _⟩
    · have e : refE n i l = 0 := by simp [refE, hr, hi]
      rw [e]
      rw [hr] at HH
      rw [hi] at HI
      clear e hr hi
      go_enter Try.func63, Try.ntmps63
      go_wp2_with (first | (go_at_call 62; (with_reducible refine (HH.out _ (by simp [h1, hne, cas1])).mono ?_); rintro e w' ⟨rfl, rfl⟩) | (go_at_call 66; (with_reducible refine (HI.out _).mono ?_); rintro e w' ⟨rfl, rfl⟩))
      go_ret
      exact ⟨rfl, ((Below.refl _ _).alloc (Nat.le_refl _) _).alloc (by simp) _⟩
def loadL (n : Nat) (L : List Lk) (i : Int) : Lk := if inR n i then L.getD i.toNat .zero else .zero
def loadE (n : Nat) (i : Int) : Int := if inR n i then 0 else 2
theorem load_any (t r n : Nat) (wd : Int) (L : List Lk) (i : Int) (w : World) (q : TabAt w t r n wd L) (hn : n ≤ 1000) : Calls Try.prog 49 #[ptr t, .int .i64 i] w fun e w' => e = .returned (.tuple #[lkV (loadL n L i), .int .i64 (loadE n i)]) ∧ Below w.heap.size w w' := by
  obtain ⟨c, h1⟩ := q.c1
  have hl := q.lt
  have hne : ¬ t = w.heap.size := by omega
  have hne2 : ¬ w.heap.size = t := by omega
  have HH : Hid (∀ w : World, w.cell? ⟨t, 1, none⟩ = some (.slice (some ⟨r, 0, none⟩) n c) → Calls Try.prog 62 #[ptr t, .int .i64 i] w fun e w' => e = .returned (.bool (inR n i)) ∧ w = w') := fun w h => has_any t r n i w h
  cases hr : inR n i
  · have e1 : loadL n L i = .zero := by simp [loadL, hr]
    have e2 : loadE n i = 2 := by simp [loadE, hr]
    rw [e1, e2]
    rw [hr] at HH
    clear e1 e2 hr q
    unfold Lk.zero
    go_enter Try.func49, Try.ntmps49
    go_wp2_with (first | (go_at_call 62; (with_reducible refine (HH.out _ (by simp [h1, hne, cas1])).mono ?_); rintro e w' ⟨rfl, rfl⟩))
    refine bodyPost_ret (v := .tuple #[.agg #[.int .u64 0, .bool false, .int .i64 0], .int .i64 2]) (by simp [results, Try.results49, go_sem]) rfl ⟨rfl, ?_⟩
    repeat (first | exact Below.refl _ _ | refine Below.setCell ?_ (by first | (simp; done) | (simp; omega)) _ | refine Below.alloc ?_ (by first | (simp; done) | (simp; omega)) _ | refine Below.drew ?_ | (refine Below.trans ?_ (Below.mono (by assumption) ?_); rotate_left; (first | (simp; done) | (simp; omega) | (simp [*]; omega))))
  · obtain ⟨j, rfl⟩ := Int.eq_ofNat_of_zero_le (show 0 ≤ i by simp [inR] at hr; omega)
    have hj : j < n := by simp [inR] at hr; omega
    have e1 : loadL n L j = L.getD j .zero := by simp [loadL, hr]
    have e2 : loadE n j = 0 := by simp [loadE, hr]
    rw [e1, e2]
    rw [hr] at HH
    have cv := q.row.cv j hj
    have ch := q.row.ch j hj
    have co := q.row.co j hj
    have b0 : (0 : Int) ≤ (j : Int) := by omega
    have b1 : (j : Int) < (n : Int) := by omega
    generalize L.getD j .zero = l at *
    clear e1 e2 hr q hj
    go_enter Try.func49, Try.ntmps49
    go_wp2_with (first | (go_at_call 62; (with_reducible refine (HH.out _ (by simp [h1, hne, cas1])).mono ?_); rintro e w' ⟨rfl, rfl⟩))
    refine bodyPost_ret (v := .tuple #[lkV l, .int .i64 0]) (by simp [results, Try.results49, go_sem]) rfl ⟨rfl, ?_⟩
    repeat (first | exact Below.refl _ _ | refine Below.setCell ?_ (by first | (simp; done) | (simp; omega)) _ | refine Below.alloc ?_ (by first | (simp; done) | (simp; omega)) _ | refine Below.drew ?_ | (refine Below.trans ?_ (Below.mono (by assumption) ?_); rotate_left; (first | (simp; done) | (simp; omega) | (simp [*]; omega))))
end Go.Proofs.Ytmfakfopedneoaa
