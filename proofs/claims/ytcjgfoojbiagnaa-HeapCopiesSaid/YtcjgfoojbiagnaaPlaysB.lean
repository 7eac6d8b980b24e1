/- HeapPlays: the walk of the law. -/

import Derived.Test.YtcjgfoojbiagnaaPlays
import Derived.Deep.Slices
import Derived.Deep.Fields
import Derived.ChangeSame
namespace Go.Proofs.Ytcjgfoojbiagnaa
open Go.ChangeShapes Go.WideShapes Go.ChangeAt Go.RowKit Go.Deep
set_option linter.unusedVariables false
theorem add_none (b off k : Nat) : (⟨b, off, none⟩ : Addr).add k = ⟨b, off + k, none⟩ := by unfold Addr.add; split <;> simp_all
/-- A slice of structs that came in, each field of one cell: it is empty, or its cells lie in one row of a block that is there. -/
theorem rows_open {H : Type} {enc : TypeId × Value → H} {P : Program} {w : World} {t e : TypeId} {fs : Array Field} {f0 : Field} {a : Option Addr} {len cap : Nat} {d : DataW H} {ps : List MemPlace}
    (ht : P.underlying t = some (.slice e)) (he : P.underlying e = some (.struct fs)) (hone : oneCellFields P fs = true) (hC : P.cellsOf e = fs.size) (hf0 : fs[0]? = some f0)
    (h : DataW.Trod enc P w 0 (fun _ => true) true t (.slice a len cap) d ps) :
    len = 0 ∨ ∃ b off, a = some ⟨b, off, none⟩ ∧ b < w.heap.size ∧ len ≤ maxLen ∧
      ∀ i, i < len → ∀ (j : Nat) (f : Field), fs[j]? = some f → ∃ (v : Value) (y : DataW H × List MemPlace) (n : Nat), w.cell? ⟨b, off + i * fs.size + j, none⟩ = some v ∧ DataW.trod enc P w 0 (fun _ => true) true n f.type [v] = some y := by
  obtain ⟨fuel, hf⟩ := h
  rcases Go.Deep.open_slice ht hf with ⟨hcs, _⟩ | ⟨a', len', cap', m, n, D, Pl, hcs, _, hl, hm, hmm, _, hi⟩
  · simp [Value.cells] at hcs
    exact .inl hcs.2.1
  · simp [Value.cells] at hcs
    obtain ⟨rfl, rfl, rfl⟩ := hcs
    by_cases hz : len = 0
    · exact .inl hz
    right
    have hmc : m = cap := by simpa using hmm
    have key : ∀ i, i < len → ∀ (j : Nat) (f : Field), fs[j]? = some f → ∃ (v : Value) (y : DataW H × List MemPlace) (n : Nat), w.cell? (a'.add (i * fs.size + j)) = some v ∧ DataW.trod enc P w 0 (fun _ => true) true n f.type [v] = some y := by
      intro i hil j f hj
      obtain ⟨cs', hc, ht'⟩ := hi i (by omega)
      obtain ⟨ys, n', _, _, hlen, hyl, hg⟩ := DataW.trod_struct he ht'
      rw [hC] at hc hlen
      obtain ⟨_, _, hat⟩ := World.cells?_some hc
      obtain ⟨ho, hk⟩ := hone_of hone j f hj
      have hjl : j < fs.size := (Array.getElem?_eq_some_iff.1 hj).1
      have h1 := hg j f hj
      rw [ho, hk] at h1
      have hlt : j < cs'.length := by omega
      have e1 : (cs'.drop j).take 1 = [cs'[j]] := by
        rw [List.drop_eq_getElem_cons hlt]
        rfl
      have hy : j < ys.length := by omega
      rw [e1, List.getElem?_eq_getElem hy] at h1
      refine ⟨cs'[j], _, n', ?_, h1⟩
      rw [← Go.Deep.add_add, hat j hjl, List.getElem?_eq_getElem hlt]
    obtain ⟨b, off, spot⟩ := a'
    obtain ⟨v, y, n1, hv, _⟩ := key 0 (by omega) 0 f0 hf0
    have hspot : spot = none := by simpa [Addr.add] using World.cell?_spot hv
    subst hspot
    rw [add_none] at hv
    refine ⟨b, off, rfl, World.block_lt_of_cell? w _ hv, by omega, fun i hil j f hj => ?_⟩
    obtain ⟨v', y', n2, hv', hy'⟩ := key i hil j f hj
    exact ⟨v', y', n2, by rw [add_none, ← Nat.add_assoc] at hv'; exact hv', hy'⟩
/-- What a cell tells, read as a number, as a flag. -/
def rdI (w : World) (a : Addr) : Int := match w.cell? a with | some (.int _ n) => n | _ => 0
def rdB (w : World) (a : Addr) : Bool := match w.cell? a with | some (.bool b) => b | _ => false
theorem cell_rdI {H : Type} {enc : TypeId × Value → H} {P : Program} {w : World} {t : TypeId} {k : IntKind} {a : Addr} (ht : P.underlying t = some (.int k))
    (h : ∃ (v : Value) (y : DataW H × List MemPlace) (n : Nat), w.cell? a = some v ∧ DataW.trod enc P w 0 (fun _ => true) true n t [v] = some y) : w.cell? a = some (.int k (rdI w a)) ∧ (Lit.int k (rdI w a)).wf = true := by
  obtain ⟨v, y, n, hc, hy⟩ := h
  obtain ⟨x, e, _, wf⟩ := DataW.trod_int ht hy
  simp only [List.cons.injEq, and_true] at e
  subst e
  have e2 : rdI w a = x := by simp [rdI, hc]
  rw [e2]
  exact ⟨hc, wf⟩
theorem cell_rdB {H : Type} {enc : TypeId × Value → H} {P : Program} {w : World} {t : TypeId} {a : Addr} (ht : P.underlying t = some .bool)
    (h : ∃ (v : Value) (y : DataW H × List MemPlace) (n : Nat), w.cell? a = some v ∧ DataW.trod enc P w 0 (fun _ => true) true n t [v] = some y) : w.cell? a = some (.bool (rdB w a)) := by
  obtain ⟨v, y, n, hc, hy⟩ := h
  obtain ⟨x, e, _⟩ := DataW.trod_bool ht hy
  simp only [List.cons.injEq, and_true] at e
  subst e
  have e2 : rdB w a = x := by simp [rdB, hc]
  rw [e2]
  exact hc
theorem wf_u64 {n : Int} (h : (Lit.int .u64 n).wf = true) : 0 ≤ n ∧ n ≤ 18446744073709551615 := by simpa [Lit.wf, IntKind.min, IntKind.max, IntKind.signed, IntKind.bits] using h
theorem wf_u8 {n : Int} (h : (Lit.int .u8 n).wf = true) : 0 ≤ n ∧ n ≤ 255 := by simpa [Lit.wf, IntKind.min, IntKind.max, IntKind.signed, IntKind.bits] using h
theorem wf_i64 {n : Int} (h : (Lit.int .i64 n).wf = true) : -9223372036854775808 ≤ n ∧ n ≤ 9223372036854775807 := by simpa [Lit.wf, IntKind.min, IntKind.max, IntKind.signed, IntKind.bits] using h

def AskArg (w : World) (v : Value) : Prop := (∃ a cap, v = .slice a 0 cap) ∨ ∃ b off len cap S A V, v = .slice (some ⟨b, off, none⟩) len cap ∧ len ≤ 9223372036854775807 ∧ Asks w b off len S A V
theorem asks_open {H : Type} {enc : TypeId × Value → H} {w : World} {a : Option Addr} {len cap : Nat} {d : DataW H} {ps : List MemPlace}
    (h : DataW.Trod enc Try.prog w 0 (fun _ => true) true 34 (.slice a len cap) d ps) : AskArg w (.slice a len cap) := by
  rcases rows_open Try.underlying34 Try.underlying45 (by kernel_rfl) (by kernel_rfl) rfl h with rfl | ⟨b, off, rfl, hb, hm, hr⟩
  · exact .inl ⟨_, _, rfl⟩
  · have r0 := fun i hi => cell_rdB Try.underlying4 (hr i hi 0 _ rfl)
    have r1 := fun i hi => cell_rdI Try.underlying3 (hr i hi 1 _ rfl)
    have r2 := fun i hi => cell_rdI Try.underlying26 (hr i hi 2 _ rfl)
    exact .inr ⟨b, off, len, cap, _, _, _, rfl, hm, hb, fun i hi => r0 i hi, fun i hi => (r1 i hi).1, fun i hi => (r2 i hi).1, fun i hi => wf_u64 (r2 i hi).2⟩
theorem asked (h r v n cv : Nat) (xs : List Int) (sv : Value) (w0 w : World) (h0 : 0 < n) (hn : n ≤ 1000) (hR : RowAt w h r n xs) (hW : WRow w v n xs) (ha : AskArg w0 sv) (hb : Below w0.heap.size w0 w)
    (hr : w0.heap.size ≤ r) (hv : w0.heap.size ≤ v) (hrv : r ≠ v) (hhv : v ≠ h) :
    Calls Try.prog 13 #[ptr h, .slice (some ⟨v, 0, none⟩) n cv, sv] w (LoopPost h r v n w) := by
  rcases ha with ⟨a, cap, rfl⟩ | ⟨b, off, len, cap, S, A, V, rfl, hl, hx⟩
  · exact asked_empty h r v n cv xs a cap w h0 hn hR hW
  · have := hx.lt
    exact asked_row h r v n cv xs b off len cap S A V w h0 hn hl hR hW ⟨Nat.lt_of_lt_of_le hx.lt hb.size, fun i hi => (hb.cell hx.lt).trans (hx.cs i hi), fun i hi => (hb.cell hx.lt).trans (hx.ca i hi), fun i hi => (hb.cell hx.lt).trans (hx.cv i hi), hx.bv⟩ hrv hhv (by omega) (by omega)
theorem held_any (n : Int) (w : World) : Calls Try.prog 14 #[.int .i64 n, .int .i64 32, .int .i64 256] w fun e w' => e = .returned (.int .i64 (hv n)) ∧ w = w' := by
  by_cases h1 : n < 32
  · have e : hv n = 32 := by simp [hv, h1]
    rw [e]
    clear e
    go_enter Try.func14, Try.ntmps14
    go_wp2
    go_ret
    exact ⟨rfl, rfl⟩
  · by_cases h2 : 256 < n
    · have e : hv n = 256 := by simp [hv, h1, h2]
      rw [e]
      clear e
      go_enter Try.func14, Try.ntmps14
      go_wp2
      go_ret
      exact ⟨rfl, rfl⟩
    · have e : hv n = n := by simp [hv, h1, h2]
      rw [e]
      clear e
      go_enter Try.func14, Try.ntmps14
      go_wp2
      go_ret
      exact ⟨rfl, rfl⟩
theorem wrow_made (w : World) (N : Nat) : WRow (w.alloc (.cells (madeCells #[.int .u64 0] N) 26)) w.heap.size N (List.replicate N 0) := by
  refine ⟨fun i hi => ?_, fun i hi => ?_⟩
  · rw [World.cell?_alloc_new]
    simp [madeCells, hi, List.getD_eq_getElem?_getD, List.getElem?_replicate, Nat.mod_one]
  · rw [World.frozen?_alloc_new]
set_option maxRecDepth 100000 in
set_option maxHeartbeats 2000000 in
theorem plays_any (n : Int) (sv : Value) (w : World) (ha : AskArg w sv) : Calls Try.prog 4 #[.int .i64 n, sv] w fun e w' => e = .returned (.bool true) ∧ Below w.heap.size w w' := by
  have HA := Lib.hid ha
  have HV := Lib.hid (hv_bd n)
  have hmk : ∀ w : World, _ := fun w => mk_row (hv n) (by have := (hv_bd n).1; omega) (by have := (hv_bd n).2; omega) w
  clear ha
  go_enter Try.func4, Try.ntmps4
  go_wp2_with (first | (go_at_call 3; (with_reducible refine (runs_any _).mono ?_); rintro e w1 ⟨rfl, hb1⟩; have B1 : Below w.heap.size w w1 := (by refine Below.trans ?_ (hb1.mono (by first | (simp; done) | (have := (Below.refl 0 w).size; simp; omega))); repeat (first | exact Below.refl _ _ | assumption | refine Below.setCell ?_ (by first | (simp; done) | (have := (Below.refl 0 w).size; simp; omega)) _ | refine Below.alloc ?_ (by first | (simp; done) | (have := (Below.refl 0 w).size; simp; omega)) _ | refine Below.drew ?_)); clear hb1))
  go_wp2_with (first | (go_at_call 7; (with_reducible refine (new_any _ _).mono ?_); rintro e w0 ⟨rfl, hw0⟩; have HW := Lib.hid hw0; clear hw0))
  go_wp2_with (fail)
  have b32 := HV.out.1
  have b256 := HV.out.2
  have R0 : RowAt w0 (w1.heap.size + 1) w1.heap.size (hv n).toNat (List.replicate (hv n).toNat 0) := by rw [HW.out]; exact rowAt_newW w1 n
  have z0 : w0.heap.size = w1.heap.size + 1 + 1 := by rw [HW.out]; simp [newW]
  have B0 : Below w.heap.size w w0 := B1.trans (by rw [HW.out]; exact (below_newW w1 n).mono B1.size)
  have D := Lib.hid (asked (w1.heap.size + 1) w1.heap.size w0.heap.size (hv n).toNat (hv n).toNat _ sv w (w0.alloc (.cells (madeCells #[.int .u64 0] (hv n).toNat) 26)) (by omega) (by omega) (R0.below (by omega) (balloc _ _)) (wrow_made w0 _) HA.out (B0.alloc B0.size _) B1.size B0.size (by omega) (by omega))
  have Z := Lib.hid z0
  clear R0 z0 b32 b256
  go_wp2_with (first | (go_at_call 14; (with_reducible refine (held_any _ _).mono ?_); rintro e w' ⟨rfl, rfl⟩))
  go_wp2_with (first | (go_at_call 13; (with_reducible refine D.out.mono ?_); rintro e w3 ⟨rfl, hx⟩))
  go_ret
  obtain ⟨xs, _, _, t2⟩ := hx
  exact ⟨rfl, (B0.alloc B0.size _).trans (t2.below B1.size B0.size (by simp; have := B0.size; omega))⟩
end Go.Proofs.Ytcjgfoojbiagnaa
