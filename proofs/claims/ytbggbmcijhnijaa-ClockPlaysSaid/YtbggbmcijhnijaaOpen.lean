/- Asks that came in. -/

import Derived.Test.YtbggbmcijhnijaaRises
import Derived.Deep.Slices
import Derived.Deep.Fields
import Derived.ChangeSame
namespace Go.Proofs.Ytbggbmcijhnijaa
open Go.ChangeShapes Go.WideShapes Go.ChangeAt Go.RowKit Go.Deep

theorem add_none (b off k : Nat) : (⟨b, off, none⟩ : Addr).add k = ⟨b, off + k, none⟩ := by unfold Addr.add; split <;> simp_all
/-- A slice of structs that came in, each field of one cell: it is empty, or its cells lie in one row of a block that is there. -/
theorem rows_open {H : Type} {enc : TypeId × Value → H} {P : Program} {w : World} {t e : TypeId} {fs : Array Field} {f0 : Field} {a : Option Addr} {len cap : Nat} {d : DataW H} {ps : List MemPlace}
    (ht : P.underlying t = some (.slice e)) (he : P.underlying e = some (.struct fs)) (hone : oneCellFields P fs = true) (hC : P.cellsOf e = fs.size) (hf0 : fs[0]? = some f0)
    (h : DataW.Trod enc P w 0 (fun _ => true) true t (.slice a len cap) d ps) :
    len = 0 ∨ ∃ b off, a = some ⟨b, off, none⟩ ∧ b < w.heap.size ∧ len ≤ maxLen ∧
      ∀ i, i < len → ∀ (j : Nat) (f : Field), fs[j]? = some f → ∃ (v : Value) (y : DataW H × List MemPlace) (n : Nat), w.cell? ⟨b, off + i * fs.size + j, none⟩ = some v ∧ DataW.trod enc P w 0 (fun _ => true) true n f.type [v] = some y := by
  obtain ⟨fuel, hf⟩ := h
  rcases Go.Deep.open_slice ht hf with ⟨hcs, _⟩ | ⟨a', len', cap', m, n, D, Pl, hcs, _, hl, hm, hmm, _, hi⟩
  · simp [Value.cells] at hcs
    exact .inl hcs.2.1
  · simp [Value.cells] at hcs
    obtain ⟨rfl, rfl, rfl⟩ := hcs
    by_cases hz : len = 0
    · exact .inl hz
    right
    have hmc : m = cap := by simpa using hmm
    have key : ∀ i, i < len → ∀ (j : Nat) (f : Field), fs[j]? = some f → ∃ (v : Value) (y : DataW H × List MemPlace) (n : Nat), w.cell? (a'.add (i * fs.size + j)) = some v ∧ DataW.trod enc P w 0 (fun _ => true) true n f.type [v] = some y := by
      intro i hil j f hj
      obtain ⟨cs', hc, ht'⟩ := hi i (by omega)
      obtain ⟨ys, n', _, _, hlen, hyl, hg⟩ := DataW.trod_struct he ht'
      rw [hC] at hc hlen
      obtain ⟨_, _, hat⟩ := World.cells?_some hc
      obtain ⟨ho, hk⟩ := hone_of hone j f hj
      have hjl : j < fs.size := (Array.getElem?_eq_some_iff.1 hj).1
      have h1 := hg j f hj
      rw [ho, hk] at h1
      have hlt : j < cs'.length := by omega
      have e1 : (cs'.drop j).take 1 = [cs'[j]] := by
        rw [List.drop_eq_getElem_cons hlt]
        rfl
      have hy : j < ys.length := by omega
      rw [e1, List.getElem?_eq_getElem hy] at h1
      refine ⟨cs'[j], _, n', ?_, h1⟩
      rw [← Go.Deep.add_add, hat j hjl, List.getElem?_eq_getElem hlt]
    obtain ⟨b, off, spot⟩ := a'
    obtain ⟨v, y, n1, hv, _⟩ := key 0 (by omega) 0 f0 hf0
    have hspot : spot = none := by simpa [Addr.add] using World.cell?_spot hv
    subst hspot
    rw [add_none] at hv
    refine ⟨b, off, rfl, World.block_lt_of_cell? w _ hv, by omega, fun i hil j f hj => ?_⟩
    obtain ⟨v', y', n2, hv', hy'⟩ := key i hil j f hj
    exact ⟨v', y', n2, by rw [add_none, ← Nat.add_assoc] at hv'; exact hv', hy'⟩
/-- What a cell tells, read as a number, as a flag. -/
def rdI (w : World) (a : Addr) : Int := match w.cell? a with | some (.int _ n) => n | _ => 0
def rdB (w : World) (a : Addr) : Bool := match w.cell? a with | some (.bool b) => b | _ => false
theorem cell_rdI {H : Type} {enc : TypeId × Value → H} {P : Program} {w : World} {t : TypeId} {k : IntKind} {a : Addr} (ht : P.underlying t = some (.int k))
    (h : ∃ (v : Value) (y : DataW H × List MemPlace) (n : Nat), w.cell? a = some v ∧ DataW.trod enc P w 0 (fun _ => true) true n t [v] = some y) : w.cell? a = some (.int k (rdI w a)) ∧ (Lit.int k (rdI w a)).wf = true := by
  obtain ⟨v, y, n, hc, hy⟩ := h
  obtain ⟨x, e, _, wf⟩ := DataW.trod_int ht hy
  simp only [List.cons.injEq, and_true] at e
  subst e
  have e2 : rdI w a = x := by simp [rdI, hc]
  rw [e2]
  exact ⟨hc, wf⟩
theorem cell_rdB {H : Type} {enc : TypeId × Value → H} {P : Program} {w : World} {t : TypeId} {a : Addr} (ht : P.underlying t = some .bool)
    (h : ∃ (v : Value) (y : DataW H × List MemPlace) (n : Nat), w.cell? a = some v ∧ DataW.trod enc P w 0 (fun _ => true) true n t [v] = some y) : w.cell? a = some (.bool (rdB w a)) := by
  obtain ⟨v, y, n, hc, hy⟩ := h
  obtain ⟨x, e, _⟩ := DataW.trod_bool ht hy
  simp only [List.cons.injEq, and_true] at e
  subst e
  have e2 : rdB w a = x := by simp [rdB, hc]
  rw [e2]
  exact hc
theorem wf_u64 {n : Int} (h : (Lit.int .u64 n).wf = true) : 0 ≤ n ∧ n ≤ 18446744073709551615 := by simpa [Lit.wf, IntKind.min, IntKind.max, IntKind.signed, IntKind.bits] using h
theorem wf_u8 {n : Int} (h : (Lit.int .u8 n).wf = true) : 0 ≤ n ∧ n ≤ 255 := by simpa [Lit.wf, IntKind.min, IntKind.max, IntKind.signed, IntKind.bits] using h
theorem wf_i64 {n : Int} (h : (Lit.int .i64 n).wf = true) : -9223372036854775808 ≤ n ∧ n ≤ 9223372036854775807 := by simpa [Lit.wf, IntKind.min, IntKind.max, IntKind.signed, IntKind.bits] using h

theorem asks_open {H : Type} {enc : TypeId × Value → H} {w : World} {a : Option Addr} {len cap : Nat} {d : DataW H} {ps : List MemPlace}
    (h : DataW.Trod enc Try.prog w 0 (fun _ => true) true 31 (.slice a len cap) d ps) :
    len = 0 ∨ ∃ b off T O N M, a = some ⟨b, off, none⟩ ∧ len ≤ maxLen ∧ Asks w b off len T O N M := by
  rcases rows_open Try.underlying31 Try.underlying43 (by kernel_rfl) (by kernel_rfl) rfl h with h | ⟨b, off, rfl, hb, hm, hr⟩
  · exact .inl h
  · right
    have r0 := fun i hi => cell_rdB Try.underlying4 (hr i hi 0 _ rfl)
    have r1 := fun i hi => cell_rdI Try.underlying24 (hr i hi 1 _ rfl)
    have r2 := fun i hi => cell_rdI Try.underlying24 (hr i hi 2 _ rfl)
    have r3 := fun i hi => cell_rdI Try.underlying5 (hr i hi 3 _ rfl)
    exact ⟨b, off, _, _, _, _, rfl, hm, hb, fun i hi => r0 i hi, fun i hi => (r1 i hi).1, fun i hi => (r2 i hi).1, fun i hi => (r3 i hi).1, fun i hi => wf_u64 (r1 i hi).2, fun i hi => wf_u64 (r2 i hi).2, fun i hi => wf_u8 (r3 i hi).2⟩
end Go.Proofs.Ytbggbmcijhnijaa
