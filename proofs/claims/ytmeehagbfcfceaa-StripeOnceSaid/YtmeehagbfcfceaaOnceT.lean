/- StripeOnce: the walk of the law. -/

import Derived.Test.YtmeehagbfcfceaaStripeD
import Derived.Test.YtmeehagbfcfceaaRunsC
import Derived.ChangeSame
import Derived.Deep.Slices
namespace Go.Proofs.Ytmeehagbfcfceaa
open Go.ChangeShapes Go.WideShapes Go.ChangeAt Go.RowKit
open Go.ChangeMaps (open_string shut_string)
set_option linter.unusedVariables false
/-- A slice of integers that came in, as a value: it is empty, or a row in memory. -/
def IntArg (k : IntKind) (w : World) (v : Value) : Prop := (∃ a cap, v = .slice a 0 cap) ∨ ∃ (b off len cap : Nat) (Z : Nat → Int), v = .slice (some ⟨b, off, none⟩) len cap ∧ 0 < len ∧ len ≤ 9223372036854775807 ∧ b < w.heap.size ∧ (∀ i, i < len → w.cell? ⟨b, off + i, none⟩ = some (.int k (Z i))) ∧ ∀ i, i < len → (Lit.int k (Z i)).wf = true
theorem ints_arg {H : Type} {enc : TypeId × Value → H} {P : Program} {w : World} {t e : TypeId} {k : IntKind} {a : Option Addr} {len cap : Nat} {d : DataW H} {ps : List MemPlace}
    (ht : P.underlying t = some (.slice e)) (he : P.underlying e = some (.int k)) (hc1 : P.cellsOf e = 1) (h : DataW.Trod enc P w 0 (fun _ => true) true t (.slice a len cap) d ps) : IntArg k w (.slice a len cap) := by
  obtain ⟨fuel, hf⟩ := h
  rcases open_ints ht he hc1 hf with ⟨hcs, _⟩ | ⟨x, l, c, zs, hcs, _, hl, hm, hz, _, hcell, hwz⟩
  · simp [Value.cells] at hcs
    obtain ⟨rfl, rfl, rfl⟩ := hcs
    exact .inl ⟨_, _, rfl⟩
  · simp [Value.cells] at hcs
    obtain ⟨rfl, rfl, rfl⟩ := hcs
    have hm' : cap ≤ 9223372036854775807 := hm
    by_cases hz0 : len = 0
    · subst hz0; exact .inl ⟨_, _, rfl⟩
    · obtain ⟨b, off, spot⟩ := x
      have hlen : zs.length = cap := by simpa using hz
      have hc0 := hcell 0 (by omega)
      have hspot : spot = none := by simpa [Addr.add] using World.cell?_spot hc0
      subst hspot
      have hc : ∀ i, i < len → w.cell? ⟨b, off + i, none⟩ = some (.int k (zs.getD i 0)) := fun i hi => by
        have h := hcell i (by omega)
        have e : (⟨b, off, none⟩ : Addr).add i = ⟨b, off + i, none⟩ := by unfold Addr.add; split <;> simp_all
        rw [e] at h
        exact h
      refine .inr ⟨b, off, len, cap, fun i => zs.getD i 0, rfl, by omega, by omega, World.block_lt_of_cell? w _ (hc 0 (by omega)), hc, fun i hi => ?_⟩
      have hi' : i < zs.length := by omega
      have : zs.getD i 0 = zs[i] := by simp [List.getD_eq_getElem?_getD, hi']
      show (Lit.int k (zs.getD i 0)).wf = true
      rw [this]
      exact hwz _ (List.getElem_mem hi')

def once0 (N A : Nat) (o : Int) (x : Nat) : List Lk := if x = 0 then List.replicate N .zero else (List.replicate N .zero).set A ⟨0, true, o⟩
theorem once_cas0 (N A : Nat) (o : Int) (hA : A < N) (h0 : 0 ≤ o) (h1 : o < 4) : casD N (once0 N A o 0) A .zero ⟨0, true, o⟩ = true ∧ casL N (once0 N A o 0) A .zero ⟨0, true, o⟩ = once0 N A o 1 ∧ refE N A ⟨0, true, o⟩ = 0 := by
  have hr : refE N A ⟨0, true, o⟩ = 0 := by simp [refE, inR, isL, mh, hA, h0, h1]
  have hd : casD N (once0 N A o 0) A .zero ⟨0, true, o⟩ = true := by simp [casD, hr, once0, List.getElem?_replicate, hA]
  exact ⟨hd, by rw [casL, hd]; simp [once0], hr⟩
theorem once_cas1 (N A : Nat) (o p : Int) (x : Nat) (hx : ¬ x = 0) (hA : A < N) (h0 : 0 ≤ p) (h1 : p < 4) : casD N (once0 N A o x) A .zero ⟨0, true, p⟩ = false ∧ casL N (once0 N A o x) A .zero ⟨0, true, p⟩ = once0 N A o (x + 1) ∧ refE N A ⟨0, true, p⟩ = 0 := by
  have hr : refE N A ⟨0, true, p⟩ = 0 := by simp [refE, inR, isL, mh, hA, h0, h1]
  have hd : casD N (once0 N A o x) A .zero ⟨0, true, p⟩ = false := by simp [casD, hr, once0, hx, hA, Lk.zero]
  exact ⟨hd, by rw [casL, hd]; simp [once0, hx], hr⟩
theorem once_at (N A : Nat) (o : Int) (x : Nat) (hA : A < N) : loadL N (once0 N A o x) A = if x = 0 then .zero else ⟨0, true, o⟩ := by
  by_cases h : x = 0 <;> simp [loadL, inR, hA, once0, h, List.getElem?_replicate]
theorem loadE_in (N A : Nat) (hA : A < N) : loadE N A = 0 := by simp [loadE, inR, hA]
set_option maxRecDepth 100000 in
set_option maxHeartbeats 4000000 in
theorem once_empty (n i : Int) (ad : Option Addr) (cap : Nat) (w : World) (hn : 0 ≤ n ∧ n ≤ 255) (hi : 0 ≤ i ∧ i ≤ 255) : Calls Try.prog 7 #[.int .u8 n, .int .u8 i, .slice ad 0 cap] w fun e w' => e = .returned (.bool true) ∧ Below w.heap.size w w' := by
  obtain ⟨k, hk⟩ : ∃ k : Int, n % 16 = k := ⟨_, rfl⟩
  have k0 : 0 ≤ k := by omega
  have k1 : k ≤ 15 := by omega
  obtain ⟨A, hA⟩ : ∃ A : Int, i % (k + 1) = A := ⟨_, rfl⟩
  have A0 : 0 ≤ A := by rw [← hA]; exact Int.emod_nonneg _ (by omega)
  have A1 : A < k + 1 := by rw [← hA]; exact Int.emod_lt_of_pos _ (by omega)
  have hA2 : i.tmod (k + 1) = A := by rw [Int.tmod_eq_emod_of_nonneg hi.1, hA]
  obtain ⟨a, rfl⟩ := Int.eq_ofNat_of_zero_le A0
  obtain ⟨kn, rfl⟩ := Int.eq_ofNat_of_zero_le k0
  have hk1 : ¬ (kn : Int) + 1 = 0 := by omega
  have hk2 : ¬ (kn : Int) + 1 = -1 := by omega
  have ck : (c16 ((kn : Int) + 1)).toNat = kn + 1 := by rw [c16_in _ (by omega) (by omega)]; omega
  have AN : Hid (a < kn + 1) := (show a < kn + 1 by omega)
  have QN : Hid (∀ w0 : World, TabAt (newT w0 ((kn : Int) + 1) 1) (w0.heap.size + 1) w0.heap.size (kn + 1) (c16 1) (List.replicate (kn + 1) .zero)) := fun w0 => by have := tab_newT w0 ((kn : Int) + 1) 1; rwa [ck] at this
  have NT : Hid (∀ w0 : World, Below w0.heap.size w0 (newT w0 ((kn : Int) + 1) 1)) := fun w0 => below_newT w0 _ _
  have KB : Hid (kn + 1 ≤ 16) := (show kn + 1 ≤ 16 by omega)
  clear ck
  go_enter Try.func7, Try.ntmps7
  go_wp2_with (first | (go_at_call 3; (with_reducible refine (runs_any _).mono ?_); rintro e w1 ⟨rfl, hb1⟩; have B1 : Below w.heap.size w w1 := (by refine Below.trans ?_ (hb1.mono (by first | (simp; done) | (have := (Below.refl 0 w).size; simp; omega))); repeat (first | exact Below.refl _ _ | assumption | refine Below.setCell ?_ (by first | (simp; done) | (have := (Below.refl 0 w).size; simp; omega)) _ | refine Below.alloc ?_ (by first | (simp; done) | (have := (Below.refl 0 w).size; simp; omega)) _ | refine Below.drew ?_)); clear hb1))
  go_wp2_with fail
  refine (new_any _ _ _).mono ?_
  rintro e w0 ⟨rfl, hw0⟩
  have B0 : Below w.heap.size w w0 := by rw [hw0]; exact B1.trans ((NT.out w1).mono B1.size)
  have Q0 : Hid (TabAt w0 (w1.heap.size + 1) w1.heap.size (kn + 1) (c16 1) (once0 (kn + 1) a 0 0)) := by rw [hw0]; exact QN.out w1
  have HS : Hid (w.heap.size ≤ w1.heap.size ∧ w0.heap.size = w1.heap.size + 2) := ⟨B1.size, by rw [hw0, size_newT]⟩
  clear hw0
  have LD := load_any _ _ _ _ _ (a : Int) w0 Q0.out (by have := KB.out; omega)
  rw [once_at _ _ _ _ AN.out, loadE_in _ _ AN.out, if_pos rfl] at LD
  have LL := Lib.hid LD
  clear LD
  go_wp2_with fail
  refine LL.out.mono ?_
  rintro e w2 ⟨rfl, hb2⟩
  have B2 : Below w.heap.size w w2 := B0.trans (hb2.mono B0.size)
  have Q2 := Lib.hid (Q0.out.below (by omega) hb2)
  have HS2 : Hid (w0.heap.size ≤ w2.heap.size) := hb2.size
  clear hb2 LL B0
  go_wp2_with fail
  refine wp_loop_rounds 1 ?_
  rw [rounds_succ]
  have LD := fun o => load_any _ _ _ _ _ (a : Int) (w2.alloc o) (Q2.out.below (by omega) ((Below.refl _ _).alloc (Nat.le_refl _) o)) (by have := KB.out; omega)
  rw [once_at _ _ _ _ AN.out, loadE_in _ _ AN.out, if_pos rfl] at LD
  have LL := Lib.hid LD
  clear LD
  go_wp2_with fail
  refine (LL.out _).mono ?_
  rintro e w3 ⟨rfl, hb3⟩
  have s0 : w3.cell? ⟨w2.heap.size, 0, none⟩ = some (.int .u64 0) := (hb3.cell (by simp)).trans (by simp [Lk.zero])
  have s1 : w3.cell? ⟨w2.heap.size, 1, none⟩ = some (.bool false) := (hb3.cell (by simp)).trans (by simp [Lk.zero])
  have s2 : w3.cell? ⟨w2.heap.size, 2, none⟩ = some (.int .i64 0) := (hb3.cell (by simp)).trans (by simp [Lk.zero])
  have z3 : w2.heap.size < w3.heap.size := by have := hb3.size; simp at this; omega
  have n3 : ¬ w2.heap.size = w3.heap.size := by omega
  have B3 : Below w.heap.size w w3 := (B2.alloc B2.size _).trans (hb3.mono (by simp; have := B2.size; omega))
  clear hb3 LL
  unfold Lk.zero
  go_wp2
  go_quiet (fail)
  go_wp2
  go_ret
  exact ⟨rfl, below_drewN (B3.alloc B3.size _) _⟩
set_option maxRecDepth 100000 in
set_option maxHeartbeats 4000000 in
theorem once_row (n i : Int) (b off len cap : Nat) (Z : Nat → Int) (w : World) (hn : 0 ≤ n ∧ n ≤ 255) (hi : 0 ≤ i ∧ i ≤ 255) (hl : 0 < len) (hl63 : len ≤ 9223372036854775807) (hb : b < w.heap.size) (hc : ∀ i, i < len → w.cell? ⟨b, off + i, none⟩ = some (.int .u8 (Z i))) (hz : ∀ i, i < len → (Lit.int .u8 (Z i)).wf = true) :
    Calls Try.prog 7 #[.int .u8 n, .int .u8 i, .slice (some ⟨b, off, none⟩) len cap] w fun e w' => e = .returned (.bool true) ∧ Below w.heap.size w w' := by
  have ZB : Hid (∀ i, i < len → 0 ≤ Z i ∧ Z i ≤ 255) := fun i hi => by simpa [Lit.wf, IntKind.min, IntKind.max, IntKind.signed, IntKind.bits] using hz i hi
  have ZC := Lib.hid hc
  have BL : Hid (b < w.heap.size) := hb
  obtain ⟨o, ho⟩ : ∃ o : Int, Z 0 % 4 = o := ⟨_, rfl⟩
  have HO := Lib.hid ho
  clear hc hz hb ho
  obtain ⟨k, hk⟩ : ∃ k : Int, n % 16 = k := ⟨_, rfl⟩
  have k0 : 0 ≤ k := by omega
  have k1 : k ≤ 15 := by omega
  obtain ⟨A, hA⟩ : ∃ A : Int, i % (k + 1) = A := ⟨_, rfl⟩
  have A0 : 0 ≤ A := by rw [← hA]; exact Int.emod_nonneg _ (by omega)
  have A1 : A < k + 1 := by rw [← hA]; exact Int.emod_lt_of_pos _ (by omega)
  have hA2 : i.tmod (k + 1) = A := by rw [Int.tmod_eq_emod_of_nonneg hi.1, hA]
  obtain ⟨a, rfl⟩ := Int.eq_ofNat_of_zero_le A0
  obtain ⟨kn, rfl⟩ := Int.eq_ofNat_of_zero_le k0
  have hk1 : ¬ (kn : Int) + 1 = 0 := by omega
  have hk2 : ¬ (kn : Int) + 1 = -1 := by omega
  have ck : (c16 ((kn : Int) + 1)).toNat = kn + 1 := by rw [c16_in _ (by omega) (by omega)]; omega
  have AN : Hid (a < kn + 1) := (show a < kn + 1 by omega)
  have QN : Hid (∀ w0 : World, TabAt (newT w0 ((kn : Int) + 1) 1) (w0.heap.size + 1) w0.heap.size (kn + 1) (c16 1) (List.replicate (kn + 1) .zero)) := fun w0 => by have := tab_newT w0 ((kn : Int) + 1) 1; rwa [ck] at this
  have NT : Hid (∀ w0 : World, Below w0.heap.size w0 (newT w0 ((kn : Int) + 1) 1)) := fun w0 => below_newT w0 _ _
  have KB : Hid (kn + 1 ≤ 16) := (show kn + 1 ≤ 16 by omega)
  clear ck
  go_enter Try.func7, Try.ntmps7
  go_wp2_with (first | (go_at_call 3; (with_reducible refine (runs_any _).mono ?_); rintro e w1 ⟨rfl, hb1⟩; have B1 : Below w.heap.size w w1 := (by refine Below.trans ?_ (hb1.mono (by first | (simp; done) | (have := (Below.refl 0 w).size; simp; omega))); repeat (first | exact Below.refl _ _ | assumption | refine Below.setCell ?_ (by first | (simp; done) | (have := (Below.refl 0 w).size; simp; omega)) _ | refine Below.alloc ?_ (by first | (simp; done) | (have := (Below.refl 0 w).size; simp; omega)) _ | refine Below.drew ?_)); clear hb1))
  go_wp2_with fail
  refine (new_any _ _ _).mono ?_
  rintro e w0 ⟨rfl, hw0⟩
  have B0 : Below w.heap.size w w0 := by rw [hw0]; exact B1.trans ((NT.out w1).mono B1.size)
  have Q0 : Hid (TabAt w0 (w1.heap.size + 1) w1.heap.size (kn + 1) (c16 1) (once0 (kn + 1) a o 0)) := by rw [hw0]; exact QN.out w1
  have HS : Hid (w.heap.size ≤ w1.heap.size ∧ w0.heap.size = w1.heap.size + 2) := ⟨B1.size, by rw [hw0, size_newT]⟩
  clear hw0
  have LD := load_any _ _ _ _ _ (a : Int) w0 Q0.out (by have := KB.out; omega)
  rw [once_at _ _ _ _ AN.out, loadE_in _ _ AN.out, if_pos rfl] at LD
  have LL := Lib.hid LD
  clear LD
  go_wp2_with fail
  refine LL.out.mono ?_
  rintro e w2 ⟨rfl, hb2⟩
  have B2 : Below w.heap.size w w2 := B0.trans (hb2.mono B0.size)
  have Q2 := Lib.hid (Q0.out.below (by omega) hb2)
  have HS2 : Hid (w0.heap.size ≤ w2.heap.size) := hb2.size
  clear hb2 LL B0
  have SC : Hid (∀ wr, Only [w1.heap.size] (w2.alloc (.cells #[.int .u64 0, .bool false, .int .i64 0] 26)) wr → AllC wr [(⟨w2.heap.size, 0, none⟩, .int .u64 0), (⟨w2.heap.size, 1, none⟩, .bool false), (⟨w2.heap.size, 2, none⟩, .int .i64 0)] ∧ (∀ i, i < len → wr.cell? ⟨b, off + i, none⟩ = some (.int .u8 (Z i))) ∧ w2.heap.size < wr.heap.size) := fun wr ho => by
    have h1 := HS.out
    have h2 := HS2.out
    refine ⟨keepO ho (fun p hp => ?_) (by simp [AllC]), fun i hi => ?_, by have := ho.size; simp at this; omega⟩
    · simp at hp
      rcases hp with rfl | rfl | rfl <;> simp <;> omega
    · have hbl := BL.out
      rw [ho.cell (by simp; omega) (by simp; omega), World.cell?_alloc_lt _ _ _ (show b < w2.heap.size by omega)]
      exact (B2.cell BL.out).trans (ZC.out i hi)
  unfold Lk.zero
  go_wp2_with fail
  go_loopw [12] (fun u wr => ∃ x : Nat, x ≤ len ∧ x ≤ 20 ∧ u = .int .i64 x ∧ Hid (TabAt wr (w1.heap.size + 1) w1.heap.size (kn + 1) (c16 1) (once0 (kn + 1) a o x)) ∧ Hid (Only [w1.heap.size] (w2.alloc (.cells #[.int .u64 0, .bool false, .int .i64 0] 26)) wr)) (fun u _ => 20 - (intOf u).toNat)
  case atStart => exact ⟨0, by omega, by omega, rfl, Q2.out.below (by omega) ((Below.refl _ _).alloc (Nat.le_refl _) _), Only.refl _ _⟩
  case round =>
    obtain ⟨x, hx, hx20, rfl, hq, ho⟩ := hrel
    obtain ⟨sc, zc, zl⟩ := SC.out wr ho.out
    simp only [AllC] at sc
    obtain ⟨c0, c1, c2, -⟩ := sc
    by_cases hlt : x < len ∧ x < 20
    · obtain ⟨hx1, hx2⟩ := hlt
      have cz := zc x hx1
      have bz := ZB.out x hx1
      obtain ⟨z, hz⟩ : ∃ z, Z x = z := ⟨_, rfl⟩
      rw [hz] at cz bz
      obtain ⟨p, hp⟩ : ∃ p : Int, z % 4 = p := ⟨_, rfl⟩
      have p0 : 0 ≤ p := by omega
      have p1 : p < 4 := by omega
      have hX : Hid (x = 0 → p = o) := fun e => by have := HO.out; subst e; rw [hz] at this; omega
      have i1 : (x : Int) < (len : Int) := by omega
      have i2 : (x : Int) < 20 := by omega
      have i0 : (0 : Int) ≤ (x : Int) := by omega
      clear zc hz
      by_cases hx0 : x = 0
      · have e := hX.out hx0
        subst e
        subst hx0
        rw [Nat.add_zero] at cz
        obtain ⟨d1, d2, d3⟩ := once_cas0 (kn + 1) a p AN.out p0 p1
        have CC := cas_any _ _ _ _ _ (a : Int) .zero ⟨0, true, p⟩ wr hq.out (by omega) (by have := KB.out; omega)
        rw [d1, d2, d3] at CC
        have CS := Lib.hid CC
        clear CC d1 d2 d3
        go_wp2_with fail
        refine CS.out.mono ?_
        rintro e w3 ⟨rfl, hq3, ho3⟩
        go_wp2
        go_roundw
        case rel => exact ⟨1, by omega, by omega, by go_num, hq3, ho.out.trans ho3⟩
        case measure => simp [intOf]
      · obtain ⟨d1, d2, d3⟩ := once_cas1 (kn + 1) a o p x hx0 AN.out p0 p1
        have CC := cas_any _ _ _ _ _ (a : Int) .zero ⟨0, true, p⟩ wr hq.out (by omega) (by have := KB.out; omega)
        rw [d1, d2, d3] at CC
        have CS := Lib.hid CC
        have hx3 : ((x : Int) == 0) = false := by simp; omega
        clear CC d1 d2 d3
        go_wp2_with fail
        refine CS.out.mono ?_
        rintro e w3 ⟨rfl, hq3, ho3⟩
        go_wp2
        go_roundw
        case rel => exact ⟨x + 1, by omega, by omega, by go_num, hq3, ho.out.trans ho3⟩
        case measure => simp [intOf]; omega
    · have hx0 : ¬ x = 0 := by omega
      have LD := load_any _ _ _ _ _ (a : Int) wr hq.out (by have := KB.out; omega)
      rw [once_at _ _ _ _ AN.out, loadE_in _ _ AN.out, if_neg hx0] at LD
      have LL := Lib.hid LD
      have cz := zc 0 hl
      rw [Nat.add_zero] at cz
      have bz := ZB.out 0 hl
      have ho' := HO.out
      generalize Z 0 = z at *
      have hl0 : ((len : Int) == 0) = false := by simp; omega
      have hl1 : (0 : Int) < (len : Int) := by omega
      have he : (o == o) = true := by simp
      clear LD zc
      rcases Nat.lt_or_ge x len with hxl | hxl
      · have i1 : (x : Int) < (len : Int) := by omega
        have i2 : decide ((x : Int) < 20) = false := by simp; omega
        clear hlt hxl
        go_wp2_with fail
        refine LL.out.mono ?_
        rintro e w3 ⟨rfl, hb3⟩
        have B3 : Below w.heap.size w w3 := ((B2.alloc B2.size _).trans (ho.out.below (by simp; exact HS.out.1) (by simp; have := B2.size; omega))).trans (hb3.mono (by have h1 := ho.out.size; have h2 := B2.size; simp at h1; omega))
        have s0 := (hb3.cell (p := ⟨w2.heap.size, 0, none⟩) zl).trans c0
        have s1 := (hb3.cell (p := ⟨w2.heap.size, 1, none⟩) zl).trans c1
        have s2 := (hb3.cell (p := ⟨w2.heap.size, 2, none⟩) zl).trans c2
        have sz := (hb3.cell (p := ⟨b, off, none⟩) (World.block_lt_of_cell? wr _ cz)).trans cz
        have z3 : w2.heap.size < w3.heap.size := by have := hb3.size; omega
        have z4 : b < w3.heap.size := World.block_lt_of_cell? w3 _ sz
        have n3 : ¬ w2.heap.size = w3.heap.size := by omega
        have n4 : ¬ b = w3.heap.size := by omega
        clear hb3 LL c0 c1 c2 cz zl
        go_wp2
        go_quiet (fail)
        go_wp2
        go_ret
        exact ⟨rfl, below_drewN (B3.alloc B3.size _) _⟩
      · obtain rfl : x = len := by omega
        have i1 : decide ((x : Int) < (x : Int)) = false := by simp
        clear hlt hxl
        go_wp2_with fail
        refine LL.out.mono ?_
        rintro e w3 ⟨rfl, hb3⟩
        have B3 : Below w.heap.size w w3 := ((B2.alloc B2.size _).trans (ho.out.below (by simp; exact HS.out.1) (by simp; have := B2.size; omega))).trans (hb3.mono (by have h1 := ho.out.size; have h2 := B2.size; simp at h1; omega))
        have s0 := (hb3.cell (p := ⟨w2.heap.size, 0, none⟩) zl).trans c0
        have s1 := (hb3.cell (p := ⟨w2.heap.size, 1, none⟩) zl).trans c1
        have s2 := (hb3.cell (p := ⟨w2.heap.size, 2, none⟩) zl).trans c2
        have sz := (hb3.cell (p := ⟨b, off, none⟩) (World.block_lt_of_cell? wr _ cz)).trans cz
        have z3 : w2.heap.size < w3.heap.size := by have := hb3.size; omega
        have z4 : b < w3.heap.size := World.block_lt_of_cell? w3 _ sz
        have n3 : ¬ w2.heap.size = w3.heap.size := by omega
        have n4 : ¬ b = w3.heap.size := by omega
        clear hb3 LL c0 c1 c2 cz zl
        go_wp2
        go_quiet (fail)
        go_wp2
        go_ret
        exact ⟨rfl, below_drewN (B3.alloc B3.size _) _⟩
theorem once_law (n i : Int) (v : Value) (w : World) (hn : 0 ≤ n ∧ n ≤ 255) (hi : 0 ≤ i ∧ i ≤ 255) (hv : IntArg .u8 w v) : Calls Try.prog 7 #[.int .u8 n, .int .u8 i, v] w fun e w' => e = .returned (.bool true) ∧ Below w.heap.size w w' := by
  rcases hv with ⟨a, cap, rfl⟩ | ⟨b, off, len, cap, Z, rfl, h0, h1, h2, h3, h4⟩
  · exact once_empty n i a cap w hn hi
  · exact once_row n i b off len cap Z w hn hi h0 h1 h2 h3 h4
end Go.Proofs.Ytmeehagbfcfceaa
