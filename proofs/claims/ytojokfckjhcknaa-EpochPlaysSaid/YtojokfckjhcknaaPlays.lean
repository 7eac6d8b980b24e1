/- EpochPlays, EpochCopies: the walks of the laws. -/

import Derived.Test.YtojokfckjhcknaaDo
import Derived.Test.YtojokfckjhcknaaRunsC
import Derived.Deep.Slices
import Derived.Deep.Fields
import Derived.ChangeSame
import Derived.WalkSmall
namespace Go.Proofs.Ytojokfckjhcknaa
open Go.ChangeShapes Go.WideShapes Go.ChangeAt Go.RowKit
open Go.ChangeMaps (open_string shut_string)
set_option linter.unusedVariables false
open Go.Deep
theorem add_none (b off k : Nat) : (⟨b, off, none⟩ : Addr).add k = ⟨b, off + k, none⟩ := by unfold Addr.add; split <;> simp_all
/-- A slice of structs that came in, each field of one cell: it is empty, or its cells lie in one row of a block that is there. -/
theorem rows_open {H : Type} {enc : TypeId × Value → H} {P : Program} {w : World} {t e : TypeId} {fs : Array Field} {f0 : Field} {a : Option Addr} {len cap : Nat} {d : DataW H} {ps : List MemPlace}
    (ht : P.underlying t = some (.slice e)) (he : P.underlying e = some (.struct fs)) (hone : oneCellFields P fs = true) (hC : P.cellsOf e = fs.size) (hf0 : fs[0]? = some f0)
    (h : DataW.Trod enc P w 0 (fun _ => true) true t (.slice a len cap) d ps) :
    len = 0 ∨ ∃ b off, a = some ⟨b, off, none⟩ ∧ b < w.heap.size ∧ len ≤ maxLen ∧
      ∀ i, i < len → ∀ (j : Nat) (f : Field), fs[j]? = some f → ∃ (v : Value) (y : DataW H × List MemPlace) (n : Nat), w.cell? ⟨b, off + i * fs.size + j, none⟩ = some v ∧ DataW.trod enc P w 0 (fun _ => true) true n f.type [v] = some y := by
  obtain ⟨fuel, hf⟩ := h
  rcases Go.Deep.open_slice ht hf with ⟨hcs, _⟩ | ⟨a', len', cap', m, n, D, Pl, hcs, _, hl, hm, hmm, _, hi⟩
  · simp [Value.cells] at hcs
    exact .inl hcs.2.1
  · simp [Value.cells] at hcs
    obtain ⟨rfl, rfl, rfl⟩ := hcs
    by_cases hz : len = 0
    · exact .inl hz
    right
    have hmc : m = cap := by simpa using hmm
    have key : ∀ i, i < len → ∀ (j : Nat) (f : Field), fs[j]? = some f → ∃ (v : Value) (y : DataW H × List MemPlace) (n : Nat), w.cell? (a'.add (i * fs.size + j)) = some v ∧ DataW.trod enc P w 0 (fun _ => true) true n f.type [v] = some y := by
      intro i hil j f hj
      obtain ⟨cs', hc, ht'⟩ := hi i (by omega)
      obtain ⟨ys, n', _, _, hlen, hyl, hg⟩ := DataW.trod_struct he ht'
      rw [hC] at hc hlen
      obtain ⟨_, _, hat⟩ := World.cells?_some hc
      obtain ⟨ho, hk⟩ := hone_of hone j f hj
      have hjl : j < fs.size := (Array.getElem?_eq_some_iff.1 hj).1
      have h1 := hg j f hj
      rw [ho, hk] at h1
      have hlt : j < cs'.length := by omega
      have e1 : (cs'.drop j).take 1 = [cs'[j]] := by
        rw [List.drop_eq_getElem_cons hlt]
        rfl
      have hy : j < ys.length := by omega
      rw [e1, List.getElem?_eq_getElem hy] at h1
      refine ⟨cs'[j], _, n', ?_, h1⟩
      rw [← Go.Deep.add_add, hat j hjl, List.getElem?_eq_getElem hlt]
    obtain ⟨b, off, spot⟩ := a'
    obtain ⟨v, y, n1, hv, _⟩ := key 0 (by omega) 0 f0 hf0
    have hspot : spot = none := by simpa [Addr.add] using World.cell?_spot hv
    subst hspot
    rw [add_none] at hv
    refine ⟨b, off, rfl, World.block_lt_of_cell? w _ hv, by omega, fun i hil j f hj => ?_⟩
    obtain ⟨v', y', n2, hv', hy'⟩ := key i hil j f hj
    exact ⟨v', y', n2, by rw [add_none, ← Nat.add_assoc] at hv'; exact hv', hy'⟩
/-- What a cell tells, read as a number, as a flag. -/
def rdI (w : World) (a : Addr) : Int := match w.cell? a with | some (.int _ n) => n | _ => 0
def rdB (w : World) (a : Addr) : Bool := match w.cell? a with | some (.bool b) => b | _ => false
theorem cell_rdI {H : Type} {enc : TypeId × Value → H} {P : Program} {w : World} {t : TypeId} {k : IntKind} {a : Addr} (ht : P.underlying t = some (.int k))
    (h : ∃ (v : Value) (y : DataW H × List MemPlace) (n : Nat), w.cell? a = some v ∧ DataW.trod enc P w 0 (fun _ => true) true n t [v] = some y) : w.cell? a = some (.int k (rdI w a)) ∧ (Lit.int k (rdI w a)).wf = true := by
  obtain ⟨v, y, n, hc, hy⟩ := h
  obtain ⟨x, e, _, wf⟩ := DataW.trod_int ht hy
  simp only [List.cons.injEq, and_true] at e
  subst e
  have e2 : rdI w a = x := by simp [rdI, hc]
  rw [e2]
  exact ⟨hc, wf⟩
theorem cell_rdB {H : Type} {enc : TypeId × Value → H} {P : Program} {w : World} {t : TypeId} {a : Addr} (ht : P.underlying t = some .bool)
    (h : ∃ (v : Value) (y : DataW H × List MemPlace) (n : Nat), w.cell? a = some v ∧ DataW.trod enc P w 0 (fun _ => true) true n t [v] = some y) : w.cell? a = some (.bool (rdB w a)) := by
  obtain ⟨v, y, n, hc, hy⟩ := h
  obtain ⟨x, e, _⟩ := DataW.trod_bool ht hy
  simp only [List.cons.injEq, and_true] at e
  subst e
  have e2 : rdB w a = x := by simp [rdB, hc]
  rw [e2]
  exact hc
theorem wf_u64 {n : Int} (h : (Lit.int .u64 n).wf = true) : 0 ≤ n ∧ n ≤ 18446744073709551615 := by simpa [Lit.wf, IntKind.min, IntKind.max, IntKind.signed, IntKind.bits] using h
theorem wf_u8 {n : Int} (h : (Lit.int .u8 n).wf = true) : 0 ≤ n ∧ n ≤ 255 := by simpa [Lit.wf, IntKind.min, IntKind.max, IntKind.signed, IntKind.bits] using h
theorem wf_i64 {n : Int} (h : (Lit.int .i64 n).wf = true) : -9223372036854775808 ≤ n ∧ n ≤ 9223372036854775807 := by simpa [Lit.wf, IntKind.min, IntKind.max, IntKind.signed, IntKind.bits] using h

set_option maxRecDepth 100000 in
set_option maxHeartbeats 2000000 in
theorem asked_empty (s r v n cv : Nat) (xs : List Int) (a : Option Addr) (cap : Nat) (w : World) (hN : NN xs) (hR : VecAt w s r n xs) (hW : URow w v n xs) :
    Calls Try.prog 15 #[ptr s, .slice (some ⟨v, 0, none⟩) n cv, .slice a 0 cap] w (LoopPost s r v n w) := by
  have HR := Lib.hid hR
  have HW := Lib.hid hW
  have HN := Lib.hid hN
  clear hR hW hN
  go_enter Try.func15, Try.ntmps15
  go_wp2
  refine wp_loop_rounds 1 ?_
  rw [rounds_succ]
  go_wp2
  go_ret
  exact ⟨rfl, xs, HN.out, HR.out, HW.out, Only.refl _ _⟩
def AskArg (w : World) (v : Value) : Prop := (∃ a cap, v = .slice a 0 cap) ∨ ∃ b off len cap S A V, v = .slice (some ⟨b, off, none⟩) len cap ∧ len ≤ 9223372036854775807 ∧ Asks w b off len S A V
theorem asks_open {H : Type} {enc : TypeId × Value → H} {w : World} {a : Option Addr} {len cap : Nat} {d : DataW H} {ps : List MemPlace}
    (h : DataW.Trod enc Try.prog w 0 (fun _ => true) true 36 (.slice a len cap) d ps) : AskArg w (.slice a len cap) := by
  rcases rows_open Try.underlying36 Try.underlying48 (by kernel_rfl) (by kernel_rfl) rfl h with rfl | ⟨b, off, rfl, hb, hm, hr⟩
  · exact .inl ⟨_, _, rfl⟩
  · have r0 := fun i hi => cell_rdB Try.underlying4 (hr i hi 0 _ rfl)
    have r1 := fun i hi => cell_rdI Try.underlying3 (hr i hi 1 _ rfl)
    have r2 := fun i hi => cell_rdI Try.underlying26 (hr i hi 2 _ rfl)
    exact .inr ⟨b, off, len, cap, _, _, _, rfl, hm, hb, fun i hi => r0 i hi, fun i hi => (r1 i hi).1, fun i hi => (r2 i hi).1, fun i hi => wf_u64 (r2 i hi).2⟩
theorem asked (s r v n cv : Nat) (xs : List Int) (sv : Value) (w0 w : World) (h0 : 0 < n) (hn : n ≤ 1000) (hN : NN xs) (hR : VecAt w s r n xs) (hW : URow w v n xs) (ha : AskArg w0 sv) (hb : Below w0.heap.size w0 w)
    (hr : w0.heap.size ≤ r) (hv : w0.heap.size ≤ v) (hrv : r ≠ v) (hsv : s ≠ v) :
    Calls Try.prog 15 #[ptr s, .slice (some ⟨v, 0, none⟩) n cv, sv] w (LoopPost s r v n w) := by
  rcases ha with ⟨a, cap, rfl⟩ | ⟨b, off, len, cap, S, A, V, rfl, hl, hx⟩
  · exact asked_empty s r v n cv xs a cap w hN hR hW
  · have := hx.lt
    exact asked_row s r v n cv xs b off len cap S A V w h0 hn hl hN hR hW ⟨Nat.lt_of_lt_of_le hx.lt hb.size, fun i hi => (hb.cell hx.lt).trans (hx.cs i hi), fun i hi => (hb.cell hx.lt).trans (hx.ca i hi), fun i hi => (hb.cell hx.lt).trans (hx.cv i hi), hx.bv⟩ hrv hsv (by omega) (by omega)
theorem held_c4 (n : Int) (w : World) : Calls Try.prog 16 #[.int .i64 n, .int .i64 1, .int .i64 4] w fun e w' => e = .returned (.int .i64 (c4 n)) ∧ w = w' := by
  by_cases h1 : n < 1
  · have e : c4 n = 1 := by simp [c4, h1]
    rw [e]
    clear e
    go_enter Try.func16, Try.ntmps16
    go_wp2
    go_ret
    exact ⟨rfl, rfl⟩
  · by_cases h2 : 4 < n
    · have e : c4 n = 4 := by simp [c4, h1, h2]
      rw [e]
      clear e
      go_enter Try.func16, Try.ntmps16
      go_wp2
      go_ret
      exact ⟨rfl, rfl⟩
    · have e : c4 n = n := by simp [c4, h1, h2]
      rw [e]
      clear e
      go_enter Try.func16, Try.ntmps16
      go_wp2
      go_ret
      exact ⟨rfl, rfl⟩
theorem NN.rep (N : Nat) : NN (List.replicate N 0) := fun x hx => by have := List.eq_of_mem_replicate hx; omega
set_option maxRecDepth 100000 in
set_option maxHeartbeats 2000000 in
theorem plays_any (n : Int) (sv : Value) (w : World) (ha : AskArg w sv) : Calls Try.prog 4 #[.int .i64 n, sv] w fun e w' => e = .returned (.bool true) ∧ Below w.heap.size w w' := by
  have HA := Lib.hid ha
  have HV := Lib.hid (c4_bd n)
  have hmk : ∀ w : World, _ := fun w => mk_row (c4 n) (by have := (c4_bd n).1; omega) (by have := (c4_bd n).2; omega) w
  clear ha
  go_enter Try.func4, Try.ntmps4
  go_wp2_with (first | (go_at_call 3; (with_reducible refine (runs_any _).mono ?_); rintro e w1 ⟨rfl, hb1⟩; have B1 : Below w.heap.size w w1 := (by refine Below.trans ?_ (hb1.mono (by first | (simp; done) | (have := (Below.refl 0 w).size; simp; omega))); repeat (first | exact Below.refl _ _ | assumption | refine Below.setCell ?_ (by first | (simp; done) | (have := (Below.refl 0 w).size; simp; omega)) _ | refine Below.alloc ?_ (by first | (simp; done) | (have := (Below.refl 0 w).size; simp; omega)) _ | refine Below.drew ?_)); clear hb1))
  go_wp2_with (fail)
  refine (sl_new _ _).mono ?_
  rintro e w0 ⟨rfl, hw0⟩
  have b1 := HV.out.1
  have b4 := HV.out.2
  have R0 : VecAt w0 (w1.heap.size + 1) w1.heap.size (c4 n).toNat (List.replicate (c4 n).toNat 0) := by rw [hw0]; exact vec_newS w1 n
  have z0 : w0.heap.size = w1.heap.size + 1 + 1 := by rw [hw0]; simp [newS]
  have B0 : Below w.heap.size w w0 := B1.trans (by rw [hw0]; exact (below_newS w1 n).mono B1.size)
  have D := Lib.hid (asked (w1.heap.size + 1) w1.heap.size w0.heap.size (c4 n).toNat (c4 n).toNat _ sv w (w0.alloc (.cells (madeCells #[.int .u64 0] (c4 n).toNat) 26)) (by omega) (by omega) (NN.rep _) (R0.below ((Below.refl _ _).alloc (Nat.le_refl _) _)) (urow_made w0 _ _) HA.out (B0.alloc B0.size _) B1.size B0.size (by omega) (by omega))
  have Z := Lib.hid z0
  clear R0 z0 b1 b4 hw0
  go_wp2_with (first | (go_at_call 16; (with_reducible refine (held_c4 _ _).mono ?_); rintro e w' ⟨rfl, rfl⟩) | (go_at_call 15; (with_reducible refine D.out.mono ?_); rintro e w3 ⟨rfl, hx⟩))
  go_ret
  obtain ⟨xs, _, _, _, t2⟩ := hx
  exact ⟨rfl, (B0.alloc B0.size _).trans (t2.below (by simp; exact ⟨B1.size, B0.size⟩) (by simp; have := B0.size; omega))⟩
set_option maxRecDepth 100000 in
set_option maxHeartbeats 4000000 in
theorem copies_law (n : Int) (sa sb sc : Value) (w : World) (ha : AskArg w sa) (hb : AskArg w sb) (hc : AskArg w sc) : Calls Try.prog 6 #[.int .i64 n, sa, sb, sc] w fun e w' => e = .returned (.bool true) ∧ Below w.heap.size w w' := by
  have HA := Lib.hid ha
  have HBB := Lib.hid hb
  have HCC := Lib.hid hc
  have HV := Lib.hid (c4_bd n)
  have hmk : ∀ w : World, _ := fun w => mk_row (c4 n) (by have := (c4_bd n).1; omega) (by have := (c4_bd n).2; omega) w
  clear ha hb hc
  go_enter Try.func6, Try.ntmps6
  go_wp2_with (first | (go_at_call 3; (with_reducible refine (runs_any _).mono ?_); rintro e w1 ⟨rfl, hb1⟩; have B1 : Below w.heap.size w w1 := (by refine Below.trans ?_ (hb1.mono (by first | (simp; done) | (have := (Below.refl 0 w).size; simp; omega))); repeat (first | exact Below.refl _ _ | assumption | refine Below.setCell ?_ (by first | (simp; done) | (have := (Below.refl 0 w).size; simp; omega)) _ | refine Below.alloc ?_ (by first | (simp; done) | (have := (Below.refl 0 w).size; simp; omega)) _ | refine Below.drew ?_)); clear hb1))
  go_wp2_with (fail)
  refine (sl_new _ _).mono ?_
  rintro e w0 ⟨rfl, hw0⟩
  have b1 := HV.out.1
  have b4 := HV.out.2
  have R0 : VecAt w0 (w1.heap.size + 1) w1.heap.size (c4 n).toNat (List.replicate (c4 n).toNat 0) := by rw [hw0]; exact vec_newS w1 n
  have z0 : w0.heap.size = w1.heap.size + 1 + 1 := by rw [hw0]; simp [newS]
  have B0 : Below w.heap.size w w0 := B1.trans (by rw [hw0]; exact (below_newS w1 n).mono B1.size)
  have D := Lib.hid (asked (w1.heap.size + 1) w1.heap.size w0.heap.size (c4 n).toNat (c4 n).toNat _ sa w (w0.alloc (.cells (madeCells #[.int .u64 0] (c4 n).toNat) 26)) (by omega) (by omega) (NN.rep _) (R0.below ((Below.refl _ _).alloc (Nat.le_refl _) _)) (urow_made w0 _ _) HA.out (B0.alloc B0.size _) B1.size B0.size (by omega) (by omega))
  have NNN : Hid (∃ N : Nat, (c4 n).toNat = N ∧ 0 < N ∧ N ≤ 4) := ⟨_, rfl, by omega, by omega⟩
  have Z : Hid (w0.heap.size = w1.heap.size + 1 + 1 ∧ w.heap.size ≤ w1.heap.size) := ⟨z0, B1.size⟩
  clear R0 z0 b1 b4 hw0
  go_wp2_with (first | (go_at_call 16; (with_reducible refine (held_c4 _ _).mono ?_); rintro e w' ⟨rfl, rfl⟩) | (go_at_call 15; (with_reducible refine D.out.mono ?_); rintro e w3 ⟨rfl, hx⟩; have HX := Lib.hid hx; clear hx))
  obtain ⟨xs, n3, q3, r3, t3⟩ := HX.out
  have B3 : Below w.heap.size w w3 := (B0.alloc B0.size _).trans (t3.below (by simp; exact ⟨B1.size, B0.size⟩) (by simp; have := B0.size; omega))
  have s3 : w0.heap.size + 1 ≤ w3.heap.size := by have := t3.size; simpa using this
  have S3 : Hid (w0.heap.size + 1 ≤ w3.heap.size) := s3
  have Q3 := Lib.hid q3
  have R3 := Lib.hid r3
  have N3 := Lib.hid n3
  clear HX D q3 r3 t3 s3 n3
  obtain ⟨N, hN, h0N, hN1⟩ := NNN.out
  rw [hN] at Q3 R3 ⊢
  generalize w0.heap.size = vb at *
  clear hN NNN B0 HV hmk
  have CP := Lib.hid (sl_copy _ _ N xs w3 Q3.out h0N (by omega))
  go_wp2_with (fail)
  refine CP.out.mono ?_
  rintro e w4 ⟨t, g, rfl, ht4, hg4, hv4, hb4⟩
  have V4 := Lib.hid hv4
  have B4 := Lib.hid hb4
  have F4 : Hid (w3.heap.size ≤ t ∧ w3.heap.size ≤ g) := ⟨ht4, hg4⟩
  clear hv4 hb4 ht4 hg4 CP
  obtain ⟨i, hi, hz0, hz1, hz2⟩ := info_parts info_clone
  have R4 := Lib.hid (R3.out.below B4.out)
  have LL : Hid ((xs.map (Value.int .u64)).length = N) := by show _ = _; simpa using Q3.out.row.len
  have ON : Hid (∀ u ∈ xs.map (Value.int .u64), u.oneCell' = true) := map_oneCell xs _
  go_wp2_with (first | (at_builtin; refine wpList_append_own _ rfl _ _ 31 rfl w4.heap.size 26 i (.int .u64 0) 1 8 Try.underlying31 hi hz0 hz1 hz2 rfl (by decide) (.slice none 0 0) 0 [] rfl (World.ownsRow_nil _ _ _ _) ⟨vb, 0, none⟩ N _ (xs.map (Value.int .u64)) rfl (by rw [LL.out]; omega) R4.out.news ON.out (by unfold maxLen; omega) (by omega) (Nat.le_refl _) ?_; intro v' w5 hown' hgrow _; have OW := Lib.hid hown'; have GW := Lib.hid hgrow; clear hown' hgrow))
  have OX := OW.out
  simp only [Nat.zero_add, List.nil_append] at OX
  obtain ⟨x, capx, rfl⟩ : ∃ x capx, v' = .slice (some ⟨x, 0, none⟩) N capx := by
    rcases OX.2 with ⟨_, hz⟩ | ⟨g', cap', cur, rfl, _⟩
    · omega
    · exact ⟨g', cap', rfl⟩
  have hx : w4.heap.size ≤ x := (OX.lt x rfl).1
  have s := S3.out
  have s4 := B4.out.size
  obtain ⟨zv, zw⟩ := Z.out
  obtain ⟨ft, fg⟩ := F4.out
  have B5 : Below w4.heap.size w4 w5 := ⟨GW.out.os, GW.out.tape, GW.out.output, GW.out.size, fun k hk => GW.out.block k hk (by simp [Value.ownBlock])⟩
  have K5 := V4.out.below B5
  have X5 : URow w5 x N xs := URow.own OX Q3.out.row.len
  have Q5 := (Q3.out.below B4.out).below B5
  have R5 := R4.out.below B5
  have BB5 : Below w.heap.size w w5 := (B3.trans (B4.out.mono B3.size)).trans (B5.mono (by have := B3.size; omega))
  have s5 : w4.heap.size ≤ w5.heap.size := B5.size
  have hgl : g < w4.heap.size := V4.out.row.lt h0N
  have htl : t < w4.heap.size := V4.out.lt
  have D1 := Lib.hid (asked t g x N capx xs sb w w5 h0N (by omega) N3.out K5 X5 HBB.out BB5 (by omega) (by omega) (by omega) (by omega))
  have F5 : Hid (VecAt w5 (w1.heap.size + 1) w1.heap.size N xs ∧ URow w5 vb N xs ∧ Below w.heap.size w w5 ∧ w3.heap.size ≤ g ∧ g < w4.heap.size ∧ w3.heap.size ≤ t ∧ t < w4.heap.size ∧ w4.heap.size ≤ x ∧ w4.heap.size ≤ w5.heap.size ∧ w3.heap.size ≤ w4.heap.size ∧ vb + 1 ≤ w3.heap.size ∧ x < w5.heap.size) := ⟨Q5, R5, BB5, fg, hgl, ft, htl, hx, s5, s4, s, (OX.lt x rfl).2⟩
  clear OW OX GW hx s s4 B4 B5 V4 K5 X5 Q5 R5 BB5 s5 R4 LL ON Q3 R3 B3 S3 hi hz0 hz1 hz2 zv zw ft fg hgl htl
  go_wp2_with (first | (go_at_call 15; (with_reducible refine D1.out.mono ?_); rintro e w6 ⟨rfl, hx⟩; have HX := Lib.hid hx; clear hx))
  obtain ⟨ys, n6, k6, x6, t6⟩ := HX.out
  obtain ⟨q5, r5, b5, g3, g4, t3, t4, hx4, s5, s4, s3, xl⟩ := F5.out
  obtain ⟨zv, zw⟩ := Z.out
  have q6 := q5.only t6 (by simp; omega) (by simp; omega)
  have r6 := r5.only t6 (by simp; omega)
  have b6 : Below w.heap.size w w6 := b5.trans (t6.below (by simp; omega) (by omega))
  have z6 := t6.size
  have D2 := Lib.hid (asked (w1.heap.size + 1) w1.heap.size vb N N xs sc w w6 h0N (by omega) N3.out q6 r6 HCC.out b6 (by omega) (by omega) (by omega) (by omega))
  have F6 : Hid (VecAt w6 t g N ys ∧ URow w6 x N ys ∧ Below w.heap.size w w6 ∧ w5.heap.size ≤ w6.heap.size) := ⟨k6, x6, b6, z6⟩
  clear HX k6 x6 t6 q5 r5 b5 g3 g4 hx4 s5 s4 s3 xl q6 r6 b6 z6 D1 zv zw t3 t4 n6
  go_wp2_with (first | (go_at_call 15; (with_reducible refine D2.out.mono ?_); rintro e w7 ⟨rfl, hx⟩; have HX := Lib.hid hx; clear hx))
  obtain ⟨zs, _, _, _, t7⟩ := HX.out
  obtain ⟨_, _, _, g3, g4, t3, t4, hx4, s5, s4, s3, xl⟩ := F5.out
  obtain ⟨zv, zw⟩ := Z.out
  obtain ⟨k6, x6, b6, z6⟩ := F6.out
  have k7 := k6.only t7 (by simp; omega) (by simp; omega)
  have x7 := x6.only t7 (by simp; omega)
  have b7 : Below w.heap.size w w7 := b6.trans (t7.below (by simp; omega) (by omega))
  have AL := Lib.hid (sl_all t g N ys w7 k7 h0N (by omega))
  have SM : Hid (∀ (W : World) (g' cap base : Nat), W.ownsRow base 26 1 (.slice (some ⟨g', 0, none⟩) N cap) N (ys.map (Value.int .u64)) → Below w7.heap.size w7 W → Calls Try.prog 17 #[.slice (some ⟨g', 0, none⟩) N cap, .slice (some ⟨x, 0, none⟩) N capx] W fun e w' => e = .returned (.bool true) ∧ ∃ k, w' = W.drewN k) := fun W g' cap base ho hb => same_u64 g' 0 cap x 0 capx N (fun i => ys.getD i 0) W (by omega) (fun i hi => by rw [Nat.zero_add]; exact (URow.own ho k7.row.len).c i hi) (fun i hi => by rw [Nat.zero_add]; exact (x7.below hb).c i hi)
  have B7 := Lib.hid b7
  clear HX t7 g3 g4 hx4 s5 s4 s3 xl k6 x6 b6 z6 k7 x7 b7 D2 zv zw t3 t4
  go_wp2_with (fail)
  refine AL.out.mono ?_
  rintro e w8 ⟨g', cap', rfl, hown, hb8⟩
  have SM8 := Lib.hid (SM.out w8 g' cap' _ hown hb8)
  have B8 := Lib.hid hb8
  clear hown hb8 AL SM
  go_wp2_with (first | (go_at_call 17; (with_reducible refine SM8.out.mono ?_); rintro e w' ⟨rfl, kk, rfl⟩))
  go_ret
  exact ⟨rfl, below_drewN (B7.out.trans (B8.out.mono B7.out.size)) _⟩
end Go.Proofs.Ytojokfckjhcknaa
