/- HeapAll: the walk of the law. -/

import Derived.Test.YtcjgfoojbiagnaaPlaysB
import Derived.Laws.OwnMore
import Derived.WalkSmall
namespace Go.Proofs.Ytcjgfoojbiagnaa
open Go.ChangeShapes Go.WideShapes Go.ChangeAt Go.RowKit
open Go.ChangeMaps (open_string shut_string)
set_option linter.unusedVariables false
theorem RowAt.two {w w' : World} {h r n c m : Nat} {xs : List Int} (q : RowAt w h r n xs) (h0 : 0 < n) (t : Two c m w w') (h1 : h ≠ c) (h2 : h ≠ m) (h3 : r ≠ c) (h4 : r ≠ m) : RowAt w' h r n xs := by
  have hr : r < w.heap.size := World.block_lt_of_cell? w _ (q.c 0 h0)
  exact ⟨q.hs.imp fun _ e => (t.cell q.lt h1 h2).trans e, q.len, fun i hi => (t.cell hr h3 h4).trans (q.c i hi), fun i hi => (World.frozen?_of_block (t.block r hr h3 h4)).trans (q.f i hi), q.ne, Nat.lt_of_lt_of_le q.lt t.size⟩
theorem WRow.two {w w' : World} {v n c m : Nat} {xs : List Int} (q : WRow w v n xs) (h0 : 0 < n) (t : Two c m w w') (h3 : v ≠ c) (h4 : v ≠ m) : WRow w' v n xs := by
  have hr : v < w.heap.size := World.block_lt_of_cell? w _ (q.c 0 h0)
  exact ⟨fun i hi => (t.cell hr h3 h4).trans (q.c i hi), fun i hi => (World.frozen?_of_block (t.block v hr h3 h4)).trans (q.f i hi)⟩
theorem WRow.own {w : World} {g n cap base : Nat} {e : TypeId} {xs : List Int} (h : w.ownsRow base e 1 (.slice (some ⟨g, 0, none⟩) n cap) n (xs.map (Value.int .u64))) (hl : xs.length = n) : WRow w g n xs :=
  ⟨fun i hi => by rw [h.cellAt i (by omega), List.getElem?_map, List.getD_eq_getElem?_getD, List.getElem?_eq_getElem (by omega)]; rfl, fun i _ => h.frozenAt i⟩
def heldv (a lo hi : Int) : Int := if a < lo then lo else if hi < a then hi else a
theorem held_of (a lo hi : Int) (w : World) : Calls Try.prog 14 #[.int .i64 a, .int .i64 lo, .int .i64 hi] w fun e w' => e = .returned (.int .i64 (heldv a lo hi)) ∧ w = w' := by
  by_cases h1 : a < lo
  · have e : heldv a lo hi = lo := by simp [heldv, h1]
    rw [e]
    clear e
    go_enter Try.func14, Try.ntmps14
    go_wp2
    go_ret
    exact ⟨rfl, rfl⟩
  · by_cases h2 : hi < a
    · have e : heldv a lo hi = hi := by simp [heldv, h1, h2]
      rw [e]
      clear e
      go_enter Try.func14, Try.ntmps14
      go_wp2
      go_ret
      exact ⟨rfl, rfl⟩
    · have e : heldv a lo hi = a := by simp [heldv, h1, h2]
      rw [e]
      clear e
      go_enter Try.func14, Try.ntmps14
      go_wp2
      go_ret
      exact ⟨rfl, rfl⟩

theorem heldv_nat (a : Int) (N : Nat) (h : 0 < N) : ∃ k : Nat, heldv a 0 ((N : Int) - 1) = (k : Int) ∧ k < N := by
  refine ⟨(heldv a 0 ((N : Int) - 1)).toNat, ?_, ?_⟩ <;> unfold heldv <;> split <;> (try split) <;> omega
set_option maxRecDepth 100000 in
set_option maxHeartbeats 2000000 in
theorem all_law (n : Int) (sa : Value) (at' : Int) (w : World) (ha : AskArg w sa) : Calls Try.prog 6 #[.int .i64 n, sa, .int .i64 at'] w fun e w' => e = .returned (.bool true) ∧ Below w.heap.size w w' := by
  have HA := Lib.hid ha
  clear ha
  have HV := Lib.hid (hv_bd n)
  have hmk : ∀ w : World, _ := fun w => mk_row (hv n) (by have := (hv_bd n).1; omega) (by have := (hv_bd n).2; omega) w
  go_enter Try.func6, Try.ntmps6
  go_wp2_with (first | (go_at_call 3; (with_reducible refine (runs_any _).mono ?_); rintro e w1 ⟨rfl, hb1⟩; have B1 : Below w.heap.size w w1 := (by refine Below.trans ?_ (hb1.mono (by first | (simp; done) | (have := (Below.refl 0 w).size; simp; omega))); repeat (first | exact Below.refl _ _ | assumption | refine Below.setCell ?_ (by first | (simp; done) | (have := (Below.refl 0 w).size; simp; omega)) _ | refine Below.alloc ?_ (by first | (simp; done) | (have := (Below.refl 0 w).size; simp; omega)) _ | refine Below.drew ?_)); clear hb1))
  go_wp2_with (first | (go_at_call 7; (with_reducible refine (new_any _ _).mono ?_); rintro e w0 ⟨rfl, hw0⟩; have HW := Lib.hid hw0; clear hw0))
  go_wp2_with (fail)
  have b32 := HV.out.1
  have b256 := HV.out.2
  have R0 : RowAt w0 (w1.heap.size + 1) w1.heap.size (hv n).toNat (List.replicate (hv n).toNat 0) := by rw [HW.out]; exact rowAt_newW w1 n
  have z0 : w0.heap.size = w1.heap.size + 1 + 1 := by rw [HW.out]; simp [newW]
  have B0 : Below w.heap.size w w0 := B1.trans (by rw [HW.out]; exact (below_newW w1 n).mono B1.size)
  have D := Lib.hid (asked (w1.heap.size + 1) w1.heap.size w0.heap.size (hv n).toNat (hv n).toNat _ sa w (w0.alloc (.cells (madeCells #[.int .u64 0] (hv n).toNat) 26)) (by omega) (by omega) (R0.below (by omega) (balloc _ _)) (wrow_made w0 _) HA.out (B0.alloc B0.size _) B1.size B0.size (by omega) (by omega))
  have NN : Hid (∃ N : Nat, (hv n).toNat = N ∧ 0 < N ∧ N ≤ 256) := ⟨_, rfl, by omega, by omega⟩
  have Z : Hid (w0.heap.size = w1.heap.size + 1 + 1 ∧ w.heap.size ≤ w1.heap.size) := ⟨z0, B1.size⟩
  clear R0 z0 b32 b256
  go_wp2_with (first | (go_at_call 14; (with_reducible refine (held_any _ _).mono ?_); rintro e w' ⟨rfl, rfl⟩))
  go_wp2_with (first | (go_at_call 13; (with_reducible refine D.out.mono ?_); rintro e w3 ⟨rfl, hx⟩; have HX := Lib.hid hx; clear hx))
  obtain ⟨xs, q3, r3, t3⟩ := HX.out
  have B3 : Below w.heap.size w w3 := (B0.alloc B0.size _).trans (t3.below B1.size B0.size (by simp; have := B0.size; omega))
  have s3 : w0.heap.size + 1 ≤ w3.heap.size := by have := t3.size; simpa using this
  have S3 : Hid (w0.heap.size + 1 ≤ w3.heap.size) := s3
  have Q3 := Lib.hid q3
  have R3 := Lib.hid r3
  clear HX D q3 r3 t3 s3 HW
  obtain ⟨N, hN, h0N, hN1⟩ := NN.out
  rw [hN] at Q3 R3 ⊢
  generalize w0.heap.size = vb at *
  clear hN NN B0 HV hmk
  have AL := Lib.hid (all_row _ _ N xs w3 Q3.out h0N (by omega))
  have hnn : (((N : Nat) : Int) != (N : Int)) = false := by simp
  go_wp2_with (first | (go_at_call 11; (with_reducible refine AL.out.mono ?_); rintro e w4 ⟨g, cap, rfl, hown, hb⟩; have HO := Lib.hid hown; have HB := Lib.hid hb; clear hown hb))
  obtain ⟨k, hk, hkN⟩ := heldv_nat at' N h0N
  have HE : ∀ w : World, Calls Try.prog 14 #[.int .i64 at', .int .i64 0, .int .i64 ((N : Int) - 1)] w fun e w' => e = .returned (.int .i64 k) ∧ w = w' := fun w => by have := held_of at' 0 ((N : Int) - 1) w; rwa [hk] at this
  have HH := Lib.hid HE
  clear HE hk
  have W4 := WRow.own HO.out Q3.out.len
  have ck := W4.c k hkN
  have fk := W4.f k hkN
  have hg : w3.heap.size ≤ g := (HO.out.lt g rfl).1
  have hk0 : (0 : Int) ≤ (k : Int) := by omega
  have hk1 : (k : Int) < (N : Int) := by omega
  have DN : ∀ u : Int, Calls Try.prog 13 #[ptr (w1.heap.size + 1), .slice (some ⟨vb, 0, none⟩) N N, .slice none 0 0] (w4.setCell ⟨g, k, none⟩ (.int .u64 u)) (LoopPost (w1.heap.size + 1) w1.heap.size vb N (w4.setCell ⟨g, k, none⟩ (.int .u64 u))) := fun u => by
    have s := S3.out
    have zv := Z.out.1
    exact asked_empty _ _ _ N N xs none 0 _ h0N (by omega) ((Q3.out.below h0N HB.out).other (by omega) (by omega) _) ((R3.out.below h0N HB.out).other (by omega) _)
  have HD := Lib.hid DN
  have HG : Hid (w3.heap.size ≤ g) := hg
  clear W4 DN hg
  generalize xs.getD k 0 = y at *
  go_wp2_with (first | (go_at_call 14; (with_reducible refine (HH.out _).mono ?_); rintro e w' ⟨rfl, rfl⟩) | (go_at_call 13; (with_reducible refine (HD.out _).mono ?_); rintro e w5 ⟨rfl, hx⟩; have HX := Lib.hid hx; clear hx))
  go_ret
  obtain ⟨ys, _, _, t5⟩ := HX.out
  obtain ⟨zv, zw⟩ := Z.out
  have s := S3.out
  have s4 := HB.out.size
  refine ⟨rfl, ((B3.trans (HB.out.mono B3.size)).setCell ?_ _).trans (t5.below (by omega) (by omega) (by simp; omega))⟩
  have := HG.out
  simp
  omega
end Go.Proofs.Ytcjgfoojbiagnaa
