/- LockPasses: the walk of the law, by cases. -/


import Derived.Test.YtekndgioebfmbaaRuns
namespace Go.Proofs.Ytekndgioebfmbaa
open Go.ChangeShapes Go.WideShapes Go.ChangeAt Go.RowKit
open Go.ChangeMaps (open_string shut_string)
set_option linter.unusedVariables false
set_option maxRecDepth 100000 in
set_option maxHeartbeats 1000000 in
theorem passes_a (v x : Int) (a b : Int) (w : World) (h : ¬ v < 4611686018427387904) : Calls Try.prog 5 #[.int .u64 v, .int .u64 x, .int .i64 a, .int .i64 b] w fun e w' => e = .returned (.bool true) ∧ Below w.heap.size w w' := by
  have e1 : freeK v = false := by simp [freeK, h]
  have e2 : freeV v = 0 := by simp [freeV, freeK, h]
  go_enter Try.func5, Try.ntmps5
  go_wp2_with (first | (go_at_call 3; refine (runs_any _).mono ?_; rintro e w1 ⟨rfl, hb1⟩; have B1 : Below w.heap.size w w1 := (by refine Below.trans ?_ (hb1.mono (by first | (simp; done) | (have := (Below.refl 0 w).size; simp; omega))); repeat (first | exact Below.refl _ _ | assumption | refine Below.setCell ?_ (by first | (simp; done) | (have := (Below.refl 0 w).size; simp; omega)) _ | refine Below.alloc ?_ (by first | (simp; done) | (have := (Below.refl 0 w).size; simp; omega)) _ | refine Below.drew ?_)); clear hb1))
  go_wp2_with (first | (go_at_call 8; refine Calls.mono (free_any _ _) ?_; rintro e w' ⟨rfl, rfl⟩))
  go_wp2
  go_ret
  refine ⟨rfl, ?_⟩
  repeat (first | exact Below.refl _ _ | assumption | refine Below.setCell ?_ (by first | (simp; done) | (have := (B1).size; simp; omega)) _ | refine Below.alloc ?_ (by first | (simp; done) | (have := (B1).size; simp; omega)) _ | refine Below.drew ?_)
set_option maxRecDepth 100000 in
set_option maxHeartbeats 1000000 in
theorem passes_b1 (v x : Int) (a b : Int) (w : World) (hv : v < 4611686018427387904) (ha : a < 0) : Calls Try.prog 5 #[.int .u64 v, .int .u64 x, .int .i64 a, .int .i64 b] w fun e w' => e = .returned (.bool true) ∧ Below w.heap.size w w' := by
  have e1 : freeK v = true := by simp [freeK, hv]
  have e2 : freeV v = v := by simp [freeV, freeK, hv]
  have hm : mh a = false := by simp [mh]; omega
  have e3 : takeK v false 0 a = false := by simp [takeK, hm]
  have e4 : takeV v false 0 a = 0 := by simp [takeV, takeK, hm]
  have e5 : takeO v false 0 a = 0 := by simp [takeO, takeK, hm]
  clear hm
  go_enter Try.func5, Try.ntmps5
  go_wp2_with (first | (go_at_call 3; refine (runs_any _).mono ?_; rintro e w1 ⟨rfl, hb1⟩; have B1 : Below w.heap.size w w1 := (by refine Below.trans ?_ (hb1.mono (by first | (simp; done) | (have := (Below.refl 0 w).size; simp; omega))); repeat (first | exact Below.refl _ _ | assumption | refine Below.setCell ?_ (by first | (simp; done) | (have := (Below.refl 0 w).size; simp; omega)) _ | refine Below.alloc ?_ (by first | (simp; done) | (have := (Below.refl 0 w).size; simp; omega)) _ | refine Below.drew ?_)); clear hb1))
  go_wp2_with (first | (go_at_call 8; refine Calls.mono (free_any _ _) ?_; rintro e w' ⟨rfl, rfl⟩))
  go_wp2_with (first | (go_at_call 9; refine (take_any _ _ _ _ _).mono ?_; rintro e w2 ⟨rfl, hb2⟩; have B2 : Below w.heap.size w w2 := (by refine Below.trans ?_ (hb2.mono (by first | (simp; done) | (have := (B1).size; simp; omega))); repeat (first | exact Below.refl _ _ | assumption | refine Below.setCell ?_ (by first | (simp; done) | (have := (B1).size; simp; omega)) _ | refine Below.alloc ?_ (by first | (simp; done) | (have := (B1).size; simp; omega)) _ | refine Below.drew ?_)); clear hb2))
  go_wp2
  go_ret
  refine ⟨rfl, ?_⟩
  repeat (first | exact Below.refl _ _ | assumption | refine Below.setCell ?_ (by first | (simp; done) | (have := (B2).size; simp; omega)) _ | refine Below.alloc ?_ (by first | (simp; done) | (have := (B2).size; simp; omega)) _ | refine Below.drew ?_)
set_option maxRecDepth 100000 in
set_option maxHeartbeats 1000000 in
theorem passes_b2 (v x : Int) (a b : Int) (w : World) (hv : v < 4611686018427387904) (ha : ¬ a < 0) (ha4 : ¬ a < 4) : Calls Try.prog 5 #[.int .u64 v, .int .u64 x, .int .i64 a, .int .i64 b] w fun e w' => e = .returned (.bool true) ∧ Below w.heap.size w w' := by
  have e1 : freeK v = true := by simp [freeK, hv]
  have e2 : freeV v = v := by simp [freeV, freeK, hv]
  have hm : mh a = false := by simp [mh]; omega
  have e3 : takeK v false 0 a = false := by simp [takeK, hm]
  have e4 : takeV v false 0 a = 0 := by simp [takeV, takeK, hm]
  have e5 : takeO v false 0 a = 0 := by simp [takeO, takeK, hm]
  clear hm
  go_enter Try.func5, Try.ntmps5
  go_wp2_with (first | (go_at_call 3; refine (runs_any _).mono ?_; rintro e w1 ⟨rfl, hb1⟩; have B1 : Below w.heap.size w w1 := (by refine Below.trans ?_ (hb1.mono (by first | (simp; done) | (have := (Below.refl 0 w).size; simp; omega))); repeat (first | exact Below.refl _ _ | assumption | refine Below.setCell ?_ (by first | (simp; done) | (have := (Below.refl 0 w).size; simp; omega)) _ | refine Below.alloc ?_ (by first | (simp; done) | (have := (Below.refl 0 w).size; simp; omega)) _ | refine Below.drew ?_)); clear hb1))
  go_wp2_with (first | (go_at_call 8; refine Calls.mono (free_any _ _) ?_; rintro e w' ⟨rfl, rfl⟩))
  go_wp2_with (first | (go_at_call 9; refine (take_any _ _ _ _ _).mono ?_; rintro e w2 ⟨rfl, hb2⟩; have B2 : Below w.heap.size w w2 := (by refine Below.trans ?_ (hb2.mono (by first | (simp; done) | (have := (B1).size; simp; omega))); repeat (first | exact Below.refl _ _ | assumption | refine Below.setCell ?_ (by first | (simp; done) | (have := (B1).size; simp; omega)) _ | refine Below.alloc ?_ (by first | (simp; done) | (have := (B1).size; simp; omega)) _ | refine Below.drew ?_)); clear hb2))
  go_wp2
  go_ret
  refine ⟨rfl, ?_⟩
  repeat (first | exact Below.refl _ _ | assumption | refine Below.setCell ?_ (by first | (simp; done) | (have := (B2).size; simp; omega)) _ | refine Below.alloc ?_ (by first | (simp; done) | (have := (B2).size; simp; omega)) _ | refine Below.drew ?_)
set_option maxRecDepth 100000 in
set_option maxHeartbeats 1000000 in
theorem passes_c1 (v x : Int) (a b : Int) (w : World) (hv : v < 4611686018427387904) (ha : 0 ≤ a) (ha4 : a < 4) (hx : x < v) : Calls Try.prog 5 #[.int .u64 v, .int .u64 x, .int .i64 a, .int .i64 b] w fun e w' => e = .returned (.bool true) ∧ Below w.heap.size w w' := by
  have hm : mh a = true := by simp [mh]; omega
  have hi : isB v false 0 = true := by simp [isB, hv]
  have hi2 : isB v true a = true := by simp [isB, hv, hm]
  have e1 : freeK v = true := by simp [freeK, hv]
  have e2 : freeV v = v := by simp [freeV, freeK, hv]
  have e3 : takeK v false 0 a = true := by simp [takeK, hi, hm]
  have e4 : takeV v false 0 a = v := by simp [takeV, takeK, hi, hm]
  have e5 : takeO v false 0 a = a := by simp [takeO, takeK, hi, hm]
  have e6 : takeK v true a b = false := by simp [takeK]
  have e7 : takeV v true a b = 0 := by simp [takeV, takeK]
  have e8 : takeO v true a b = 0 := by simp [takeO, takeK]
  have e9 : fitsB v true a 4611686018427387904 = false := by simp [fitsB]
  have e10 : dropK v true a x = false := by simp [dropK]; omega
  have e11 : dropV v true a x = 0 := by simp [dropV, e10]
  clear hm hi hi2
  go_enter Try.func5, Try.ntmps5
  go_wp2_with (first | (go_at_call 3; refine (runs_any _).mono ?_; rintro e w1 ⟨rfl, hb1⟩; have B1 : Below w.heap.size w w1 := (by refine Below.trans ?_ (hb1.mono (by first | (simp; done) | (have := (Below.refl 0 w).size; simp; omega))); repeat (first | exact Below.refl _ _ | assumption | refine Below.setCell ?_ (by first | (simp; done) | (have := (Below.refl 0 w).size; simp; omega)) _ | refine Below.alloc ?_ (by first | (simp; done) | (have := (Below.refl 0 w).size; simp; omega)) _ | refine Below.drew ?_)); clear hb1))
  go_wp2_with (first | (go_at_call 8; refine Calls.mono (free_any _ _) ?_; rintro e w' ⟨rfl, rfl⟩))
  go_wp2_with (first | (go_at_call 9; refine (take_any _ _ _ _ _).mono ?_; rintro e w2 ⟨rfl, hb2⟩; have B2 : Below w.heap.size w w2 := (by refine Below.trans ?_ (hb2.mono (by first | (simp; done) | (have := (B1).size; simp; omega))); repeat (first | exact Below.refl _ _ | assumption | refine Below.setCell ?_ (by first | (simp; done) | (have := (B1).size; simp; omega)) _ | refine Below.alloc ?_ (by first | (simp; done) | (have := (B1).size; simp; omega)) _ | refine Below.drew ?_)); clear hb2))
  go_wp2_with (first | (go_at_call 9; refine (take_any _ _ _ _ _).mono ?_; rintro e w3 ⟨rfl, hb3⟩; have K3 := keepC hb3 (L := [(⟨w2.heap.size, 0, none⟩, .int .u64 v), (⟨w2.heap.size, 1, none⟩, .bool true), (⟨w2.heap.size, 2, none⟩, .int .i64 a)]) (by simp [AllC, *, go_sem]); simp only [AllC] at K3; obtain ⟨c3_0, c3_1, c3_2, -⟩ := K3; have B3 : Below w.heap.size w w3 := (by refine Below.trans ?_ (hb3.mono (by first | (simp; done) | (have := (B2).size; simp; omega))); repeat (first | exact Below.refl _ _ | assumption | refine Below.setCell ?_ (by first | (simp; done) | (have := (B2).size; simp; omega)) _ | refine Below.alloc ?_ (by first | (simp; done) | (have := (B2).size; simp; omega)) _ | refine Below.drew ?_)); clear hb3))
  go_wp2_with (first | (go_at_call 10; refine (drop_any _ _ _ _ _).mono ?_; rintro e w4 ⟨rfl, hb4⟩; have K4 := keepC hb4 (L := [(⟨w2.heap.size, 0, none⟩, .int .u64 v), (⟨w2.heap.size, 1, none⟩, .bool true), (⟨w2.heap.size, 2, none⟩, .int .i64 a)]) (by simp [AllC, *, go_sem]); simp only [AllC] at K4; obtain ⟨c4_0, c4_1, c4_2, -⟩ := K4; have B4 : Below w.heap.size w w4 := (by refine Below.trans ?_ (hb4.mono (by first | (simp; done) | (have := (B3).size; simp; omega))); repeat (first | exact Below.refl _ _ | assumption | refine Below.setCell ?_ (by first | (simp; done) | (have := (B3).size; simp; omega)) _ | refine Below.alloc ?_ (by first | (simp; done) | (have := (B3).size; simp; omega)) _ | refine Below.drew ?_)); clear hb4))
  go_wp2_with (first | (go_at_call 12; refine (fits_any _ _ _ _ _).mono ?_; rintro e w5 ⟨rfl, hb5⟩; have K5 := keepC hb5 (L := [(⟨w2.heap.size, 0, none⟩, .int .u64 v), (⟨w2.heap.size, 1, none⟩, .bool true), (⟨w2.heap.size, 2, none⟩, .int .i64 a)]) (by simp [AllC, *, go_sem]); simp only [AllC] at K5; obtain ⟨c5_0, c5_1, c5_2, -⟩ := K5; have B5 : Below w.heap.size w w5 := (by refine Below.trans ?_ (hb5.mono (by first | (simp; done) | (have := (B4).size; simp; omega))); repeat (first | exact Below.refl _ _ | assumption | refine Below.setCell ?_ (by first | (simp; done) | (have := (B4).size; simp; omega)) _ | refine Below.alloc ?_ (by first | (simp; done) | (have := (B4).size; simp; omega)) _ | refine Below.drew ?_)); clear hb5))
  go_wp2
  go_ret
  refine ⟨rfl, ?_⟩
  repeat (first | exact Below.refl _ _ | assumption | refine Below.setCell ?_ (by first | (simp; done) | (have := (B5).size; simp; omega)) _ | refine Below.alloc ?_ (by first | (simp; done) | (have := (B5).size; simp; omega)) _ | refine Below.drew ?_)
set_option maxRecDepth 100000 in
set_option maxHeartbeats 1000000 in
theorem passes_c2 (v x : Int) (a b : Int) (w : World) (hv : v < 4611686018427387904) (ha : 0 ≤ a) (ha4 : a < 4) (hx : ¬ x < v) (hx2 : ¬ x < 4611686018427387904) : Calls Try.prog 5 #[.int .u64 v, .int .u64 x, .int .i64 a, .int .i64 b] w fun e w' => e = .returned (.bool true) ∧ Below w.heap.size w w' := by
  have hm : mh a = true := by simp [mh]; omega
  have hi : isB v false 0 = true := by simp [isB, hv]
  have hi2 : isB v true a = true := by simp [isB, hv, hm]
  have e1 : freeK v = true := by simp [freeK, hv]
  have e2 : freeV v = v := by simp [freeV, freeK, hv]
  have e3 : takeK v false 0 a = true := by simp [takeK, hi, hm]
  have e4 : takeV v false 0 a = v := by simp [takeV, takeK, hi, hm]
  have e5 : takeO v false 0 a = a := by simp [takeO, takeK, hi, hm]
  have e6 : takeK v true a b = false := by simp [takeK]
  have e7 : takeV v true a b = 0 := by simp [takeV, takeK]
  have e8 : takeO v true a b = 0 := by simp [takeO, takeK]
  have e9 : fitsB v true a 4611686018427387904 = false := by simp [fitsB]
  have e10 : dropK v true a x = false := by simp [dropK]; omega
  have e11 : dropV v true a x = 0 := by simp [dropV, e10]
  clear hm hi hi2
  go_enter Try.func5, Try.ntmps5
  go_wp2_with (first | (go_at_call 3; refine (runs_any _).mono ?_; rintro e w1 ⟨rfl, hb1⟩; have B1 : Below w.heap.size w w1 := (by refine Below.trans ?_ (hb1.mono (by first | (simp; done) | (have := (Below.refl 0 w).size; simp; omega))); repeat (first | exact Below.refl _ _ | assumption | refine Below.setCell ?_ (by first | (simp; done) | (have := (Below.refl 0 w).size; simp; omega)) _ | refine Below.alloc ?_ (by first | (simp; done) | (have := (Below.refl 0 w).size; simp; omega)) _ | refine Below.drew ?_)); clear hb1))
  go_wp2_with (first | (go_at_call 8; refine Calls.mono (free_any _ _) ?_; rintro e w' ⟨rfl, rfl⟩))
  go_wp2_with (first | (go_at_call 9; refine (take_any _ _ _ _ _).mono ?_; rintro e w2 ⟨rfl, hb2⟩; have B2 : Below w.heap.size w w2 := (by refine Below.trans ?_ (hb2.mono (by first | (simp; done) | (have := (B1).size; simp; omega))); repeat (first | exact Below.refl _ _ | assumption | refine Below.setCell ?_ (by first | (simp; done) | (have := (B1).size; simp; omega)) _ | refine Below.alloc ?_ (by first | (simp; done) | (have := (B1).size; simp; omega)) _ | refine Below.drew ?_)); clear hb2))
  go_wp2_with (first | (go_at_call 9; refine (take_any _ _ _ _ _).mono ?_; rintro e w3 ⟨rfl, hb3⟩; have K3 := keepC hb3 (L := [(⟨w2.heap.size, 0, none⟩, .int .u64 v), (⟨w2.heap.size, 1, none⟩, .bool true), (⟨w2.heap.size, 2, none⟩, .int .i64 a)]) (by simp [AllC, *, go_sem]); simp only [AllC] at K3; obtain ⟨c3_0, c3_1, c3_2, -⟩ := K3; have B3 : Below w.heap.size w w3 := (by refine Below.trans ?_ (hb3.mono (by first | (simp; done) | (have := (B2).size; simp; omega))); repeat (first | exact Below.refl _ _ | assumption | refine Below.setCell ?_ (by first | (simp; done) | (have := (B2).size; simp; omega)) _ | refine Below.alloc ?_ (by first | (simp; done) | (have := (B2).size; simp; omega)) _ | refine Below.drew ?_)); clear hb3))
  go_wp2_with (first | (go_at_call 10; refine (drop_any _ _ _ _ _).mono ?_; rintro e w4 ⟨rfl, hb4⟩; have K4 := keepC hb4 (L := [(⟨w2.heap.size, 0, none⟩, .int .u64 v), (⟨w2.heap.size, 1, none⟩, .bool true), (⟨w2.heap.size, 2, none⟩, .int .i64 a)]) (by simp [AllC, *, go_sem]); simp only [AllC] at K4; obtain ⟨c4_0, c4_1, c4_2, -⟩ := K4; have B4 : Below w.heap.size w w4 := (by refine Below.trans ?_ (hb4.mono (by first | (simp; done) | (have := (B3).size; simp; omega))); repeat (first | exact Below.refl _ _ | assumption | refine Below.setCell ?_ (by first | (simp; done) | (have := (B3).size; simp; omega)) _ | refine Below.alloc ?_ (by first | (simp; done) | (have := (B3).size; simp; omega)) _ | refine Below.drew ?_)); clear hb4))
  go_wp2_with (first | (go_at_call 12; refine (fits_any _ _ _ _ _).mono ?_; rintro e w5 ⟨rfl, hb5⟩; have K5 := keepC hb5 (L := [(⟨w2.heap.size, 0, none⟩, .int .u64 v), (⟨w2.heap.size, 1, none⟩, .bool true), (⟨w2.heap.size, 2, none⟩, .int .i64 a)]) (by simp [AllC, *, go_sem]); simp only [AllC] at K5; obtain ⟨c5_0, c5_1, c5_2, -⟩ := K5; have B5 : Below w.heap.size w w5 := (by refine Below.trans ?_ (hb5.mono (by first | (simp; done) | (have := (B4).size; simp; omega))); repeat (first | exact Below.refl _ _ | assumption | refine Below.setCell ?_ (by first | (simp; done) | (have := (B4).size; simp; omega)) _ | refine Below.alloc ?_ (by first | (simp; done) | (have := (B4).size; simp; omega)) _ | refine Below.drew ?_)); clear hb5))
  go_wp2
  go_ret
  refine ⟨rfl, ?_⟩
  repeat (first | exact Below.refl _ _ | assumption | refine Below.setCell ?_ (by first | (simp; done) | (have := (B5).size; simp; omega)) _ | refine Below.alloc ?_ (by first | (simp; done) | (have := (B5).size; simp; omega)) _ | refine Below.drew ?_)
set_option maxRecDepth 100000 in
set_option maxHeartbeats 1000000 in
theorem passes_d1 (v x : Int) (a b : Int) (w : World) (hv : v < 4611686018427387904) (ha : 0 ≤ a) (ha4 : a < 4) (hx : ¬ x < v) (hx2 : x < 4611686018427387904) (h0 : x = 0) : Calls Try.prog 5 #[.int .u64 v, .int .u64 x, .int .i64 a, .int .i64 b] w fun e w' => e = .returned (.bool true) ∧ Below w.heap.size w w' := by
  have hm : mh a = true := by simp [mh]; omega
  have hi : isB v false 0 = true := by simp [isB, hv]
  have hi2 : isB v true a = true := by simp [isB, hv, hm]
  have e1 : freeK v = true := by simp [freeK, hv]
  have e2 : freeV v = v := by simp [freeV, freeK, hv]
  have e3 : takeK v false 0 a = true := by simp [takeK, hi, hm]
  have e4 : takeV v false 0 a = v := by simp [takeV, takeK, hi, hm]
  have e5 : takeO v false 0 a = a := by simp [takeO, takeK, hi, hm]
  have e6 : takeK v true a b = false := by simp [takeK]
  have e7 : takeV v true a b = 0 := by simp [takeV, takeK]
  have e8 : takeO v true a b = 0 := by simp [takeO, takeK]
  have e9 : fitsB v true a 4611686018427387904 = false := by simp [fitsB]
  have e10 : dropK v true a x = true := by simp [dropK, hi2]; omega
  have e11 : dropV v true a x = x := by simp [dropV, e10]
  have ix : isB x false 0 = true := by simp [isB, hx2]
  have e12 : dropK x false 0 x = false := by simp [dropK]
  have e13 : dropV x false 0 x = 0 := by simp [dropV, e12]
  have e14 : fitsB x false 0 x = true := by simp [fitsB, ix]
  have e15 : fitsB x false 0 (x - 1) = false := by simp [fitsB]; omega
  clear hm hi hi2 ix
  have n0 : (x == 0) = true := by simp [h0]
  clear h0
  go_enter Try.func5, Try.ntmps5
  go_wp2_with (first | (go_at_call 3; refine (runs_any _).mono ?_; rintro e w1 ⟨rfl, hb1⟩; have B1 : Below w.heap.size w w1 := (by refine Below.trans ?_ (hb1.mono (by first | (simp; done) | (have := (Below.refl 0 w).size; simp; omega))); repeat (first | exact Below.refl _ _ | assumption | refine Below.setCell ?_ (by first | (simp; done) | (have := (Below.refl 0 w).size; simp; omega)) _ | refine Below.alloc ?_ (by first | (simp; done) | (have := (Below.refl 0 w).size; simp; omega)) _ | refine Below.drew ?_)); clear hb1))
  go_wp2_with (first | (go_at_call 8; refine Calls.mono (free_any _ _) ?_; rintro e w' ⟨rfl, rfl⟩))
  go_wp2_with (first | (go_at_call 9; refine (take_any _ _ _ _ _).mono ?_; rintro e w2 ⟨rfl, hb2⟩; have B2 : Below w.heap.size w w2 := (by refine Below.trans ?_ (hb2.mono (by first | (simp; done) | (have := (B1).size; simp; omega))); repeat (first | exact Below.refl _ _ | assumption | refine Below.setCell ?_ (by first | (simp; done) | (have := (B1).size; simp; omega)) _ | refine Below.alloc ?_ (by first | (simp; done) | (have := (B1).size; simp; omega)) _ | refine Below.drew ?_)); clear hb2))
  go_wp2_with (first | (go_at_call 9; refine (take_any _ _ _ _ _).mono ?_; rintro e w3 ⟨rfl, hb3⟩; have K3 := keepC hb3 (L := [(⟨w2.heap.size, 0, none⟩, .int .u64 v), (⟨w2.heap.size, 1, none⟩, .bool true), (⟨w2.heap.size, 2, none⟩, .int .i64 a)]) (by simp [AllC, *, go_sem]); simp only [AllC] at K3; obtain ⟨c3_0, c3_1, c3_2, -⟩ := K3; have B3 : Below w.heap.size w w3 := (by refine Below.trans ?_ (hb3.mono (by first | (simp; done) | (have := (B2).size; simp; omega))); repeat (first | exact Below.refl _ _ | assumption | refine Below.setCell ?_ (by first | (simp; done) | (have := (B2).size; simp; omega)) _ | refine Below.alloc ?_ (by first | (simp; done) | (have := (B2).size; simp; omega)) _ | refine Below.drew ?_)); clear hb3))
  go_wp2_with (first | (go_at_call 10; refine (drop_any _ _ _ _ _).mono ?_; rintro e w4 ⟨rfl, hb4⟩; have K4 := keepC hb4 (L := [(⟨w2.heap.size, 0, none⟩, .int .u64 v), (⟨w2.heap.size, 1, none⟩, .bool true), (⟨w2.heap.size, 2, none⟩, .int .i64 a)]) (by simp [AllC, *, go_sem]); simp only [AllC] at K4; obtain ⟨c4_0, c4_1, c4_2, -⟩ := K4; have B4 : Below w.heap.size w w4 := (by refine Below.trans ?_ (hb4.mono (by first | (simp; done) | (have := (B3).size; simp; omega))); repeat (first | exact Below.refl _ _ | assumption | refine Below.setCell ?_ (by first | (simp; done) | (have := (B3).size; simp; omega)) _ | refine Below.alloc ?_ (by first | (simp; done) | (have := (B3).size; simp; omega)) _ | refine Below.drew ?_)); clear hb4))
  go_wp2_with (first | (go_at_call 12; refine (fits_any _ _ _ _ _).mono ?_; rintro e w5 ⟨rfl, hb5⟩; have K5 := keepC hb5 (L := [(⟨w2.heap.size, 0, none⟩, .int .u64 v), (⟨w2.heap.size, 1, none⟩, .bool true), (⟨w2.heap.size, 2, none⟩, .int .i64 a), (⟨w4.heap.size, 0, none⟩, .int .u64 x), (⟨w4.heap.size, 1, none⟩, .bool false), (⟨w4.heap.size, 2, none⟩, .int .i64 0)]) (by simp [AllC, *, go_sem]); simp only [AllC] at K5; obtain ⟨c5_0, c5_1, c5_2, c5_3, c5_4, c5_5, -⟩ := K5; have B5 : Below w.heap.size w w5 := (by refine Below.trans ?_ (hb5.mono (by first | (simp; done) | (have := (B4).size; simp; omega))); repeat (first | exact Below.refl _ _ | assumption | refine Below.setCell ?_ (by first | (simp; done) | (have := (B4).size; simp; omega)) _ | refine Below.alloc ?_ (by first | (simp; done) | (have := (B4).size; simp; omega)) _ | refine Below.drew ?_)); clear hb5))
  go_wp2_with (first | (go_at_call 10; refine (drop_any _ _ _ _ _).mono ?_; rintro e w6 ⟨rfl, hb6⟩; have K6 := keepC hb6 (L := [(⟨w4.heap.size, 0, none⟩, .int .u64 x), (⟨w4.heap.size, 1, none⟩, .bool false), (⟨w4.heap.size, 2, none⟩, .int .i64 0)]) (by simp [AllC, *, go_sem]); simp only [AllC] at K6; obtain ⟨c6_0, c6_1, c6_2, -⟩ := K6; have B6 : Below w.heap.size w w6 := (by refine Below.trans ?_ (hb6.mono (by first | (simp; done) | (have := (B5).size; simp; omega))); repeat (first | exact Below.refl _ _ | assumption | refine Below.setCell ?_ (by first | (simp; done) | (have := (B5).size; simp; omega)) _ | refine Below.alloc ?_ (by first | (simp; done) | (have := (B5).size; simp; omega)) _ | refine Below.drew ?_)); clear hb6))
  go_wp2_with (first | (go_at_call 12; refine (fits_any _ _ _ _ _).mono ?_; rintro e w7 ⟨rfl, hb7⟩; have K7 := keepC hb7 (L := [(⟨w4.heap.size, 0, none⟩, .int .u64 x), (⟨w4.heap.size, 1, none⟩, .bool false), (⟨w4.heap.size, 2, none⟩, .int .i64 0)]) (by simp [AllC, *, go_sem]); simp only [AllC] at K7; obtain ⟨c7_0, c7_1, c7_2, -⟩ := K7; have B7 : Below w.heap.size w w7 := (by refine Below.trans ?_ (hb7.mono (by first | (simp; done) | (have := (B6).size; simp; omega))); repeat (first | exact Below.refl _ _ | assumption | refine Below.setCell ?_ (by first | (simp; done) | (have := (B6).size; simp; omega)) _ | refine Below.alloc ?_ (by first | (simp; done) | (have := (B6).size; simp; omega)) _ | refine Below.drew ?_)); clear hb7))
  go_wp2
  go_ret
  refine ⟨rfl, ?_⟩
  repeat (first | exact Below.refl _ _ | assumption | refine Below.setCell ?_ (by first | (simp; done) | (have := (B7).size; simp; omega)) _ | refine Below.alloc ?_ (by first | (simp; done) | (have := (B7).size; simp; omega)) _ | refine Below.drew ?_)
set_option maxRecDepth 100000 in
set_option maxHeartbeats 1000000 in
theorem passes_d2 (v x : Int) (a b : Int) (w : World) (hv : v < 4611686018427387904) (ha : 0 ≤ a) (ha4 : a < 4) (hx : ¬ x < v) (hx2 : x < 4611686018427387904) (h0 : 0 < x) : Calls Try.prog 5 #[.int .u64 v, .int .u64 x, .int .i64 a, .int .i64 b] w fun e w' => e = .returned (.bool true) ∧ Below w.heap.size w w' := by
  have hm : mh a = true := by simp [mh]; omega
  have hi : isB v false 0 = true := by simp [isB, hv]
  have hi2 : isB v true a = true := by simp [isB, hv, hm]
  have e1 : freeK v = true := by simp [freeK, hv]
  have e2 : freeV v = v := by simp [freeV, freeK, hv]
  have e3 : takeK v false 0 a = true := by simp [takeK, hi, hm]
  have e4 : takeV v false 0 a = v := by simp [takeV, takeK, hi, hm]
  have e5 : takeO v false 0 a = a := by simp [takeO, takeK, hi, hm]
  have e6 : takeK v true a b = false := by simp [takeK]
  have e7 : takeV v true a b = 0 := by simp [takeV, takeK]
  have e8 : takeO v true a b = 0 := by simp [takeO, takeK]
  have e9 : fitsB v true a 4611686018427387904 = false := by simp [fitsB]
  have e10 : dropK v true a x = true := by simp [dropK, hi2]; omega
  have e11 : dropV v true a x = x := by simp [dropV, e10]
  have ix : isB x false 0 = true := by simp [isB, hx2]
  have e12 : dropK x false 0 x = false := by simp [dropK]
  have e13 : dropV x false 0 x = 0 := by simp [dropV, e12]
  have e14 : fitsB x false 0 x = true := by simp [fitsB, ix]
  have e15 : fitsB x false 0 (x - 1) = false := by simp [fitsB]; omega
  clear hm hi hi2 ix
  have n0 : (x == 0) = false := by simp; omega
  go_enter Try.func5, Try.ntmps5
  go_wp2_with (first | (go_at_call 3; refine (runs_any _).mono ?_; rintro e w1 ⟨rfl, hb1⟩; have B1 : Below w.heap.size w w1 := (by refine Below.trans ?_ (hb1.mono (by first | (simp; done) | (have := (Below.refl 0 w).size; simp; omega))); repeat (first | exact Below.refl _ _ | assumption | refine Below.setCell ?_ (by first | (simp; done) | (have := (Below.refl 0 w).size; simp; omega)) _ | refine Below.alloc ?_ (by first | (simp; done) | (have := (Below.refl 0 w).size; simp; omega)) _ | refine Below.drew ?_)); clear hb1))
  go_wp2_with (first | (go_at_call 8; refine Calls.mono (free_any _ _) ?_; rintro e w' ⟨rfl, rfl⟩))
  go_wp2_with (first | (go_at_call 9; refine (take_any _ _ _ _ _).mono ?_; rintro e w2 ⟨rfl, hb2⟩; have B2 : Below w.heap.size w w2 := (by refine Below.trans ?_ (hb2.mono (by first | (simp; done) | (have := (B1).size; simp; omega))); repeat (first | exact Below.refl _ _ | assumption | refine Below.setCell ?_ (by first | (simp; done) | (have := (B1).size; simp; omega)) _ | refine Below.alloc ?_ (by first | (simp; done) | (have := (B1).size; simp; omega)) _ | refine Below.drew ?_)); clear hb2))
  go_wp2_with (first | (go_at_call 9; refine (take_any _ _ _ _ _).mono ?_; rintro e w3 ⟨rfl, hb3⟩; have K3 := keepC hb3 (L := [(⟨w2.heap.size, 0, none⟩, .int .u64 v), (⟨w2.heap.size, 1, none⟩, .bool true), (⟨w2.heap.size, 2, none⟩, .int .i64 a)]) (by simp [AllC, *, go_sem]); simp only [AllC] at K3; obtain ⟨c3_0, c3_1, c3_2, -⟩ := K3; have B3 : Below w.heap.size w w3 := (by refine Below.trans ?_ (hb3.mono (by first | (simp; done) | (have := (B2).size; simp; omega))); repeat (first | exact Below.refl _ _ | assumption | refine Below.setCell ?_ (by first | (simp; done) | (have := (B2).size; simp; omega)) _ | refine Below.alloc ?_ (by first | (simp; done) | (have := (B2).size; simp; omega)) _ | refine Below.drew ?_)); clear hb3))
  go_wp2_with (first | (go_at_call 10; refine (drop_any _ _ _ _ _).mono ?_; rintro e w4 ⟨rfl, hb4⟩; have K4 := keepC hb4 (L := [(⟨w2.heap.size, 0, none⟩, .int .u64 v), (⟨w2.heap.size, 1, none⟩, .bool true), (⟨w2.heap.size, 2, none⟩, .int .i64 a)]) (by simp [AllC, *, go_sem]); simp only [AllC] at K4; obtain ⟨c4_0, c4_1, c4_2, -⟩ := K4; have B4 : Below w.heap.size w w4 := (by refine Below.trans ?_ (hb4.mono (by first | (simp; done) | (have := (B3).size; simp; omega))); repeat (first | exact Below.refl _ _ | assumption | refine Below.setCell ?_ (by first | (simp; done) | (have := (B3).size; simp; omega)) _ | refine Below.alloc ?_ (by first | (simp; done) | (have := (B3).size; simp; omega)) _ | refine Below.drew ?_)); clear hb4))
  go_wp2_with (first | (go_at_call 12; refine (fits_any _ _ _ _ _).mono ?_; rintro e w5 ⟨rfl, hb5⟩; have K5 := keepC hb5 (L := [(⟨w2.heap.size, 0, none⟩, .int .u64 v), (⟨w2.heap.size, 1, none⟩, .bool true), (⟨w2.heap.size, 2, none⟩, .int .i64 a), (⟨w4.heap.size, 0, none⟩, .int .u64 x), (⟨w4.heap.size, 1, none⟩, .bool false), (⟨w4.heap.size, 2, none⟩, .int .i64 0)]) (by simp [AllC, *, go_sem]); simp only [AllC] at K5; obtain ⟨c5_0, c5_1, c5_2, c5_3, c5_4, c5_5, -⟩ := K5; have B5 : Below w.heap.size w w5 := (by refine Below.trans ?_ (hb5.mono (by first | (simp; done) | (have := (B4).size; simp; omega))); repeat (first | exact Below.refl _ _ | assumption | refine Below.setCell ?_ (by first | (simp; done) | (have := (B4).size; simp; omega)) _ | refine Below.alloc ?_ (by first | (simp; done) | (have := (B4).size; simp; omega)) _ | refine Below.drew ?_)); clear hb5))
  go_wp2_with (first | (go_at_call 10; refine (drop_any _ _ _ _ _).mono ?_; rintro e w6 ⟨rfl, hb6⟩; have K6 := keepC hb6 (L := [(⟨w4.heap.size, 0, none⟩, .int .u64 x), (⟨w4.heap.size, 1, none⟩, .bool false), (⟨w4.heap.size, 2, none⟩, .int .i64 0)]) (by simp [AllC, *, go_sem]); simp only [AllC] at K6; obtain ⟨c6_0, c6_1, c6_2, -⟩ := K6; have B6 : Below w.heap.size w w6 := (by refine Below.trans ?_ (hb6.mono (by first | (simp; done) | (have := (B5).size; simp; omega))); repeat (first | exact Below.refl _ _ | assumption | refine Below.setCell ?_ (by first | (simp; done) | (have := (B5).size; simp; omega)) _ | refine Below.alloc ?_ (by first | (simp; done) | (have := (B5).size; simp; omega)) _ | refine Below.drew ?_)); clear hb6))
  go_wp2_with (first | (go_at_call 12; refine (fits_any _ _ _ _ _).mono ?_; rintro e w7 ⟨rfl, hb7⟩; have K7 := keepC hb7 (L := [(⟨w4.heap.size, 0, none⟩, .int .u64 x), (⟨w4.heap.size, 1, none⟩, .bool false), (⟨w4.heap.size, 2, none⟩, .int .i64 0)]) (by simp [AllC, *, go_sem]); simp only [AllC] at K7; obtain ⟨c7_0, c7_1, c7_2, -⟩ := K7; have B7 : Below w.heap.size w w7 := (by refine Below.trans ?_ (hb7.mono (by first | (simp; done) | (have := (B6).size; simp; omega))); repeat (first | exact Below.refl _ _ | assumption | refine Below.setCell ?_ (by first | (simp; done) | (have := (B6).size; simp; omega)) _ | refine Below.alloc ?_ (by first | (simp; done) | (have := (B6).size; simp; omega)) _ | refine Below.drew ?_)); clear hb7))
  go_wp2_with (first | (go_at_call 12; refine (fits_any _ _ _ _ _).mono ?_; rintro e w8 ⟨rfl, hb8⟩; have K8 := keepC hb8 (L := [(⟨w4.heap.size, 0, none⟩, .int .u64 x), (⟨w4.heap.size, 1, none⟩, .bool false), (⟨w4.heap.size, 2, none⟩, .int .i64 0)]) (by simp [AllC, *, go_sem]); simp only [AllC] at K8; obtain ⟨c8_0, c8_1, c8_2, -⟩ := K8; have B8 : Below w.heap.size w w8 := (by refine Below.trans ?_ (hb8.mono (by first | (simp; done) | (have := (B7).size; simp; omega))); repeat (first | exact Below.refl _ _ | assumption | refine Below.setCell ?_ (by first | (simp; done) | (have := (B7).size; simp; omega)) _ | refine Below.alloc ?_ (by first | (simp; done) | (have := (B7).size; simp; omega)) _ | refine Below.drew ?_)); clear hb8))
  go_wp2
  go_ret
  refine ⟨rfl, ?_⟩
  repeat (first | exact Below.refl _ _ | assumption | refine Below.setCell ?_ (by first | (simp; done) | (have := (B8).size; simp; omega)) _ | refine Below.alloc ?_ (by first | (simp; done) | (have := (B8).size; simp; omega)) _ | refine Below.drew ?_)

theorem passes_any (v x : Int) (a b : Int) (w : World) (h0 : 0 ≤ x) : Calls Try.prog 5 #[.int .u64 v, .int .u64 x, .int .i64 a, .int .i64 b] w fun e w' => e = .returned (.bool true) ∧ Below w.heap.size w w' := by
  by_cases hv : v < 4611686018427387904
  · by_cases ha : a < 0
    · exact passes_b1 v x a b w hv ha
    · by_cases ha4 : a < 4
      · by_cases hx : x < v
        · exact passes_c1 v x a b w hv (by omega) ha4 hx
        · by_cases hx2 : x < 4611686018427387904
          · by_cases hz : x = 0
            · exact passes_d1 v x a b w hv (by omega) ha4 hx hx2 hz
            · exact passes_d2 v x a b w hv (by omega) ha4 hx hx2 (by omega)
          · exact passes_c2 v x a b w hv (by omega) ha4 hx hx2
      · exact passes_b2 v x a b w hv ha ha4
  · exact passes_a v x a b w hv
end Go.Proofs.Ytekndgioebfmbaa
