/- LockRuns: chapter 1's runs. -/

import Derived.Test.YtekndgioebfmbaaBytes
import Derived.Test.YtekndgioebfmbaaRead
import Derived.Handy
namespace Go.Proofs.Ytekndgioebfmbaa
open Go.ChangeShapes Go.WideShapes Go.ChangeAt Go.RowKit
open Go.ChangeMaps (open_string shut_string)
set_option linter.unusedVariables false
set_option maxRecDepth 100000 in
set_option maxHeartbeats 1000000 in
theorem runs_any (w : World) : Calls Try.prog 3 #[] w fun e w' => e = .returned (.bool true) ∧ Below w.heap.size w w' := by
  have e1 : freeV 5 = 5 := by decide
  have e2 : freeK 5 = true := by decide
  have e3 : takeK 5 false 0 2 = true := by decide
  have e4 : takeV 5 false 0 2 = 5 := by decide
  have e5 : takeO 5 false 0 2 = 2 := by decide
  have e6 : dropK 5 true 2 7 = true := by decide
  have e7 : dropV 5 true 2 7 = 7 := by decide
  have e8 : fitsB 7 false 0 7 = true := by decide
  have e9 : fitsB 7 false 0 6 = false := by decide
  have e10 : isB 5 true 2 = true := by decide
  have e11 : strB 5 true 2 = ⟨#[0, 0, 0, 0, 0, 0, 0, 5, 3]⟩ := by decide
  go_enter Try.func3, Try.ntmps3
  go_wp2_with (first | (go_at_call 8; refine Calls.mono (free_any _ _) ?_; rintro e w1 ⟨rfl, rfl⟩))
  go_wp2_with (first | (go_at_call 9; refine (take_any _ _ _ _ _).mono ?_; rintro e w2 ⟨rfl, hb2⟩; have B2 : Below w.heap.size w w2 := (by refine Below.trans ?_ (hb2.mono (by have := (Below.refl 0 w).size; simp; omega)); repeat (first | exact Below.refl _ _ | assumption | refine Below.setCell ?_ (by first | (simp; done) | (have := (Below.refl 0 w).size; simp; omega)) _ | refine Below.alloc ?_ (by first | (simp; done) | (have := (Below.refl 0 w).size; simp; omega)) _ | refine Below.drew ?_)); clear hb2))
  go_wp2_with (first | (go_at_call 10; refine (drop_any _ _ _ _ _).mono ?_; rintro e w3 ⟨rfl, hb3⟩; have K3 := keepC hb3 (L := [(⟨w2.heap.size, 0, none⟩, .int .u64 5), (⟨w2.heap.size, 1, none⟩, .bool true), (⟨w2.heap.size, 2, none⟩, .int .i64 2)]) (by simp [AllC, *, go_sem]); simp only [AllC] at K3; obtain ⟨c3_0, c3_1, c3_2, -⟩ := K3; have B3 : Below w.heap.size w w3 := (by refine Below.trans ?_ (hb3.mono (by have := (B2).size; simp; omega)); repeat (first | exact Below.refl _ _ | assumption | refine Below.setCell ?_ (by first | (simp; done) | (have := (B2).size; simp; omega)) _ | refine Below.alloc ?_ (by first | (simp; done) | (have := (B2).size; simp; omega)) _ | refine Below.drew ?_)); clear hb3))
  go_wp2_with (first | (go_at_call 11; refine (bytes_any _ _ _ _ (by decide)).mono ?_; rintro e w4 ⟨rfl, hb4⟩; have K4 := keepC hb4 (L := [(⟨w2.heap.size, 0, none⟩, .int .u64 5), (⟨w2.heap.size, 1, none⟩, .bool true), (⟨w2.heap.size, 2, none⟩, .int .i64 2), (⟨w3.heap.size, 0, none⟩, .int .u64 7), (⟨w3.heap.size, 1, none⟩, .bool false), (⟨w3.heap.size, 2, none⟩, .int .i64 0)]) (by simp [AllC, *, go_sem]); simp only [AllC] at K4; obtain ⟨c4_0, c4_1, c4_2, c4_3, c4_4, c4_5, -⟩ := K4; have B4 : Below w.heap.size w w4 := (by refine Below.trans ?_ (hb4.mono (by have := (B3).size; simp; omega)); repeat (first | exact Below.refl _ _ | assumption | refine Below.setCell ?_ (by first | (simp; done) | (have := (B3).size; simp; omega)) _ | refine Below.alloc ?_ (by first | (simp; done) | (have := (B3).size; simp; omega)) _ | refine Below.drew ?_)); clear hb4))
  go_wp2_with (first | (go_at_call 12; refine (fits_any _ _ _ _ _).mono ?_; rintro e w5 ⟨rfl, hb5⟩; have K5 := keepC hb5 (L := [(⟨w2.heap.size, 0, none⟩, .int .u64 5), (⟨w2.heap.size, 1, none⟩, .bool true), (⟨w2.heap.size, 2, none⟩, .int .i64 2), (⟨w3.heap.size, 0, none⟩, .int .u64 7), (⟨w3.heap.size, 1, none⟩, .bool false), (⟨w3.heap.size, 2, none⟩, .int .i64 0)]) (by simp [AllC, *, go_sem]); simp only [AllC] at K5; obtain ⟨c5_0, c5_1, c5_2, c5_3, c5_4, c5_5, -⟩ := K5; have B5 : Below w.heap.size w w5 := (by refine Below.trans ?_ (hb5.mono (by have := (B4).size; simp; omega)); repeat (first | exact Below.refl _ _ | assumption | refine Below.setCell ?_ (by first | (simp; done) | (have := (B4).size; simp; omega)) _ | refine Below.alloc ?_ (by first | (simp; done) | (have := (B4).size; simp; omega)) _ | refine Below.drew ?_)); clear hb5))
  go_wp2_with (first | (go_at_call 12; refine (fits_any _ _ _ _ _).mono ?_; rintro e w6 ⟨rfl, hb6⟩; have K6 := keepC hb6 (L := [(⟨w2.heap.size, 0, none⟩, .int .u64 5), (⟨w2.heap.size, 1, none⟩, .bool true), (⟨w2.heap.size, 2, none⟩, .int .i64 2), (⟨w3.heap.size, 0, none⟩, .int .u64 7), (⟨w3.heap.size, 1, none⟩, .bool false), (⟨w3.heap.size, 2, none⟩, .int .i64 0)]) (by simp [AllC, *, go_sem]); simp only [AllC] at K6; obtain ⟨c6_0, c6_1, c6_2, c6_3, c6_4, c6_5, -⟩ := K6; have B6 : Below w.heap.size w w6 := (by refine Below.trans ?_ (hb6.mono (by have := (B5).size; simp; omega)); repeat (first | exact Below.refl _ _ | assumption | refine Below.setCell ?_ (by first | (simp; done) | (have := (B5).size; simp; omega)) _ | refine Below.alloc ?_ (by first | (simp; done) | (have := (B5).size; simp; omega)) _ | refine Below.drew ?_)); clear hb6))
  go_wp2_with (first | (go_at_call 13; refine Calls.mono (is_any _ _ _ _) ?_; rintro e w7 ⟨rfl, rfl⟩))
  go_ret
  refine ⟨rfl, ?_⟩
  exact B6.alloc B6.size _
end Go.Proofs.Ytekndgioebfmbaa
