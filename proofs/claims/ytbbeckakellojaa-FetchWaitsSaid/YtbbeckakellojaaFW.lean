/- FetchWaits: the walk of the law up to its first own object, then every case by the local evaluator. -/

import Derived.Test.YtbbeckakellojaaRows
import Derived.Test.YtbbeckakellojaaRunsC
import Derived.Test.YtbbeckakellojaaLew
import Derived.Test.YtbbeckakellojaaFWZ
import Derived.Test.YtbbeckakellojaaFWA
import Derived.Test.YtbbeckakellojaaFWB
import Derived.Test.YtbbeckakellojaaFWC
import Derived.Test.YtbbeckakellojaaFWD
import Derived.Test.YtbbeckakellojaaFWE
import Derived.Test.YtbbeckakellojaaFWF
import Derived.Test.YtbbeckakellojaaFWG
import Derived.Test.YtbbeckakellojaaFWH
import Derived.WalkKit
import Derived.ProofKit
import Derived.OpenShut
import Derived.ShutString
import Derived.ChangeOld
import Derived.Below
import Derived.Lib.Hide
import Derived.Outline
import Derived.Handy
import Derived.Deep.Cut
namespace Go.Proofs.Ytbbeckakellojaa
open Go.ChangeShapes Go.WideShapes Go.ChangeAt Go.RowKit
open Go.ChangeMaps (open_string shut_string)
set_option linter.unusedVariables false
set_option maxHeartbeats 1000000 in
theorem waits_law (me ow sp lo : Int) (w : World) (b0 : 0 ≤ me ∧ me ≤ 255) (b1 : 0 ≤ ow ∧ ow ≤ 255) (b2 : 0 ≤ sp ∧ sp ≤ 255) (b3 : 0 ≤ lo ∧ lo ≤ 255) : Calls Try.prog 3 #[.int .u8 me, .int .u8 ow, .int .u8 sp, .int .u8 lo] w fun e w' => e = .returned (.bool true) ∧ Below w.heap.size w w' := by
  obtain ⟨x, hx⟩ : ∃ x : Int, me % 4 = x := ⟨_, rfl⟩
  obtain ⟨y, hy⟩ : ∃ x : Int, ow % 4 = x := ⟨_, rfl⟩
  obtain ⟨z, hz⟩ : ∃ x : Int, sp % 6 = x := ⟨_, rfl⟩
  obtain ⟨q, hq⟩ : ∃ x : Int, lo % 10 = x := ⟨_, rfl⟩
  have x0 : 0 ≤ x := by omega
  have x1 : x ≤ 3 := by omega
  have y0 : 0 ≤ y := by omega
  have y1 : y ≤ 3 := by omega
  have z0 : 0 ≤ z := by omega
  have z1 : z ≤ 5 := by omega
  have q0 : 0 ≤ q := by omega
  have q1 : q ≤ 9 := by omega
  go_enter Try.func3, Try.ntmps3
  go_upto_region 5 with (first | (go_at_call 4; (with_reducible refine (runs_any _).mono ?_); rintro e w1 ⟨rfl, hb1⟩; have B1 : Below w.heap.size w w1 := (by refine Below.trans ?_ (hb1.mono (by first | (simp; done) | (have := (Below.refl 0 w).size; simp; omega))); repeat (first | exact Below.refl _ _ | assumption | refine Below.setCell ?_ (by first | (simp; done) | (have := (Below.refl 0 w).size; simp; omega)) _ | refine Below.alloc ?_ (by first | (simp; done) | (have := (Below.refl 0 w).size; simp; omega)) _ | refine Below.drew ?_)); clear hb1))
  refine cut_run (fn := Try.f3) (R := fun e w' => e = .returned (.bool true) ∧ Below w.heap.size w w') (fuel := 3000) (nt := 114) (slot := 8) (ls := [Go.Lev.LV.int .u8 me, Go.Lev.LV.int .u8 ow, Go.Lev.LV.int .u8 sp, Go.Lev.LV.int .u8 lo, Go.Lev.LV.undef, Go.Lev.LV.undef, Go.Lev.LV.undef, Go.Lev.LV.undef, Go.Lev.LV.bool false, Go.Lev.LV.int .i64 x, Go.Lev.LV.int .i64 y, Go.Lev.LV.int .i64 z, Go.Lev.LV.int .i64 q, Go.Lev.LV.undef, Go.Lev.LV.undef, Go.Lev.LV.undef, Go.Lev.LV.undef, Go.Lev.LV.undef, Go.Lev.LV.undef, Go.Lev.LV.undef, Go.Lev.LV.bool true, Go.Lev.LV.bool false, Go.Lev.LV.int .u8 me, Go.Lev.LV.int .u8 (me % 4), Go.Lev.LV.int .i64 x, Go.Lev.LV.int .u8 ow, Go.Lev.LV.int .u8 (ow % 4), Go.Lev.LV.int .i64 y, Go.Lev.LV.int .u8 sp, Go.Lev.LV.int .u8 (sp % 6), Go.Lev.LV.int .i64 z, Go.Lev.LV.int .u8 lo, Go.Lev.LV.int .u8 (lo % 10), Go.Lev.LV.int .i64 q, Go.Lev.LV.undef, Go.Lev.LV.undef, Go.Lev.LV.undef, Go.Lev.LV.undef, Go.Lev.LV.undef, Go.Lev.LV.undef, Go.Lev.LV.undef, Go.Lev.LV.undef, Go.Lev.LV.undef, Go.Lev.LV.undef, Go.Lev.LV.undef, Go.Lev.LV.undef, Go.Lev.LV.undef, Go.Lev.LV.undef, Go.Lev.LV.undef, Go.Lev.LV.undef, Go.Lev.LV.undef, Go.Lev.LV.undef, Go.Lev.LV.undef, Go.Lev.LV.undef, Go.Lev.LV.undef, Go.Lev.LV.undef, Go.Lev.LV.undef, Go.Lev.LV.undef, Go.Lev.LV.undef, Go.Lev.LV.undef, Go.Lev.LV.undef, Go.Lev.LV.undef, Go.Lev.LV.undef, Go.Lev.LV.undef, Go.Lev.LV.undef, Go.Lev.LV.undef, Go.Lev.LV.undef, Go.Lev.LV.undef, Go.Lev.LV.undef, Go.Lev.LV.undef, Go.Lev.LV.undef, Go.Lev.LV.undef, Go.Lev.LV.undef, Go.Lev.LV.undef, Go.Lev.LV.undef, Go.Lev.LV.undef, Go.Lev.LV.undef, Go.Lev.LV.undef, Go.Lev.LV.undef, Go.Lev.LV.undef, Go.Lev.LV.undef, Go.Lev.LV.undef, Go.Lev.LV.undef, Go.Lev.LV.undef, Go.Lev.LV.undef, Go.Lev.LV.undef, Go.Lev.LV.undef, Go.Lev.LV.undef, Go.Lev.LV.undef, Go.Lev.LV.undef, Go.Lev.LV.undef, Go.Lev.LV.undef, Go.Lev.LV.undef, Go.Lev.LV.undef, Go.Lev.LV.undef, Go.Lev.LV.undef, Go.Lev.LV.undef, Go.Lev.LV.undef, Go.Lev.LV.undef, Go.Lev.LV.undef, Go.Lev.LV.undef, Go.Lev.LV.undef, Go.Lev.LV.undef, Go.Lev.LV.undef, Go.Lev.LV.undef, Go.Lev.LV.undef, Go.Lev.LV.undef, Go.Lev.LV.undef, Go.Lev.LV.undef, Go.Lev.LV.undef, Go.Lev.LV.undef, Go.Lev.LV.undef, Go.Lev.LV.undef, Go.Lev.LV.undef]) (vs := [Value.int .u8 me, Value.int .u8 ow, Value.int .u8 sp, Value.int .u8 lo, undef, undef, undef, undef, Value.bool false, Value.int .i64 x, Value.int .i64 y, Value.int .i64 z, Value.int .i64 q, undef, undef, undef, undef, undef, undef, undef, Value.bool true, Value.bool false, Value.int .u8 me, Value.int .u8 (me % 4), Value.int .i64 x, Value.int .u8 ow, Value.int .u8 (ow % 4), Value.int .i64 y, Value.int .u8 sp, Value.int .u8 (sp % 6), Value.int .i64 z, Value.int .u8 lo, Value.int .u8 (lo % 10), Value.int .i64 q, undef, undef, undef, undef, undef, undef, undef, undef, undef, undef, undef, undef, undef, undef, undef, undef, undef, undef, undef, undef, undef, undef, undef, undef, undef, undef, undef, undef, undef, undef, undef, undef, undef, undef, undef, undef, undef, undef, undef, undef, undef, undef, undef, undef, undef, undef, undef, undef, undef, undef, undef, undef, undef, undef, undef, undef, undef, undef, undef, undef, undef, undef, undef, undef, undef, undef, undef, undef, undef, undef, undef, undef, undef, undef, undef, undef, undef, undef, undef, undef]) ?h (fun r => ?v) rfl (by decide) rfl w1 (by assumption) (fun w' hb => ⟨rfl, B1.trans (hb.mono B1.size)⟩)
  case v =>
    repeat (first | exact vnil | refine vcons (by first | exact vint | exact vbool | exact Go.Lev.VR_undef) ?_)
  case h =>
    obtain ⟨xn, rfl⟩ := Int.eq_ofNat_of_zero_le x0
    obtain ⟨yn, rfl⟩ := Int.eq_ofNat_of_zero_le y0
    obtain ⟨zn, rfl⟩ := Int.eq_ofNat_of_zero_le z0
    obtain ⟨qn, rfl⟩ := Int.eq_ofNat_of_zero_le q0
    have hx1 : xn < 4 := by omega
    have hy1 : yn < 4 := by omega
    have hz1 : zn < 6 := by omega
    have hq1 : qn < 10 := by omega
    clear hx hy hz hq x0 x1 y0 y1 z0 z1 q0 q1 B1
    rcases (show xn = 0 ∨ xn = 1 ∨ xn = 2 ∨ xn = 3 by omega) with rfl | rfl | rfl | rfl
    · rcases (show yn = 0 ∨ yn = 1 ∨ yn = 2 ∨ yn = 3 by omega) with rfl | rfl | rfl | rfl
      · rcases (show zn = 0 ∨ zn = 1 ∨ zn = 2 ∨ zn = 3 ∨ zn = 4 ∨ zn = 5 by omega) with rfl | rfl | rfl | rfl | rfl | rfl
        · exact part_0_0_0 me ow sp lo qn hq1
        · exact part_0_0_1 me ow sp lo qn hq1
        · exact part_0_0_2 me ow sp lo qn hq1
        · exact part_0_0_3 me ow sp lo qn hq1
        · exact part_0_0_4 me ow sp lo qn hq1
        · exact part_0_0_5 me ow sp lo qn hq1
      · rcases (show zn = 0 ∨ zn = 1 ∨ zn = 2 ∨ zn = 3 ∨ zn = 4 ∨ zn = 5 by omega) with rfl | rfl | rfl | rfl | rfl | rfl
        · exact part_0_1_0 me ow sp lo qn hq1
        · exact part_0_1_1 me ow sp lo qn hq1
        · exact part_0_1_2 me ow sp lo qn hq1
        · exact part_0_1_3 me ow sp lo qn hq1
        · exact part_0_1_4 me ow sp lo qn hq1
        · exact part_0_1_5 me ow sp lo qn hq1
      · rcases (show zn = 0 ∨ zn = 1 ∨ zn = 2 ∨ zn = 3 ∨ zn = 4 ∨ zn = 5 by omega) with rfl | rfl | rfl | rfl | rfl | rfl
        · exact part_0_2_0 me ow sp lo qn hq1
        · exact part_0_2_1 me ow sp lo qn hq1
        · exact part_0_2_2 me ow sp lo qn hq1
        · exact part_0_2_3 me ow sp lo qn hq1
        · exact part_0_2_4 me ow sp lo qn hq1
        · exact part_0_2_5 me ow sp lo qn hq1
      · rcases (show zn = 0 ∨ zn = 1 ∨ zn = 2 ∨ zn = 3 ∨ zn = 4 ∨ zn = 5 by omega) with rfl | rfl | rfl | rfl | rfl | rfl
        · exact part_0_3_0 me ow sp lo qn hq1
        · exact part_0_3_1 me ow sp lo qn hq1
        · exact part_0_3_2 me ow sp lo qn hq1
        · exact part_0_3_3 me ow sp lo qn hq1
        · exact part_0_3_4 me ow sp lo qn hq1
        · exact part_0_3_5 me ow sp lo qn hq1
    · rcases (show yn = 0 ∨ yn = 1 ∨ yn = 2 ∨ yn = 3 by omega) with rfl | rfl | rfl | rfl
      · rcases (show zn = 0 ∨ zn = 1 ∨ zn = 2 ∨ zn = 3 ∨ zn = 4 ∨ zn = 5 by omega) with rfl | rfl | rfl | rfl | rfl | rfl
        · exact part_1_0_0 me ow sp lo qn hq1
        · exact part_1_0_1 me ow sp lo qn hq1
        · exact part_1_0_2 me ow sp lo qn hq1
        · exact part_1_0_3 me ow sp lo qn hq1
        · exact part_1_0_4 me ow sp lo qn hq1
        · exact part_1_0_5 me ow sp lo qn hq1
      · rcases (show zn = 0 ∨ zn = 1 ∨ zn = 2 ∨ zn = 3 ∨ zn = 4 ∨ zn = 5 by omega) with rfl | rfl | rfl | rfl | rfl | rfl
        · exact part_1_1_0 me ow sp lo qn hq1
        · exact part_1_1_1 me ow sp lo qn hq1
        · exact part_1_1_2 me ow sp lo qn hq1
        · exact part_1_1_3 me ow sp lo qn hq1
        · exact part_1_1_4 me ow sp lo qn hq1
        · exact part_1_1_5 me ow sp lo qn hq1
      · rcases (show zn = 0 ∨ zn = 1 ∨ zn = 2 ∨ zn = 3 ∨ zn = 4 ∨ zn = 5 by omega) with rfl | rfl | rfl | rfl | rfl | rfl
        · exact part_1_2_0 me ow sp lo qn hq1
        · exact part_1_2_1 me ow sp lo qn hq1
        · exact part_1_2_2 me ow sp lo qn hq1
        · exact part_1_2_3 me ow sp lo qn hq1
        · exact part_1_2_4 me ow sp lo qn hq1
        · exact part_1_2_5 me ow sp lo qn hq1
      · rcases (show zn = 0 ∨ zn = 1 ∨ zn = 2 ∨ zn = 3 ∨ zn = 4 ∨ zn = 5 by omega) with rfl | rfl | rfl | rfl | rfl | rfl
        · exact part_1_3_0 me ow sp lo qn hq1
        · exact part_1_3_1 me ow sp lo qn hq1
        · exact part_1_3_2 me ow sp lo qn hq1
        · exact part_1_3_3 me ow sp lo qn hq1
        · exact part_1_3_4 me ow sp lo qn hq1
        · exact part_1_3_5 me ow sp lo qn hq1
    · rcases (show yn = 0 ∨ yn = 1 ∨ yn = 2 ∨ yn = 3 by omega) with rfl | rfl | rfl | rfl
      · rcases (show zn = 0 ∨ zn = 1 ∨ zn = 2 ∨ zn = 3 ∨ zn = 4 ∨ zn = 5 by omega) with rfl | rfl | rfl | rfl | rfl | rfl
        · exact part_2_0_0 me ow sp lo qn hq1
        · exact part_2_0_1 me ow sp lo qn hq1
        · exact part_2_0_2 me ow sp lo qn hq1
        · exact part_2_0_3 me ow sp lo qn hq1
        · exact part_2_0_4 me ow sp lo qn hq1
        · exact part_2_0_5 me ow sp lo qn hq1
      · rcases (show zn = 0 ∨ zn = 1 ∨ zn = 2 ∨ zn = 3 ∨ zn = 4 ∨ zn = 5 by omega) with rfl | rfl | rfl | rfl | rfl | rfl
        · exact part_2_1_0 me ow sp lo qn hq1
        · exact part_2_1_1 me ow sp lo qn hq1
        · exact part_2_1_2 me ow sp lo qn hq1
        · exact part_2_1_3 me ow sp lo qn hq1
        · exact part_2_1_4 me ow sp lo qn hq1
        · exact part_2_1_5 me ow sp lo qn hq1
      · rcases (show zn = 0 ∨ zn = 1 ∨ zn = 2 ∨ zn = 3 ∨ zn = 4 ∨ zn = 5 by omega) with rfl | rfl | rfl | rfl | rfl | rfl
        · exact part_2_2_0 me ow sp lo qn hq1
        · exact part_2_2_1 me ow sp lo qn hq1
        · exact part_2_2_2 me ow sp lo qn hq1
        · exact part_2_2_3 me ow sp lo qn hq1
        · exact part_2_2_4 me ow sp lo qn hq1
        · exact part_2_2_5 me ow sp lo qn hq1
      · rcases (show zn = 0 ∨ zn = 1 ∨ zn = 2 ∨ zn = 3 ∨ zn = 4 ∨ zn = 5 by omega) with rfl | rfl | rfl | rfl | rfl | rfl
        · exact part_2_3_0 me ow sp lo qn hq1
        · exact part_2_3_1 me ow sp lo qn hq1
        · exact part_2_3_2 me ow sp lo qn hq1
        · exact part_2_3_3 me ow sp lo qn hq1
        · exact part_2_3_4 me ow sp lo qn hq1
        · exact part_2_3_5 me ow sp lo qn hq1
    · rcases (show yn = 0 ∨ yn = 1 ∨ yn = 2 ∨ yn = 3 by omega) with rfl | rfl | rfl | rfl
      · rcases (show zn = 0 ∨ zn = 1 ∨ zn = 2 ∨ zn = 3 ∨ zn = 4 ∨ zn = 5 by omega) with rfl | rfl | rfl | rfl | rfl | rfl
        · exact part_3_0_0 me ow sp lo qn hq1
        · exact part_3_0_1 me ow sp lo qn hq1
        · exact part_3_0_2 me ow sp lo qn hq1
        · exact part_3_0_3 me ow sp lo qn hq1
        · exact part_3_0_4 me ow sp lo qn hq1
        · exact part_3_0_5 me ow sp lo qn hq1
      · rcases (show zn = 0 ∨ zn = 1 ∨ zn = 2 ∨ zn = 3 ∨ zn = 4 ∨ zn = 5 by omega) with rfl | rfl | rfl | rfl | rfl | rfl
        · exact part_3_1_0 me ow sp lo qn hq1
        · exact part_3_1_1 me ow sp lo qn hq1
        · exact part_3_1_2 me ow sp lo qn hq1
        · exact part_3_1_3 me ow sp lo qn hq1
        · exact part_3_1_4 me ow sp lo qn hq1
        · exact part_3_1_5 me ow sp lo qn hq1
      · rcases (show zn = 0 ∨ zn = 1 ∨ zn = 2 ∨ zn = 3 ∨ zn = 4 ∨ zn = 5 by omega) with rfl | rfl | rfl | rfl | rfl | rfl
        · exact part_3_2_0 me ow sp lo qn hq1
        · exact part_3_2_1 me ow sp lo qn hq1
        · exact part_3_2_2 me ow sp lo qn hq1
        · exact part_3_2_3 me ow sp lo qn hq1
        · exact part_3_2_4 me ow sp lo qn hq1
        · exact part_3_2_5 me ow sp lo qn hq1
      · rcases (show zn = 0 ∨ zn = 1 ∨ zn = 2 ∨ zn = 3 ∨ zn = 4 ∨ zn = 5 by omega) with rfl | rfl | rfl | rfl | rfl | rfl
        · exact part_3_3_0 me ow sp lo qn hq1
        · exact part_3_3_1 me ow sp lo qn hq1
        · exact part_3_3_2 me ow sp lo qn hq1
        · exact part_3_3_3 me ow sp lo qn hq1
        · exact part_3_3_4 me ow sp lo qn hq1
        · exact part_3_3_5 me ow sp lo qn hq1
end Go.Proofs.Ytbbeckakellojaa
