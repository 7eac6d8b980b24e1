/- HeapPlays: the loop of asks where nothing is asked. -/

import Derived.Test.YtcjgfoojbiagnaaDo
namespace Go.Proofs.Ytcjgfoojbiagnaa
open Go.ChangeShapes Go.WideShapes Go.ChangeAt Go.RowKit
open Go.ChangeMaps (open_string shut_string)
set_option linter.unusedVariables false
set_option maxRecDepth 100000 in
set_option maxHeartbeats 2000000 in
theorem asked_empty (h r v n cv : Nat) (xs : List Int) (a : Option Addr) (cap : Nat) (w : World) (h0 : 0 < n) (hn : n ≤ 1000)
    (hR : RowAt w h r n xs) (hW : WRow w v n xs) :
    Calls Try.prog 13 #[ptr h, .slice (some ⟨v, 0, none⟩) n cv, .slice a 0 cap] w (LoopPost h r v n w) := by
  have HR := Lib.hid hR
  have HW := Lib.hid hW
  clear hR hW
  go_enter Try.func13, Try.ntmps13
  go_wp2
  refine wp_loop_rounds 1 ?_
  rw [rounds_succ]
  have AL := Lib.hid (all_row h r n xs w HR.out h0 (by omega))
  have hnn : (((n : Nat) : Int) != (n : Int)) = false := by simp
  go_wp2_with (first | (go_at_call 11; (with_reducible refine AL.out.mono ?_); rintro e w2 ⟨g, cap2, rfl, hown, hb⟩; have q2 := HR.out.below h0 hb; have r2 := HW.out.below h0 hb; have t2 := Lib.hid ((Two.refl r v w).below' hb); obtain ⟨c2, hs2⟩ := q2.hs; have Q2 := Lib.hid q2; have R2 := Lib.hid r2; have O2 := Lib.hid hown; clear q2 r2 hown hb))
  go_wp2_with (first | (go_at_call 10; (with_reducible refine (len_any h r n _ hs2).mono ?_); rintro e w' ⟨rfl, rfl⟩))
  go_loopw [14] (fun u wr2 => ∃ j m : Nat, j ≤ n ∧ u = .int .i64 j ∧ wr2 = w2.drewN m) (fun u _ => n - (intOf u).toNat)
  case atStart => exact ⟨0, 0, by omega, rfl, rfl⟩
  case round =>
    obtain ⟨j, m, hj, rfl, hwr2⟩ := hrel
    subst hwr2
    by_cases hjn : j < n
    · obtain ⟨W, hW⟩ : ∃ W, W = w2.drewN m := ⟨_, rfl⟩
      have c2 : W.cell? ⟨v, j, none⟩ = some (.int .u64 (xs.getD j 0)) := by rw [hW]; exact R2.out.c j hjn
      have c1 : W.cell? ⟨g, j, none⟩ = some (.int .u64 (xs.getD j 0)) := by
        rw [hW]
        have e : (⟨g, 0, none⟩ : Addr).add j = ⟨g, j, none⟩ := by unfold Addr.add; split <;> simp_all
        have := O2.out.cells (g := g) rfl j (.int .u64 (xs.getD j 0)) (by rw [List.getElem?_map, List.getD_eq_getElem?_getD, List.getElem?_eq_getElem (by have := Q2.out.len; omega)]; rfl)
        rw [e] at this
        exact this
      rw [← hW]
      have HWW := Lib.hid hW
      clear hW
      generalize xs.getD j 0 = y at *
      have hyy : (y != y) = false := by simp
      have hj1 : (j : Int) < (n : Int) := by omega
      have hj0 : (0 : Int) ≤ (j : Int) := by omega
      go_wp2
      go_quiet (fail)
      go_wp2
      go_roundw
      case rel => exact ⟨j + 1, m + nq, by omega, by go_num, by rw [HWW.out, World.drewN_drewN]⟩
      case measure => simp [intOf]; omega
    · have hjd : decide ((j : Int) < (n : Int)) = false := by simp; omega
      go_wp2
      go_ret
      have hB : Below w2.heap.size w2 (w2.drewN m) := below_drewN (Below.refl _ _) m
      exact ⟨rfl, xs, Q2.out.below h0 hB, R2.out.below h0 hB, t2.out.drewN m⟩
end Go.Proofs.Ytcjgfoojbiagnaa
