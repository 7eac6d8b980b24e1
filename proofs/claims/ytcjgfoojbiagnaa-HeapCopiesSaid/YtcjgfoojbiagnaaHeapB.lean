/- heap.New, and chapter 2's runs. -/

import Derived.Test.YtcjgfoojbiagnaaHeap
namespace Go.Proofs.Ytcjgfoojbiagnaa
open Go.ChangeShapes Go.WideShapes Go.ChangeAt Go.RowKit
open Go.ChangeMaps (open_string shut_string)
set_option linter.unusedVariables false
def hv (n : Int) : Int := if n < 32 then 32 else if 256 < n then 256 else n
theorem hv_bd (n : Int) : 32 ≤ hv n ∧ hv n ≤ 256 := by unfold hv; split; omega; split <;> omega
theorem mk_row (m : Int) (h0 : 0 ≤ m) (h1 : m ≤ 1000) (w : World) : (Instr.makeSlice 30 (.int .i64 m) (.int .i64 m)).run Try.prog w = .ok (.slice (some ⟨w.heap.size, 0, none⟩) m.toNat m.toNat) (w.alloc (.cells (madeCells #[.int .u64 0] m.toNat) 26)) := by
  obtain ⟨i, hi, hz0, hz1, hz2⟩ := info_parts info_clone
  have := run_make (P := Try.prog) w 30 26 i (.int .u64 0) Try.underlying30 hi hz0 .i64 .i64 m m h0 (Int.le_refl _) (by rw [hz2]; omega) (by omega)
  rw [hz1, show (Value.int .u64 0).cells = #[.int .u64 0] from rfl] at this
  simpa using this
def newW (w : World) (n : Int) : World := (w.alloc (.cells (madeCells #[.int .u64 0] (hv n).toNat) 26)).alloc (.cells #[.slice (some ⟨w.heap.size, 0, none⟩) (hv n).toNat (hv n).toNat] 41)
theorem new_any (n : Int) (w : World) : Calls Try.prog 7 #[.int .i64 n] w fun e w' => e = .returned (ptr (w.heap.size + 1)) ∧ w' = newW w n := by
  have MK := Lib.hid mk_row
  by_cases h1 : n < 32
  · have e : hv n = 32 := by simp [hv, h1]
    have hmk := fun w => MK.out 32 (by decide) (by decide) w
    have E := Lib.hid e
    have hm : ¬ (32 : Int) < n := by omega
    have hm2 : n ≤ 32 := by omega
    clear e
    go_enter Try.func7, Try.ntmps7
    go_wp2
    go_ret
    exact ⟨rfl, by rw [newW, E.out]; rfl⟩
  · by_cases h2 : 256 < n
    · have e : hv n = 256 := by simp [hv, h1, h2]
      have hmk := fun w => MK.out 256 (by decide) (by decide) w
      have E := Lib.hid e
      have hm : (32 : Int) < n := by omega
      clear e
      go_enter Try.func7, Try.ntmps7
      go_wp2
      go_ret
      exact ⟨rfl, by rw [newW, E.out]; rfl⟩
    · have e : hv n = n := by simp [hv, h1, h2]
      have hmk := fun w => MK.out n (by omega) (by omega) w
      have E := Lib.hid e
      clear e
      by_cases h3 : n = 32
      · subst h3
        go_enter Try.func7, Try.ntmps7
        go_wp2
        go_ret
        exact ⟨rfl, by rw [newW, E.out]; rfl⟩
      · have hm : (32 : Int) < n := by omega
        have hm3 : ¬ n < 32 := by omega
        clear h3
        go_enter Try.func7, Try.ntmps7
        go_wp2
        go_ret
        exact ⟨rfl, by rw [newW, E.out]⟩
theorem below_newW (w : World) (n : Int) : Below w.heap.size w (newW w n) := ((Below.refl _ _).alloc (Nat.le_refl _) _).alloc (by simp) _
theorem rowAt_newW (w : World) (n : Int) : RowAt (newW w n) (w.heap.size + 1) w.heap.size (hv n).toNat (List.replicate (hv n).toNat 0) := by
  refine ⟨⟨(hv n).toNat, by simp [newW, World.cell?_alloc_at]⟩, by simp, fun i hi => ?_, fun i hi => ?_, by omega, by simp [newW]⟩
  · rw [newW, World.cell?_alloc_past _ _ _ (by simp), World.cell?_alloc_new]
    simp [madeCells, hi, List.getD_eq_getElem?_getD, List.getElem?_replicate, Nat.mod_one]
  · rw [newW, World.frozen?_alloc_old _ _ _ (by simp), World.frozen?_alloc_new]
set_option maxHeartbeats 1000000 in
theorem runs_any (w : World) : Calls Try.prog 3 #[] w fun e w' => e = .returned (.bool true) ∧ Below w.heap.size w w' := by
  have e40 : (hv 40).toNat = 40 := by decide
  have R0 := Lib.hid (rowAt_newW w 40)
  have S39 := Lib.hid ((rowAt_newW w 40).set 39 (by decide) 7)
  have hx : (List.set (List.replicate (hv 40).toNat (0 : Int)) 39 7).getD 39 0 = 7 := by decide
  have HX := Lib.hid hx
  have E40 := Lib.hid e40
  clear hx e40
  go_enter Try.func3, Try.ntmps3
  go_wp2_with (first | (go_at_call 7; (with_reducible refine (new_any _ _).mono ?_); rintro e w0 ⟨rfl, hw0⟩; have HW := Lib.hid hw0; clear hw0))
  have ST := store_yes (w.heap.size + 1) w.heap.size (hv 40).toNat 39 7 (List.replicate (hv 40).toNat 0) w0 (by rw [HW.out]; exact R0.out) (by decide) (by decide) (by decide)
  refine ST.mono ?_
  rintro e w1 ⟨rfl, hw1⟩
  have Q1 : RowAt w1 (w.heap.size + 1) w.heap.size (hv 40).toNat (List.set (List.replicate (hv 40).toNat (0 : Int)) 39 7) := by rw [hw1, HW.out]; exact S39.out
  have B1 : Below w.heap.size w w1 := by rw [hw1, HW.out]; exact Below.setCell (below_newW w 40) (Nat.le_refl _) _
  have Q := Lib.hid Q1
  clear ST hw1 Q1
  go_wp2_with fail
  have LD := load_yes (w.heap.size + 1) w.heap.size (hv 40).toNat 39 _ w1 Q.out (by decide) (by decide) (by decide)
  rw [HX.out] at LD
  refine LD.mono ?_
  rintro e w' ⟨rfl, rfl⟩
  clear LD
  go_wp2_with fail
  refine (load_no (w.heap.size + 1) w.heap.size (hv 40).toNat 40 w1 Q.out.hs.choose_spec (by decide)).mono ?_
  rintro e w' ⟨rfl, rfl⟩
  go_wp2_with fail
  refine (load_no (w.heap.size + 1) w.heap.size (hv 40).toNat 0 w1 Q.out.hs.choose_spec (by decide)).mono ?_
  rintro e w' ⟨rfl, rfl⟩
  go_wp2_with fail
  have LN := len_any (w.heap.size + 1) w.heap.size (hv 40).toNat w1 Q.out.hs.choose_spec
  rw [E40.out] at LN
  refine LN.mono ?_
  rintro e w' ⟨rfl, rfl⟩
  clear LN
  go_wp2_with fail
  have AL := all_row (w.heap.size + 1) w.heap.size (hv 40).toNat _ w1 Q.out (by decide) (by decide)
  rw [E40.out] at AL
  refine AL.mono ?_
  rintro e w2 ⟨g, cap, rfl, _, hb2⟩
  have B2 : Below w.heap.size w w2 := B1.trans (hb2.mono B1.size)
  have Q2 := Lib.hid (Q.out.below (by decide) hb2)
  clear AL hb2
  go_wp2_with fail
  refine (copy_row (w.heap.size + 1) w.heap.size (hv 40).toNat _ w2 Q2.out (by decide) (by decide)).mono ?_
  rintro e w' ⟨w3, g3, cap3, rfl, _, hb3, rfl⟩
  have B3 : Below w.heap.size w w3 := B2.trans (hb3.mono B2.size)
  clear hb3
  go_wp2
  go_ret
  exact ⟨rfl, B3.alloc B3.size _⟩
end Go.Proofs.Ytcjgfoojbiagnaa
