/- The reference's memory, as far as its clock goes. -/

import Derived.Test.YtbggbmcijhnijaaClock
import Derived.Deep.RegionHeld3
import Derived.RegionTactic
namespace Go.Proofs.Ytbggbmcijhnijaa
open Go.ChangeShapes Go.WideShapes Go.ChangeAt Go.RowKit
open Go.ChangeMaps (open_string shut_string)
set_option linter.unusedVariables false
theorem held_lo (n lo hi : Int) (w : World) (h : n < lo) : Calls Try.prog 17 #[.int .i64 n, .int .i64 lo, .int .i64 hi] w fun e w' => e = .returned (.int .i64 lo) ∧ w = w' := by
  go_enter Try.func17, Try.ntmps17
  go_wp2
  go_ret
  exact ⟨rfl, rfl⟩
abbrev shp (a b c d s : Int) : Value := .agg #[.int .i64 a, .int .i64 b, .int .i64 c, .int .i64 d, .int .u64 s]
theorem shape_any (s : Int) (w : World) : Calls Try.prog 15 #[shp 0 0 0 0 s] w fun e w' => e = .returned (shp 32 1 1 1 (capC s)) ∧ Below w.heap.size w w' := by
  have HL : ∀ (n lo hi : Int) (w : World), n < lo → Calls Try.prog 17 #[.int .i64 n, .int .i64 lo, .int .i64 hi] w fun e w' => e = .returned (.int .i64 lo) ∧ w = w' := fun n lo hi w h => held_lo n lo hi w h
  have HH := Lib.hid HL
  clear HL
  by_cases h : s < 4611686018427387904
  · have e : capC s = s := by simp [capC, h]
    rw [e]
    clear e
    go_enter Try.func15, Try.ntmps15
    go_wp2_with (first | (go_at_call 17; (with_reducible refine (HH.out _ _ _ _ (by decide)).mono ?_); rintro e w' ⟨rfl, rfl⟩))
    refine bodyPost_ret (v := shp 32 1 1 1 s) (by simp [results, Try.results15, go_sem]) rfl ⟨rfl, ?_⟩
    repeat (first | exact Below.refl _ _ | refine Below.setCell ?_ (by first | (simp; done) | (simp; omega)) _ | refine Below.alloc ?_ (by first | (simp; done) | (simp; omega)) _ | refine Below.drew ?_ | (refine Below.trans ?_ (Below.mono (by assumption) ?_); rotate_left; (first | (simp; done) | (simp; omega) | (simp [*]; omega))))
  · have e : capC s = 4611686018427387903 := by simp [capC, h]
    rw [e]
    clear e
    go_enter Try.func15, Try.ntmps15
    go_wp2_with (first | (go_at_call 17; (with_reducible refine (HH.out _ _ _ _ (by decide)).mono ?_); rintro e w' ⟨rfl, rfl⟩))
    refine bodyPost_ret (v := shp 32 1 1 1 4611686018427387903) (by simp [results, Try.results15, go_sem]) rfl ⟨rfl, ?_⟩
    repeat (first | exact Below.refl _ _ | refine Below.setCell ?_ (by first | (simp; done) | (simp; omega)) _ | refine Below.alloc ?_ (by first | (simp; done) | (simp; omega)) _ | refine Below.drew ?_ | (refine Below.trans ?_ (Below.mono (by assumption) ?_); rotate_left; (first | (simp; done) | (simp; omega) | (simp [*]; omega))))
/-- A memory of the reference stands at block m, its clock at n. -/
structure MemC (w : World) (m : Nat) (n : Int) : Prop where
  lt : m < w.heap.size
  c7 : w.cell? ⟨m, 7, none⟩ = some (.int .u64 n)
  c9 : ∃ c, w.cell? ⟨m, 9, none⟩ = some (.int .i64 c)
  f7 : w.frozen? ⟨m, 7, none⟩ = false
  f9 : w.frozen? ⟨m, 9, none⟩ = false
def NewPost (w : World) (n : Int) (e : Ending) (w' : World) : Prop := ∃ m, e = .returned (ptr m) ∧ w.heap.size ≤ m ∧ MemC w' m n ∧ Below w.heap.size w w'
set_option maxRecDepth 100000 in
set_option maxHeartbeats 1000000 in
theorem newmem_any (s : Int) (w : World) : Calls Try.prog 12 #[shp 0 0 0 0 s] w (NewPost w (capC s)) := by
  obtain ⟨c, hc⟩ : ∃ c, capC s = c := ⟨_, rfl⟩
  have mk1 : ∀ w : World, (Instr.makeSlice 36 (.int .i64 32) (.int .i64 32)).run Try.prog w = .ok (.slice (some ⟨w.heap.size, 0, none⟩) 32 32) (w.alloc (.cells (madeCells #[.int .u64 0] 32) 24)) := fun _ => by kernel_rfl
  have mk2 : ∀ w : World, (Instr.makeSlice 37 (.int .i64 1) (.int .i64 1)).run Try.prog w = .ok (.slice (some ⟨w.heap.size, 0, none⟩) 1 1) (w.alloc (.cells #[.int .u64 0, .bool false, .int .i64 0] 52)) := fun _ => by kernel_rfl
  have mk3 : ∀ w : World, (Instr.makeSlice 36 (.int .i64 1) (.int .i64 1)).run Try.prog w = .ok (.slice (some ⟨w.heap.size, 0, none⟩) 1 1) (w.alloc (.cells #[.int .u64 0] 24)) := fun _ => by kernel_rfl
  go_enter Try.func12, Try.ntmps12
  go_wp2_with (first | (go_at_call 15; (with_reducible refine (shape_any _ _).mono ?_); rintro e w1 ⟨rfl, hb1⟩; have B1 : Below w.heap.size w w1 := (by refine Below.trans ?_ (hb1.mono (by first | (simp; done) | (have := (Below.refl 0 w).size; simp; omega))); repeat (first | exact Below.refl _ _ | assumption | refine Below.setCell ?_ (by first | (simp; done) | (have := (Below.refl 0 w).size; simp; omega)) _ | refine Below.alloc ?_ (by first | (simp; done) | (have := (Below.refl 0 w).size; simp; omega)) _ | refine Below.drew ?_)); clear hb1))
  rw [hc]
  go_region_held3 (fun w' => w'.cell? ⟨w1.heap.size, 0, none⟩ = some (.int .i64 32) ∧ w'.cell? ⟨w1.heap.size, 1, none⟩ = some (.int .i64 1) ∧ w'.cell? ⟨w1.heap.size, 2, none⟩ = some (.int .i64 1) ∧ w'.cell? ⟨w1.heap.size, 3, none⟩ = some (.int .i64 1) ∧ w'.cell? ⟨w1.heap.size, 4, none⟩ = some (.int .u64 c)) (first | (simp [*, World.cell?_alloc_some, World.cell?_setCell_far]; done) | (simp [cas1, cas2, cas3, cas4, cas5, cas6]; done)) (fail)
  all_goals go_wp2
  all_goals go_ret
  all_goals refine ⟨w1.heap.size + 1 + 1 + 1 + 1, rfl, by have := B1.size; omega, ⟨by simp, by simp [World.cell?_alloc_at, hc], ⟨0, by simp [World.cell?_alloc_at]⟩, by simp [World.frozen?_alloc_at], by simp [World.frozen?_alloc_at]⟩, ?_⟩
  all_goals (repeat (first | exact Below.refl _ _ | assumption | refine Below.alloc ?_ (by first | (simp; done) | (have := B1.size; simp; omega)) _ | refine Below.drew ?_))
end Go.Proofs.Ytbggbmcijhnijaa
