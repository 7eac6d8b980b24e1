/- Contracts of package stripe: a new table, its length, the stripe of a place. -/

import Derived.Test.YtmfakfopedneoaaStripe
namespace Go.Proofs.Ytmfakfopedneoaa
open Go.ChangeShapes Go.WideShapes Go.ChangeAt Go.RowKit
open Go.ChangeMaps (open_string shut_string)
set_option linter.unusedVariables false
def newT (w : World) (n wd : Int) : World := (w.alloc (.cells (madeCells #[.int .u64 0, .bool false, .int .i64 0] ((c16 n).toNat * 3)) 28)).alloc (.cells #[.int .i64 (c16 wd), .slice (some ⟨w.heap.size, 0, none⟩) (c16 n).toNat (c16 n).toNat] 79)
theorem new_any (n wd : Int) (w : World) : Calls Try.prog 25 #[.int .i64 n, .int .i64 wd] w fun e w' => e = .returned (ptr (w.heap.size + 1)) ∧ w' = newT w n wd := by
  have hb := c16_bd n
  have hmk : ∀ w : World, _ := fun w => mkl_row (c16 n) (by omega) (by omega) w
  have HW := Lib.hid (heldWide_any wd)
  have HL := Lib.hid (heldLen_any n)
  unfold newT
  generalize c16 n = N at *
  generalize c16 wd = W at *
  clear hb
  go_enter Try.func25, Try.ntmps25
  go_wp2_with (first | (go_at_call 45; (with_reducible refine (HW.out _).mono ?_); rintro e w' ⟨rfl, rfl⟩) | (go_at_call 46; (with_reducible refine (HL.out _).mono ?_); rintro e w' ⟨rfl, rfl⟩))
  go_ret
  exact ⟨rfl, rfl⟩
theorem below_newT (w : World) (n wd : Int) : Below w.heap.size w (newT w n wd) := ((Below.refl _ _).alloc (Nat.le_refl _) _).alloc (by simp) _
theorem size_newT (w : World) (n wd : Int) : (newT w n wd).heap.size = w.heap.size + 2 := by simp [newT]
theorem made_lock (N j : Nat) (h : j < N * 3) : (madeCells #[.int .u64 0, .bool false, .int .i64 0] (N * 3))[j]? = some (#[Value.int .u64 0, .bool false, .int .i64 0][j % 3]!) := by
  simp [madeCells, h]
theorem lrow_made (w : World) (N : Nat) (o : TypeId) : LRow (w.alloc (.cells (madeCells #[.int .u64 0, .bool false, .int .i64 0] (N * 3)) o)) w.heap.size N (List.replicate N .zero) := by
  have e : ∀ i, i < N → (List.replicate N Lk.zero).getD i .zero = .zero := fun i hi => by simp [List.getD_eq_getElem?_getD, List.getElem?_replicate, hi]
  refine ⟨by simp, fun i hi => ?_, fun i hi => ?_, fun i hi => ?_, fun j hj => by rw [World.frozen?_alloc_new]⟩
  · rw [World.cell?_alloc_new, made_lock _ _ (by omega), e i hi, show i * 3 % 3 = 0 by omega]; rfl
  · rw [World.cell?_alloc_new, made_lock _ _ (by omega), e i hi, show (i * 3 + 1) % 3 = 1 by omega]; rfl
  · rw [World.cell?_alloc_new, made_lock _ _ (by omega), e i hi, show (i * 3 + 2) % 3 = 2 by omega]; rfl
theorem LRow.below {w w' : World} {r n : Nat} {L : List Lk} (q : LRow w r n L) (h0 : 0 < n) (hb : Below w.heap.size w w') : LRow w' r n L := by
  have hr : r < w.heap.size := World.block_lt_of_cell? w _ (q.cv 0 h0)
  exact ⟨q.len, fun i hi => (hb.cell (by exact hr)).trans (q.cv i hi), fun i hi => (hb.cell (by exact hr)).trans (q.ch i hi), fun i hi => (hb.cell (by exact hr)).trans (q.co i hi), fun j hj => (hb.frozen (by exact hr)).trans (q.fz j hj)⟩
theorem TabAt.below {w w' : World} {t r n : Nat} {wd : Int} {L : List Lk} (q : TabAt w t r n wd L) (h0 : 0 < n) (hb : Below w.heap.size w w') : TabAt w' t r n wd L :=
  ⟨(hb.cell (by exact q.lt)).trans q.c0, q.c1.imp fun _ h => (hb.cell (by exact q.lt)).trans h, q.row.below h0 hb, q.ne, Nat.lt_of_lt_of_le q.lt hb.size⟩
theorem tab_newT (w : World) (n wd : Int) : TabAt (newT w n wd) (w.heap.size + 1) w.heap.size (c16 n).toNat (c16 wd) (List.replicate (c16 n).toNat .zero) := by
  have hb := c16_bd n
  exact ⟨by simp [newT, World.cell?_alloc_at], ⟨(c16 n).toNat, by simp [newT, World.cell?_alloc_at]⟩, (lrow_made w (c16 n).toNat _).below (by omega) ((Below.refl _ _).alloc (Nat.le_refl _) _), by omega, by simp [newT]⟩
theorem tof_any (t r n : Nat) (wd at' : Int) {c : Nat} (w : World) (hat : at' ≤ 9223372036854775807) (h0 : w.cell? ⟨t, 0, none⟩ = some (.int .i64 wd)) (h1 : w.cell? ⟨t, 1, none⟩ = some (.slice (some ⟨r, 0, none⟩) n c)) :
    Calls Try.prog 30 #[ptr t, .int .i64 at'] w fun e w' => e = .returned (.int .i64 (ofK at' n wd)) ∧ ∃ k, w' = w.drewN k := by
  have HO : Hid (∀ w : World, Calls Try.prog 55 #[.int .i64 at', .int .i64 (n : Int), .int .i64 wd] w fun e w' => e = .returned (.int .i64 (ofK at' n wd)) ∧ ∃ k, w' = w.drewN k) := fun w => of_any at' n wd w hat
  generalize ofK at' n wd = x at *
  go_enter Try.func30, Try.ntmps30
  go_wp2
  go_quiet ((go_at_call 55; exact Calls.quiet_of (HO.out _)))
  go_wp2
  go_ret
  exact ⟨rfl, _, rfl⟩
end Go.Proofs.Ytmfakfopedneoaa
