/- LockTurned: the walk of the law. -/


import Derived.Test.YtekndgioebfmbaaBack
namespace Go.Proofs.Ytekndgioebfmbaa
open Go.ChangeShapes Go.WideShapes Go.ChangeAt Go.RowKit
open Go.ChangeMaps (open_string shut_string)
set_option linter.unusedVariables false
set_option maxRecDepth 100000 in
set_option maxHeartbeats 1000000 in
theorem turned_len (s : ByteArray) (w : World) (hs : ¬ s.size = 9) (hm : s.size ≤ maxLen) : Calls Try.prog 7 #[.string s] w fun e w' => e = .returned (.bool true) ∧ Below w.heap.size w w' := by
  go_enter Try.func7, Try.ntmps7
  go_wp2_with (first | (go_at_call 3; (with_reducible refine (runs_any _).mono ?_); rintro e w1 ⟨rfl, hb1⟩; have B1 : Below w.heap.size w w1 := (by refine Below.trans ?_ (hb1.mono (by first | (simp; done) | (have := (Below.refl 0 w).size; simp; omega))); repeat (first | exact Below.refl _ _ | assumption | refine Below.setCell ?_ (by first | (simp; done) | (have := (Below.refl 0 w).size; simp; omega)) _ | refine Below.alloc ?_ (by first | (simp; done) | (have := (Below.refl 0 w).size; simp; omega)) _ | refine Below.drew ?_)); clear hb1))
  go_wp2_with (first | (go_at_call 17; (with_reducible refine (read_no s _ hs hm).mono ?_); rintro e w2 ⟨rfl, hb2⟩; have B2 : Below w.heap.size w w2 := (by refine Below.trans ?_ (hb2.mono (by first | (simp; done) | (have := (B1).size; simp; omega))); repeat (first | exact Below.refl _ _ | assumption | refine Below.setCell ?_ (by first | (simp; done) | (have := (B1).size; simp; omega)) _ | refine Below.alloc ?_ (by first | (simp; done) | (have := (B1).size; simp; omega)) _ | refine Below.drew ?_)); clear hb2))
  go_wp2
  go_ret
  refine ⟨rfl, ?_⟩
  repeat (first | exact Below.refl _ _ | assumption | refine Below.setCell ?_ (by first | (simp; done) | (have := (B2).size; simp; omega)) _ | refine Below.alloc ?_ (by first | (simp; done) | (have := (B2).size; simp; omega)) _ | refine Below.drew ?_)
set_option maxRecDepth 100000 in
set_option maxHeartbeats 1000000 in
theorem turned_no (b0 b1 b2 b3 b4 b5 b6 b7 b8 : UInt8) (w : World) (hk : rK b0 b1 b2 b3 b4 b5 b6 b7 b8 = false) : Calls Try.prog 7 #[.string ⟨#[b0, b1, b2, b3, b4, b5, b6, b7, b8]⟩] w fun e w' => e = .returned (.bool true) ∧ Below w.heap.size w w' := by
  have e1 : rdV b0 b1 b2 b3 b4 b5 b6 b7 b8 = 0 := by rw [rdV, if_neg (by simp [hk])]
  have e2 : rdH b0 b1 b2 b3 b4 b5 b6 b7 b8 = false := by rw [rdH, hk]; rfl
  have e3 : rdO b0 b1 b2 b3 b4 b5 b6 b7 b8 = 0 := by rw [rdO, if_neg (by simp [hk])]
  go_enter Try.func7, Try.ntmps7
  go_wp2_with (first | (go_at_call 3; (with_reducible refine (runs_any _).mono ?_); rintro e w1 ⟨rfl, hb1⟩; have B1 : Below w.heap.size w w1 := (by refine Below.trans ?_ (hb1.mono (by first | (simp; done) | (have := (Below.refl 0 w).size; simp; omega))); repeat (first | exact Below.refl _ _ | assumption | refine Below.setCell ?_ (by first | (simp; done) | (have := (Below.refl 0 w).size; simp; omega)) _ | refine Below.alloc ?_ (by first | (simp; done) | (have := (Below.refl 0 w).size; simp; omega)) _ | refine Below.drew ?_)); clear hb1))
  go_wp2_with (first | (go_at_call 17; (with_reducible refine (read_9 b0 b1 b2 b3 b4 b5 b6 b7 b8 _).mono ?_); rintro e w2 ⟨rfl, hb2⟩; have B2 : Below w.heap.size w w2 := (by refine Below.trans ?_ (hb2.mono (by first | (simp; done) | (have := (B1).size; simp; omega))); repeat (first | exact Below.refl _ _ | assumption | refine Below.setCell ?_ (by first | (simp; done) | (have := (B1).size; simp; omega)) _ | refine Below.alloc ?_ (by first | (simp; done) | (have := (B1).size; simp; omega)) _ | refine Below.drew ?_)); clear hb2))
  go_wp2
  go_ret
  refine ⟨rfl, ?_⟩
  repeat (first | exact Below.refl _ _ | assumption | refine Below.setCell ?_ (by first | (simp; done) | (have := (B2).size; simp; omega)) _ | refine Below.alloc ?_ (by first | (simp; done) | (have := (B2).size; simp; omega)) _ | refine Below.drew ?_)
theorem V8_pos (b0 b1 b2 b3 b4 b5 b6 b7 : UInt8) : 0 ≤ V8 b0 b1 b2 b3 b4 b5 b6 b7 := by
  rw [V8_nat]
  exact Int.natCast_nonneg _
set_option maxRecDepth 100000 in
set_option maxHeartbeats 1000000 in
theorem turned_yes (b0 b1 b2 b3 b4 b5 b6 b7 b8 : UInt8) (w : World) (hk : rK b0 b1 b2 b3 b4 b5 b6 b7 b8 = true) : Calls Try.prog 7 #[.string ⟨#[b0, b1, b2, b3, b4, b5, b6, b7, b8]⟩] w fun e w' => e = .returned (.bool true) ∧ Below w.heap.size w w' := by
  have e1 : rdV b0 b1 b2 b3 b4 b5 b6 b7 b8 = V8 b0 b1 b2 b3 b4 b5 b6 b7 := by rw [rdV, if_pos hk]
  have e2 : rdH b0 b1 b2 b3 b4 b5 b6 b7 b8 = rH b8 := by rw [rdH, hk]; rfl
  have e3 : rdO b0 b1 b2 b3 b4 b5 b6 b7 b8 = rO b8 := by rw [rdO, if_pos hk]
  have hi : isB (V8 b0 b1 b2 b3 b4 b5 b6 b7) (rH b8) (rO b8) = true := hk
  have hp := V8_pos b0 b1 b2 b3 b4 b5 b6 b7
  have es := strB_turned b0 b1 b2 b3 b4 b5 b6 b7 b8 hk
  generalize V8 b0 b1 b2 b3 b4 b5 b6 b7 = A at *
  generalize rH b8 = H at *
  generalize rO b8 = O at *
  generalize hs : (⟨#[b0, b1, b2, b3, b4, b5, b6, b7, b8]⟩ : ByteArray) = s at *
  have hsz : s.size = 9 := by rw [← hs]; rfl
  have R : ∀ w, Calls Try.prog 17 #[.string s] w fun e w' => e = .returned (.tuple #[lk A H O, .bool true]) ∧ Below w.heap.size w w' := fun w => by
    have := read_9 b0 b1 b2 b3 b4 b5 b6 b7 b8 w
    rw [hs, e1, e2, e3, hk] at this
    exact this
  have RR := Lib.hid R
  have HP := Lib.hid hp
  clear R hs e1 e2 e3 hk hp
  go_enter Try.func7, Try.ntmps7
  go_wp2_with (first | (go_at_call 3; (with_reducible refine (runs_any _).mono ?_); rintro e w1 ⟨rfl, hb1⟩; have B1 : Below w.heap.size w w1 := (by refine Below.trans ?_ (hb1.mono (by first | (simp; done) | (have := (Below.refl 0 w).size; simp; omega))); repeat (first | exact Below.refl _ _ | assumption | refine Below.setCell ?_ (by first | (simp; done) | (have := (Below.refl 0 w).size; simp; omega)) _ | refine Below.alloc ?_ (by first | (simp; done) | (have := (Below.refl 0 w).size; simp; omega)) _ | refine Below.drew ?_)); clear hb1))
  go_wp2_with (first | (go_at_call 17; (with_reducible refine (RR.out _).mono ?_); rintro e w2 ⟨rfl, hb2⟩; have B2 : Below w.heap.size w w2 := (by refine Below.trans ?_ (hb2.mono (by first | (simp; done) | (have := (B1).size; simp; omega))); repeat (first | exact Below.refl _ _ | assumption | refine Below.setCell ?_ (by first | (simp; done) | (have := (B1).size; simp; omega)) _ | refine Below.alloc ?_ (by first | (simp; done) | (have := (B1).size; simp; omega)) _ | refine Below.drew ?_)); clear hb2))
  go_wp2_with (first | (go_at_call 13; (with_reducible refine Calls.mono (is_any _ _ _ _) ?_); rintro e w' ⟨rfl, rfl⟩))
  go_wp2_with (first | (go_at_call 11; (with_reducible refine (bytes_any A H O _ HP.out).mono ?_); rintro e w3 ⟨rfl, hb3⟩; have K3 := keepC hb3 (L := [(⟨w2.heap.size, 0, none⟩, .int .u64 A), (⟨w2.heap.size, 1, none⟩, .bool H), (⟨w2.heap.size, 2, none⟩, .int .i64 O)]) (by simp [AllC, *, go_sem]); simp only [AllC] at K3; obtain ⟨c3_0, c3_1, c3_2, -⟩ := K3; have B3 : Below w.heap.size w w3 := (by refine Below.trans ?_ (hb3.mono (by first | (simp; done) | (have := (B2).size; simp; omega))); repeat (first | exact Below.refl _ _ | assumption | refine Below.setCell ?_ (by first | (simp; done) | (have := (B2).size; simp; omega)) _ | refine Below.alloc ?_ (by first | (simp; done) | (have := (B2).size; simp; omega)) _ | refine Below.drew ?_)); clear hb3))
  go_wp2
  go_ret
  refine ⟨rfl, ?_⟩
  repeat (first | exact Below.refl _ _ | assumption | refine Below.setCell ?_ (by first | (simp; done) | (have := (B3).size; simp; omega)) _ | refine Below.alloc ?_ (by first | (simp; done) | (have := (B3).size; simp; omega)) _ | refine Below.drew ?_)

theorem turned_any (s : ByteArray) (w : World) (hm : s.size ≤ maxLen) : Calls Try.prog 7 #[.string s] w fun e w' => e = .returned (.bool true) ∧ Below w.heap.size w w' := by
  by_cases hs : s.size = 9
  · obtain ⟨b0, b1, b2, b3, b4, b5, b6, b7, b8, rfl⟩ := nine s hs
    cases hk : rK b0 b1 b2 b3 b4 b5 b6 b7 b8
    · exact turned_no b0 b1 b2 b3 b4 b5 b6 b7 b8 w hk
    · exact turned_yes b0 b1 b2 b3 b4 b5 b6 b7 b8 w hk
  · exact turned_len s w hs hm
end Go.Proofs.Ytekndgioebfmbaa
