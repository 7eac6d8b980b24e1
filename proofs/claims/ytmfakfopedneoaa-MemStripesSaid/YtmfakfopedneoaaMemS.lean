/- The reference's memory: 'lock'. -/

import Derived.Test.YtmfakfopedneoaaMemR
namespace Go.Proofs.Ytmfakfopedneoaa
open Go.ChangeShapes Go.WideShapes Go.ChangeAt Go.RowKit
open Go.ChangeMaps (open_string shut_string)
set_option linter.unusedVariables false
def LkPost (v : Value) (W : World) (e : Ending) (w' : World) : Prop := ∃ n, e = .returned v ∧ w' = W.drewN n
abbrev ansC (wd : Int) (l : Lk) (d : Bool) (e : Int) : Array Value := #[.int .u64 wd, .int .u64 l.v, .bool l.h, .int .i64 l.o, .bool d, .int .i64 e]
/-- The world behind 'lock': its operation, its answer in memory, a lock that was looked at. -/
def lkW (W : World) (k a old wd : Int) (was l x : Lk) (d : Bool) (e : Int) (b : Bool) : World :=
  if b then ((W.alloc (.cells (opC k a old wd was l) 34)).alloc (.cells (ansC 0 x d e) 31)).alloc (.cells #[.int .u64 l.v, .bool l.h, .int .i64 l.o] 28) else (W.alloc (.cells (opC k a old wd was l) 34)).alloc (.cells (ansC 0 x d e) 31)
theorem lock_out (B : Bl) (M : Ms) (k a old wd : Int) (was l : Lk) (w : World) (q : MemAt w B M) (hr : inR B.nL a = false) : Calls Try.prog 59 #[ptr B.m, opV k a old wd was l] w (LkPost (ansV 0 .zero false 2) (lkW w k a old wd was l .zero false 2 false)) := by
  obtain ⟨c6, h6⟩ := q.c6
  obtain ⟨lm, lW, lL, lS⟩ := q.lts
  obtain ⟨nm1, nm2, nm3, nm4, nm5, nm6⟩ := q.ne
  have n1 : ¬ w.heap.size = B.m := by omega
  have n2 : ¬ B.m = w.heap.size := by omega
  have n3 : ¬ w.heap.size = B.bL := by omega
  have n4 : ¬ B.bL = w.heap.size := by omega
  have n5 : ¬ w.heap.size + 1 = B.m := by omega
  have n6 : ¬ B.m = w.heap.size + 1 := by omega
  have n7 : ¬ w.heap.size + 1 = B.bL := by omega
  have n8 : ¬ B.bL = w.heap.size + 1 := by omega
  have n9 : ¬ B.bL = B.m := fun e => nm2 e.symm
  have l1 : B.bL < w.heap.size + 1 := by omega
  have l2 : B.bL < w.heap.size + 1 + 1 := by omega
  have l3 : B.bL < w.heap.size + 1 + 1 + 1 := by omega
  have l4 : ¬ w.heap.size + 1 + 1 = B.bL := by omega
  have l5 : ¬ B.bL = w.heap.size + 1 + 1 := by omega
  have QQ := Lib.hid q
  unfold Lk.zero
  by_cases h0 : 0 ≤ a
  · have h1 : ¬ a < (B.nL : Int) := fun h => by simp [inR, h0, h] at hr
    have h2 : decide (a < 0) = false := by simp; omega
    have h3 : (B.nL : Int) ≤ a := by omega
    clear hr h1 h0
    clear q nm1 nm2 nm3 nm4 nm5 nm6
    go_enter Try.func59, Try.ntmps59
    go_wp2
    go_quiet (fail)
    go_wp2
    refine bodyPost_ret (v := ansV 0 ⟨0, false, 0⟩ false 2) (by simp [results, Try.results59, go_sem]) rfl ?_
    exact ⟨_, rfl, rfl⟩
  · have h2 : a < 0 := by omega
    clear hr h0
    clear q nm1 nm2 nm3 nm4 nm5 nm6
    go_enter Try.func59, Try.ntmps59
    go_wp2
    go_quiet (fail)
    go_wp2
    refine bodyPost_ret (v := ansV 0 ⟨0, false, 0⟩ false 2) (by simp [results, Try.results59, go_sem]) rfl ?_
    exact ⟨_, rfl, rfl⟩
set_option maxHeartbeats 1000000 in
theorem lock_load (B : Bl) (M : Ms) (a old wd : Int) (was l : Lk) (w : World) (q : MemAt w B M) (hr : inR B.nL a = true) : Calls Try.prog 59 #[ptr B.m, opV 3 a old wd was l] w (LkPost (ansV 0 (M.L.getD a.toNat .zero) false 0) (lkW w 3 a old wd was l (M.L.getD a.toNat .zero) false 0 false)) := by
  obtain ⟨c6, h6⟩ := q.c6
  obtain ⟨lm, lW, lL, lS⟩ := q.lts
  obtain ⟨nm1, nm2, nm3, nm4, nm5, nm6⟩ := q.ne
  have n1 : ¬ w.heap.size = B.m := by omega
  have n2 : ¬ B.m = w.heap.size := by omega
  have n3 : ¬ w.heap.size = B.bL := by omega
  have n4 : ¬ B.bL = w.heap.size := by omega
  have n5 : ¬ w.heap.size + 1 = B.m := by omega
  have n6 : ¬ B.m = w.heap.size + 1 := by omega
  have n7 : ¬ w.heap.size + 1 = B.bL := by omega
  have n8 : ¬ B.bL = w.heap.size + 1 := by omega
  have n9 : ¬ B.bL = B.m := fun e => nm2 e.symm
  have l1 : B.bL < w.heap.size + 1 := by omega
  have l2 : B.bL < w.heap.size + 1 + 1 := by omega
  have l3 : B.bL < w.heap.size + 1 + 1 + 1 := by omega
  have l4 : ¬ w.heap.size + 1 + 1 = B.bL := by omega
  have l5 : ¬ B.bL = w.heap.size + 1 + 1 := by omega
  have QQ := Lib.hid q
  obtain ⟨j, rfl⟩ := Int.eq_ofNat_of_zero_le (show 0 ≤ a by simp [inR] at hr; omega)
  have hj : j < B.nL := by simp [inR] at hr; omega
  have g0 : decide ((j : Int) < 0) = false := decide_eq_false (by omega)
  have g1 : decide ((B.nL : Int) ≤ (j : Int)) = false := decide_eq_false (by omega)
  have g2 : (0 : Int) ≤ (j : Int) := by omega
  have g3 : (j : Int) < (B.nL : Int) := by omega
  have cv := q.rL.cv j hj
  have ch := q.rL.ch j hj
  have co := q.rL.co j hj
  have fv := q.rL.fz (j * 3) (by omega)
  have fh := q.rL.fz (j * 3 + 1) (by omega)
  have fo := q.rL.fz (j * 3 + 2) (by omega)
  obtain ⟨x, hx⟩ : ∃ x, M.L.getD j .zero = x := ⟨_, rfl⟩
  rw [hx] at cv ch co
  have HX := Lib.hid hx
  have HJ : Hid (j < B.nL) := hj
  rw [Int.toNat_natCast, hx]
  clear hr q nm1 nm2 nm3 nm4 nm5 nm6 hx hj
  go_enter Try.func59, Try.ntmps59
  go_wp2
  go_quiet (fail)
  go_wp2
  go_region
  all_goals go_wp2
  all_goals refine bodyPost_ret (v := ansV 0 x false 0) (by simp [results, Try.results59, go_sem]) rfl ?_
  all_goals exact ⟨_, rfl, rfl⟩
set_option maxHeartbeats 1000000 in
theorem lock_bad (B : Bl) (M : Ms) (k a old wd : Int) (was l : Lk) (w : World) (q : MemAt w B M) (hr : inR B.nL a = true) (hk : (k == 3) = false) (hl : isL l = false) : Calls Try.prog 59 #[ptr B.m, opV k a old wd was l] w (LkPost (ansV 0 .zero false 1) (lkW w k a old wd was l .zero false 1 true)) := by
  have HI : Hid (∀ w : World, Calls Try.prog 65 #[lkV l] w fun e w' => e = .returned (.bool false) ∧ w' = w.alloc (.cells #[.int .u64 l.v, .bool l.h, .int .i64 l.o] 28)) := fun w => by have := isL_any2 l.v l.h l.o w; rwa [show isL ⟨l.v, l.h, l.o⟩ = false from hl] at this
  obtain ⟨c6, h6⟩ := q.c6
  obtain ⟨lm, lW, lL, lS⟩ := q.lts
  obtain ⟨nm1, nm2, nm3, nm4, nm5, nm6⟩ := q.ne
  have n1 : ¬ w.heap.size = B.m := by omega
  have n2 : ¬ B.m = w.heap.size := by omega
  have n3 : ¬ w.heap.size = B.bL := by omega
  have n4 : ¬ B.bL = w.heap.size := by omega
  have n5 : ¬ w.heap.size + 1 = B.m := by omega
  have n6 : ¬ B.m = w.heap.size + 1 := by omega
  have n7 : ¬ w.heap.size + 1 = B.bL := by omega
  have n8 : ¬ B.bL = w.heap.size + 1 := by omega
  have n9 : ¬ B.bL = B.m := fun e => nm2 e.symm
  have l1 : B.bL < w.heap.size + 1 := by omega
  have l2 : B.bL < w.heap.size + 1 + 1 := by omega
  have l3 : B.bL < w.heap.size + 1 + 1 + 1 := by omega
  have l4 : ¬ w.heap.size + 1 + 1 = B.bL := by omega
  have l5 : ¬ B.bL = w.heap.size + 1 + 1 := by omega
  have QQ := Lib.hid q
  obtain ⟨j, rfl⟩ := Int.eq_ofNat_of_zero_le (show 0 ≤ a by simp [inR] at hr; omega)
  have hj : j < B.nL := by simp [inR] at hr; omega
  have g0 : decide ((j : Int) < 0) = false := decide_eq_false (by omega)
  have g1 : decide ((B.nL : Int) ≤ (j : Int)) = false := decide_eq_false (by omega)
  have g2 : (0 : Int) ≤ (j : Int) := by omega
  have g3 : (j : Int) < (B.nL : Int) := by omega
  have cv := q.rL.cv j hj
  have ch := q.rL.ch j hj
  have co := q.rL.co j hj
  have fv := q.rL.fz (j * 3) (by omega)
  have fh := q.rL.fz (j * 3 + 1) (by omega)
  have fo := q.rL.fz (j * 3 + 2) (by omega)
  obtain ⟨x, hx⟩ : ∃ x, M.L.getD j .zero = x := ⟨_, rfl⟩
  rw [hx] at cv ch co
  have HX := Lib.hid hx
  have HJ : Hid (j < B.nL) := hj
  clear hr q nm1 nm2 nm3 nm4 nm5 nm6 hx hj hl
  unfold Lk.zero
  go_enter Try.func59, Try.ntmps59
  go_wp2
  go_quiet (fail)
  go_wp2_with (first | (go_at_call 65; (with_reducible refine (HI.out _).mono ?_); rintro e w1 ⟨rfl, rfl⟩))
  refine bodyPost_ret (v := ansV 0 ⟨0, false, 0⟩ false 1) (by simp [results, Try.results59, go_sem]) rfl ?_
  exact ⟨_, rfl, rfl⟩
set_option maxHeartbeats 2000000 in
theorem lock_store (B : Bl) (M : Ms) (a old wd : Int) (was l : Lk) (w : World) (q : MemAt w B M) (hr : inR B.nL a = true) (hl : isL l = true) : Calls Try.prog 59 #[ptr B.m, opV 5 a old wd was l] w (LkPost (ansV 0 .zero false 0) (lkW (putL w B.bL a.toNat l) 5 a old wd was l .zero false 0 true)) := by
  have HI : Hid (∀ w : World, Calls Try.prog 65 #[lkV l] w fun e w' => e = .returned (.bool true) ∧ w' = w.alloc (.cells #[.int .u64 l.v, .bool l.h, .int .i64 l.o] 28)) := fun w => by have := isL_any2 l.v l.h l.o w; rwa [show isL ⟨l.v, l.h, l.o⟩ = true from hl] at this
  obtain ⟨c6, h6⟩ := q.c6
  obtain ⟨lm, lW, lL, lS⟩ := q.lts
  obtain ⟨nm1, nm2, nm3, nm4, nm5, nm6⟩ := q.ne
  have n1 : ¬ w.heap.size = B.m := by omega
  have n2 : ¬ B.m = w.heap.size := by omega
  have n3 : ¬ w.heap.size = B.bL := by omega
  have n4 : ¬ B.bL = w.heap.size := by omega
  have n5 : ¬ w.heap.size + 1 = B.m := by omega
  have n6 : ¬ B.m = w.heap.size + 1 := by omega
  have n7 : ¬ w.heap.size + 1 = B.bL := by omega
  have n8 : ¬ B.bL = w.heap.size + 1 := by omega
  have n9 : ¬ B.bL = B.m := fun e => nm2 e.symm
  have l1 : B.bL < w.heap.size + 1 := by omega
  have l2 : B.bL < w.heap.size + 1 + 1 := by omega
  have l3 : B.bL < w.heap.size + 1 + 1 + 1 := by omega
  have l4 : ¬ w.heap.size + 1 + 1 = B.bL := by omega
  have l5 : ¬ B.bL = w.heap.size + 1 + 1 := by omega
  have QQ := Lib.hid q
  obtain ⟨j, rfl⟩ := Int.eq_ofNat_of_zero_le (show 0 ≤ a by simp [inR] at hr; omega)
  have hj : j < B.nL := by simp [inR] at hr; omega
  have g0 : decide ((j : Int) < 0) = false := decide_eq_false (by omega)
  have g1 : decide ((B.nL : Int) ≤ (j : Int)) = false := decide_eq_false (by omega)
  have g2 : (0 : Int) ≤ (j : Int) := by omega
  have g3 : (j : Int) < (B.nL : Int) := by omega
  have cv := q.rL.cv j hj
  have ch := q.rL.ch j hj
  have co := q.rL.co j hj
  have fv := q.rL.fz (j * 3) (by omega)
  have fh := q.rL.fz (j * 3 + 1) (by omega)
  have fo := q.rL.fz (j * 3 + 2) (by omega)
  obtain ⟨x, hx⟩ : ∃ x, M.L.getD j .zero = x := ⟨_, rfl⟩
  rw [hx] at cv ch co
  have HX := Lib.hid hx
  have HJ : Hid (j < B.nL) := hj
  rw [Int.toNat_natCast]
  unfold Lk.zero
  clear hr q nm1 nm2 nm3 nm4 nm5 nm6 hj hl hx
  go_enter Try.func59, Try.ntmps59
  go_wp2
  go_quiet (fail)
  go_wp2_with (first | (go_at_call 65; (with_reducible refine (HI.out _).mono ?_); rintro e w1 ⟨rfl, rfl⟩))
  go_region
  all_goals go_wp2
  all_goals refine bodyPost_ret (v := ansV 0 ⟨0, false, 0⟩ false 0) (by simp [results, Try.results59, go_sem]) rfl ?_
  all_goals exact ⟨_, rfl, rfl⟩
set_option maxHeartbeats 2000000 in
theorem lock_cas_yes (B : Bl) (M : Ms) (a old wd : Int) (l : Lk) (w : World) (q : MemAt w B M) (hr : inR B.nL a = true) (hl : isL l = true) : Calls Try.prog 59 #[ptr B.m, opV 4 a old wd (M.L.getD a.toNat .zero) l] w (LkPost (ansV 0 .zero true 0) (lkW (putL w B.bL a.toNat l) 4 a old wd (M.L.getD a.toNat .zero) l .zero true 0 true)) := by
  have HI : Hid (∀ w : World, Calls Try.prog 65 #[lkV l] w fun e w' => e = .returned (.bool true) ∧ w' = w.alloc (.cells #[.int .u64 l.v, .bool l.h, .int .i64 l.o] 28)) := fun w => by have := isL_any2 l.v l.h l.o w; rwa [show isL ⟨l.v, l.h, l.o⟩ = true from hl] at this
  obtain ⟨c6, h6⟩ := q.c6
  obtain ⟨lm, lW, lL, lS⟩ := q.lts
  obtain ⟨nm1, nm2, nm3, nm4, nm5, nm6⟩ := q.ne
  have n1 : ¬ w.heap.size = B.m := by omega
  have n2 : ¬ B.m = w.heap.size := by omega
  have n3 : ¬ w.heap.size = B.bL := by omega
  have n4 : ¬ B.bL = w.heap.size := by omega
  have n5 : ¬ w.heap.size + 1 = B.m := by omega
  have n6 : ¬ B.m = w.heap.size + 1 := by omega
  have n7 : ¬ w.heap.size + 1 = B.bL := by omega
  have n8 : ¬ B.bL = w.heap.size + 1 := by omega
  have n9 : ¬ B.bL = B.m := fun e => nm2 e.symm
  have l1 : B.bL < w.heap.size + 1 := by omega
  have l2 : B.bL < w.heap.size + 1 + 1 := by omega
  have l3 : B.bL < w.heap.size + 1 + 1 + 1 := by omega
  have l4 : ¬ w.heap.size + 1 + 1 = B.bL := by omega
  have l5 : ¬ B.bL = w.heap.size + 1 + 1 := by omega
  have QQ := Lib.hid q
  obtain ⟨j, rfl⟩ := Int.eq_ofNat_of_zero_le (show 0 ≤ a by simp [inR] at hr; omega)
  have hj : j < B.nL := by simp [inR] at hr; omega
  have g0 : decide ((j : Int) < 0) = false := decide_eq_false (by omega)
  have g1 : decide ((B.nL : Int) ≤ (j : Int)) = false := decide_eq_false (by omega)
  have g2 : (0 : Int) ≤ (j : Int) := by omega
  have g3 : (j : Int) < (B.nL : Int) := by omega
  have cv := q.rL.cv j hj
  have ch := q.rL.ch j hj
  have co := q.rL.co j hj
  have fv := q.rL.fz (j * 3) (by omega)
  have fh := q.rL.fz (j * 3 + 1) (by omega)
  have fo := q.rL.fz (j * 3 + 2) (by omega)
  obtain ⟨x, hx⟩ : ∃ x, M.L.getD j .zero = x := ⟨_, rfl⟩
  rw [hx] at cv ch co
  have HX := Lib.hid hx
  have HJ : Hid (j < B.nL) := hj
  rw [Int.toNat_natCast]
  rw [hx]
  unfold Lk.zero
  have s1 : (x.v == x.v) = true := by simp
  have s2 : (x.h == x.h) = true := by simp
  have s3 : (x.o == x.o) = true := by simp
  clear hr q nm1 nm2 nm3 nm4 nm5 nm6 hj hl hx
  go_enter Try.func59, Try.ntmps59
  go_wp2
  go_quiet (fail)
  go_wp2_with (first | (go_at_call 65; (with_reducible refine (HI.out _).mono ?_); rintro e w1 ⟨rfl, rfl⟩))
  go_quiet (fail)
  go_wp2
  go_region
  all_goals go_wp2
  all_goals refine bodyPost_ret (v := ansV 0 ⟨0, false, 0⟩ true 0) (by simp [results, Try.results59, go_sem]) rfl ?_
  all_goals exact ⟨_, rfl, rfl⟩
set_option maxHeartbeats 2000000 in
theorem lock_cas_no (B : Bl) (M : Ms) (a old wd : Int) (was l : Lk) (w : World) (q : MemAt w B M) (hr : inR B.nL a = true) (hl : isL l = true) (hw : M.L.getD a.toNat .zero ≠ was) : Calls Try.prog 59 #[ptr B.m, opV 4 a old wd was l] w (LkPost (ansV 0 .zero false 0) (lkW w 4 a old wd was l .zero false 0 true)) := by
  have HI : Hid (∀ w : World, Calls Try.prog 65 #[lkV l] w fun e w' => e = .returned (.bool true) ∧ w' = w.alloc (.cells #[.int .u64 l.v, .bool l.h, .int .i64 l.o] 28)) := fun w => by have := isL_any2 l.v l.h l.o w; rwa [show isL ⟨l.v, l.h, l.o⟩ = true from hl] at this
  obtain ⟨c6, h6⟩ := q.c6
  obtain ⟨lm, lW, lL, lS⟩ := q.lts
  obtain ⟨nm1, nm2, nm3, nm4, nm5, nm6⟩ := q.ne
  have n1 : ¬ w.heap.size = B.m := by omega
  have n2 : ¬ B.m = w.heap.size := by omega
  have n3 : ¬ w.heap.size = B.bL := by omega
  have n4 : ¬ B.bL = w.heap.size := by omega
  have n5 : ¬ w.heap.size + 1 = B.m := by omega
  have n6 : ¬ B.m = w.heap.size + 1 := by omega
  have n7 : ¬ w.heap.size + 1 = B.bL := by omega
  have n8 : ¬ B.bL = w.heap.size + 1 := by omega
  have n9 : ¬ B.bL = B.m := fun e => nm2 e.symm
  have l1 : B.bL < w.heap.size + 1 := by omega
  have l2 : B.bL < w.heap.size + 1 + 1 := by omega
  have l3 : B.bL < w.heap.size + 1 + 1 + 1 := by omega
  have l4 : ¬ w.heap.size + 1 + 1 = B.bL := by omega
  have l5 : ¬ B.bL = w.heap.size + 1 + 1 := by omega
  have QQ := Lib.hid q
  obtain ⟨j, rfl⟩ := Int.eq_ofNat_of_zero_le (show 0 ≤ a by simp [inR] at hr; omega)
  have hj : j < B.nL := by simp [inR] at hr; omega
  have g0 : decide ((j : Int) < 0) = false := decide_eq_false (by omega)
  have g1 : decide ((B.nL : Int) ≤ (j : Int)) = false := decide_eq_false (by omega)
  have g2 : (0 : Int) ≤ (j : Int) := by omega
  have g3 : (j : Int) < (B.nL : Int) := by omega
  have cv := q.rL.cv j hj
  have ch := q.rL.ch j hj
  have co := q.rL.co j hj
  have fv := q.rL.fz (j * 3) (by omega)
  have fh := q.rL.fz (j * 3 + 1) (by omega)
  have fo := q.rL.fz (j * 3 + 2) (by omega)
  obtain ⟨x, hx⟩ : ∃ x, M.L.getD j .zero = x := ⟨_, rfl⟩
  rw [hx] at cv ch co
  have HX := Lib.hid hx
  have HJ : Hid (j < B.nL) := hj
  rw [Int.toNat_natCast, hx] at hw
  unfold Lk.zero
  have K3 := beq_lk_no hw
  clear hr q nm1 nm2 nm3 nm4 nm5 nm6 hj hl hx hw
  rcases K3 with k1 | ⟨k0, k1⟩ | ⟨k00, k0, k1⟩
  · go_enter Try.func59, Try.ntmps59
    go_wp2
    go_quiet (fail)
    go_wp2_with (first | (go_at_call 65; (with_reducible refine (HI.out _).mono ?_); rintro e w1 ⟨rfl, rfl⟩))
    go_quiet (fail)
    go_wp2
    refine bodyPost_ret (v := ansV 0 ⟨0, false, 0⟩ false 0) (by simp [results, Try.results59, go_sem]) rfl ?_
    exact ⟨_, rfl, rfl⟩
  · rw [k0] at cv
    have s1 : (was.v == was.v) = true := by simp
    clear k0
    go_enter Try.func59, Try.ntmps59
    go_wp2
    go_quiet (fail)
    go_wp2_with (first | (go_at_call 65; (with_reducible refine (HI.out _).mono ?_); rintro e w1 ⟨rfl, rfl⟩))
    go_quiet (fail)
    go_wp2
    refine bodyPost_ret (v := ansV 0 ⟨0, false, 0⟩ false 0) (by simp [results, Try.results59, go_sem]) rfl ?_
    exact ⟨_, rfl, rfl⟩
  · rw [k00] at cv
    rw [k0] at ch
    have s1 : (was.v == was.v) = true := by simp
    have s2 : (was.h == was.h) = true := by simp
    clear k0 k00
    go_enter Try.func59, Try.ntmps59
    go_wp2
    go_quiet (fail)
    go_wp2_with (first | (go_at_call 65; (with_reducible refine (HI.out _).mono ?_); rintro e w1 ⟨rfl, rfl⟩))
    go_quiet (fail)
    go_wp2
    refine bodyPost_ret (v := ansV 0 ⟨0, false, 0⟩ false 0) (by simp [results, Try.results59, go_sem]) rfl ?_
    exact ⟨_, rfl, rfl⟩
end Go.Proofs.Ytmfakfopedneoaa
