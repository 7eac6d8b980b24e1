/- lock.Take, Drop, Fits, and their twins in the reference. -/

import Derived.Test.YtekndgioebfmbaaLock
import Derived.Handy
namespace Go.Proofs.Ytekndgioebfmbaa
open Go.ChangeShapes Go.WideShapes Go.ChangeAt Go.RowKit
open Go.ChangeMaps (open_string shut_string)
set_option linter.unusedVariables false
theorem take_any (v : Int) (h : Bool) (o n : Int) (w : World) : Calls Try.prog 9 #[lk v h o, .int .i64 n] w fun e w' => e = .returned (.tuple #[lk (takeV v h o n) (takeK v h o n) (takeO v h o n), .bool (takeK v h o n)]) ∧ Below w.heap.size w w' := by
  cases hi : isB v h o
  · have hfin : Value.tuple #[lk (takeV v h o n) (takeK v h o n) (takeO v h o n), .bool (takeK v h o n)] = .tuple #[lk 0 false 0, .bool false] := by simp [takeV, takeK, takeO, hi]
    have Hf := Lib.hid hfin; clear hfin
    go_enter Try.func9, Try.ntmps9
    go_wp2_with (first | (go_at_call 13; refine Calls.mono (is_any _ _ _ _) ?_; rintro e w1 ⟨rfl, rfl⟩) | (go_at_call 22; refine Calls.mono (mayHold_any _ _) ?_; rintro e w1 ⟨rfl, rfl⟩))
    refine bodyPost_ret (v := .tuple #[lk 0 false 0, .bool false]) (by simp [results, Try.results9, go_sem]) rfl ⟨by rw [Hf.out], ?_⟩
    repeat (first | exact Below.refl _ _ | refine Below.setCell ?_ (by first | (simp; done) | (simp; omega)) _ | refine Below.alloc ?_ (by first | (simp; done) | (simp; omega)) _ | refine Below.drew ?_ | (refine Below.trans ?_ (Below.mono (by assumption) ?_); rotate_left; (first | (simp; done) | (simp; omega) | (simp [*]; omega))))
  · cases h
    · cases hm : mh n
      · have hfin : Value.tuple #[lk (takeV v false o n) (takeK v false o n) (takeO v false o n), .bool (takeK v false o n)] = .tuple #[lk 0 false 0, .bool false] := by simp [takeV, takeK, takeO, hi, hm]
        have Hf := Lib.hid hfin; clear hfin
        go_enter Try.func9, Try.ntmps9
        go_wp2_with (first | (go_at_call 13; refine Calls.mono (is_any _ _ _ _) ?_; rintro e w1 ⟨rfl, rfl⟩) | (go_at_call 22; refine Calls.mono (mayHold_any _ _) ?_; rintro e w1 ⟨rfl, rfl⟩))
        refine bodyPost_ret (v := .tuple #[lk 0 false 0, .bool false]) (by simp [results, Try.results9, go_sem]) rfl ⟨by rw [Hf.out], ?_⟩
        repeat (first | exact Below.refl _ _ | refine Below.setCell ?_ (by first | (simp; done) | (simp; omega)) _ | refine Below.alloc ?_ (by first | (simp; done) | (simp; omega)) _ | refine Below.drew ?_ | (refine Below.trans ?_ (Below.mono (by assumption) ?_); rotate_left; (first | (simp; done) | (simp; omega) | (simp [*]; omega))))
      · have hfin : Value.tuple #[lk (takeV v false o n) (takeK v false o n) (takeO v false o n), .bool (takeK v false o n)] = .tuple #[lk v true n, .bool true] := by simp [takeV, takeK, takeO, hi, hm]
        have Hf := Lib.hid hfin; clear hfin
        go_enter Try.func9, Try.ntmps9
        go_wp2_with (first | (go_at_call 13; refine Calls.mono (is_any _ _ _ _) ?_; rintro e w1 ⟨rfl, rfl⟩) | (go_at_call 22; refine Calls.mono (mayHold_any _ _) ?_; rintro e w1 ⟨rfl, rfl⟩))
        refine bodyPost_ret (v := .tuple #[lk v true n, .bool true]) (by simp [results, Try.results9, go_sem]) rfl ⟨by rw [Hf.out], ?_⟩
        repeat (first | exact Below.refl _ _ | refine Below.setCell ?_ (by first | (simp; done) | (simp; omega)) _ | refine Below.alloc ?_ (by first | (simp; done) | (simp; omega)) _ | refine Below.drew ?_ | (refine Below.trans ?_ (Below.mono (by assumption) ?_); rotate_left; (first | (simp; done) | (simp; omega) | (simp [*]; omega))))
    · have hfin : Value.tuple #[lk (takeV v true o n) (takeK v true o n) (takeO v true o n), .bool (takeK v true o n)] = .tuple #[lk 0 false 0, .bool false] := by simp [takeV, takeK, takeO, hi]
      have Hf := Lib.hid hfin; clear hfin
      go_enter Try.func9, Try.ntmps9
      go_wp2_with (first | (go_at_call 13; refine Calls.mono (is_any _ _ _ _) ?_; rintro e w1 ⟨rfl, rfl⟩) | (go_at_call 22; refine Calls.mono (mayHold_any _ _) ?_; rintro e w1 ⟨rfl, rfl⟩))
      refine bodyPost_ret (v := .tuple #[lk 0 false 0, .bool false]) (by simp [results, Try.results9, go_sem]) rfl ⟨by rw [Hf.out], ?_⟩
      repeat (first | exact Below.refl _ _ | refine Below.setCell ?_ (by first | (simp; done) | (simp; omega)) _ | refine Below.alloc ?_ (by first | (simp; done) | (simp; omega)) _ | refine Below.drew ?_ | (refine Below.trans ?_ (Below.mono (by assumption) ?_); rotate_left; (first | (simp; done) | (simp; omega) | (simp [*]; omega))))

theorem drop_any (v : Int) (h : Bool) (o n : Int) (w : World) : Calls Try.prog 10 #[lk v h o, .int .u64 n] w fun e w' => e = .returned (.tuple #[lk (dropV v h o n) false 0, .bool (dropK v h o n)]) ∧ Below w.heap.size w w' := by
  cases hi : isB v h o
  · have hfin : Value.tuple #[lk (dropV v h o n) false 0, .bool (dropK v h o n)] = .tuple #[lk 0 false 0, .bool false] := by simp [dropV, dropK, hi]
    have Hf := Lib.hid hfin; clear hfin
    go_enter Try.func10, Try.ntmps10
    go_wp2_with (first | (go_at_call 13; refine Calls.mono (is_any _ _ _ _) ?_; rintro e w1 ⟨rfl, rfl⟩) | (go_at_call 8; refine Calls.mono (free_any _ _) ?_; rintro e w1 ⟨rfl, rfl⟩))
    refine bodyPost_ret (v := .tuple #[lk 0 false 0, .bool false]) (by simp [results, Try.results10, go_sem]) rfl ⟨by rw [Hf.out], ?_⟩
    repeat (first | exact Below.refl _ _ | refine Below.setCell ?_ (by first | (simp; done) | (simp; omega)) _ | refine Below.alloc ?_ (by first | (simp; done) | (simp; omega)) _ | refine Below.drew ?_ | (refine Below.trans ?_ (Below.mono (by assumption) ?_); rotate_left; (first | (simp; done) | (simp; omega) | (simp [*]; omega))))
  · cases h
    · have hfin : Value.tuple #[lk (dropV v false o n) false 0, .bool (dropK v false o n)] = .tuple #[lk 0 false 0, .bool false] := by simp [dropV, dropK]
      have Hf := Lib.hid hfin; clear hfin
      go_enter Try.func10, Try.ntmps10
      go_wp2_with (first | (go_at_call 13; refine Calls.mono (is_any _ _ _ _) ?_; rintro e w1 ⟨rfl, rfl⟩) | (go_at_call 8; refine Calls.mono (free_any _ _) ?_; rintro e w1 ⟨rfl, rfl⟩))
      refine bodyPost_ret (v := .tuple #[lk 0 false 0, .bool false]) (by simp [results, Try.results10, go_sem]) rfl ⟨by rw [Hf.out], ?_⟩
      repeat (first | exact Below.refl _ _ | refine Below.setCell ?_ (by first | (simp; done) | (simp; omega)) _ | refine Below.alloc ?_ (by first | (simp; done) | (simp; omega)) _ | refine Below.drew ?_ | (refine Below.trans ?_ (Below.mono (by assumption) ?_); rotate_left; (first | (simp; done) | (simp; omega) | (simp [*]; omega))))
    · by_cases h1 : v ≤ n
      · by_cases h2 : n < 4611686018427387904
        · have hfin : Value.tuple #[lk (dropV v true o n) false 0, .bool (dropK v true o n)] = .tuple #[lk n false 0, .bool true] := by simp [dropV, dropK, hi, h1, h2]
          have Hf := Lib.hid hfin; clear hfin
          have ek : freeK n = true := by simp [freeK, h2]
          have ev : freeV n = n := by simp [freeV, freeK, h2]
          go_enter Try.func10, Try.ntmps10
          go_wp2_with (first | (go_at_call 13; refine Calls.mono (is_any _ _ _ _) ?_; rintro e w1 ⟨rfl, rfl⟩) | (go_at_call 8; refine Calls.mono (free_any _ _) ?_; rintro e w1 ⟨rfl, rfl⟩))
          refine bodyPost_ret (v := .tuple #[lk n false 0, .bool true]) (by simp [results, Try.results10, go_sem]) rfl ⟨by rw [Hf.out], ?_⟩
          repeat (first | exact Below.refl _ _ | refine Below.setCell ?_ (by first | (simp; done) | (simp; omega)) _ | refine Below.alloc ?_ (by first | (simp; done) | (simp; omega)) _ | refine Below.drew ?_ | (refine Below.trans ?_ (Below.mono (by assumption) ?_); rotate_left; (first | (simp; done) | (simp; omega) | (simp [*]; omega))))
        · have hfin : Value.tuple #[lk (dropV v true o n) false 0, .bool (dropK v true o n)] = .tuple #[lk 0 false 0, .bool false] := by simp [dropV, dropK, h2]
          have Hf := Lib.hid hfin; clear hfin
          have ek : freeK n = false := by simp [freeK, h2]
          have ev : freeV n = 0 := by simp [freeV, freeK, h2]
          go_enter Try.func10, Try.ntmps10
          go_wp2_with (first | (go_at_call 13; refine Calls.mono (is_any _ _ _ _) ?_; rintro e w1 ⟨rfl, rfl⟩) | (go_at_call 8; refine Calls.mono (free_any _ _) ?_; rintro e w1 ⟨rfl, rfl⟩))
          refine bodyPost_ret (v := .tuple #[lk 0 false 0, .bool false]) (by simp [results, Try.results10, go_sem]) rfl ⟨by rw [Hf.out], ?_⟩
          repeat (first | exact Below.refl _ _ | refine Below.setCell ?_ (by first | (simp; done) | (simp; omega)) _ | refine Below.alloc ?_ (by first | (simp; done) | (simp; omega)) _ | refine Below.drew ?_ | (refine Below.trans ?_ (Below.mono (by assumption) ?_); rotate_left; (first | (simp; done) | (simp; omega) | (simp [*]; omega))))
      · have hfin : Value.tuple #[lk (dropV v true o n) false 0, .bool (dropK v true o n)] = .tuple #[lk 0 false 0, .bool false] := by simp [dropV, dropK, h1]
        have Hf := Lib.hid hfin; clear hfin
        go_enter Try.func10, Try.ntmps10
        go_wp2_with (first | (go_at_call 13; refine Calls.mono (is_any _ _ _ _) ?_; rintro e w1 ⟨rfl, rfl⟩) | (go_at_call 8; refine Calls.mono (free_any _ _) ?_; rintro e w1 ⟨rfl, rfl⟩))
        refine bodyPost_ret (v := .tuple #[lk 0 false 0, .bool false]) (by simp [results, Try.results10, go_sem]) rfl ⟨by rw [Hf.out], ?_⟩
        repeat (first | exact Below.refl _ _ | refine Below.setCell ?_ (by first | (simp; done) | (simp; omega)) _ | refine Below.alloc ?_ (by first | (simp; done) | (simp; omega)) _ | refine Below.drew ?_ | (refine Below.trans ?_ (Below.mono (by assumption) ?_); rotate_left; (first | (simp; done) | (simp; omega) | (simp [*]; omega))))

theorem fits_any (v : Int) (h : Bool) (o s : Int) (w : World) : Calls Try.prog 12 #[lk v h o, .int .u64 s] w fun e w' => e = .returned (.bool (fitsB v h o s)) ∧ Below w.heap.size w w' := by
  cases hi : isB v h o
  · skip
    have hfin : fitsB v h o s = false := by simp [fitsB, hi]
    have Hf := Lib.hid hfin; clear hfin
    go_enter Try.func12, Try.ntmps12
    go_wp2_with (first | (go_at_call 13; refine Calls.mono (is_any _ _ _ _) ?_; rintro e w1 ⟨rfl, rfl⟩))
    go_ret
    refine ⟨by rw [Hf.out]; rfl, ?_⟩
    repeat (first | exact Below.refl _ _ | refine Below.setCell ?_ (by first | (simp; done) | (simp; omega)) _ | refine Below.alloc ?_ (by first | (simp; done) | (simp; omega)) _ | refine Below.drew ?_ | (refine Below.trans ?_ (Below.mono (by assumption) ?_); rotate_left; (first | (simp; done) | (simp; omega) | (simp [*]; omega))))
  · cases h
    · by_cases h1 : v ≤ s
      · skip
        have hfin : fitsB v false o s = true := by simp [fitsB, hi, h1]
        have Hf := Lib.hid hfin; clear hfin
        go_enter Try.func12, Try.ntmps12
        go_wp2_with (first | (go_at_call 13; refine Calls.mono (is_any _ _ _ _) ?_; rintro e w1 ⟨rfl, rfl⟩))
        go_ret
        refine ⟨by rw [Hf.out]; rfl, ?_⟩
        repeat (first | exact Below.refl _ _ | refine Below.setCell ?_ (by first | (simp; done) | (simp; omega)) _ | refine Below.alloc ?_ (by first | (simp; done) | (simp; omega)) _ | refine Below.drew ?_ | (refine Below.trans ?_ (Below.mono (by assumption) ?_); rotate_left; (first | (simp; done) | (simp; omega) | (simp [*]; omega))))
      · have h2 : decide (v ≤ s) = false := by simpa using h1
        have hfin : fitsB v false o s = false := by simp [fitsB, h1]
        have Hf := Lib.hid hfin; clear hfin
        go_enter Try.func12, Try.ntmps12
        go_wp2_with (first | (go_at_call 13; refine Calls.mono (is_any _ _ _ _) ?_; rintro e w1 ⟨rfl, rfl⟩))
        go_ret
        refine ⟨by rw [Hf.out]; rfl, ?_⟩
        repeat (first | exact Below.refl _ _ | refine Below.setCell ?_ (by first | (simp; done) | (simp; omega)) _ | refine Below.alloc ?_ (by first | (simp; done) | (simp; omega)) _ | refine Below.drew ?_ | (refine Below.trans ?_ (Below.mono (by assumption) ?_); rotate_left; (first | (simp; done) | (simp; omega) | (simp [*]; omega))))
    · skip
      have hfin : fitsB v true o s = false := by simp [fitsB, hi]
      have Hf := Lib.hid hfin; clear hfin
      go_enter Try.func12, Try.ntmps12
      go_wp2_with (first | (go_at_call 13; refine Calls.mono (is_any _ _ _ _) ?_; rintro e w1 ⟨rfl, rfl⟩))
      go_ret
      refine ⟨by rw [Hf.out]; rfl, ?_⟩
      repeat (first | exact Below.refl _ _ | refine Below.setCell ?_ (by first | (simp; done) | (simp; omega)) _ | refine Below.alloc ?_ (by first | (simp; done) | (simp; omega)) _ | refine Below.drew ?_ | (refine Below.trans ?_ (Below.mono (by assumption) ?_); rotate_left; (first | (simp; done) | (simp; omega) | (simp [*]; omega))))

theorem refis_any (v : Int) (h : Bool) (o : Int) (w : World) : Calls Try.prog 19 #[lk v h o] w fun e w' => e = .returned (.bool (isB v h o)) ∧ w' = w.alloc (.cells #[.int .u64 v, .bool h, .int .i64 o] 24) := by
  by_cases hv : v < 4611686018427387904
  · cases h
    · go_enter Try.func19, Try.ntmps19
      go_wp2
      go_ret
      exact ⟨by simp [isB, hv], rfl⟩
    · by_cases h0 : 0 ≤ o
      · by_cases h4 : o < 4
        · go_enter Try.func19, Try.ntmps19
          go_wp2
          go_ret
          exact ⟨by simp [isB, mh, hv, h0, h4], rfl⟩
        · go_enter Try.func19, Try.ntmps19
          go_wp2
          go_ret
          exact ⟨by simp [isB, mh, hv, h0, h4], rfl⟩
      · go_enter Try.func19, Try.ntmps19
        go_wp2
        go_ret
        exact ⟨by simp [isB, mh]; omega, rfl⟩
  · go_enter Try.func19, Try.ntmps19
    go_wp2
    go_ret
    exact ⟨by simp [isB]; omega, rfl⟩
theorem reftake_any (v : Int) (h : Bool) (o n : Int) (w : World) : Calls Try.prog 15 #[lk v h o, .int .i64 n] w fun e w' => e = .returned (.tuple #[lk (takeV v h o n) (takeK v h o n) (takeO v h o n), .bool (takeK v h o n)]) ∧ Below w.heap.size w w' := by
  cases hi : isB v h o
  · have hfin : Value.tuple #[lk (takeV v h o n) (takeK v h o n) (takeO v h o n), .bool (takeK v h o n)] = .tuple #[lk 0 false 0, .bool false] := by simp [takeV, takeK, takeO, hi]
    have Hf := Lib.hid hfin; clear hfin
    go_enter Try.func15, Try.ntmps15
    go_wp2_with (first | (go_at_call 19; refine Calls.mono (refis_any _ _ _ _) ?_; rintro e w1 ⟨rfl, rfl⟩))
    refine bodyPost_ret (v := .tuple #[lk 0 false 0, .bool false]) (by simp [results, Try.results15, go_sem]) rfl ⟨by rw [Hf.out], ?_⟩
    repeat (first | exact Below.refl _ _ | refine Below.setCell ?_ (by first | (simp; done) | (simp; omega)) _ | refine Below.alloc ?_ (by first | (simp; done) | (simp; omega)) _ | refine Below.drew ?_ | (refine Below.trans ?_ (Below.mono (by assumption) ?_); rotate_left; (first | (simp; done) | (simp; omega) | (simp [*]; omega))))
  · cases h
    · by_cases h0 : 0 ≤ n
      · by_cases h4 : n < 4
        · have hfin : Value.tuple #[lk (takeV v false o n) (takeK v false o n) (takeO v false o n), .bool (takeK v false o n)] = .tuple #[lk v true n, .bool true] := by simp [takeV, takeK, takeO, hi, mh, h0, h4]
          have Hf := Lib.hid hfin; clear hfin
          go_enter Try.func15, Try.ntmps15
          go_wp2_with (first | (go_at_call 19; refine Calls.mono (refis_any _ _ _ _) ?_; rintro e w1 ⟨rfl, rfl⟩))
          refine bodyPost_ret (v := .tuple #[lk v true n, .bool true]) (by simp [results, Try.results15, go_sem]) rfl ⟨by rw [Hf.out], ?_⟩
          repeat (first | exact Below.refl _ _ | refine Below.setCell ?_ (by first | (simp; done) | (simp; omega)) _ | refine Below.alloc ?_ (by first | (simp; done) | (simp; omega)) _ | refine Below.drew ?_ | (refine Below.trans ?_ (Below.mono (by assumption) ?_); rotate_left; (first | (simp; done) | (simp; omega) | (simp [*]; omega))))
        · have hfin : Value.tuple #[lk (takeV v false o n) (takeK v false o n) (takeO v false o n), .bool (takeK v false o n)] = .tuple #[lk 0 false 0, .bool false] := by simp [takeV, takeK, takeO, hi, mh, h0, h4]
          have Hf := Lib.hid hfin; clear hfin
          go_enter Try.func15, Try.ntmps15
          go_wp2_with (first | (go_at_call 19; refine Calls.mono (refis_any _ _ _ _) ?_; rintro e w1 ⟨rfl, rfl⟩))
          refine bodyPost_ret (v := .tuple #[lk 0 false 0, .bool false]) (by simp [results, Try.results15, go_sem]) rfl ⟨by rw [Hf.out], ?_⟩
          repeat (first | exact Below.refl _ _ | refine Below.setCell ?_ (by first | (simp; done) | (simp; omega)) _ | refine Below.alloc ?_ (by first | (simp; done) | (simp; omega)) _ | refine Below.drew ?_ | (refine Below.trans ?_ (Below.mono (by assumption) ?_); rotate_left; (first | (simp; done) | (simp; omega) | (simp [*]; omega))))
      · have hfin : Value.tuple #[lk (takeV v false o n) (takeK v false o n) (takeO v false o n), .bool (takeK v false o n)] = .tuple #[lk 0 false 0, .bool false] := by simp [takeV, takeK, takeO, hi, mh, h0]
        have Hf := Lib.hid hfin; clear hfin
        go_enter Try.func15, Try.ntmps15
        go_wp2_with (first | (go_at_call 19; refine Calls.mono (refis_any _ _ _ _) ?_; rintro e w1 ⟨rfl, rfl⟩))
        refine bodyPost_ret (v := .tuple #[lk 0 false 0, .bool false]) (by simp [results, Try.results15, go_sem]) rfl ⟨by rw [Hf.out], ?_⟩
        repeat (first | exact Below.refl _ _ | refine Below.setCell ?_ (by first | (simp; done) | (simp; omega)) _ | refine Below.alloc ?_ (by first | (simp; done) | (simp; omega)) _ | refine Below.drew ?_ | (refine Below.trans ?_ (Below.mono (by assumption) ?_); rotate_left; (first | (simp; done) | (simp; omega) | (simp [*]; omega))))
    · have hfin : Value.tuple #[lk (takeV v true o n) (takeK v true o n) (takeO v true o n), .bool (takeK v true o n)] = .tuple #[lk 0 false 0, .bool false] := by simp [takeV, takeK, takeO, hi]
      have Hf := Lib.hid hfin; clear hfin
      go_enter Try.func15, Try.ntmps15
      go_wp2_with (first | (go_at_call 19; refine Calls.mono (refis_any _ _ _ _) ?_; rintro e w1 ⟨rfl, rfl⟩))
      refine bodyPost_ret (v := .tuple #[lk 0 false 0, .bool false]) (by simp [results, Try.results15, go_sem]) rfl ⟨by rw [Hf.out], ?_⟩
      repeat (first | exact Below.refl _ _ | refine Below.setCell ?_ (by first | (simp; done) | (simp; omega)) _ | refine Below.alloc ?_ (by first | (simp; done) | (simp; omega)) _ | refine Below.drew ?_ | (refine Below.trans ?_ (Below.mono (by assumption) ?_); rotate_left; (first | (simp; done) | (simp; omega) | (simp [*]; omega))))

theorem refdrop_any (v : Int) (h : Bool) (o n : Int) (w : World) : Calls Try.prog 16 #[lk v h o, .int .u64 n] w fun e w' => e = .returned (.tuple #[lk (dropV v h o n) false 0, .bool (dropK v h o n)]) ∧ Below w.heap.size w w' := by
  cases hi : isB v h o
  · have hfin : Value.tuple #[lk (dropV v h o n) false 0, .bool (dropK v h o n)] = .tuple #[lk 0 false 0, .bool false] := by simp [dropV, dropK, hi]
    have Hf := Lib.hid hfin; clear hfin
    go_enter Try.func16, Try.ntmps16
    go_wp2_with (first | (go_at_call 19; refine Calls.mono (refis_any _ _ _ _) ?_; rintro e w1 ⟨rfl, rfl⟩))
    refine bodyPost_ret (v := .tuple #[lk 0 false 0, .bool false]) (by simp [results, Try.results16, go_sem]) rfl ⟨by rw [Hf.out], ?_⟩
    repeat (first | exact Below.refl _ _ | refine Below.setCell ?_ (by first | (simp; done) | (simp; omega)) _ | refine Below.alloc ?_ (by first | (simp; done) | (simp; omega)) _ | refine Below.drew ?_ | (refine Below.trans ?_ (Below.mono (by assumption) ?_); rotate_left; (first | (simp; done) | (simp; omega) | (simp [*]; omega))))
  · cases h
    · have hfin : Value.tuple #[lk (dropV v false o n) false 0, .bool (dropK v false o n)] = .tuple #[lk 0 false 0, .bool false] := by simp [dropV, dropK]
      have Hf := Lib.hid hfin; clear hfin
      go_enter Try.func16, Try.ntmps16
      go_wp2_with (first | (go_at_call 19; refine Calls.mono (refis_any _ _ _ _) ?_; rintro e w1 ⟨rfl, rfl⟩))
      refine bodyPost_ret (v := .tuple #[lk 0 false 0, .bool false]) (by simp [results, Try.results16, go_sem]) rfl ⟨by rw [Hf.out], ?_⟩
      repeat (first | exact Below.refl _ _ | refine Below.setCell ?_ (by first | (simp; done) | (simp; omega)) _ | refine Below.alloc ?_ (by first | (simp; done) | (simp; omega)) _ | refine Below.drew ?_ | (refine Below.trans ?_ (Below.mono (by assumption) ?_); rotate_left; (first | (simp; done) | (simp; omega) | (simp [*]; omega))))
    · by_cases h1 : v ≤ n
      · by_cases h2 : n < 4611686018427387904
        · have hfin : Value.tuple #[lk (dropV v true o n) false 0, .bool (dropK v true o n)] = .tuple #[lk n false 0, .bool true] := by simp [dropV, dropK, hi, h1, h2]
          have Hf := Lib.hid hfin; clear hfin
          go_enter Try.func16, Try.ntmps16
          go_wp2_with (first | (go_at_call 19; refine Calls.mono (refis_any _ _ _ _) ?_; rintro e w1 ⟨rfl, rfl⟩))
          refine bodyPost_ret (v := .tuple #[lk n false 0, .bool true]) (by simp [results, Try.results16, go_sem]) rfl ⟨by rw [Hf.out], ?_⟩
          repeat (first | exact Below.refl _ _ | refine Below.setCell ?_ (by first | (simp; done) | (simp; omega)) _ | refine Below.alloc ?_ (by first | (simp; done) | (simp; omega)) _ | refine Below.drew ?_ | (refine Below.trans ?_ (Below.mono (by assumption) ?_); rotate_left; (first | (simp; done) | (simp; omega) | (simp [*]; omega))))
        · have hfin : Value.tuple #[lk (dropV v true o n) false 0, .bool (dropK v true o n)] = .tuple #[lk 0 false 0, .bool false] := by simp [dropV, dropK, h2]
          have Hf := Lib.hid hfin; clear hfin
          go_enter Try.func16, Try.ntmps16
          go_wp2_with (first | (go_at_call 19; refine Calls.mono (refis_any _ _ _ _) ?_; rintro e w1 ⟨rfl, rfl⟩))
          refine bodyPost_ret (v := .tuple #[lk 0 false 0, .bool false]) (by simp [results, Try.results16, go_sem]) rfl ⟨by rw [Hf.out], ?_⟩
          repeat (first | exact Below.refl _ _ | refine Below.setCell ?_ (by first | (simp; done) | (simp; omega)) _ | refine Below.alloc ?_ (by first | (simp; done) | (simp; omega)) _ | refine Below.drew ?_ | (refine Below.trans ?_ (Below.mono (by assumption) ?_); rotate_left; (first | (simp; done) | (simp; omega) | (simp [*]; omega))))
      · have hfin : Value.tuple #[lk (dropV v true o n) false 0, .bool (dropK v true o n)] = .tuple #[lk 0 false 0, .bool false] := by simp [dropV, dropK, h1]
        have Hf := Lib.hid hfin; clear hfin
        go_enter Try.func16, Try.ntmps16
        go_wp2_with (first | (go_at_call 19; refine Calls.mono (refis_any _ _ _ _) ?_; rintro e w1 ⟨rfl, rfl⟩))
        refine bodyPost_ret (v := .tuple #[lk 0 false 0, .bool false]) (by simp [results, Try.results16, go_sem]) rfl ⟨by rw [Hf.out], ?_⟩
        repeat (first | exact Below.refl _ _ | refine Below.setCell ?_ (by first | (simp; done) | (simp; omega)) _ | refine Below.alloc ?_ (by first | (simp; done) | (simp; omega)) _ | refine Below.drew ?_ | (refine Below.trans ?_ (Below.mono (by assumption) ?_); rotate_left; (first | (simp; done) | (simp; omega) | (simp [*]; omega))))

theorem reffits_any (v : Int) (h : Bool) (o s : Int) (w : World) : Calls Try.prog 20 #[lk v h o, .int .u64 s] w fun e w' => e = .returned (.bool (fitsB v h o s)) ∧ Below w.heap.size w w' := by
  cases hi : isB v h o
  · skip
    have hfin : fitsB v h o s = false := by simp [fitsB, hi]
    have Hf := Lib.hid hfin; clear hfin
    go_enter Try.func20, Try.ntmps20
    go_wp2_with (first | (go_at_call 19; refine Calls.mono (refis_any _ _ _ _) ?_; rintro e w1 ⟨rfl, rfl⟩))
    go_ret
    refine ⟨by rw [Hf.out]; rfl, ?_⟩
    repeat (first | exact Below.refl _ _ | refine Below.setCell ?_ (by first | (simp; done) | (simp; omega)) _ | refine Below.alloc ?_ (by first | (simp; done) | (simp; omega)) _ | refine Below.drew ?_ | (refine Below.trans ?_ (Below.mono (by assumption) ?_); rotate_left; (first | (simp; done) | (simp; omega) | (simp [*]; omega))))
  · cases h
    · by_cases h1 : v ≤ s
      · skip
        have hfin : fitsB v false o s = true := by simp [fitsB, hi, h1]
        have Hf := Lib.hid hfin; clear hfin
        go_enter Try.func20, Try.ntmps20
        go_wp2_with (first | (go_at_call 19; refine Calls.mono (refis_any _ _ _ _) ?_; rintro e w1 ⟨rfl, rfl⟩))
        go_ret
        refine ⟨by rw [Hf.out]; rfl, ?_⟩
        repeat (first | exact Below.refl _ _ | refine Below.setCell ?_ (by first | (simp; done) | (simp; omega)) _ | refine Below.alloc ?_ (by first | (simp; done) | (simp; omega)) _ | refine Below.drew ?_ | (refine Below.trans ?_ (Below.mono (by assumption) ?_); rotate_left; (first | (simp; done) | (simp; omega) | (simp [*]; omega))))
      · have h2 : decide (v ≤ s) = false := by simpa using h1
        have hfin : fitsB v false o s = false := by simp [fitsB, h1]
        have Hf := Lib.hid hfin; clear hfin
        go_enter Try.func20, Try.ntmps20
        go_wp2_with (first | (go_at_call 19; refine Calls.mono (refis_any _ _ _ _) ?_; rintro e w1 ⟨rfl, rfl⟩))
        go_ret
        refine ⟨by rw [Hf.out]; rfl, ?_⟩
        repeat (first | exact Below.refl _ _ | refine Below.setCell ?_ (by first | (simp; done) | (simp; omega)) _ | refine Below.alloc ?_ (by first | (simp; done) | (simp; omega)) _ | refine Below.drew ?_ | (refine Below.trans ?_ (Below.mono (by assumption) ?_); rotate_left; (first | (simp; done) | (simp; omega) | (simp [*]; omega))))
    · skip
      have hfin : fitsB v true o s = false := by simp [fitsB, hi]
      have Hf := Lib.hid hfin; clear hfin
      go_enter Try.func20, Try.ntmps20
      go_wp2_with (first | (go_at_call 19; refine Calls.mono (refis_any _ _ _ _) ?_; rintro e w1 ⟨rfl, rfl⟩))
      go_ret
      refine ⟨by rw [Hf.out]; rfl, ?_⟩
      repeat (first | exact Below.refl _ _ | refine Below.setCell ?_ (by first | (simp; done) | (simp; omega)) _ | refine Below.alloc ?_ (by first | (simp; done) | (simp; omega)) _ | refine Below.drew ?_ | (refine Below.trans ?_ (Below.mono (by assumption) ?_); rotate_left; (first | (simp; done) | (simp; omega) | (simp [*]; omega))))

theorem reffree_any (v : Int) (w : World) : Calls Try.prog 14 #[.int .u64 v] w fun e w' => e = .returned (.tuple #[lk (freeV v) false 0, .bool (freeK v)]) ∧ w' = w.alloc (.cells #[.int .u64 (freeV v), .bool false, .int .i64 0] 24) := by
  by_cases hv : v < 4611686018427387904
  · have e1 : freeV v = v := by simp [freeV, freeK, hv]
    have e2 : freeK v = true := by simp [freeK, hv]
    rw [e1, e2]
    clear e1 e2
    go_enter Try.func14, Try.ntmps14
    go_wp2
    exact bodyPost_ret (v := .tuple #[lk v false 0, .bool true]) (by simp [results, Try.results14, go_sem]) rfl ⟨rfl, rfl⟩
  · have e1 : freeV v = 0 := by simp [freeV, freeK, hv]
    have e2 : freeK v = false := by simp [freeK, hv]
    rw [e1, e2]
    clear e1 e2
    go_enter Try.func14, Try.ntmps14
    go_wp2
    exact bodyPost_ret (v := .tuple #[lk 0 false 0, .bool false]) (by simp [results, Try.results14, go_sem]) rfl ⟨rfl, rfl⟩

end Go.Proofs.Ytekndgioebfmbaa
