/- lock.Read, ReadLock of the reference: of nine bytes. -/

import Derived.Test.YtekndgioebfmbaaLockB
import Derived.Handy
import Derived.RegionTactic
import Derived.Deep.Draws
namespace Go.Proofs.Ytekndgioebfmbaa
open Go.ChangeShapes Go.WideShapes Go.ChangeAt Go.RowKit
open Go.ChangeMaps (open_string shut_string)
set_option linter.unusedVariables false
theorem setCell_drewN (w : World) (n : Nat) (a : Addr) (v : Value) : (w.drewN n).setCell a v = (w.setCell a v).drewN n := rfl
theorem alloc_drewN (w : World) (n : Nat) (o : Obj) : (w.drewN n).alloc o = (w.alloc o).drewN n := rfl
theorem below_drewN {B : Nat} {a w : World} (h : Below B a w) (n : Nat) : Below B a (w.drewN n) := ⟨h.os, h.tape, h.output, h.size, h.block⟩
attribute [go_sem] setCell_drewN alloc_drewN

def sh (a b : Int) : Int := bits .or .u64 (IntKind.u64.wrap (a * 256)) (IntKind.u64.wrap b)
theorem sh_fold (a b : Int) : bits .or .u64 (IntKind.u64.wrap (a * 256)) (IntKind.u64.wrap b) = sh a b := rfl
theorem sh_zero (b : Int) : bits .or .u64 0 (IntKind.u64.wrap b) = sh 0 b := rfl
theorem ba_get (a : Array UInt8) (i : Nat) (h : i < (⟨a⟩ : ByteArray).size) : (⟨a⟩ : ByteArray)[i]'h = a[i]'h := rfl
attribute [local go_sem] sh_fold sh_zero ba_get
def VK (b0 b1 b2 b3 b4 b5 b6 b7 : UInt8) : Nat → Int
  | 0 => 0
  | 1 => (sh 0 b0.toNat)
  | 2 => (sh (sh 0 b0.toNat) b1.toNat)
  | 3 => (sh (sh (sh 0 b0.toNat) b1.toNat) b2.toNat)
  | 4 => (sh (sh (sh (sh 0 b0.toNat) b1.toNat) b2.toNat) b3.toNat)
  | 5 => (sh (sh (sh (sh (sh 0 b0.toNat) b1.toNat) b2.toNat) b3.toNat) b4.toNat)
  | 6 => (sh (sh (sh (sh (sh (sh 0 b0.toNat) b1.toNat) b2.toNat) b3.toNat) b4.toNat) b5.toNat)
  | 7 => (sh (sh (sh (sh (sh (sh (sh 0 b0.toNat) b1.toNat) b2.toNat) b3.toNat) b4.toNat) b5.toNat) b6.toNat)
  | _ => (sh (sh (sh (sh (sh (sh (sh (sh 0 b0.toNat) b1.toNat) b2.toNat) b3.toNat) b4.toNat) b5.toNat) b6.toNat) b7.toNat)
abbrev V8 (b0 b1 b2 b3 b4 b5 b6 b7 : UInt8) : Int := VK b0 b1 b2 b3 b4 b5 b6 b7 8
def rH (b : UInt8) : Bool := decide (0 < b.toNat)
def rO (b : UInt8) : Int := if 0 < b.toNat then (b.toNat : Int) - 1 else 0
def rK (b0 b1 b2 b3 b4 b5 b6 b7 b8 : UInt8) : Bool := isB (V8 b0 b1 b2 b3 b4 b5 b6 b7) (rH b8) (rO b8)
def rdV (b0 b1 b2 b3 b4 b5 b6 b7 b8 : UInt8) : Int := if rK b0 b1 b2 b3 b4 b5 b6 b7 b8 then V8 b0 b1 b2 b3 b4 b5 b6 b7 else 0
def rdH (b0 b1 b2 b3 b4 b5 b6 b7 b8 : UInt8) : Bool := rK b0 b1 b2 b3 b4 b5 b6 b7 b8 && rH b8
def rdO (b0 b1 b2 b3 b4 b5 b6 b7 b8 : UInt8) : Int := if rK b0 b1 b2 b3 b4 b5 b6 b7 b8 then rO b8 else 0

set_option maxRecDepth 100000 in
set_option maxHeartbeats 2000000 in
theorem read_9 (b0 b1 b2 b3 b4 b5 b6 b7 b8 : UInt8) (w : World) : Calls Try.prog 17 #[.string ⟨#[b0, b1, b2, b3, b4, b5, b6, b7, b8]⟩] w fun e w' => e = .returned (.tuple #[lk (rdV b0 b1 b2 b3 b4 b5 b6 b7 b8) (rdH b0 b1 b2 b3 b4 b5 b6 b7 b8) (rdO b0 b1 b2 b3 b4 b5 b6 b7 b8), .bool (rK b0 b1 b2 b3 b4 b5 b6 b7 b8)]) ∧ Below w.heap.size w w' := by
  go_enter Try.func17, Try.ntmps17
  go_wp2
  go_loopw [5] (fun u wr => ∃ k n : Nat, k ≤ 8 ∧ u = .int .i64 k ∧ wr = ((w.alloc (.cells #[.int .u64 0, .bool false, .int .i64 0] 24)).alloc (.cells #[.int .u64 (VK b0 b1 b2 b3 b4 b5 b6 b7 k), .bool false, .int .i64 0] 24)).drewN n) (fun i _ => (8 - intOf i).toNat)
  case atStart => exact ⟨0, 0, by omega, rfl, rfl⟩
  case round =>
    obtain ⟨k, n, hk8, rfl, rfl⟩ := hrel
    rcases (by omega : k = 0 ∨ k = 1 ∨ k = 2 ∨ k = 3 ∨ k = 4 ∨ k = 5 ∨ k = 6 ∨ k = 7 ∨ k = 8) with rfl | rfl | rfl | rfl | rfl | rfl | rfl | rfl | rfl
    · simp only [VK]
      go_wp2
      go_region
      go_wp2
      go_roundw
      case rel => exact ⟨1, n + 1, by omega, by first | rfl | go_num, rfl⟩
      case measure => simp [intOf]
    · simp only [VK]
      go_wp2
      go_region
      go_wp2
      go_roundw
      case rel => exact ⟨2, n + 1, by omega, by first | rfl | go_num, rfl⟩
      case measure => simp [intOf]
    · simp only [VK]
      go_wp2
      go_region
      go_wp2
      go_roundw
      case rel => exact ⟨3, n + 1, by omega, by first | rfl | go_num, rfl⟩
      case measure => simp [intOf]
    · simp only [VK]
      go_wp2
      go_region
      go_wp2
      go_roundw
      case rel => exact ⟨4, n + 1, by omega, by first | rfl | go_num, rfl⟩
      case measure => simp [intOf]
    · simp only [VK]
      go_wp2
      go_region
      go_wp2
      go_roundw
      case rel => exact ⟨5, n + 1, by omega, by first | rfl | go_num, rfl⟩
      case measure => simp [intOf]
    · simp only [VK]
      go_wp2
      go_region
      go_wp2
      go_roundw
      case rel => exact ⟨6, n + 1, by omega, by first | rfl | go_num, rfl⟩
      case measure => simp [intOf]
    · simp only [VK]
      go_wp2
      go_region
      go_wp2
      go_roundw
      case rel => exact ⟨7, n + 1, by omega, by first | rfl | go_num, rfl⟩
      case measure => simp [intOf]
    · simp only [VK]
      go_wp2
      go_region
      go_wp2
      go_roundw
      case rel => exact ⟨8, n + 1, by omega, by first | rfl | go_num, rfl⟩
      case measure => simp [intOf]
    · generalize hA : VK b0 b1 b2 b3 b4 b5 b6 b7 8 = A
      obtain ⟨n8, hn8⟩ : ∃ n : Int, ((b8.toNat : Nat) : Int) = n := ⟨_, rfl⟩
      have hlt : n8 < 256 := by have := b8.toNat_lt; omega
      have hge : 0 ≤ n8 := by omega
      by_cases h8 : 0 < b8.toNat
      · have hd : (0 : Int) < n8 := by omega
        have eH : rH b8 = true := by simp [rH, h8]
        have eO : rO b8 = n8 - 1 := by simp [rO, h8, hn8]
        have H8 := Lib.hid h8; clear h8
        have HA := Lib.hid hA; clear hA
        by_cases hk : isB A true (n8 - 1) = true
        · skip
          have e : rK b0 b1 b2 b3 b4 b5 b6 b7 b8 = true := by rw [rK, eH, eO, V8, HA.out]; exact hk
          have hfin : Value.tuple #[lk (rdV b0 b1 b2 b3 b4 b5 b6 b7 b8) (rdH b0 b1 b2 b3 b4 b5 b6 b7 b8) (rdO b0 b1 b2 b3 b4 b5 b6 b7 b8), .bool (rK b0 b1 b2 b3 b4 b5 b6 b7 b8)] = Value.tuple #[lk A true (n8 - 1), .bool true] := by simp [rdV, rdH, rdO, e, eH, eO, V8, HA.out]
          have Hf := Lib.hid hfin; clear hfin e
          have EH := Lib.hid eH; clear eH
          have EO := Lib.hid eO; clear eO
          go_wp2_with (first | (go_at_call 13; refine Calls.mono (is_any _ _ _ _) ?_; rintro e w1 ⟨rfl, rfl⟩))
          refine bodyPost_ret (v := .tuple #[lk A true (n8 - 1), .bool true]) (by simp [results, Try.results17, go_sem]) rfl ⟨by rw [Hf.out], ?_⟩
          repeat (first | exact Below.refl _ _ | refine below_drewN ?_ _ | refine Below.setCell ?_ (by first | (simp; done) | (simp; omega)) _ | refine Below.alloc ?_ (by first | (simp; done) | (simp; omega)) _ | refine Below.drew ?_)
        · have hk' : isB A true (n8 - 1) = false := by simpa using hk
          clear hk
          have hk := hk'
          clear hk'
          have e : rK b0 b1 b2 b3 b4 b5 b6 b7 b8 = false := by rw [rK, eH, eO, V8, HA.out]; exact hk
          have hfin : Value.tuple #[lk (rdV b0 b1 b2 b3 b4 b5 b6 b7 b8) (rdH b0 b1 b2 b3 b4 b5 b6 b7 b8) (rdO b0 b1 b2 b3 b4 b5 b6 b7 b8), .bool (rK b0 b1 b2 b3 b4 b5 b6 b7 b8)] = Value.tuple #[lk 0 false 0, .bool false] := by simp [rdV, rdH, rdO, e, eH, eO, V8, HA.out]
          have Hf := Lib.hid hfin; clear hfin e
          have EH := Lib.hid eH; clear eH
          have EO := Lib.hid eO; clear eO
          go_wp2_with (first | (go_at_call 13; refine Calls.mono (is_any _ _ _ _) ?_; rintro e w1 ⟨rfl, rfl⟩))
          refine bodyPost_ret (v := .tuple #[lk 0 false 0, .bool false]) (by simp [results, Try.results17, go_sem]) rfl ⟨by rw [Hf.out], ?_⟩
          repeat (first | exact Below.refl _ _ | refine below_drewN ?_ _ | refine Below.setCell ?_ (by first | (simp; done) | (simp; omega)) _ | refine Below.alloc ?_ (by first | (simp; done) | (simp; omega)) _ | refine Below.drew ?_)
      · have hd : decide ((0 : Int) < n8) = false := by simp; omega
        have hd2 : ¬ (0 : Int) < n8 := by omega
        have eH : rH b8 = false := by simp [rH, h8]
        have eO : rO b8 = 0 := by simp [rO, h8]
        have H8 := Lib.hid h8; clear h8
        have HA := Lib.hid hA; clear hA
        by_cases hk : isB A false 0 = true
        · skip
          have e : rK b0 b1 b2 b3 b4 b5 b6 b7 b8 = true := by rw [rK, eH, eO, V8, HA.out]; exact hk
          have hfin : Value.tuple #[lk (rdV b0 b1 b2 b3 b4 b5 b6 b7 b8) (rdH b0 b1 b2 b3 b4 b5 b6 b7 b8) (rdO b0 b1 b2 b3 b4 b5 b6 b7 b8), .bool (rK b0 b1 b2 b3 b4 b5 b6 b7 b8)] = Value.tuple #[lk A false 0, .bool true] := by simp [rdV, rdH, rdO, e, eH, eO, V8, HA.out]
          have Hf := Lib.hid hfin; clear hfin e
          have EH := Lib.hid eH; clear eH
          have EO := Lib.hid eO; clear eO
          go_wp2_with (first | (go_at_call 13; refine Calls.mono (is_any _ _ _ _) ?_; rintro e w1 ⟨rfl, rfl⟩))
          refine bodyPost_ret (v := .tuple #[lk A false 0, .bool true]) (by simp [results, Try.results17, go_sem]) rfl ⟨by rw [Hf.out], ?_⟩
          repeat (first | exact Below.refl _ _ | refine below_drewN ?_ _ | refine Below.setCell ?_ (by first | (simp; done) | (simp; omega)) _ | refine Below.alloc ?_ (by first | (simp; done) | (simp; omega)) _ | refine Below.drew ?_)
        · have hk' : isB A false 0 = false := by simpa using hk
          clear hk
          have hk := hk'
          clear hk'
          have e : rK b0 b1 b2 b3 b4 b5 b6 b7 b8 = false := by rw [rK, eH, eO, V8, HA.out]; exact hk
          have hfin : Value.tuple #[lk (rdV b0 b1 b2 b3 b4 b5 b6 b7 b8) (rdH b0 b1 b2 b3 b4 b5 b6 b7 b8) (rdO b0 b1 b2 b3 b4 b5 b6 b7 b8), .bool (rK b0 b1 b2 b3 b4 b5 b6 b7 b8)] = Value.tuple #[lk 0 false 0, .bool false] := by simp [rdV, rdH, rdO, e, eH, eO, V8, HA.out]
          have Hf := Lib.hid hfin; clear hfin e
          have EH := Lib.hid eH; clear eH
          have EO := Lib.hid eO; clear eO
          go_wp2_with (first | (go_at_call 13; refine Calls.mono (is_any _ _ _ _) ?_; rintro e w1 ⟨rfl, rfl⟩))
          refine bodyPost_ret (v := .tuple #[lk 0 false 0, .bool false]) (by simp [results, Try.results17, go_sem]) rfl ⟨by rw [Hf.out], ?_⟩
          repeat (first | exact Below.refl _ _ | refine below_drewN ?_ _ | refine Below.setCell ?_ (by first | (simp; done) | (simp; omega)) _ | refine Below.alloc ?_ (by first | (simp; done) | (simp; omega)) _ | refine Below.drew ?_)

set_option maxRecDepth 100000 in
set_option maxHeartbeats 2000000 in
theorem refread_9 (b0 b1 b2 b3 b4 b5 b6 b7 b8 : UInt8) (w : World) : Calls Try.prog 18 #[.string ⟨#[b0, b1, b2, b3, b4, b5, b6, b7, b8]⟩] w fun e w' => e = .returned (.tuple #[lk (rdV b0 b1 b2 b3 b4 b5 b6 b7 b8) (rdH b0 b1 b2 b3 b4 b5 b6 b7 b8) (rdO b0 b1 b2 b3 b4 b5 b6 b7 b8), .bool (rK b0 b1 b2 b3 b4 b5 b6 b7 b8)]) ∧ Below w.heap.size w w' := by
  go_enter Try.func18, Try.ntmps18
  go_wp2
  go_loopw [5] (fun u wr => ∃ k n : Nat, k ≤ 8 ∧ u = .int .i64 k ∧ wr = ((w.alloc (.cells #[.int .u64 0, .bool false, .int .i64 0] 24)).alloc (.cells #[.int .u64 (VK b0 b1 b2 b3 b4 b5 b6 b7 k), .bool false, .int .i64 0] 24)).drewN n) (fun i _ => (8 - intOf i).toNat)
  case atStart => exact ⟨0, 0, by omega, rfl, rfl⟩
  case round =>
    obtain ⟨k, n, hk8, rfl, rfl⟩ := hrel
    rcases (by omega : k = 0 ∨ k = 1 ∨ k = 2 ∨ k = 3 ∨ k = 4 ∨ k = 5 ∨ k = 6 ∨ k = 7 ∨ k = 8) with rfl | rfl | rfl | rfl | rfl | rfl | rfl | rfl | rfl
    · simp only [VK]
      go_wp2
      go_region
      go_wp2
      go_roundw
      case rel => exact ⟨1, n + 1, by omega, by first | rfl | go_num, rfl⟩
      case measure => simp [intOf]
    · simp only [VK]
      go_wp2
      go_region
      go_wp2
      go_roundw
      case rel => exact ⟨2, n + 1, by omega, by first | rfl | go_num, rfl⟩
      case measure => simp [intOf]
    · simp only [VK]
      go_wp2
      go_region
      go_wp2
      go_roundw
      case rel => exact ⟨3, n + 1, by omega, by first | rfl | go_num, rfl⟩
      case measure => simp [intOf]
    · simp only [VK]
      go_wp2
      go_region
      go_wp2
      go_roundw
      case rel => exact ⟨4, n + 1, by omega, by first | rfl | go_num, rfl⟩
      case measure => simp [intOf]
    · simp only [VK]
      go_wp2
      go_region
      go_wp2
      go_roundw
      case rel => exact ⟨5, n + 1, by omega, by first | rfl | go_num, rfl⟩
      case measure => simp [intOf]
    · simp only [VK]
      go_wp2
      go_region
      go_wp2
      go_roundw
      case rel => exact ⟨6, n + 1, by omega, by first | rfl | go_num, rfl⟩
      case measure => simp [intOf]
    · simp only [VK]
      go_wp2
      go_region
      go_wp2
      go_roundw
      case rel => exact ⟨7, n + 1, by omega, by first | rfl | go_num, rfl⟩
      case measure => simp [intOf]
    · simp only [VK]
      go_wp2
      go_region
      go_wp2
      go_roundw
      case rel => exact ⟨8, n + 1, by omega, by first | rfl | go_num, rfl⟩
      case measure => simp [intOf]
    · generalize hA : VK b0 b1 b2 b3 b4 b5 b6 b7 8 = A
      obtain ⟨n8, hn8⟩ : ∃ n : Int, ((b8.toNat : Nat) : Int) = n := ⟨_, rfl⟩
      have hlt : n8 < 256 := by have := b8.toNat_lt; omega
      have hge : 0 ≤ n8 := by omega
      by_cases h8 : 0 < b8.toNat
      · have hd : (0 : Int) < n8 := by omega
        have eH : rH b8 = true := by simp [rH, h8]
        have eO : rO b8 = n8 - 1 := by simp [rO, h8, hn8]
        have H8 := Lib.hid h8; clear h8
        have HA := Lib.hid hA; clear hA
        by_cases hk : isB A true (n8 - 1) = true
        · skip
          have e : rK b0 b1 b2 b3 b4 b5 b6 b7 b8 = true := by rw [rK, eH, eO, V8, HA.out]; exact hk
          have hfin : Value.tuple #[lk (rdV b0 b1 b2 b3 b4 b5 b6 b7 b8) (rdH b0 b1 b2 b3 b4 b5 b6 b7 b8) (rdO b0 b1 b2 b3 b4 b5 b6 b7 b8), .bool (rK b0 b1 b2 b3 b4 b5 b6 b7 b8)] = Value.tuple #[lk A true (n8 - 1), .bool true] := by simp [rdV, rdH, rdO, e, eH, eO, V8, HA.out]
          have Hf := Lib.hid hfin; clear hfin e
          have EH := Lib.hid eH; clear eH
          have EO := Lib.hid eO; clear eO
          go_wp2_with (fail)
          try (go_region; go_wp2_with (fail))
          go_wp2_with (first | (go_at_call 19; refine Calls.mono (refis_any _ _ _ _) ?_; rintro e w1 ⟨rfl, rfl⟩))
          refine bodyPost_ret (v := .tuple #[lk A true (n8 - 1), .bool true]) (by simp [results, Try.results18, go_sem]) rfl ⟨by rw [Hf.out], ?_⟩
          repeat (first | exact Below.refl _ _ | refine below_drewN ?_ _ | refine Below.setCell ?_ (by first | (simp; done) | (simp; omega)) _ | refine Below.alloc ?_ (by first | (simp; done) | (simp; omega)) _ | refine Below.drew ?_)
        · have hk' : isB A true (n8 - 1) = false := by simpa using hk
          clear hk
          have hk := hk'
          clear hk'
          have e : rK b0 b1 b2 b3 b4 b5 b6 b7 b8 = false := by rw [rK, eH, eO, V8, HA.out]; exact hk
          have hfin : Value.tuple #[lk (rdV b0 b1 b2 b3 b4 b5 b6 b7 b8) (rdH b0 b1 b2 b3 b4 b5 b6 b7 b8) (rdO b0 b1 b2 b3 b4 b5 b6 b7 b8), .bool (rK b0 b1 b2 b3 b4 b5 b6 b7 b8)] = Value.tuple #[lk 0 false 0, .bool false] := by simp [rdV, rdH, rdO, e, eH, eO, V8, HA.out]
          have Hf := Lib.hid hfin; clear hfin e
          have EH := Lib.hid eH; clear eH
          have EO := Lib.hid eO; clear eO
          go_wp2_with (fail)
          try (go_region; go_wp2_with (fail))
          go_wp2_with (first | (go_at_call 19; refine Calls.mono (refis_any _ _ _ _) ?_; rintro e w1 ⟨rfl, rfl⟩))
          refine bodyPost_ret (v := .tuple #[lk 0 false 0, .bool false]) (by simp [results, Try.results18, go_sem]) rfl ⟨by rw [Hf.out], ?_⟩
          repeat (first | exact Below.refl _ _ | refine below_drewN ?_ _ | refine Below.setCell ?_ (by first | (simp; done) | (simp; omega)) _ | refine Below.alloc ?_ (by first | (simp; done) | (simp; omega)) _ | refine Below.drew ?_)
      · have hd : decide ((0 : Int) < n8) = false := by simp; omega
        have hd2 : ¬ (0 : Int) < n8 := by omega
        have eH : rH b8 = false := by simp [rH, h8]
        have eO : rO b8 = 0 := by simp [rO, h8]
        have H8 := Lib.hid h8; clear h8
        have HA := Lib.hid hA; clear hA
        by_cases hk : isB A false 0 = true
        · skip
          have e : rK b0 b1 b2 b3 b4 b5 b6 b7 b8 = true := by rw [rK, eH, eO, V8, HA.out]; exact hk
          have hfin : Value.tuple #[lk (rdV b0 b1 b2 b3 b4 b5 b6 b7 b8) (rdH b0 b1 b2 b3 b4 b5 b6 b7 b8) (rdO b0 b1 b2 b3 b4 b5 b6 b7 b8), .bool (rK b0 b1 b2 b3 b4 b5 b6 b7 b8)] = Value.tuple #[lk A false 0, .bool true] := by simp [rdV, rdH, rdO, e, eH, eO, V8, HA.out]
          have Hf := Lib.hid hfin; clear hfin e
          have EH := Lib.hid eH; clear eH
          have EO := Lib.hid eO; clear eO
          go_wp2_with (fail)
          try (go_region; go_wp2_with (fail))
          go_wp2_with (first | (go_at_call 19; refine Calls.mono (refis_any _ _ _ _) ?_; rintro e w1 ⟨rfl, rfl⟩))
          refine bodyPost_ret (v := .tuple #[lk A false 0, .bool true]) (by simp [results, Try.results18, go_sem]) rfl ⟨by rw [Hf.out], ?_⟩
          repeat (first | exact Below.refl _ _ | refine below_drewN ?_ _ | refine Below.setCell ?_ (by first | (simp; done) | (simp; omega)) _ | refine Below.alloc ?_ (by first | (simp; done) | (simp; omega)) _ | refine Below.drew ?_)
        · have hk' : isB A false 0 = false := by simpa using hk
          clear hk
          have hk := hk'
          clear hk'
          have e : rK b0 b1 b2 b3 b4 b5 b6 b7 b8 = false := by rw [rK, eH, eO, V8, HA.out]; exact hk
          have hfin : Value.tuple #[lk (rdV b0 b1 b2 b3 b4 b5 b6 b7 b8) (rdH b0 b1 b2 b3 b4 b5 b6 b7 b8) (rdO b0 b1 b2 b3 b4 b5 b6 b7 b8), .bool (rK b0 b1 b2 b3 b4 b5 b6 b7 b8)] = Value.tuple #[lk 0 false 0, .bool false] := by simp [rdV, rdH, rdO, e, eH, eO, V8, HA.out]
          have Hf := Lib.hid hfin; clear hfin e
          have EH := Lib.hid eH; clear eH
          have EO := Lib.hid eO; clear eO
          go_wp2_with (fail)
          try (go_region; go_wp2_with (fail))
          go_wp2_with (first | (go_at_call 19; refine Calls.mono (refis_any _ _ _ _) ?_; rintro e w1 ⟨rfl, rfl⟩))
          refine bodyPost_ret (v := .tuple #[lk 0 false 0, .bool false]) (by simp [results, Try.results18, go_sem]) rfl ⟨by rw [Hf.out], ?_⟩
          repeat (first | exact Below.refl _ _ | refine below_drewN ?_ _ | refine Below.setCell ?_ (by first | (simp; done) | (simp; omega)) _ | refine Below.alloc ?_ (by first | (simp; done) | (simp; omega)) _ | refine Below.drew ?_)

theorem read_no (s : ByteArray) (w : World) (hs : ¬ s.size = 9) (hm : s.size ≤ maxLen) : Calls Try.prog 17 #[.string s] w fun e w' => e = .returned (.tuple #[lk 0 false 0, .bool false]) ∧ Below w.heap.size w w' := by
  unfold maxLen at hm
  go_enter Try.func17, Try.ntmps17
  go_wp2
  refine bodyPost_ret (v := .tuple #[lk 0 false 0, .bool false]) (by simp [results, Try.results17, go_sem, *]) rfl ⟨rfl, ?_⟩
  repeat (first | exact Below.refl _ _ | refine Below.setCell ?_ (by first | (simp; done) | (simp; omega)) _ | refine Below.alloc ?_ (by first | (simp; done) | (simp; omega)) _ | refine Below.drew ?_ | (refine Below.trans ?_ (Below.mono (by assumption) ?_); rotate_left; (first | (simp; done) | (simp; omega) | (simp [*]; omega))))

theorem refread_no (s : ByteArray) (w : World) (hs : ¬ s.size = 9) (hm : s.size ≤ maxLen) : Calls Try.prog 18 #[.string s] w fun e w' => e = .returned (.tuple #[lk 0 false 0, .bool false]) ∧ Below w.heap.size w w' := by
  unfold maxLen at hm
  go_enter Try.func18, Try.ntmps18
  go_wp2
  refine bodyPost_ret (v := .tuple #[lk 0 false 0, .bool false]) (by simp [results, Try.results18, go_sem, *]) rfl ⟨rfl, ?_⟩
  repeat (first | exact Below.refl _ _ | refine Below.setCell ?_ (by first | (simp; done) | (simp; omega)) _ | refine Below.alloc ?_ (by first | (simp; done) | (simp; omega)) _ | refine Below.drew ?_ | (refine Below.trans ?_ (Below.mono (by assumption) ?_); rotate_left; (first | (simp; done) | (simp; omega) | (simp [*]; omega))))
end Go.Proofs.Ytekndgioebfmbaa
