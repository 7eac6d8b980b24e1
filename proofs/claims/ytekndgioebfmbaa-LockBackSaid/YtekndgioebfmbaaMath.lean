/- Locks as nine bytes, and back: numbers alone. -/

import Derived.Test.YtekndgioebfmbaaBytes
import Derived.Test.YtekndgioebfmbaaRead
import Derived.Laws.BitsAllLaws
namespace Go.Proofs.Ytekndgioebfmbaa
open Go.ChangeShapes Go.WideShapes Go.ChangeAt Go.RowKit
open Go.ChangeMaps (open_string shut_string)
set_option linter.unusedVariables false
theorem sh_nat (a b : Nat) (ha : a < 72057594037927936) (hb : b < 256) : sh (a : Int) (b : Int) = ((a * 256 + b : Nat) : Int) := by
  unfold sh
  rw [show IntKind.u64.wrap ((a : Int) * 256) = ((a * 256 : Nat) : Int) from by rw [IntKind.wrap_u64]; omega, show IntKind.u64.wrap (b : Int) = ((b : Nat) : Int) from by rw [IntKind.wrap_u64]; omega, u64_or_nat _ _ (by omega) (by omega)]
  have h := Nat.two_pow_add_eq_or_of_lt (i := 8) (b := b) (by omega) a
  rw [Nat.mul_comm a 256, ← h]
theorem sh_nat0 (b : Nat) (hb : b < 256) : sh 0 (b : Int) = (b : Int) := by
  have := sh_nat 0 b (by omega) hb
  simpa using this
theorem V8_nat (b0 b1 b2 b3 b4 b5 b6 b7 : UInt8) : V8 b0 b1 b2 b3 b4 b5 b6 b7 = (((((((((b0.toNat * 256 + b1.toNat) * 256 + b2.toNat) * 256 + b3.toNat) * 256 + b4.toNat) * 256 + b5.toNat) * 256 + b6.toNat) * 256 + b7.toNat) : Nat) : Int) := by
  have l0 := b0.toNat_lt
  have l1 := b1.toNat_lt
  have l2 := b2.toNat_lt
  have l3 := b3.toNat_lt
  have l4 := b4.toNat_lt
  have l5 := b5.toNat_lt
  have l6 := b6.toNat_lt
  have l7 := b7.toNat_lt
  simp only [V8, VK]
  rw [sh_nat0 _ (by omega), sh_nat _ _ (by omega) (by omega), sh_nat _ _ (by omega) (by omega), sh_nat _ _ (by omega) (by omega), sh_nat _ _ (by omega) (by omega), sh_nat _ _ (by omega) (by omega), sh_nat _ _ (by omega) (by omega), sh_nat _ _ (by omega) (by omega)]
theorem strB_lit (v : Int) (h : Bool) (o : Int) (hk : isB v h o = true) : strB v h o = ⟨#[UInt8.ofNat (v / 72057594037927936 % 256).toNat, UInt8.ofNat (v / 281474976710656 % 256).toNat, UInt8.ofNat (v / 1099511627776 % 256).toNat, UInt8.ofNat (v / 4294967296 % 256).toNat, UInt8.ofNat (v / 16777216 % 256).toNat, UInt8.ofNat (v / 65536 % 256).toNat, UInt8.ofNat (v / 256 % 256).toNat, UInt8.ofNat (v % 256).toNat, UInt8.ofNat (hB h o).toNat]⟩ := by
  rw [strB, if_pos hk]
  rfl
theorem isB_v {v : Int} {h : Bool} {o : Int} (hk : isB v h o = true) : v < 4611686018427387904 := by
  simp only [isB, Bool.and_eq_true, decide_eq_true_eq] at hk
  exact hk.1
theorem isB_f {v : Int} {o : Int} (hk : isB v false o = true) : o = 0 := by
  simp [isB] at hk
  exact hk.2
theorem isB_t {v : Int} {o : Int} (hk : isB v true o = true) : 0 ≤ o ∧ o < 4 := by
  simp [isB, mh] at hk
  exact hk.2
theorem hor_step (n : Nat) (q q' : Int) (hn : (n : Int) = q) (hq : q = q' / 256) : ((n * 256 + (q' % 256).toNat % 2 ^ 8 : Nat) : Int) = q' := by omega
theorem hor_base (q : Int) (h0 : 0 ≤ q) (h1 : q < 256) : (((q % 256).toNat % 2 ^ 8 : Nat) : Int) = q := by omega
theorem V8_back (v : Int) (h0 : 0 ≤ v) (h1 : v < 4611686018427387904) : V8 (UInt8.ofNat (v / 72057594037927936 % 256).toNat) (UInt8.ofNat (v / 281474976710656 % 256).toNat) (UInt8.ofNat (v / 1099511627776 % 256).toNat) (UInt8.ofNat (v / 4294967296 % 256).toNat) (UInt8.ofNat (v / 16777216 % 256).toNat) (UInt8.ofNat (v / 65536 % 256).toNat) (UInt8.ofNat (v / 256 % 256).toNat) (UInt8.ofNat (v % 256).toNat) = v := by
  rw [V8_nat]
  simp only [UInt8.toNat_ofNat']
  exact (hor_step _ (v / 256) v (hor_step _ (v / 65536) (v / 256) (hor_step _ (v / 16777216) (v / 65536) (hor_step _ (v / 4294967296) (v / 16777216) (hor_step _ (v / 1099511627776) (v / 4294967296) (hor_step _ (v / 281474976710656) (v / 1099511627776) (hor_step _ (v / 72057594037927936) (v / 281474976710656) (hor_base (v / 72057594037927936) (by omega) (by omega)) (by omega)) (by omega)) (by omega)) (by omega)) (by omega)) (by omega)) (by omega))
theorem rH_back (h : Bool) (v o : Int) (hk : isB v h o = true) : rH (UInt8.ofNat (hB h o).toNat) = h := by
  cases h
  · simp [rH, hB]
  · have := isB_t hk
    simp only [rH, hB, UInt8.toNat_ofNat', if_true, decide_eq_true_eq]
    omega
theorem rO_back (h : Bool) (v o : Int) (hk : isB v h o = true) : rO (UInt8.ofNat (hB h o).toNat) = o := by
  cases h
  · have := isB_f hk
    simp [rO, hB, this]
  · have := isB_t hk
    simp only [rO, hB, UInt8.toNat_ofNat', if_true]
    rw [if_pos (by omega)]
    omega
theorem rK_back (v : Int) (h : Bool) (o : Int) (hk : isB v h o = true) (h0 : 0 ≤ v) : rK (UInt8.ofNat (v / 72057594037927936 % 256).toNat) (UInt8.ofNat (v / 281474976710656 % 256).toNat) (UInt8.ofNat (v / 1099511627776 % 256).toNat) (UInt8.ofNat (v / 4294967296 % 256).toNat) (UInt8.ofNat (v / 16777216 % 256).toNat) (UInt8.ofNat (v / 65536 % 256).toNat) (UInt8.ofNat (v / 256 % 256).toNat) (UInt8.ofNat (v % 256).toNat) (UInt8.ofNat (hB h o).toNat) = true := by
  rw [rK, V8_back v h0 (isB_v hk), rH_back h v o hk, rO_back h v o hk]
  exact hk
theorem rd_back (v : Int) (h : Bool) (o : Int) (hk : isB v h o = true) (h0 : 0 ≤ v) : rdV (UInt8.ofNat (v / 72057594037927936 % 256).toNat) (UInt8.ofNat (v / 281474976710656 % 256).toNat) (UInt8.ofNat (v / 1099511627776 % 256).toNat) (UInt8.ofNat (v / 4294967296 % 256).toNat) (UInt8.ofNat (v / 16777216 % 256).toNat) (UInt8.ofNat (v / 65536 % 256).toNat) (UInt8.ofNat (v / 256 % 256).toNat) (UInt8.ofNat (v % 256).toNat) (UInt8.ofNat (hB h o).toNat) = v ∧ rdH (UInt8.ofNat (v / 72057594037927936 % 256).toNat) (UInt8.ofNat (v / 281474976710656 % 256).toNat) (UInt8.ofNat (v / 1099511627776 % 256).toNat) (UInt8.ofNat (v / 4294967296 % 256).toNat) (UInt8.ofNat (v / 16777216 % 256).toNat) (UInt8.ofNat (v / 65536 % 256).toNat) (UInt8.ofNat (v / 256 % 256).toNat) (UInt8.ofNat (v % 256).toNat) (UInt8.ofNat (hB h o).toNat) = h ∧ rdO (UInt8.ofNat (v / 72057594037927936 % 256).toNat) (UInt8.ofNat (v / 281474976710656 % 256).toNat) (UInt8.ofNat (v / 1099511627776 % 256).toNat) (UInt8.ofNat (v / 4294967296 % 256).toNat) (UInt8.ofNat (v / 16777216 % 256).toNat) (UInt8.ofNat (v / 65536 % 256).toNat) (UInt8.ofNat (v / 256 % 256).toNat) (UInt8.ofNat (v % 256).toNat) (UInt8.ofNat (hB h o).toNat) = o := by
  refine ⟨?_, ?_, ?_⟩
  · rw [rdV, if_pos (rK_back v h o hk h0), V8_back v h0 (isB_v hk)]
  · rw [rdH, rK_back v h o hk h0, rH_back h v o hk]; rfl
  · rw [rdO, if_pos (rK_back v h o hk h0), rO_back h v o hk]
theorem strB_inj (v : Int) (h : Bool) (o : Int) (v' : Int) (h' : Bool) (o' : Int) (hk : isB v h o = true) (h0 : 0 ≤ v) (h0' : 0 ≤ v') (e : strB v h o = strB v' h' o') : v = v' ∧ h = h' ∧ o = o' := by
  cases hk' : isB v' h' o'
  · rw [strB_lit v h o hk, strB, if_neg (by simp [hk'])] at e
    simp at e
  · rw [strB_lit v h o hk, strB_lit v' h' o' hk'] at e
    simp only [ByteArray.mk.injEq, Array.mk.injEq, List.cons.injEq, and_true] at e
    obtain ⟨e0, e1, e2, e3, e4, e5, e6, e7, e8⟩ := e
    have a := rd_back v h o hk h0
    rw [e0, e1, e2, e3, e4, e5, e6, e7, e8] at a
    have b := rd_back v' h' o' hk' h0'
    exact ⟨a.1.symm.trans b.1, a.2.1.symm.trans b.2.1, a.2.2.symm.trans b.2.2⟩
theorem u8_back (b : UInt8) (n : Int) (h : n = (b.toNat : Int)) : UInt8.ofNat n.toNat = b := by
  subst h
  simp
theorem nine (s : ByteArray) (h : s.size = 9) : ∃ b0 b1 b2 b3 b4 b5 b6 b7 b8 : UInt8, s = ⟨#[b0, b1, b2, b3, b4, b5, b6, b7, b8]⟩ := by
  obtain ⟨⟨l⟩⟩ := s
  match l, h with
  | [b0, b1, b2, b3, b4, b5, b6, b7, b8], _ => exact ⟨b0, b1, b2, b3, b4, b5, b6, b7, b8, rfl⟩
theorem strB_turned (b0 b1 b2 b3 b4 b5 b6 b7 b8 : UInt8) (hk : rK b0 b1 b2 b3 b4 b5 b6 b7 b8 = true) : strB (V8 b0 b1 b2 b3 b4 b5 b6 b7) (rH b8) (rO b8) = ⟨#[b0, b1, b2, b3, b4, b5, b6, b7, b8]⟩ := by
  rw [strB_lit _ _ _ hk, V8_nat]
  have l0 := b0.toNat_lt
  have l1 := b1.toNat_lt
  have l2 := b2.toNat_lt
  have l3 := b3.toNat_lt
  have l4 := b4.toNat_lt
  have l5 := b5.toNat_lt
  have l6 := b6.toNat_lt
  have l7 := b7.toNat_lt
  have l8 := b8.toNat_lt
  rw [u8_back b0 _ (by omega), u8_back b1 _ (by omega), u8_back b2 _ (by omega), u8_back b3 _ (by omega), u8_back b4 _ (by omega), u8_back b5 _ (by omega), u8_back b6 _ (by omega), u8_back b7 _ (by omega), u8_back b8 _ (by unfold hB rH rO; split <;> simp_all <;> omega)]
end Go.Proofs.Ytekndgioebfmbaa
