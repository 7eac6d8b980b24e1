/- ReadsFull: the walk of the law. -/

import Derived.Test.YtabhnhodhbpmmaaReadsB
import Derived.Test.YtabhnhodhbpmmaaRunsC
import Derived.ChangeSame
import Derived.Deep.LoopGhost
import Derived.Laws.Cover1
import Derived.Deep.Slices
namespace Go.Proofs.Ytabhnhodhbpmmaa
open Go.ChangeShapes Go.WideShapes Go.ChangeAt Go.RowKit
open Go.ChangeMaps (open_string shut_string)
set_option linter.unusedVariables false
/-- A slice of integers that came in, as a value: it is empty, or a row in memory. -/
def IntArg (k : IntKind) (w : World) (v : Value) : Prop := (∃ a cap, v = .slice a 0 cap) ∨ ∃ (b off len cap : Nat) (Z : Nat → Int), v = .slice (some ⟨b, off, none⟩) len cap ∧ 0 < len ∧ len ≤ 9223372036854775807 ∧ b < w.heap.size ∧ (∀ i, i < len → w.cell? ⟨b, off + i, none⟩ = some (.int k (Z i))) ∧ ∀ i, i < len → (Lit.int k (Z i)).wf = true
theorem ints_arg {H : Type} {enc : TypeId × Value → H} {P : Program} {w : World} {t e : TypeId} {k : IntKind} {a : Option Addr} {len cap : Nat} {d : DataW H} {ps : List MemPlace}
    (ht : P.underlying t = some (.slice e)) (he : P.underlying e = some (.int k)) (hc1 : P.cellsOf e = 1) (h : DataW.Trod enc P w 0 (fun _ => true) true t (.slice a len cap) d ps) : IntArg k w (.slice a len cap) := by
  obtain ⟨fuel, hf⟩ := h
  rcases open_ints ht he hc1 hf with ⟨hcs, _⟩ | ⟨x, l, c, zs, hcs, _, hl, hm, hz, _, hcell, hwz⟩
  · simp [Value.cells] at hcs
    obtain ⟨rfl, rfl, rfl⟩ := hcs
    exact .inl ⟨_, _, rfl⟩
  · simp [Value.cells] at hcs
    obtain ⟨rfl, rfl, rfl⟩ := hcs
    have hm' : cap ≤ 9223372036854775807 := hm
    by_cases hz0 : len = 0
    · subst hz0; exact .inl ⟨_, _, rfl⟩
    · obtain ⟨b, off, spot⟩ := x
      have hlen : zs.length = cap := by simpa using hz
      have hc0 := hcell 0 (by omega)
      have hspot : spot = none := by simpa [Addr.add] using World.cell?_spot hc0
      subst hspot
      have hc : ∀ i, i < len → w.cell? ⟨b, off + i, none⟩ = some (.int k (zs.getD i 0)) := fun i hi => by
        have h := hcell i (by omega)
        have e : (⟨b, off, none⟩ : Addr).add i = ⟨b, off + i, none⟩ := by unfold Addr.add; split <;> simp_all
        rw [e] at h
        exact h
      refine .inr ⟨b, off, len, cap, fun i => zs.getD i 0, rfl, by omega, by omega, World.block_lt_of_cell? w _ (hc 0 (by omega)), hc, fun i hi => ?_⟩
      have hi' : i < zs.length := by omega
      have : zs.getD i 0 = zs[i] := by simp [List.getD_eq_getElem?_getD, hi']
      show (Lit.int k (zs.getD i 0)).wf = true
      rw [this]
      exact hwz _ (List.getElem_mem hi')

def rk (Z : Nat → Int) (m : Nat) : List Sn := (List.range m).map fun k : Nat => (⟨(k : Int), Z k⟩ : Sn)
theorem rk_succ (Z : Nat → Int) (m : Nat) : rk Z (m + 1) = rk Z m ++ [⟨(m : Int), Z m⟩] := by simp [rk, List.range_succ]
theorem rk_len (Z : Nat → Int) (m : Nat) : (rk Z m).length = m := by simp [rk]
theorem fnd_rk (Z : Nat → Int) (i : Nat) : ∀ m, fnd (i : Int) (rk Z m) = if i < m then some (Z i) else none
  | 0 => by simp [rk, fnd]
  | m + 1 => by
    rw [rk_succ, fnd_app, fnd_rk Z i m]
    by_cases h : i < m
    · simp [h, show i < m + 1 by omega]
    · by_cases h2 : i = m
      · subst h2; simp
      · have h3 : ¬ ((m : Int) == (i : Int)) = true := by simp; omega
        simp [h, h3, show ¬ i < m + 1 by omega]
theorem held16 (a : Int) (w : World) : Calls Try.prog 18 #[.int .i64 a, .int .i64 1, .int .i64 16] w fun e w' => e = .returned (.int .i64 (c16 a)) ∧ w = w' := by
  by_cases h1 : a < 1
  · have e : c16 a = 1 := by simp [c16, h1]
    rw [e]
    clear e
    go_enter Try.func18, Try.ntmps18
    go_wp2
    go_ret
    exact ⟨rfl, rfl⟩
  · by_cases h2 : 16 < a
    · have e : c16 a = 16 := by simp [c16, h1, h2]
      rw [e]
      clear e
      go_enter Try.func18, Try.ntmps18
      go_wp2
      go_ret
      exact ⟨rfl, rfl⟩
    · have e : c16 a = a := by simp [c16, h1, h2]
      rw [e]
      clear e
      go_enter Try.func18, Try.ntmps18
      go_wp2
      go_ret
      exact ⟨rfl, rfl⟩
set_option maxRecDepth 100000 in
set_option maxHeartbeats 4000000 in
theorem full_row (most : Int) (b off len cap : Nat) (Z : Nat → Int) (w : World) (hl : 0 < len) (hl63 : len ≤ 9223372036854775807) (hb : b < w.heap.size) (hc : ∀ i, i < len → w.cell? ⟨b, off + i, none⟩ = some (.int .u8 (Z i))) (hz : ∀ i, i < len → (Lit.int .u8 (Z i)).wf = true) :
    Calls Try.prog 5 #[.int .i64 most, .slice (some ⟨b, off, none⟩) len cap] w fun e w' => e = .returned (.bool true) ∧ Below w.heap.size w w' := by
  have ZB : Hid (∀ i, i < len → 0 ≤ Z i ∧ Z i ≤ 255) := fun i hi => by simpa [Lit.wf, IntKind.min, IntKind.max, IntKind.signed, IntKind.bits] using hz i hi
  have ZC := Lib.hid hc
  have BL : Hid (b < w.heap.size) := hb
  clear hc hz hb
  have HB := Lib.hid (c16_bd most)
  have HN := Lib.hid (rnew_any most)
  have HH := Lib.hid (held16 most)
  obtain ⟨N, hN⟩ := Int.eq_ofNat_of_zero_le (show 0 ≤ c16 most by have := HB.out; omega)
  rw [hN] at HB HN HH
  clear hN
  go_enter Try.func5, Try.ntmps5
  go_wp2_with (first | (go_at_call 3; (with_reducible refine (runs_any _).mono ?_); rintro e w1 ⟨rfl, hb1⟩; have B1 : Below w.heap.size w w1 := (by refine Below.trans ?_ (hb1.mono (by first | (simp; done) | (have := (Below.refl 0 w).size; simp; omega))); repeat (first | exact Below.refl _ _ | assumption | refine Below.setCell ?_ (by first | (simp; done) | (have := (Below.refl 0 w).size; simp; omega)) _ | refine Below.alloc ?_ (by first | (simp; done) | (have := (Below.refl 0 w).size; simp; omega)) _ | refine Below.drew ?_)); clear hb1))
  go_wp2_with fail
  refine (HN.out _).mono ?_
  rintro e w2 ⟨rfl, hq, hb2⟩
  have B2 : Below w.heap.size w w2 := B1.trans (hb2.mono B1.size)
  have ZR : Hid (w.heap.size ≤ w1.heap.size) := B1.size
  have Q2 := Lib.hid hq
  obtain ⟨R, hR⟩ : ∃ R, w1.heap.size = R := ⟨_, rfl⟩
  rw [hR] at Q2 ZR ⊢
  clear hq hb2 hR HN
  go_wp2_with (first | (go_at_call 18; (with_reducible refine (HH.out _).mono ?_); rintro e w' ⟨rfl, rfl⟩))
  go_loopg [7] 16 (fun g u wr => ∃ i : Nat, i ≤ len ∧ g + i = 16 ∧ u = .int .i64 i ∧ Hid (ReadsAt wr R N (rk Z (min i N))) ∧ Hid (Below w.heap.size w wr))
  case atStart => exact ⟨0, by omega, by omega, rfl, by rw [Nat.zero_min]; exact Q2.out, B2⟩
  case round =>
    obtain ⟨i, hi, hg, rfl, hq, hb⟩ := hrel
    by_cases hlt : i < len ∧ i < 16
    · obtain ⟨h1, h2⟩ := hlt
      have i1 : (i : Int) < (len : Int) := by omega
      have i2 : (i : Int) < 16 := by omega
      have i0 : (0 : Int) ≤ (i : Int) := by omega
      have cz : wr.cell? ⟨b, off + i, none⟩ = some (.int .u8 (Z i)) := (hb.out.cell BL.out).trans (ZC.out i h1)
      have bz := ZB.out i h1
      have ok : okSn ⟨(i : Int), Z i⟩ := ⟨i0, i2, bz.1, by show Z i < _; omega⟩
      have hbd := HB.out
      have hnone : fnd (i : Int) (rk Z (min i N)) = none := by rw [fnd_rk, if_neg (by omega)]
      have HG : Hid (i < len ∧ gk + i = 16) := ⟨h1, hg⟩
      by_cases hin : i < N
      · have e1 : min i N = i := by omega
        have e2 : min (i + 1) N = i + 1 := by omega
        have AD := radd_new R N ⟨(i : Int), Z i⟩ (rk Z (min i N)) wr hq.out (by rw [rk_len]; omega) ok hnone (by rw [rk_len]; omega)
        rw [e1, ← rk_succ] at AD
        have AH := Lib.hid AD
        have E2 := Lib.hid e2
        have j1 : (i : Int) < (N : Int) := by omega
        generalize Z i = z at *
        clear AD e1 e2 hnone ok hbd h1 hg
        go_wp2_with fail
        refine AH.out.mono ?_
        rintro e w3 ⟨rfl, hq3, hb3⟩
        go_wp2
        go_roundg (gk - 1)
        case measure => have := HG.out; omega
        case rel => exact ⟨i + 1, by have := HG.out; omega, by have := HG.out; omega, by go_num, by rw [E2.out]; exact hq3, hb.out.trans (hb3.mono ZR.out)⟩
      · have e1 : min i N = N := by omega
        have e2 : min (i + 1) N = N := by omega
        have AD := radd_full R N ⟨(i : Int), Z i⟩ (rk Z (min i N)) wr hq.out (by rw [rk_len]; omega) ok hnone (by rw [rk_len]; omega)
        rw [e1] at AD
        have AH := Lib.hid AD
        have E2 := Lib.hid e2
        have j1 : decide ((i : Int) < (N : Int)) = false := decide_eq_false (by omega)
        have j2 : decide (i < N) = false := decide_eq_false hin
        generalize Z i = z at *
        clear AD e1 e2 hnone ok hbd h1 hg hin
        go_wp2_with fail
        refine AH.out.mono ?_
        rintro e w3 ⟨rfl, hq3, hb3⟩
        go_wp2
        go_roundg (gk - 1)
        case measure => have := HG.out; omega
        case rel => exact ⟨i + 1, by have := HG.out; omega, by have := HG.out; omega, by go_num, by rw [E2.out]; exact hq3, hb.out.trans (hb3.mono ZR.out)⟩
    · obtain ⟨m, hm⟩ : ∃ m, min i N = m := ⟨_, rfl⟩
      have HM : Hid (m = min (min len 16) N) := by show m = _; omega
      rw [hm] at hq
      rcases Nat.lt_or_ge i len with hxl | hxl
      · have i1 : (i : Int) < (len : Int) := by omega
        have i2 : decide ((i : Int) < 16) = false := decide_eq_false (by omega)
        clear hlt hm hg
        go_wp2_with fail
        go_loopg [9] 16 (fun g u wr2 => ∃ j : Nat, j ≤ len ∧ g + j = 16 ∧ u = .int .i64 j ∧ Hid (ReadsAt wr2 R N (rk Z m)) ∧ Hid (Below w.heap.size w wr2))
        case atStart => exact ⟨0, by omega, by omega, rfl, hq.out, hb.out⟩
        case round =>
          obtain ⟨j, hj, hg2, rfl, hq2, hb2⟩ := hrel
          by_cases hlt2 : j < len ∧ j < 16
          · obtain ⟨g1, g2⟩ := hlt2
            have ii1 : (j : Int) < (len : Int) := by omega
            have ii2 : (j : Int) < 16 := by omega
            have ii0 : (0 : Int) ≤ (j : Int) := by omega
            have cz : wr.cell? ⟨b, off + j, none⟩ = some (.int .u8 (Z j)) := (hb2.out.cell BL.out).trans (ZC.out j g1)
            have hbd := HB.out
            have hmm := HM.out
            have GT := rget_any R N (j : Int) (rk Z m) wr hq2.out (by rw [rk_len]; omega)
            rw [fnd_rk] at GT
            have bz := ZB.out j g1
            have HG : Hid (j < len ∧ gk + j = 16) := ⟨g1, hg2⟩
            by_cases hin : j < m
            · rw [if_pos hin] at GT
              have GH := Lib.hid GT
              have j1 : (j : Int) < (N : Int) := by omega
              generalize Z j = z at *
              have hzz : (z != z) = false := by simp
              clear GT hbd hmm g1 hg2 i1
              go_wp2_with fail
              refine GH.out.mono ?_
              rintro e w3 ⟨rfl, hb3⟩
              have cz3 : w3.cell? ⟨b, off + j, none⟩ = some (.int .u8 z) := (hb3.cell (World.block_lt_of_cell? wr _ cz)).trans cz
              have QQ := Lib.hid (hq2.out.below hb3)
              have BB := Lib.hid (hb2.out.trans (hb3.mono hb2.out.size))
              clear hb3 cz
              simp only [Option.getD_some, Option.isSome_some]
              go_wp2
              go_roundg (gk - 1)
              case measure => have := HG.out; omega
              case rel => exact ⟨j + 1, by have := HG.out; omega, by have := HG.out; omega, by go_num, QQ.out, BB.out⟩
            · rw [if_neg hin] at GT
              have GH := Lib.hid GT
              have j1 : decide ((j : Int) < (N : Int)) = false := decide_eq_false (by omega)
              have j2 : decide (j < N) = false := decide_eq_false (by omega)
              generalize Z j = z at *
              clear GT hbd hmm g1 hg2 i1 hin
              go_wp2_with fail
              refine GH.out.mono ?_
              rintro e w3 ⟨rfl, hb3⟩
              have QQ := Lib.hid (hq2.out.below hb3)
              have BB := Lib.hid (hb2.out.trans (hb3.mono hb2.out.size))
              clear hb3 cz
              simp only [Option.getD_none, Option.isSome_none]
              go_wp2
              go_roundg (gk - 1)
              case measure => have := HG.out; omega
              case rel => exact ⟨j + 1, by have := HG.out; omega, by have := HG.out; omega, by go_num, QQ.out, BB.out⟩
          · have LNH := rlen_any R N (rk Z m) wr hq2.out
            rw [rk_len] at LNH
            have LH := Lib.hid LNH
            have hmin3 : ∀ (ts : Array TypeId) (t : TypeId) (W : World), (Builtin.min_ ts t #[.int .i64 (N : Int), .int .i64 (len : Int), .int .i64 16]).run Try.prog W = .ok (.int .i64 (m : Int)) W := by
              intro ts t W
              rw [run_min_int3]
              have hmo := HM.out
              have hme : (if (16 : Int) < (if (len : Int) < (N : Int) then (len : Int) else (N : Int)) then (16 : Int) else (if (len : Int) < (N : Int) then (len : Int) else (N : Int))) = (m : Int) := by split <;> split at * <;> omega
              rw [hme]
            have hmmm : ((m : Int) == (m : Int)) = true := by simp
            clear LNH i1
            rcases Nat.lt_or_ge j len with hxj | hxj
            · have ii1 : (j : Int) < (len : Int) := by omega
              have ii2 : decide ((j : Int) < 16) = false := decide_eq_false (by omega)
              clear hlt2 hg2
              go_wp2_with (first | (go_at_call 10; (with_reducible refine LH.out.mono ?_); rintro e w' ⟨rfl, rfl⟩))
              go_ret
              exact ⟨rfl, hb2.out⟩
            · have ii1 : decide ((j : Int) < (len : Int)) = false := decide_eq_false (by omega)
              have ii1' : decide (j < len) = false := decide_eq_false (by omega)
              clear hlt2 hg2 hj hxj
              go_wp2_with (first | (go_at_call 10; (with_reducible refine LH.out.mono ?_); rintro e w' ⟨rfl, rfl⟩))
              go_ret
              exact ⟨rfl, hb2.out⟩
      · obtain rfl : i = len := by omega
        have i1 : decide ((i : Int) < (i : Int)) = false := decide_eq_false (by omega)
        clear hlt hm hg
        go_wp2_with fail
        go_loopg [9] 16 (fun g u wr2 => ∃ j : Nat, j ≤ i ∧ g + j = 16 ∧ u = .int .i64 j ∧ Hid (ReadsAt wr2 R N (rk Z m)) ∧ Hid (Below w.heap.size w wr2))
        case atStart => exact ⟨0, by omega, by omega, rfl, hq.out, hb.out⟩
        case round =>
          obtain ⟨j, hj, hg2, rfl, hq2, hb2⟩ := hrel
          by_cases hlt2 : j < i ∧ j < 16
          · obtain ⟨g1, g2⟩ := hlt2
            have ii1 : (j : Int) < (i : Int) := by omega
            have ii2 : (j : Int) < 16 := by omega
            have ii0 : (0 : Int) ≤ (j : Int) := by omega
            have cz : wr.cell? ⟨b, off + j, none⟩ = some (.int .u8 (Z j)) := (hb2.out.cell BL.out).trans (ZC.out j g1)
            have hbd := HB.out
            have hmm := HM.out
            have GT := rget_any R N (j : Int) (rk Z m) wr hq2.out (by rw [rk_len]; omega)
            rw [fnd_rk] at GT
            have bz := ZB.out j g1
            have HG : Hid (j < i ∧ gk + j = 16) := ⟨g1, hg2⟩
            by_cases hin : j < m
            · rw [if_pos hin] at GT
              have GH := Lib.hid GT
              have j1 : (j : Int) < (N : Int) := by omega
              generalize Z j = z at *
              have hzz : (z != z) = false := by simp
              clear GT hbd hmm g1 hg2 i1
              go_wp2_with fail
              refine GH.out.mono ?_
              rintro e w3 ⟨rfl, hb3⟩
              have cz3 : w3.cell? ⟨b, off + j, none⟩ = some (.int .u8 z) := (hb3.cell (World.block_lt_of_cell? wr _ cz)).trans cz
              have QQ := Lib.hid (hq2.out.below hb3)
              have BB := Lib.hid (hb2.out.trans (hb3.mono hb2.out.size))
              clear hb3 cz
              simp only [Option.getD_some, Option.isSome_some]
              go_wp2
              go_roundg (gk - 1)
              case measure => have := HG.out; omega
              case rel => exact ⟨j + 1, by have := HG.out; omega, by have := HG.out; omega, by go_num, QQ.out, BB.out⟩
            · rw [if_neg hin] at GT
              have GH := Lib.hid GT
              have j1 : decide ((j : Int) < (N : Int)) = false := decide_eq_false (by omega)
              have j2 : decide (j < N) = false := decide_eq_false (by omega)
              generalize Z j = z at *
              clear GT hbd hmm g1 hg2 i1 hin
              go_wp2_with fail
              refine GH.out.mono ?_
              rintro e w3 ⟨rfl, hb3⟩
              have QQ := Lib.hid (hq2.out.below hb3)
              have BB := Lib.hid (hb2.out.trans (hb3.mono hb2.out.size))
              clear hb3 cz
              simp only [Option.getD_none, Option.isSome_none]
              go_wp2
              go_roundg (gk - 1)
              case measure => have := HG.out; omega
              case rel => exact ⟨j + 1, by have := HG.out; omega, by have := HG.out; omega, by go_num, QQ.out, BB.out⟩
          · have LNH := rlen_any R N (rk Z m) wr hq2.out
            rw [rk_len] at LNH
            have LH := Lib.hid LNH
            have hmin3 : ∀ (ts : Array TypeId) (t : TypeId) (W : World), (Builtin.min_ ts t #[.int .i64 (N : Int), .int .i64 (i : Int), .int .i64 16]).run Try.prog W = .ok (.int .i64 (m : Int)) W := by
              intro ts t W
              rw [run_min_int3]
              have hmo := HM.out
              have hme : (if (16 : Int) < (if (i : Int) < (N : Int) then (i : Int) else (N : Int)) then (16 : Int) else (if (i : Int) < (N : Int) then (i : Int) else (N : Int))) = (m : Int) := by split <;> split at * <;> omega
              rw [hme]
            have hmmm : ((m : Int) == (m : Int)) = true := by simp
            clear LNH i1
            rcases Nat.lt_or_ge j i with hxj | hxj
            · have ii1 : (j : Int) < (i : Int) := by omega
              have ii2 : decide ((j : Int) < 16) = false := decide_eq_false (by omega)
              clear hlt2 hg2
              go_wp2_with (first | (go_at_call 10; (with_reducible refine LH.out.mono ?_); rintro e w' ⟨rfl, rfl⟩))
              go_ret
              exact ⟨rfl, hb2.out⟩
            · have ii1 : decide ((j : Int) < (i : Int)) = false := decide_eq_false (by omega)
              have ii1' : decide (j < i) = false := decide_eq_false (by omega)
              clear hlt2 hg2 hj hxj
              go_wp2_with (first | (go_at_call 10; (with_reducible refine LH.out.mono ?_); rintro e w' ⟨rfl, rfl⟩))
              go_ret
              exact ⟨rfl, hb2.out⟩
set_option maxRecDepth 100000 in
set_option maxHeartbeats 2000000 in
theorem full_empty (most : Int) (ad : Option Addr) (cap : Nat) (w : World) : Calls Try.prog 5 #[.int .i64 most, .slice ad 0 cap] w fun e w' => e = .returned (.bool true) ∧ Below w.heap.size w w' := by
  have HB := Lib.hid (c16_bd most)
  have HN := Lib.hid (rnew_any most)
  have HH := Lib.hid (held16 most)
  obtain ⟨N, hN⟩ := Int.eq_ofNat_of_zero_le (show 0 ≤ c16 most by have := HB.out; omega)
  rw [hN] at HB HN HH
  clear hN
  go_enter Try.func5, Try.ntmps5
  go_wp2_with (first | (go_at_call 3; (with_reducible refine (runs_any _).mono ?_); rintro e w1 ⟨rfl, hb1⟩; have B1 : Below w.heap.size w w1 := (by refine Below.trans ?_ (hb1.mono (by first | (simp; done) | (have := (Below.refl 0 w).size; simp; omega))); repeat (first | exact Below.refl _ _ | assumption | refine Below.setCell ?_ (by first | (simp; done) | (have := (Below.refl 0 w).size; simp; omega)) _ | refine Below.alloc ?_ (by first | (simp; done) | (have := (Below.refl 0 w).size; simp; omega)) _ | refine Below.drew ?_)); clear hb1))
  go_wp2_with fail
  refine (HN.out _).mono ?_
  rintro e w2 ⟨rfl, hq, hb2⟩
  have B2 : Below w.heap.size w w2 := B1.trans (hb2.mono B1.size)
  have ZR : Hid (w.heap.size ≤ w1.heap.size) := B1.size
  have Q2 := Lib.hid hq
  obtain ⟨R, hR⟩ : ∃ R, w1.heap.size = R := ⟨_, rfl⟩
  rw [hR] at Q2 ZR ⊢
  clear hq hb2 hR HN
  have LNH := rlen_any R N [] w2 Q2.out
  have LH := Lib.hid LNH
  have hmin3 : ∀ (ts : Array TypeId) (t : TypeId) (W : World), (Builtin.min_ ts t #[.int .i64 (N : Int), .int .i64 (0 : Int), .int .i64 16]).run Try.prog W = .ok (.int .i64 0) W := by
    intro ts t W
    rw [run_min_int3]
    have hbo := HB.out
    have hme : (if (16 : Int) < (if (0 : Int) < (N : Int) then (0 : Int) else (N : Int)) then (16 : Int) else (if (0 : Int) < (N : Int) then (0 : Int) else (N : Int))) = 0 := by split <;> split at * <;> omega
    rw [hme]
  have hbn := HB.out.1
  clear LNH
  go_wp2_with (first | (go_at_call 18; (with_reducible refine (HH.out _).mono ?_); rintro e w' ⟨rfl, rfl⟩))
  refine wp_loop_rounds 1 ?_
  rw [rounds_succ]
  go_wp2_with fail
  refine wp_loop_rounds 1 ?_
  rw [rounds_succ]
  go_wp2_with (first | (go_at_call 10; (with_reducible refine LH.out.mono ?_); rintro e w' ⟨rfl, rfl⟩))
  go_ret
  exact ⟨rfl, B2⟩
theorem full_law (most : Int) (v : Value) (w : World) (hv : IntArg .u8 w v) : Calls Try.prog 5 #[.int .i64 most, v] w fun e w' => e = .returned (.bool true) ∧ Below w.heap.size w w' := by
  rcases hv with ⟨a, cap, rfl⟩ | ⟨b, off, len, cap, Z, rfl, h0, h1, h2, h3, h4⟩
  · exact full_empty most a cap w
  · exact full_row most b off len cap Z w h0 h1 h2 h3 h4
end Go.Proofs.Ytabhnhodhbpmmaa
