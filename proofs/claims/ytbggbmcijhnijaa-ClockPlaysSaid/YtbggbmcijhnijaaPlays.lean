/- ClockPlays: the walk of the law. -/

import Derived.Test.YtbggbmcijhnijaaDo
import Derived.Deep.RegionWith
namespace Go.Proofs.Ytbggbmcijhnijaa
open Go.ChangeShapes Go.WideShapes Go.ChangeAt Go.RowKit
open Go.ChangeMaps (open_string shut_string)
set_option linter.unusedVariables false
theorem capC_bd (s : Int) (h0 : 0 ≤ s) : 0 ≤ capC s ∧ capC s < 4611686018427387904 := by unfold capC; split <;> omega
theorem asked_empty (c m : Nat) (n : Int) (a : Option Addr) (cap : Nat) (w : World) (hn0 : 0 ≤ n) (hn1 : n < 4611686018427387904) (hC : ClkC w c n) (hM : MemC w m n) :
    Calls Try.prog 13 #[ptr c, ptr m, .slice a 0 cap] w (LoopPost c m w) := by
  have HC := Lib.hid hC
  have HM := Lib.hid hM
  clear hC hM
  go_enter Try.func13, Try.ntmps13
  go_wp2
  refine wp_loop_rounds 1 ?_
  rw [rounds_succ]
  go_wp2
  go_ret
  exact ⟨rfl, n, hn0, hn1, HC.out, HM.out, Two.refl _ _ _⟩
/-- What is asked, as a value: a row in memory, or nothing. -/
def AskArg (w : World) (v : Value) : Prop := (∃ a cap, v = .slice a 0 cap) ∨ ∃ b off len cap T O N M, v = .slice (some ⟨b, off, none⟩) len cap ∧ len ≤ 9223372036854775807 ∧ Asks w b off len T O N M
theorem AskArg.below {w w' : World} {v : Value} (h : AskArg w v) (hb : Below w.heap.size w w') : AskArg w' v := by
  rcases h with h | ⟨b, off, len, cap, T, O, N, M, e, hl, ha⟩
  · exact .inl h
  · exact .inr ⟨b, off, len, cap, T, O, N, M, e, hl, Nat.lt_of_lt_of_le ha.lt hb.size, fun i hi => (hb.cell ha.lt).trans (ha.ct i hi), fun i hi => (hb.cell ha.lt).trans (ha.co i hi), fun i hi => (hb.cell ha.lt).trans (ha.cn i hi), fun i hi => (hb.cell ha.lt).trans (ha.cm i hi), ha.bo, ha.bn, ha.bm⟩
theorem AskArg.two {w w' : World} {v : Value} {c m B : Nat} (h : AskArg w v) (hw : w.heap.size ≤ B) {w0 : World} (hb : Below w.heap.size w w0) (h2 : Two c m w0 w') (hc : w.heap.size ≤ c) (hm : w.heap.size ≤ m) : AskArg w' v :=
  h.below (hb.trans (h2.below hc hm hb.size))
theorem asked (c m : Nat) (n : Int) (v : Value) (w0 w : World) (hn0 : 0 ≤ n) (hn1 : n < 4611686018427387904) (hC : ClkC w c n) (hM : MemC w m n) (ha : AskArg w0 v) (hb : Below w0.heap.size w0 w) (hc : w0.heap.size ≤ c) (hm : w0.heap.size ≤ m) (hcm : c ≠ m) :
    Calls Try.prog 13 #[ptr c, ptr m, v] w (LoopPost c m w) := by
  rcases ha with ⟨a, cap, rfl⟩ | ⟨b, off, len, cap, T, O, N, M, rfl, hl, hr⟩
  · exact asked_empty c m n a cap w hn0 hn1 hC hM
  · have := hr.lt
    exact asked_row c m n b off len cap T O N M w hn0 hn1 hl hC hM ⟨Nat.lt_of_lt_of_le hr.lt hb.size, fun i hi => (hb.cell hr.lt).trans (hr.ct i hi), fun i hi => (hb.cell hr.lt).trans (hr.co i hi), fun i hi => (hb.cell hr.lt).trans (hr.cn i hi), fun i hi => (hb.cell hr.lt).trans (hr.cm i hi), hr.bo, hr.bn, hr.bm⟩ hcm (by omega) (by omega)
set_option maxRecDepth 100000 in
set_option maxHeartbeats 2000000 in
theorem plays_any (s : Int) (v : Value) (w : World) (h0 : 0 ≤ s) (ha : AskArg w v) : Calls Try.prog 4 #[.int .u64 s, v] w fun e w' => e = .returned (.bool true) ∧ Below w.heap.size w w' := by
  obtain ⟨hc0, hc1⟩ := capC_bd s h0
  obtain ⟨c, hc⟩ : ∃ c, capC s = c := ⟨_, rfl⟩
  rw [hc] at hc0 hc1
  have HA := Lib.hid ha
  clear ha
  go_enter Try.func4, Try.ntmps4
  go_wp2_with (first | (go_at_call 3; (with_reducible refine (runs_any _).mono ?_); rintro e w1 ⟨rfl, hb1⟩; have B1 : Below w.heap.size w w1 := (by refine Below.trans ?_ (hb1.mono (by first | (simp; done) | (have := (Below.refl 0 w).size; simp; omega))); repeat (first | exact Below.refl _ _ | assumption | refine Below.setCell ?_ (by first | (simp; done) | (have := (Below.refl 0 w).size; simp; omega)) _ | refine Below.alloc ?_ (by first | (simp; done) | (have := (Below.refl 0 w).size; simp; omega)) _ | refine Below.drew ?_)); clear hb1))
  go_wp2_with (first | (go_at_call 8; (with_reducible refine (new_any _ _).mono ?_); rintro e w' ⟨rfl, rfl⟩))
  go_wp2_with (fail)
  refine (newmem_any _ _).mono ?_
  rintro e w2 ⟨m, rfl, hm, hM, hb2⟩
  rw [hc] at hM
  have q1 : w2.cell? ⟨w1.heap.size, 0, none⟩ = some (.int .u64 c) := (hb2.cell (by simp)).trans (by simp)
  have q2 : w2.frozen? ⟨w1.heap.size, 0, none⟩ = false := (hb2.frozen (by simp)).trans (by simp)
  have z2 : w1.heap.size < w2.heap.size := by have := hb2.size; simp at this; omega
  have hm1 : w1.heap.size < m := by simp at hm; omega
  have B2 : Below w.heap.size w w2 := (B1.alloc B1.size _).trans (hb2.mono (by simp; have := B1.size; omega))
  have m7 := hM.c7
  have HM := Lib.hid hM
  have hcc : (c == c) = true := by simp
  clear hM hb2 hm hc
  go_wp2
  have DOIT : ∀ k : Nat, Calls Try.prog 13 #[ptr w1.heap.size, ptr m, v] (w2.drewN k) (LoopPost w1.heap.size m (w2.drewN k)) := fun k =>
    asked w1.heap.size m c v w (w2.drewN k) hc0 hc1 ⟨z2, q1, q2⟩ ⟨HM.out.lt, HM.out.c7, HM.out.c9, HM.out.f7, HM.out.f9⟩ HA.out (below_drewN B2 k) B1.size (by have := B1.size; omega) (by omega)
  have HD := Lib.hid DOIT
  clear DOIT
  go_region_with (first | (go_at_call 10; (with_reducible refine (load_any _ c _ (by simp [q1])).mono ?_); rintro e w' ⟨rfl, rfl⟩) | (go_at_call 13; refine (HD.out 1).mono ?_; rintro e w3 ⟨rfl, hx⟩))
  all_goals go_wp2
  all_goals go_ret
  all_goals obtain ⟨n, _, _, _, _, ht⟩ := hx
  all_goals exact ⟨rfl, (below_drewN B2 1).trans (ht.below B1.size (by have := B1.size; omega) B2.size)⟩
end Go.Proofs.Ytbggbmcijhnijaa
