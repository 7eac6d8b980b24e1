/- The reference's clock, step by step. -/

import Derived.Test.YtbggbmcijhnijaaMem
namespace Go.Proofs.Ytbggbmcijhnijaa
open Go.ChangeShapes Go.WideShapes Go.ChangeAt Go.RowKit
open Go.ChangeMaps (open_string shut_string)
set_option linter.unusedVariables false
abbrev opC (old now : Int) : Value := .agg #[.int .i64 7, .int .i64 0, .int .u64 old, .int .u64 now, .int .u64 0, .bool false, .int .i64 0, .int .u64 0, .bool false, .int .i64 0]
abbrev ansC (D : Bool) (E : Int) : Value := .agg #[.int .u64 0, .int .u64 0, .bool false, .int .i64 0, .bool D, .int .i64 E]
/-- Only block m may have turned, and its clock is at n. -/
structure MemStep (m : Nat) (w w' : World) (n : Int) : Prop where
  g : w.grownBy w' (some m)
  c7 : w'.cell? ⟨m, 7, none⟩ = some (.int .u64 n)
  c9 : w'.cell? ⟨m, 9, none⟩ = w.cell? ⟨m, 9, none⟩
  fz : ∀ o, w'.frozen? ⟨m, o, none⟩ = w.frozen? ⟨m, o, none⟩
theorem grown_alloc {w0 w : World} {m : Nat} (h : w0.grownBy w (some m)) (o : Obj) : w0.grownBy (w.alloc o) (some m) :=
  ⟨h.os, h.tape, h.output, by have := h.size; simp; omega, fun k hk hm => (Below.heap_alloc w o k (by have := h.size; omega)).trans (h.block k hk hm)⟩
theorem grown_drew {w0 w : World} {m : Nat} (h : w0.grownBy w (some m)) : w0.grownBy w.drew (some m) := ⟨h.os, h.tape, h.output, h.size, h.block⟩
theorem grown_drewN {w0 w : World} {m : Nat} (h : w0.grownBy w (some m)) (n : Nat) : w0.grownBy (w.drewN n) (some m) := ⟨h.os, h.tape, h.output, h.size, h.block⟩
theorem grown_set {w0 w : World} {m : Nat} (h : w0.grownBy w (some m)) (o : Nat) (v : Value) : w0.grownBy (w.setCell ⟨m, o, none⟩ v) (some m) :=
  ⟨h.os, h.tape, h.output, by have := h.size; simp; omega, fun k hk hm => (Below.heap_setCell w _ v k (fun e => hm (by rw [e]))).trans (h.block k hk hm)⟩
theorem grown_set_new {w0 w : World} {m : Nat} (h : w0.grownBy w (some m)) (a : Addr) (ha : w0.heap.size ≤ a.block) (v : Value) : w0.grownBy (w.setCell a v) (some m) :=
  ⟨h.os, h.tape, h.output, by have := h.size; simp; omega, fun k hk hm => (Below.heap_setCell w _ v k (by omega)).trans (h.block k hk hm)⟩
theorem frozen_far (w : World) (m o : Nat) (x : Obj) (h : m < w.heap.size) : (w.alloc x).frozen? ⟨m, o, none⟩ = w.frozen? ⟨m, o, none⟩ := World.frozen?_alloc_old _ _ _ (by simp; omega)
theorem keepG {W w1 : World} {m : Nat} (hg : W.grownBy w1 (some m)) : ∀ {L : List (Addr × Value)}, (∀ p ∈ L, p.1.block ≠ m) → AllC W L → AllC w1 L
  | [], _, _ => trivial
  | p :: _, hn, h => ⟨hg.cell h.1 (fun e => hn p (by simp) (by simpa using e)), keepG hg (fun q hq => hn q (by simp [hq])) h.2⟩
set_option maxRecDepth 100000 in
set_option maxHeartbeats 1000000 in
theorem mclock_yes (m : Nat) (n old now : Int) (w : World) (hm : MemC w m n) (hD : casD n old now = true) :
    Calls Try.prog 20 #[ptr m, opC old now] w fun e w' => e = .returned (ansC true 0) ∧ MemStep m w w' now := by
  obtain ⟨hlt, h7, ⟨cc, h9⟩, f7, f9⟩ := hm
  have hne := Nat.ne_of_gt hlt
  have hne1 : ¬ w.heap.size + 1 = m := by omega
  have hne2 : ¬ m = w.heap.size := by omega
  have hne3 : ¬ m = w.heap.size + 1 := by omega
  simp only [casD, Bool.and_eq_true, decide_eq_true_eq, beq_iff_eq] at hD
  obtain ⟨h1, h2, rfl⟩ := hD
  have hs : (n != n) = false := by simp
  go_enter Try.func20, Try.ntmps20
  go_wp2
  go_quiet (fail)
  go_wp2
  refine bodyPost_ret (v := ansC true 0) (by simp [results, Try.results20, go_sem, h7]) rfl ⟨rfl, ?_⟩
  refine ⟨?_, ?_, ?_, fun o => by
                        try simp only [World.frozen?_drewN, World.frozen?_drew]
                        repeat (first | rw [World.frozen?_setCell] | rw [World.frozen?_alloc_old _ _ _ (by simp; omega)])⟩
  · repeat (first | exact World.grownBy.refl _ _ | refine grown_drewN ?_ _ | refine grown_alloc ?_ _ | refine grown_drew ?_ | refine grown_set ?_ _ _ | refine grown_set_new ?_ _ (by first | (simp; done) | (simp; omega)) _)
  · simp [cas2, World.cell?_setCell_same _ _ _ h7]
  · simp [cas2, World.cell?_setCell_other, h9]
set_option maxRecDepth 100000 in
set_option maxHeartbeats 1000000 in
theorem mclock_no1 (m : Nat) (n old now : Int) (w : World) (hm : MemC w m n) (h1 : now ≤ old) :
    Calls Try.prog 20 #[ptr m, opC old now] w fun e w' => e = .returned (ansC false 1) ∧ MemStep m w w' n := by
  obtain ⟨hlt, h7, ⟨cc, h9⟩, f7, f9⟩ := hm
  have hne := Nat.ne_of_gt hlt
  have hne1 : ¬ w.heap.size + 1 = m := by omega
  have hne2 : ¬ m = w.heap.size := by omega
  have hne3 : ¬ m = w.heap.size + 1 := by omega
  go_enter Try.func20, Try.ntmps20
  go_wp2


  refine bodyPost_ret (v := ansC false 1) (by simp [results, Try.results20, go_sem, h7]) rfl ⟨rfl, ?_⟩
  refine ⟨?_, ?_, ?_, fun o => by
                        try simp only [World.frozen?_drewN, World.frozen?_drew]
                        repeat (first | rw [World.frozen?_setCell] | rw [World.frozen?_alloc_old _ _ _ (by simp; omega)])⟩
  · repeat (first | exact World.grownBy.refl _ _ | refine grown_drewN ?_ _ | refine grown_alloc ?_ _ | refine grown_drew ?_ | refine grown_set ?_ _ _ | refine grown_set_new ?_ _ (by first | (simp; done) | (simp; omega)) _)
  · simp [cas2, h7]
  · simp [cas2, h9]
set_option maxRecDepth 100000 in
set_option maxHeartbeats 1000000 in
theorem mclock_no7 (m : Nat) (n old now : Int) (w : World) (hm : MemC w m n) (h1 : old < now) (h2 : ¬ now < 4611686018427387904) :
    Calls Try.prog 20 #[ptr m, opC old now] w fun e w' => e = .returned (ansC false 7) ∧ MemStep m w w' n := by
  obtain ⟨hlt, h7, ⟨cc, h9⟩, f7, f9⟩ := hm
  have hne := Nat.ne_of_gt hlt
  have hne1 : ¬ w.heap.size + 1 = m := by omega
  have hne2 : ¬ m = w.heap.size := by omega
  have hne3 : ¬ m = w.heap.size + 1 := by omega
  go_enter Try.func20, Try.ntmps20
  go_wp2


  refine bodyPost_ret (v := ansC false 7) (by simp [results, Try.results20, go_sem, h7]) rfl ⟨rfl, ?_⟩
  refine ⟨?_, ?_, ?_, fun o => by
                        try simp only [World.frozen?_drewN, World.frozen?_drew]
                        repeat (first | rw [World.frozen?_setCell] | rw [World.frozen?_alloc_old _ _ _ (by simp; omega)])⟩
  · repeat (first | exact World.grownBy.refl _ _ | refine grown_drewN ?_ _ | refine grown_alloc ?_ _ | refine grown_drew ?_ | refine grown_set ?_ _ _ | refine grown_set_new ?_ _ (by first | (simp; done) | (simp; omega)) _)
  · simp [cas2, h7]
  · simp [cas2, h9]
set_option maxRecDepth 100000 in
set_option maxHeartbeats 1000000 in
theorem mclock_no0 (m : Nat) (n old now : Int) (w : World) (hm : MemC w m n) (h1 : old < now) (h2 : now < 4611686018427387904) (h3 : (n == old) = false) :
    Calls Try.prog 20 #[ptr m, opC old now] w fun e w' => e = .returned (ansC false 0) ∧ MemStep m w w' n := by
  obtain ⟨hlt, h7, ⟨cc, h9⟩, f7, f9⟩ := hm
  have hne := Nat.ne_of_gt hlt
  have hne1 : ¬ w.heap.size + 1 = m := by omega
  have hne2 : ¬ m = w.heap.size := by omega
  have hne3 : ¬ m = w.heap.size + 1 := by omega
  go_enter Try.func20, Try.ntmps20
  go_wp2
  go_quiet (fail)
  go_wp2
  refine bodyPost_ret (v := ansC false 0) (by simp [results, Try.results20, go_sem, h7]) rfl ⟨rfl, ?_⟩
  refine ⟨?_, ?_, ?_, fun o => by
                        try simp only [World.frozen?_drewN, World.frozen?_drew]
                        repeat (first | rw [World.frozen?_setCell] | rw [World.frozen?_alloc_old _ _ _ (by simp; omega)])⟩
  · repeat (first | exact World.grownBy.refl _ _ | refine grown_drewN ?_ _ | refine grown_alloc ?_ _ | refine grown_drew ?_ | refine grown_set ?_ _ _ | refine grown_set_new ?_ _ (by first | (simp; done) | (simp; omega)) _)
  · simp [cas2, h7]
  · simp [cas2, h9]
theorem mclock_no (m : Nat) (n old now : Int) (w : World) (hm : MemC w m n) (hD : casD n old now = false) :
    Calls Try.prog 20 #[ptr m, opC old now] w fun e w' => e = .returned (ansC false (casE old now)) ∧ MemStep m w w' n := by
  by_cases h1 : now ≤ old
  · have e : casE old now = 1 := by simp [casE, h1]
    rw [e]; exact mclock_no1 m n old now w hm h1
  · by_cases h2 : now < 4611686018427387904
    · have e : casE old now = 0 := by simp [casE, h1, h2]
      have h3 : (n == old) = false := by
        cases hh : n == old
        · rfl
        · simp [casD, hh, h2] at hD; omega
      rw [e]; exact mclock_no0 m n old now w hm (by omega) h2 h3
    · have e : casE old now = 7 := by simp [casE, h1, h2]
      rw [e]; exact mclock_no7 m n old now w hm (by omega) h2

def DoPost (w : World) (m : Nat) (n : Int) (v : Value) (e : Ending) (w' : World) : Prop := e = .returned v ∧ MemC w' m n ∧ w.grownBy w' (some m)
end Go.Proofs.Ytbggbmcijhnijaa
