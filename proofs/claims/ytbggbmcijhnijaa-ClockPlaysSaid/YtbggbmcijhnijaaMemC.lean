/- The reference's clock and its memory, one operation: the exact world behind it. -/

import Derived.Test.YtbggbmcijhnijaaMemB
namespace Go.Proofs.Ytbggbmcijhnijaa
open Go.ChangeShapes Go.WideShapes Go.ChangeAt Go.RowKit
open Go.ChangeMaps (open_string shut_string)
set_option linter.unusedVariables false
def ClkPost (v : Value) (W : World) (e : Ending) (w' : World) : Prop := ∃ n, e = .returned v ∧ w' = W.drewN n
set_option maxRecDepth 100000 in
set_option maxHeartbeats 1000000 in
theorem xclock_yes (m : Nat) (n old now : Int) (w : World) (hlt : m < w.heap.size) (h7 : w.cell? ⟨m, 7, none⟩ = some (.int .u64 n)) (f7 : w.frozen? ⟨m, 7, none⟩ = false) (hD : casD n old now = true) :
    Calls Try.prog 20 #[ptr m, opC old now] w (ClkPost (ansC true 0) (((w.setCell ⟨m, 7, none⟩ (.int .u64 now)).alloc (.cells #[.int .i64 7, .int .i64 0, .int .u64 old, .int .u64 now, .int .u64 0, .bool false, .int .i64 0, .int .u64 0, .bool false, .int .i64 0] 57)).alloc (.cells #[.int .u64 0, .int .u64 0, .bool false, .int .i64 0, .bool true, .int .i64 0] 54))) := by
  have hne := Nat.ne_of_gt hlt
  have hne1 : ¬ w.heap.size + 1 = m := by omega
  have hne2 : ¬ m = w.heap.size := by omega
  have hne3 : ¬ m = w.heap.size + 1 := by omega
  simp only [casD, Bool.and_eq_true, decide_eq_true_eq, beq_iff_eq] at hD
  obtain ⟨h1, h2, rfl⟩ := hD
  have hs : (n != n) = false := by simp
  go_enter Try.func20, Try.ntmps20
  go_wp2
  go_quiet (fail)
  go_wp2
  exact bodyPost_ret (v := ansC true 0) (by simp [results, Try.results20, go_sem, h7]) rfl ⟨_, rfl, rfl⟩
set_option maxRecDepth 100000 in
set_option maxHeartbeats 1000000 in
theorem xclock_no1 (m : Nat) (n old now : Int) (w : World) (hlt : m < w.heap.size) (h7 : w.cell? ⟨m, 7, none⟩ = some (.int .u64 n)) (f7 : w.frozen? ⟨m, 7, none⟩ = false) (h1 : now ≤ old) :
    Calls Try.prog 20 #[ptr m, opC old now] w (ClkPost (ansC false 1) (((w).alloc (.cells #[.int .i64 7, .int .i64 0, .int .u64 old, .int .u64 now, .int .u64 0, .bool false, .int .i64 0, .int .u64 0, .bool false, .int .i64 0] 57)).alloc (.cells #[.int .u64 0, .int .u64 0, .bool false, .int .i64 0, .bool false, .int .i64 1] 54))) := by
  have hne := Nat.ne_of_gt hlt
  have hne1 : ¬ w.heap.size + 1 = m := by omega
  have hne2 : ¬ m = w.heap.size := by omega
  have hne3 : ¬ m = w.heap.size + 1 := by omega
  go_enter Try.func20, Try.ntmps20
  go_wp2


  exact bodyPost_ret (v := ansC false 1) (by simp [results, Try.results20, go_sem, h7]) rfl ⟨0, rfl, rfl⟩
set_option maxRecDepth 100000 in
set_option maxHeartbeats 1000000 in
theorem xclock_no7 (m : Nat) (n old now : Int) (w : World) (hlt : m < w.heap.size) (h7 : w.cell? ⟨m, 7, none⟩ = some (.int .u64 n)) (f7 : w.frozen? ⟨m, 7, none⟩ = false) (h1 : old < now) (h2 : ¬ now < 4611686018427387904) :
    Calls Try.prog 20 #[ptr m, opC old now] w (ClkPost (ansC false 7) (((w).alloc (.cells #[.int .i64 7, .int .i64 0, .int .u64 old, .int .u64 now, .int .u64 0, .bool false, .int .i64 0, .int .u64 0, .bool false, .int .i64 0] 57)).alloc (.cells #[.int .u64 0, .int .u64 0, .bool false, .int .i64 0, .bool false, .int .i64 7] 54))) := by
  have hne := Nat.ne_of_gt hlt
  have hne1 : ¬ w.heap.size + 1 = m := by omega
  have hne2 : ¬ m = w.heap.size := by omega
  have hne3 : ¬ m = w.heap.size + 1 := by omega
  go_enter Try.func20, Try.ntmps20
  go_wp2


  exact bodyPost_ret (v := ansC false 7) (by simp [results, Try.results20, go_sem, h7]) rfl ⟨0, rfl, rfl⟩
set_option maxRecDepth 100000 in
set_option maxHeartbeats 1000000 in
theorem xclock_no0 (m : Nat) (n old now : Int) (w : World) (hlt : m < w.heap.size) (h7 : w.cell? ⟨m, 7, none⟩ = some (.int .u64 n)) (f7 : w.frozen? ⟨m, 7, none⟩ = false) (h1 : old < now) (h2 : now < 4611686018427387904) (h3 : (n == old) = false) :
    Calls Try.prog 20 #[ptr m, opC old now] w (ClkPost (ansC false 0) (((w).alloc (.cells #[.int .i64 7, .int .i64 0, .int .u64 old, .int .u64 now, .int .u64 0, .bool false, .int .i64 0, .int .u64 0, .bool false, .int .i64 0] 57)).alloc (.cells #[.int .u64 0, .int .u64 0, .bool false, .int .i64 0, .bool false, .int .i64 0] 54))) := by
  have hne := Nat.ne_of_gt hlt
  have hne1 : ¬ w.heap.size + 1 = m := by omega
  have hne2 : ¬ m = w.heap.size := by omega
  have hne3 : ¬ m = w.heap.size + 1 := by omega
  go_enter Try.func20, Try.ntmps20
  go_wp2
  go_quiet (fail)
  go_wp2
  exact bodyPost_ret (v := ansC false 0) (by simp [results, Try.results20, go_sem, h7]) rfl ⟨_, rfl, rfl⟩
theorem xclock_no (m : Nat) (n old now : Int) (w : World) (hlt : m < w.heap.size) (h7 : w.cell? ⟨m, 7, none⟩ = some (.int .u64 n)) (f7 : w.frozen? ⟨m, 7, none⟩ = false) (hD : casD n old now = false) :
    Calls Try.prog 20 #[ptr m, opC old now] w (ClkPost (ansC false (casE old now)) ((w.alloc (.cells #[.int .i64 7, .int .i64 0, .int .u64 old, .int .u64 now, .int .u64 0, .bool false, .int .i64 0, .int .u64 0, .bool false, .int .i64 0] 57)).alloc (.cells #[.int .u64 0, .int .u64 0, .bool false, .int .i64 0, .bool false, .int .i64 (casE old now)] 54))) := by
  by_cases h1 : now ≤ old
  · have e : casE old now = 1 := by simp [casE, h1]
    rw [e]; exact xclock_no1 m n old now w hlt h7 f7 h1
  · by_cases h2 : now < 4611686018427387904
    · have e : casE old now = 0 := by simp [casE, h1, h2]
      have h3 : (n == old) = false := by
        cases hh : n == old
        · rfl
        · simp [casD, hh, h2] at hD; omega
      rw [e]; exact xclock_no0 m n old now w hlt h7 f7 (by omega) h2 h3
    · have e : casE old now = 7 := by simp [casE, h1, h2]
      rw [e]; exact xclock_no7 m n old now w hlt h7 f7 (by omega) h2
set_option maxRecDepth 100000 in
set_option maxHeartbeats 1000000 in
theorem do_yes (m : Nat) (n old now : Int) (w : World) (hm : MemC w m n) (hD : casD n old now = true) :
    Calls Try.prog 16 #[ptr m, opC old now] w fun e w' => e = .returned (ansC true 0) ∧ MemC w' m now ∧ w.grownBy w' (some m) := by
  obtain ⟨hlt, h7, ⟨cc, h9⟩, f7, f9⟩ := hm
  have hl1 : m < w.heap.size + 1 := by omega
  have hl2 : m < w.heap.size + 1 + 1 := by omega
  have hl3 : m < w.heap.size + 1 + 1 + 1 := by omega
  have hne : ¬ w.heap.size = m := by omega
  have hne1 : ¬ w.heap.size + 1 = m := by omega
  have hne5 : ¬ w.heap.size + 1 + 1 = m := by omega
  have hne2 : ¬ m = w.heap.size := by omega
  have hne3 : ¬ m = w.heap.size + 1 := by omega
  have hne4 : ¬ m = w.heap.size + 1 + 1 := by omega
  have HD := Lib.hid hD
  clear hD
  go_enter Try.func16, Try.ntmps16
  go_wp2_with (first | (go_at_call 20; (with_reducible refine (xclock_yes m n old now _ (by simp; omega) (by simp [cas3, h7]) (by simp [fas3, h7, f7]) HD.out).mono ?_); rintro e w1 ⟨nq, rfl, rfl⟩))
  refine bodyPost_ret (v := ansC true 0) (by simp [results, Try.results16, go_sem]) rfl ⟨rfl, ?_⟩
  have k7 : ((w.setCell ⟨m, 7, none⟩ (.int .u64 now)).setCell ⟨m, 9, none⟩ (.int .i64 (wrap64 (cc + 1)))).cell? ⟨m, 7, none⟩ = some (.int .u64 now) := by rw [World.cell?_setCell_other _ _ _ _ (by simp), World.cell?_setCell_same _ _ _ h7]
  have k9 : ((w.setCell ⟨m, 7, none⟩ (.int .u64 now)).setCell ⟨m, 9, none⟩ (.int .i64 (wrap64 (cc + 1)))).cell? ⟨m, 9, none⟩ = some (.int .i64 (wrap64 (cc + 1))) := World.cell?_setCell_same _ _ _ ((World.cell?_setCell_other _ _ _ _ (by simp)).trans h9)
  refine ⟨⟨by simp; omega, ?_, ⟨wrap64 (cc + 1), ?_⟩, ?_, ?_⟩, ?_⟩
  · simp [cas5, k7]
  · simp [cas5, k9]
  · simp [fas5, k7, f7]
  · simp [fas5, k9, f9]
  · repeat (first | exact World.grownBy.refl _ _ | refine grown_drewN ?_ _ | refine grown_alloc ?_ _ | refine grown_drew ?_ | refine grown_set ?_ _ _ | refine grown_set_new ?_ _ (by first | (simp; done) | (simp; omega)) _)
set_option maxRecDepth 100000 in
set_option maxHeartbeats 1000000 in
theorem do_no0 (m : Nat) (n old now : Int) (w : World) (hm : MemC w m n) (hD : casD n old now = false) (hE : casE old now = 0) :
    Calls Try.prog 16 #[ptr m, opC old now] w fun e w' => e = .returned (ansC false 0) ∧ MemC w' m n ∧ w.grownBy w' (some m) := by
  obtain ⟨hlt, h7, ⟨cc, h9⟩, f7, f9⟩ := hm
  have hl1 : m < w.heap.size + 1 := by omega
  have hl2 : m < w.heap.size + 1 + 1 := by omega
  have hl3 : m < w.heap.size + 1 + 1 + 1 := by omega
  have hne : ¬ w.heap.size = m := by omega
  have hne1 : ¬ w.heap.size + 1 = m := by omega
  have hne5 : ¬ w.heap.size + 1 + 1 = m := by omega
  have hne2 : ¬ m = w.heap.size := by omega
  have hne3 : ¬ m = w.heap.size + 1 := by omega
  have hne4 : ¬ m = w.heap.size + 1 + 1 := by omega
  have HD := Lib.hid hD
  clear hD
  go_enter Try.func16, Try.ntmps16
  go_wp2_with (first | (go_at_call 20; (with_reducible refine (xclock_no m n old now _ (by simp; omega) (by simp [cas3, h7]) (by simp [fas3, h7, f7]) HD.out).mono ?_); rintro e w1 ⟨nq, rfl, rfl⟩))
  refine bodyPost_ret (v := ansC false 0) (by simp [results, Try.results16, go_sem]) rfl ⟨rfl, ?_⟩
  have k7 : (w.setCell ⟨m, 9, none⟩ (.int .i64 (wrap64 (cc + 1)))).cell? ⟨m, 7, none⟩ = some (.int .u64 n) := (World.cell?_setCell_other _ _ _ _ (by simp)).trans h7
  have k9 : (w.setCell ⟨m, 9, none⟩ (.int .i64 (wrap64 (cc + 1)))).cell? ⟨m, 9, none⟩ = some (.int .i64 (wrap64 (cc + 1))) := World.cell?_setCell_same _ _ _ h9
  refine ⟨⟨by simp; omega, ?_, ⟨wrap64 (cc + 1), ?_⟩, ?_, ?_⟩, ?_⟩
  · simp [cas5, k7]
  · simp [cas5, k9]
  · simp [fas5, k7, f7]
  · simp [fas5, k9, f9]
  · repeat (first | exact World.grownBy.refl _ _ | refine grown_drewN ?_ _ | refine grown_alloc ?_ _ | refine grown_drew ?_ | refine grown_set ?_ _ _ | refine grown_set_new ?_ _ (by first | (simp; done) | (simp; omega)) _)
set_option maxRecDepth 100000 in
set_option maxHeartbeats 1000000 in
theorem do_noE (m : Nat) (n old now : Int) (w : World) (hm : MemC w m n) (hD : casD n old now = false) (hE : (casE old now == 0) = false) :
    Calls Try.prog 16 #[ptr m, opC old now] w fun e w' => e = .returned (ansC false (casE old now)) ∧ MemC w' m n ∧ w.grownBy w' (some m) := by
  obtain ⟨hlt, h7, ⟨cc, h9⟩, f7, f9⟩ := hm
  have hl1 : m < w.heap.size + 1 := by omega
  have hl2 : m < w.heap.size + 1 + 1 := by omega
  have hl3 : m < w.heap.size + 1 + 1 + 1 := by omega
  have hne : ¬ w.heap.size = m := by omega
  have hne1 : ¬ w.heap.size + 1 = m := by omega
  have hne5 : ¬ w.heap.size + 1 + 1 = m := by omega
  have hne2 : ¬ m = w.heap.size := by omega
  have hne3 : ¬ m = w.heap.size + 1 := by omega
  have hne4 : ¬ m = w.heap.size + 1 + 1 := by omega
  have HD := Lib.hid hD
  clear hD
  go_enter Try.func16, Try.ntmps16
  go_wp2_with (first | (go_at_call 20; (with_reducible refine (xclock_no m n old now _ (by simp; omega) (by simp [cas3, h7]) (by simp [fas3, h7, f7]) HD.out).mono ?_); rintro e w1 ⟨nq, rfl, rfl⟩))
  refine bodyPost_ret (v := ansC false (casE old now)) (by simp [results, Try.results16, go_sem]) rfl ⟨rfl, ?_⟩
  have k7 := h7
  have k9 := h9
  refine ⟨⟨by simp; omega, ?_, ⟨cc, ?_⟩, ?_, ?_⟩, ?_⟩
  · simp [cas5, k7]
  · simp [cas5, k9]
  · simp [fas5, k7, f7]
  · simp [fas5, k9, f9]
  · repeat (first | exact World.grownBy.refl _ _ | refine grown_drewN ?_ _ | refine grown_alloc ?_ _ | refine grown_drew ?_ | refine grown_set ?_ _ _ | refine grown_set_new ?_ _ (by first | (simp; done) | (simp; omega)) _)
theorem do_no (m : Nat) (n old now : Int) (w : World) (hm : MemC w m n) (hD : casD n old now = false) :
    Calls Try.prog 16 #[ptr m, opC old now] w fun e w' => e = .returned (ansC false (casE old now)) ∧ MemC w' m n ∧ w.grownBy w' (some m) := by
  by_cases hE : casE old now = 0
  · rw [hE]; exact do_no0 m n old now w hm hD hE
  · exact do_noE m n old now w hm hD (by simpa using hE)
end Go.Proofs.Ytbggbmcijhnijaa
