/- Contracts of package epoch: slots behind a pointer; chapter 5's runs. -/

import Derived.Test.YtojokfckjhcknaaEpoch
namespace Go.Proofs.Ytojokfckjhcknaa
open Go.ChangeShapes Go.WideShapes Go.ChangeAt Go.RowKit
open Go.ChangeMaps (open_string shut_string)
set_option linter.unusedVariables false
theorem has_any (s r : Nat) (i : Int) (n : Nat) (w : World) (hs : w.cell? ⟨s, 0, none⟩ = some (.slice (some ⟨r, 0, none⟩) n n)) (h0 : 0 ≤ i) (h1 : i < (n : Int)) : Calls Try.prog 18 #[ptr s, .int .i64 i] w fun e w' => e = .returned (.bool true) ∧ w = w' := by
  go_enter Try.func18, Try.ntmps18
  go_wp2
  go_ret
  exact ⟨rfl, rfl⟩
theorem store_yes (s r i n : Nat) (v : Int) (old : Value) (w : World) (hs : w.cell? ⟨s, 0, none⟩ = some (.slice (some ⟨r, 0, none⟩) n n)) (hi : i < n) (hn : n ≤ 1000000) (hr : w.cell? ⟨r, i, none⟩ = some old) (hf : w.frozen? ⟨r, i, none⟩ = false) :
    Calls Try.prog 8 #[ptr s, .int .i64 i, .int .u64 v] w fun e w' => e = .returned (.int .i64 0) ∧ w' = w.setCell ⟨r, i, none⟩ (.int .u64 v) := by
  have h0 : (0 : Int) ≤ (i : Int) := by omega
  have h1 : (i : Int) < (n : Int) := by omega
  go_enter Try.func8, Try.ntmps8
  go_wp2_with (first | (go_at_call 18; (with_reducible refine (has_any s r i n _ hs h0 h1).mono ?_); rintro e w' ⟨rfl, rfl⟩))
  go_ret
  exact ⟨rfl, rfl⟩
theorem mpassed_row (s r n : Nat) (ws : Nat → Int) (st : Int) (w : World) (hs : w.cell? ⟨s, 0, none⟩ = some (.slice (some ⟨r, 0, none⟩) n n)) (hn : n ≤ 1000000) (hb : ∀ i, i < n → 0 ≤ ws i) (h0 : 0 ≤ st) (hc : ∀ i, i < n → w.cell? ⟨r, 0 + i, none⟩ = some (.int .u64 (ws i))) :
    Calls Try.prog 10 #[ptr s, .int .u64 st] w fun e w' => e = .returned (.bool (psd ws st n)) ∧ w = w' := by
  have R := Lib.hid (passed_row r 0 n n ws st w (by omega) hb h0 hc)
  clear hb hc
  go_enter Try.func10, Try.ntmps10
  go_wp2_with (first | (go_at_call 14; (with_reducible refine R.out.mono ?_); rintro e w' ⟨rfl, rfl⟩))
  go_ret
  exact ⟨rfl, rfl⟩
theorem len_any (s r n : Nat) (w : World) (hs : w.cell? ⟨s, 0, none⟩ = some (.slice (some ⟨r, 0, none⟩) n n)) : Calls Try.prog 11 #[ptr s] w fun e w' => e = .returned (.int .i64 n) ∧ w = w' := by
  go_enter Try.func11, Try.ntmps11
  go_wp2
  go_ret
  exact ⟨rfl, rfl⟩
def AllPost (w : World) (n : Nat) (xs : List Value) (e : Ending) (w' : World) : Prop := ∃ g cap, e = .returned (.slice (some ⟨g, 0, none⟩) n cap) ∧ w'.ownsRow w.heap.size 26 1 (.slice (some ⟨g, 0, none⟩) n cap) n xs ∧ Below w.heap.size w w'
theorem all_row (s r n : Nat) (xs : List Value) (w : World) (hs : w.cell? ⟨s, 0, none⟩ = some (.slice (some ⟨r, 0, none⟩) n n)) (hl : xs.length = n) (h0 : 0 < n) (h63 : n ≤ 1000000) (hc : ∀ j u, xs[j]? = some u → w.cell? ((⟨r, 0, none⟩ : Addr).add j) = some u) (h1 : ∀ u ∈ xs, u.oneCell' = true) :
    Calls Try.prog 12 #[ptr s] w (AllPost w n xs) := by
  have R := Lib.hid (clone_row r 0 n n xs w hl h63 hc h1)
  clear hc h1
  go_enter Try.func12, Try.ntmps12
  go_wp2_with (first | (go_at_call 19; (with_reducible refine R.out.mono ?_); rintro e w' ⟨v, rfl, hown, hb⟩; have HO := Lib.hid hown; have HB := Lib.hid hb; clear hown hb))
  go_ret
  rcases HO.out.2 with ⟨_, rfl⟩ | ⟨g, cap, cur, rfl, _⟩
  · omega
  · exact ⟨g, cap, rfl, HO.out, HB.out⟩
theorem copy_row (s r n : Nat) (xs : List Value) (w : World) (hs : w.cell? ⟨s, 0, none⟩ = some (.slice (some ⟨r, 0, none⟩) n n)) (hl : xs.length = n) (h0 : 0 < n) (h63 : n ≤ 1000000) (hc : ∀ j u, xs[j]? = some u → w.cell? ((⟨r, 0, none⟩ : Addr).add j) = some u) (h1 : ∀ u ∈ xs, u.oneCell' = true) :
    Calls Try.prog 13 #[ptr s] w fun e w' => ∃ w1 g cap, e = .returned (ptr w1.heap.size) ∧ w1.ownsRow w.heap.size 26 1 (.slice (some ⟨g, 0, none⟩) n cap) n xs ∧ Below w.heap.size w w1 ∧ w' = w1.alloc (.cells #[.slice (some ⟨g, 0, none⟩) n cap] 44) := by
  have R := Lib.hid (all_row s r n xs w hs hl h0 h63 hc h1)
  clear hc h1
  go_enter Try.func13, Try.ntmps13
  go_wp2_with (first | (go_at_call 12; (with_reducible refine R.out.mono ?_); rintro e w1 ⟨g, cap, rfl, hown, hb⟩; have HO := Lib.hid hown; have HB := Lib.hid hb; clear hown hb))
  go_ret
  exact ⟨w1, g, cap, rfl, HO.out, HB.out, rfl⟩
theorem new_2 (w : World) : Calls Try.prog 7 #[.int .i64 2] w fun e w' => e = .returned (ptr (w.heap.size + 1)) ∧ w' = (w.alloc (.cells #[.int .u64 0, .int .u64 0] 26)).alloc (.cells #[.slice (some ⟨w.heap.size, 0, none⟩) 2 2] 44) := by
  have mk : ∀ w : World, (Instr.makeSlice 31 (.int .i64 2) (.int .i64 2)).run Try.prog w = .ok (.slice (some ⟨w.heap.size, 0, none⟩) 2 2) (w.alloc (.cells #[.int .u64 0, .int .u64 0] 26)) := fun _ => by kernel_rfl
  go_enter Try.func7, Try.ntmps7
  go_wp2
  go_ret
  exact ⟨rfl, rfl⟩
theorem least_70 (s r : Nat) (w : World) (hs : w.cell? ⟨s, 0, none⟩ = some (.slice (some ⟨r, 0, none⟩) 2 2)) (h0 : w.cell? ⟨r, 0, none⟩ = some (.int .u64 7)) (h1 : w.cell? ⟨r, 1, none⟩ = some (.int .u64 0)) : Calls Try.prog 9 #[ptr s] w fun e w' => e = .returned (.tuple #[.int .u64 7, .bool true]) ∧ w = w' := by
  go_enter Try.func9, Try.ntmps9
  go_wp2
  go_rounds 3
  go_ret2
  exact ⟨rfl, rfl⟩
def two70 : Nat → Int | 0 => 7 | _ => 0
set_option maxHeartbeats 1000000 in
theorem runs_any (w : World) : Calls Try.prog 3 #[] w fun e w' => e = .returned (.bool true) ∧ Below w.heap.size w w' := by
  have p6 : psd two70 6 2 = true := by decide
  have p7 : psd two70 7 2 = false := by decide
  go_enter Try.func3, Try.ntmps3
  go_wp2_with (first | (go_at_call 7; (with_reducible refine (new_2 _).mono ?_); rintro e w' ⟨rfl, rfl⟩))
  go_wp2_with fail
  refine (store_yes (w.heap.size + 1) w.heap.size 0 2 7 (.int .u64 0) _ (by simp [World.cell?_alloc_at]) (by decide) (by decide) (by simp) (by simp)).mono ?_
  rintro e w' ⟨rfl, rfl⟩
  go_wp2_with fail
  refine (least_70 (w.heap.size + 1) w.heap.size _ (by simp [World.cell?_alloc_at]) (by simp) (by simp)).mono ?_
  rintro e w' ⟨rfl, rfl⟩
  go_wp2_with fail
  refine (mpassed_row (w.heap.size + 1) w.heap.size 2 two70 6 _ (by simp [World.cell?_alloc_at]) (by decide) (by intro i hi; match i, hi with | 0, _ => decide | 1, _ => decide) (by decide) (by intro i hi; match i, hi with | 0, _ => simp [two70] | 1, _ => simp [two70])).mono ?_
  rintro e w' ⟨rfl, rfl⟩
  go_wp2_with fail
  refine (mpassed_row (w.heap.size + 1) w.heap.size 2 two70 7 _ (by simp [World.cell?_alloc_at]) (by decide) (by intro i hi; match i, hi with | 0, _ => decide | 1, _ => decide) (by decide) (by intro i hi; match i, hi with | 0, _ => simp [two70] | 1, _ => simp [two70])).mono ?_
  rintro e w' ⟨rfl, rfl⟩
  go_wp2_with (first | (go_at_call 11; (with_reducible refine (len_any _ w.heap.size 2 _ (by simp [World.cell?_alloc_at])).mono ?_); rintro e w' ⟨rfl, rfl⟩))
  go_wp2_with fail
  refine (all_row (w.heap.size + 1) w.heap.size 2 [.int .u64 7, .int .u64 0] _ (by simp [World.cell?_alloc_at]) rfl (by decide) (by decide) (by intro j u hj; match j, hj with | 0, hj => simp at hj; subst hj; simp [Addr.add] | 1, hj => simp at hj; subst hj; simp [Addr.add]) (by intro u hu; simp at hu; rcases hu with rfl | rfl <;> rfl)).mono ?_
  rintro e w1 ⟨g, cap, rfl, hown, hb⟩
  have K := keepC hb (L := [(⟨w.heap.size + 1, 0, none⟩, .slice (some ⟨w.heap.size, 0, none⟩) 2 2), (⟨w.heap.size, 0, none⟩, .int .u64 7), (⟨w.heap.size, 1, none⟩, .int .u64 0)]) (by simp [AllC, World.cell?_alloc_at])
  simp only [AllC] at K
  obtain ⟨c0, c1, c2, -⟩ := K
  have B1 : Below w.heap.size w w1 := (((Below.refl _ _).alloc (Nat.le_refl _) _).alloc (by simp) _).trans (hb.mono (by simp; omega))
  clear hown hb
  go_wp2_with fail
  refine (copy_row (w.heap.size + 1) w.heap.size 2 [.int .u64 7, .int .u64 0] _ c0 rfl (by decide) (by decide) (by intro j u hj; match j, hj with | 0, hj => simp at hj; subst hj; simpa [Addr.add] using c1 | 1, hj => simp at hj; subst hj; simpa [Addr.add] using c2) (by intro u hu; simp at hu; rcases hu with rfl | rfl <;> rfl)).mono ?_
  rintro e w' ⟨w2, g2, cap2, rfl, hown2, hb2, rfl⟩
  have B2 : Below w.heap.size w w2 := B1.trans (hb2.mono B1.size)
  clear hown2 hb2
  go_wp2_with (first | (go_at_call 14; (with_reducible refine (passed_empty _ _ _ _).mono ?_); rintro e w' ⟨rfl, rfl⟩))
  go_ret
  refine ⟨rfl, ?_⟩
  exact B2.alloc B2.size _
end Go.Proofs.Ytojokfckjhcknaa
