/- The law's own loop over asks: a heap and a row go together. -/

import Derived.Test.YtcjgfoojbiagnaaHeapB
namespace Go.Proofs.Ytcjgfoojbiagnaa
open Go.ChangeShapes Go.WideShapes Go.ChangeAt Go.RowKit
open Go.ChangeMaps (open_string shut_string)
set_option linter.unusedVariables false
/-- Of what was there only the blocks c and m may have turned. -/
structure Two (c m : Nat) (w w' : World) : Prop where
  os : w'.os = w.os
  tape : w'.tape = w.tape
  output : w'.output = w.output
  size : w.heap.size ≤ w'.heap.size
  block : ∀ k, k < w.heap.size → k ≠ c → k ≠ m → w'.heap[k]? = w.heap[k]?
theorem Two.refl (c m : Nat) (w : World) : Two c m w w := ⟨rfl, rfl, rfl, Nat.le_refl _, fun _ _ _ _ => rfl⟩
theorem Two.alloc {c m : Nat} {a w : World} (h : Two c m a w) (o : Obj) : Two c m a (w.alloc o) :=
  ⟨h.os, h.tape, h.output, by have := h.size; simp; omega, fun k hk h1 h2 => (Below.heap_alloc w o k (by have := h.size; omega)).trans (h.block k hk h1 h2)⟩
theorem Two.drewN {c m : Nat} {a w : World} (h : Two c m a w) (n : Nat) : Two c m a (w.drewN n) := ⟨h.os, h.tape, h.output, h.size, h.block⟩
theorem Two.drew {c m : Nat} {a w : World} (h : Two c m a w) : Two c m a w.drew := ⟨h.os, h.tape, h.output, h.size, h.block⟩
theorem Two.set {c m : Nat} {a w : World} (h : Two c m a w) (o : Nat) (v : Value) : Two c m a (w.setCell ⟨c, o, none⟩ v) :=
  ⟨h.os, h.tape, h.output, by have := h.size; simp; omega, fun k hk h1 h2 => (Below.heap_setCell w _ v k (fun e => h1 e)).trans (h.block k hk h1 h2)⟩
theorem Two.grown {c m : Nat} {a w w' : World} (h : Two c m a w) (g : w.grownBy w' (some m)) : Two c m a w' :=
  ⟨g.os.trans h.os, g.tape.trans h.tape, g.output.trans h.output, Nat.le_trans h.size g.size, fun k hk h1 h2 => (g.block k (by have := h.size; omega) (by simpa using h2)).trans (h.block k hk h1 h2)⟩
theorem Two.cell {c m : Nat} {a w : World} (h : Two c m a w) {b o : Nat} (hb : b < a.heap.size) (h1 : b ≠ c) (h2 : b ≠ m) : w.cell? ⟨b, o, none⟩ = a.cell? ⟨b, o, none⟩ := World.cell?_of_block (h.block b hb h1 h2)
theorem Two.below {c m B : Nat} {a w : World} (h : Two c m a w) (hc : B ≤ c) (hm : B ≤ m) (hB : B ≤ a.heap.size) : Below B a w :=
  ⟨h.os, h.tape, h.output, h.size, fun k hk => h.block k (by omega) (by omega) (by omega)⟩
theorem Two.set2 {c m : Nat} {a w : World} (h : Two c m a w) (o : Nat) (v : Value) : Two c m a (w.setCell ⟨m, o, none⟩ v) :=
  ⟨h.os, h.tape, h.output, by have := h.size; simp; omega, fun k hk h1 h2 => (Below.heap_setCell w _ v k (fun e => h2 e)).trans (h.block k hk h1 h2)⟩
theorem Two.below' {c m : Nat} {a w w' : World} (h : Two c m a w) (hb : Below w.heap.size w w') : Two c m a w' :=
  ⟨hb.os.trans h.os, hb.tape.trans h.tape, hb.output.trans h.output, Nat.le_trans h.size hb.size, fun k hk h1 h2 => (hb.block k (by have := h.size; omega)).trans (h.block k hk h1 h2)⟩

structure WRow (w : World) (r n : Nat) (xs : List Int) : Prop where
  c : ∀ i, i < n → w.cell? ⟨r, i, none⟩ = some (.int .u64 (xs.getD i 0))
  f : ∀ i, i < n → w.frozen? ⟨r, i, none⟩ = false
theorem WRow.below {w w' : World} {r n : Nat} {xs : List Int} (q : WRow w r n xs) (h0 : 0 < n) (hb : Below w.heap.size w w') : WRow w' r n xs := by
  have hr : r < w.heap.size := World.block_lt_of_cell? w _ (q.c 0 h0)
  exact ⟨fun i hi => (hb.cell (by exact hr)).trans (q.c i hi), fun i hi => (hb.frozen (by exact hr)).trans (q.f i hi)⟩
theorem WRow.set {w : World} {r n : Nat} {xs : List Int} (q : WRow w r n xs) (hl : xs.length = n) (i : Nat) (hi : i < n) (v : Int) : WRow (w.setCell ⟨r, i, none⟩ (.int .u64 v)) r n (xs.set i v) := by
  refine ⟨fun j hj => ?_, fun j hj => (World.frozen?_setCell _ _ _ _).trans (q.f j hj)⟩
  by_cases e : i = j
  · subst e
    rw [World.cell?_setCell_same _ _ _ (q.c i hi)]
    simp [List.getD_eq_getElem?_getD, List.getElem?_set, hl, hi]
  · rw [World.cell?_setCell_other _ _ _ _ (by simp [e]), q.c j hj]
    simp [List.getD_eq_getElem?_getD, List.getElem?_set, e]
theorem WRow.other {w : World} {r n b o : Nat} {xs : List Int} (q : WRow w r n xs) (hb : b ≠ r) (v : Value) : WRow (w.setCell ⟨b, o, none⟩ v) r n xs :=
  ⟨fun j hj => (World.cell?_setCell_other _ _ _ _ (by simp [hb])).trans (q.c j hj), fun j hj => (World.frozen?_setCell _ _ _ _).trans (q.f j hj)⟩
theorem RowAt.other {w : World} {h r n b o : Nat} {xs : List Int} (q : RowAt w h r n xs) (hb : b ≠ r) (hh : b ≠ h) (v : Value) : RowAt (w.setCell ⟨b, o, none⟩ v) h r n xs :=
  ⟨q.hs.imp fun _ h => (World.cell?_setCell_other _ _ _ _ (by simp [hh])).trans h, q.len, fun j hj => (World.cell?_setCell_other _ _ _ _ (by simp [hb])).trans (q.c j hj), fun j hj => (World.frozen?_setCell _ _ _ _).trans (q.f j hj), q.ne, by simpa using q.lt⟩
theorem balloc (w : World) (o : Obj) : Below w.heap.size w (w.alloc o) := (Below.refl _ _).alloc (Nat.le_refl _) o
/-- A row of asks in memory: a flag, a place, a word. -/
structure Asks (w : World) (b off len : Nat) (S : Nat → Bool) (A V : Nat → Int) : Prop where
  lt : b < w.heap.size
  cs : ∀ i, i < len → w.cell? ⟨b, off + i * 3, none⟩ = some (.bool (S i))
  ca : ∀ i, i < len → w.cell? ⟨b, off + i * 3 + 1, none⟩ = some (.int .i64 (A i))
  cv : ∀ i, i < len → w.cell? ⟨b, off + i * 3 + 2, none⟩ = some (.int .u64 (V i))
  bv : ∀ i, i < len → 0 ≤ V i ∧ V i ≤ 18446744073709551615
def LoopPost (h r v n : Nat) (w : World) (e : Ending) (w' : World) : Prop := e = .returned (.bool true) ∧ ∃ xs, RowAt w' h r n xs ∧ WRow w' v n xs ∧ Two r v w w'
set_option maxRecDepth 100000 in
set_option maxHeartbeats 4000000 in
theorem asked_row (h r v n cv : Nat) (xs0 : List Int) (b off len cap : Nat) (S : Nat → Bool) (A V : Nat → Int) (w : World) (h0 : 0 < n) (hn : n ≤ 1000) (hm : len ≤ 9223372036854775807)
    (hR : RowAt w h r n xs0) (hW : WRow w v n xs0) (ha : Asks w b off len S A V) (hrv : r ≠ v) (hhv : v ≠ h) (hbr : b ≠ r) (hbv : b ≠ v) :
    Calls Try.prog 13 #[ptr h, .slice (some ⟨v, 0, none⟩) n cv, .slice (some ⟨b, off, none⟩) len cap] w (LoopPost h r v n w) := by
  have HR := Lib.hid hR
  have HW := Lib.hid hW
  have NE : Hid (r ≠ v ∧ v ≠ h ∧ b ≠ r ∧ b ≠ v) := ⟨hrv, hhv, hbr, hbv⟩
  clear hR hW hrv hhv hbr hbv
  go_enter Try.func13, Try.ntmps13
  go_wp2
  go_loopw [7] (fun u7 wr => ∃ (k : Nat) (xs : List Int), k ≤ len ∧ u7 = .int .i64 k ∧ Hid (RowAt wr h r n xs) ∧ Hid (WRow wr v n xs) ∧ Hid (Two r v w wr)) (fun i _ => (100 - intOf i).toNat)
  case atStart => exact ⟨0, xs0, by omega, rfl, HR.out, HW.out, Two.refl _ _ _⟩
  case round =>
    obtain ⟨k, xs, hk, rfl, hq, hw', ht⟩ := hrel
    by_cases hlt : k < len ∧ k < 100
    · obtain ⟨hlt, h100⟩ := hlt
      have cs : wr.cell? ⟨b, off + k * 3, none⟩ = some (.bool (S k)) := (ht.out.cell ha.lt NE.out.2.2.1 NE.out.2.2.2).trans (ha.cs k hlt)
      have ca : wr.cell? ⟨b, off + k * 3 + 1, none⟩ = some (.int .i64 (A k)) := (ht.out.cell ha.lt NE.out.2.2.1 NE.out.2.2.2).trans (ha.ca k hlt)
      have cv : wr.cell? ⟨b, off + k * 3 + 2, none⟩ = some (.int .u64 (V k)) := (ht.out.cell ha.lt NE.out.2.2.1 NE.out.2.2.2).trans (ha.cv k hlt)
      generalize A k = at' at *
      generalize V k = va at *
      have hki : (k : Int) < (len : Int) := by omega
      have hki6 : (k : Int) < 100 := by omega
      have hkn : (0 : Int) ≤ (k : Int) := by omega
      by_cases hin : 1 ≤ at' ∧ at' < (n : Int)
      · obtain ⟨i, rfl⟩ := Int.eq_ofNat_of_zero_le (show 0 ≤ at' by omega)
        have hi0 : 1 ≤ i := by omega
        have hi1 : i < n := by omega
        have h1 : (1 : Int) ≤ (i : Int) := by omega
        have h2 : (i : Int) < (n : Int) := by omega
        have h3 : (0 : Int) ≤ (i : Int) := by omega
        have hrl : r < wr.heap.size := World.block_lt_of_cell? wr _ (hq.out.c 0 h0)
        have hvl : v < wr.heap.size := World.block_lt_of_cell? wr _ (hw'.out.c 0 h0)
        have hrv : ¬ r = v := NE.out.1
        have hvr : ¬ v = r := fun e => NE.out.1 e.symm
        have hw1 : ¬ wr.heap.size = r := by omega
        have hw2 : ¬ r = wr.heap.size := by omega
        have hw3 : ¬ wr.heap.size = v := by omega
        have hw4 : ¬ v = wr.heap.size := by omega
        have cW := hw'.out.c i hi1
        have fW := hw'.out.f i hi1
        have cR := hq.out.c i hi1
        have fR := hq.out.f i hi1
        clear hin
        cases hS : S k
        · rw [hS] at cs
          have QA : RowAt (wr.alloc (.cells #[.bool false, .int .i64 (i : Int), .int .u64 va] 45)) h r n xs := hq.out.below h0 (balloc _ _)
          have LD := Lib.hid (load_yes h r n i xs _ QA (by omega) hi0 hi1)
          clear QA cR
          obtain ⟨y, hy⟩ : ∃ y, xs.getD i 0 = y := ⟨_, rfl⟩
          rw [hy] at cW LD
          have hyy : (y != y) = false := by simp
          clear hy
          go_wp2_with (first | (go_at_call 9; (with_reducible refine LD.out.mono ?_); rintro e w' ⟨rfl, rfl⟩))
          go_roundw
          case rel => exact ⟨k + 1, xs, by omega, by go_num, hq.out.below h0 (balloc _ _), hw'.out.below h0 (balloc _ _), ht.out.alloc _⟩
          case measure => simp [intOf]; omega
        · rw [hS] at cs
          have QA : RowAt (wr.alloc (.cells #[.bool true, .int .i64 (i : Int), .int .u64 va] 45)) h r n xs := hq.out.below h0 (balloc _ _)
          have ST := Lib.hid (store_yes h r n i va xs _ QA (by omega) hi0 hi1)
          have R2 : RowAt ((wr.setCell ⟨r, i, none⟩ (.int .u64 va)).setCell ⟨v, i, none⟩ (.int .u64 va)) h r n (xs.set i va) := (hq.out.set i hi1 va).other hvr NE.out.2.1 _
          have W2 : WRow ((wr.setCell ⟨r, i, none⟩ (.int .u64 va)).setCell ⟨v, i, none⟩ (.int .u64 va)) v n (xs.set i va) := (hw'.out.other hrv _).set hq.out.len i hi1 va
          have QB : RowAt (((wr.setCell ⟨r, i, none⟩ (.int .u64 va)).setCell ⟨v, i, none⟩ (.int .u64 va)).alloc (.cells #[.bool true, .int .i64 (i : Int), .int .u64 va] 45)) h r n (xs.set i va) := R2.below h0 (balloc _ _)
          have LD0 := load_yes h r n i (xs.set i va) _ QB (by omega) hi0 hi1
          have hg : (xs.set i va).getD i 0 = va := by simp [List.getD_eq_getElem?_getD, List.getElem?_set, hq.out.len, hi1]
          rw [hg] at LD0
          have s2 := W2.c i hi1
          rw [hg] at s2
          have hyy : (va != va) = false := by simp
          have LD := Lib.hid LD0
          have RR := Lib.hid R2
          have WW := Lib.hid W2
          clear QA QB LD0 R2 W2 hg
          go_wp2_with (first | (go_at_call 8; (with_reducible refine ST.out.mono ?_); rintro e w' ⟨rfl, rfl⟩))
          go_wp2_with (first | (go_at_call 9; (with_reducible refine LD.out.mono ?_); rintro e w' ⟨rfl, rfl⟩))
          go_roundw
          case rel => exact ⟨k + 1, xs.set i va, by omega, by go_num, RR.out.below h0 (balloc _ _), WW.out.below h0 (balloc _ _), (((ht.out.set _ _).set2 _ _).alloc _)⟩
          case measure => simp [intOf]; omega
      · cases hS : S k
        · rw [hS] at cs
          have QA : RowAt (wr.alloc (.cells #[.bool false, .int .i64 at', .int .u64 va] 45)) h r n xs := hq.out.below h0 (balloc _ _)
          have LD := Lib.hid (load_no h r n at' (wr.alloc (.cells #[.bool false, .int .i64 at', .int .u64 va] 45)) QA.hs.choose_spec hin)
          clear QA
          by_cases h1 : 1 ≤ at'
          · have h2 : decide (at' < (n : Int)) = false := by simp; omega
            clear hin
            go_wp2_with (first | (go_at_call 9; (with_reducible refine LD.out.mono ?_); rintro e w' ⟨rfl, rfl⟩))
            go_roundw
            case rel => exact ⟨k + 1, xs, by omega, by go_num, hq.out.below h0 (balloc _ _), hw'.out.below h0 (balloc _ _), ht.out.alloc _⟩
            case measure => simp [intOf]; omega
          · have h2 : decide (1 ≤ at') = false := by simpa using h1
            clear hin h1
            go_wp2_with (first | (go_at_call 9; (with_reducible refine LD.out.mono ?_); rintro e w' ⟨rfl, rfl⟩))
            go_roundw
            case rel => exact ⟨k + 1, xs, by omega, by go_num, hq.out.below h0 (balloc _ _), hw'.out.below h0 (balloc _ _), ht.out.alloc _⟩
            case measure => simp [intOf]; omega
        · rw [hS] at cs
          have QA : RowAt (wr.alloc (.cells #[.bool true, .int .i64 at', .int .u64 va] 45)) h r n xs := hq.out.below h0 (balloc _ _)
          have LD := Lib.hid (load_no h r n at' (wr.alloc (.cells #[.bool true, .int .i64 at', .int .u64 va] 45)) QA.hs.choose_spec hin)
          have ST := Lib.hid (store_no h r n at' va (wr.alloc (.cells #[.bool true, .int .i64 at', .int .u64 va] 45)) QA.hs.choose_spec hin)
          clear QA
          by_cases h1 : 1 ≤ at'
          · have h2 : decide (at' < (n : Int)) = false := by simp; omega
            clear hin
            go_wp2_with (first | (go_at_call 8; (with_reducible refine ST.out.mono ?_); rintro e w' ⟨rfl, rfl⟩))
            go_wp2_with (first | (go_at_call 9; (with_reducible refine LD.out.mono ?_); rintro e w' ⟨rfl, rfl⟩))
            go_roundw
            case rel => exact ⟨k + 1, xs, by omega, by go_num, hq.out.below h0 (balloc _ _), hw'.out.below h0 (balloc _ _), ht.out.alloc _⟩
            case measure => simp [intOf]; omega
          · have h2 : decide (1 ≤ at') = false := by simpa using h1
            clear hin h1
            go_wp2_with (first | (go_at_call 8; (with_reducible refine ST.out.mono ?_); rintro e w' ⟨rfl, rfl⟩))
            go_wp2_with (first | (go_at_call 9; (with_reducible refine LD.out.mono ?_); rintro e w' ⟨rfl, rfl⟩))
            go_roundw
            case rel => exact ⟨k + 1, xs, by omega, by go_num, hq.out.below h0 (balloc _ _), hw'.out.below h0 (balloc _ _), ht.out.alloc _⟩
            case measure => simp [intOf]; omega
    · by_cases hl : k < len
      · have h100 : decide ((k : Int) < 100) = false := by simp; omega
        have hki : (k : Int) < (len : Int) := by omega
        clear hlt
        have AL := Lib.hid (all_row h r n xs wr hq.out h0 (by omega))
        have hnn : (((n : Nat) : Int) != (n : Int)) = false := by simp
        go_wp2_with (first | (go_at_call 11; (with_reducible refine AL.out.mono ?_); rintro e w2 ⟨g, cap2, rfl, hown, hb⟩; have q2 := hq.out.below h0 hb; have r2 := hw'.out.below h0 hb; have t2 := Lib.hid (ht.out.below' hb); obtain ⟨c2, hs2⟩ := q2.hs; have Q2 := Lib.hid q2; have R2 := Lib.hid r2; have O2 := Lib.hid hown; clear q2 r2 hown hb))
        go_wp2_with (first | (go_at_call 10; (with_reducible refine (len_any h r n _ hs2).mono ?_); rintro e w' ⟨rfl, rfl⟩))
        go_loopw [14] (fun u wr2 => ∃ j m : Nat, j ≤ n ∧ u = .int .i64 j ∧ wr2 = w2.drewN m) (fun u _ => n - (intOf u).toNat)
        case atStart => exact ⟨0, 0, by omega, rfl, rfl⟩
        case round =>
          obtain ⟨j, m, hj, rfl, hwr2⟩ := hrel
          subst hwr2
          by_cases hjn : j < n
          · obtain ⟨W, hW⟩ : ∃ W, W = w2.drewN m := ⟨_, rfl⟩
            have c2 : W.cell? ⟨v, j, none⟩ = some (.int .u64 (xs.getD j 0)) := by rw [hW]; exact R2.out.c j hjn
            have c1 : W.cell? ⟨g, j, none⟩ = some (.int .u64 (xs.getD j 0)) := by
              rw [hW]
              have e : (⟨g, 0, none⟩ : Addr).add j = ⟨g, j, none⟩ := by unfold Addr.add; split <;> simp_all
              have := O2.out.cells (g := g) rfl j (.int .u64 (xs.getD j 0)) (by rw [List.getElem?_map, List.getD_eq_getElem?_getD, List.getElem?_eq_getElem (by have := Q2.out.len; omega)]; rfl)
              rw [e] at this
              exact this
            rw [← hW]
            have HWW := Lib.hid hW
            clear hW
            generalize xs.getD j 0 = y at *
            have hyy : (y != y) = false := by simp
            have hj1 : (j : Int) < (n : Int) := by omega
            have hj0 : (0 : Int) ≤ (j : Int) := by omega
            go_wp2
            go_quiet (fail)
            go_wp2
            go_roundw
            case rel => exact ⟨j + 1, m + nq, by omega, by go_num, by rw [HWW.out, World.drewN_drewN]⟩
            case measure => simp [intOf]; omega
          · have hjd : decide ((j : Int) < (n : Int)) = false := by simp; omega
            go_wp2
            go_ret
            have hB : Below w2.heap.size w2 (w2.drewN m) := below_drewN (Below.refl _ _) m
            exact ⟨rfl, xs, Q2.out.below h0 hB, R2.out.below h0 hB, t2.out.drewN m⟩
      · have hki : decide ((k : Int) < (len : Int)) = false := by simp; omega
        clear hlt
        have AL := Lib.hid (all_row h r n xs wr hq.out h0 (by omega))
        have hnn : (((n : Nat) : Int) != (n : Int)) = false := by simp
        go_wp2_with (first | (go_at_call 11; (with_reducible refine AL.out.mono ?_); rintro e w2 ⟨g, cap2, rfl, hown, hb⟩; have q2 := hq.out.below h0 hb; have r2 := hw'.out.below h0 hb; have t2 := Lib.hid (ht.out.below' hb); obtain ⟨c2, hs2⟩ := q2.hs; have Q2 := Lib.hid q2; have R2 := Lib.hid r2; have O2 := Lib.hid hown; clear q2 r2 hown hb))
        go_wp2_with (first | (go_at_call 10; (with_reducible refine (len_any h r n _ hs2).mono ?_); rintro e w' ⟨rfl, rfl⟩))
        go_loopw [14] (fun u wr2 => ∃ j m : Nat, j ≤ n ∧ u = .int .i64 j ∧ wr2 = w2.drewN m) (fun u _ => n - (intOf u).toNat)
        case atStart => exact ⟨0, 0, by omega, rfl, rfl⟩
        case round =>
          obtain ⟨j, m, hj, rfl, hwr2⟩ := hrel
          subst hwr2
          by_cases hjn : j < n
          · obtain ⟨W, hW⟩ : ∃ W, W = w2.drewN m := ⟨_, rfl⟩
            have c2 : W.cell? ⟨v, j, none⟩ = some (.int .u64 (xs.getD j 0)) := by rw [hW]; exact R2.out.c j hjn
            have c1 : W.cell? ⟨g, j, none⟩ = some (.int .u64 (xs.getD j 0)) := by
              rw [hW]
              have e : (⟨g, 0, none⟩ : Addr).add j = ⟨g, j, none⟩ := by unfold Addr.add; split <;> simp_all
              have := O2.out.cells (g := g) rfl j (.int .u64 (xs.getD j 0)) (by rw [List.getElem?_map, List.getD_eq_getElem?_getD, List.getElem?_eq_getElem (by have := Q2.out.len; omega)]; rfl)
              rw [e] at this
              exact this
            rw [← hW]
            have HWW := Lib.hid hW
            clear hW
            generalize xs.getD j 0 = y at *
            have hyy : (y != y) = false := by simp
            have hj1 : (j : Int) < (n : Int) := by omega
            have hj0 : (0 : Int) ≤ (j : Int) := by omega
            go_wp2
            go_quiet (fail)
            go_wp2
            go_roundw
            case rel => exact ⟨j + 1, m + nq, by omega, by go_num, by rw [HWW.out, World.drewN_drewN]⟩
            case measure => simp [intOf]; omega
          · have hjd : decide ((j : Int) < (n : Int)) = false := by simp; omega
            go_wp2
            go_ret
            have hB : Below w2.heap.size w2 (w2.drewN m) := below_drewN (Below.refl _ _) m
            exact ⟨rfl, xs, Q2.out.below h0 hB, R2.out.below h0 hB, t2.out.drewN m⟩
end Go.Proofs.Ytcjgfoojbiagnaa
