/- The law's own loop over asks: the clock and the reference's memory go together. -/

import Derived.Test.YtbggbmcijhnijaaMemC
import Derived.Test.YtbggbmcijhnijaaRises
namespace Go.Proofs.Ytbggbmcijhnijaa
open Go.ChangeShapes Go.WideShapes Go.ChangeAt Go.RowKit
open Go.ChangeMaps (open_string shut_string)
set_option linter.unusedVariables false
/-- A clock stands at block c, at n. -/
structure ClkC (w : World) (c : Nat) (n : Int) : Prop where
  lt : c < w.heap.size
  c0 : w.cell? ⟨c, 0, none⟩ = some (.int .u64 n)
  f0 : w.frozen? ⟨c, 0, none⟩ = false
/-- Of what was there only the blocks c and m may have turned. -/
structure Two (c m : Nat) (w w' : World) : Prop where
  os : w'.os = w.os
  tape : w'.tape = w.tape
  output : w'.output = w.output
  size : w.heap.size ≤ w'.heap.size
  block : ∀ k, k < w.heap.size → k ≠ c → k ≠ m → w'.heap[k]? = w.heap[k]?
theorem Two.refl (c m : Nat) (w : World) : Two c m w w := ⟨rfl, rfl, rfl, Nat.le_refl _, fun _ _ _ _ => rfl⟩
theorem Two.alloc {c m : Nat} {a w : World} (h : Two c m a w) (o : Obj) : Two c m a (w.alloc o) :=
  ⟨h.os, h.tape, h.output, by have := h.size; simp; omega, fun k hk h1 h2 => (Below.heap_alloc w o k (by have := h.size; omega)).trans (h.block k hk h1 h2)⟩
theorem Two.drewN {c m : Nat} {a w : World} (h : Two c m a w) (n : Nat) : Two c m a (w.drewN n) := ⟨h.os, h.tape, h.output, h.size, h.block⟩
theorem Two.drew {c m : Nat} {a w : World} (h : Two c m a w) : Two c m a w.drew := ⟨h.os, h.tape, h.output, h.size, h.block⟩
theorem Two.set {c m : Nat} {a w : World} (h : Two c m a w) (o : Nat) (v : Value) : Two c m a (w.setCell ⟨c, o, none⟩ v) :=
  ⟨h.os, h.tape, h.output, by have := h.size; simp; omega, fun k hk h1 h2 => (Below.heap_setCell w _ v k (fun e => h1 e)).trans (h.block k hk h1 h2)⟩
theorem Two.grown {c m : Nat} {a w w' : World} (h : Two c m a w) (g : w.grownBy w' (some m)) : Two c m a w' :=
  ⟨g.os.trans h.os, g.tape.trans h.tape, g.output.trans h.output, Nat.le_trans h.size g.size, fun k hk h1 h2 => (g.block k (by have := h.size; omega) (by simpa using h2)).trans (h.block k hk h1 h2)⟩
theorem Two.cell {c m : Nat} {a w : World} (h : Two c m a w) {b o : Nat} (hb : b < a.heap.size) (h1 : b ≠ c) (h2 : b ≠ m) : w.cell? ⟨b, o, none⟩ = a.cell? ⟨b, o, none⟩ := World.cell?_of_block (h.block b hb h1 h2)
theorem Two.below {c m B : Nat} {a w : World} (h : Two c m a w) (hc : B ≤ c) (hm : B ≤ m) (hB : B ≤ a.heap.size) : Below B a w :=
  ⟨h.os, h.tape, h.output, h.size, fun k hk => h.block k (by omega) (by omega) (by omega)⟩
def LoopPost (c m : Nat) (w : World) (e : Ending) (w' : World) : Prop := e = .returned (.bool true) ∧ ∃ n, 0 ≤ n ∧ n < 4611686018427387904 ∧ ClkC w' c n ∧ MemC w' m n ∧ Two c m w w'
set_option maxRecDepth 100000 in
set_option maxHeartbeats 4000000 in
theorem asked_row (c m : Nat) (n0 : Int) (b off len cap : Nat) (T : Nat → Bool) (O N M : Nat → Int) (w : World) (hn0 : 0 ≤ n0) (hn1 : n0 < 4611686018427387904) (hm : len ≤ 9223372036854775807)
    (hC : ClkC w c n0) (hM : MemC w m n0) (ha : Asks w b off len T O N M) (hcm : c ≠ m) (hbc : b ≠ c) (hbm : b ≠ m) :
    Calls Try.prog 13 #[ptr c, ptr m, .slice (some ⟨b, off, none⟩) len cap] w (LoopPost c m w) := by
  have HNE : Hid (c ≠ m ∧ b ≠ c ∧ b ≠ m) := ⟨hcm, hbc, hbm⟩
  have HC := Lib.hid hC
  have HM := Lib.hid hM
  clear hcm hbc hbm hC hM
  go_enter Try.func13, Try.ntmps13
  go_wp2
  go_loopw [7] (fun u7 wr => ∃ (k : Nat) (cur : Int), k ≤ len ∧ 0 ≤ cur ∧ cur < 4611686018427387904 ∧ u7 = .int .i64 k ∧ Hid (ClkC wr c cur) ∧ Hid (MemC wr m cur) ∧ Hid (Two c m w wr)) (fun i _ => (60 - intOf i).toNat)
  case atStart => exact ⟨0, n0, by omega, hn0, hn1, rfl, HC.out, HM.out, Two.refl _ _ _⟩
  case round =>
    obtain ⟨k, cur, hk, hu0, hu1, rfl, hc', hm', ht'⟩ := hrel
    by_cases hlt : k < len
    · by_cases h60 : k < 60
      · obtain ⟨hcm, hbc, hbm⟩ := HNE.out
        have two := ht'.out
        have ct : wr.cell? ⟨b, off + k * 4, none⟩ = some (.bool (T k)) := (two.cell ha.lt hbc hbm).trans (ha.ct k hlt)
        have co : wr.cell? ⟨b, off + k * 4 + 1, none⟩ = some (.int .u64 (O k)) := (two.cell ha.lt hbc hbm).trans (ha.co k hlt)
        have cn : wr.cell? ⟨b, off + k * 4 + 2, none⟩ = some (.int .u64 (N k)) := (two.cell ha.lt hbc hbm).trans (ha.cn k hlt)
        have cm : wr.cell? ⟨b, off + k * 4 + 3, none⟩ = some (.int .u8 (M k)) := (two.cell ha.lt hbc hbm).trans (ha.cm k hlt)
        obtain ⟨q0, q1, q2⟩ := hc'.out
        obtain ⟨m0, m7, ⟨cc, m9⟩, g7, g9⟩ := hm'.out
        have hw1 : ¬ wr.heap.size = c := by omega
        have hw2 : ¬ c = wr.heap.size := by omega
        have hw3 : ¬ wr.heap.size = m := by omega
        have hw4 : ¬ m = wr.heap.size := by omega
        have hl1 : c < wr.heap.size + 1 := by omega
        have hl2 : m < wr.heap.size + 1 := by omega
        have bo := ha.bo k hlt
        have bn := ha.bn k hlt
        have bm := ha.bm k hlt
        generalize O k = ol at *
        generalize N k = nw at *
        generalize M k = mo at *
        have hki : (k : Int) < (len : Int) := by omega
        have hki6 : (k : Int) < 60 := by omega
        have hkn : (0 : Int) ≤ (k : Int) := by omega
        cases hT : T k
        · rw [hT] at ct
          clear two
          cases hD : casD cur ol nw
          · skip
            have HD := Lib.hid hD
            clear hD
            go_wp2
            go_quiet (fail)
            go_wp2_with (first | (go_at_call 9; (with_reducible refine (cas_no c cur ol (nw) _ (by simp [cas1, q1]) HD.out).mono ?_); rintro e w' ⟨rfl, rfl⟩))
            go_wp2_with fail
            refine (do_no m cur ol (nw) _ ⟨by simp; omega, by simp [cas1, q1, m7, m9], ⟨cc, by simp [cas1, q1, m7, m9]⟩, by simp [fas1, q1, m7, m9, g7], by simp [fas1, q1, m7, m9, g9]⟩ HD.out).mono ?_
            rintro e w3 ⟨rfl, hM3, hg3⟩
            have c3 : w3.cell? ⟨c, 0, none⟩ = some (.int .u64 (cur)) := hg3.cell (by simp [cas1, q1, m7, m9]) (by simp [hcm])
            have f3 : w3.frozen? ⟨c, 0, none⟩ = false := (World.frozen?_of_block (hg3.block c (by simp; omega) (by simp [hcm]))).trans (by simp [fas1, q1, m7, m9, q2])
            have z3 : c < w3.heap.size := by have := hg3.size; simp at this; omega
            have t3 : Two c m w w3 := Two.grown ((ht'.out.alloc _).drewN _) hg3
            obtain ⟨n0', n7, ⟨c9, n9⟩, k7, k9⟩ := hM3
            have T3 := Lib.hid t3
            clear t3 hg3
            have hnn : ((cur) != (cur)) = false := by simp
            have hee : (casE (ol) (nw) != casE (ol) (nw)) = false := by simp
            go_wp2
            go_quiet ((go_at_call 10; exact Calls.quiet_of_same ((load_any c (cur) _ (by simp [cas1, c3])).mono fun e w' h => ⟨h.1, h.2.symm⟩)))
            go_wp2
            go_roundw
            case rel => exact ⟨k + 1, cur, by omega, hu0, hu1, by go_num, ⟨by simp; omega, by simp [cas1, c3], by simp [fas1, c3, f3]⟩, ⟨by simp; omega, by simp [cas1, n7], ⟨c9, by simp [cas1, n9]⟩, by simp [fas1, n7, k7], by simp [fas1, n9, k9]⟩, (T3.out.alloc _).drewN _⟩
            case measure => simp [intOf]; omega
          · skip
            have HD := Lib.hid hD
            clear hD
            have s1 : (wr.setCell ⟨c, 0, none⟩ (.int .u64 (nw))).cell? ⟨c, 0, none⟩ = some (.int .u64 (nw)) := World.cell?_setCell_same _ _ _ q1
            have s7 : (wr.setCell ⟨c, 0, none⟩ (.int .u64 (nw))).cell? ⟨m, 7, none⟩ = some (.int .u64 cur) := (World.cell?_setCell_other _ _ _ _ (by simp [hcm])).trans m7
            have s9 : (wr.setCell ⟨c, 0, none⟩ (.int .u64 (nw))).cell? ⟨m, 9, none⟩ = some (.int .i64 cc) := (World.cell?_setCell_other _ _ _ _ (by simp [hcm])).trans m9
            have S := Lib.hid (And.intro s1 (And.intro s7 s9))
            clear s1 s7 s9
            go_wp2
            go_quiet (fail)
            go_wp2_with (first | (go_at_call 9; (with_reducible refine (cas_yes c cur ol (nw) _ (by simp [cas1, q1]) (by simp [fas1, q1, q2]) HD.out).mono ?_); rintro e w' ⟨rfl, rfl⟩))
            go_wp2_with fail
            refine (do_yes m cur ol (nw) _ ⟨by simp; omega, by simp [cas1, S.out.1, S.out.2.1, S.out.2.2], ⟨cc, by simp [cas1, S.out.1, S.out.2.1, S.out.2.2]⟩, by simp [fas1, S.out.1, S.out.2.1, S.out.2.2, g7], by simp [fas1, S.out.1, S.out.2.1, S.out.2.2, g9]⟩ HD.out).mono ?_
            rintro e w3 ⟨rfl, hM3, hg3⟩
            have c3 : w3.cell? ⟨c, 0, none⟩ = some (.int .u64 (nw)) := hg3.cell (by simp [cas1, S.out.1, S.out.2.1, S.out.2.2]) (by simp [hcm])
            have f3 : w3.frozen? ⟨c, 0, none⟩ = false := (World.frozen?_of_block (hg3.block c (by simp; omega) (by simp [hcm]))).trans (by simp [fas1, S.out.1, S.out.2.1, S.out.2.2, q2])
            have z3 : c < w3.heap.size := by have := hg3.size; simp at this; omega
            have t3 : Two c m w w3 := Two.grown (((ht'.out.set 0 _).alloc _).drewN _) hg3
            obtain ⟨n0', n7, ⟨c9, n9⟩, k7, k9⟩ := hM3
            have T3 := Lib.hid t3
            clear t3 hg3
            have hnn : ((nw) != (nw)) = false := by simp
            go_wp2
            go_quiet ((go_at_call 10; exact Calls.quiet_of_same ((load_any c (nw) _ (by simp [cas1, c3])).mono fun e w' h => ⟨h.1, h.2.symm⟩)))
            go_wp2
            go_roundw
            case rel => exact ⟨k + 1, nw, by omega, by have := HD.out; simp [casD] at this; omega, by have := HD.out; simp [casD] at this; omega, by go_num, ⟨by simp; omega, by simp [cas1, c3], by simp [fas1, c3, f3]⟩, ⟨by simp; omega, by simp [cas1, n7], ⟨c9, by simp [cas1, n9]⟩, by simp [fas1, n7, k7], by simp [fas1, n9, k9]⟩, (T3.out.alloc _).drewN _⟩
            case measure => simp [intOf]; omega
        · rw [hT] at ct
          clear two
          obtain ⟨r, hr⟩ : ∃ r : Int, mo % 5 = r := ⟨_, rfl⟩
          have r0 : 0 ≤ r := by omega
          have r5 : r < 5 := by omega
          cases hD : casD cur cur (cur + r)
          · skip
            have HD := Lib.hid hD
            clear hD
            go_wp2
            go_quiet (fail)
            go_wp2_with (first | (go_at_call 9; (with_reducible refine (cas_no c cur cur (cur + r) _ (by simp [cas1, q1]) HD.out).mono ?_); rintro e w' ⟨rfl, rfl⟩))
            go_wp2_with fail
            refine (do_no m cur cur (cur + r) _ ⟨by simp; omega, by simp [cas1, q1, m7, m9], ⟨cc, by simp [cas1, q1, m7, m9]⟩, by simp [fas1, q1, m7, m9, g7], by simp [fas1, q1, m7, m9, g9]⟩ HD.out).mono ?_
            rintro e w3 ⟨rfl, hM3, hg3⟩
            have c3 : w3.cell? ⟨c, 0, none⟩ = some (.int .u64 (cur)) := hg3.cell (by simp [cas1, q1, m7, m9]) (by simp [hcm])
            have f3 : w3.frozen? ⟨c, 0, none⟩ = false := (World.frozen?_of_block (hg3.block c (by simp; omega) (by simp [hcm]))).trans (by simp [fas1, q1, m7, m9, q2])
            have z3 : c < w3.heap.size := by have := hg3.size; simp at this; omega
            have t3 : Two c m w w3 := Two.grown ((ht'.out.alloc _).drewN _) hg3
            obtain ⟨n0', n7, ⟨c9, n9⟩, k7, k9⟩ := hM3
            have T3 := Lib.hid t3
            clear t3 hg3
            have hnn : ((cur) != (cur)) = false := by simp
            have hee : (casE (cur) (cur + r) != casE (cur) (cur + r)) = false := by simp
            go_wp2
            go_quiet ((go_at_call 10; exact Calls.quiet_of_same ((load_any c (cur) _ (by simp [cas1, c3])).mono fun e w' h => ⟨h.1, h.2.symm⟩)))
            go_wp2
            go_roundw
            case rel => exact ⟨k + 1, cur, by omega, hu0, hu1, by go_num, ⟨by simp; omega, by simp [cas1, c3], by simp [fas1, c3, f3]⟩, ⟨by simp; omega, by simp [cas1, n7], ⟨c9, by simp [cas1, n9]⟩, by simp [fas1, n7, k7], by simp [fas1, n9, k9]⟩, (T3.out.alloc _).drewN _⟩
            case measure => simp [intOf]; omega
          · skip
            have HD := Lib.hid hD
            clear hD
            have s1 : (wr.setCell ⟨c, 0, none⟩ (.int .u64 (cur + r))).cell? ⟨c, 0, none⟩ = some (.int .u64 (cur + r)) := World.cell?_setCell_same _ _ _ q1
            have s7 : (wr.setCell ⟨c, 0, none⟩ (.int .u64 (cur + r))).cell? ⟨m, 7, none⟩ = some (.int .u64 cur) := (World.cell?_setCell_other _ _ _ _ (by simp [hcm])).trans m7
            have s9 : (wr.setCell ⟨c, 0, none⟩ (.int .u64 (cur + r))).cell? ⟨m, 9, none⟩ = some (.int .i64 cc) := (World.cell?_setCell_other _ _ _ _ (by simp [hcm])).trans m9
            have S := Lib.hid (And.intro s1 (And.intro s7 s9))
            clear s1 s7 s9
            go_wp2
            go_quiet (fail)
            go_wp2_with (first | (go_at_call 9; (with_reducible refine (cas_yes c cur cur (cur + r) _ (by simp [cas1, q1]) (by simp [fas1, q1, q2]) HD.out).mono ?_); rintro e w' ⟨rfl, rfl⟩))
            go_wp2_with fail
            refine (do_yes m cur cur (cur + r) _ ⟨by simp; omega, by simp [cas1, S.out.1, S.out.2.1, S.out.2.2], ⟨cc, by simp [cas1, S.out.1, S.out.2.1, S.out.2.2]⟩, by simp [fas1, S.out.1, S.out.2.1, S.out.2.2, g7], by simp [fas1, S.out.1, S.out.2.1, S.out.2.2, g9]⟩ HD.out).mono ?_
            rintro e w3 ⟨rfl, hM3, hg3⟩
            have c3 : w3.cell? ⟨c, 0, none⟩ = some (.int .u64 (cur + r)) := hg3.cell (by simp [cas1, S.out.1, S.out.2.1, S.out.2.2]) (by simp [hcm])
            have f3 : w3.frozen? ⟨c, 0, none⟩ = false := (World.frozen?_of_block (hg3.block c (by simp; omega) (by simp [hcm]))).trans (by simp [fas1, S.out.1, S.out.2.1, S.out.2.2, q2])
            have z3 : c < w3.heap.size := by have := hg3.size; simp at this; omega
            have t3 : Two c m w w3 := Two.grown (((ht'.out.set 0 _).alloc _).drewN _) hg3
            obtain ⟨n0', n7, ⟨c9, n9⟩, k7, k9⟩ := hM3
            have T3 := Lib.hid t3
            clear t3 hg3
            have hnn : ((cur + r) != (cur + r)) = false := by simp
            go_wp2
            go_quiet ((go_at_call 10; exact Calls.quiet_of_same ((load_any c (cur + r) _ (by simp [cas1, c3])).mono fun e w' h => ⟨h.1, h.2.symm⟩)))
            go_wp2
            go_roundw
            case rel => exact ⟨k + 1, cur + r, by omega, by have := HD.out; simp [casD] at this; omega, by have := HD.out; simp [casD] at this; omega, by go_num, ⟨by simp; omega, by simp [cas1, c3], by simp [fas1, c3, f3]⟩, ⟨by simp; omega, by simp [cas1, n7], ⟨c9, by simp [cas1, n9]⟩, by simp [fas1, n7, k7], by simp [fas1, n9, k9]⟩, (T3.out.alloc _).drewN _⟩
            case measure => simp [intOf]; omega
      · have h6 : decide ((k : Int) < 60) = false := by simp; omega
        have hki : (k : Int) < (len : Int) := by omega
        go_wp2
        go_ret
        exact ⟨rfl, cur, hu0, hu1, hc'.out, hm'.out, ht'.out⟩
    · have hl : decide ((k : Int) < (len : Int)) = false := by simp; omega
      go_wp2
      go_ret
      exact ⟨rfl, cur, hu0, hu1, hc'.out, hm'.out, ht'.out⟩
end Go.Proofs.Ytbggbmcijhnijaa
