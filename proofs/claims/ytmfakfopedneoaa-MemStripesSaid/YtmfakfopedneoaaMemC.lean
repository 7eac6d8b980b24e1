/- The code's memory: its parts, a new one. -/

import Derived.Test.YtmfakfopedneoaaMemD
import Derived.Test.YtmfakfopedneoaaRunsC
import Derived.Lib.LazyBuf
import Derived.Laws.OwnMore
import Derived.Deep.RegionHeld3
namespace Go.Proofs.Ytmfakfopedneoaa
open Go.ChangeShapes Go.WideShapes Go.ChangeAt Go.RowKit
open Go.ChangeMaps (open_string shut_string)
set_option linter.unusedVariables false
/-- slices.Clone of a row that is not nil: a new row of the same values. -/

theorem info_clone : (Try.prog.info? 24).map (fun i => (i.zero, i.size, i.bytes)) = some (some (.int .u64 0), 1, 8) := by kernel_rfl
set_option maxHeartbeats 1000000 in
theorem clone_row (b off n cap : Nat) (xs : List Value) (w : World) (hl : xs.length = n) (h63 : n ≤ 1000000) (hc : ∀ j u, xs[j]? = some u → w.cell? ((⟨b, off, none⟩ : Addr).add j) = some u) (h1 : ∀ u ∈ xs, u.oneCell' = true) :
    Calls Try.prog 56 #[.slice (some ⟨b, off, none⟩) n cap] w fun e w' => ∃ v, e = .returned v ∧ w'.ownsRow w.heap.size 24 1 v n xs ∧ Below w.heap.size w w' := by
  obtain ⟨i, hi, hz0, hz1, hz2⟩ := info_parts info_clone
  have H1 := Lib.hid h1
  have HC := Lib.hid hc
  have hown := World.ownsRow_lit (base := w.heap.size) (e := 24) (size := 1) w #[] 0 (Nat.le_refl _) (by decide) (by simp)
  have HO := Lib.hid hown
  have hnil : ∀ w : World, (binOp .eql 38 (.slice (some ⟨b, off, none⟩) n cap) (.slice none 0 0)).run Try.prog w = .ok (.bool false) w := fun w => Go.run_eql_slice_nil w 38 24 (some ⟨b, off, none⟩) n cap Try.underlying38
  clear h1 hc hown
  go_enter Try.func56, Try.ntmps56
  go_wp2_with (first | (at_builtin; refine wpList_append_own _ rfl _ _ 38 rfl w.heap.size 24 i (.int .u64 0) 1 8 Try.underlying38 hi hz0 hz1 hz2 rfl (by decide) (.slice (some ⟨w.heap.size, 0, none⟩) 0 0) 0 [] rfl HO.out ⟨b, off, none⟩ n cap xs rfl (by omega) (fun j u hj => by have := HC.out j u hj; rw [World.cell?_alloc_lt _ _ _ (World.block_lt_of_cell? w _ this)]; exact this) H1.out (by unfold maxLen; omega) (by omega) (by simp) ?_; intro v' w1 hown' hgrow _; have OW := Lib.hid hown'; have GW := Lib.hid hgrow; clear hown' hgrow))
  go_ret
  refine ⟨_, rfl, by simpa using OW.out, ?_⟩
  exact ((Below.refl _ _).alloc (Nat.le_refl _) _).grown GW.out (by simp) (by intro k hk; simp [Value.ownBlock] at hk; omega)
def AllPost (w : World) (n : Nat) (xs : List Int) (e : Ending) (w' : World) : Prop := ∃ g cap, e = .returned (.slice (some ⟨g, 0, none⟩) n cap) ∧ w'.ownsRow w.heap.size 24 1 (.slice (some ⟨g, 0, none⟩) n cap) n (xs.map (Value.int .u64)) ∧ Below w.heap.size w w'

theorem hp_has (h r n : Nat) (i : Int) {c : Nat} (w : World) (hs : w.cell? ⟨h, 0, none⟩ = some (.slice (some ⟨r, 0, none⟩) n c)) : Calls Try.prog 61 #[ptr h, .int .i64 i] w fun e w' => e = .returned (.bool (inV 1 n i)) ∧ w = w' := by
  by_cases h0 : 1 ≤ i
  · by_cases h1 : i < (n : Int)
    · go_enter Try.func61, Try.ntmps61
      go_wp2
      go_ret
      exact ⟨by simp [inV, h0, h1], rfl⟩
    · have h2 : decide (i < (n : Int)) = false := by simpa using h1
      clear h1
      go_enter Try.func61, Try.ntmps61
      go_wp2
      go_ret
      exact ⟨by simp [inV, h0, h2], rfl⟩
  · have h2 : decide (1 ≤ i) = false := by simpa using h0
    clear h0
    go_enter Try.func61, Try.ntmps61
    go_wp2
    go_ret
    exact ⟨by simp [inV, h2], rfl⟩
theorem hp_load (h r n : Nat) (i : Int) (xs : List Int) (w : World) (q : VecAt w h r n xs) (hn : n ≤ 1000000) : Calls Try.prog 47 #[ptr h, .int .i64 i] w fun e w' => e = .returned (.tuple #[.int .u64 (ldW 1 n xs i), .int .i64 (ldE 1 n i)]) ∧ w = w' := by
  obtain ⟨c, hs⟩ := q.hs
  have R := Lib.hid (hp_has h r n i w hs)
  cases hv : inV 1 n i
  · have e1 : ldW 1 n xs i = 0 := by simp [ldW, hv]
    have e2 : ldE 1 n i = 2 := by simp [ldE, hv]
    rw [e1, e2]
    rw [hv] at R
    clear e1 e2 hv q
    go_enter Try.func47, Try.ntmps47
    go_wp2_with (first | (go_at_call 61; (with_reducible refine R.out.mono ?_); rintro e w' ⟨rfl, rfl⟩))
    go_ret2
    exact ⟨rfl, rfl⟩
  · obtain ⟨j, rfl, hj, _⟩ := inV_nat hv (by decide)
    have e1 : ldW 1 n xs j = xs.getD j 0 := by simp [ldW, hv]
    have e2 : ldE 1 n j = 0 := by simp [ldE, hv]
    rw [e1, e2]
    rw [hv] at R
    have hc := q.row.c j hj
    have b0 : (0 : Int) ≤ (j : Int) := by omega
    have b1 : (j : Int) < (n : Int) := by omega
    generalize xs.getD j 0 = x at *
    clear e1 e2 hv q hj
    go_enter Try.func47, Try.ntmps47
    go_wp2_with (first | (go_at_call 61; (with_reducible refine R.out.mono ?_); rintro e w' ⟨rfl, rfl⟩))
    go_ret2
    exact ⟨rfl, rfl⟩
theorem hp_store (h r n : Nat) (i v : Int) (xs : List Int) (w : World) (q : VecAt w h r n xs) (hn : n ≤ 1000000) : Calls Try.prog 48 #[ptr h, .int .i64 i, .int .u64 v] w (VecPost w h r n (stW 1 n xs i v) (.int .i64 (ldE 1 n i))) := by
  obtain ⟨c, hs⟩ := q.hs
  have R := Lib.hid (hp_has h r n i w hs)
  cases hv : inV 1 n i
  · have e1 : stW 1 n xs i v = xs := by simp [stW, hv]
    have e2 : ldE 1 n i = 2 := by simp [ldE, hv]
    rw [e1, e2]
    rw [hv] at R
    have Q := Lib.hid q
    clear e1 e2 hv q
    go_enter Try.func48, Try.ntmps48
    go_wp2_with (first | (go_at_call 61; (with_reducible refine R.out.mono ?_); rintro e w' ⟨rfl, rfl⟩))
    go_ret
    exact ⟨rfl, Q.out, Only.refl _ _⟩
  · obtain ⟨j, rfl, hj, _⟩ := inV_nat hv (by decide)
    have e1 : stW 1 n xs j v = xs.set j v := by simp [stW, hv]
    have e2 : ldE 1 n j = 0 := by simp [ldE, hv]
    rw [e1, e2]
    rw [hv] at R
    have hc := q.row.c j hj
    have hf := q.row.f j hj
    have b0 : (0 : Int) ≤ (j : Int) := by omega
    have b1 : (j : Int) < (n : Int) := by omega
    have Q := Lib.hid (q.put j hj v)
    clear e1 e2 hv q hj
    go_enter Try.func48, Try.ntmps48
    go_wp2_with (first | (go_at_call 61; (with_reducible refine R.out.mono ?_); rintro e w' ⟨rfl, rfl⟩))
    go_ret
    exact ⟨rfl, Q.out, (Only.refl _ _).set _ _ (by simp) _⟩
theorem hp_all (h r n : Nat) (xs : List Int) (w : World) (q : VecAt w h r n xs) (h0 : 0 < n) (hn : n ≤ 1000000) :
    Calls Try.prog 31 #[ptr h] w (AllPost w n xs) := by
  obtain ⟨c, hs⟩ := q.hs
  have R := Lib.hid (clone_row r 0 n c (xs.map (Value.int .u64)) w (by simpa using q.row.len) hn q.row.news (map_oneCell xs _))
  clear q
  go_enter Try.func31, Try.ntmps31
  go_wp2_with (first | (go_at_call 56; (with_reducible refine R.out.mono ?_); rintro e w' ⟨v, rfl, hown, hb⟩; have HO := Lib.hid hown; have HB := Lib.hid hb; clear hown hb))
  go_ret
  rcases HO.out.2 with ⟨_, rfl⟩ | ⟨g, cap, cur, rfl, _⟩
  · omega
  · exact ⟨g, cap, rfl, HO.out, HB.out⟩
theorem hp_copy (h r n : Nat) (xs : List Int) (w : World) (q : VecAt w h r n xs) (h0 : 0 < n) (hn : n ≤ 1000000) :
    Calls Try.prog 34 #[ptr h] w fun e w' => ∃ h' r', e = .returned (ptr h') ∧ w.heap.size ≤ h' ∧ w.heap.size ≤ r' ∧ VecAt w' h' r' n xs ∧ Below w.heap.size w w' := by
  have R := Lib.hid (hp_all h r n xs w q h0 hn)
  have HL := Lib.hid q.row.len
  clear q
  go_enter Try.func34, Try.ntmps34
  go_wp2_with (first | (go_at_call 31; (with_reducible refine R.out.mono ?_); rintro e w1 ⟨g, cap, rfl, hown, hb⟩; have HO := Lib.hid hown; have HB := Lib.hid hb; clear hown hb))
  go_ret
  have hg := HO.out.lt g rfl
  exact ⟨_, g, rfl, HB.out.size, hg.1, ⟨⟨cap, by simp⟩, (URow.own (HO.out.alloc _) HL.out), by omega, by simp⟩, HB.out.alloc HB.out.size _⟩
theorem sl_has (h r n : Nat) (i : Int) {c : Nat} (w : World) (hs : w.cell? ⟨h, 0, none⟩ = some (.slice (some ⟨r, 0, none⟩) n c)) : Calls Try.prog 64 #[ptr h, .int .i64 i] w fun e w' => e = .returned (.bool (inV 0 n i)) ∧ w = w' := by
  by_cases h0 : 0 ≤ i
  · by_cases h1 : i < (n : Int)
    · go_enter Try.func64, Try.ntmps64
      go_wp2
      go_ret
      exact ⟨by simp [inV, h0, h1], rfl⟩
    · have h2 : decide (i < (n : Int)) = false := by simpa using h1
      clear h1
      go_enter Try.func64, Try.ntmps64
      go_wp2
      go_ret
      exact ⟨by simp [inV, h0, h2], rfl⟩
  · have h2 : decide (0 ≤ i) = false := by simpa using h0
    clear h0
    go_enter Try.func64, Try.ntmps64
    go_wp2
    go_ret
    exact ⟨by simp [inV, h2], rfl⟩
theorem sl_load (h r n : Nat) (i : Int) (xs : List Int) (w : World) (q : VecAt w h r n xs) (hn : n ≤ 1000000) : Calls Try.prog 53 #[ptr h, .int .i64 i] w fun e w' => e = .returned (.tuple #[.int .u64 (ldW 0 n xs i), .int .i64 (ldE 0 n i)]) ∧ w = w' := by
  obtain ⟨c, hs⟩ := q.hs
  have R := Lib.hid (sl_has h r n i w hs)
  cases hv : inV 0 n i
  · have e1 : ldW 0 n xs i = 0 := by simp [ldW, hv]
    have e2 : ldE 0 n i = 2 := by simp [ldE, hv]
    rw [e1, e2]
    rw [hv] at R
    clear e1 e2 hv q
    go_enter Try.func53, Try.ntmps53
    go_wp2_with (first | (go_at_call 64; (with_reducible refine R.out.mono ?_); rintro e w' ⟨rfl, rfl⟩))
    go_ret2
    exact ⟨rfl, rfl⟩
  · obtain ⟨j, rfl, hj, _⟩ := inV_nat hv (by decide)
    have e1 : ldW 0 n xs j = xs.getD j 0 := by simp [ldW, hv]
    have e2 : ldE 0 n j = 0 := by simp [ldE, hv]
    rw [e1, e2]
    rw [hv] at R
    have hc := q.row.c j hj
    have b0 : (0 : Int) ≤ (j : Int) := by omega
    have b1 : (j : Int) < (n : Int) := by omega
    generalize xs.getD j 0 = x at *
    clear e1 e2 hv q hj
    go_enter Try.func53, Try.ntmps53
    go_wp2_with (first | (go_at_call 64; (with_reducible refine R.out.mono ?_); rintro e w' ⟨rfl, rfl⟩))
    go_ret2
    exact ⟨rfl, rfl⟩
theorem sl_store (h r n : Nat) (i v : Int) (xs : List Int) (w : World) (q : VecAt w h r n xs) (hn : n ≤ 1000000) : Calls Try.prog 54 #[ptr h, .int .i64 i, .int .u64 v] w (VecPost w h r n (stW 0 n xs i v) (.int .i64 (ldE 0 n i))) := by
  obtain ⟨c, hs⟩ := q.hs
  have R := Lib.hid (sl_has h r n i w hs)
  cases hv : inV 0 n i
  · have e1 : stW 0 n xs i v = xs := by simp [stW, hv]
    have e2 : ldE 0 n i = 2 := by simp [ldE, hv]
    rw [e1, e2]
    rw [hv] at R
    have Q := Lib.hid q
    clear e1 e2 hv q
    go_enter Try.func54, Try.ntmps54
    go_wp2_with (first | (go_at_call 64; (with_reducible refine R.out.mono ?_); rintro e w' ⟨rfl, rfl⟩))
    go_ret
    exact ⟨rfl, Q.out, Only.refl _ _⟩
  · obtain ⟨j, rfl, hj, _⟩ := inV_nat hv (by decide)
    have e1 : stW 0 n xs j v = xs.set j v := by simp [stW, hv]
    have e2 : ldE 0 n j = 0 := by simp [ldE, hv]
    rw [e1, e2]
    rw [hv] at R
    have hc := q.row.c j hj
    have hf := q.row.f j hj
    have b0 : (0 : Int) ≤ (j : Int) := by omega
    have b1 : (j : Int) < (n : Int) := by omega
    have Q := Lib.hid (q.put j hj v)
    clear e1 e2 hv q hj
    go_enter Try.func54, Try.ntmps54
    go_wp2_with (first | (go_at_call 64; (with_reducible refine R.out.mono ?_); rintro e w' ⟨rfl, rfl⟩))
    go_ret
    exact ⟨rfl, Q.out, (Only.refl _ _).set _ _ (by simp) _⟩
theorem sl_all (h r n : Nat) (xs : List Int) (w : World) (q : VecAt w h r n xs) (h0 : 0 < n) (hn : n ≤ 1000000) :
    Calls Try.prog 33 #[ptr h] w (AllPost w n xs) := by
  obtain ⟨c, hs⟩ := q.hs
  have R := Lib.hid (clone_row r 0 n c (xs.map (Value.int .u64)) w (by simpa using q.row.len) hn q.row.news (map_oneCell xs _))
  clear q
  go_enter Try.func33, Try.ntmps33
  go_wp2_with (first | (go_at_call 56; (with_reducible refine R.out.mono ?_); rintro e w' ⟨v, rfl, hown, hb⟩; have HO := Lib.hid hown; have HB := Lib.hid hb; clear hown hb))
  go_ret
  rcases HO.out.2 with ⟨_, rfl⟩ | ⟨g, cap, cur, rfl, _⟩
  · omega
  · exact ⟨g, cap, rfl, HO.out, HB.out⟩
theorem sl_copy (h r n : Nat) (xs : List Int) (w : World) (q : VecAt w h r n xs) (h0 : 0 < n) (hn : n ≤ 1000000) :
    Calls Try.prog 37 #[ptr h] w fun e w' => ∃ h' r', e = .returned (ptr h') ∧ w.heap.size ≤ h' ∧ w.heap.size ≤ r' ∧ VecAt w' h' r' n xs ∧ Below w.heap.size w w' := by
  have R := Lib.hid (sl_all h r n xs w q h0 hn)
  have HL := Lib.hid q.row.len
  clear q
  go_enter Try.func37, Try.ntmps37
  go_wp2_with (first | (go_at_call 33; (with_reducible refine R.out.mono ?_); rintro e w1 ⟨g, cap, rfl, hown, hb⟩; have HO := Lib.hid hown; have HB := Lib.hid hb; clear hown hb))
  go_ret
  have hg := HO.out.lt g rfl
  exact ⟨_, g, rfl, HB.out.size, hg.1, ⟨⟨cap, by simp⟩, (URow.own (HO.out.alloc _) HL.out), by omega, by simp⟩, HB.out.alloc HB.out.size _⟩
theorem mk_row (m : Int) (h0 : 0 ≤ m) (h1 : m ≤ 1000) (w : World) : (Instr.makeSlice 38 (.int .i64 m) (.int .i64 m)).run Try.prog w = .ok (.slice (some ⟨w.heap.size, 0, none⟩) m.toNat m.toNat) (w.alloc (.cells (madeCells #[.int .u64 0] m.toNat) 24)) := by
  obtain ⟨i, hi, hz0, hz1, hz2⟩ := info_parts info_clone
  have := run_make (P := Try.prog) w 38 24 i (.int .u64 0) Try.underlying38 hi hz0 .i64 .i64 m m h0 (Int.le_refl _) (by rw [hz2]; omega) (by omega)
  rw [hz1, show (Value.int .u64 0).cells = #[.int .u64 0] from rfl] at this
  simpa using this
theorem urow_made (w : World) (N : Nat) (o : TypeId) : URow (w.alloc (.cells (madeCells #[.int .u64 0] N) o)) w.heap.size N (List.replicate N 0) := by
  refine ⟨by simp, fun i hi => ?_, fun i hi => ?_⟩
  · rw [World.cell?_alloc_new]
    simp [madeCells, hi, List.getD_eq_getElem?_getD, List.getElem?_replicate, Nat.mod_one]
  · rw [World.frozen?_alloc_new]

def hv (n : Int) : Int := if n < 32 then 32 else if 256 < n then 256 else n
theorem hv_bd (n : Int) : 32 ≤ hv n ∧ hv n ≤ 256 := by unfold hv; split; omega; split <;> omega
def hp_newW (w : World) (n : Int) : World := (w.alloc (.cells (madeCells #[.int .u64 0] (hv n).toNat) 24)).alloc (.cells #[.slice (some ⟨w.heap.size, 0, none⟩) (hv n).toNat (hv n).toNat] 77)
theorem hp_new (n : Int) (w : World) : Calls Try.prog 24 #[.int .i64 n] w fun e w' => e = .returned (ptr (w.heap.size + 1)) ∧ w' = hp_newW w n := by
  have MK := Lib.hid mk_row
  by_cases h1 : n < 32
  · have e : hv n = 32 := by simp [hv, h1]
    have hmk := fun w => MK.out 32 (by decide) (by decide) w
    have E := Lib.hid e
    have hm : ¬ (32 : Int) < n := by omega
    have hm2 : n ≤ 32 := by omega
    clear e
    go_enter Try.func24, Try.ntmps24
    go_wp2
    go_ret
    exact ⟨rfl, by rw [hp_newW, E.out]; rfl⟩
  · by_cases h2 : 256 < n
    · have e : hv n = 256 := by simp [hv, h1, h2]
      have hmk := fun w => MK.out 256 (by decide) (by decide) w
      have E := Lib.hid e
      have hm : (32 : Int) < n := by omega
      clear e
      go_enter Try.func24, Try.ntmps24
      go_wp2
      go_ret
      exact ⟨rfl, by rw [hp_newW, E.out]; rfl⟩
    · have e : hv n = n := by simp [hv, h1, h2]
      have hmk := fun w => MK.out n (by omega) (by omega) w
      have E := Lib.hid e
      clear e
      by_cases h3 : n = 32
      · subst h3
        go_enter Try.func24, Try.ntmps24
        go_wp2
        go_ret
        exact ⟨rfl, by rw [hp_newW, E.out]; rfl⟩
      · have hm : (32 : Int) < n := by omega
        have hm3 : ¬ n < 32 := by omega
        clear h3
        go_enter Try.func24, Try.ntmps24
        go_wp2
        go_ret
        exact ⟨rfl, by rw [hp_newW, E.out]⟩
theorem hp_below_new (w : World) (n : Int) : Below w.heap.size w (hp_newW w n) := ((Below.refl _ _).alloc (Nat.le_refl _) _).alloc (by simp) _
theorem hp_vec_new (w : World) (n : Int) : VecAt (hp_newW w n) (w.heap.size + 1) w.heap.size (hv n).toNat (List.replicate (hv n).toNat 0) :=
  ⟨⟨(hv n).toNat, by simp [hp_newW, World.cell?_alloc_at]⟩, (urow_made w _ _).below ((Below.refl _ _).alloc (Nat.le_refl _) _), by omega, by simp [hp_newW]⟩
def c4 (n : Int) : Int := if n < 1 then 1 else if 4 < n then 4 else n
theorem c4_bd (n : Int) : 1 ≤ c4 n ∧ c4 n ≤ 4 := by unfold c4; split; omega; split <;> omega
def sl_newW (w : World) (n : Int) : World := (w.alloc (.cells (madeCells #[.int .u64 0] (c4 n).toNat) 24)).alloc (.cells #[.slice (some ⟨w.heap.size, 0, none⟩) (c4 n).toNat (c4 n).toNat] 83)
theorem sl_new (n : Int) (w : World) : Calls Try.prog 27 #[.int .i64 n] w fun e w' => e = .returned (ptr (w.heap.size + 1)) ∧ w' = sl_newW w n := by
  have MK := Lib.hid mk_row
  by_cases h1 : n < 1
  · have e : c4 n = 1 := by simp [c4, h1]
    have hmk := fun w => MK.out 1 (by decide) (by decide) w
    have E := Lib.hid e
    have hm : ¬ (1 : Int) < n := by omega
    have hm2 : n ≤ 1 := by omega
    clear e
    go_enter Try.func27, Try.ntmps27
    go_wp2
    go_ret
    exact ⟨rfl, by rw [sl_newW, E.out]; rfl⟩
  · by_cases h2 : 4 < n
    · have e : c4 n = 4 := by simp [c4, h1, h2]
      have hmk := fun w => MK.out 4 (by decide) (by decide) w
      have E := Lib.hid e
      have hm : (1 : Int) < n := by omega
      clear e
      go_enter Try.func27, Try.ntmps27
      go_wp2
      go_ret
      exact ⟨rfl, by rw [sl_newW, E.out]; rfl⟩
    · have e : c4 n = n := by simp [c4, h1, h2]
      have hmk := fun w => MK.out n (by omega) (by omega) w
      have E := Lib.hid e
      clear e
      by_cases h3 : n = 1
      · subst h3
        go_enter Try.func27, Try.ntmps27
        go_wp2
        go_ret
        exact ⟨rfl, by rw [sl_newW, E.out]; rfl⟩
      · have hm : (1 : Int) < n := by omega
        have hm3 : ¬ n < 1 := by omega
        clear h3
        go_enter Try.func27, Try.ntmps27
        go_wp2
        go_ret
        exact ⟨rfl, by rw [sl_newW, E.out]⟩
theorem sl_below_new (w : World) (n : Int) : Below w.heap.size w (sl_newW w n) := ((Below.refl _ _).alloc (Nat.le_refl _) _).alloc (by simp) _
theorem sl_vec_new (w : World) (n : Int) : VecAt (sl_newW w n) (w.heap.size + 1) w.heap.size (c4 n).toNat (List.replicate (c4 n).toNat 0) :=
  ⟨⟨(c4 n).toNat, by simp [sl_newW, World.cell?_alloc_at]⟩, (urow_made w _ _).below ((Below.refl _ _).alloc (Nat.le_refl _) _), by omega, by simp [sl_newW]⟩
def capC (s : Int) : Int := if s < 4611686018427387904 then s else 4611686018427387903
theorem ck_new (s : Int) (w : World) : Calls Try.prog 26 #[.int .u64 s] w fun e w' => e = .returned (ptr w.heap.size) ∧ w' = w.alloc (.cells #[.int .u64 (capC s)] 81) := by
  by_cases h : s < 4611686018427387904
  · have e : capC s = s := by simp [capC, h]
    have hm : (4611686018427387903 : Int) < s ↔ False := by simp; omega
    rw [e]
    clear e
    go_enter Try.func26, Try.ntmps26
    go_wp2
    go_ret
    exact ⟨rfl, rfl⟩
  · have e : capC s = 4611686018427387903 := by simp [capC, h]
    have hm : (4611686018427387903 : Int) < s := by omega
    rw [e]
    clear e
    go_enter Try.func26, Try.ntmps26
    go_wp2
    go_ret
    exact ⟨rfl, rfl⟩
theorem ck_load (b : Nat) (n : Int) (w : World) (hc : w.cell? ⟨b, 0, none⟩ = some (.int .u64 n)) : Calls Try.prog 29 #[ptr b] w fun e w' => e = .returned (.int .u64 n) ∧ w = w' := by
  go_enter Try.func29, Try.ntmps29
  go_wp2
  go_ret
  exact ⟨rfl, rfl⟩
theorem ck_copy (b : Nat) (n : Int) (w : World) (hc : w.cell? ⟨b, 0, none⟩ = some (.int .u64 n)) : Calls Try.prog 36 #[ptr b] w fun e w' => e = .returned (ptr w.heap.size) ∧ w' = w.alloc (.cells #[.int .u64 n] 81) := by
  go_enter Try.func36, Try.ntmps36
  go_wp2
  go_ret
  exact ⟨rfl, rfl⟩
def ckD (cur old now : Int) : Bool := decide (old < now) && (decide (now < 4611686018427387904) && (cur == old))
def ckE (old now : Int) : Int := if now ≤ old then 1 else if now < 4611686018427387904 then 0 else 7
theorem ck_yes (b : Nat) (n old now : Int) (w : World) (hc : w.cell? ⟨b, 0, none⟩ = some (.int .u64 n)) (hf : w.frozen? ⟨b, 0, none⟩ = false) (hD : ckD n old now = true) :
    Calls Try.prog 52 #[ptr b, .int .u64 old, .int .u64 now] w fun e w' => e = .returned (.tuple #[.bool true, .int .i64 0]) ∧ w' = w.setCell ⟨b, 0, none⟩ (.int .u64 now) := by
  simp only [ckD, Bool.and_eq_true, decide_eq_true_eq, beq_iff_eq] at hD
  obtain ⟨h1, h2, rfl⟩ := hD
  go_enter Try.func52, Try.ntmps52
  go_wp2
  go_ret2
  exact ⟨rfl, rfl⟩
theorem ck_no (b : Nat) (n old now : Int) (w : World) (hc : w.cell? ⟨b, 0, none⟩ = some (.int .u64 n)) (hD : ckD n old now = false) :
    Calls Try.prog 52 #[ptr b, .int .u64 old, .int .u64 now] w fun e w' => e = .returned (.tuple #[.bool false, .int .i64 (ckE old now)]) ∧ w = w' := by
  by_cases h1 : now ≤ old
  · have e : ckE old now = 1 := by simp [ckE, h1]
    rw [e]
    clear e hD
    go_enter Try.func52, Try.ntmps52
    go_wp2
    go_ret2
    exact ⟨rfl, rfl⟩
  · by_cases h2 : now < 4611686018427387904
    · have e : ckE old now = 0 := by simp [ckE, h1, h2]
      have h3 : (n == old) = false := by
        cases hh : n == old
        · rfl
        · simp [ckD, hh, h2] at hD; omega
      rw [e]
      clear e hD
      go_enter Try.func52, Try.ntmps52
      go_wp2
      go_ret2
      exact ⟨rfl, rfl⟩
    · have e : ckE old now = 7 := by simp [ckE, h1, h2]
      rw [e]
      clear e hD
      go_enter Try.func52, Try.ntmps52
      go_wp2
      go_ret2
      exact ⟨rfl, rfl⟩

def mx (y x : Int) : Int := if x < y then y else x
def mn (y x : Int) : Int := if y < x then y else x
abbrev shpV (a b c d s : Int) : Value := .agg #[.int .i64 a, .int .i64 b, .int .i64 c, .int .i64 d, .int .u64 s]
abbrev shpC (a b c d s : Int) : Array Value := #[.int .i64 a, .int .i64 b, .int .i64 c, .int .i64 d, .int .u64 s]
theorem mn_hv (n : Int) : mn 256 (mx 32 n) = hv n := by unfold mn mx hv; split <;> (try split) <;> (try split) <;> omega
theorem mn_c16 (n : Int) : mn 16 (mx 1 n) = c16 n := by unfold mn mx c16; split <;> (try split) <;> (try split) <;> omega
theorem mn_c4 (n : Int) : mn 4 (mx 1 n) = c4 n := by unfold mn mx c4; split <;> (try split) <;> (try split) <;> omega
theorem mn_cap (n : Int) : mn 4611686018427387903 n = capC n := by unfold mn capC; split <;> (try split) <;> omega
theorem hv_hv (n : Int) : hv (hv n) = hv n := by have := hv_bd n; generalize hv n = m at *; unfold hv; split; omega; split <;> omega
theorem c4_c4 (n : Int) : c4 (c4 n) = c4 n := by have := c4_bd n; generalize c4 n = m at *; unfold c4; split; omega; split <;> omega
theorem cap_cap (n : Int) : capC (capC n) = capC n := by unfold capC; split <;> (try split) <;> omega
theorem mheld_any (a b c d s : Int) (w : World) : Calls Try.prog 18 #[shpV a b c d s] w fun e w' => e = .returned (shpV (hv a) (c16 b) (c16 c) (c4 d) (capC s)) ∧ w' = (w.alloc (.cells (shpC a b c d s) 26)).alloc (.cells (shpC (hv a) (c16 b) (c16 c) (c4 d) (capC s)) 26) := by
  rw [← mn_hv, ← mn_c16, ← mn_c16, ← mn_c4, ← mn_cap]
  obtain ⟨a1, ha1⟩ : ∃ x, (if a < 32 then 32 else a) = x := ⟨_, rfl⟩
  obtain ⟨b1, hb1⟩ : ∃ x, (if b < 1 then 1 else b) = x := ⟨_, rfl⟩
  obtain ⟨c1, hc1⟩ : ∃ x, (if c < 1 then 1 else c) = x := ⟨_, rfl⟩
  obtain ⟨d1, hd1⟩ : ∃ x, (if d < 1 then 1 else d) = x := ⟨_, rfl⟩
  have ea : mn 256 (mx 32 a) = if 256 < a1 then 256 else a1 := by rw [mn, mx, ha1]
  have eb : mn 16 (mx 1 b) = if 16 < b1 then 16 else b1 := by rw [mn, mx, hb1]
  have ec : mn 16 (mx 1 c) = if 16 < c1 then 16 else c1 := by rw [mn, mx, hc1]
  have ed : mn 4 (mx 1 d) = if 4 < d1 then 4 else d1 := by rw [mn, mx, hd1]
  rw [ea, eb, ec, ed]
  clear ea eb ec ed
  obtain ⟨a2, ha2⟩ : ∃ x, (if 256 < a1 then 256 else a1) = x := ⟨_, rfl⟩
  obtain ⟨b2, hb2⟩ : ∃ x, (if 16 < b1 then 16 else b1) = x := ⟨_, rfl⟩
  obtain ⟨c2, hc2⟩ : ∃ x, (if 16 < c1 then 16 else c1) = x := ⟨_, rfl⟩
  obtain ⟨d2, hd2⟩ : ∃ x, (if 4 < d1 then 4 else d1) = x := ⟨_, rfl⟩
  rw [ha2, hb2, hc2, hd2, mn]
  obtain ⟨s2, hs2⟩ : ∃ x, (if 4611686018427387903 < s then 4611686018427387903 else s) = x := ⟨_, rfl⟩
  rw [hs2]
  go_enter Try.func18, Try.ntmps18
  go_wp2
  exact bodyPost_ret (v := shpV a2 b2 c2 d2 s2) (by simp [results, Try.results18, go_sem]) rfl ⟨rfl, rfl⟩
/-- Where the code's memory stands. -/
structure Cb where
  mm : Nat
  h : Nat
  r : Nat
  t : Nat
  lk : Nat
  c : Nat
  e : Nat
  es : Nat
  nW : Nat
  nL : Nat
  nS : Nat
abbrev Cb.all (b : Cb) : List Nat := [b.mm, b.h, b.r, b.t, b.lk, b.c, b.e, b.es]
structure CodeAt (w : World) (b : Cb) (M : Ms) : Prop where
  c0 : w.cell? ⟨b.mm, 0, none⟩ = some (.int .i64 M.a)
  c1 : w.cell? ⟨b.mm, 1, none⟩ = some (.int .i64 M.b)
  c2 : w.cell? ⟨b.mm, 2, none⟩ = some (.int .i64 M.c)
  c3 : w.cell? ⟨b.mm, 3, none⟩ = some (.int .i64 M.d)
  c4 : w.cell? ⟨b.mm, 4, none⟩ = some (.int .u64 M.s)
  c5 : w.cell? ⟨b.mm, 5, none⟩ = some (ptr b.h)
  c6 : w.cell? ⟨b.mm, 6, none⟩ = some (ptr b.t)
  c7 : w.cell? ⟨b.mm, 7, none⟩ = some (ptr b.c)
  c8 : w.cell? ⟨b.mm, 8, none⟩ = some (ptr b.e)
  c9 : w.cell? ⟨b.mm, 9, none⟩ = some (.int .i64 M.C)
  fm : ∀ o, o < 10 → w.frozen? ⟨b.mm, o, none⟩ = false
  vW : VecAt w b.h b.r b.nW M.W
  vL : TabAt w b.t b.lk b.nL M.c M.L
  vN : w.cell? ⟨b.c, 0, none⟩ = some (.int .u64 M.N)
  fN : w.frozen? ⟨b.c, 0, none⟩ = false
  vS : VecAt w b.e b.es b.nS M.S
  h0 : 0 < b.nW ∧ 0 < b.nL ∧ 0 < b.nS ∧ b.nW ≤ 1000 ∧ b.nL ≤ 1000 ∧ b.nS ≤ 1000
  nd : b.all.Nodup
  lt : b.mm < w.heap.size
/-- A new memory, of a shape that is held. -/
def Ms.new (a b c d s : Int) : Ms := ⟨hv a, c16 b, c16 c, c4 d, capC s, List.replicate (hv a).toNat 0, List.replicate (c16 b).toNat .zero, capC s, List.replicate (c4 d).toNat 0, 0⟩
def NewPost (w : World) (a b c d s : Int) (e : Ending) (w' : World) : Prop := ∃ B : Cb, e = .returned (ptr B.mm) ∧ (∀ x ∈ B.all, w.heap.size ≤ x) ∧ B.nL = (c16 b).toNat ∧ B.nW = (hv a).toNat ∧ B.nS = (c4 d).toNat ∧ CodeAt w' B (Ms.new a b c d s) ∧ Below w.heap.size w w'
theorem nK {Q : Nat} {a b c d s : Int} {Y W : World} (h : (Y.cell? ⟨Q, 0, none⟩ = some (.int .i64 a) ∧ Y.cell? ⟨Q, 1, none⟩ = some (.int .i64 b) ∧ Y.cell? ⟨Q, 2, none⟩ = some (.int .i64 c) ∧ Y.cell? ⟨Q, 3, none⟩ = some (.int .i64 d) ∧ Y.cell? ⟨Q, 4, none⟩ = some (.int .u64 s))) (hb : Below Y.heap.size Y W) :
    W.cell? ⟨Q, 0, none⟩ = some (.int .i64 a) ∧ W.cell? ⟨Q, 1, none⟩ = some (.int .i64 b) ∧ W.cell? ⟨Q, 2, none⟩ = some (.int .i64 c) ∧ W.cell? ⟨Q, 3, none⟩ = some (.int .i64 d) ∧ W.cell? ⟨Q, 4, none⟩ = some (.int .u64 s) ∧ Hid (Below Y.heap.size Y W) := by
  obtain ⟨h0, h1, h2, h3, h4⟩ := h
  have k : ∀ o, Q < Y.heap.size → W.cell? ⟨Q, o, none⟩ = Y.cell? ⟨Q, o, none⟩ := fun o hq => hb.cell (p := ⟨Q, o, none⟩) hq
  have hq := World.block_lt_of_cell? Y _ h0
  exact ⟨(k _ hq).trans h0, (k _ hq).trans h1, (k _ hq).trans h2, (k _ hq).trans h3, (k _ hq).trans h4, hb⟩
theorem nB {Q : Nat} {a b c d s : Int} {Y W : World} (h : W.cell? ⟨Q, 0, none⟩ = some (.int .i64 a) ∧ W.cell? ⟨Q, 1, none⟩ = some (.int .i64 b) ∧ W.cell? ⟨Q, 2, none⟩ = some (.int .i64 c) ∧ W.cell? ⟨Q, 3, none⟩ = some (.int .i64 d) ∧ W.cell? ⟨Q, 4, none⟩ = some (.int .u64 s) ∧ Hid (Below Y.heap.size Y W)) : Below Y.heap.size Y W := h.2.2.2.2.2.out
set_option maxRecDepth 100000 in
set_option maxHeartbeats 4000000 in
theorem mnew_any (a b c d s : Int) (w : World) : Calls Try.prog 8 #[shpV a b c d s] w (NewPost w a b c d s) := by
  have HP : Hid (∀ w : World, Calls Try.prog 24 #[.int .i64 (hv a)] w fun e w' => e = .returned (ptr (w.heap.size + 1)) ∧ VecAt w' (w.heap.size + 1) w.heap.size (hv a).toNat (List.replicate (hv a).toNat 0) ∧ Below w.heap.size w w' ∧ w.heap.size + 2 ≤ w'.heap.size) := fun w => (hp_new (hv a) w).mono fun e w' ⟨h1, h2⟩ => ⟨h1, by have := hp_vec_new w (hv a); rw [hv_hv] at this; rw [h2]; exact this, by rw [h2]; exact hp_below_new w _, by rw [h2]; simp [hp_newW]⟩
  have TP : Hid (∀ w : World, Calls Try.prog 25 #[.int .i64 (c16 b), .int .i64 (c16 c)] w fun e w' => e = .returned (ptr (w.heap.size + 1)) ∧ TabAt w' (w.heap.size + 1) w.heap.size (c16 b).toNat (c16 c) (List.replicate (c16 b).toNat .zero) ∧ Below w.heap.size w w' ∧ w.heap.size + 2 ≤ w'.heap.size) := fun w => (new_any (c16 b) (c16 c) w).mono fun e w' ⟨h1, h2⟩ => ⟨h1, by have := tab_newT w (c16 b) (c16 c); rw [c16_c16, c16_c16] at this; rw [h2]; exact this, by rw [h2]; exact below_newT w _ _, by rw [h2, size_newT]; exact Nat.le_refl _⟩
  have CP : Hid (∀ w : World, Calls Try.prog 26 #[.int .u64 (capC s)] w fun e w' => e = .returned (ptr w.heap.size) ∧ (w'.cell? ⟨w.heap.size, 0, none⟩ = some (.int .u64 (capC s)) ∧ w'.frozen? ⟨w.heap.size, 0, none⟩ = false) ∧ Below w.heap.size w w' ∧ w.heap.size + 1 ≤ w'.heap.size) := fun w => (ck_new (capC s) w).mono fun e w' ⟨h1, h2⟩ => ⟨h1, by rw [h2, cap_cap]; simp, by rw [h2]; exact (Below.refl _ _).alloc (Nat.le_refl _) _, by rw [h2]; simp⟩
  have EP : Hid (∀ w : World, Calls Try.prog 27 #[.int .i64 (c4 d)] w fun e w' => e = .returned (ptr (w.heap.size + 1)) ∧ VecAt w' (w.heap.size + 1) w.heap.size (c4 d).toNat (List.replicate (c4 d).toNat 0) ∧ Below w.heap.size w w' ∧ w.heap.size + 2 ≤ w'.heap.size) := fun w => (sl_new (c4 d) w).mono fun e w' ⟨h1, h2⟩ => ⟨h1, by have := sl_vec_new w (c4 d); rw [c4_c4] at this; rw [h2]; exact this, by rw [h2]; exact sl_below_new w _, by rw [h2]; simp [sl_newW]⟩
  have BD : Hid ((32 ≤ hv a ∧ hv a ≤ 256) ∧ (1 ≤ c16 b ∧ c16 b ≤ 16) ∧ (1 ≤ c4 d ∧ c4 d ≤ 4)) := ⟨hv_bd a, c16_bd b, c4_bd d⟩
  have HM := Lib.hid (mheld_any a b c d s)
  unfold NewPost Ms.new
  generalize hv a = A at *
  generalize c16 b = B at *
  generalize c16 c = C at *
  generalize c4 d = D at *
  generalize capC s = S at *
  go_enter Try.func8, Try.ntmps8
  go_wp2_with (first | (go_at_call 18; (with_reducible refine (HM.out _).mono ?_); rintro e w1 ⟨rfl, rfl⟩))
  obtain ⟨Y, hY⟩ : ∃ Y, Y = ((w.alloc (.cells #[.int .i64 A, .int .i64 B, .int .i64 C, .int .i64 D, .int .u64 S] 26)).alloc (.cells (shpC a b c d s) 26)).alloc (.cells (shpC A B C D S) 26) := ⟨_, rfl⟩
  rw [← hY]
  have BY : Hid (Below w.heap.size w Y) := by rw [hY]; show Below _ _ _; exact (((Below.refl _ _).alloc (Nat.le_refl _) _).alloc (by simp) _).alloc (by simp; omega) _
  have ZY : Hid (w.heap.size + 3 ≤ Y.heap.size) := by rw [hY]; show _ ≤ _; simp
  have HS : Hid (Y.cell? ⟨w.heap.size, 0, none⟩ = some (.int .i64 A) ∧ Y.cell? ⟨w.heap.size, 1, none⟩ = some (.int .i64 B) ∧ Y.cell? ⟨w.heap.size, 2, none⟩ = some (.int .i64 C) ∧ Y.cell? ⟨w.heap.size, 3, none⟩ = some (.int .i64 D) ∧ Y.cell? ⟨w.heap.size, 4, none⟩ = some (.int .u64 S)) := by rw [hY]; show _ ∧ _; simp [cas2]
  clear hY HM
  go_region_held3 (fun w' => w'.cell? ⟨w.heap.size, 0, none⟩ = some (.int .i64 A) ∧ w'.cell? ⟨w.heap.size, 1, none⟩ = some (.int .i64 B) ∧ w'.cell? ⟨w.heap.size, 2, none⟩ = some (.int .i64 C) ∧ w'.cell? ⟨w.heap.size, 3, none⟩ = some (.int .i64 D) ∧ w'.cell? ⟨w.heap.size, 4, none⟩ = some (.int .u64 S) ∧ Hid (Below Y.heap.size Y w')) (first | assumption | exact nK HS.out (Below.drew (Below.refl _ _)) | exact nK HS.out ((nB (by assumption)).trans (Below.mono (by assumption) (nB (by assumption)).size)) | exact nK HS.out (Below.alloc (nB (by assumption)) (nB (by assumption)).size _)) (first | (go_at_call 24; refine (HP.out _).mono ?_; rintro e wH ⟨rfl, hvH, hbH, hsH⟩) | (go_at_call 25; refine (TP.out _).mono ?_; rintro e wT ⟨rfl, hvT, hbT, hsT⟩) | (go_at_call 26; refine (CP.out _).mono ?_; rintro e wC ⟨rfl, hvC, hbC, hsC⟩) | (go_at_call 27; refine (EP.out _).mono ?_; rintro e wE ⟨rfl, hvE, hbE, hsE⟩))
  all_goals go_wp2
  all_goals go_ret
  have zY := ZY.out
  have zH : Y.heap.size + 2 ≤ wH.heap.size := hsH
  have hbH' : Below Y.heap.size Y wH := ⟨hbH.os, hbH.tape, hbH.output, hbH.size, hbH.block⟩
  have bE : Below wE.heap.size wE (wE.alloc (.cells #[.int .i64 A, .int .i64 B, .int .i64 C, .int .i64 D, .int .u64 S, ptr (Y.heap.size + 1), ptr (wH.heap.size + 1), ptr wT.heap.size, ptr (wC.heap.size + 1), .int .i64 0] 68)) := (Below.refl _ _).alloc (Nat.le_refl _) _
  have kC := hbE.trans (bE.mono hbE.size)
  have kT := hbC.trans (kC.mono hbC.size)
  have kH := hbT.trans (kT.mono hbT.size)
  have kY := hbH'.trans (kH.mono hbH'.size)
  obtain ⟨b1, b2, b3⟩ := BD.out
  refine ⟨⟨wE.heap.size, Y.heap.size + 1, Y.heap.size, wH.heap.size + 1, wH.heap.size, wT.heap.size, wC.heap.size + 1, wC.heap.size, A.toNat, B.toNat, D.toNat⟩, rfl, ?_, rfl, rfl, rfl, ?_, BY.out.trans (kY.mono BY.out.size)⟩
  · simp; omega
  · refine ⟨by simp, by simp, by simp, by simp, by simp, by simp, by simp, by simp, by simp, by simp, fun o _ => by simp, ?_, ?_, ?_, ?_, ?_, ?_, ?_, by simp⟩
    · exact hvH.below kH
    · exact hvT.below (by show 0 < B.toNat; omega) kT
    · exact (kC.cell (by show wT.heap.size < wC.heap.size; omega)).trans hvC.1
    · exact (kC.frozen (by show wT.heap.size < wC.heap.size; omega)).trans hvC.2
    · exact hvE.below bE
    · show 0 < A.toNat ∧ 0 < B.toNat ∧ 0 < D.toNat ∧ A.toNat ≤ 1000 ∧ B.toNat ≤ 1000 ∧ D.toNat ≤ 1000
      omega
    · simp [Cb.all]; omega
end Go.Proofs.Ytmfakfopedneoaa
