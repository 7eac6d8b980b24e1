/- flat asks: what they come to -/
import Derived.Test.YtfigockmbphnfaaCW7
import Derived.Test.YtfigockmbphnfaaLc
import Derived.Test.YtfigockmbphnfaaChecked
import Derived.KernelRfl

namespace Go.Lev
open Go.RowKit
set_option linter.unusedVariables false
set_option linter.unusedSimpArgs false
set_option maxRecDepth 100000
noncomputable section
structure AskA where
  k : Int
  a : Int
  v : Int
  l : Value
abbrev askA (x : AskA) : List LV := [.int .i64 x.k, .int .i64 x.a, .int .u64 x.v, .val x.l]
theorem askA_len (x : AskA) : (askA x).length = 4 := rfl
def okA (ax : List LV) (n : Nat) : Bool := @decide (∃ xs : List AskA, ax = encL askA xs ∧ xs.length = n ∧ n ≤ 9223372036854775807) (Classical.propDecidable _)

theorem okA_iff {ax : List LV} {n : Nat} : okA ax n = true ↔ ∃ xs : List AskA, ax = encL askA xs ∧ xs.length = n ∧ n ≤ 9223372036854775807 := by
  simp only [okA, decide_eq_true_eq]
theorem okA_le {ax : List LV} {n : Nat} (h : okA ax n = true) : n ≤ 9223372036854775807 := by obtain ⟨_, _, _, h⟩ := okA_iff.1 h; exact h
theorem okA_len {ax : List LV} {n : Nat} (h : okA ax n = true) : ax.length = n * 4 := by
  obtain ⟨xs, rfl, rfl, _⟩ := okA_iff.1 h; exact encL_length askA_len xs
theorem okA_noids {ax : List LV} {n : Nat} (h : okA ax n = true) : noIds ax = true := by
  obtain ⟨xs, rfl, rfl, _⟩ := okA_iff.1 h; exact noIds_encL (fun _ => rfl) xs
theorem okA_0 {ax : List LV} {n i : Nat} (h : okA ax n = true) (hi : i < n) : ∃ z, nthD ax (i * 4) = .int .i64 z := by
  obtain ⟨xs, rfl, rfl, _⟩ := okA_iff.1 h; exact ⟨_, encL_nth askA_len (j := 0) hi (by omega)⟩
theorem okA_1 {ax : List LV} {n i : Nat} (h : okA ax n = true) (hi : i < n) : ∃ z, nthD ax (i * 4 + 1) = .int .i64 z := by
  obtain ⟨xs, rfl, rfl, _⟩ := okA_iff.1 h; exact ⟨_, encL_nth askA_len (j := 1) hi (by omega)⟩
theorem okA_2 {ax : List LV} {n i : Nat} (h : okA ax n = true) (hi : i < n) : ∃ z, nthD ax (i * 4 + 2) = .int .u64 z := by
  obtain ⟨xs, rfl, rfl, _⟩ := okA_iff.1 h; exact ⟨_, encL_nth askA_len (j := 2) hi (by omega)⟩
/-! the blocks that are noted -/
def decF : List LV → List Int
  | .int _ a :: r => a :: decF r
  | _ => []
theorem decF_enc : ∀ xs : List Int, decF (encL (cI .i64) xs) = xs
  | [] => rfl
  | x :: r => by simp [encL, cI, decF, decF_enc r]
def okFr (cs : List LV) (n : Nat) : Bool := @decide (cs = encL (cI .i64) (decF cs) ∧ (decF cs).length = n ∧ n ≤ 9223372036854775807) (Classical.propDecidable _)

theorem okFr_iff {cs : List LV} {n : Nat} : okFr cs n = true ↔ ∃ xs : List Int, cs = encL (cI .i64) xs ∧ xs.length = n ∧ n ≤ 9223372036854775807 := by
  simp only [okFr, decide_eq_true_eq]
  refine ⟨fun ⟨h1, h2, h3⟩ => ⟨_, h1, h2, h3⟩, fun ⟨xs, h1, h2, h3⟩ => ?_⟩
  subst h1
  rw [decF_enc]
  exact ⟨rfl, h2, h3⟩
theorem okFr_nil : okFr [] 0 = true := okFr_iff.2 ⟨[], rfl, rfl, by omega⟩
theorem okFr_len {cs : List LV} {n : Nat} (h : okFr cs n = true) : cs.length = n := by
  obtain ⟨xs, rfl, rfl, _⟩ := okFr_iff.1 h; rw [encL_length (cI_len .i64)]; omega
theorem okFr_noids {cs : List LV} {n : Nat} (h : okFr cs n = true) : noIds cs = true := by
  obtain ⟨xs, rfl, rfl, _⟩ := okFr_iff.1 h; exact noIds_encL (fun _ => rfl) _
theorem okFr_push {cs : List LV} {n : Nat} (z : Int) (h : okFr cs n = true) (hn : n < 1000000) : okFr (xcat (xcut cs 0 n) [.int .i64 z]) (n + 1) = true := by
  have hl := okFr_len h
  obtain ⟨xs, rfl, rfl, _⟩ := okFr_iff.1 h
  refine okFr_iff.2 ⟨xs ++ [z], ?_, by simp, by omega⟩
  have e : xcut (encL (cI .i64) xs) 0 xs.length = encL (cI .i64) xs := by
    rw [xcut, List.drop_zero, List.take_of_length_le (by omega)]
  rw [e, encL_append]; rfl
/-! the asks one by one -/
def flS (ax : List LV) : Nat → (Nat × List LV) × Nat × List LV
  | 0 => ((0, []), 0, [])
  | i + 1 =>
    if xar .and .i64 (asI (nthD ax (i * 4))) 3 = 3 then ((flS ax i).1, (flS ax i).2.1 + 1, xcat (xcut (flS ax i).2.2 0 (flS ax i).2.1) [.int .i64 (asI (nthD ax (i * 4 + 1)))])
    else ((tk1N 96 (flS ax i).1.1 (flS ax i).1.2 (wthV (asI (nthD ax (i * 4 + 1))) 1 20) (asI (nthD ax (i * 4 + 2))), tk1C 96 (flS ax i).1.1 (flS ax i).1.2 (wthV (asI (nthD ax (i * 4 + 1))) 1 20) (asI (nthD ax (i * 4 + 2)))), (flS ax i).2)
theorem putN_le1 (m : Int) (n : Nat) (cs : List LV) (a z : Int) : putN m n cs a z ≤ n + 1 := by
  unfold putN pRes; split
  · simp
  split
  · simp
  split <;> simp
theorem tk1N_le (m : Int) (n : Nat) (cs : List LV) (a z : Int) : tk1N m n cs a z ≤ n + 1 := by
  unfold tk1N; split
  · exact putN_le1 ..
  · omega
theorem fls_ok (ax : List LV) : ∀ i, i ≤ 12 → okC (flS ax i).1.2 (flS ax i).1.1 = true ∧ (flS ax i).1.1 ≤ i ∧ okFr (flS ax i).2.2 (flS ax i).2.1 = true ∧ (flS ax i).2.1 ≤ i
  | 0, _ => ⟨okC_nil, Nat.le_refl _, okFr_nil, Nat.le_refl _⟩
  | i + 1, hi => by
    obtain ⟨h1, h2, h3, h4⟩ := fls_ok ax i (by omega)
    rw [flS]; split
    · exact ⟨h1, by simp only; omega, okFr_push _ h3 (by omega), by simp only; omega⟩
    · refine ⟨okC_tk1 _ _ h1 (by omega), ?_, h3, by simp only; omega⟩
      have := tk1N_le 96 (flS ax i).1.1 (flS ax i).1.2 (wthV (asI (nthD ax (i * 4 + 1))) 1 20) (asI (nthD ax (i * 4 + 2)))
      simp only; omega
def flN (ax : List LV) (nx : Nat) : Nat := (flS ax (min nx 12)).1.1

def flC (ax : List LV) (nx : Nat) : List LV := (flS ax (min nx 12)).1.2

def flM (ax : List LV) (nx : Nat) : Nat := (flS ax (min nx 12)).2.1

def flR (ax : List LV) (nx : Nat) : List LV := (flS ax (min nx 12)).2.2

theorem fl_okC (ax : List LV) (nx : Nat) : okC (flC ax nx) (flN ax nx) = true := (fls_ok ax _ (Nat.min_le_right _ _)).1
theorem fl_le (ax : List LV) (nx : Nat) : flN ax nx ≤ 12 := Nat.le_trans (fls_ok ax _ (Nat.min_le_right _ _)).2.1 (Nat.min_le_right _ _)
theorem fl_okF (ax : List LV) (nx : Nat) : okFr (flR ax nx) (flM ax nx) = true := (fls_ok ax _ (Nat.min_le_right _ _)).2.2.1
theorem fl_leM (ax : List LV) (nx : Nat) : flM ax nx ≤ 12 := Nat.le_trans (fls_ok ax _ (Nat.min_le_right _ _)).2.2.2 (Nat.min_le_right _ _)
/-! what an answer is -/
theorem wth_le (a : Int) : 1 ≤ wthV a 1 20 ∧ wthV a 1 20 < 256 := by
  have := wthV_in (a := a) (lo := 1) (hi := 20) (by omega); omega
theorem putE_0 {n : Nat} {cs : List LV} {a : Int} (z : Int) (ha : 1 ≤ a ∧ a < 256) (hn : n < 96) : putE 96 n cs a z = 0 := by
  unfold putE pRes
  rw [if_neg (by omega)]
  split
  · rfl
  · rw [if_neg (by omega)]
theorem room1 {n : Nat} (h : n ≤ 96) : xmn (xmx (xar .sub .i64 96 ↑n) 0) 96 = 96 - (n : Int) := by
  rw [sub_i64 (x := 96) (y := n) (by omega) (by omega)]; simp only [xmn, xmx]; split <;> split <;> omega
theorem room2 {n m : Nat} (h : n + m ≤ 96) : xmn (xmx (xar .sub .i64 (xar .sub .i64 96 ↑n) ↑m) 0) 96 = 96 - (n : Int) - m := by
  rw [sub_i64 (x := 96) (y := n) (by omega) (by omega), sub_i64 (x := 96 - n) (y := m) (by omega) (by omega)]; simp only [xmn, xmx]; split <;> split <;> omega
theorem room3 {n m k : Nat} (h : n + m + k ≤ 96) : xmn (xmx (xar .sub .i64 (xar .sub .i64 (xar .sub .i64 96 ↑n) ↑m) ↑k) 0) 96 = 96 - (n : Int) - m - k := by
  rw [sub_i64 (x := 96) (y := n) (by omega) (by omega), sub_i64 (x := 96 - n) (y := m) (by omega) (by omega), sub_i64 (x := 96 - n - m) (y := k) (by omega) (by omega)]; simp only [xmn, xmx]; split <;> split <;> omega
end
end Go.Lev
