/- chapter 3: what is asked of locks, of both -/
import Derived.Test.YtmeehagbfcfceaaLc
import Derived.Test.YtmeehagbfcfceaaChecked
import Derived.KernelRfl

namespace Go.Lev
open Go.RowKit
set_option linter.unusedVariables false
set_option linter.unusedSimpArgs false
set_option maxRecDepth 100000
noncomputable section
/-! rows of integers -/
def decIu64 : List LV → List Int
  | .int _ a :: r => a :: decIu64 r
  | _ => []
theorem decIu64_enc : ∀ xs, decIu64 (encL (cI .u64) xs) = xs
  | [] => rfl
  | x :: r => by simp [encL, cI, decIu64, decIu64_enc r]
def okIu64 (cs : List LV) (n : Nat) : Bool := @decide (cs = encL (cI .u64) (decIu64 cs) ∧ (decIu64 cs).length = n ∧ n ≤ 9223372036854775807) (Classical.propDecidable _)

theorem okIu64_iff {cs : List LV} {n : Nat} : okIu64 cs n = true ↔ ∃ xs, cs = encL (cI .u64) xs ∧ xs.length = n ∧ n ≤ 9223372036854775807 := by
  simp only [okIu64, decide_eq_true_eq]
  exact ⟨fun h => ⟨_, h⟩, fun ⟨xs, h1, h2⟩ => by subst h1; rw [decIu64_enc]; exact ⟨rfl, h2⟩⟩
theorem okIu64_tab {n : Nat} (g : Nat → Int) (h : n ≤ 9223372036854775807) : okIu64 (tab (cI .u64) n g) n = true := okIu64_iff.2 ⟨_, rfl, by simp, h⟩
theorem okIu64_enc {xs : List Int} (h : xs.length ≤ 9223372036854775807) : okIu64 (encL (cI .u64) xs) xs.length = true := okIu64_iff.2 ⟨_, rfl, rfl, h⟩
theorem encIu64_len (xs : List Int) : (encL (cI .u64) xs).length = xs.length := by rw [encL_length (cI_len .u64)]; omega
theorem encIu64_push (xs : List Int) (y : Int) : xcat (xcut (encL (cI .u64) xs) 0 xs.length) [.int .u64 y] = encL (cI .u64) (xs ++ [y]) := by
  rw [xcut_all (by rw [encIu64_len]; omega), encL_append]; rfl
theorem encIu64_nth {xs : List Int} {i : Nat} (h : i < xs.length) : nthD (encL (cI .u64) xs) i = .int .u64 xs[i] := by
  have := encL_nth (cI_len .u64) (j := 0) h (by omega)
  simp only [Nat.mul_one, Nat.add_zero] at this
  exact this
theorem noIds_Iu64 (xs : List Int) : noIds (encL (cI .u64) xs) = true := noIds_encL (fun _ => rfl) xs
theorem xnoid_Iu64 (xs : List Int) : xnoid (encL (cI .u64) xs) = true := xnoid_encL (fun _ => rfl) xs

/-! rows of locks -/
abbrev Lk := Int × Bool × Int
abbrev cL : Lk → List LV := fun x => [.int .u64 x.1, .bool x.2.1, .int .i64 x.2.2]
theorem cL_len (x : Lk) : (cL x).length = 3 := rfl
theorem lk_0 {xs : List Lk} {i : Nat} (h : i < xs.length) : nthD (encL cL xs) (i * 3) = .int .u64 xs[i].1 := encL_nth cL_len (j := 0) h (by omega)
theorem lk_1 {xs : List Lk} {i : Nat} (h : i < xs.length) : nthD (encL cL xs) (i * 3 + 1) = .bool xs[i].2.1 := encL_nth cL_len (j := 1) h (by omega)
theorem lk_2 {xs : List Lk} {i : Nat} (h : i < xs.length) : nthD (encL cL xs) (i * 3 + 2) = .int .i64 xs[i].2.2 := encL_nth cL_len (j := 2) h (by omega)
theorem lk_2' {xs : List Lk} {i : Nat} (h : i < xs.length) : nthD (encL cL xs) (i * 3 + 1 + 1) = .int .i64 xs[i].2.2 := lk_2 h
theorem lk_n (xs : List Lk) : (encL cL xs).length = xs.length * 3 := encL_length cL_len xs
theorem lk_set {xs : List Lk} {i : Nat} (h : i < xs.length) (y : Lk) : xlay (encL cL xs) (i * 3) [.int .u64 y.1, .bool y.2.1, .int .i64 y.2.2] = encL cL (xs.set i y) := encL_set cL_len xs i y h
theorem noids_l (xs : List Lk) : noIds (encL cL xs) = true := noIds_encL (fun _ => rfl) xs
theorem xnoid_l (xs : List Lk) : xnoid (encL cL xs) = true := xnoid_encL (fun _ => rfl) xs
def decL : List LV → List Lk
  | .int _ a :: .bool b :: .int _ c :: r => (a, b, c) :: decL r
  | _ => []
theorem decL_enc : ∀ xs, decL (encL cL xs) = xs
  | [] => rfl
  | x :: r => by simp [encL, cL, decL, decL_enc r]
def okL (cs : List LV) (n : Nat) : Bool := @decide (cs = encL cL (decL cs) ∧ (decL cs).length = n ∧ n ≤ 1000000) (Classical.propDecidable _)

theorem okL_iff {cs : List LV} {n : Nat} : okL cs n = true ↔ ∃ xs, cs = encL cL xs ∧ xs.length = n ∧ n ≤ 1000000 := by
  simp only [okL, decide_eq_true_eq]
  exact ⟨fun h => ⟨_, h⟩, fun ⟨xs, h1, h2⟩ => by subst h1; rw [decL_enc]; exact ⟨rfl, h2⟩⟩
theorem okL_enc {xs : List Lk} (h : xs.length ≤ 1000000) : okL (encL cL xs) xs.length = true := okL_iff.2 ⟨_, rfl, rfl, h⟩
theorem encIu64_set {xs : List Int} {i : Nat} (h : i < xs.length) (y : Int) : xlay (encL (cI .u64) xs) i [.int .u64 y] = encL (cI .u64) (xs.set i y) := by
  have := encL_set (cI_len .u64) xs i y h
  rw [Nat.mul_one] at this
  exact this

/-! a memory, what an operation does to it -/
structure MS where
  W : List Int
  L : List Lk
  N : Int
  S : List Int
  C : Int
structure OpR where
  k : Int
  at' : Int
  old : Int
  w : Int
  was : Lk
  lk : Lk
abbrev Ans := Int × Lk × Bool × Int
def isLk (l : Lk) : Bool := decide (l.1 < 4611686018427387904) && (if l.2.1 then decide (0 ≤ l.2.2) && decide (l.2.2 < 4) else decide (l.2.2 = 0))
def MS.bump (m : MS) : MS := { m with C := xar .add .i64 m.C 1 }
abbrev erA (e : Int) : Ans := (0, (0, false, 0), false, e)
def ldW (m : MS) (a : Int) : MS × Ans := if 1 ≤ a ∧ a < m.W.length then (m.bump, (m.W.getD a.toNat 0, (0, false, 0), false, 0)) else (m, erA 2)
def stW (m : MS) (a w : Int) : MS × Ans := if 1 ≤ a ∧ a < m.W.length then ({ m.bump with W := m.W.set a.toNat w }, erA 0) else (m, erA 2)
def ldL (m : MS) (a : Int) : MS × Ans := if 0 ≤ a ∧ a < m.L.length then (m.bump, (0, m.L.getD a.toNat (0, false, 0), false, 0)) else (m, erA 2)
def csL (m : MS) (a : Int) (was l : Lk) : MS × Ans := if 0 ≤ a ∧ a < m.L.length then (if isLk l then (if m.L.getD a.toNat (0, false, 0) = was then ({ m.bump with L := m.L.set a.toNat l }, (0, (0, false, 0), true, 0)) else (m.bump, erA 0)) else (m, erA 1)) else (m, erA 2)
def stL (m : MS) (a : Int) (l : Lk) : MS × Ans := if 0 ≤ a ∧ a < m.L.length then (if isLk l then ({ m.bump with L := m.L.set a.toNat l }, erA 0) else (m, erA 1)) else (m, erA 2)
def ldN (m : MS) : MS × Ans := (m.bump, (m.N, (0, false, 0), false, 0))
def csN (m : MS) (old w : Int) : MS × Ans := if w ≤ old then (m, erA 1) else if 4611686018427387904 ≤ w then (m, erA 7) else if m.N = old then ({ m.bump with N := w }, (0, (0, false, 0), true, 0)) else (m.bump, erA 0)
def ldS (m : MS) (a : Int) : MS × Ans := if 0 ≤ a ∧ a < m.S.length then (m.bump, (m.S.getD a.toNat 0, (0, false, 0), false, 0)) else (m, erA 2)
def stS (m : MS) (a w : Int) : MS × Ans := if 0 ≤ a ∧ a < m.S.length then ({ m.bump with S := m.S.set a.toNat w }, erA 0) else (m, erA 2)
def stepM (m : MS) (o : OpR) : MS × Ans :=
  if o.k = 1 then ldW m o.at' else if o.k = 2 then stW m o.at' o.w else if o.k = 3 then ldL m o.at' else if o.k = 4 then csL m o.at' o.was o.lk else if o.k = 5 then stL m o.at' o.lk
  else if o.k = 6 then ldN m else if o.k = 7 then csN m o.old o.w else if o.k = 8 then ldS m o.at' else if o.k = 9 then stS m o.at' o.w else (m, erA 1)
abbrev opC (k a old w wv : Int) (wh : Bool) (wo lv : Int) (lh : Bool) (lo : Int) : List LV := [.int .i64 k, .int .i64 a, .int .u64 old, .int .u64 w, .int .u64 wv, .bool wh, .int .i64 wo, .int .u64 lv, .bool lh, .int .i64 lo]
abbrev ansC (w lv : Int) (lh : Bool) (lo : Int) (d : Bool) (e : Int) : List LV := [.int .u64 w, .int .u64 lv, .bool lh, .int .i64 lo, .bool d, .int .i64 e]
abbrev shC (a b c d : Int) (e : Int) : List LV := [.int .i64 a, .int .i64 b, .int .i64 c, .int .i64 d, .int .u64 e]
abbrev rH (a b c d e N C : Int) (nw nl ns : Nat) (ws ls ss : List LV) : List LB := [.cells [.int .i64 a, .int .i64 b, .int .i64 c, .int .i64 d, .int .u64 e, .slo 1 0 nw 0, .slo 2 0 nl 0, .int .u64 N, .slo 3 0 ns 0, .int .i64 C] none, .cells ws (some 1), .cells ls (some 3), .cells ss (some 1)]
abbrev mH (a b c d e N C wi : Int) (nw nl ns : Nat) (ws ls ss : List LV) : List LB := [.cells [.int .i64 a, .int .i64 b, .int .i64 c, .int .i64 d, .int .u64 e, .ptr 1 0, .ptr 3 0, .ptr 5 0, .ptr 6 0, .int .i64 C] none, .cells [.slo 2 0 nw 0] none, .cells ws (some 1), .cells [.int .i64 wi, .slo 4 0 nl 0] none, .cells ls (some 3), .cells [.int .u64 N] none, .cells [.slo 7 0 ns 0] none, .cells ss (some 1)]
abbrev opL (o : OpR) : List LV := opC o.k o.at' o.old o.w o.was.1 o.was.2.1 o.was.2.2 o.lk.1 o.lk.2.1 o.lk.2.2
abbrev ansL (x : Ans) : List LV := ansC x.1 x.2.1.1 x.2.1.2.1 x.2.1.2.2 x.2.2.1 x.2.2.2
abbrev rM (a b c d e : Int) (m : MS) : List LB := rH a b c d e m.N m.C m.W.length m.L.length m.S.length (encL (cI .u64) m.W) (encL cL m.L) (encL (cI .u64) m.S)
abbrev mM (a b c d e wi : Int) (m : MS) : List LB := mH a b c d e m.N m.C wi m.W.length m.L.length m.S.length (encL (cI .u64) m.W) (encL cL m.L) (encL (cI .u64) m.S)
structure MS.ok (m : MS) : Prop where
  w : m.W.length ≤ 1000000
  l : m.L.length ≤ 1000000
  s : m.S.length ≤ 1000000
theorem stepM_len (m : MS) (o : OpR) : (stepM m o).1.W.length = m.W.length ∧ (stepM m o).1.L.length = m.L.length ∧ (stepM m o).1.S.length = m.S.length := by
  have h1 : ∀ a, (ldW m a).1.W.length = m.W.length ∧ (ldW m a).1.L.length = m.L.length ∧ (ldW m a).1.S.length = m.S.length := fun a => by simp only [ldW]; split <;> simp [MS.bump]
  have h2 : ∀ a w, (stW m a w).1.W.length = m.W.length ∧ (stW m a w).1.L.length = m.L.length ∧ (stW m a w).1.S.length = m.S.length := fun a w => by simp only [stW]; split <;> simp [MS.bump]
  have h3 : ∀ a, (ldL m a).1.W.length = m.W.length ∧ (ldL m a).1.L.length = m.L.length ∧ (ldL m a).1.S.length = m.S.length := fun a => by simp only [ldL]; split <;> simp [MS.bump]
  have h4 : ∀ a w l, (csL m a w l).1.W.length = m.W.length ∧ (csL m a w l).1.L.length = m.L.length ∧ (csL m a w l).1.S.length = m.S.length := fun a w l => by
    simp only [csL]; split
    · split
      · split <;> simp [MS.bump]
      · simp
    · simp
  have h5 : ∀ a l, (stL m a l).1.W.length = m.W.length ∧ (stL m a l).1.L.length = m.L.length ∧ (stL m a l).1.S.length = m.S.length := fun a l => by
    simp only [stL]; split
    · split <;> simp [MS.bump]
    · simp
  have h7 : ∀ a w, (csN m a w).1.W.length = m.W.length ∧ (csN m a w).1.L.length = m.L.length ∧ (csN m a w).1.S.length = m.S.length := fun a w => by
    simp only [csN]; split
    · simp
    · split
      · simp
      · split <;> simp [MS.bump]
  have h8 : ∀ a, (ldS m a).1.W.length = m.W.length ∧ (ldS m a).1.L.length = m.L.length ∧ (ldS m a).1.S.length = m.S.length := fun a => by simp only [ldS]; split <;> simp [MS.bump]
  have h9 : ∀ a w, (stS m a w).1.W.length = m.W.length ∧ (stS m a w).1.L.length = m.L.length ∧ (stS m a w).1.S.length = m.S.length := fun a w => by simp only [stS]; split <;> simp [MS.bump]
  rw [stepM]; split; exact h1 _
  split; exact h2 _ _
  split; exact h3 _
  split; exact h4 _ _ _
  split; exact h5 _ _
  split; exact ⟨rfl, rfl, rfl⟩
  split; exact h7 _ _
  split; exact h8 _
  split; exact h9 _ _
  exact ⟨rfl, rfl, rfl⟩
theorem getD_at {α : Type} {xs : List α} {i : Nat} (h : i < xs.length) (d : α) : xs.getD i d = xs[i] := by simp [List.getD_eq_getElem?_getD, h]

theorem nt_lss (a b : Int) : xnot (xcm .lss a b) = xcm .geq a b := by rw [wd_not, xcm_lss, xcm_geq]; by_cases h : a < b <;> simp [h] <;> omega
theorem nt_eql (a b : Int) : xnot (xcm .eql a b) = xcm .neq a b := by rw [wd_not, xcm_eql, xcm_neq]
theorem lkEq (l : Lk) (v : Int) (h : Bool) (o : Int) : xand (xcm .eql l.1 v) (xand (xbq l.2.1 h) (xand (xcm .eql l.2.2 o) true)) = decide (l = (v, h, o)) := by
  obtain ⟨a, b, c⟩ := l
  rw [Bool.eq_iff_iff]
  simp [wd_and, xcm_eql, wd_bq]
theorem isLk_cases (v : Int) (h : Bool) (o : Int) : (isLk (v, h, o) = true ∧ v < 4611686018427387904 ∧ ((h = true ∧ 0 ≤ o ∧ o < 4) ∨ (h = false ∧ o = 0))) ∨ (isLk (v, h, o) = false ∧ (4611686018427387904 ≤ v ∨ (v < 4611686018427387904 ∧ h = true ∧ o < 0) ∨ (v < 4611686018427387904 ∧ h = true ∧ 4 ≤ o) ∨ (v < 4611686018427387904 ∧ h = false ∧ o < 0) ∨ (v < 4611686018427387904 ∧ h = false ∧ 0 < o))) := by
  by_cases hv : v < 4611686018427387904
  · cases h with
    | true =>
      by_cases h1 : 0 ≤ o
      · by_cases h2 : o < 4
        · exact .inl ⟨by simp [isLk, hv, h1, h2], hv, .inl ⟨rfl, h1, h2⟩⟩
        · exact .inr ⟨by simp [isLk, hv, h1, h2], .inr (.inr (.inl ⟨hv, rfl, by omega⟩))⟩
      · exact .inr ⟨by simp [isLk, hv, h1], .inr (.inl ⟨hv, rfl, by omega⟩)⟩
    | false =>
      by_cases h1 : o = 0
      · exact .inl ⟨by simp [isLk, hv, h1], hv, .inr ⟨rfl, h1⟩⟩
      · rcases Int.lt_or_gt_of_ne h1 with h2 | h2
        · exact .inr ⟨by simp [isLk, hv, h1], .inr (.inr (.inr (.inl ⟨hv, rfl, h2⟩)))⟩
        · exact .inr ⟨by simp [isLk, hv, h1], .inr (.inr (.inr (.inr ⟨hv, rfl, h2⟩)))⟩
  · exact .inr ⟨by simp [isLk, hv], .inl (by omega)⟩

theorem rdo3 (a old w wv : Int) (wh : Bool) (wo lv : Int) (lh : Bool) (lo sa sb sc sd se N C : Int) (nw nl ns : Nat) (ws ls ss : List LV) (K : Fk) : (xfun Go.Proofs.Try.prog (fun _ => none) 60 28 [.ptr 0 0, .agg (opC 3 a old w wv wh wo lv lh lo)] (mkS (rH sa sb sc sd se N C nw nl ns ws ls ss)) (vF K)) = (
  bif xcm .lss a 0 then (
   K (.agg [.int .u64 0, .int .u64 0, .bool false, .int .i64 0, .bool false, .int .i64 2]) [some (.cells [.int .i64 sa, .int .i64 sb, .int .i64 sc, .int .i64 sd, .int .u64 se, .slo 1 0 nw 0, .slo 2 0 nl 0, .int .u64 N, .slo 3 0 ns 0, .int .i64 C] none), some (.cells ws (some 1)), some (.cells ls (some 3)), some (.cells ss (some 1)), some (.cells [.int .i64 3, .int .i64 a, .int .u64 old, .int .u64 w, .int .u64 wv, .bool wh, .int .i64 wo, .int .u64 lv, .bool lh, .int .i64 lo] none), some (.cells [.int .u64 0, .int .u64 0, .bool false, .int .i64 0, .bool false, .int .i64 2] none), some (.cells [.int .u64 0, .int .u64 0, .bool false, .int .i64 0, .bool false, .int .i64 2] none), some (.cells [.int .i64 3, .int .i64 a, .int .u64 old, .int .u64 w, .int .u64 wv, .bool wh, .int .i64 wo, .int .u64 lv, .bool lh, .int .i64 lo] none), some (.cells [.int .u64 0, .int .u64 0, .bool false, .int .i64 0, .bool false, .int .i64 2] none)] [])
  else (
   bif xcm .geq a ↑nl then (
    K (.agg [.int .u64 0, .int .u64 0, .bool false, .int .i64 0, .bool false, .int .i64 2]) [some (.cells [.int .i64 sa, .int .i64 sb, .int .i64 sc, .int .i64 sd, .int .u64 se, .slo 1 0 nw 0, .slo 2 0 nl 0, .int .u64 N, .slo 3 0 ns 0, .int .i64 C] none), some (.cells ws (some 1)), some (.cells ls (some 3)), some (.cells ss (some 1)), some (.cells [.int .i64 3, .int .i64 a, .int .u64 old, .int .u64 w, .int .u64 wv, .bool wh, .int .i64 wo, .int .u64 lv, .bool lh, .int .i64 lo] none), some (.cells [.int .u64 0, .int .u64 0, .bool false, .int .i64 0, .bool false, .int .i64 2] none), some (.cells [.int .u64 0, .int .u64 0, .bool false, .int .i64 0, .bool false, .int .i64 2] none), some (.cells [.int .i64 3, .int .i64 a, .int .u64 old, .int .u64 w, .int .u64 wv, .bool wh, .int .i64 wo, .int .u64 lv, .bool lh, .int .i64 lo] none), some (.cells [.int .u64 0, .int .u64 0, .bool false, .int .i64 0, .bool false, .int .i64 2] none)] [])
   else (
    bif xnn a then
    bif xle (xadd (xnat a) 1) nl then
    bif xle (xadd (xix 0 (xnat a) 3) 3) (xln ls) then
    bif isI .u64 (nthD ls (xix 0 (xnat a) 3)) then
    bif isB (nthD ls (xadd (xix 0 (xnat a) 3) 1)) then
    bif isI .i64 (nthD ls (xadd (xadd (xix 0 (xnat a) 3) 1) 1)) then
    K (.agg [.int .u64 0, .int .u64 (asI (nthD ls (xix 0 (xnat a) 3))), .bool (asB (nthD ls (xadd (xix 0 (xnat a) 3) 1))), .int .i64 (asI (nthD ls (xadd (xadd (xix 0 (xnat a) 3) 1) 1))), .bool false, .int .i64 0]) [some (.cells [.int .i64 sa, .int .i64 sb, .int .i64 sc, .int .i64 sd, .int .u64 se, .slo 1 0 nw 0, .slo 2 0 nl 0, .int .u64 N, .slo 3 0 ns 0, .int .i64 (xar .add .i64 C 1)] none), some (.cells ws (some 1)), some (.cells ls (some 3)), some (.cells ss (some 1)), some (.cells [.int .i64 3, .int .i64 a, .int .u64 old, .int .u64 w, .int .u64 wv, .bool wh, .int .i64 wo, .int .u64 lv, .bool lh, .int .i64 lo] none), some (.cells [.int .u64 0, .int .u64 (asI (nthD ls (xix 0 (xnat a) 3))), .bool (asB (nthD ls (xadd (xix 0 (xnat a) 3) 1))), .int .i64 (asI (nthD ls (xadd (xadd (xix 0 (xnat a) 3) 1) 1))), .bool false, .int .i64 0] none), some (.cells [.int .u64 0, .int .u64 (asI (nthD ls (xix 0 (xnat a) 3))), .bool (asB (nthD ls (xadd (xix 0 (xnat a) 3) 1))), .int .i64 (asI (nthD ls (xadd (xadd (xix 0 (xnat a) 3) 1) 1))), .bool false, .int .i64 0] none), some (.cells [.int .i64 3, .int .i64 a, .int .u64 old, .int .u64 w, .int .u64 wv, .bool wh, .int .i64 wo, .int .u64 lv, .bool lh, .int .i64 lo] none), some (.cells [.int .u64 0, .int .u64 (asI (nthD ls (xix 0 (xnat a) 3))), .bool (asB (nthD ls (xadd (xix 0 (xnat a) 3) 1))), .int .i64 (asI (nthD ls (xadd (xadd (xix 0 (xnat a) 3) 1) 1))), .bool false, .int .i64 0] none)] []
    else False
    else False
    else False
    else False
    else False
    else False))) := by kernel_rfl
theorem rdo4 (a old w wv : Int) (wh : Bool) (wo lv : Int) (lh : Bool) (lo sa sb sc sd se N C : Int) (nw nl ns : Nat) (ws ls ss : List LV) (K : Fk) : (xfun Go.Proofs.Try.prog (fun _ => none) 60 28 [.ptr 0 0, .agg (opC 4 a old w wv wh wo lv lh lo)] (mkS (rH sa sb sc sd se N C nw nl ns ws ls ss)) (vF K)) = (
  bif xcm .lss a 0 then (
   K (.agg [.int .u64 0, .int .u64 0, .bool false, .int .i64 0, .bool false, .int .i64 2]) [some (.cells [.int .i64 sa, .int .i64 sb, .int .i64 sc, .int .i64 sd, .int .u64 se, .slo 1 0 nw 0, .slo 2 0 nl 0, .int .u64 N, .slo 3 0 ns 0, .int .i64 C] none), some (.cells ws (some 1)), some (.cells ls (some 3)), some (.cells ss (some 1)), some (.cells [.int .i64 4, .int .i64 a, .int .u64 old, .int .u64 w, .int .u64 wv, .bool wh, .int .i64 wo, .int .u64 lv, .bool lh, .int .i64 lo] none), some (.cells [.int .u64 0, .int .u64 0, .bool false, .int .i64 0, .bool false, .int .i64 2] none), some (.cells [.int .u64 0, .int .u64 0, .bool false, .int .i64 0, .bool false, .int .i64 2] none), some (.cells [.int .i64 4, .int .i64 a, .int .u64 old, .int .u64 w, .int .u64 wv, .bool wh, .int .i64 wo, .int .u64 lv, .bool lh, .int .i64 lo] none), some (.cells [.int .u64 0, .int .u64 0, .bool false, .int .i64 0, .bool false, .int .i64 2] none)] [])
  else (
   bif xcm .geq a ↑nl then (
    K (.agg [.int .u64 0, .int .u64 0, .bool false, .int .i64 0, .bool false, .int .i64 2]) [some (.cells [.int .i64 sa, .int .i64 sb, .int .i64 sc, .int .i64 sd, .int .u64 se, .slo 1 0 nw 0, .slo 2 0 nl 0, .int .u64 N, .slo 3 0 ns 0, .int .i64 C] none), some (.cells ws (some 1)), some (.cells ls (some 3)), some (.cells ss (some 1)), some (.cells [.int .i64 4, .int .i64 a, .int .u64 old, .int .u64 w, .int .u64 wv, .bool wh, .int .i64 wo, .int .u64 lv, .bool lh, .int .i64 lo] none), some (.cells [.int .u64 0, .int .u64 0, .bool false, .int .i64 0, .bool false, .int .i64 2] none), some (.cells [.int .u64 0, .int .u64 0, .bool false, .int .i64 0, .bool false, .int .i64 2] none), some (.cells [.int .i64 4, .int .i64 a, .int .u64 old, .int .u64 w, .int .u64 wv, .bool wh, .int .i64 wo, .int .u64 lv, .bool lh, .int .i64 lo] none), some (.cells [.int .u64 0, .int .u64 0, .bool false, .int .i64 0, .bool false, .int .i64 2] none)] [])
   else (
    bif xcm .geq lv 4611686018427387904 then (
     K (.agg [.int .u64 0, .int .u64 0, .bool false, .int .i64 0, .bool false, .int .i64 1]) [some (.cells [.int .i64 sa, .int .i64 sb, .int .i64 sc, .int .i64 sd, .int .u64 se, .slo 1 0 nw 0, .slo 2 0 nl 0, .int .u64 N, .slo 3 0 ns 0, .int .i64 C] none), some (.cells ws (some 1)), some (.cells ls (some 3)), some (.cells ss (some 1)), some (.cells [.int .i64 4, .int .i64 a, .int .u64 old, .int .u64 w, .int .u64 wv, .bool wh, .int .i64 wo, .int .u64 lv, .bool lh, .int .i64 lo] none), some (.cells [.int .u64 0, .int .u64 0, .bool false, .int .i64 0, .bool false, .int .i64 1] none), some (.cells [.int .u64 0, .int .u64 0, .bool false, .int .i64 0, .bool false, .int .i64 1] none), some (.cells [.int .i64 4, .int .i64 a, .int .u64 old, .int .u64 w, .int .u64 wv, .bool wh, .int .i64 wo, .int .u64 lv, .bool lh, .int .i64 lo] none), some (.cells [.int .u64 0, .int .u64 0, .bool false, .int .i64 0, .bool false, .int .i64 1] none), some (.cells [.int .u64 lv, .bool lh, .int .i64 lo] none)] [])
    else (
     bif lh then (
      bif xcm .geq lo 0 then (
       bif xnot (xcm .lss lo 4) then (
        K (.agg [.int .u64 0, .int .u64 0, .bool false, .int .i64 0, .bool false, .int .i64 1]) [some (.cells [.int .i64 sa, .int .i64 sb, .int .i64 sc, .int .i64 sd, .int .u64 se, .slo 1 0 nw 0, .slo 2 0 nl 0, .int .u64 N, .slo 3 0 ns 0, .int .i64 C] none), some (.cells ws (some 1)), some (.cells ls (some 3)), some (.cells ss (some 1)), some (.cells [.int .i64 4, .int .i64 a, .int .u64 old, .int .u64 w, .int .u64 wv, .bool wh, .int .i64 wo, .int .u64 lv, .bool lh, .int .i64 lo] none), some (.cells [.int .u64 0, .int .u64 0, .bool false, .int .i64 0, .bool false, .int .i64 1] none), some (.cells [.int .u64 0, .int .u64 0, .bool false, .int .i64 0, .bool false, .int .i64 1] none), some (.cells [.int .i64 4, .int .i64 a, .int .u64 old, .int .u64 w, .int .u64 wv, .bool wh, .int .i64 wo, .int .u64 lv, .bool lh, .int .i64 lo] none), some (.cells [.int .u64 0, .int .u64 0, .bool false, .int .i64 0, .bool false, .int .i64 1] none), some (.cells [.int .u64 lv, .bool lh, .int .i64 lo] none)] [])
       else (
        bif xnn a then
        bif xle (xadd (xnat a) 1) nl then
        bif xle (xadd (xix 0 (xnat a) 3) 3) (xln ls) then
        bif isI .u64 (nthD ls (xix 0 (xnat a) 3)) then
        bif isB (nthD ls (xadd (xix 0 (xnat a) 3) 1)) then
        bif isI .i64 (nthD ls (xadd (xadd (xix 0 (xnat a) 3) 1) 1)) then
        bif xnot (xand (xcm .eql (asI (nthD ls (xix 0 (xnat a) 3))) wv) (xand (xbq (asB (nthD ls (xadd (xix 0 (xnat a) 3) 1))) wh) (xand (xcm .eql (asI (nthD ls (xadd (xadd (xix 0 (xnat a) 3) 1) 1))) wo) true))) then (
         K (.agg [.int .u64 0, .int .u64 0, .bool false, .int .i64 0, .bool false, .int .i64 0]) [some (.cells [.int .i64 sa, .int .i64 sb, .int .i64 sc, .int .i64 sd, .int .u64 se, .slo 1 0 nw 0, .slo 2 0 nl 0, .int .u64 N, .slo 3 0 ns 0, .int .i64 (xar .add .i64 C 1)] none), some (.cells ws (some 1)), some (.cells ls (some 3)), some (.cells ss (some 1)), some (.cells [.int .i64 4, .int .i64 a, .int .u64 old, .int .u64 w, .int .u64 wv, .bool wh, .int .i64 wo, .int .u64 lv, .bool lh, .int .i64 lo] none), some (.cells [.int .u64 0, .int .u64 0, .bool false, .int .i64 0, .bool false, .int .i64 0] none), some (.cells [.int .u64 0, .int .u64 0, .bool false, .int .i64 0, .bool false, .int .i64 0] none), some (.cells [.int .i64 4, .int .i64 a, .int .u64 old, .int .u64 w, .int .u64 wv, .bool wh, .int .i64 wo, .int .u64 lv, .bool lh, .int .i64 lo] none), some (.cells [.int .u64 0, .int .u64 0, .bool false, .int .i64 0, .bool false, .int .i64 0] none), some (.cells [.int .u64 lv, .bool lh, .int .i64 lo] none)] [])
        else (
         bif xnn a then
         bif xle (xadd (xnat a) 1) nl then
         bif xle (xadd (xix 0 (xnat a) 3) 3) (xln ls) then
         K (.agg [.int .u64 0, .int .u64 0, .bool false, .int .i64 0, .bool true, .int .i64 0]) [some (.cells [.int .i64 sa, .int .i64 sb, .int .i64 sc, .int .i64 sd, .int .u64 se, .slo 1 0 nw 0, .slo 2 0 nl 0, .int .u64 N, .slo 3 0 ns 0, .int .i64 (xar .add .i64 C 1)] none), some (.cells ws (some 1)), some (.cells (xlay ls (xix 0 (xnat a) 3) [.int .u64 lv, .bool lh, .int .i64 lo]) (some 3)), some (.cells ss (some 1)), some (.cells [.int .i64 4, .int .i64 a, .int .u64 old, .int .u64 w, .int .u64 wv, .bool wh, .int .i64 wo, .int .u64 lv, .bool lh, .int .i64 lo] none), some (.cells [.int .u64 0, .int .u64 0, .bool false, .int .i64 0, .bool true, .int .i64 0] none), some (.cells [.int .u64 0, .int .u64 0, .bool false, .int .i64 0, .bool true, .int .i64 0] none), some (.cells [.int .i64 4, .int .i64 a, .int .u64 old, .int .u64 w, .int .u64 wv, .bool wh, .int .i64 wo, .int .u64 lv, .bool lh, .int .i64 lo] none), some (.cells [.int .u64 0, .int .u64 0, .bool false, .int .i64 0, .bool true, .int .i64 0] none), some (.cells [.int .u64 lv, .bool lh, .int .i64 lo] none)] []
         else False
         else False
         else False)
        else False
        else False
        else False
        else False
        else False
        else False))
      else (
       K (.agg [.int .u64 0, .int .u64 0, .bool false, .int .i64 0, .bool false, .int .i64 1]) [some (.cells [.int .i64 sa, .int .i64 sb, .int .i64 sc, .int .i64 sd, .int .u64 se, .slo 1 0 nw 0, .slo 2 0 nl 0, .int .u64 N, .slo 3 0 ns 0, .int .i64 C] none), some (.cells ws (some 1)), some (.cells ls (some 3)), some (.cells ss (some 1)), some (.cells [.int .i64 4, .int .i64 a, .int .u64 old, .int .u64 w, .int .u64 wv, .bool wh, .int .i64 wo, .int .u64 lv, .bool lh, .int .i64 lo] none), some (.cells [.int .u64 0, .int .u64 0, .bool false, .int .i64 0, .bool false, .int .i64 1] none), some (.cells [.int .u64 0, .int .u64 0, .bool false, .int .i64 0, .bool false, .int .i64 1] none), some (.cells [.int .i64 4, .int .i64 a, .int .u64 old, .int .u64 w, .int .u64 wv, .bool wh, .int .i64 wo, .int .u64 lv, .bool lh, .int .i64 lo] none), some (.cells [.int .u64 0, .int .u64 0, .bool false, .int .i64 0, .bool false, .int .i64 1] none), some (.cells [.int .u64 lv, .bool lh, .int .i64 lo] none)] []))
     else (
      bif xnot (xcm .eql lo 0) then (
       K (.agg [.int .u64 0, .int .u64 0, .bool false, .int .i64 0, .bool false, .int .i64 1]) [some (.cells [.int .i64 sa, .int .i64 sb, .int .i64 sc, .int .i64 sd, .int .u64 se, .slo 1 0 nw 0, .slo 2 0 nl 0, .int .u64 N, .slo 3 0 ns 0, .int .i64 C] none), some (.cells ws (some 1)), some (.cells ls (some 3)), some (.cells ss (some 1)), some (.cells [.int .i64 4, .int .i64 a, .int .u64 old, .int .u64 w, .int .u64 wv, .bool wh, .int .i64 wo, .int .u64 lv, .bool lh, .int .i64 lo] none), some (.cells [.int .u64 0, .int .u64 0, .bool false, .int .i64 0, .bool false, .int .i64 1] none), some (.cells [.int .u64 0, .int .u64 0, .bool false, .int .i64 0, .bool false, .int .i64 1] none), some (.cells [.int .i64 4, .int .i64 a, .int .u64 old, .int .u64 w, .int .u64 wv, .bool wh, .int .i64 wo, .int .u64 lv, .bool lh, .int .i64 lo] none), some (.cells [.int .u64 0, .int .u64 0, .bool false, .int .i64 0, .bool false, .int .i64 1] none), some (.cells [.int .u64 lv, .bool lh, .int .i64 lo] none)] [])
      else (
       bif xnn a then
       bif xle (xadd (xnat a) 1) nl then
       bif xle (xadd (xix 0 (xnat a) 3) 3) (xln ls) then
       bif isI .u64 (nthD ls (xix 0 (xnat a) 3)) then
       bif isB (nthD ls (xadd (xix 0 (xnat a) 3) 1)) then
       bif isI .i64 (nthD ls (xadd (xadd (xix 0 (xnat a) 3) 1) 1)) then
       bif xnot (xand (xcm .eql (asI (nthD ls (xix 0 (xnat a) 3))) wv) (xand (xbq (asB (nthD ls (xadd (xix 0 (xnat a) 3) 1))) wh) (xand (xcm .eql (asI (nthD ls (xadd (xadd (xix 0 (xnat a) 3) 1) 1))) wo) true))) then (
        K (.agg [.int .u64 0, .int .u64 0, .bool false, .int .i64 0, .bool false, .int .i64 0]) [some (.cells [.int .i64 sa, .int .i64 sb, .int .i64 sc, .int .i64 sd, .int .u64 se, .slo 1 0 nw 0, .slo 2 0 nl 0, .int .u64 N, .slo 3 0 ns 0, .int .i64 (xar .add .i64 C 1)] none), some (.cells ws (some 1)), some (.cells ls (some 3)), some (.cells ss (some 1)), some (.cells [.int .i64 4, .int .i64 a, .int .u64 old, .int .u64 w, .int .u64 wv, .bool wh, .int .i64 wo, .int .u64 lv, .bool lh, .int .i64 lo] none), some (.cells [.int .u64 0, .int .u64 0, .bool false, .int .i64 0, .bool false, .int .i64 0] none), some (.cells [.int .u64 0, .int .u64 0, .bool false, .int .i64 0, .bool false, .int .i64 0] none), some (.cells [.int .i64 4, .int .i64 a, .int .u64 old, .int .u64 w, .int .u64 wv, .bool wh, .int .i64 wo, .int .u64 lv, .bool lh, .int .i64 lo] none), some (.cells [.int .u64 0, .int .u64 0, .bool false, .int .i64 0, .bool false, .int .i64 0] none), some (.cells [.int .u64 lv, .bool lh, .int .i64 lo] none)] [])
       else (
        bif xnn a then
        bif xle (xadd (xnat a) 1) nl then
        bif xle (xadd (xix 0 (xnat a) 3) 3) (xln ls) then
        K (.agg [.int .u64 0, .int .u64 0, .bool false, .int .i64 0, .bool true, .int .i64 0]) [some (.cells [.int .i64 sa, .int .i64 sb, .int .i64 sc, .int .i64 sd, .int .u64 se, .slo 1 0 nw 0, .slo 2 0 nl 0, .int .u64 N, .slo 3 0 ns 0, .int .i64 (xar .add .i64 C 1)] none), some (.cells ws (some 1)), some (.cells (xlay ls (xix 0 (xnat a) 3) [.int .u64 lv, .bool lh, .int .i64 lo]) (some 3)), some (.cells ss (some 1)), some (.cells [.int .i64 4, .int .i64 a, .int .u64 old, .int .u64 w, .int .u64 wv, .bool wh, .int .i64 wo, .int .u64 lv, .bool lh, .int .i64 lo] none), some (.cells [.int .u64 0, .int .u64 0, .bool false, .int .i64 0, .bool true, .int .i64 0] none), some (.cells [.int .u64 0, .int .u64 0, .bool false, .int .i64 0, .bool true, .int .i64 0] none), some (.cells [.int .i64 4, .int .i64 a, .int .u64 old, .int .u64 w, .int .u64 wv, .bool wh, .int .i64 wo, .int .u64 lv, .bool lh, .int .i64 lo] none), some (.cells [.int .u64 0, .int .u64 0, .bool false, .int .i64 0, .bool true, .int .i64 0] none), some (.cells [.int .u64 lv, .bool lh, .int .i64 lo] none)] []
        else False
        else False
        else False)
       else False
       else False
       else False
       else False
       else False
       else False)))))) := by kernel_rfl
theorem rdo5 (a old w wv : Int) (wh : Bool) (wo lv : Int) (lh : Bool) (lo sa sb sc sd se N C : Int) (nw nl ns : Nat) (ws ls ss : List LV) (K : Fk) : (xfun Go.Proofs.Try.prog (fun _ => none) 60 28 [.ptr 0 0, .agg (opC 5 a old w wv wh wo lv lh lo)] (mkS (rH sa sb sc sd se N C nw nl ns ws ls ss)) (vF K)) = (
  bif xcm .lss a 0 then (
   K (.agg [.int .u64 0, .int .u64 0, .bool false, .int .i64 0, .bool false, .int .i64 2]) [some (.cells [.int .i64 sa, .int .i64 sb, .int .i64 sc, .int .i64 sd, .int .u64 se, .slo 1 0 nw 0, .slo 2 0 nl 0, .int .u64 N, .slo 3 0 ns 0, .int .i64 C] none), some (.cells ws (some 1)), some (.cells ls (some 3)), some (.cells ss (some 1)), some (.cells [.int .i64 5, .int .i64 a, .int .u64 old, .int .u64 w, .int .u64 wv, .bool wh, .int .i64 wo, .int .u64 lv, .bool lh, .int .i64 lo] none), some (.cells [.int .u64 0, .int .u64 0, .bool false, .int .i64 0, .bool false, .int .i64 2] none), some (.cells [.int .u64 0, .int .u64 0, .bool false, .int .i64 0, .bool false, .int .i64 2] none), some (.cells [.int .i64 5, .int .i64 a, .int .u64 old, .int .u64 w, .int .u64 wv, .bool wh, .int .i64 wo, .int .u64 lv, .bool lh, .int .i64 lo] none), some (.cells [.int .u64 0, .int .u64 0, .bool false, .int .i64 0, .bool false, .int .i64 2] none)] [])
  else (
   bif xcm .geq a ↑nl then (
    K (.agg [.int .u64 0, .int .u64 0, .bool false, .int .i64 0, .bool false, .int .i64 2]) [some (.cells [.int .i64 sa, .int .i64 sb, .int .i64 sc, .int .i64 sd, .int .u64 se, .slo 1 0 nw 0, .slo 2 0 nl 0, .int .u64 N, .slo 3 0 ns 0, .int .i64 C] none), some (.cells ws (some 1)), some (.cells ls (some 3)), some (.cells ss (some 1)), some (.cells [.int .i64 5, .int .i64 a, .int .u64 old, .int .u64 w, .int .u64 wv, .bool wh, .int .i64 wo, .int .u64 lv, .bool lh, .int .i64 lo] none), some (.cells [.int .u64 0, .int .u64 0, .bool false, .int .i64 0, .bool false, .int .i64 2] none), some (.cells [.int .u64 0, .int .u64 0, .bool false, .int .i64 0, .bool false, .int .i64 2] none), some (.cells [.int .i64 5, .int .i64 a, .int .u64 old, .int .u64 w, .int .u64 wv, .bool wh, .int .i64 wo, .int .u64 lv, .bool lh, .int .i64 lo] none), some (.cells [.int .u64 0, .int .u64 0, .bool false, .int .i64 0, .bool false, .int .i64 2] none)] [])
   else (
    bif xcm .geq lv 4611686018427387904 then (
     K (.agg [.int .u64 0, .int .u64 0, .bool false, .int .i64 0, .bool false, .int .i64 1]) [some (.cells [.int .i64 sa, .int .i64 sb, .int .i64 sc, .int .i64 sd, .int .u64 se, .slo 1 0 nw 0, .slo 2 0 nl 0, .int .u64 N, .slo 3 0 ns 0, .int .i64 C] none), some (.cells ws (some 1)), some (.cells ls (some 3)), some (.cells ss (some 1)), some (.cells [.int .i64 5, .int .i64 a, .int .u64 old, .int .u64 w, .int .u64 wv, .bool wh, .int .i64 wo, .int .u64 lv, .bool lh, .int .i64 lo] none), some (.cells [.int .u64 0, .int .u64 0, .bool false, .int .i64 0, .bool false, .int .i64 1] none), some (.cells [.int .u64 0, .int .u64 0, .bool false, .int .i64 0, .bool false, .int .i64 1] none), some (.cells [.int .i64 5, .int .i64 a, .int .u64 old, .int .u64 w, .int .u64 wv, .bool wh, .int .i64 wo, .int .u64 lv, .bool lh, .int .i64 lo] none), some (.cells [.int .u64 0, .int .u64 0, .bool false, .int .i64 0, .bool false, .int .i64 1] none), some (.cells [.int .u64 lv, .bool lh, .int .i64 lo] none)] [])
    else (
     bif lh then (
      bif xcm .geq lo 0 then (
       bif xnot (xcm .lss lo 4) then (
        K (.agg [.int .u64 0, .int .u64 0, .bool false, .int .i64 0, .bool false, .int .i64 1]) [some (.cells [.int .i64 sa, .int .i64 sb, .int .i64 sc, .int .i64 sd, .int .u64 se, .slo 1 0 nw 0, .slo 2 0 nl 0, .int .u64 N, .slo 3 0 ns 0, .int .i64 C] none), some (.cells ws (some 1)), some (.cells ls (some 3)), some (.cells ss (some 1)), some (.cells [.int .i64 5, .int .i64 a, .int .u64 old, .int .u64 w, .int .u64 wv, .bool wh, .int .i64 wo, .int .u64 lv, .bool lh, .int .i64 lo] none), some (.cells [.int .u64 0, .int .u64 0, .bool false, .int .i64 0, .bool false, .int .i64 1] none), some (.cells [.int .u64 0, .int .u64 0, .bool false, .int .i64 0, .bool false, .int .i64 1] none), some (.cells [.int .i64 5, .int .i64 a, .int .u64 old, .int .u64 w, .int .u64 wv, .bool wh, .int .i64 wo, .int .u64 lv, .bool lh, .int .i64 lo] none), some (.cells [.int .u64 0, .int .u64 0, .bool false, .int .i64 0, .bool false, .int .i64 1] none), some (.cells [.int .u64 lv, .bool lh, .int .i64 lo] none)] [])
       else (
        bif xnn a then
        bif xle (xadd (xnat a) 1) nl then
        bif xle (xadd (xix 0 (xnat a) 3) 3) (xln ls) then
        K (.agg [.int .u64 0, .int .u64 0, .bool false, .int .i64 0, .bool false, .int .i64 0]) [some (.cells [.int .i64 sa, .int .i64 sb, .int .i64 sc, .int .i64 sd, .int .u64 se, .slo 1 0 nw 0, .slo 2 0 nl 0, .int .u64 N, .slo 3 0 ns 0, .int .i64 (xar .add .i64 C 1)] none), some (.cells ws (some 1)), some (.cells (xlay ls (xix 0 (xnat a) 3) [.int .u64 lv, .bool lh, .int .i64 lo]) (some 3)), some (.cells ss (some 1)), some (.cells [.int .i64 5, .int .i64 a, .int .u64 old, .int .u64 w, .int .u64 wv, .bool wh, .int .i64 wo, .int .u64 lv, .bool lh, .int .i64 lo] none), some (.cells [.int .u64 0, .int .u64 0, .bool false, .int .i64 0, .bool false, .int .i64 0] none), some (.cells [.int .u64 0, .int .u64 0, .bool false, .int .i64 0, .bool false, .int .i64 0] none), some (.cells [.int .i64 5, .int .i64 a, .int .u64 old, .int .u64 w, .int .u64 wv, .bool wh, .int .i64 wo, .int .u64 lv, .bool lh, .int .i64 lo] none), some (.cells [.int .u64 0, .int .u64 0, .bool false, .int .i64 0, .bool false, .int .i64 0] none), some (.cells [.int .u64 lv, .bool lh, .int .i64 lo] none)] []
        else False
        else False
        else False))
      else (
       K (.agg [.int .u64 0, .int .u64 0, .bool false, .int .i64 0, .bool false, .int .i64 1]) [some (.cells [.int .i64 sa, .int .i64 sb, .int .i64 sc, .int .i64 sd, .int .u64 se, .slo 1 0 nw 0, .slo 2 0 nl 0, .int .u64 N, .slo 3 0 ns 0, .int .i64 C] none), some (.cells ws (some 1)), some (.cells ls (some 3)), some (.cells ss (some 1)), some (.cells [.int .i64 5, .int .i64 a, .int .u64 old, .int .u64 w, .int .u64 wv, .bool wh, .int .i64 wo, .int .u64 lv, .bool lh, .int .i64 lo] none), some (.cells [.int .u64 0, .int .u64 0, .bool false, .int .i64 0, .bool false, .int .i64 1] none), some (.cells [.int .u64 0, .int .u64 0, .bool false, .int .i64 0, .bool false, .int .i64 1] none), some (.cells [.int .i64 5, .int .i64 a, .int .u64 old, .int .u64 w, .int .u64 wv, .bool wh, .int .i64 wo, .int .u64 lv, .bool lh, .int .i64 lo] none), some (.cells [.int .u64 0, .int .u64 0, .bool false, .int .i64 0, .bool false, .int .i64 1] none), some (.cells [.int .u64 lv, .bool lh, .int .i64 lo] none)] []))
     else (
      bif xnot (xcm .eql lo 0) then (
       K (.agg [.int .u64 0, .int .u64 0, .bool false, .int .i64 0, .bool false, .int .i64 1]) [some (.cells [.int .i64 sa, .int .i64 sb, .int .i64 sc, .int .i64 sd, .int .u64 se, .slo 1 0 nw 0, .slo 2 0 nl 0, .int .u64 N, .slo 3 0 ns 0, .int .i64 C] none), some (.cells ws (some 1)), some (.cells ls (some 3)), some (.cells ss (some 1)), some (.cells [.int .i64 5, .int .i64 a, .int .u64 old, .int .u64 w, .int .u64 wv, .bool wh, .int .i64 wo, .int .u64 lv, .bool lh, .int .i64 lo] none), some (.cells [.int .u64 0, .int .u64 0, .bool false, .int .i64 0, .bool false, .int .i64 1] none), some (.cells [.int .u64 0, .int .u64 0, .bool false, .int .i64 0, .bool false, .int .i64 1] none), some (.cells [.int .i64 5, .int .i64 a, .int .u64 old, .int .u64 w, .int .u64 wv, .bool wh, .int .i64 wo, .int .u64 lv, .bool lh, .int .i64 lo] none), some (.cells [.int .u64 0, .int .u64 0, .bool false, .int .i64 0, .bool false, .int .i64 1] none), some (.cells [.int .u64 lv, .bool lh, .int .i64 lo] none)] [])
      else (
       bif xnn a then
       bif xle (xadd (xnat a) 1) nl then
       bif xle (xadd (xix 0 (xnat a) 3) 3) (xln ls) then
       K (.agg [.int .u64 0, .int .u64 0, .bool false, .int .i64 0, .bool false, .int .i64 0]) [some (.cells [.int .i64 sa, .int .i64 sb, .int .i64 sc, .int .i64 sd, .int .u64 se, .slo 1 0 nw 0, .slo 2 0 nl 0, .int .u64 N, .slo 3 0 ns 0, .int .i64 (xar .add .i64 C 1)] none), some (.cells ws (some 1)), some (.cells (xlay ls (xix 0 (xnat a) 3) [.int .u64 lv, .bool lh, .int .i64 lo]) (some 3)), some (.cells ss (some 1)), some (.cells [.int .i64 5, .int .i64 a, .int .u64 old, .int .u64 w, .int .u64 wv, .bool wh, .int .i64 wo, .int .u64 lv, .bool lh, .int .i64 lo] none), some (.cells [.int .u64 0, .int .u64 0, .bool false, .int .i64 0, .bool false, .int .i64 0] none), some (.cells [.int .u64 0, .int .u64 0, .bool false, .int .i64 0, .bool false, .int .i64 0] none), some (.cells [.int .i64 5, .int .i64 a, .int .u64 old, .int .u64 w, .int .u64 wv, .bool wh, .int .i64 wo, .int .u64 lv, .bool lh, .int .i64 lo] none), some (.cells [.int .u64 0, .int .u64 0, .bool false, .int .i64 0, .bool false, .int .i64 0] none), some (.cells [.int .u64 lv, .bool lh, .int .i64 lo] none)] []
       else False
       else False
       else False)))))) := by kernel_rfl
theorem rdo_3 (a old w wv : Int) (wh : Bool) (wo lv : Int) (lh : Bool) (lo sa sb sc sd se : Int) (m : MS) (hm : m.ok) : SFun Go.Proofs.Try.prog 28 [.ptr 0 0, .agg (opC 3 a old w wv wh wo lv lh lo)] (mkS (rM sa sb sc sd se m))
    fun l s => l = .agg (ansL (ldL m a).2) ∧ s = mkS (rM sa sb sc sd se (ldL m a).1) := by
  refine SFun.mono (SFun.vc (Q := fun l b => l = .agg (ansL (ldL m a).2) ∧ b = rM sa sb sc sd se (ldL m a).1) noCx_ok (n := 60) 4 rfl ?_) fun l s' ⟨b0, ⟨h1, h2⟩, h3⟩ => ⟨h1, by rw [h3, h2]⟩
  have n1 := noIds_Iu64 m.W
  have n2 := noids_l m.L
  have n3 := noIds_Iu64 m.S
  have b1 := hm.w
  have b2 := hm.l
  have b3 := hm.s
  rw [rdo3]
  by_cases h : 0 ≤ a ∧ a < m.L.length
  · obtain ⟨q, rfl⟩ := Int.eq_ofNat_of_zero_le (show 0 ≤ a by omega)
    have hq : q < m.L.length := by omega
    have e : ldL m q = (m.bump, (0, m.L[q], false, 0)) := by simp only [ldL, if_pos h, Int.toNat_natCast, getD_at hq]
    rw [e]
    simp only [wd_nat, wd_asV, wd_isV, wd_ix, wd_add, wd_mul, wd_ln, Nat.zero_add, Nat.mul_one, wd_isI, wd_asI, wd_isB, wd_asB, wd_nn, cI_tlen, cB_tlen, cII_tlen, decide_true, cond_true, wd_not_t, wd_not_f, wd_and_t, wd_and_f, lk_0 hq, lk_1 hq, lk_2' hq, lk_n]
    (repeat (first | (with_reducible refine way_t (by (first | with_reducible rfl | exact t_le (by omega) | exact t_eq (by omega) | exact t_nn (by omega) | exact t_lss (by omega) | exact t_leq (by omega) | exact t_gtr (by omega) | exact t_geq (by omega) | exact t_eql (by omega) | exact t_neq (by omega) | exact t_z (by omega) | exact wd_not_f | assumption)) ?_) | (with_reducible refine way_f (by (first | with_reducible rfl | exact f_le (by omega) | exact f_eq (by omega) | exact f_nn (by omega) | exact f_lss (by omega) | exact f_leq (by omega) | exact f_gtr (by omega) | exact f_geq (by omega) | exact f_eql (by omega) | exact f_neq (by omega) | exact f_z (by omega) | exact wd_not_t | assumption)) ?_)))
    exact ⟨rfl, _, _, [.id 0, .id 1, .id 2, .id 3], ⟨rfl, rfl⟩, by (refine ⟨by kernel_rfl, ?_, ?_⟩ <;> repeat (first | exact okTms_nil | refine okTms_cons ?_ ?_ | exact okBlks_nil | refine okBlks_cons ?_ ?_ | exact lws_nil | refine lws_cons ?_ ?_ | exact lb_dead | exact lb_same (by (first | assumption | exact noIds_encL (fun _ => rfl) _ | exact noIds_tab (fun _ => rfl) _ _ | rfl)) | exact lb_ro (by (first | assumption | exact noIds_encL (fun _ => rfl) _ | exact noIds_tab (fun _ => rfl) _ _ | rfl)) | exact lb_none | refine lb_cells ?_ (by simp) | exact lb_cap (Nat.le_refl _) (Nat.le_refl _) rfl rfl | exact lb_capn (by assumption) (by (first | assumption | exact noIds_encL (fun _ => rfl) _ | exact noIds_tab (fun _ => rfl) _ _ | rfl)) | exact lw_any | exact lw_int | exact lw_bool | exact lw_ptr rfl | exact lw_slo rfl | exact lw_nils | exact lw_slo_nils | exact lw_sl rfl | exact lw_noid rfl | exact lw_cap rfl (Nat.le_refl _) | refine lw_tup ?_ | refine lw_agg ?_ | assumption))⟩
  · have e : ldL m a = (m, erA 2) := if_neg h
    rw [e]
    by_cases h1 : a < 0
    · (repeat (first | (with_reducible refine way_t (by (first | with_reducible rfl | exact t_le (by omega) | exact t_eq (by omega) | exact t_nn (by omega) | exact t_lss (by omega) | exact t_leq (by omega) | exact t_gtr (by omega) | exact t_geq (by omega) | exact t_eql (by omega) | exact t_neq (by omega) | exact t_z (by omega) | exact wd_not_f | assumption)) ?_) | (with_reducible refine way_f (by (first | with_reducible rfl | exact f_le (by omega) | exact f_eq (by omega) | exact f_nn (by omega) | exact f_lss (by omega) | exact f_leq (by omega) | exact f_gtr (by omega) | exact f_geq (by omega) | exact f_eql (by omega) | exact f_neq (by omega) | exact f_z (by omega) | exact wd_not_t | assumption)) ?_)))
      exact ⟨rfl, _, _, [.id 0, .id 1, .id 2, .id 3], ⟨rfl, rfl⟩, by (refine ⟨by kernel_rfl, ?_, ?_⟩ <;> repeat (first | exact okTms_nil | refine okTms_cons ?_ ?_ | exact okBlks_nil | refine okBlks_cons ?_ ?_ | exact lws_nil | refine lws_cons ?_ ?_ | exact lb_dead | exact lb_same (by (first | assumption | exact noIds_encL (fun _ => rfl) _ | exact noIds_tab (fun _ => rfl) _ _ | rfl)) | exact lb_ro (by (first | assumption | exact noIds_encL (fun _ => rfl) _ | exact noIds_tab (fun _ => rfl) _ _ | rfl)) | exact lb_none | refine lb_cells ?_ (by simp) | exact lb_cap (Nat.le_refl _) (Nat.le_refl _) rfl rfl | exact lb_capn (by assumption) (by (first | assumption | exact noIds_encL (fun _ => rfl) _ | exact noIds_tab (fun _ => rfl) _ _ | rfl)) | exact lw_any | exact lw_int | exact lw_bool | exact lw_ptr rfl | exact lw_slo rfl | exact lw_nils | exact lw_slo_nils | exact lw_sl rfl | exact lw_noid rfl | exact lw_cap rfl (Nat.le_refl _) | refine lw_tup ?_ | refine lw_agg ?_ | assumption))⟩
    · (repeat (first | (with_reducible refine way_t (by (first | with_reducible rfl | exact t_le (by omega) | exact t_eq (by omega) | exact t_nn (by omega) | exact t_lss (by omega) | exact t_leq (by omega) | exact t_gtr (by omega) | exact t_geq (by omega) | exact t_eql (by omega) | exact t_neq (by omega) | exact t_z (by omega) | exact wd_not_f | assumption)) ?_) | (with_reducible refine way_f (by (first | with_reducible rfl | exact f_le (by omega) | exact f_eq (by omega) | exact f_nn (by omega) | exact f_lss (by omega) | exact f_leq (by omega) | exact f_gtr (by omega) | exact f_geq (by omega) | exact f_eql (by omega) | exact f_neq (by omega) | exact f_z (by omega) | exact wd_not_t | assumption)) ?_)))
      exact ⟨rfl, _, _, [.id 0, .id 1, .id 2, .id 3], ⟨rfl, rfl⟩, by (refine ⟨by kernel_rfl, ?_, ?_⟩ <;> repeat (first | exact okTms_nil | refine okTms_cons ?_ ?_ | exact okBlks_nil | refine okBlks_cons ?_ ?_ | exact lws_nil | refine lws_cons ?_ ?_ | exact lb_dead | exact lb_same (by (first | assumption | exact noIds_encL (fun _ => rfl) _ | exact noIds_tab (fun _ => rfl) _ _ | rfl)) | exact lb_ro (by (first | assumption | exact noIds_encL (fun _ => rfl) _ | exact noIds_tab (fun _ => rfl) _ _ | rfl)) | exact lb_none | refine lb_cells ?_ (by simp) | exact lb_cap (Nat.le_refl _) (Nat.le_refl _) rfl rfl | exact lb_capn (by assumption) (by (first | assumption | exact noIds_encL (fun _ => rfl) _ | exact noIds_tab (fun _ => rfl) _ _ | rfl)) | exact lw_any | exact lw_int | exact lw_bool | exact lw_ptr rfl | exact lw_slo rfl | exact lw_nils | exact lw_slo_nils | exact lw_sl rfl | exact lw_noid rfl | exact lw_cap rfl (Nat.le_refl _) | refine lw_tup ?_ | refine lw_agg ?_ | assumption))⟩
theorem rdo_4 (a old w wv : Int) (wh : Bool) (wo lv : Int) (lh : Bool) (lo sa sb sc sd se : Int) (m : MS) (hm : m.ok) : SFun Go.Proofs.Try.prog 28 [.ptr 0 0, .agg (opC 4 a old w wv wh wo lv lh lo)] (mkS (rM sa sb sc sd se m))
    fun l s => l = .agg (ansL (csL m a (wv, wh, wo) (lv, lh, lo)).2) ∧ s = mkS (rM sa sb sc sd se (csL m a (wv, wh, wo) (lv, lh, lo)).1) := by
  refine SFun.mono (SFun.vc (Q := fun l b => l = .agg (ansL (csL m a (wv, wh, wo) (lv, lh, lo)).2) ∧ b = rM sa sb sc sd se (csL m a (wv, wh, wo) (lv, lh, lo)).1) noCx_ok (n := 60) 4 rfl ?_) fun l s' ⟨b0, ⟨h1, h2⟩, h3⟩ => ⟨h1, by rw [h3, h2]⟩
  have n1 := noIds_Iu64 m.W
  have n2 := noids_l m.L
  have n3 := noIds_Iu64 m.S
  have b1 := hm.w
  have b2 := hm.l
  have b3 := hm.s
  rw [rdo4]
  by_cases h : 0 ≤ a ∧ a < m.L.length
  · obtain ⟨q, rfl⟩ := Int.eq_ofNat_of_zero_le (show 0 ≤ a by omega)
    have hq : q < m.L.length := by omega
    rcases isLk_cases lv lh lo with ⟨hl, hv, ⟨rfl, ho, ho2⟩ | ⟨rfl, ho⟩⟩ | ⟨hl, hv | ⟨hv, rfl, ho⟩ | ⟨hv, rfl, ho⟩ | ⟨hv, rfl, ho⟩ | ⟨hv, rfl, ho⟩⟩
    · by_cases hw : m.L[q] = (wv, wh, wo)
      · have e : csL m q (wv, wh, wo) (lv, true, lo) = ({ m.bump with L := m.L.set q (lv, true, lo) }, (0, (0, false, 0), true, 0)) := by simp only [csL, if_pos h, Int.toNat_natCast, getD_at hq, if_pos hl, if_pos hw]
        rw [e]
        have st := lk_set hq (lv, true, lo)
        dsimp only at st
        simp only [wd_nat, wd_asV, wd_isV, wd_ix, wd_add, wd_mul, wd_ln, Nat.zero_add, Nat.mul_one, wd_isI, wd_asI, wd_isB, wd_asB, wd_nn, cI_tlen, cB_tlen, cII_tlen, decide_true, cond_true, wd_not_t, wd_not_f, wd_and_t, wd_and_f, lk_0 hq, lk_1 hq, lk_2' hq, lk_n, nt_lss, nt_eql, lkEq, decide_eq_true hw, wd_not_t, cond_false, st]
        (repeat (first | (with_reducible refine way_t (by (first | with_reducible rfl | exact t_le (by omega) | exact t_eq (by omega) | exact t_nn (by omega) | exact t_lss (by omega) | exact t_leq (by omega) | exact t_gtr (by omega) | exact t_geq (by omega) | exact t_eql (by omega) | exact t_neq (by omega) | exact t_z (by omega) | exact wd_not_f | assumption)) ?_) | (with_reducible refine way_f (by (first | with_reducible rfl | exact f_le (by omega) | exact f_eq (by omega) | exact f_nn (by omega) | exact f_lss (by omega) | exact f_leq (by omega) | exact f_gtr (by omega) | exact f_geq (by omega) | exact f_eql (by omega) | exact f_neq (by omega) | exact f_z (by omega) | exact wd_not_t | assumption)) ?_)))
        have ll : (m.L.set q (lv, true, lo)).length = m.L.length := List.length_set
        exact ⟨rfl, _, _, [.id 0, .id 1, .id 2, .id 3], ⟨rfl, rfl⟩, by simp only [rM, MS.bump, List.length_set]; (refine ⟨by kernel_rfl, ?_, ?_⟩ <;> repeat (first | exact okTms_nil | refine okTms_cons ?_ ?_ | exact okBlks_nil | refine okBlks_cons ?_ ?_ | exact lws_nil | refine lws_cons ?_ ?_ | exact lb_dead | exact lb_same (by (first | assumption | exact noIds_encL (fun _ => rfl) _ | exact noIds_tab (fun _ => rfl) _ _ | rfl)) | exact lb_ro (by (first | assumption | exact noIds_encL (fun _ => rfl) _ | exact noIds_tab (fun _ => rfl) _ _ | rfl)) | exact lb_none | refine lb_cells ?_ (by simp) | exact lb_cap (Nat.le_refl _) (Nat.le_refl _) rfl rfl | exact lb_capn (by assumption) (by (first | assumption | exact noIds_encL (fun _ => rfl) _ | exact noIds_tab (fun _ => rfl) _ _ | rfl)) | exact lw_any | exact lw_int | exact lw_bool | exact lw_ptr rfl | exact lw_slo rfl | exact lw_nils | exact lw_slo_nils | exact lw_sl rfl | exact lw_noid rfl | exact lw_cap rfl (Nat.le_refl _) | refine lw_tup ?_ | refine lw_agg ?_ | assumption))⟩
      · have e : csL m q (wv, wh, wo) (lv, true, lo) = (m.bump, erA 0) := by simp only [csL, if_pos h, Int.toNat_natCast, getD_at hq, if_pos hl, if_neg hw]
        rw [e]
        simp only [wd_nat, wd_asV, wd_isV, wd_ix, wd_add, wd_mul, wd_ln, Nat.zero_add, Nat.mul_one, wd_isI, wd_asI, wd_isB, wd_asB, wd_nn, cI_tlen, cB_tlen, cII_tlen, decide_true, cond_true, wd_not_t, wd_not_f, wd_and_t, wd_and_f, lk_0 hq, lk_1 hq, lk_2' hq, lk_n, nt_lss, nt_eql, lkEq, decide_eq_false hw, wd_not_f, cond_false]
        (repeat (first | (with_reducible refine way_t (by (first | with_reducible rfl | exact t_le (by omega) | exact t_eq (by omega) | exact t_nn (by omega) | exact t_lss (by omega) | exact t_leq (by omega) | exact t_gtr (by omega) | exact t_geq (by omega) | exact t_eql (by omega) | exact t_neq (by omega) | exact t_z (by omega) | exact wd_not_f | assumption)) ?_) | (with_reducible refine way_f (by (first | with_reducible rfl | exact f_le (by omega) | exact f_eq (by omega) | exact f_nn (by omega) | exact f_lss (by omega) | exact f_leq (by omega) | exact f_gtr (by omega) | exact f_geq (by omega) | exact f_eql (by omega) | exact f_neq (by omega) | exact f_z (by omega) | exact wd_not_t | assumption)) ?_)))
        exact ⟨rfl, _, _, [.id 0, .id 1, .id 2, .id 3], ⟨rfl, rfl⟩, by (refine ⟨by kernel_rfl, ?_, ?_⟩ <;> repeat (first | exact okTms_nil | refine okTms_cons ?_ ?_ | exact okBlks_nil | refine okBlks_cons ?_ ?_ | exact lws_nil | refine lws_cons ?_ ?_ | exact lb_dead | exact lb_same (by (first | assumption | exact noIds_encL (fun _ => rfl) _ | exact noIds_tab (fun _ => rfl) _ _ | rfl)) | exact lb_ro (by (first | assumption | exact noIds_encL (fun _ => rfl) _ | exact noIds_tab (fun _ => rfl) _ _ | rfl)) | exact lb_none | refine lb_cells ?_ (by simp) | exact lb_cap (Nat.le_refl _) (Nat.le_refl _) rfl rfl | exact lb_capn (by assumption) (by (first | assumption | exact noIds_encL (fun _ => rfl) _ | exact noIds_tab (fun _ => rfl) _ _ | rfl)) | exact lw_any | exact lw_int | exact lw_bool | exact lw_ptr rfl | exact lw_slo rfl | exact lw_nils | exact lw_slo_nils | exact lw_sl rfl | exact lw_noid rfl | exact lw_cap rfl (Nat.le_refl _) | refine lw_tup ?_ | refine lw_agg ?_ | assumption))⟩
    · by_cases hw : m.L[q] = (wv, wh, wo)
      · have e : csL m q (wv, wh, wo) (lv, false, lo) = ({ m.bump with L := m.L.set q (lv, false, lo) }, (0, (0, false, 0), true, 0)) := by simp only [csL, if_pos h, Int.toNat_natCast, getD_at hq, if_pos hl, if_pos hw]
        rw [e]
        have st := lk_set hq (lv, false, lo)
        dsimp only at st
        simp only [wd_nat, wd_asV, wd_isV, wd_ix, wd_add, wd_mul, wd_ln, Nat.zero_add, Nat.mul_one, wd_isI, wd_asI, wd_isB, wd_asB, wd_nn, cI_tlen, cB_tlen, cII_tlen, decide_true, cond_true, wd_not_t, wd_not_f, wd_and_t, wd_and_f, lk_0 hq, lk_1 hq, lk_2' hq, lk_n, nt_lss, nt_eql, lkEq, decide_eq_true hw, wd_not_t, cond_false, st]
        (repeat (first | (with_reducible refine way_t (by (first | with_reducible rfl | exact t_le (by omega) | exact t_eq (by omega) | exact t_nn (by omega) | exact t_lss (by omega) | exact t_leq (by omega) | exact t_gtr (by omega) | exact t_geq (by omega) | exact t_eql (by omega) | exact t_neq (by omega) | exact t_z (by omega) | exact wd_not_f | assumption)) ?_) | (with_reducible refine way_f (by (first | with_reducible rfl | exact f_le (by omega) | exact f_eq (by omega) | exact f_nn (by omega) | exact f_lss (by omega) | exact f_leq (by omega) | exact f_gtr (by omega) | exact f_geq (by omega) | exact f_eql (by omega) | exact f_neq (by omega) | exact f_z (by omega) | exact wd_not_t | assumption)) ?_)))
        have ll : (m.L.set q (lv, false, lo)).length = m.L.length := List.length_set
        exact ⟨rfl, _, _, [.id 0, .id 1, .id 2, .id 3], ⟨rfl, rfl⟩, by simp only [rM, MS.bump, List.length_set]; (refine ⟨by kernel_rfl, ?_, ?_⟩ <;> repeat (first | exact okTms_nil | refine okTms_cons ?_ ?_ | exact okBlks_nil | refine okBlks_cons ?_ ?_ | exact lws_nil | refine lws_cons ?_ ?_ | exact lb_dead | exact lb_same (by (first | assumption | exact noIds_encL (fun _ => rfl) _ | exact noIds_tab (fun _ => rfl) _ _ | rfl)) | exact lb_ro (by (first | assumption | exact noIds_encL (fun _ => rfl) _ | exact noIds_tab (fun _ => rfl) _ _ | rfl)) | exact lb_none | refine lb_cells ?_ (by simp) | exact lb_cap (Nat.le_refl _) (Nat.le_refl _) rfl rfl | exact lb_capn (by assumption) (by (first | assumption | exact noIds_encL (fun _ => rfl) _ | exact noIds_tab (fun _ => rfl) _ _ | rfl)) | exact lw_any | exact lw_int | exact lw_bool | exact lw_ptr rfl | exact lw_slo rfl | exact lw_nils | exact lw_slo_nils | exact lw_sl rfl | exact lw_noid rfl | exact lw_cap rfl (Nat.le_refl _) | refine lw_tup ?_ | refine lw_agg ?_ | assumption))⟩
      · have e : csL m q (wv, wh, wo) (lv, false, lo) = (m.bump, erA 0) := by simp only [csL, if_pos h, Int.toNat_natCast, getD_at hq, if_pos hl, if_neg hw]
        rw [e]
        simp only [wd_nat, wd_asV, wd_isV, wd_ix, wd_add, wd_mul, wd_ln, Nat.zero_add, Nat.mul_one, wd_isI, wd_asI, wd_isB, wd_asB, wd_nn, cI_tlen, cB_tlen, cII_tlen, decide_true, cond_true, wd_not_t, wd_not_f, wd_and_t, wd_and_f, lk_0 hq, lk_1 hq, lk_2' hq, lk_n, nt_lss, nt_eql, lkEq, decide_eq_false hw, wd_not_f, cond_false]
        (repeat (first | (with_reducible refine way_t (by (first | with_reducible rfl | exact t_le (by omega) | exact t_eq (by omega) | exact t_nn (by omega) | exact t_lss (by omega) | exact t_leq (by omega) | exact t_gtr (by omega) | exact t_geq (by omega) | exact t_eql (by omega) | exact t_neq (by omega) | exact t_z (by omega) | exact wd_not_f | assumption)) ?_) | (with_reducible refine way_f (by (first | with_reducible rfl | exact f_le (by omega) | exact f_eq (by omega) | exact f_nn (by omega) | exact f_lss (by omega) | exact f_leq (by omega) | exact f_gtr (by omega) | exact f_geq (by omega) | exact f_eql (by omega) | exact f_neq (by omega) | exact f_z (by omega) | exact wd_not_t | assumption)) ?_)))
        exact ⟨rfl, _, _, [.id 0, .id 1, .id 2, .id 3], ⟨rfl, rfl⟩, by (refine ⟨by kernel_rfl, ?_, ?_⟩ <;> repeat (first | exact okTms_nil | refine okTms_cons ?_ ?_ | exact okBlks_nil | refine okBlks_cons ?_ ?_ | exact lws_nil | refine lws_cons ?_ ?_ | exact lb_dead | exact lb_same (by (first | assumption | exact noIds_encL (fun _ => rfl) _ | exact noIds_tab (fun _ => rfl) _ _ | rfl)) | exact lb_ro (by (first | assumption | exact noIds_encL (fun _ => rfl) _ | exact noIds_tab (fun _ => rfl) _ _ | rfl)) | exact lb_none | refine lb_cells ?_ (by simp) | exact lb_cap (Nat.le_refl _) (Nat.le_refl _) rfl rfl | exact lb_capn (by assumption) (by (first | assumption | exact noIds_encL (fun _ => rfl) _ | exact noIds_tab (fun _ => rfl) _ _ | rfl)) | exact lw_any | exact lw_int | exact lw_bool | exact lw_ptr rfl | exact lw_slo rfl | exact lw_nils | exact lw_slo_nils | exact lw_sl rfl | exact lw_noid rfl | exact lw_cap rfl (Nat.le_refl _) | refine lw_tup ?_ | refine lw_agg ?_ | assumption))⟩
    · have e : csL m q (wv, wh, wo) (lv, lh, lo) = (m, erA 1) := by simp only [csL, if_pos h, Int.toNat_natCast, hl]; rfl
      rw [e]
      simp only [wd_nat, wd_asV, wd_isV, wd_ix, wd_add, wd_mul, wd_ln, Nat.zero_add, Nat.mul_one, wd_isI, wd_asI, wd_isB, wd_asB, wd_nn, cI_tlen, cB_tlen, cII_tlen, decide_true, cond_true, wd_not_t, wd_not_f, wd_and_t, wd_and_f, nt_lss, nt_eql, cond_false]
      (repeat (first | (with_reducible refine way_t (by (first | with_reducible rfl | exact t_le (by omega) | exact t_eq (by omega) | exact t_nn (by omega) | exact t_lss (by omega) | exact t_leq (by omega) | exact t_gtr (by omega) | exact t_geq (by omega) | exact t_eql (by omega) | exact t_neq (by omega) | exact t_z (by omega) | exact wd_not_f | assumption)) ?_) | (with_reducible refine way_f (by (first | with_reducible rfl | exact f_le (by omega) | exact f_eq (by omega) | exact f_nn (by omega) | exact f_lss (by omega) | exact f_leq (by omega) | exact f_gtr (by omega) | exact f_geq (by omega) | exact f_eql (by omega) | exact f_neq (by omega) | exact f_z (by omega) | exact wd_not_t | assumption)) ?_)))
      exact ⟨rfl, _, _, [.id 0, .id 1, .id 2, .id 3], ⟨rfl, rfl⟩, by (refine ⟨by kernel_rfl, ?_, ?_⟩ <;> repeat (first | exact okTms_nil | refine okTms_cons ?_ ?_ | exact okBlks_nil | refine okBlks_cons ?_ ?_ | exact lws_nil | refine lws_cons ?_ ?_ | exact lb_dead | exact lb_same (by (first | assumption | exact noIds_encL (fun _ => rfl) _ | exact noIds_tab (fun _ => rfl) _ _ | rfl)) | exact lb_ro (by (first | assumption | exact noIds_encL (fun _ => rfl) _ | exact noIds_tab (fun _ => rfl) _ _ | rfl)) | exact lb_none | refine lb_cells ?_ (by simp) | exact lb_cap (Nat.le_refl _) (Nat.le_refl _) rfl rfl | exact lb_capn (by assumption) (by (first | assumption | exact noIds_encL (fun _ => rfl) _ | exact noIds_tab (fun _ => rfl) _ _ | rfl)) | exact lw_any | exact lw_int | exact lw_bool | exact lw_ptr rfl | exact lw_slo rfl | exact lw_nils | exact lw_slo_nils | exact lw_sl rfl | exact lw_noid rfl | exact lw_cap rfl (Nat.le_refl _) | refine lw_tup ?_ | refine lw_agg ?_ | assumption))⟩
    · have e : csL m q (wv, wh, wo) (lv, true, lo) = (m, erA 1) := by simp only [csL, if_pos h, Int.toNat_natCast, hl]; rfl
      rw [e]
      simp only [wd_nat, wd_asV, wd_isV, wd_ix, wd_add, wd_mul, wd_ln, Nat.zero_add, Nat.mul_one, wd_isI, wd_asI, wd_isB, wd_asB, wd_nn, cI_tlen, cB_tlen, cII_tlen, decide_true, cond_true, wd_not_t, wd_not_f, wd_and_t, wd_and_f, nt_lss, nt_eql, cond_false]
      (repeat (first | (with_reducible refine way_t (by (first | with_reducible rfl | exact t_le (by omega) | exact t_eq (by omega) | exact t_nn (by omega) | exact t_lss (by omega) | exact t_leq (by omega) | exact t_gtr (by omega) | exact t_geq (by omega) | exact t_eql (by omega) | exact t_neq (by omega) | exact t_z (by omega) | exact wd_not_f | assumption)) ?_) | (with_reducible refine way_f (by (first | with_reducible rfl | exact f_le (by omega) | exact f_eq (by omega) | exact f_nn (by omega) | exact f_lss (by omega) | exact f_leq (by omega) | exact f_gtr (by omega) | exact f_geq (by omega) | exact f_eql (by omega) | exact f_neq (by omega) | exact f_z (by omega) | exact wd_not_t | assumption)) ?_)))
      exact ⟨rfl, _, _, [.id 0, .id 1, .id 2, .id 3], ⟨rfl, rfl⟩, by (refine ⟨by kernel_rfl, ?_, ?_⟩ <;> repeat (first | exact okTms_nil | refine okTms_cons ?_ ?_ | exact okBlks_nil | refine okBlks_cons ?_ ?_ | exact lws_nil | refine lws_cons ?_ ?_ | exact lb_dead | exact lb_same (by (first | assumption | exact noIds_encL (fun _ => rfl) _ | exact noIds_tab (fun _ => rfl) _ _ | rfl)) | exact lb_ro (by (first | assumption | exact noIds_encL (fun _ => rfl) _ | exact noIds_tab (fun _ => rfl) _ _ | rfl)) | exact lb_none | refine lb_cells ?_ (by simp) | exact lb_cap (Nat.le_refl _) (Nat.le_refl _) rfl rfl | exact lb_capn (by assumption) (by (first | assumption | exact noIds_encL (fun _ => rfl) _ | exact noIds_tab (fun _ => rfl) _ _ | rfl)) | exact lw_any | exact lw_int | exact lw_bool | exact lw_ptr rfl | exact lw_slo rfl | exact lw_nils | exact lw_slo_nils | exact lw_sl rfl | exact lw_noid rfl | exact lw_cap rfl (Nat.le_refl _) | refine lw_tup ?_ | refine lw_agg ?_ | assumption))⟩
    · have e : csL m q (wv, wh, wo) (lv, true, lo) = (m, erA 1) := by simp only [csL, if_pos h, Int.toNat_natCast, hl]; rfl
      rw [e]
      simp only [wd_nat, wd_asV, wd_isV, wd_ix, wd_add, wd_mul, wd_ln, Nat.zero_add, Nat.mul_one, wd_isI, wd_asI, wd_isB, wd_asB, wd_nn, cI_tlen, cB_tlen, cII_tlen, decide_true, cond_true, wd_not_t, wd_not_f, wd_and_t, wd_and_f, nt_lss, nt_eql, cond_false]
      (repeat (first | (with_reducible refine way_t (by (first | with_reducible rfl | exact t_le (by omega) | exact t_eq (by omega) | exact t_nn (by omega) | exact t_lss (by omega) | exact t_leq (by omega) | exact t_gtr (by omega) | exact t_geq (by omega) | exact t_eql (by omega) | exact t_neq (by omega) | exact t_z (by omega) | exact wd_not_f | assumption)) ?_) | (with_reducible refine way_f (by (first | with_reducible rfl | exact f_le (by omega) | exact f_eq (by omega) | exact f_nn (by omega) | exact f_lss (by omega) | exact f_leq (by omega) | exact f_gtr (by omega) | exact f_geq (by omega) | exact f_eql (by omega) | exact f_neq (by omega) | exact f_z (by omega) | exact wd_not_t | assumption)) ?_)))
      exact ⟨rfl, _, _, [.id 0, .id 1, .id 2, .id 3], ⟨rfl, rfl⟩, by (refine ⟨by kernel_rfl, ?_, ?_⟩ <;> repeat (first | exact okTms_nil | refine okTms_cons ?_ ?_ | exact okBlks_nil | refine okBlks_cons ?_ ?_ | exact lws_nil | refine lws_cons ?_ ?_ | exact lb_dead | exact lb_same (by (first | assumption | exact noIds_encL (fun _ => rfl) _ | exact noIds_tab (fun _ => rfl) _ _ | rfl)) | exact lb_ro (by (first | assumption | exact noIds_encL (fun _ => rfl) _ | exact noIds_tab (fun _ => rfl) _ _ | rfl)) | exact lb_none | refine lb_cells ?_ (by simp) | exact lb_cap (Nat.le_refl _) (Nat.le_refl _) rfl rfl | exact lb_capn (by assumption) (by (first | assumption | exact noIds_encL (fun _ => rfl) _ | exact noIds_tab (fun _ => rfl) _ _ | rfl)) | exact lw_any | exact lw_int | exact lw_bool | exact lw_ptr rfl | exact lw_slo rfl | exact lw_nils | exact lw_slo_nils | exact lw_sl rfl | exact lw_noid rfl | exact lw_cap rfl (Nat.le_refl _) | refine lw_tup ?_ | refine lw_agg ?_ | assumption))⟩
    · have e : csL m q (wv, wh, wo) (lv, false, lo) = (m, erA 1) := by simp only [csL, if_pos h, Int.toNat_natCast, hl]; rfl
      rw [e]
      simp only [wd_nat, wd_asV, wd_isV, wd_ix, wd_add, wd_mul, wd_ln, Nat.zero_add, Nat.mul_one, wd_isI, wd_asI, wd_isB, wd_asB, wd_nn, cI_tlen, cB_tlen, cII_tlen, decide_true, cond_true, wd_not_t, wd_not_f, wd_and_t, wd_and_f, nt_lss, nt_eql, cond_false]
      (repeat (first | (with_reducible refine way_t (by (first | with_reducible rfl | exact t_le (by omega) | exact t_eq (by omega) | exact t_nn (by omega) | exact t_lss (by omega) | exact t_leq (by omega) | exact t_gtr (by omega) | exact t_geq (by omega) | exact t_eql (by omega) | exact t_neq (by omega) | exact t_z (by omega) | exact wd_not_f | assumption)) ?_) | (with_reducible refine way_f (by (first | with_reducible rfl | exact f_le (by omega) | exact f_eq (by omega) | exact f_nn (by omega) | exact f_lss (by omega) | exact f_leq (by omega) | exact f_gtr (by omega) | exact f_geq (by omega) | exact f_eql (by omega) | exact f_neq (by omega) | exact f_z (by omega) | exact wd_not_t | assumption)) ?_)))
      exact ⟨rfl, _, _, [.id 0, .id 1, .id 2, .id 3], ⟨rfl, rfl⟩, by (refine ⟨by kernel_rfl, ?_, ?_⟩ <;> repeat (first | exact okTms_nil | refine okTms_cons ?_ ?_ | exact okBlks_nil | refine okBlks_cons ?_ ?_ | exact lws_nil | refine lws_cons ?_ ?_ | exact lb_dead | exact lb_same (by (first | assumption | exact noIds_encL (fun _ => rfl) _ | exact noIds_tab (fun _ => rfl) _ _ | rfl)) | exact lb_ro (by (first | assumption | exact noIds_encL (fun _ => rfl) _ | exact noIds_tab (fun _ => rfl) _ _ | rfl)) | exact lb_none | refine lb_cells ?_ (by simp) | exact lb_cap (Nat.le_refl _) (Nat.le_refl _) rfl rfl | exact lb_capn (by assumption) (by (first | assumption | exact noIds_encL (fun _ => rfl) _ | exact noIds_tab (fun _ => rfl) _ _ | rfl)) | exact lw_any | exact lw_int | exact lw_bool | exact lw_ptr rfl | exact lw_slo rfl | exact lw_nils | exact lw_slo_nils | exact lw_sl rfl | exact lw_noid rfl | exact lw_cap rfl (Nat.le_refl _) | refine lw_tup ?_ | refine lw_agg ?_ | assumption))⟩
    · have e : csL m q (wv, wh, wo) (lv, false, lo) = (m, erA 1) := by simp only [csL, if_pos h, Int.toNat_natCast, hl]; rfl
      rw [e]
      simp only [wd_nat, wd_asV, wd_isV, wd_ix, wd_add, wd_mul, wd_ln, Nat.zero_add, Nat.mul_one, wd_isI, wd_asI, wd_isB, wd_asB, wd_nn, cI_tlen, cB_tlen, cII_tlen, decide_true, cond_true, wd_not_t, wd_not_f, wd_and_t, wd_and_f, nt_lss, nt_eql, cond_false]
      (repeat (first | (with_reducible refine way_t (by (first | with_reducible rfl | exact t_le (by omega) | exact t_eq (by omega) | exact t_nn (by omega) | exact t_lss (by omega) | exact t_leq (by omega) | exact t_gtr (by omega) | exact t_geq (by omega) | exact t_eql (by omega) | exact t_neq (by omega) | exact t_z (by omega) | exact wd_not_f | assumption)) ?_) | (with_reducible refine way_f (by (first | with_reducible rfl | exact f_le (by omega) | exact f_eq (by omega) | exact f_nn (by omega) | exact f_lss (by omega) | exact f_leq (by omega) | exact f_gtr (by omega) | exact f_geq (by omega) | exact f_eql (by omega) | exact f_neq (by omega) | exact f_z (by omega) | exact wd_not_t | assumption)) ?_)))
      exact ⟨rfl, _, _, [.id 0, .id 1, .id 2, .id 3], ⟨rfl, rfl⟩, by (refine ⟨by kernel_rfl, ?_, ?_⟩ <;> repeat (first | exact okTms_nil | refine okTms_cons ?_ ?_ | exact okBlks_nil | refine okBlks_cons ?_ ?_ | exact lws_nil | refine lws_cons ?_ ?_ | exact lb_dead | exact lb_same (by (first | assumption | exact noIds_encL (fun _ => rfl) _ | exact noIds_tab (fun _ => rfl) _ _ | rfl)) | exact lb_ro (by (first | assumption | exact noIds_encL (fun _ => rfl) _ | exact noIds_tab (fun _ => rfl) _ _ | rfl)) | exact lb_none | refine lb_cells ?_ (by simp) | exact lb_cap (Nat.le_refl _) (Nat.le_refl _) rfl rfl | exact lb_capn (by assumption) (by (first | assumption | exact noIds_encL (fun _ => rfl) _ | exact noIds_tab (fun _ => rfl) _ _ | rfl)) | exact lw_any | exact lw_int | exact lw_bool | exact lw_ptr rfl | exact lw_slo rfl | exact lw_nils | exact lw_slo_nils | exact lw_sl rfl | exact lw_noid rfl | exact lw_cap rfl (Nat.le_refl _) | refine lw_tup ?_ | refine lw_agg ?_ | assumption))⟩
  · have e : csL m a (wv, wh, wo) (lv, lh, lo) = (m, erA 2) := if_neg h
    rw [e]
    by_cases h1 : a < 0
    · (repeat (first | (with_reducible refine way_t (by (first | with_reducible rfl | exact t_le (by omega) | exact t_eq (by omega) | exact t_nn (by omega) | exact t_lss (by omega) | exact t_leq (by omega) | exact t_gtr (by omega) | exact t_geq (by omega) | exact t_eql (by omega) | exact t_neq (by omega) | exact t_z (by omega) | exact wd_not_f | assumption)) ?_) | (with_reducible refine way_f (by (first | with_reducible rfl | exact f_le (by omega) | exact f_eq (by omega) | exact f_nn (by omega) | exact f_lss (by omega) | exact f_leq (by omega) | exact f_gtr (by omega) | exact f_geq (by omega) | exact f_eql (by omega) | exact f_neq (by omega) | exact f_z (by omega) | exact wd_not_t | assumption)) ?_)))
      exact ⟨rfl, _, _, [.id 0, .id 1, .id 2, .id 3], ⟨rfl, rfl⟩, by (refine ⟨by kernel_rfl, ?_, ?_⟩ <;> repeat (first | exact okTms_nil | refine okTms_cons ?_ ?_ | exact okBlks_nil | refine okBlks_cons ?_ ?_ | exact lws_nil | refine lws_cons ?_ ?_ | exact lb_dead | exact lb_same (by (first | assumption | exact noIds_encL (fun _ => rfl) _ | exact noIds_tab (fun _ => rfl) _ _ | rfl)) | exact lb_ro (by (first | assumption | exact noIds_encL (fun _ => rfl) _ | exact noIds_tab (fun _ => rfl) _ _ | rfl)) | exact lb_none | refine lb_cells ?_ (by simp) | exact lb_cap (Nat.le_refl _) (Nat.le_refl _) rfl rfl | exact lb_capn (by assumption) (by (first | assumption | exact noIds_encL (fun _ => rfl) _ | exact noIds_tab (fun _ => rfl) _ _ | rfl)) | exact lw_any | exact lw_int | exact lw_bool | exact lw_ptr rfl | exact lw_slo rfl | exact lw_nils | exact lw_slo_nils | exact lw_sl rfl | exact lw_noid rfl | exact lw_cap rfl (Nat.le_refl _) | refine lw_tup ?_ | refine lw_agg ?_ | assumption))⟩
    · (repeat (first | (with_reducible refine way_t (by (first | with_reducible rfl | exact t_le (by omega) | exact t_eq (by omega) | exact t_nn (by omega) | exact t_lss (by omega) | exact t_leq (by omega) | exact t_gtr (by omega) | exact t_geq (by omega) | exact t_eql (by omega) | exact t_neq (by omega) | exact t_z (by omega) | exact wd_not_f | assumption)) ?_) | (with_reducible refine way_f (by (first | with_reducible rfl | exact f_le (by omega) | exact f_eq (by omega) | exact f_nn (by omega) | exact f_lss (by omega) | exact f_leq (by omega) | exact f_gtr (by omega) | exact f_geq (by omega) | exact f_eql (by omega) | exact f_neq (by omega) | exact f_z (by omega) | exact wd_not_t | assumption)) ?_)))
      exact ⟨rfl, _, _, [.id 0, .id 1, .id 2, .id 3], ⟨rfl, rfl⟩, by (refine ⟨by kernel_rfl, ?_, ?_⟩ <;> repeat (first | exact okTms_nil | refine okTms_cons ?_ ?_ | exact okBlks_nil | refine okBlks_cons ?_ ?_ | exact lws_nil | refine lws_cons ?_ ?_ | exact lb_dead | exact lb_same (by (first | assumption | exact noIds_encL (fun _ => rfl) _ | exact noIds_tab (fun _ => rfl) _ _ | rfl)) | exact lb_ro (by (first | assumption | exact noIds_encL (fun _ => rfl) _ | exact noIds_tab (fun _ => rfl) _ _ | rfl)) | exact lb_none | refine lb_cells ?_ (by simp) | exact lb_cap (Nat.le_refl _) (Nat.le_refl _) rfl rfl | exact lb_capn (by assumption) (by (first | assumption | exact noIds_encL (fun _ => rfl) _ | exact noIds_tab (fun _ => rfl) _ _ | rfl)) | exact lw_any | exact lw_int | exact lw_bool | exact lw_ptr rfl | exact lw_slo rfl | exact lw_nils | exact lw_slo_nils | exact lw_sl rfl | exact lw_noid rfl | exact lw_cap rfl (Nat.le_refl _) | refine lw_tup ?_ | refine lw_agg ?_ | assumption))⟩
theorem rdo_5 (a old w wv : Int) (wh : Bool) (wo lv : Int) (lh : Bool) (lo sa sb sc sd se : Int) (m : MS) (hm : m.ok) : SFun Go.Proofs.Try.prog 28 [.ptr 0 0, .agg (opC 5 a old w wv wh wo lv lh lo)] (mkS (rM sa sb sc sd se m))
    fun l s => l = .agg (ansL (stL m a (lv, lh, lo)).2) ∧ s = mkS (rM sa sb sc sd se (stL m a (lv, lh, lo)).1) := by
  refine SFun.mono (SFun.vc (Q := fun l b => l = .agg (ansL (stL m a (lv, lh, lo)).2) ∧ b = rM sa sb sc sd se (stL m a (lv, lh, lo)).1) noCx_ok (n := 60) 4 rfl ?_) fun l s' ⟨b0, ⟨h1, h2⟩, h3⟩ => ⟨h1, by rw [h3, h2]⟩
  have n1 := noIds_Iu64 m.W
  have n2 := noids_l m.L
  have n3 := noIds_Iu64 m.S
  have b1 := hm.w
  have b2 := hm.l
  have b3 := hm.s
  rw [rdo5]
  by_cases h : 0 ≤ a ∧ a < m.L.length
  · obtain ⟨q, rfl⟩ := Int.eq_ofNat_of_zero_le (show 0 ≤ a by omega)
    have hq : q < m.L.length := by omega
    rcases isLk_cases lv lh lo with ⟨hl, hv, ⟨rfl, ho, ho2⟩ | ⟨rfl, ho⟩⟩ | ⟨hl, hv | ⟨hv, rfl, ho⟩ | ⟨hv, rfl, ho⟩ | ⟨hv, rfl, ho⟩ | ⟨hv, rfl, ho⟩⟩
    · have e : stL m q (lv, true, lo) = ({ m.bump with L := m.L.set q (lv, true, lo) }, erA 0) := by simp only [stL, if_pos h, Int.toNat_natCast, if_pos hl]
      rw [e]
      have st := lk_set hq (lv, true, lo)
      dsimp only at st
      simp only [wd_nat, wd_asV, wd_isV, wd_ix, wd_add, wd_mul, wd_ln, Nat.zero_add, Nat.mul_one, wd_isI, wd_asI, wd_isB, wd_asB, wd_nn, cI_tlen, cB_tlen, cII_tlen, decide_true, cond_true, wd_not_t, wd_not_f, wd_and_t, wd_and_f, lk_n, nt_lss, nt_eql, cond_false, st]
      (repeat (first | (with_reducible refine way_t (by (first | with_reducible rfl | exact t_le (by omega) | exact t_eq (by omega) | exact t_nn (by omega) | exact t_lss (by omega) | exact t_leq (by omega) | exact t_gtr (by omega) | exact t_geq (by omega) | exact t_eql (by omega) | exact t_neq (by omega) | exact t_z (by omega) | exact wd_not_f | assumption)) ?_) | (with_reducible refine way_f (by (first | with_reducible rfl | exact f_le (by omega) | exact f_eq (by omega) | exact f_nn (by omega) | exact f_lss (by omega) | exact f_leq (by omega) | exact f_gtr (by omega) | exact f_geq (by omega) | exact f_eql (by omega) | exact f_neq (by omega) | exact f_z (by omega) | exact wd_not_t | assumption)) ?_)))
      have ll : (m.L.set q (lv, true, lo)).length = m.L.length := List.length_set
      exact ⟨rfl, _, _, [.id 0, .id 1, .id 2, .id 3], ⟨rfl, rfl⟩, by simp only [rM, MS.bump, List.length_set]; (refine ⟨by kernel_rfl, ?_, ?_⟩ <;> repeat (first | exact okTms_nil | refine okTms_cons ?_ ?_ | exact okBlks_nil | refine okBlks_cons ?_ ?_ | exact lws_nil | refine lws_cons ?_ ?_ | exact lb_dead | exact lb_same (by (first | assumption | exact noIds_encL (fun _ => rfl) _ | exact noIds_tab (fun _ => rfl) _ _ | rfl)) | exact lb_ro (by (first | assumption | exact noIds_encL (fun _ => rfl) _ | exact noIds_tab (fun _ => rfl) _ _ | rfl)) | exact lb_none | refine lb_cells ?_ (by simp) | exact lb_cap (Nat.le_refl _) (Nat.le_refl _) rfl rfl | exact lb_capn (by assumption) (by (first | assumption | exact noIds_encL (fun _ => rfl) _ | exact noIds_tab (fun _ => rfl) _ _ | rfl)) | exact lw_any | exact lw_int | exact lw_bool | exact lw_ptr rfl | exact lw_slo rfl | exact lw_nils | exact lw_slo_nils | exact lw_sl rfl | exact lw_noid rfl | exact lw_cap rfl (Nat.le_refl _) | refine lw_tup ?_ | refine lw_agg ?_ | assumption))⟩
    · have e : stL m q (lv, false, lo) = ({ m.bump with L := m.L.set q (lv, false, lo) }, erA 0) := by simp only [stL, if_pos h, Int.toNat_natCast, if_pos hl]
      rw [e]
      have st := lk_set hq (lv, false, lo)
      dsimp only at st
      simp only [wd_nat, wd_asV, wd_isV, wd_ix, wd_add, wd_mul, wd_ln, Nat.zero_add, Nat.mul_one, wd_isI, wd_asI, wd_isB, wd_asB, wd_nn, cI_tlen, cB_tlen, cII_tlen, decide_true, cond_true, wd_not_t, wd_not_f, wd_and_t, wd_and_f, lk_n, nt_lss, nt_eql, cond_false, st]
      (repeat (first | (with_reducible refine way_t (by (first | with_reducible rfl | exact t_le (by omega) | exact t_eq (by omega) | exact t_nn (by omega) | exact t_lss (by omega) | exact t_leq (by omega) | exact t_gtr (by omega) | exact t_geq (by omega) | exact t_eql (by omega) | exact t_neq (by omega) | exact t_z (by omega) | exact wd_not_f | assumption)) ?_) | (with_reducible refine way_f (by (first | with_reducible rfl | exact f_le (by omega) | exact f_eq (by omega) | exact f_nn (by omega) | exact f_lss (by omega) | exact f_leq (by omega) | exact f_gtr (by omega) | exact f_geq (by omega) | exact f_eql (by omega) | exact f_neq (by omega) | exact f_z (by omega) | exact wd_not_t | assumption)) ?_)))
      have ll : (m.L.set q (lv, false, lo)).length = m.L.length := List.length_set
      exact ⟨rfl, _, _, [.id 0, .id 1, .id 2, .id 3], ⟨rfl, rfl⟩, by simp only [rM, MS.bump, List.length_set]; (refine ⟨by kernel_rfl, ?_, ?_⟩ <;> repeat (first | exact okTms_nil | refine okTms_cons ?_ ?_ | exact okBlks_nil | refine okBlks_cons ?_ ?_ | exact lws_nil | refine lws_cons ?_ ?_ | exact lb_dead | exact lb_same (by (first | assumption | exact noIds_encL (fun _ => rfl) _ | exact noIds_tab (fun _ => rfl) _ _ | rfl)) | exact lb_ro (by (first | assumption | exact noIds_encL (fun _ => rfl) _ | exact noIds_tab (fun _ => rfl) _ _ | rfl)) | exact lb_none | refine lb_cells ?_ (by simp) | exact lb_cap (Nat.le_refl _) (Nat.le_refl _) rfl rfl | exact lb_capn (by assumption) (by (first | assumption | exact noIds_encL (fun _ => rfl) _ | exact noIds_tab (fun _ => rfl) _ _ | rfl)) | exact lw_any | exact lw_int | exact lw_bool | exact lw_ptr rfl | exact lw_slo rfl | exact lw_nils | exact lw_slo_nils | exact lw_sl rfl | exact lw_noid rfl | exact lw_cap rfl (Nat.le_refl _) | refine lw_tup ?_ | refine lw_agg ?_ | assumption))⟩
    · have e : stL m q (lv, lh, lo) = (m, erA 1) := by simp only [stL, if_pos h, hl]; rfl
      rw [e]
      simp only [wd_nat, wd_asV, wd_isV, wd_ix, wd_add, wd_mul, wd_ln, Nat.zero_add, Nat.mul_one, wd_isI, wd_asI, wd_isB, wd_asB, wd_nn, cI_tlen, cB_tlen, cII_tlen, decide_true, cond_true, wd_not_t, wd_not_f, wd_and_t, wd_and_f, nt_lss, nt_eql, cond_false]
      (repeat (first | (with_reducible refine way_t (by (first | with_reducible rfl | exact t_le (by omega) | exact t_eq (by omega) | exact t_nn (by omega) | exact t_lss (by omega) | exact t_leq (by omega) | exact t_gtr (by omega) | exact t_geq (by omega) | exact t_eql (by omega) | exact t_neq (by omega) | exact t_z (by omega) | exact wd_not_f | assumption)) ?_) | (with_reducible refine way_f (by (first | with_reducible rfl | exact f_le (by omega) | exact f_eq (by omega) | exact f_nn (by omega) | exact f_lss (by omega) | exact f_leq (by omega) | exact f_gtr (by omega) | exact f_geq (by omega) | exact f_eql (by omega) | exact f_neq (by omega) | exact f_z (by omega) | exact wd_not_t | assumption)) ?_)))
      exact ⟨rfl, _, _, [.id 0, .id 1, .id 2, .id 3], ⟨rfl, rfl⟩, by (refine ⟨by kernel_rfl, ?_, ?_⟩ <;> repeat (first | exact okTms_nil | refine okTms_cons ?_ ?_ | exact okBlks_nil | refine okBlks_cons ?_ ?_ | exact lws_nil | refine lws_cons ?_ ?_ | exact lb_dead | exact lb_same (by (first | assumption | exact noIds_encL (fun _ => rfl) _ | exact noIds_tab (fun _ => rfl) _ _ | rfl)) | exact lb_ro (by (first | assumption | exact noIds_encL (fun _ => rfl) _ | exact noIds_tab (fun _ => rfl) _ _ | rfl)) | exact lb_none | refine lb_cells ?_ (by simp) | exact lb_cap (Nat.le_refl _) (Nat.le_refl _) rfl rfl | exact lb_capn (by assumption) (by (first | assumption | exact noIds_encL (fun _ => rfl) _ | exact noIds_tab (fun _ => rfl) _ _ | rfl)) | exact lw_any | exact lw_int | exact lw_bool | exact lw_ptr rfl | exact lw_slo rfl | exact lw_nils | exact lw_slo_nils | exact lw_sl rfl | exact lw_noid rfl | exact lw_cap rfl (Nat.le_refl _) | refine lw_tup ?_ | refine lw_agg ?_ | assumption))⟩
    · have e : stL m q (lv, true, lo) = (m, erA 1) := by simp only [stL, if_pos h, hl]; rfl
      rw [e]
      simp only [wd_nat, wd_asV, wd_isV, wd_ix, wd_add, wd_mul, wd_ln, Nat.zero_add, Nat.mul_one, wd_isI, wd_asI, wd_isB, wd_asB, wd_nn, cI_tlen, cB_tlen, cII_tlen, decide_true, cond_true, wd_not_t, wd_not_f, wd_and_t, wd_and_f, nt_lss, nt_eql, cond_false]
      (repeat (first | (with_reducible refine way_t (by (first | with_reducible rfl | exact t_le (by omega) | exact t_eq (by omega) | exact t_nn (by omega) | exact t_lss (by omega) | exact t_leq (by omega) | exact t_gtr (by omega) | exact t_geq (by omega) | exact t_eql (by omega) | exact t_neq (by omega) | exact t_z (by omega) | exact wd_not_f | assumption)) ?_) | (with_reducible refine way_f (by (first | with_reducible rfl | exact f_le (by omega) | exact f_eq (by omega) | exact f_nn (by omega) | exact f_lss (by omega) | exact f_leq (by omega) | exact f_gtr (by omega) | exact f_geq (by omega) | exact f_eql (by omega) | exact f_neq (by omega) | exact f_z (by omega) | exact wd_not_t | assumption)) ?_)))
      exact ⟨rfl, _, _, [.id 0, .id 1, .id 2, .id 3], ⟨rfl, rfl⟩, by (refine ⟨by kernel_rfl, ?_, ?_⟩ <;> repeat (first | exact okTms_nil | refine okTms_cons ?_ ?_ | exact okBlks_nil | refine okBlks_cons ?_ ?_ | exact lws_nil | refine lws_cons ?_ ?_ | exact lb_dead | exact lb_same (by (first | assumption | exact noIds_encL (fun _ => rfl) _ | exact noIds_tab (fun _ => rfl) _ _ | rfl)) | exact lb_ro (by (first | assumption | exact noIds_encL (fun _ => rfl) _ | exact noIds_tab (fun _ => rfl) _ _ | rfl)) | exact lb_none | refine lb_cells ?_ (by simp) | exact lb_cap (Nat.le_refl _) (Nat.le_refl _) rfl rfl | exact lb_capn (by assumption) (by (first | assumption | exact noIds_encL (fun _ => rfl) _ | exact noIds_tab (fun _ => rfl) _ _ | rfl)) | exact lw_any | exact lw_int | exact lw_bool | exact lw_ptr rfl | exact lw_slo rfl | exact lw_nils | exact lw_slo_nils | exact lw_sl rfl | exact lw_noid rfl | exact lw_cap rfl (Nat.le_refl _) | refine lw_tup ?_ | refine lw_agg ?_ | assumption))⟩
    · have e : stL m q (lv, true, lo) = (m, erA 1) := by simp only [stL, if_pos h, hl]; rfl
      rw [e]
      simp only [wd_nat, wd_asV, wd_isV, wd_ix, wd_add, wd_mul, wd_ln, Nat.zero_add, Nat.mul_one, wd_isI, wd_asI, wd_isB, wd_asB, wd_nn, cI_tlen, cB_tlen, cII_tlen, decide_true, cond_true, wd_not_t, wd_not_f, wd_and_t, wd_and_f, nt_lss, nt_eql, cond_false]
      (repeat (first | (with_reducible refine way_t (by (first | with_reducible rfl | exact t_le (by omega) | exact t_eq (by omega) | exact t_nn (by omega) | exact t_lss (by omega) | exact t_leq (by omega) | exact t_gtr (by omega) | exact t_geq (by omega) | exact t_eql (by omega) | exact t_neq (by omega) | exact t_z (by omega) | exact wd_not_f | assumption)) ?_) | (with_reducible refine way_f (by (first | with_reducible rfl | exact f_le (by omega) | exact f_eq (by omega) | exact f_nn (by omega) | exact f_lss (by omega) | exact f_leq (by omega) | exact f_gtr (by omega) | exact f_geq (by omega) | exact f_eql (by omega) | exact f_neq (by omega) | exact f_z (by omega) | exact wd_not_t | assumption)) ?_)))
      exact ⟨rfl, _, _, [.id 0, .id 1, .id 2, .id 3], ⟨rfl, rfl⟩, by (refine ⟨by kernel_rfl, ?_, ?_⟩ <;> repeat (first | exact okTms_nil | refine okTms_cons ?_ ?_ | exact okBlks_nil | refine okBlks_cons ?_ ?_ | exact lws_nil | refine lws_cons ?_ ?_ | exact lb_dead | exact lb_same (by (first | assumption | exact noIds_encL (fun _ => rfl) _ | exact noIds_tab (fun _ => rfl) _ _ | rfl)) | exact lb_ro (by (first | assumption | exact noIds_encL (fun _ => rfl) _ | exact noIds_tab (fun _ => rfl) _ _ | rfl)) | exact lb_none | refine lb_cells ?_ (by simp) | exact lb_cap (Nat.le_refl _) (Nat.le_refl _) rfl rfl | exact lb_capn (by assumption) (by (first | assumption | exact noIds_encL (fun _ => rfl) _ | exact noIds_tab (fun _ => rfl) _ _ | rfl)) | exact lw_any | exact lw_int | exact lw_bool | exact lw_ptr rfl | exact lw_slo rfl | exact lw_nils | exact lw_slo_nils | exact lw_sl rfl | exact lw_noid rfl | exact lw_cap rfl (Nat.le_refl _) | refine lw_tup ?_ | refine lw_agg ?_ | assumption))⟩
    · have e : stL m q (lv, false, lo) = (m, erA 1) := by simp only [stL, if_pos h, hl]; rfl
      rw [e]
      simp only [wd_nat, wd_asV, wd_isV, wd_ix, wd_add, wd_mul, wd_ln, Nat.zero_add, Nat.mul_one, wd_isI, wd_asI, wd_isB, wd_asB, wd_nn, cI_tlen, cB_tlen, cII_tlen, decide_true, cond_true, wd_not_t, wd_not_f, wd_and_t, wd_and_f, nt_lss, nt_eql, cond_false]
      (repeat (first | (with_reducible refine way_t (by (first | with_reducible rfl | exact t_le (by omega) | exact t_eq (by omega) | exact t_nn (by omega) | exact t_lss (by omega) | exact t_leq (by omega) | exact t_gtr (by omega) | exact t_geq (by omega) | exact t_eql (by omega) | exact t_neq (by omega) | exact t_z (by omega) | exact wd_not_f | assumption)) ?_) | (with_reducible refine way_f (by (first | with_reducible rfl | exact f_le (by omega) | exact f_eq (by omega) | exact f_nn (by omega) | exact f_lss (by omega) | exact f_leq (by omega) | exact f_gtr (by omega) | exact f_geq (by omega) | exact f_eql (by omega) | exact f_neq (by omega) | exact f_z (by omega) | exact wd_not_t | assumption)) ?_)))
      exact ⟨rfl, _, _, [.id 0, .id 1, .id 2, .id 3], ⟨rfl, rfl⟩, by (refine ⟨by kernel_rfl, ?_, ?_⟩ <;> repeat (first | exact okTms_nil | refine okTms_cons ?_ ?_ | exact okBlks_nil | refine okBlks_cons ?_ ?_ | exact lws_nil | refine lws_cons ?_ ?_ | exact lb_dead | exact lb_same (by (first | assumption | exact noIds_encL (fun _ => rfl) _ | exact noIds_tab (fun _ => rfl) _ _ | rfl)) | exact lb_ro (by (first | assumption | exact noIds_encL (fun _ => rfl) _ | exact noIds_tab (fun _ => rfl) _ _ | rfl)) | exact lb_none | refine lb_cells ?_ (by simp) | exact lb_cap (Nat.le_refl _) (Nat.le_refl _) rfl rfl | exact lb_capn (by assumption) (by (first | assumption | exact noIds_encL (fun _ => rfl) _ | exact noIds_tab (fun _ => rfl) _ _ | rfl)) | exact lw_any | exact lw_int | exact lw_bool | exact lw_ptr rfl | exact lw_slo rfl | exact lw_nils | exact lw_slo_nils | exact lw_sl rfl | exact lw_noid rfl | exact lw_cap rfl (Nat.le_refl _) | refine lw_tup ?_ | refine lw_agg ?_ | assumption))⟩
    · have e : stL m q (lv, false, lo) = (m, erA 1) := by simp only [stL, if_pos h, hl]; rfl
      rw [e]
      simp only [wd_nat, wd_asV, wd_isV, wd_ix, wd_add, wd_mul, wd_ln, Nat.zero_add, Nat.mul_one, wd_isI, wd_asI, wd_isB, wd_asB, wd_nn, cI_tlen, cB_tlen, cII_tlen, decide_true, cond_true, wd_not_t, wd_not_f, wd_and_t, wd_and_f, nt_lss, nt_eql, cond_false]
      (repeat (first | (with_reducible refine way_t (by (first | with_reducible rfl | exact t_le (by omega) | exact t_eq (by omega) | exact t_nn (by omega) | exact t_lss (by omega) | exact t_leq (by omega) | exact t_gtr (by omega) | exact t_geq (by omega) | exact t_eql (by omega) | exact t_neq (by omega) | exact t_z (by omega) | exact wd_not_f | assumption)) ?_) | (with_reducible refine way_f (by (first | with_reducible rfl | exact f_le (by omega) | exact f_eq (by omega) | exact f_nn (by omega) | exact f_lss (by omega) | exact f_leq (by omega) | exact f_gtr (by omega) | exact f_geq (by omega) | exact f_eql (by omega) | exact f_neq (by omega) | exact f_z (by omega) | exact wd_not_t | assumption)) ?_)))
      exact ⟨rfl, _, _, [.id 0, .id 1, .id 2, .id 3], ⟨rfl, rfl⟩, by (refine ⟨by kernel_rfl, ?_, ?_⟩ <;> repeat (first | exact okTms_nil | refine okTms_cons ?_ ?_ | exact okBlks_nil | refine okBlks_cons ?_ ?_ | exact lws_nil | refine lws_cons ?_ ?_ | exact lb_dead | exact lb_same (by (first | assumption | exact noIds_encL (fun _ => rfl) _ | exact noIds_tab (fun _ => rfl) _ _ | rfl)) | exact lb_ro (by (first | assumption | exact noIds_encL (fun _ => rfl) _ | exact noIds_tab (fun _ => rfl) _ _ | rfl)) | exact lb_none | refine lb_cells ?_ (by simp) | exact lb_cap (Nat.le_refl _) (Nat.le_refl _) rfl rfl | exact lb_capn (by assumption) (by (first | assumption | exact noIds_encL (fun _ => rfl) _ | exact noIds_tab (fun _ => rfl) _ _ | rfl)) | exact lw_any | exact lw_int | exact lw_bool | exact lw_ptr rfl | exact lw_slo rfl | exact lw_nils | exact lw_slo_nils | exact lw_sl rfl | exact lw_noid rfl | exact lw_cap rfl (Nat.le_refl _) | refine lw_tup ?_ | refine lw_agg ?_ | assumption))⟩
  · have e : stL m a (lv, lh, lo) = (m, erA 2) := if_neg h
    rw [e]
    by_cases h1 : a < 0
    · (repeat (first | (with_reducible refine way_t (by (first | with_reducible rfl | exact t_le (by omega) | exact t_eq (by omega) | exact t_nn (by omega) | exact t_lss (by omega) | exact t_leq (by omega) | exact t_gtr (by omega) | exact t_geq (by omega) | exact t_eql (by omega) | exact t_neq (by omega) | exact t_z (by omega) | exact wd_not_f | assumption)) ?_) | (with_reducible refine way_f (by (first | with_reducible rfl | exact f_le (by omega) | exact f_eq (by omega) | exact f_nn (by omega) | exact f_lss (by omega) | exact f_leq (by omega) | exact f_gtr (by omega) | exact f_geq (by omega) | exact f_eql (by omega) | exact f_neq (by omega) | exact f_z (by omega) | exact wd_not_t | assumption)) ?_)))
      exact ⟨rfl, _, _, [.id 0, .id 1, .id 2, .id 3], ⟨rfl, rfl⟩, by (refine ⟨by kernel_rfl, ?_, ?_⟩ <;> repeat (first | exact okTms_nil | refine okTms_cons ?_ ?_ | exact okBlks_nil | refine okBlks_cons ?_ ?_ | exact lws_nil | refine lws_cons ?_ ?_ | exact lb_dead | exact lb_same (by (first | assumption | exact noIds_encL (fun _ => rfl) _ | exact noIds_tab (fun _ => rfl) _ _ | rfl)) | exact lb_ro (by (first | assumption | exact noIds_encL (fun _ => rfl) _ | exact noIds_tab (fun _ => rfl) _ _ | rfl)) | exact lb_none | refine lb_cells ?_ (by simp) | exact lb_cap (Nat.le_refl _) (Nat.le_refl _) rfl rfl | exact lb_capn (by assumption) (by (first | assumption | exact noIds_encL (fun _ => rfl) _ | exact noIds_tab (fun _ => rfl) _ _ | rfl)) | exact lw_any | exact lw_int | exact lw_bool | exact lw_ptr rfl | exact lw_slo rfl | exact lw_nils | exact lw_slo_nils | exact lw_sl rfl | exact lw_noid rfl | exact lw_cap rfl (Nat.le_refl _) | refine lw_tup ?_ | refine lw_agg ?_ | assumption))⟩
    · (repeat (first | (with_reducible refine way_t (by (first | with_reducible rfl | exact t_le (by omega) | exact t_eq (by omega) | exact t_nn (by omega) | exact t_lss (by omega) | exact t_leq (by omega) | exact t_gtr (by omega) | exact t_geq (by omega) | exact t_eql (by omega) | exact t_neq (by omega) | exact t_z (by omega) | exact wd_not_f | assumption)) ?_) | (with_reducible refine way_f (by (first | with_reducible rfl | exact f_le (by omega) | exact f_eq (by omega) | exact f_nn (by omega) | exact f_lss (by omega) | exact f_leq (by omega) | exact f_gtr (by omega) | exact f_geq (by omega) | exact f_eql (by omega) | exact f_neq (by omega) | exact f_z (by omega) | exact wd_not_t | assumption)) ?_)))
      exact ⟨rfl, _, _, [.id 0, .id 1, .id 2, .id 3], ⟨rfl, rfl⟩, by (refine ⟨by kernel_rfl, ?_, ?_⟩ <;> repeat (first | exact okTms_nil | refine okTms_cons ?_ ?_ | exact okBlks_nil | refine okBlks_cons ?_ ?_ | exact lws_nil | refine lws_cons ?_ ?_ | exact lb_dead | exact lb_same (by (first | assumption | exact noIds_encL (fun _ => rfl) _ | exact noIds_tab (fun _ => rfl) _ _ | rfl)) | exact lb_ro (by (first | assumption | exact noIds_encL (fun _ => rfl) _ | exact noIds_tab (fun _ => rfl) _ _ | rfl)) | exact lb_none | refine lb_cells ?_ (by simp) | exact lb_cap (Nat.le_refl _) (Nat.le_refl _) rfl rfl | exact lb_capn (by assumption) (by (first | assumption | exact noIds_encL (fun _ => rfl) _ | exact noIds_tab (fun _ => rfl) _ _ | rfl)) | exact lw_any | exact lw_int | exact lw_bool | exact lw_ptr rfl | exact lw_slo rfl | exact lw_nils | exact lw_slo_nils | exact lw_sl rfl | exact lw_noid rfl | exact lw_cap rfl (Nat.le_refl _) | refine lw_tup ?_ | refine lw_agg ?_ | assumption))⟩

def inL (n : Nat) (a : Int) : Prop := 0 ≤ a ∧ a < n
instance (n : Nat) (a : Int) : Decidable (inL n a) := inferInstanceAs (Decidable (_ ∧ _))
def atL (ls : List LV) (n : Nat) (a : Int) : Lk := if inL n a then (decL ls).getD a.toNat (0, false, 0) else (0, false, 0)
def vV (ls : List LV) (n : Nat) (a : Int) : Int := (atL ls n a).1

def vH (ls : List LV) (n : Nat) (a : Int) : Bool := (atL ls n a).2.1

def vO (ls : List LV) (n : Nat) (a : Int) : Int := (atL ls n a).2.2

def vE (n : Nat) (a : Int) : Int := if inL n a then 0 else 2

def vQ (n : Nat) (a lv : Int) (lh : Bool) (lo : Int) : Int := if inL n a then (if isLk (lv, lh, lo) then 0 else 1) else 2

def vD (ls : List LV) (n : Nat) (a wv : Int) (wh : Bool) (wo lv : Int) (lh : Bool) (lo : Int) : Bool := decide (inL n a ∧ isLk (lv, lh, lo) = true ∧ atL ls n a = (wv, wh, wo))

def vS (ls : List LV) (n : Nat) (a lv : Int) (lh : Bool) (lo : Int) : List LV := if inL n a ∧ isLk (lv, lh, lo) = true then encL cL ((decL ls).set a.toNat (lv, lh, lo)) else ls

def vX (ls : List LV) (n : Nat) (a wv : Int) (wh : Bool) (wo lv : Int) (lh : Bool) (lo : Int) : List LV := if inL n a ∧ isLk (lv, lh, lo) = true ∧ atL ls n a = (wv, wh, wo) then encL cL ((decL ls).set a.toNat (lv, lh, lo)) else ls

def vC (e C : Int) : Int := if e = 0 then xar .add .i64 C 1 else C

theorem ldL_eq (m : MS) (a : Int) : ldL m a = ({ m with C := vC (vE m.L.length a) m.C }, (0, atL (encL cL m.L) m.L.length a, false, vE m.L.length a)) := by
  simp only [ldL, vC, vE, atL, inL, decL_enc, MS.bump, erA]
  by_cases h : 0 ≤ a ∧ a < m.L.length <;> simp [h]
theorem stL_eq (m : MS) (a : Int) (l : Lk) : (stL m a l).2 = erA (vQ m.L.length a l.1 l.2.1 l.2.2) ∧ encL cL (stL m a l).1.L = vS (encL cL m.L) m.L.length a l.1 l.2.1 l.2.2 ∧ (stL m a l).1.C = vC (vQ m.L.length a l.1 l.2.1 l.2.2) m.C ∧ (stL m a l).1.W = m.W ∧ (stL m a l).1.S = m.S ∧ (stL m a l).1.N = m.N ∧ (stL m a l).1.L.length = m.L.length := by
  simp only [stL, vQ, vS, vC, inL, decL_enc, MS.bump]
  by_cases h : 0 ≤ a ∧ a < m.L.length
  · by_cases h2 : isLk l = true
    · simp [h, h2]
    · simp [h, h2, erA]
  · simp [h, erA]
theorem csL_eq (m : MS) (a : Int) (w l : Lk) : (csL m a w l).2 = (0, (0, false, 0), vD (encL cL m.L) m.L.length a w.1 w.2.1 w.2.2 l.1 l.2.1 l.2.2, vQ m.L.length a l.1 l.2.1 l.2.2) ∧ encL cL (csL m a w l).1.L = vX (encL cL m.L) m.L.length a w.1 w.2.1 w.2.2 l.1 l.2.1 l.2.2 ∧ (csL m a w l).1.C = vC (vQ m.L.length a l.1 l.2.1 l.2.2) m.C ∧ (csL m a w l).1.W = m.W ∧ (csL m a w l).1.S = m.S ∧ (csL m a w l).1.N = m.N ∧ (csL m a w l).1.L.length = m.L.length := by
  simp only [csL, vQ, vX, vD, vC, inL, atL, decL_enc, MS.bump]
  generalize m.L.getD a.toNat (0, false, 0) = x
  by_cases h : 0 ≤ a ∧ a < m.L.length
  · by_cases h2 : isLk l = true
    · by_cases h3 : x = w
      · simp [h, h2, h3]
      · simp [h, h2, h3, erA]
    · simp [h, h2, erA]
  · simp [h, erA]
end
end Go.Lev
