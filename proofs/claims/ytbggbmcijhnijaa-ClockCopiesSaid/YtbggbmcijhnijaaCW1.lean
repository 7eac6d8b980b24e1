/- chapter 4: exchanges of the clock, of both -/
import Derived.Test.YtbggbmcijhnijaaLc
import Derived.Test.YtbggbmcijhnijaaChecked
import Derived.KernelRfl

namespace Go.Lev
open Go.RowKit
set_option linter.unusedVariables false
set_option linter.unusedSimpArgs false
set_option maxRecDepth 100000
noncomputable section
/-! rows of integers -/
def decIu64 : List LV → List Int
  | .int _ a :: r => a :: decIu64 r
  | _ => []
theorem decIu64_enc : ∀ xs, decIu64 (encL (cI .u64) xs) = xs
  | [] => rfl
  | x :: r => by simp [encL, cI, decIu64, decIu64_enc r]
def okIu64 (cs : List LV) (n : Nat) : Bool := @decide (cs = encL (cI .u64) (decIu64 cs) ∧ (decIu64 cs).length = n ∧ n ≤ 9223372036854775807) (Classical.propDecidable _)

theorem okIu64_iff {cs : List LV} {n : Nat} : okIu64 cs n = true ↔ ∃ xs, cs = encL (cI .u64) xs ∧ xs.length = n ∧ n ≤ 9223372036854775807 := by
  simp only [okIu64, decide_eq_true_eq]
  exact ⟨fun h => ⟨_, h⟩, fun ⟨xs, h1, h2⟩ => by subst h1; rw [decIu64_enc]; exact ⟨rfl, h2⟩⟩
theorem okIu64_tab {n : Nat} (g : Nat → Int) (h : n ≤ 9223372036854775807) : okIu64 (tab (cI .u64) n g) n = true := okIu64_iff.2 ⟨_, rfl, by simp, h⟩
theorem okIu64_enc {xs : List Int} (h : xs.length ≤ 9223372036854775807) : okIu64 (encL (cI .u64) xs) xs.length = true := okIu64_iff.2 ⟨_, rfl, rfl, h⟩
theorem encIu64_len (xs : List Int) : (encL (cI .u64) xs).length = xs.length := by rw [encL_length (cI_len .u64)]; omega
theorem encIu64_push (xs : List Int) (y : Int) : xcat (xcut (encL (cI .u64) xs) 0 xs.length) [.int .u64 y] = encL (cI .u64) (xs ++ [y]) := by
  rw [xcut_all (by rw [encIu64_len]; omega), encL_append]; rfl
theorem encIu64_nth {xs : List Int} {i : Nat} (h : i < xs.length) : nthD (encL (cI .u64) xs) i = .int .u64 xs[i] := by
  have := encL_nth (cI_len .u64) (j := 0) h (by omega)
  simp only [Nat.mul_one, Nat.add_zero] at this
  exact this
theorem noIds_Iu64 (xs : List Int) : noIds (encL (cI .u64) xs) = true := noIds_encL (fun _ => rfl) xs
theorem xnoid_Iu64 (xs : List Int) : xnoid (encL (cI .u64) xs) = true := xnoid_encL (fun _ => rfl) xs

/-! rows of locks -/
abbrev Lk := Int × Bool × Int
abbrev cL : Lk → List LV := fun x => [.int .u64 x.1, .bool x.2.1, .int .i64 x.2.2]
theorem cL_len (x : Lk) : (cL x).length = 3 := rfl
theorem lk_0 {xs : List Lk} {i : Nat} (h : i < xs.length) : nthD (encL cL xs) (i * 3) = .int .u64 xs[i].1 := encL_nth cL_len (j := 0) h (by omega)
theorem lk_1 {xs : List Lk} {i : Nat} (h : i < xs.length) : nthD (encL cL xs) (i * 3 + 1) = .bool xs[i].2.1 := encL_nth cL_len (j := 1) h (by omega)
theorem lk_2 {xs : List Lk} {i : Nat} (h : i < xs.length) : nthD (encL cL xs) (i * 3 + 2) = .int .i64 xs[i].2.2 := encL_nth cL_len (j := 2) h (by omega)
theorem lk_2' {xs : List Lk} {i : Nat} (h : i < xs.length) : nthD (encL cL xs) (i * 3 + 1 + 1) = .int .i64 xs[i].2.2 := lk_2 h
theorem lk_n (xs : List Lk) : (encL cL xs).length = xs.length * 3 := encL_length cL_len xs
theorem lk_set {xs : List Lk} {i : Nat} (h : i < xs.length) (y : Lk) : xlay (encL cL xs) (i * 3) [.int .u64 y.1, .bool y.2.1, .int .i64 y.2.2] = encL cL (xs.set i y) := encL_set cL_len xs i y h
theorem noids_l (xs : List Lk) : noIds (encL cL xs) = true := noIds_encL (fun _ => rfl) xs
theorem xnoid_l (xs : List Lk) : xnoid (encL cL xs) = true := xnoid_encL (fun _ => rfl) xs
def decL : List LV → List Lk
  | .int _ a :: .bool b :: .int _ c :: r => (a, b, c) :: decL r
  | _ => []
theorem decL_enc : ∀ xs, decL (encL cL xs) = xs
  | [] => rfl
  | x :: r => by simp [encL, cL, decL, decL_enc r]
def okL (cs : List LV) (n : Nat) : Bool := @decide (cs = encL cL (decL cs) ∧ (decL cs).length = n ∧ n ≤ 1000000) (Classical.propDecidable _)

theorem okL_iff {cs : List LV} {n : Nat} : okL cs n = true ↔ ∃ xs, cs = encL cL xs ∧ xs.length = n ∧ n ≤ 1000000 := by
  simp only [okL, decide_eq_true_eq]
  exact ⟨fun h => ⟨_, h⟩, fun ⟨xs, h1, h2⟩ => by subst h1; rw [decL_enc]; exact ⟨rfl, h2⟩⟩
theorem okL_enc {xs : List Lk} (h : xs.length ≤ 1000000) : okL (encL cL xs) xs.length = true := okL_iff.2 ⟨_, rfl, rfl, h⟩
theorem encIu64_set {xs : List Int} {i : Nat} (h : i < xs.length) (y : Int) : xlay (encL (cI .u64) xs) i [.int .u64 y] = encL (cI .u64) (xs.set i y) := by
  have := encL_set (cI_len .u64) xs i y h
  rw [Nat.mul_one] at this
  exact this

/-! a memory, what an operation does to it -/
structure MS where
  W : List Int
  L : List Lk
  N : Int
  S : List Int
  C : Int
structure OpR where
  k : Int
  at' : Int
  old : Int
  w : Int
  was : Lk
  lk : Lk
abbrev Ans := Int × Lk × Bool × Int
def isLk (l : Lk) : Bool := decide (l.1 < 4611686018427387904) && (if l.2.1 then decide (0 ≤ l.2.2) && decide (l.2.2 < 4) else decide (l.2.2 = 0))
def MS.bump (m : MS) : MS := { m with C := xar .add .i64 m.C 1 }
abbrev erA (e : Int) : Ans := (0, (0, false, 0), false, e)
def ldW (m : MS) (a : Int) : MS × Ans := if 1 ≤ a ∧ a < m.W.length then (m.bump, (m.W.getD a.toNat 0, (0, false, 0), false, 0)) else (m, erA 2)
def stW (m : MS) (a w : Int) : MS × Ans := if 1 ≤ a ∧ a < m.W.length then ({ m.bump with W := m.W.set a.toNat w }, erA 0) else (m, erA 2)
def ldL (m : MS) (a : Int) : MS × Ans := if 0 ≤ a ∧ a < m.L.length then (m.bump, (0, m.L.getD a.toNat (0, false, 0), false, 0)) else (m, erA 2)
def csL (m : MS) (a : Int) (was l : Lk) : MS × Ans := if 0 ≤ a ∧ a < m.L.length then (if isLk l then (if m.L.getD a.toNat (0, false, 0) = was then ({ m.bump with L := m.L.set a.toNat l }, (0, (0, false, 0), true, 0)) else (m.bump, erA 0)) else (m, erA 1)) else (m, erA 2)
def stL (m : MS) (a : Int) (l : Lk) : MS × Ans := if 0 ≤ a ∧ a < m.L.length then (if isLk l then ({ m.bump with L := m.L.set a.toNat l }, erA 0) else (m, erA 1)) else (m, erA 2)
def ldN (m : MS) : MS × Ans := (m.bump, (m.N, (0, false, 0), false, 0))
def csN (m : MS) (old w : Int) : MS × Ans := if w ≤ old then (m, erA 1) else if 4611686018427387904 ≤ w then (m, erA 7) else if m.N = old then ({ m.bump with N := w }, (0, (0, false, 0), true, 0)) else (m.bump, erA 0)
def ldS (m : MS) (a : Int) : MS × Ans := if 0 ≤ a ∧ a < m.S.length then (m.bump, (m.S.getD a.toNat 0, (0, false, 0), false, 0)) else (m, erA 2)
def stS (m : MS) (a w : Int) : MS × Ans := if 0 ≤ a ∧ a < m.S.length then ({ m.bump with S := m.S.set a.toNat w }, erA 0) else (m, erA 2)
def stepM (m : MS) (o : OpR) : MS × Ans :=
  if o.k = 1 then ldW m o.at' else if o.k = 2 then stW m o.at' o.w else if o.k = 3 then ldL m o.at' else if o.k = 4 then csL m o.at' o.was o.lk else if o.k = 5 then stL m o.at' o.lk
  else if o.k = 6 then ldN m else if o.k = 7 then csN m o.old o.w else if o.k = 8 then ldS m o.at' else if o.k = 9 then stS m o.at' o.w else (m, erA 1)
abbrev opC (k a old w wv : Int) (wh : Bool) (wo lv : Int) (lh : Bool) (lo : Int) : List LV := [.int .i64 k, .int .i64 a, .int .u64 old, .int .u64 w, .int .u64 wv, .bool wh, .int .i64 wo, .int .u64 lv, .bool lh, .int .i64 lo]
abbrev ansC (w lv : Int) (lh : Bool) (lo : Int) (d : Bool) (e : Int) : List LV := [.int .u64 w, .int .u64 lv, .bool lh, .int .i64 lo, .bool d, .int .i64 e]
abbrev shC (a b c d : Int) (e : Int) : List LV := [.int .i64 a, .int .i64 b, .int .i64 c, .int .i64 d, .int .u64 e]
abbrev rH (a b c d e N C : Int) (nw nl ns : Nat) (ws ls ss : List LV) : List LB := [.cells [.int .i64 a, .int .i64 b, .int .i64 c, .int .i64 d, .int .u64 e, .slo 1 0 nw 0, .slo 2 0 nl 0, .int .u64 N, .slo 3 0 ns 0, .int .i64 C] none, .cells ws (some 1), .cells ls (some 3), .cells ss (some 1)]
abbrev mH (a b c d e N C wi : Int) (nw nl ns : Nat) (ws ls ss : List LV) : List LB := [.cells [.int .i64 a, .int .i64 b, .int .i64 c, .int .i64 d, .int .u64 e, .ptr 1 0, .ptr 3 0, .ptr 5 0, .ptr 6 0, .int .i64 C] none, .cells [.slo 2 0 nw 0] none, .cells ws (some 1), .cells [.int .i64 wi, .slo 4 0 nl 0] none, .cells ls (some 3), .cells [.int .u64 N] none, .cells [.slo 7 0 ns 0] none, .cells ss (some 1)]
abbrev opL (o : OpR) : List LV := opC o.k o.at' o.old o.w o.was.1 o.was.2.1 o.was.2.2 o.lk.1 o.lk.2.1 o.lk.2.2
abbrev ansL (x : Ans) : List LV := ansC x.1 x.2.1.1 x.2.1.2.1 x.2.1.2.2 x.2.2.1 x.2.2.2
abbrev rM (a b c d e : Int) (m : MS) : List LB := rH a b c d e m.N m.C m.W.length m.L.length m.S.length (encL (cI .u64) m.W) (encL cL m.L) (encL (cI .u64) m.S)
abbrev mM (a b c d e wi : Int) (m : MS) : List LB := mH a b c d e m.N m.C wi m.W.length m.L.length m.S.length (encL (cI .u64) m.W) (encL cL m.L) (encL (cI .u64) m.S)
structure MS.ok (m : MS) : Prop where
  w : m.W.length ≤ 1000000
  l : m.L.length ≤ 1000000
  s : m.S.length ≤ 1000000
theorem stepM_len (m : MS) (o : OpR) : (stepM m o).1.W.length = m.W.length ∧ (stepM m o).1.L.length = m.L.length ∧ (stepM m o).1.S.length = m.S.length := by
  have h1 : ∀ a, (ldW m a).1.W.length = m.W.length ∧ (ldW m a).1.L.length = m.L.length ∧ (ldW m a).1.S.length = m.S.length := fun a => by simp only [ldW]; split <;> simp [MS.bump]
  have h2 : ∀ a w, (stW m a w).1.W.length = m.W.length ∧ (stW m a w).1.L.length = m.L.length ∧ (stW m a w).1.S.length = m.S.length := fun a w => by simp only [stW]; split <;> simp [MS.bump]
  have h3 : ∀ a, (ldL m a).1.W.length = m.W.length ∧ (ldL m a).1.L.length = m.L.length ∧ (ldL m a).1.S.length = m.S.length := fun a => by simp only [ldL]; split <;> simp [MS.bump]
  have h4 : ∀ a w l, (csL m a w l).1.W.length = m.W.length ∧ (csL m a w l).1.L.length = m.L.length ∧ (csL m a w l).1.S.length = m.S.length := fun a w l => by
    simp only [csL]; split
    · split
      · split <;> simp [MS.bump]
      · simp
    · simp
  have h5 : ∀ a l, (stL m a l).1.W.length = m.W.length ∧ (stL m a l).1.L.length = m.L.length ∧ (stL m a l).1.S.length = m.S.length := fun a l => by
    simp only [stL]; split
    · split <;> simp [MS.bump]
    · simp
  have h7 : ∀ a w, (csN m a w).1.W.length = m.W.length ∧ (csN m a w).1.L.length = m.L.length ∧ (csN m a w).1.S.length = m.S.length := fun a w => by
    simp only [csN]; split
    · simp
    · split
      · simp
      · split <;> simp [MS.bump]
  have h8 : ∀ a, (ldS m a).1.W.length = m.W.length ∧ (ldS m a).1.L.length = m.L.length ∧ (ldS m a).1.S.length = m.S.length := fun a => by simp only [ldS]; split <;> simp [MS.bump]
  have h9 : ∀ a w, (stS m a w).1.W.length = m.W.length ∧ (stS m a w).1.L.length = m.L.length ∧ (stS m a w).1.S.length = m.S.length := fun a w => by simp only [stS]; split <;> simp [MS.bump]
  rw [stepM]; split; exact h1 _
  split; exact h2 _ _
  split; exact h3 _
  split; exact h4 _ _ _
  split; exact h5 _ _
  split; exact ⟨rfl, rfl, rfl⟩
  split; exact h7 _ _
  split; exact h8 _
  split; exact h9 _ _
  exact ⟨rfl, rfl, rfl⟩
theorem getD_at {α : Type} {xs : List α} {i : Nat} (h : i < xs.length) (d : α) : xs.getD i d = xs[i] := by simp [List.getD_eq_getElem?_getD, h]

theorem rdo7 (a old w wv : Int) (wh : Bool) (wo lv : Int) (lh : Bool) (lo sa sb sc sd se N C : Int) (nw nl ns : Nat) (ws ls ss : List LV) (K : Fk) : (xfun Go.Proofs.Try.prog (fun _ => none) 60 16 [.ptr 0 0, .agg (opC 7 a old w wv wh wo lv lh lo)] (mkS (rH sa sb sc sd se N C nw nl ns ws ls ss)) (vF K)) = (
  bif xcm .leq w old then (
   K (.agg [.int .u64 0, .int .u64 0, .bool false, .int .i64 0, .bool false, .int .i64 1]) [some (.cells [.int .i64 sa, .int .i64 sb, .int .i64 sc, .int .i64 sd, .int .u64 se, .slo 1 0 nw 0, .slo 2 0 nl 0, .int .u64 N, .slo 3 0 ns 0, .int .i64 C] none), some (.cells ws (some 1)), some (.cells ls (some 3)), some (.cells ss (some 1)), some (.cells [.int .i64 7, .int .i64 a, .int .u64 old, .int .u64 w, .int .u64 wv, .bool wh, .int .i64 wo, .int .u64 lv, .bool lh, .int .i64 lo] none), some (.cells [.int .u64 0, .int .u64 0, .bool false, .int .i64 0, .bool false, .int .i64 1] none), some (.cells [.int .u64 0, .int .u64 0, .bool false, .int .i64 0, .bool false, .int .i64 1] none), some (.cells [.int .i64 7, .int .i64 a, .int .u64 old, .int .u64 w, .int .u64 wv, .bool wh, .int .i64 wo, .int .u64 lv, .bool lh, .int .i64 lo] none), some (.cells [.int .u64 0, .int .u64 0, .bool false, .int .i64 0, .bool false, .int .i64 1] none)] [])
  else (
   bif xcm .geq w 4611686018427387904 then (
    K (.agg [.int .u64 0, .int .u64 0, .bool false, .int .i64 0, .bool false, .int .i64 7]) [some (.cells [.int .i64 sa, .int .i64 sb, .int .i64 sc, .int .i64 sd, .int .u64 se, .slo 1 0 nw 0, .slo 2 0 nl 0, .int .u64 N, .slo 3 0 ns 0, .int .i64 C] none), some (.cells ws (some 1)), some (.cells ls (some 3)), some (.cells ss (some 1)), some (.cells [.int .i64 7, .int .i64 a, .int .u64 old, .int .u64 w, .int .u64 wv, .bool wh, .int .i64 wo, .int .u64 lv, .bool lh, .int .i64 lo] none), some (.cells [.int .u64 0, .int .u64 0, .bool false, .int .i64 0, .bool false, .int .i64 7] none), some (.cells [.int .u64 0, .int .u64 0, .bool false, .int .i64 0, .bool false, .int .i64 7] none), some (.cells [.int .i64 7, .int .i64 a, .int .u64 old, .int .u64 w, .int .u64 wv, .bool wh, .int .i64 wo, .int .u64 lv, .bool lh, .int .i64 lo] none), some (.cells [.int .u64 0, .int .u64 0, .bool false, .int .i64 0, .bool false, .int .i64 7] none)] [])
   else (
    bif xcm .neq N old then (
     K (.agg [.int .u64 0, .int .u64 0, .bool false, .int .i64 0, .bool false, .int .i64 0]) [some (.cells [.int .i64 sa, .int .i64 sb, .int .i64 sc, .int .i64 sd, .int .u64 se, .slo 1 0 nw 0, .slo 2 0 nl 0, .int .u64 N, .slo 3 0 ns 0, .int .i64 (xar .add .i64 C 1)] none), some (.cells ws (some 1)), some (.cells ls (some 3)), some (.cells ss (some 1)), some (.cells [.int .i64 7, .int .i64 a, .int .u64 old, .int .u64 w, .int .u64 wv, .bool wh, .int .i64 wo, .int .u64 lv, .bool lh, .int .i64 lo] none), some (.cells [.int .u64 0, .int .u64 0, .bool false, .int .i64 0, .bool false, .int .i64 0] none), some (.cells [.int .u64 0, .int .u64 0, .bool false, .int .i64 0, .bool false, .int .i64 0] none), some (.cells [.int .i64 7, .int .i64 a, .int .u64 old, .int .u64 w, .int .u64 wv, .bool wh, .int .i64 wo, .int .u64 lv, .bool lh, .int .i64 lo] none), some (.cells [.int .u64 0, .int .u64 0, .bool false, .int .i64 0, .bool false, .int .i64 0] none)] [])
    else (
     K (.agg [.int .u64 0, .int .u64 0, .bool false, .int .i64 0, .bool true, .int .i64 0]) [some (.cells [.int .i64 sa, .int .i64 sb, .int .i64 sc, .int .i64 sd, .int .u64 se, .slo 1 0 nw 0, .slo 2 0 nl 0, .int .u64 w, .slo 3 0 ns 0, .int .i64 (xar .add .i64 C 1)] none), some (.cells ws (some 1)), some (.cells ls (some 3)), some (.cells ss (some 1)), some (.cells [.int .i64 7, .int .i64 a, .int .u64 old, .int .u64 w, .int .u64 wv, .bool wh, .int .i64 wo, .int .u64 lv, .bool lh, .int .i64 lo] none), some (.cells [.int .u64 0, .int .u64 0, .bool false, .int .i64 0, .bool true, .int .i64 0] none), some (.cells [.int .u64 0, .int .u64 0, .bool false, .int .i64 0, .bool true, .int .i64 0] none), some (.cells [.int .i64 7, .int .i64 a, .int .u64 old, .int .u64 w, .int .u64 wv, .bool wh, .int .i64 wo, .int .u64 lv, .bool lh, .int .i64 lo] none), some (.cells [.int .u64 0, .int .u64 0, .bool false, .int .i64 0, .bool true, .int .i64 0] none)] [])))) := by kernel_rfl
theorem rdo_7 (a old w wv : Int) (wh : Bool) (wo lv : Int) (lh : Bool) (lo sa sb sc sd se : Int) (m : MS) (hm : m.ok) : SFun Go.Proofs.Try.prog 16 [.ptr 0 0, .agg (opC 7 a old w wv wh wo lv lh lo)] (mkS (rM sa sb sc sd se m))
    fun l s => l = .agg (ansL (csN m old w).2) ∧ s = mkS (rM sa sb sc sd se (csN m old w).1) := by
  refine SFun.mono (SFun.vc (Q := fun l b => l = .agg (ansL (csN m old w).2) ∧ b = rM sa sb sc sd se (csN m old w).1) noCx_ok (n := 60) 4 rfl ?_) fun l s' ⟨b0, ⟨h1, h2⟩, h3⟩ => ⟨h1, by rw [h3, h2]⟩
  have n1 := noIds_Iu64 m.W
  have n2 := noids_l m.L
  have n3 := noIds_Iu64 m.S
  have b1 := hm.w
  have b2 := hm.l
  have b3 := hm.s
  rw [rdo7]
  by_cases h1 : w ≤ old
  · rw [show csN m old w = (m, erA 1) from if_pos h1]
    (repeat (first | (with_reducible refine way_t (by (first | with_reducible rfl | exact t_le (by omega) | exact t_eq (by omega) | exact t_nn (by omega) | exact t_lss (by omega) | exact t_leq (by omega) | exact t_gtr (by omega) | exact t_geq (by omega) | exact t_eql (by omega) | exact t_neq (by omega) | exact t_z (by omega) | exact wd_not_f | assumption)) ?_) | (with_reducible refine way_f (by (first | with_reducible rfl | exact f_le (by omega) | exact f_eq (by omega) | exact f_nn (by omega) | exact f_lss (by omega) | exact f_leq (by omega) | exact f_gtr (by omega) | exact f_geq (by omega) | exact f_eql (by omega) | exact f_neq (by omega) | exact f_z (by omega) | exact wd_not_t | assumption)) ?_)))
    exact ⟨rfl, _, _, [.id 0, .id 1, .id 2, .id 3], ⟨rfl, rfl⟩, by (exact ⟨by kernel_rfl, by ((repeat refine okTms_cons (by (first | exact lw_any | exact lw_int | exact lw_bool | exact lw_ptr rfl | exact lw_slo rfl | exact lw_nilp | exact lw_nils | exact lw_str | exact lw_slo_nils | exact lw_slo_sle | exact lw_sl rfl | exact lw_unb | exact lw_gptr | exact lw_noid rfl | exact lw_cap rfl (Nat.le_refl _) | exact lw_cap rfl (by omega) | assumption)) ?_); exact okTms_nil), by ((repeat refine okBlks_cons (by (first | exact lb_dead | exact lb_same (by (first | assumption | exact noIds_tab (fun _ => rfl) _ _ | exact noIds_encL (fun _ => rfl) _ | rfl)) | exact lb_ro (by (first | assumption | exact noIds_tab (fun _ => rfl) _ _ | exact noIds_encL (fun _ => rfl) _ | rfl)) | exact lb_none | exact lb_cells (by ((repeat refine lws_cons (by (first | exact lw_any | exact lw_int | exact lw_bool | exact lw_ptr rfl | exact lw_slo rfl | exact lw_nilp | exact lw_nils | exact lw_str | exact lw_slo_nils | exact lw_slo_sle | exact lw_sl rfl | exact lw_unb | exact lw_gptr | exact lw_noid rfl | exact lw_cap rfl (Nat.le_refl _) | exact lw_cap rfl (by omega) | assumption)) ?_); exact lws_nil)) (by simp) | exact lb_iter | exact lb_cap (Nat.le_refl _) (Nat.le_refl _) rfl rfl | exact lb_capn (by assumption) (by (first | assumption | exact noIds_tab (fun _ => rfl) _ _ | exact noIds_encL (fun _ => rfl) _ | rfl)) | assumption)) ?_); exact okBlks_nil)⟩)⟩
  by_cases h2 : 4611686018427387904 ≤ w
  · rw [show csN m old w = (m, erA 7) by simp only [csN, if_neg h1, if_pos h2]]
    (repeat (first | (with_reducible refine way_t (by (first | with_reducible rfl | exact t_le (by omega) | exact t_eq (by omega) | exact t_nn (by omega) | exact t_lss (by omega) | exact t_leq (by omega) | exact t_gtr (by omega) | exact t_geq (by omega) | exact t_eql (by omega) | exact t_neq (by omega) | exact t_z (by omega) | exact wd_not_f | assumption)) ?_) | (with_reducible refine way_f (by (first | with_reducible rfl | exact f_le (by omega) | exact f_eq (by omega) | exact f_nn (by omega) | exact f_lss (by omega) | exact f_leq (by omega) | exact f_gtr (by omega) | exact f_geq (by omega) | exact f_eql (by omega) | exact f_neq (by omega) | exact f_z (by omega) | exact wd_not_t | assumption)) ?_)))
    exact ⟨rfl, _, _, [.id 0, .id 1, .id 2, .id 3], ⟨rfl, rfl⟩, by (exact ⟨by kernel_rfl, by ((repeat refine okTms_cons (by (first | exact lw_any | exact lw_int | exact lw_bool | exact lw_ptr rfl | exact lw_slo rfl | exact lw_nilp | exact lw_nils | exact lw_str | exact lw_slo_nils | exact lw_slo_sle | exact lw_sl rfl | exact lw_unb | exact lw_gptr | exact lw_noid rfl | exact lw_cap rfl (Nat.le_refl _) | exact lw_cap rfl (by omega) | assumption)) ?_); exact okTms_nil), by ((repeat refine okBlks_cons (by (first | exact lb_dead | exact lb_same (by (first | assumption | exact noIds_tab (fun _ => rfl) _ _ | exact noIds_encL (fun _ => rfl) _ | rfl)) | exact lb_ro (by (first | assumption | exact noIds_tab (fun _ => rfl) _ _ | exact noIds_encL (fun _ => rfl) _ | rfl)) | exact lb_none | exact lb_cells (by ((repeat refine lws_cons (by (first | exact lw_any | exact lw_int | exact lw_bool | exact lw_ptr rfl | exact lw_slo rfl | exact lw_nilp | exact lw_nils | exact lw_str | exact lw_slo_nils | exact lw_slo_sle | exact lw_sl rfl | exact lw_unb | exact lw_gptr | exact lw_noid rfl | exact lw_cap rfl (Nat.le_refl _) | exact lw_cap rfl (by omega) | assumption)) ?_); exact lws_nil)) (by simp) | exact lb_iter | exact lb_cap (Nat.le_refl _) (Nat.le_refl _) rfl rfl | exact lb_capn (by assumption) (by (first | assumption | exact noIds_tab (fun _ => rfl) _ _ | exact noIds_encL (fun _ => rfl) _ | rfl)) | assumption)) ?_); exact okBlks_nil)⟩)⟩
  by_cases h3 : m.N = old
  · rw [show csN m old w = ({ m.bump with N := w }, (0, (0, false, 0), true, 0)) by simp only [csN, if_neg h1, if_neg h2, if_pos h3]]
    (repeat (first | (with_reducible refine way_t (by (first | with_reducible rfl | exact t_le (by omega) | exact t_eq (by omega) | exact t_nn (by omega) | exact t_lss (by omega) | exact t_leq (by omega) | exact t_gtr (by omega) | exact t_geq (by omega) | exact t_eql (by omega) | exact t_neq (by omega) | exact t_z (by omega) | exact wd_not_f | assumption)) ?_) | (with_reducible refine way_f (by (first | with_reducible rfl | exact f_le (by omega) | exact f_eq (by omega) | exact f_nn (by omega) | exact f_lss (by omega) | exact f_leq (by omega) | exact f_gtr (by omega) | exact f_geq (by omega) | exact f_eql (by omega) | exact f_neq (by omega) | exact f_z (by omega) | exact wd_not_t | assumption)) ?_)))
    exact ⟨rfl, _, _, [.id 0, .id 1, .id 2, .id 3], ⟨rfl, rfl⟩, by (exact ⟨by kernel_rfl, by ((repeat refine okTms_cons (by (first | exact lw_any | exact lw_int | exact lw_bool | exact lw_ptr rfl | exact lw_slo rfl | exact lw_nilp | exact lw_nils | exact lw_str | exact lw_slo_nils | exact lw_slo_sle | exact lw_sl rfl | exact lw_unb | exact lw_gptr | exact lw_noid rfl | exact lw_cap rfl (Nat.le_refl _) | exact lw_cap rfl (by omega) | assumption)) ?_); exact okTms_nil), by ((repeat refine okBlks_cons (by (first | exact lb_dead | exact lb_same (by (first | assumption | exact noIds_tab (fun _ => rfl) _ _ | exact noIds_encL (fun _ => rfl) _ | rfl)) | exact lb_ro (by (first | assumption | exact noIds_tab (fun _ => rfl) _ _ | exact noIds_encL (fun _ => rfl) _ | rfl)) | exact lb_none | exact lb_cells (by ((repeat refine lws_cons (by (first | exact lw_any | exact lw_int | exact lw_bool | exact lw_ptr rfl | exact lw_slo rfl | exact lw_nilp | exact lw_nils | exact lw_str | exact lw_slo_nils | exact lw_slo_sle | exact lw_sl rfl | exact lw_unb | exact lw_gptr | exact lw_noid rfl | exact lw_cap rfl (Nat.le_refl _) | exact lw_cap rfl (by omega) | assumption)) ?_); exact lws_nil)) (by simp) | exact lb_iter | exact lb_cap (Nat.le_refl _) (Nat.le_refl _) rfl rfl | exact lb_capn (by assumption) (by (first | assumption | exact noIds_tab (fun _ => rfl) _ _ | exact noIds_encL (fun _ => rfl) _ | rfl)) | assumption)) ?_); exact okBlks_nil)⟩)⟩
  · rw [show csN m old w = (m.bump, erA 0) by simp only [csN, if_neg h1, if_neg h2, if_neg h3]]
    (repeat (first | (with_reducible refine way_t (by (first | with_reducible rfl | exact t_le (by omega) | exact t_eq (by omega) | exact t_nn (by omega) | exact t_lss (by omega) | exact t_leq (by omega) | exact t_gtr (by omega) | exact t_geq (by omega) | exact t_eql (by omega) | exact t_neq (by omega) | exact t_z (by omega) | exact wd_not_f | assumption)) ?_) | (with_reducible refine way_f (by (first | with_reducible rfl | exact f_le (by omega) | exact f_eq (by omega) | exact f_nn (by omega) | exact f_lss (by omega) | exact f_leq (by omega) | exact f_gtr (by omega) | exact f_geq (by omega) | exact f_eql (by omega) | exact f_neq (by omega) | exact f_z (by omega) | exact wd_not_t | assumption)) ?_)))
    exact ⟨rfl, _, _, [.id 0, .id 1, .id 2, .id 3], ⟨rfl, rfl⟩, by (exact ⟨by kernel_rfl, by ((repeat refine okTms_cons (by (first | exact lw_any | exact lw_int | exact lw_bool | exact lw_ptr rfl | exact lw_slo rfl | exact lw_nilp | exact lw_nils | exact lw_str | exact lw_slo_nils | exact lw_slo_sle | exact lw_sl rfl | exact lw_unb | exact lw_gptr | exact lw_noid rfl | exact lw_cap rfl (Nat.le_refl _) | exact lw_cap rfl (by omega) | assumption)) ?_); exact okTms_nil), by ((repeat refine okBlks_cons (by (first | exact lb_dead | exact lb_same (by (first | assumption | exact noIds_tab (fun _ => rfl) _ _ | exact noIds_encL (fun _ => rfl) _ | rfl)) | exact lb_ro (by (first | assumption | exact noIds_tab (fun _ => rfl) _ _ | exact noIds_encL (fun _ => rfl) _ | rfl)) | exact lb_none | exact lb_cells (by ((repeat refine lws_cons (by (first | exact lw_any | exact lw_int | exact lw_bool | exact lw_ptr rfl | exact lw_slo rfl | exact lw_nilp | exact lw_nils | exact lw_str | exact lw_slo_nils | exact lw_slo_sle | exact lw_sl rfl | exact lw_unb | exact lw_gptr | exact lw_noid rfl | exact lw_cap rfl (Nat.le_refl _) | exact lw_cap rfl (by omega) | assumption)) ?_); exact lws_nil)) (by simp) | exact lb_iter | exact lb_cap (Nat.le_refl _) (Nat.le_refl _) rfl rfl | exact lb_capn (by assumption) (by (first | assumption | exact noIds_tab (fun _ => rfl) _ _ | exact noIds_encL (fun _ => rfl) _ | rfl)) | assumption)) ?_); exact okBlks_nil)⟩)⟩

def kE (old w : Int) : Int := if w ≤ old then 1 else if 4611686018427387904 ≤ w then 7 else 0

def kD (N old w : Int) : Bool := if w ≤ old then false else if 4611686018427387904 ≤ w then false else decide (N = old)

def kN (N old w : Int) : Int := if w ≤ old then N else if 4611686018427387904 ≤ w then N else if N = old then w else N

def kC (old w C : Int) : Int := if w ≤ old then C else if 4611686018427387904 ≤ w then C else xar .add .i64 C 1

theorem csN_eq (m : MS) (old w : Int) : csN m old w = ({ m with N := kN m.N old w, C := kC old w m.C }, (0, (0, false, 0), kD m.N old w, kE old w)) := by
  simp only [csN, kN, kC, kD, kE, MS.bump, erA]
  split
  · rfl
  · split
    · rfl
    · split
      · rename_i h; simp [h]
      · rename_i h; simp [h]
theorem notIn_ok {c : Nat} : ∀ {xs : List Nat}, notIn c xs = true → c ∉ xs := notIn_spec
theorem nodupB_ok : ∀ {xs : List Nat}, nodupB xs = true → xs.Nodup
  | [], _ => List.nodup_nil
  | x :: xs, h => by
    simp only [nodupB, Bool.and_eq_true] at h
    exact List.nodup_cons.2 ⟨notIn_spec h.1, nodupB_ok h.2⟩
def rdoG : Gc := fun args s => match args, s.g with
  | [.ptr b 0, .agg [.int .i64 7, .int .i64 a, .int .u64 old, .int .u64 w, .int .u64 wv, .bool wh, .int .i64 wo, .int .u64 lv, .bool lh, .int .i64 lo]], [] => (match s.h.get b with
    | some (.cells [.int .i64 sa, .int .i64 sb, .int .i64 sc, .int .i64 sd, .int .u64 se, .slo b1 0 nw 0, .slo b2 0 nl 0, .int .u64 N, .slo b3 0 ns 0, .int .i64 C] none) => (match s.h.get b1, s.h.get b2, s.h.get b3 with
      | some (.cells ws (some 1)), some (.cells ls (some 3)), some (.cells ss (some 1)) => cond (nodupB [b, b1, b2, b3]) (match s.lay [b, b1, b2, b3] [.cells [.int .i64 sa, .int .i64 sb, .int .i64 sc, .int .i64 sd, .int .u64 se, .slo b1 0 nw 0, .slo b2 0 nl 0, .int .u64 (kN N old w), .slo b3 0 ns 0, .int .i64 (kC old w C)] none, .cells ws (some 1), .cells ls (some 3), .cells ss (some 1)] [] with
        | some s' => some ([okIu64 ws nw, okL ls nl, okIu64 ss ns, xle nw 1000000, xle ns 1000000], .agg (ansC 0 0 false 0 (kD N old w) (kE old w)), s')
        | none => none) none
      | _, _, _ => none)
    | _ => none)
  | _, _ => none
theorem rdoG_ok : GOk Go.Proofs.Try.prog 16 rdoG := by
  intro args s bs l s' hg hb hfr
  unfold rdoG at hg
  split at hg
  · rename_i b a old w wv wh wo lv lh lo hgl
    split at hg
    · rename_i sa sb sc sd se b1 nw b2 nl N b3 ns C hb0
      split at hg
      · rename_i ws ls ss hb1 hb2 hb3
        cases hbc : nodupB [b, b1, b2, b3] with
        | false => rw [hbc] at hg; cases hg
        | true =>
          rw [hbc] at hg
          simp only [cond_true] at hg
          split at hg
          · rename_i s1 hs1
            simp only [Option.some.injEq, Prod.mk.injEq] at hg
            obtain ⟨rfl, rfl, rfl⟩ := hg
            simp only [allT_cons] at hb
            obtain ⟨k1, k2, k3, k4, k5, _⟩ := hb
            rw [wd_le, decide_eq_true_eq] at k4 k5
            obtain ⟨W, rfl, rfl, _⟩ := okIu64_iff.1 k1
            obtain ⟨L, rfl, rfl, h2⟩ := okL_iff.1 k2
            obtain ⟨S, rfl, rfl, _⟩ := okIu64_iff.1 k3
            have hx := rdo_7 a old w wv wh wo lv lh lo sa sb sc sd se ⟨W, L, N, S, C⟩ ⟨k4, h2, k5⟩
            rw [csN_eq] at hx
            have n1 := noIds_Iu64 W
            have n2 := noids_l L
            have n3 := noIds_Iu64 S
            refine SFun.lay (bs := rH sa sb sc sd se N C W.length L.length S.length (encL (cI .u64) W) (encL cL L) (encL (cI .u64) S)) (args0 := [.ptr 0 0, .agg (opC 7 a old w wv wh wo lv lh lo)])
              (bs' := rH sa sb sc sd se (kN N old w) (kC old w C) W.length L.length S.length (encL (cI .u64) W) (encL cL L) (encL (cI .u64) S)) (v0 := .agg (ansC 0 0 false 0 (kD N old w) (kE old w))) hfr hs1 (nodupB_ok hbc)
              ⟨⟨there hfr hb0, _, hb0, by (first | exact lb_dead | exact lb_same (by (first | assumption | exact noIds_tab (fun _ => rfl) _ _ | exact noIds_encL (fun _ => rfl) _ | rfl)) | exact lb_ro (by (first | assumption | exact noIds_tab (fun _ => rfl) _ _ | exact noIds_encL (fun _ => rfl) _ | rfl)) | exact lb_none | exact lb_cells (by ((repeat refine lws_cons (by (first | exact lw_any | exact lw_int | exact lw_bool | exact lw_ptr rfl | exact lw_slo rfl | exact lw_nilp | exact lw_nils | exact lw_str | exact lw_slo_nils | exact lw_slo_sle | exact lw_sl rfl | exact lw_unb | exact lw_gptr | exact lw_noid rfl | exact lw_cap rfl (Nat.le_refl _) | exact lw_cap rfl (by omega) | assumption)) ?_); exact lws_nil)) (by simp) | exact lb_iter | exact lb_cap (Nat.le_refl _) (Nat.le_refl _) rfl rfl | exact lb_capn (by assumption) (by (first | assumption | exact noIds_tab (fun _ => rfl) _ _ | exact noIds_encL (fun _ => rfl) _ | rfl)) | assumption), fun κ hκ => lb_cells (lws_cons lw_int (lws_cons lw_int (lws_cons lw_int (lws_cons lw_int (lws_cons lw_int (lws_cons (lw_slo (hκ 1 b1 rfl)) (lws_cons (lw_slo (hκ 2 b2 rfl)) (lws_cons lw_int (lws_cons (lw_slo (hκ 3 b3 rfl)) (lws_cons lw_int lws_nil)))))))))) (by simp)⟩, ⟨there hfr hb1, _, hb1, by (first | exact lb_dead | exact lb_same (by (first | assumption | exact noIds_tab (fun _ => rfl) _ _ | exact noIds_encL (fun _ => rfl) _ | rfl)) | exact lb_ro (by (first | assumption | exact noIds_tab (fun _ => rfl) _ _ | exact noIds_encL (fun _ => rfl) _ | rfl)) | exact lb_none | exact lb_cells (by ((repeat refine lws_cons (by (first | exact lw_any | exact lw_int | exact lw_bool | exact lw_ptr rfl | exact lw_slo rfl | exact lw_nilp | exact lw_nils | exact lw_str | exact lw_slo_nils | exact lw_slo_sle | exact lw_sl rfl | exact lw_unb | exact lw_gptr | exact lw_noid rfl | exact lw_cap rfl (Nat.le_refl _) | exact lw_cap rfl (by omega) | assumption)) ?_); exact lws_nil)) (by simp) | exact lb_iter | exact lb_cap (Nat.le_refl _) (Nat.le_refl _) rfl rfl | exact lb_capn (by assumption) (by (first | assumption | exact noIds_tab (fun _ => rfl) _ _ | exact noIds_encL (fun _ => rfl) _ | rfl)) | assumption), fun κ hκ => by (first | exact lb_dead | exact lb_same (by (first | assumption | exact noIds_tab (fun _ => rfl) _ _ | exact noIds_encL (fun _ => rfl) _ | rfl)) | exact lb_ro (by (first | assumption | exact noIds_tab (fun _ => rfl) _ _ | exact noIds_encL (fun _ => rfl) _ | rfl)) | exact lb_none | exact lb_cells (by ((repeat refine lws_cons (by (first | exact lw_any | exact lw_int | exact lw_bool | exact lw_ptr rfl | exact lw_slo rfl | exact lw_nilp | exact lw_nils | exact lw_str | exact lw_slo_nils | exact lw_slo_sle | exact lw_sl rfl | exact lw_unb | exact lw_gptr | exact lw_noid rfl | exact lw_cap rfl (Nat.le_refl _) | exact lw_cap rfl (by omega) | assumption)) ?_); exact lws_nil)) (by simp) | exact lb_iter | exact lb_cap (Nat.le_refl _) (Nat.le_refl _) rfl rfl | exact lb_capn (by assumption) (by (first | assumption | exact noIds_tab (fun _ => rfl) _ _ | exact noIds_encL (fun _ => rfl) _ | rfl)) | assumption)⟩, ⟨there hfr hb2, _, hb2, by (first | exact lb_dead | exact lb_same (by (first | assumption | exact noIds_tab (fun _ => rfl) _ _ | exact noIds_encL (fun _ => rfl) _ | rfl)) | exact lb_ro (by (first | assumption | exact noIds_tab (fun _ => rfl) _ _ | exact noIds_encL (fun _ => rfl) _ | rfl)) | exact lb_none | exact lb_cells (by ((repeat refine lws_cons (by (first | exact lw_any | exact lw_int | exact lw_bool | exact lw_ptr rfl | exact lw_slo rfl | exact lw_nilp | exact lw_nils | exact lw_str | exact lw_slo_nils | exact lw_slo_sle | exact lw_sl rfl | exact lw_unb | exact lw_gptr | exact lw_noid rfl | exact lw_cap rfl (Nat.le_refl _) | exact lw_cap rfl (by omega) | assumption)) ?_); exact lws_nil)) (by simp) | exact lb_iter | exact lb_cap (Nat.le_refl _) (Nat.le_refl _) rfl rfl | exact lb_capn (by assumption) (by (first | assumption | exact noIds_tab (fun _ => rfl) _ _ | exact noIds_encL (fun _ => rfl) _ | rfl)) | assumption), fun κ hκ => by (first | exact lb_dead | exact lb_same (by (first | assumption | exact noIds_tab (fun _ => rfl) _ _ | exact noIds_encL (fun _ => rfl) _ | rfl)) | exact lb_ro (by (first | assumption | exact noIds_tab (fun _ => rfl) _ _ | exact noIds_encL (fun _ => rfl) _ | rfl)) | exact lb_none | exact lb_cells (by ((repeat refine lws_cons (by (first | exact lw_any | exact lw_int | exact lw_bool | exact lw_ptr rfl | exact lw_slo rfl | exact lw_nilp | exact lw_nils | exact lw_str | exact lw_slo_nils | exact lw_slo_sle | exact lw_sl rfl | exact lw_unb | exact lw_gptr | exact lw_noid rfl | exact lw_cap rfl (Nat.le_refl _) | exact lw_cap rfl (by omega) | assumption)) ?_); exact lws_nil)) (by simp) | exact lb_iter | exact lb_cap (Nat.le_refl _) (Nat.le_refl _) rfl rfl | exact lb_capn (by assumption) (by (first | assumption | exact noIds_tab (fun _ => rfl) _ _ | exact noIds_encL (fun _ => rfl) _ | rfl)) | assumption)⟩, ⟨there hfr hb3, _, hb3, by (first | exact lb_dead | exact lb_same (by (first | assumption | exact noIds_tab (fun _ => rfl) _ _ | exact noIds_encL (fun _ => rfl) _ | rfl)) | exact lb_ro (by (first | assumption | exact noIds_tab (fun _ => rfl) _ _ | exact noIds_encL (fun _ => rfl) _ | rfl)) | exact lb_none | exact lb_cells (by ((repeat refine lws_cons (by (first | exact lw_any | exact lw_int | exact lw_bool | exact lw_ptr rfl | exact lw_slo rfl | exact lw_nilp | exact lw_nils | exact lw_str | exact lw_slo_nils | exact lw_slo_sle | exact lw_sl rfl | exact lw_unb | exact lw_gptr | exact lw_noid rfl | exact lw_cap rfl (Nat.le_refl _) | exact lw_cap rfl (by omega) | assumption)) ?_); exact lws_nil)) (by simp) | exact lb_iter | exact lb_cap (Nat.le_refl _) (Nat.le_refl _) rfl rfl | exact lb_capn (by assumption) (by (first | assumption | exact noIds_tab (fun _ => rfl) _ _ | exact noIds_encL (fun _ => rfl) _ | rfl)) | assumption), fun κ hκ => by (first | exact lb_dead | exact lb_same (by (first | assumption | exact noIds_tab (fun _ => rfl) _ _ | exact noIds_encL (fun _ => rfl) _ | rfl)) | exact lb_ro (by (first | assumption | exact noIds_tab (fun _ => rfl) _ _ | exact noIds_encL (fun _ => rfl) _ | rfl)) | exact lb_none | exact lb_cells (by ((repeat refine lws_cons (by (first | exact lw_any | exact lw_int | exact lw_bool | exact lw_ptr rfl | exact lw_slo rfl | exact lw_nilp | exact lw_nils | exact lw_str | exact lw_slo_nils | exact lw_slo_sle | exact lw_sl rfl | exact lw_unb | exact lw_gptr | exact lw_noid rfl | exact lw_cap rfl (Nat.le_refl _) | exact lw_cap rfl (by omega) | assumption)) ?_); exact lws_nil)) (by simp) | exact lb_iter | exact lb_cap (Nat.le_refl _) (Nat.le_refl _) rfl rfl | exact lb_capn (by assumption) (by (first | assumption | exact noIds_tab (fun _ => rfl) _ _ | exact noIds_encL (fun _ => rfl) _ | rfl)) | assumption)⟩, trivial⟩ (by ((repeat refine lws_cons (by (first | exact lw_any | exact lw_int | exact lw_bool | exact lw_ptr rfl | exact lw_slo rfl | exact lw_nilp | exact lw_nils | exact lw_str | exact lw_slo_nils | exact lw_slo_sle | exact lw_sl rfl | exact lw_unb | exact lw_gptr | exact lw_noid rfl | exact lw_cap rfl (Nat.le_refl _) | exact lw_cap rfl (by omega) | assumption)) ?_); exact lws_nil)) ?_
              fun κ h1 h2 => ⟨⟨?_, lb_same (noIds_Iu64 _), lb_same (noids_l _), lb_same (noIds_Iu64 _), trivial⟩, lw_noid rfl⟩
            · rw [hgl]; exact hx
            · exact lb_cells (lws_cons lw_int (lws_cons lw_int (lws_cons lw_int (lws_cons lw_int (lws_cons lw_int (lws_cons (lw_slo (h1 1 b1 rfl)) (lws_cons (lw_slo (h1 2 b2 rfl)) (lws_cons lw_int (lws_cons (lw_slo (h1 3 b3 rfl)) (lws_cons lw_int lws_nil)))))))))) (by simp)
          · cases hg
      · cases hg
    · cases hg
  · cases hg
/-! the code's exchange -/
theorem cas_x (N old w : Int) (K : Fk) : (xfun Go.Proofs.Try.prog (fun _ => none) 40 9 [.ptr 0 0, .int .u64 old, .int .u64 w] (mkS [.cells [.int .u64 N] none]) (vF K)) = (
  bif xcm .leq w old then (
   K (.tup [.bool false, .int .i64 1]) [some (.cells [.int .u64 N] none)] [])
  else (
   bif xcm .geq w 4611686018427387904 then (
    K (.tup [.bool false, .int .i64 7]) [some (.cells [.int .u64 N] none)] [])
   else (
    bif xcm .neq N old then (
     K (.tup [.bool false, .int .i64 0]) [some (.cells [.int .u64 N] none)] [])
    else (
     K (.tup [.bool true, .int .i64 0]) [some (.cells [.int .u64 w] none)] [])))) := by kernel_rfl
theorem cas_ok (N old w : Int) : SFun Go.Proofs.Try.prog 9 [.ptr 0 0, .int .u64 old, .int .u64 w] (mkS [.cells [.int .u64 N] none])
    fun l s => l = .tup [.bool (kD N old w), .int .i64 (kE old w)] ∧ s = mkS [.cells [.int .u64 (kN N old w)] none] := by
  refine SFun.mono (SFun.vc (Q := fun l b => l = .tup [.bool (kD N old w), .int .i64 (kE old w)] ∧ b = [.cells [.int .u64 (kN N old w)] none]) noCx_ok (n := 40) 1 rfl ?_) fun l s' ⟨b0, ⟨h1, h2⟩, h3⟩ => ⟨h1, by rw [h3, h2]⟩
  rw [cas_x]
  simp only [kD, kE, kN, xcm_leq, xcm_geq, xcm_neq]
  refine ite_way (fun h => ?_) (fun h => ?_)
  · rw [if_pos h, if_pos h, if_pos h]; exact ⟨rfl, _, _, [.id 0], ⟨rfl, rfl⟩, by (exact ⟨by kernel_rfl, by ((repeat refine okTms_cons (by (first | exact lw_any | exact lw_int | exact lw_bool | exact lw_ptr rfl | exact lw_slo rfl | exact lw_nilp | exact lw_nils | exact lw_str | exact lw_slo_nils | exact lw_slo_sle | exact lw_sl rfl | exact lw_unb | exact lw_gptr | exact lw_noid rfl | exact lw_cap rfl (Nat.le_refl _) | exact lw_cap rfl (by omega) | assumption)) ?_); exact okTms_nil), by ((repeat refine okBlks_cons (by (first | exact lb_dead | exact lb_same (by (first | assumption | exact noIds_tab (fun _ => rfl) _ _ | exact noIds_encL (fun _ => rfl) _ | rfl)) | exact lb_ro (by (first | assumption | exact noIds_tab (fun _ => rfl) _ _ | exact noIds_encL (fun _ => rfl) _ | rfl)) | exact lb_none | exact lb_cells (by ((repeat refine lws_cons (by (first | exact lw_any | exact lw_int | exact lw_bool | exact lw_ptr rfl | exact lw_slo rfl | exact lw_nilp | exact lw_nils | exact lw_str | exact lw_slo_nils | exact lw_slo_sle | exact lw_sl rfl | exact lw_unb | exact lw_gptr | exact lw_noid rfl | exact lw_cap rfl (Nat.le_refl _) | exact lw_cap rfl (by omega) | assumption)) ?_); exact lws_nil)) (by simp) | exact lb_iter | exact lb_cap (Nat.le_refl _) (Nat.le_refl _) rfl rfl | exact lb_capn (by assumption) (by (first | assumption | exact noIds_tab (fun _ => rfl) _ _ | exact noIds_encL (fun _ => rfl) _ | rfl)) | assumption)) ?_); exact okBlks_nil)⟩)⟩
  rw [if_neg h, if_neg h, if_neg h]
  refine ite_way (fun h => ?_) (fun h => ?_)
  · rw [if_pos h, if_pos h, if_pos h]; exact ⟨rfl, _, _, [.id 0], ⟨rfl, rfl⟩, by (exact ⟨by kernel_rfl, by ((repeat refine okTms_cons (by (first | exact lw_any | exact lw_int | exact lw_bool | exact lw_ptr rfl | exact lw_slo rfl | exact lw_nilp | exact lw_nils | exact lw_str | exact lw_slo_nils | exact lw_slo_sle | exact lw_sl rfl | exact lw_unb | exact lw_gptr | exact lw_noid rfl | exact lw_cap rfl (Nat.le_refl _) | exact lw_cap rfl (by omega) | assumption)) ?_); exact okTms_nil), by ((repeat refine okBlks_cons (by (first | exact lb_dead | exact lb_same (by (first | assumption | exact noIds_tab (fun _ => rfl) _ _ | exact noIds_encL (fun _ => rfl) _ | rfl)) | exact lb_ro (by (first | assumption | exact noIds_tab (fun _ => rfl) _ _ | exact noIds_encL (fun _ => rfl) _ | rfl)) | exact lb_none | exact lb_cells (by ((repeat refine lws_cons (by (first | exact lw_any | exact lw_int | exact lw_bool | exact lw_ptr rfl | exact lw_slo rfl | exact lw_nilp | exact lw_nils | exact lw_str | exact lw_slo_nils | exact lw_slo_sle | exact lw_sl rfl | exact lw_unb | exact lw_gptr | exact lw_noid rfl | exact lw_cap rfl (Nat.le_refl _) | exact lw_cap rfl (by omega) | assumption)) ?_); exact lws_nil)) (by simp) | exact lb_iter | exact lb_cap (Nat.le_refl _) (Nat.le_refl _) rfl rfl | exact lb_capn (by assumption) (by (first | assumption | exact noIds_tab (fun _ => rfl) _ _ | exact noIds_encL (fun _ => rfl) _ | rfl)) | assumption)) ?_); exact okBlks_nil)⟩)⟩
  rw [if_neg h, if_neg h, if_neg h]
  by_cases e : N = old
  · simp only [e, decide_true, Bool.not_true, cond_false, if_true]; exact ⟨rfl, _, _, [.id 0], ⟨rfl, rfl⟩, by (exact ⟨by kernel_rfl, by ((repeat refine okTms_cons (by (first | exact lw_any | exact lw_int | exact lw_bool | exact lw_ptr rfl | exact lw_slo rfl | exact lw_nilp | exact lw_nils | exact lw_str | exact lw_slo_nils | exact lw_slo_sle | exact lw_sl rfl | exact lw_unb | exact lw_gptr | exact lw_noid rfl | exact lw_cap rfl (Nat.le_refl _) | exact lw_cap rfl (by omega) | assumption)) ?_); exact okTms_nil), by ((repeat refine okBlks_cons (by (first | exact lb_dead | exact lb_same (by (first | assumption | exact noIds_tab (fun _ => rfl) _ _ | exact noIds_encL (fun _ => rfl) _ | rfl)) | exact lb_ro (by (first | assumption | exact noIds_tab (fun _ => rfl) _ _ | exact noIds_encL (fun _ => rfl) _ | rfl)) | exact lb_none | exact lb_cells (by ((repeat refine lws_cons (by (first | exact lw_any | exact lw_int | exact lw_bool | exact lw_ptr rfl | exact lw_slo rfl | exact lw_nilp | exact lw_nils | exact lw_str | exact lw_slo_nils | exact lw_slo_sle | exact lw_sl rfl | exact lw_unb | exact lw_gptr | exact lw_noid rfl | exact lw_cap rfl (Nat.le_refl _) | exact lw_cap rfl (by omega) | assumption)) ?_); exact lws_nil)) (by simp) | exact lb_iter | exact lb_cap (Nat.le_refl _) (Nat.le_refl _) rfl rfl | exact lb_capn (by assumption) (by (first | assumption | exact noIds_tab (fun _ => rfl) _ _ | exact noIds_encL (fun _ => rfl) _ | rfl)) | assumption)) ?_); exact okBlks_nil)⟩)⟩
  · simp only [e, decide_false, Bool.not_false, cond_true, if_false]; exact ⟨rfl, _, _, [.id 0], ⟨rfl, rfl⟩, by (exact ⟨by kernel_rfl, by ((repeat refine okTms_cons (by (first | exact lw_any | exact lw_int | exact lw_bool | exact lw_ptr rfl | exact lw_slo rfl | exact lw_nilp | exact lw_nils | exact lw_str | exact lw_slo_nils | exact lw_slo_sle | exact lw_sl rfl | exact lw_unb | exact lw_gptr | exact lw_noid rfl | exact lw_cap rfl (Nat.le_refl _) | exact lw_cap rfl (by omega) | assumption)) ?_); exact okTms_nil), by ((repeat refine okBlks_cons (by (first | exact lb_dead | exact lb_same (by (first | assumption | exact noIds_tab (fun _ => rfl) _ _ | exact noIds_encL (fun _ => rfl) _ | rfl)) | exact lb_ro (by (first | assumption | exact noIds_tab (fun _ => rfl) _ _ | exact noIds_encL (fun _ => rfl) _ | rfl)) | exact lb_none | exact lb_cells (by ((repeat refine lws_cons (by (first | exact lw_any | exact lw_int | exact lw_bool | exact lw_ptr rfl | exact lw_slo rfl | exact lw_nilp | exact lw_nils | exact lw_str | exact lw_slo_nils | exact lw_slo_sle | exact lw_sl rfl | exact lw_unb | exact lw_gptr | exact lw_noid rfl | exact lw_cap rfl (Nat.le_refl _) | exact lw_cap rfl (by omega) | assumption)) ?_); exact lws_nil)) (by simp) | exact lb_iter | exact lb_cap (Nat.le_refl _) (Nat.le_refl _) rfl rfl | exact lb_capn (by assumption) (by (first | assumption | exact noIds_tab (fun _ => rfl) _ _ | exact noIds_encL (fun _ => rfl) _ | rfl)) | assumption)) ?_); exact okBlks_nil)⟩)⟩
def casG : Gc := fun args s => match args, s.g with
  | [.ptr b 0, .int .u64 old, .int .u64 w], [] => (match s.h.get b with
    | some (.cells [.int .u64 N] none) => (match s.lay [b] [.cells [.int .u64 (kN N old w)] none] [] with
      | some s' => some ([], .tup [.bool (kD N old w), .int .i64 (kE old w)], s')
      | none => none)
    | _ => none)
  | _, _ => none
theorem casG_ok : GOk Go.Proofs.Try.prog 9 casG := by
  intro args s bs l s' hg hb hfr
  unfold casG at hg
  split at hg
  · rename_i b old w hgl
    split at hg
    · rename_i N hb0
      split at hg
      · rename_i s1 hs1
        simp only [Option.some.injEq, Prod.mk.injEq] at hg
        obtain ⟨rfl, rfl, rfl⟩ := hg
        refine SFun.lay (bs := [.cells [.int .u64 N] none]) (args0 := [.ptr 0 0, .int .u64 old, .int .u64 w]) (bs' := [.cells [.int .u64 (kN N old w)] none]) (v0 := .tup [.bool (kD N old w), .int .i64 (kE old w)]) hfr hs1 (by simp)
          ⟨⟨there hfr hb0, _, hb0, by (first | exact lb_dead | exact lb_same (by (first | assumption | exact noIds_tab (fun _ => rfl) _ _ | exact noIds_encL (fun _ => rfl) _ | rfl)) | exact lb_ro (by (first | assumption | exact noIds_tab (fun _ => rfl) _ _ | exact noIds_encL (fun _ => rfl) _ | rfl)) | exact lb_none | exact lb_cells (by ((repeat refine lws_cons (by (first | exact lw_any | exact lw_int | exact lw_bool | exact lw_ptr rfl | exact lw_slo rfl | exact lw_nilp | exact lw_nils | exact lw_str | exact lw_slo_nils | exact lw_slo_sle | exact lw_sl rfl | exact lw_unb | exact lw_gptr | exact lw_noid rfl | exact lw_cap rfl (Nat.le_refl _) | exact lw_cap rfl (by omega) | assumption)) ?_); exact lws_nil)) (by simp) | exact lb_iter | exact lb_cap (Nat.le_refl _) (Nat.le_refl _) rfl rfl | exact lb_capn (by assumption) (by (first | assumption | exact noIds_tab (fun _ => rfl) _ _ | exact noIds_encL (fun _ => rfl) _ | rfl)) | assumption), fun κ hκ => by (first | exact lb_dead | exact lb_same (by (first | assumption | exact noIds_tab (fun _ => rfl) _ _ | exact noIds_encL (fun _ => rfl) _ | rfl)) | exact lb_ro (by (first | assumption | exact noIds_tab (fun _ => rfl) _ _ | exact noIds_encL (fun _ => rfl) _ | rfl)) | exact lb_none | exact lb_cells (by ((repeat refine lws_cons (by (first | exact lw_any | exact lw_int | exact lw_bool | exact lw_ptr rfl | exact lw_slo rfl | exact lw_nilp | exact lw_nils | exact lw_str | exact lw_slo_nils | exact lw_slo_sle | exact lw_sl rfl | exact lw_unb | exact lw_gptr | exact lw_noid rfl | exact lw_cap rfl (Nat.le_refl _) | exact lw_cap rfl (by omega) | assumption)) ?_); exact lws_nil)) (by simp) | exact lb_iter | exact lb_cap (Nat.le_refl _) (Nat.le_refl _) rfl rfl | exact lb_capn (by assumption) (by (first | assumption | exact noIds_tab (fun _ => rfl) _ _ | exact noIds_encL (fun _ => rfl) _ | rfl)) | assumption)⟩, trivial⟩ (by ((repeat refine lws_cons (by (first | exact lw_any | exact lw_int | exact lw_bool | exact lw_ptr rfl | exact lw_slo rfl | exact lw_nilp | exact lw_nils | exact lw_str | exact lw_slo_nils | exact lw_slo_sle | exact lw_sl rfl | exact lw_unb | exact lw_gptr | exact lw_noid rfl | exact lw_cap rfl (Nat.le_refl _) | exact lw_cap rfl (by omega) | assumption)) ?_); exact lws_nil)) ?_ fun κ h1 h2 => ⟨⟨lb_cells (lws_cons lw_int lws_nil) (by simp), trivial⟩, lw_noid rfl⟩
        rw [hgl]
        exact cas_ok N old w
      · cases hg
    · cases hg
  · cases hg
end
end Go.Lev
