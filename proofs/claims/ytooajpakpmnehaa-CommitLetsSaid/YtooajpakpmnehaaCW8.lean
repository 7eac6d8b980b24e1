/- chapter 25: the memory's Do: trees -/
import Derived.Test.YtooajpakpmnehaaCW7
import Derived.Test.YtooajpakpmnehaaLc
import Derived.Test.YtooajpakpmnehaaChecked
import Derived.KernelRfl

namespace Go.Lev
open Go.RowKit
set_option linter.unusedVariables false
set_option linter.unusedSimpArgs false
set_option maxRecDepth 100000
noncomputable section
/-! rows of integers -/
def decIu64 : List LV → List Int
  | .int _ a :: r => a :: decIu64 r
  | _ => []
theorem decIu64_enc : ∀ xs, decIu64 (encL (cI .u64) xs) = xs
  | [] => rfl
  | x :: r => by simp [encL, cI, decIu64, decIu64_enc r]
def okIu64 (cs : List LV) (n : Nat) : Bool := @decide (cs = encL (cI .u64) (decIu64 cs) ∧ (decIu64 cs).length = n ∧ n ≤ 9223372036854775807) (Classical.propDecidable _)

theorem okIu64_iff {cs : List LV} {n : Nat} : okIu64 cs n = true ↔ ∃ xs, cs = encL (cI .u64) xs ∧ xs.length = n ∧ n ≤ 9223372036854775807 := by
  simp only [okIu64, decide_eq_true_eq]
  exact ⟨fun h => ⟨_, h⟩, fun ⟨xs, h1, h2⟩ => by subst h1; rw [decIu64_enc]; exact ⟨rfl, h2⟩⟩
theorem okIu64_enc {xs : List Int} (h : xs.length ≤ 9223372036854775807) : okIu64 (encL (cI .u64) xs) xs.length = true := okIu64_iff.2 ⟨_, rfl, rfl, h⟩
theorem encIu64_len (xs : List Int) : (encL (cI .u64) xs).length = xs.length := by rw [encL_length (cI_len .u64)]; omega
theorem encIu64_nth {xs : List Int} {i : Nat} (h : i < xs.length) : nthD (encL (cI .u64) xs) i = .int .u64 xs[i] := by
  have := encL_nth (cI_len .u64) (j := 0) h (by omega)
  simp only [Nat.mul_one, Nat.add_zero] at this
  exact this
theorem noIds_Iu64 (xs : List Int) : noIds (encL (cI .u64) xs) = true := noIds_encL (fun _ => rfl) xs
theorem xnoid_Iu64 (xs : List Int) : xnoid (encL (cI .u64) xs) = true := xnoid_encL (fun _ => rfl) xs

/-! a memory, what an operation does to it -/
structure MS where
  W : List Int
  L : List Lk
  N : Int
  S : List Int
  C : Int
abbrev Ans := Int × Lk × Bool × Int
def isLk (l : Lk) : Bool := decide (l.1 < 4611686018427387904) && (if l.2.1 then decide (0 ≤ l.2.2) && decide (l.2.2 < 4) else decide (l.2.2 = 0))
def MS.bump (m : MS) : MS := { m with C := xar .add .i64 m.C 1 }
abbrev erA (e : Int) : Ans := (0, (0, false, 0), false, e)
def ldW (m : MS) (a : Int) : MS × Ans := if 1 ≤ a ∧ a < m.W.length then (m.bump, (m.W.getD a.toNat 0, (0, false, 0), false, 0)) else (m, erA 2)
def stW (m : MS) (a w : Int) : MS × Ans := if 1 ≤ a ∧ a < m.W.length then ({ m.bump with W := m.W.set a.toNat w }, erA 0) else (m, erA 2)
def ldL (m : MS) (a : Int) : MS × Ans := if 0 ≤ a ∧ a < m.L.length then (m.bump, (0, m.L.getD a.toNat (0, false, 0), false, 0)) else (m, erA 2)
def csL (m : MS) (a : Int) (was l : Lk) : MS × Ans := if 0 ≤ a ∧ a < m.L.length then (if isLk l then (if m.L.getD a.toNat (0, false, 0) = was then ({ m.bump with L := m.L.set a.toNat l }, (0, (0, false, 0), true, 0)) else (m.bump, erA 0)) else (m, erA 1)) else (m, erA 2)
def stL (m : MS) (a : Int) (l : Lk) : MS × Ans := if 0 ≤ a ∧ a < m.L.length then (if isLk l then ({ m.bump with L := m.L.set a.toNat l }, erA 0) else (m, erA 1)) else (m, erA 2)
def ldN (m : MS) : MS × Ans := (m.bump, (m.N, (0, false, 0), false, 0))
def csN (m : MS) (old w : Int) : MS × Ans := if w ≤ old then (m, erA 1) else if 4611686018427387904 ≤ w then (m, erA 7) else if m.N = old then ({ m.bump with N := w }, (0, (0, false, 0), true, 0)) else (m.bump, erA 0)
def ldS (m : MS) (a : Int) : MS × Ans := if 0 ≤ a ∧ a < m.S.length then (m.bump, (m.S.getD a.toNat 0, (0, false, 0), false, 0)) else (m, erA 2)
def stS (m : MS) (a w : Int) : MS × Ans := if 0 ≤ a ∧ a < m.S.length then ({ m.bump with S := m.S.set a.toNat w }, erA 0) else (m, erA 2)
def stepM (m : MS) (o : OpR) : MS × Ans :=
  if o.k = 1 then ldW m o.at' else if o.k = 2 then stW m o.at' o.w else if o.k = 3 then ldL m o.at' else if o.k = 4 then csL m o.at' o.was o.lk else if o.k = 5 then stL m o.at' o.lk
  else if o.k = 6 then ldN m else if o.k = 7 then csN m o.old o.w else if o.k = 8 then ldS m o.at' else if o.k = 9 then stS m o.at' o.w else (m, erA 1)
abbrev mH (a b c d e N C wi : Int) (nw nl ns : Nat) (ws ls ss : List LV) : List LB := [.cells [.int .i64 a, .int .i64 b, .int .i64 c, .int .i64 d, .int .u64 e, .ptr 1 0, .ptr 3 0, .ptr 5 0, .ptr 6 0, .int .i64 C] none, .cells [.slo 2 0 nw 0] none, .cells ws (some 1), .cells [.int .i64 wi, .slo 4 0 nl 0] none, .cells ls (some 3), .cells [.int .u64 N] none, .cells [.slo 7 0 ns 0] none, .cells ss (some 1)]
abbrev ansL (x : Ans) : List LV := ansC x.1 x.2.1.1 x.2.1.2.1 x.2.1.2.2 x.2.2.1 x.2.2.2
abbrev mM (a b c d e wi : Int) (m : MS) : List LB := mH a b c d e m.N m.C wi m.W.length m.L.length m.S.length (encL (cI .u64) m.W) (encL cL m.L) (encL (cI .u64) m.S)
structure MS.ok (m : MS) : Prop where
  w : m.W.length ≤ 1000000
  l : m.L.length ≤ 1000000
  s : m.S.length ≤ 1000000
theorem stepM_len (m : MS) (o : OpR) : (stepM m o).1.W.length = m.W.length ∧ (stepM m o).1.L.length = m.L.length ∧ (stepM m o).1.S.length = m.S.length := by
  have h1 : ∀ a, (ldW m a).1.W.length = m.W.length ∧ (ldW m a).1.L.length = m.L.length ∧ (ldW m a).1.S.length = m.S.length := fun a => by simp only [ldW]; split <;> simp [MS.bump]
  have h2 : ∀ a w, (stW m a w).1.W.length = m.W.length ∧ (stW m a w).1.L.length = m.L.length ∧ (stW m a w).1.S.length = m.S.length := fun a w => by simp only [stW]; split <;> simp [MS.bump]
  have h3 : ∀ a, (ldL m a).1.W.length = m.W.length ∧ (ldL m a).1.L.length = m.L.length ∧ (ldL m a).1.S.length = m.S.length := fun a => by simp only [ldL]; split <;> simp [MS.bump]
  have h4 : ∀ a w l, (csL m a w l).1.W.length = m.W.length ∧ (csL m a w l).1.L.length = m.L.length ∧ (csL m a w l).1.S.length = m.S.length := fun a w l => by
    simp only [csL]; split
    · split
      · split <;> simp [MS.bump]
      · simp
    · simp
  have h5 : ∀ a l, (stL m a l).1.W.length = m.W.length ∧ (stL m a l).1.L.length = m.L.length ∧ (stL m a l).1.S.length = m.S.length := fun a l => by
    simp only [stL]; split
    · split <;> simp [MS.bump]
    · simp
  have h7 : ∀ a w, (csN m a w).1.W.length = m.W.length ∧ (csN m a w).1.L.length = m.L.length ∧ (csN m a w).1.S.length = m.S.length := fun a w => by
    simp only [csN]; split
    · simp
    · split
      · simp
      · split <;> simp [MS.bump]
  have h8 : ∀ a, (ldS m a).1.W.length = m.W.length ∧ (ldS m a).1.L.length = m.L.length ∧ (ldS m a).1.S.length = m.S.length := fun a => by simp only [ldS]; split <;> simp [MS.bump]
  have h9 : ∀ a w, (stS m a w).1.W.length = m.W.length ∧ (stS m a w).1.L.length = m.L.length ∧ (stS m a w).1.S.length = m.S.length := fun a w => by simp only [stS]; split <;> simp [MS.bump]
  rw [stepM]; split; exact h1 _
  split; exact h2 _ _
  split; exact h3 _
  split; exact h4 _ _ _
  split; exact h5 _ _
  split; exact ⟨rfl, rfl, rfl⟩
  split; exact h7 _ _
  split; exact h8 _
  split; exact h9 _ _
  exact ⟨rfl, rfl, rfl⟩
theorem getD_at {α : Type} {xs : List α} {i : Nat} (h : i < xs.length) (d : α) : xs.getD i d = xs[i] := by simp [List.getD_eq_getElem?_getD, h]

theorem nt_lss (a b : Int) : xnot (xcm .lss a b) = xcm .geq a b := by rw [wd_not, xcm_lss, xcm_geq]; by_cases h : a < b <;> simp [h] <;> omega
theorem lkEq (l : Lk) (v : Int) (h : Bool) (o : Int) : xand (xcm .eql l.1 v) (xand (xbq l.2.1 h) (xand (xcm .eql l.2.2 o) true)) = decide (l = (v, h, o)) := by
  obtain ⟨a, b, c⟩ := l
  rw [Bool.eq_iff_iff]
  simp [wd_and, xcm_eql, wd_bq]
theorem isLk_cases (v : Int) (h : Bool) (o : Int) : (isLk (v, h, o) = true ∧ v < 4611686018427387904 ∧ ((h = true ∧ 0 ≤ o ∧ o < 4) ∨ (h = false ∧ o = 0))) ∨ (isLk (v, h, o) = false ∧ (4611686018427387904 ≤ v ∨ (v < 4611686018427387904 ∧ h = true ∧ o < 0) ∨ (v < 4611686018427387904 ∧ h = true ∧ 4 ≤ o) ∨ (v < 4611686018427387904 ∧ h = false ∧ o < 0) ∨ (v < 4611686018427387904 ∧ h = false ∧ 0 < o))) := by
  by_cases hv : v < 4611686018427387904
  · cases h with
    | true =>
      by_cases h1 : 0 ≤ o
      · by_cases h2 : o < 4
        · exact .inl ⟨by simp [isLk, hv, h1, h2], hv, .inl ⟨rfl, h1, h2⟩⟩
        · exact .inr ⟨by simp [isLk, hv, h1, h2], .inr (.inr (.inl ⟨hv, rfl, by omega⟩))⟩
      · exact .inr ⟨by simp [isLk, hv, h1], .inr (.inl ⟨hv, rfl, by omega⟩)⟩
    | false =>
      by_cases h1 : o = 0
      · exact .inl ⟨by simp [isLk, hv, h1], hv, .inr ⟨rfl, h1⟩⟩
      · rcases Int.lt_or_gt_of_ne h1 with h2 | h2
        · exact .inr ⟨by simp [isLk, hv, h1], .inr (.inr (.inr (.inl ⟨hv, rfl, h2⟩)))⟩
        · exact .inr ⟨by simp [isLk, hv, h1], .inr (.inr (.inr (.inr ⟨hv, rfl, h2⟩)))⟩
  · exact .inr ⟨by simp [isLk, hv], .inl (by omega)⟩

theorem mdo0 (k a old w wv : Int) (wh : Bool) (wo lv : Int) (lh : Bool) (lo : Int) (K : Fk) : (xfun Go.Proofs.Try.prog (fun _ => none) 60 12 [.any, .agg (opC k a old w wv wh wo lv lh lo)] (mkS []) (vF K)) = (
 bif xcm .eql k 1 then (
 False)
 else (
 bif xcm .eql k 2 then (
 False)
 else (
 bif xcm .eql k 3 then (
 False)
 else (
 bif xcm .eql k 4 then (
 False)
 else (
 bif xcm .eql k 5 then (
 False)
 else (
 bif xcm .eql k 6 then (
 False)
 else (
 bif xcm .eql k 7 then (
 False)
 else (
 bif xcm .eql k 8 then (
 False)
 else (
 bif xcm .eql k 9 then (
 False)
 else (
 K (.agg [.int .u64 0, .int .u64 0, .bool false, .int .i64 0, .bool false, .int .i64 1]) [some (.cells [.int .i64 k, .int .i64 a, .int .u64 old, .int .u64 w, .int .u64 wv, .bool wh, .int .i64 wo, .int .u64 lv, .bool lh, .int .i64 lo] none), some (.cells [.int .u64 0, .int .u64 0, .bool false, .int .i64 0, .bool false, .int .i64 1] none), some (.cells [.int .i64 k, .int .i64 a, .int .u64 old, .int .u64 w, .int .u64 wv, .bool wh, .int .i64 wo, .int .u64 lv, .bool lh, .int .i64 lo] none), some (.cells [.int .u64 0, .int .u64 0, .bool false, .int .i64 0, .bool false, .int .i64 1] none), some (.cells [.int .u64 0, .int .u64 0, .bool false, .int .i64 0, .bool false, .int .i64 1] none), some (.cells [.int .u64 0, .int .u64 0, .bool false, .int .i64 0, .bool false, .int .i64 1] none)] [])))))))))) := by kernel_rfl
abbrev mdo1_b1 (a : Int) (old : Int) (w : Int) (wv : Int) (wh : Bool) (wo : Int) (lv : Int) (lh : Bool) (lo : Int) (sa : Int) (sb : Int) (sc : Int) (sd : Int) (se : Int) (N : Int) (C : Int) (wi : Int) (nw : Nat) (nl : Nat) (ns : Nat) (ws : List LV) (ls : List LV) (ss : List LV) : List (Option LB) := [some (.cells [.int .i64 sa, .int .i64 sb, .int .i64 sc, .int .i64 sd, .int .u64 se, .ptr 1 0, .ptr 3 0, .ptr 5 0, .ptr 6 0, .int .i64 C] none), some (.cells [.slo 2 0 nw 0] none), some (.cells ws (some 1)), some (.cells [.int .i64 wi, .slo 4 0 nl 0] none), some (.cells ls (some 3)), some (.cells [.int .u64 N] none), some (.cells [.slo 7 0 ns 0] none), some (.cells ss (some 1)), some (.cells [.int .i64 1, .int .i64 a, .int .u64 old, .int .u64 w, .int .u64 wv, .bool wh, .int .i64 wo, .int .u64 lv, .bool lh, .int .i64 lo] none), some (.cells [.int .u64 0, .int .u64 0, .bool false, .int .i64 0, .bool false, .int .i64 2] none), some (.cells [.int .i64 1, .int .i64 a, .int .u64 old, .int .u64 w, .int .u64 wv, .bool wh, .int .i64 wo, .int .u64 lv, .bool lh, .int .i64 lo] none), some (.cells [.int .u64 0, .int .u64 0, .bool false, .int .i64 0, .bool false, .int .i64 2] none), some (.cells [.int .u64 0, .int .u64 0, .bool false, .int .i64 0, .bool false, .int .i64 2] none), some (.cells [.int .u64 0, .int .u64 0, .bool false, .int .i64 0, .bool false, .int .i64 2] none)]
theorem mdo1 (a old w wv : Int) (wh : Bool) (wo lv : Int) (lh : Bool) (lo sa sb sc sd se N C wi : Int) (nw nl ns : Nat) (ws ls ss : List LV) (K : Fk) : (xfun Go.Proofs.Try.prog (fun _ => none) 60 12 [.ptr 0 0, .agg (opC 1 a old w wv wh wo lv lh lo)] (mkS (mH sa sb sc sd se N C wi nw nl ns ws ls ss)) (vF K)) = (
 bif xcm .geq a 1 then (
 bif xnot (xcm .lss a ↑nw) then (
 K (.agg [.int .u64 0, .int .u64 0, .bool false, .int .i64 0, .bool false, .int .i64 2]) (mdo1_b1 a old w wv wh wo lv lh lo sa sb sc sd se N C wi nw nl ns ws ls ss) [])
 else (
 bif xnn a then bif xle (xadd (xnat a) 1) nw then bif xle (xadd (xix 0 (xnat a) 1) 1) (xln ws) then bif isI .u64 (nthD ws (xix 0 (xnat a) 1)) then
 K (.agg [.int .u64 (asI (nthD ws (xix 0 (xnat a) 1))), .int .u64 0, .bool false, .int .i64 0, .bool false, .int .i64 0]) [some (.cells [.int .i64 sa, .int .i64 sb, .int .i64 sc, .int .i64 sd, .int .u64 se, .ptr 1 0, .ptr 3 0, .ptr 5 0, .ptr 6 0, .int .i64 (xar .add .i64 C 1)] none), some (.cells [.slo 2 0 nw 0] none), some (.cells ws (some 1)), some (.cells [.int .i64 wi, .slo 4 0 nl 0] none), some (.cells ls (some 3)), some (.cells [.int .u64 N] none), some (.cells [.slo 7 0 ns 0] none), some (.cells ss (some 1)), some (.cells [.int .i64 1, .int .i64 a, .int .u64 old, .int .u64 w, .int .u64 wv, .bool wh, .int .i64 wo, .int .u64 lv, .bool lh, .int .i64 lo] none), some (.cells [.int .u64 (asI (nthD ws (xix 0 (xnat a) 1))), .int .u64 0, .bool false, .int .i64 0, .bool false, .int .i64 0] none), some (.cells [.int .i64 1, .int .i64 a, .int .u64 old, .int .u64 w, .int .u64 wv, .bool wh, .int .i64 wo, .int .u64 lv, .bool lh, .int .i64 lo] none), some (.cells [.int .u64 (asI (nthD ws (xix 0 (xnat a) 1))), .int .u64 0, .bool false, .int .i64 0, .bool false, .int .i64 0] none), some (.cells [.int .u64 (asI (nthD ws (xix 0 (xnat a) 1))), .int .u64 0, .bool false, .int .i64 0, .bool false, .int .i64 0] none), some (.cells [.int .u64 (asI (nthD ws (xix 0 (xnat a) 1))), .int .u64 0, .bool false, .int .i64 0, .bool false, .int .i64 0] none)] [] else False else False else False else False))
 else (
 K (.agg [.int .u64 0, .int .u64 0, .bool false, .int .i64 0, .bool false, .int .i64 2]) (mdo1_b1 a old w wv wh wo lv lh lo sa sb sc sd se N C wi nw nl ns ws ls ss) [])) := by kernel_rfl
abbrev mdo2_b1 (a : Int) (old : Int) (w : Int) (wv : Int) (wh : Bool) (wo : Int) (lv : Int) (lh : Bool) (lo : Int) (sa : Int) (sb : Int) (sc : Int) (sd : Int) (se : Int) (N : Int) (C : Int) (wi : Int) (nw : Nat) (nl : Nat) (ns : Nat) (ws : List LV) (ls : List LV) (ss : List LV) : List (Option LB) := [some (.cells [.int .i64 sa, .int .i64 sb, .int .i64 sc, .int .i64 sd, .int .u64 se, .ptr 1 0, .ptr 3 0, .ptr 5 0, .ptr 6 0, .int .i64 C] none), some (.cells [.slo 2 0 nw 0] none), some (.cells ws (some 1)), some (.cells [.int .i64 wi, .slo 4 0 nl 0] none), some (.cells ls (some 3)), some (.cells [.int .u64 N] none), some (.cells [.slo 7 0 ns 0] none), some (.cells ss (some 1)), some (.cells [.int .i64 2, .int .i64 a, .int .u64 old, .int .u64 w, .int .u64 wv, .bool wh, .int .i64 wo, .int .u64 lv, .bool lh, .int .i64 lo] none), some (.cells [.int .u64 0, .int .u64 0, .bool false, .int .i64 0, .bool false, .int .i64 2] none), some (.cells [.int .i64 2, .int .i64 a, .int .u64 old, .int .u64 w, .int .u64 wv, .bool wh, .int .i64 wo, .int .u64 lv, .bool lh, .int .i64 lo] none), some (.cells [.int .u64 0, .int .u64 0, .bool false, .int .i64 0, .bool false, .int .i64 2] none), some (.cells [.int .u64 0, .int .u64 0, .bool false, .int .i64 0, .bool false, .int .i64 2] none), some (.cells [.int .u64 0, .int .u64 0, .bool false, .int .i64 0, .bool false, .int .i64 2] none)]
theorem mdo2 (a old w wv : Int) (wh : Bool) (wo lv : Int) (lh : Bool) (lo sa sb sc sd se N C wi : Int) (nw nl ns : Nat) (ws ls ss : List LV) (K : Fk) : (xfun Go.Proofs.Try.prog (fun _ => none) 60 12 [.ptr 0 0, .agg (opC 2 a old w wv wh wo lv lh lo)] (mkS (mH sa sb sc sd se N C wi nw nl ns ws ls ss)) (vF K)) = (
 bif xcm .geq a 1 then (
 bif xnot (xcm .lss a ↑nw) then (
 K (.agg [.int .u64 0, .int .u64 0, .bool false, .int .i64 0, .bool false, .int .i64 2]) (mdo2_b1 a old w wv wh wo lv lh lo sa sb sc sd se N C wi nw nl ns ws ls ss) [])
 else (
 bif xnn a then bif xle (xadd (xnat a) 1) nw then bif xle (xadd (xix 0 (xnat a) 1) 1) (xln ws) then
 K (.agg [.int .u64 0, .int .u64 0, .bool false, .int .i64 0, .bool false, .int .i64 0]) [some (.cells [.int .i64 sa, .int .i64 sb, .int .i64 sc, .int .i64 sd, .int .u64 se, .ptr 1 0, .ptr 3 0, .ptr 5 0, .ptr 6 0, .int .i64 (xar .add .i64 C 1)] none), some (.cells [.slo 2 0 nw 0] none), some (.cells (xlay ws (xix 0 (xnat a) 1) [.int .u64 w]) (some 1)), some (.cells [.int .i64 wi, .slo 4 0 nl 0] none), some (.cells ls (some 3)), some (.cells [.int .u64 N] none), some (.cells [.slo 7 0 ns 0] none), some (.cells ss (some 1)), some (.cells [.int .i64 2, .int .i64 a, .int .u64 old, .int .u64 w, .int .u64 wv, .bool wh, .int .i64 wo, .int .u64 lv, .bool lh, .int .i64 lo] none), some (.cells [.int .u64 0, .int .u64 0, .bool false, .int .i64 0, .bool false, .int .i64 0] none), some (.cells [.int .i64 2, .int .i64 a, .int .u64 old, .int .u64 w, .int .u64 wv, .bool wh, .int .i64 wo, .int .u64 lv, .bool lh, .int .i64 lo] none), some (.cells [.int .u64 0, .int .u64 0, .bool false, .int .i64 0, .bool false, .int .i64 0] none), some (.cells [.int .u64 0, .int .u64 0, .bool false, .int .i64 0, .bool false, .int .i64 0] none), some (.cells [.int .u64 0, .int .u64 0, .bool false, .int .i64 0, .bool false, .int .i64 0] none)] [] else False else False else False))
 else (
 K (.agg [.int .u64 0, .int .u64 0, .bool false, .int .i64 0, .bool false, .int .i64 2]) (mdo2_b1 a old w wv wh wo lv lh lo sa sb sc sd se N C wi nw nl ns ws ls ss) [])) := by kernel_rfl
abbrev mdo3_b1 (a : Int) (old : Int) (w : Int) (wv : Int) (wh : Bool) (wo : Int) (lv : Int) (lh : Bool) (lo : Int) (sa : Int) (sb : Int) (sc : Int) (sd : Int) (se : Int) (N : Int) (C : Int) (wi : Int) (nw : Nat) (nl : Nat) (ns : Nat) (ws : List LV) (ls : List LV) (ss : List LV) : List (Option LB) := [some (.cells [.int .i64 sa, .int .i64 sb, .int .i64 sc, .int .i64 sd, .int .u64 se, .ptr 1 0, .ptr 3 0, .ptr 5 0, .ptr 6 0, .int .i64 C] none), some (.cells [.slo 2 0 nw 0] none), some (.cells ws (some 1)), some (.cells [.int .i64 wi, .slo 4 0 nl 0] none), some (.cells ls (some 3)), some (.cells [.int .u64 N] none), some (.cells [.slo 7 0 ns 0] none), some (.cells ss (some 1)), some (.cells [.int .i64 3, .int .i64 a, .int .u64 old, .int .u64 w, .int .u64 wv, .bool wh, .int .i64 wo, .int .u64 lv, .bool lh, .int .i64 lo] none), some (.cells [.int .u64 0, .int .u64 0, .bool false, .int .i64 0, .bool false, .int .i64 2] none), some (.cells [.int .i64 3, .int .i64 a, .int .u64 old, .int .u64 w, .int .u64 wv, .bool wh, .int .i64 wo, .int .u64 lv, .bool lh, .int .i64 lo] none), some (.cells [.int .u64 0, .int .u64 0, .bool false, .int .i64 0, .bool false, .int .i64 2] none), some (.cells [.int .u64 0, .int .u64 0, .bool false, .int .i64 0, .bool false, .int .i64 2] none), some (.cells [.int .u64 0, .bool false, .int .i64 0] none), some (.cells [.int .u64 0, .int .u64 0, .bool false, .int .i64 0, .bool false, .int .i64 2] none)]
theorem mdo3 (a old w wv : Int) (wh : Bool) (wo lv : Int) (lh : Bool) (lo sa sb sc sd se N C wi : Int) (nw nl ns : Nat) (ws ls ss : List LV) (K : Fk) : (xfun Go.Proofs.Try.prog (fun _ => none) 60 12 [.ptr 0 0, .agg (opC 3 a old w wv wh wo lv lh lo)] (mkS (mH sa sb sc sd se N C wi nw nl ns ws ls ss)) (vF K)) = (
 bif xcm .geq a 0 then (
 bif xnot (xcm .lss a ↑nl) then (
 K (.agg [.int .u64 0, .int .u64 0, .bool false, .int .i64 0, .bool false, .int .i64 2]) (mdo3_b1 a old w wv wh wo lv lh lo sa sb sc sd se N C wi nw nl ns ws ls ss) [])
 else (
 bif xnn a then bif xle (xadd (xnat a) 1) nl then bif xle (xadd (xix 0 (xnat a) 3) 3) (xln ls) then bif isI .u64 (nthD ls (xix 0 (xnat a) 3)) then bif isB (nthD ls (xadd (xix 0 (xnat a) 3) 1)) then bif isI .i64 (nthD ls (xadd (xadd (xix 0 (xnat a) 3) 1) 1)) then
 K (.agg [.int .u64 0, .int .u64 (asI (nthD ls (xix 0 (xnat a) 3))), .bool (asB (nthD ls (xadd (xix 0 (xnat a) 3) 1))), .int .i64 (asI (nthD ls (xadd (xadd (xix 0 (xnat a) 3) 1) 1))), .bool false, .int .i64 0]) [some (.cells [.int .i64 sa, .int .i64 sb, .int .i64 sc, .int .i64 sd, .int .u64 se, .ptr 1 0, .ptr 3 0, .ptr 5 0, .ptr 6 0, .int .i64 (xar .add .i64 C 1)] none), some (.cells [.slo 2 0 nw 0] none), some (.cells ws (some 1)), some (.cells [.int .i64 wi, .slo 4 0 nl 0] none), some (.cells ls (some 3)), some (.cells [.int .u64 N] none), some (.cells [.slo 7 0 ns 0] none), some (.cells ss (some 1)), some (.cells [.int .i64 3, .int .i64 a, .int .u64 old, .int .u64 w, .int .u64 wv, .bool wh, .int .i64 wo, .int .u64 lv, .bool lh, .int .i64 lo] none), some (.cells [.int .u64 0, .int .u64 (asI (nthD ls (xix 0 (xnat a) 3))), .bool (asB (nthD ls (xadd (xix 0 (xnat a) 3) 1))), .int .i64 (asI (nthD ls (xadd (xadd (xix 0 (xnat a) 3) 1) 1))), .bool false, .int .i64 0] none), some (.cells [.int .i64 3, .int .i64 a, .int .u64 old, .int .u64 w, .int .u64 wv, .bool wh, .int .i64 wo, .int .u64 lv, .bool lh, .int .i64 lo] none), some (.cells [.int .u64 0, .int .u64 (asI (nthD ls (xix 0 (xnat a) 3))), .bool (asB (nthD ls (xadd (xix 0 (xnat a) 3) 1))), .int .i64 (asI (nthD ls (xadd (xadd (xix 0 (xnat a) 3) 1) 1))), .bool false, .int .i64 0] none), some (.cells [.int .u64 0, .int .u64 (asI (nthD ls (xix 0 (xnat a) 3))), .bool (asB (nthD ls (xadd (xix 0 (xnat a) 3) 1))), .int .i64 (asI (nthD ls (xadd (xadd (xix 0 (xnat a) 3) 1) 1))), .bool false, .int .i64 0] none), some (.cells [.int .u64 (asI (nthD ls (xix 0 (xnat a) 3))), .bool (asB (nthD ls (xadd (xix 0 (xnat a) 3) 1))), .int .i64 (asI (nthD ls (xadd (xadd (xix 0 (xnat a) 3) 1) 1)))] none), some (.cells [.int .u64 0, .int .u64 (asI (nthD ls (xix 0 (xnat a) 3))), .bool (asB (nthD ls (xadd (xix 0 (xnat a) 3) 1))), .int .i64 (asI (nthD ls (xadd (xadd (xix 0 (xnat a) 3) 1) 1))), .bool false, .int .i64 0] none)] [] else False else False else False else False else False else False))
 else (
 K (.agg [.int .u64 0, .int .u64 0, .bool false, .int .i64 0, .bool false, .int .i64 2]) (mdo3_b1 a old w wv wh wo lv lh lo sa sb sc sd se N C wi nw nl ns ws ls ss) [])) := by kernel_rfl
abbrev mdo4_b1 (a : Int) (old : Int) (w : Int) (wv : Int) (wh : Bool) (wo : Int) (lv : Int) (lh : Bool) (lo : Int) (sa : Int) (sb : Int) (sc : Int) (sd : Int) (se : Int) (N : Int) (C : Int) (wi : Int) (nw : Nat) (nl : Nat) (ns : Nat) (ws : List LV) (ls : List LV) (ss : List LV) : List (Option LB) := [some (.cells [.int .i64 sa, .int .i64 sb, .int .i64 sc, .int .i64 sd, .int .u64 se, .ptr 1 0, .ptr 3 0, .ptr 5 0, .ptr 6 0, .int .i64 C] none), some (.cells [.slo 2 0 nw 0] none), some (.cells ws (some 1)), some (.cells [.int .i64 wi, .slo 4 0 nl 0] none), some (.cells ls (some 3)), some (.cells [.int .u64 N] none), some (.cells [.slo 7 0 ns 0] none), some (.cells ss (some 1)), some (.cells [.int .i64 4, .int .i64 a, .int .u64 old, .int .u64 w, .int .u64 wv, .bool wh, .int .i64 wo, .int .u64 lv, .bool lh, .int .i64 lo] none), some (.cells [.int .u64 0, .int .u64 0, .bool false, .int .i64 0, .bool false, .int .i64 1] none), some (.cells [.int .i64 4, .int .i64 a, .int .u64 old, .int .u64 w, .int .u64 wv, .bool wh, .int .i64 wo, .int .u64 lv, .bool lh, .int .i64 lo] none), some (.cells [.int .u64 0, .int .u64 0, .bool false, .int .i64 0, .bool false, .int .i64 1] none), some (.cells [.int .u64 0, .int .u64 0, .bool false, .int .i64 0, .bool false, .int .i64 1] none), some (.cells [.int .u64 wv, .bool wh, .int .i64 wo] none), some (.cells [.int .u64 lv, .bool lh, .int .i64 lo] none), some (.cells [.int .u64 lv, .bool lh, .int .i64 lo] none), some (.cells [.int .u64 lv, .bool lh, .int .i64 lo] none), some (.cells [.int .u64 0, .int .u64 0, .bool false, .int .i64 0, .bool false, .int .i64 1] none)]
abbrev mdo4_b2 (a : Int) (old : Int) (w : Int) (wv : Int) (wh : Bool) (wo : Int) (lv : Int) (lh : Bool) (lo : Int) (sa : Int) (sb : Int) (sc : Int) (sd : Int) (se : Int) (N : Int) (C : Int) (wi : Int) (nw : Nat) (nl : Nat) (ns : Nat) (ws : List LV) (ls : List LV) (ss : List LV) : List (Option LB) := [some (.cells [.int .i64 sa, .int .i64 sb, .int .i64 sc, .int .i64 sd, .int .u64 se, .ptr 1 0, .ptr 3 0, .ptr 5 0, .ptr 6 0, .int .i64 (xar .add .i64 C 1)] none), some (.cells [.slo 2 0 nw 0] none), some (.cells ws (some 1)), some (.cells [.int .i64 wi, .slo 4 0 nl 0] none), some (.cells (xlay ls (xix 0 (xnat a) 3) [.int .u64 lv, .bool lh, .int .i64 lo]) (some 3)), some (.cells [.int .u64 N] none), some (.cells [.slo 7 0 ns 0] none), some (.cells ss (some 1)), some (.cells [.int .i64 4, .int .i64 a, .int .u64 old, .int .u64 w, .int .u64 wv, .bool wh, .int .i64 wo, .int .u64 lv, .bool lh, .int .i64 lo] none), some (.cells [.int .u64 0, .int .u64 0, .bool false, .int .i64 0, .bool true, .int .i64 0] none), some (.cells [.int .i64 4, .int .i64 a, .int .u64 old, .int .u64 w, .int .u64 wv, .bool wh, .int .i64 wo, .int .u64 lv, .bool lh, .int .i64 lo] none), some (.cells [.int .u64 0, .int .u64 0, .bool false, .int .i64 0, .bool true, .int .i64 0] none), some (.cells [.int .u64 0, .int .u64 0, .bool false, .int .i64 0, .bool true, .int .i64 0] none), some (.cells [.int .u64 wv, .bool wh, .int .i64 wo] none), some (.cells [.int .u64 lv, .bool lh, .int .i64 lo] none), some (.cells [.int .u64 lv, .bool lh, .int .i64 lo] none), some (.cells [.int .u64 lv, .bool lh, .int .i64 lo] none), some (.cells [.int .u64 0, .int .u64 0, .bool false, .int .i64 0, .bool true, .int .i64 0] none)]
abbrev mdo4_b3 (a : Int) (old : Int) (w : Int) (wv : Int) (wh : Bool) (wo : Int) (lv : Int) (lh : Bool) (lo : Int) (sa : Int) (sb : Int) (sc : Int) (sd : Int) (se : Int) (N : Int) (C : Int) (wi : Int) (nw : Nat) (nl : Nat) (ns : Nat) (ws : List LV) (ls : List LV) (ss : List LV) : List (Option LB) := [some (.cells [.int .i64 sa, .int .i64 sb, .int .i64 sc, .int .i64 sd, .int .u64 se, .ptr 1 0, .ptr 3 0, .ptr 5 0, .ptr 6 0, .int .i64 (xar .add .i64 C 1)] none), some (.cells [.slo 2 0 nw 0] none), some (.cells ws (some 1)), some (.cells [.int .i64 wi, .slo 4 0 nl 0] none), some (.cells ls (some 3)), some (.cells [.int .u64 N] none), some (.cells [.slo 7 0 ns 0] none), some (.cells ss (some 1)), some (.cells [.int .i64 4, .int .i64 a, .int .u64 old, .int .u64 w, .int .u64 wv, .bool wh, .int .i64 wo, .int .u64 lv, .bool lh, .int .i64 lo] none), some (.cells [.int .u64 0, .int .u64 0, .bool false, .int .i64 0, .bool false, .int .i64 0] none), some (.cells [.int .i64 4, .int .i64 a, .int .u64 old, .int .u64 w, .int .u64 wv, .bool wh, .int .i64 wo, .int .u64 lv, .bool lh, .int .i64 lo] none), some (.cells [.int .u64 0, .int .u64 0, .bool false, .int .i64 0, .bool false, .int .i64 0] none), some (.cells [.int .u64 0, .int .u64 0, .bool false, .int .i64 0, .bool false, .int .i64 0] none), some (.cells [.int .u64 wv, .bool wh, .int .i64 wo] none), some (.cells [.int .u64 lv, .bool lh, .int .i64 lo] none), some (.cells [.int .u64 lv, .bool lh, .int .i64 lo] none), some (.cells [.int .u64 lv, .bool lh, .int .i64 lo] none), some (.cells [.int .u64 0, .int .u64 0, .bool false, .int .i64 0, .bool false, .int .i64 0] none)]
abbrev mdo4_b4 (a : Int) (old : Int) (w : Int) (wv : Int) (wh : Bool) (wo : Int) (lv : Int) (lh : Bool) (lo : Int) (sa : Int) (sb : Int) (sc : Int) (sd : Int) (se : Int) (N : Int) (C : Int) (wi : Int) (nw : Nat) (nl : Nat) (ns : Nat) (ws : List LV) (ls : List LV) (ss : List LV) : List (Option LB) := [some (.cells [.int .i64 sa, .int .i64 sb, .int .i64 sc, .int .i64 sd, .int .u64 se, .ptr 1 0, .ptr 3 0, .ptr 5 0, .ptr 6 0, .int .i64 C] none), some (.cells [.slo 2 0 nw 0] none), some (.cells ws (some 1)), some (.cells [.int .i64 wi, .slo 4 0 nl 0] none), some (.cells ls (some 3)), some (.cells [.int .u64 N] none), some (.cells [.slo 7 0 ns 0] none), some (.cells ss (some 1)), some (.cells [.int .i64 4, .int .i64 a, .int .u64 old, .int .u64 w, .int .u64 wv, .bool wh, .int .i64 wo, .int .u64 lv, .bool lh, .int .i64 lo] none), some (.cells [.int .u64 0, .int .u64 0, .bool false, .int .i64 0, .bool false, .int .i64 2] none), some (.cells [.int .i64 4, .int .i64 a, .int .u64 old, .int .u64 w, .int .u64 wv, .bool wh, .int .i64 wo, .int .u64 lv, .bool lh, .int .i64 lo] none), some (.cells [.int .u64 0, .int .u64 0, .bool false, .int .i64 0, .bool false, .int .i64 2] none), some (.cells [.int .u64 0, .int .u64 0, .bool false, .int .i64 0, .bool false, .int .i64 2] none), some (.cells [.int .u64 wv, .bool wh, .int .i64 wo] none), some (.cells [.int .u64 lv, .bool lh, .int .i64 lo] none), some (.cells [.int .u64 lv, .bool lh, .int .i64 lo] none), some (.cells [.int .u64 0, .int .u64 0, .bool false, .int .i64 0, .bool false, .int .i64 2] none)]
theorem mdo4 (a old w wv : Int) (wh : Bool) (wo lv : Int) (lh : Bool) (lo sa sb sc sd se N C wi : Int) (nw nl ns : Nat) (ws ls ss : List LV) (K : Fk) : (xfun Go.Proofs.Try.prog (fun _ => none) 60 12 [.ptr 0 0, .agg (opC 4 a old w wv wh wo lv lh lo)] (mkS (mH sa sb sc sd se N C wi nw nl ns ws ls ss)) (vF K)) = (
 bif xcm .geq a 0 then (
 bif xnot (xcm .lss a ↑nl) then (
 K (.agg [.int .u64 0, .int .u64 0, .bool false, .int .i64 0, .bool false, .int .i64 2]) (mdo4_b4 a old w wv wh wo lv lh lo sa sb sc sd se N C wi nw nl ns ws ls ss) [])
 else (
 bif xcm .geq lv 4611686018427387904 then (
 K (.agg [.int .u64 0, .int .u64 0, .bool false, .int .i64 0, .bool false, .int .i64 1]) (mdo4_b1 a old w wv wh wo lv lh lo sa sb sc sd se N C wi nw nl ns ws ls ss) [])
 else (
 bif lh then (
 bif xcm .geq lo 0 then (
 bif xnot (xcm .lss lo 4) then (
 K (.agg [.int .u64 0, .int .u64 0, .bool false, .int .i64 0, .bool false, .int .i64 1]) (mdo4_b1 a old w wv wh wo lv lh lo sa sb sc sd se N C wi nw nl ns ws ls ss) [])
 else (
 bif xnn a then bif xle (xadd (xnat a) 1) nl then bif xle (xadd (xix 0 (xnat a) 3) 3) (xln ls) then bif isI .u64 (nthD ls (xix 0 (xnat a) 3)) then bif isB (nthD ls (xadd (xix 0 (xnat a) 3) 1)) then bif isI .i64 (nthD ls (xadd (xadd (xix 0 (xnat a) 3) 1) 1)) then bif xnot (xand (xcm .eql (asI (nthD ls (xix 0 (xnat a) 3))) wv) (xand (xbq (asB (nthD ls (xadd (xix 0 (xnat a) 3) 1))) wh) (xand (xcm .eql (asI (nthD ls (xadd (xadd (xix 0 (xnat a) 3) 1) 1))) wo) true))) then (
 K (.agg [.int .u64 0, .int .u64 0, .bool false, .int .i64 0, .bool false, .int .i64 0]) (mdo4_b3 a old w wv wh wo lv lh lo sa sb sc sd se N C wi nw nl ns ws ls ss) [])
 else (
 bif xnn a then bif xle (xadd (xnat a) 1) nl then bif xle (xadd (xix 0 (xnat a) 3) 3) (xln ls) then
 K (.agg [.int .u64 0, .int .u64 0, .bool false, .int .i64 0, .bool true, .int .i64 0]) (mdo4_b2 a old w wv wh wo lv lh lo sa sb sc sd se N C wi nw nl ns ws ls ss) [] else False else False else False) else False else False else False else False else False else False))
 else (
 K (.agg [.int .u64 0, .int .u64 0, .bool false, .int .i64 0, .bool false, .int .i64 1]) (mdo4_b1 a old w wv wh wo lv lh lo sa sb sc sd se N C wi nw nl ns ws ls ss) []))
 else (
 bif xnot (xcm .eql lo 0) then (
 K (.agg [.int .u64 0, .int .u64 0, .bool false, .int .i64 0, .bool false, .int .i64 1]) (mdo4_b1 a old w wv wh wo lv lh lo sa sb sc sd se N C wi nw nl ns ws ls ss) [])
 else (
 bif xnn a then bif xle (xadd (xnat a) 1) nl then bif xle (xadd (xix 0 (xnat a) 3) 3) (xln ls) then bif isI .u64 (nthD ls (xix 0 (xnat a) 3)) then bif isB (nthD ls (xadd (xix 0 (xnat a) 3) 1)) then bif isI .i64 (nthD ls (xadd (xadd (xix 0 (xnat a) 3) 1) 1)) then bif xnot (xand (xcm .eql (asI (nthD ls (xix 0 (xnat a) 3))) wv) (xand (xbq (asB (nthD ls (xadd (xix 0 (xnat a) 3) 1))) wh) (xand (xcm .eql (asI (nthD ls (xadd (xadd (xix 0 (xnat a) 3) 1) 1))) wo) true))) then (
 K (.agg [.int .u64 0, .int .u64 0, .bool false, .int .i64 0, .bool false, .int .i64 0]) (mdo4_b3 a old w wv wh wo lv lh lo sa sb sc sd se N C wi nw nl ns ws ls ss) [])
 else (
 bif xnn a then bif xle (xadd (xnat a) 1) nl then bif xle (xadd (xix 0 (xnat a) 3) 3) (xln ls) then
 K (.agg [.int .u64 0, .int .u64 0, .bool false, .int .i64 0, .bool true, .int .i64 0]) (mdo4_b2 a old w wv wh wo lv lh lo sa sb sc sd se N C wi nw nl ns ws ls ss) [] else False else False else False) else False else False else False else False else False else False)))))
 else (
 K (.agg [.int .u64 0, .int .u64 0, .bool false, .int .i64 0, .bool false, .int .i64 2]) (mdo4_b4 a old w wv wh wo lv lh lo sa sb sc sd se N C wi nw nl ns ws ls ss) [])) := by kernel_rfl
abbrev mdo5_b1 (a : Int) (old : Int) (w : Int) (wv : Int) (wh : Bool) (wo : Int) (lv : Int) (lh : Bool) (lo : Int) (sa : Int) (sb : Int) (sc : Int) (sd : Int) (se : Int) (N : Int) (C : Int) (wi : Int) (nw : Nat) (nl : Nat) (ns : Nat) (ws : List LV) (ls : List LV) (ss : List LV) : List (Option LB) := [some (.cells [.int .i64 sa, .int .i64 sb, .int .i64 sc, .int .i64 sd, .int .u64 se, .ptr 1 0, .ptr 3 0, .ptr 5 0, .ptr 6 0, .int .i64 C] none), some (.cells [.slo 2 0 nw 0] none), some (.cells ws (some 1)), some (.cells [.int .i64 wi, .slo 4 0 nl 0] none), some (.cells ls (some 3)), some (.cells [.int .u64 N] none), some (.cells [.slo 7 0 ns 0] none), some (.cells ss (some 1)), some (.cells [.int .i64 5, .int .i64 a, .int .u64 old, .int .u64 w, .int .u64 wv, .bool wh, .int .i64 wo, .int .u64 lv, .bool lh, .int .i64 lo] none), some (.cells [.int .u64 0, .int .u64 0, .bool false, .int .i64 0, .bool false, .int .i64 1] none), some (.cells [.int .i64 5, .int .i64 a, .int .u64 old, .int .u64 w, .int .u64 wv, .bool wh, .int .i64 wo, .int .u64 lv, .bool lh, .int .i64 lo] none), some (.cells [.int .u64 0, .int .u64 0, .bool false, .int .i64 0, .bool false, .int .i64 1] none), some (.cells [.int .u64 0, .int .u64 0, .bool false, .int .i64 0, .bool false, .int .i64 1] none), some (.cells [.int .u64 lv, .bool lh, .int .i64 lo] none), some (.cells [.int .u64 lv, .bool lh, .int .i64 lo] none), some (.cells [.int .u64 lv, .bool lh, .int .i64 lo] none), some (.cells [.int .u64 0, .int .u64 0, .bool false, .int .i64 0, .bool false, .int .i64 1] none)]
abbrev mdo5_b2 (a : Int) (old : Int) (w : Int) (wv : Int) (wh : Bool) (wo : Int) (lv : Int) (lh : Bool) (lo : Int) (sa : Int) (sb : Int) (sc : Int) (sd : Int) (se : Int) (N : Int) (C : Int) (wi : Int) (nw : Nat) (nl : Nat) (ns : Nat) (ws : List LV) (ls : List LV) (ss : List LV) : List (Option LB) := [some (.cells [.int .i64 sa, .int .i64 sb, .int .i64 sc, .int .i64 sd, .int .u64 se, .ptr 1 0, .ptr 3 0, .ptr 5 0, .ptr 6 0, .int .i64 (xar .add .i64 C 1)] none), some (.cells [.slo 2 0 nw 0] none), some (.cells ws (some 1)), some (.cells [.int .i64 wi, .slo 4 0 nl 0] none), some (.cells (xlay ls (xix 0 (xnat a) 3) [.int .u64 lv, .bool lh, .int .i64 lo]) (some 3)), some (.cells [.int .u64 N] none), some (.cells [.slo 7 0 ns 0] none), some (.cells ss (some 1)), some (.cells [.int .i64 5, .int .i64 a, .int .u64 old, .int .u64 w, .int .u64 wv, .bool wh, .int .i64 wo, .int .u64 lv, .bool lh, .int .i64 lo] none), some (.cells [.int .u64 0, .int .u64 0, .bool false, .int .i64 0, .bool false, .int .i64 0] none), some (.cells [.int .i64 5, .int .i64 a, .int .u64 old, .int .u64 w, .int .u64 wv, .bool wh, .int .i64 wo, .int .u64 lv, .bool lh, .int .i64 lo] none), some (.cells [.int .u64 0, .int .u64 0, .bool false, .int .i64 0, .bool false, .int .i64 0] none), some (.cells [.int .u64 0, .int .u64 0, .bool false, .int .i64 0, .bool false, .int .i64 0] none), some (.cells [.int .u64 lv, .bool lh, .int .i64 lo] none), some (.cells [.int .u64 lv, .bool lh, .int .i64 lo] none), some (.cells [.int .u64 lv, .bool lh, .int .i64 lo] none), some (.cells [.int .u64 0, .int .u64 0, .bool false, .int .i64 0, .bool false, .int .i64 0] none)]
abbrev mdo5_b3 (a : Int) (old : Int) (w : Int) (wv : Int) (wh : Bool) (wo : Int) (lv : Int) (lh : Bool) (lo : Int) (sa : Int) (sb : Int) (sc : Int) (sd : Int) (se : Int) (N : Int) (C : Int) (wi : Int) (nw : Nat) (nl : Nat) (ns : Nat) (ws : List LV) (ls : List LV) (ss : List LV) : List (Option LB) := [some (.cells [.int .i64 sa, .int .i64 sb, .int .i64 sc, .int .i64 sd, .int .u64 se, .ptr 1 0, .ptr 3 0, .ptr 5 0, .ptr 6 0, .int .i64 C] none), some (.cells [.slo 2 0 nw 0] none), some (.cells ws (some 1)), some (.cells [.int .i64 wi, .slo 4 0 nl 0] none), some (.cells ls (some 3)), some (.cells [.int .u64 N] none), some (.cells [.slo 7 0 ns 0] none), some (.cells ss (some 1)), some (.cells [.int .i64 5, .int .i64 a, .int .u64 old, .int .u64 w, .int .u64 wv, .bool wh, .int .i64 wo, .int .u64 lv, .bool lh, .int .i64 lo] none), some (.cells [.int .u64 0, .int .u64 0, .bool false, .int .i64 0, .bool false, .int .i64 2] none), some (.cells [.int .i64 5, .int .i64 a, .int .u64 old, .int .u64 w, .int .u64 wv, .bool wh, .int .i64 wo, .int .u64 lv, .bool lh, .int .i64 lo] none), some (.cells [.int .u64 0, .int .u64 0, .bool false, .int .i64 0, .bool false, .int .i64 2] none), some (.cells [.int .u64 0, .int .u64 0, .bool false, .int .i64 0, .bool false, .int .i64 2] none), some (.cells [.int .u64 lv, .bool lh, .int .i64 lo] none), some (.cells [.int .u64 lv, .bool lh, .int .i64 lo] none), some (.cells [.int .u64 0, .int .u64 0, .bool false, .int .i64 0, .bool false, .int .i64 2] none)]
theorem mdo5 (a old w wv : Int) (wh : Bool) (wo lv : Int) (lh : Bool) (lo sa sb sc sd se N C wi : Int) (nw nl ns : Nat) (ws ls ss : List LV) (K : Fk) : (xfun Go.Proofs.Try.prog (fun _ => none) 60 12 [.ptr 0 0, .agg (opC 5 a old w wv wh wo lv lh lo)] (mkS (mH sa sb sc sd se N C wi nw nl ns ws ls ss)) (vF K)) = (
 bif xcm .geq a 0 then (
 bif xnot (xcm .lss a ↑nl) then (
 K (.agg [.int .u64 0, .int .u64 0, .bool false, .int .i64 0, .bool false, .int .i64 2]) (mdo5_b3 a old w wv wh wo lv lh lo sa sb sc sd se N C wi nw nl ns ws ls ss) [])
 else (
 bif xcm .geq lv 4611686018427387904 then (
 K (.agg [.int .u64 0, .int .u64 0, .bool false, .int .i64 0, .bool false, .int .i64 1]) (mdo5_b1 a old w wv wh wo lv lh lo sa sb sc sd se N C wi nw nl ns ws ls ss) [])
 else (
 bif lh then (
 bif xcm .geq lo 0 then (
 bif xnot (xcm .lss lo 4) then (
 K (.agg [.int .u64 0, .int .u64 0, .bool false, .int .i64 0, .bool false, .int .i64 1]) (mdo5_b1 a old w wv wh wo lv lh lo sa sb sc sd se N C wi nw nl ns ws ls ss) [])
 else (
 bif xnn a then bif xle (xadd (xnat a) 1) nl then bif xle (xadd (xix 0 (xnat a) 3) 3) (xln ls) then
 K (.agg [.int .u64 0, .int .u64 0, .bool false, .int .i64 0, .bool false, .int .i64 0]) (mdo5_b2 a old w wv wh wo lv lh lo sa sb sc sd se N C wi nw nl ns ws ls ss) [] else False else False else False))
 else (
 K (.agg [.int .u64 0, .int .u64 0, .bool false, .int .i64 0, .bool false, .int .i64 1]) (mdo5_b1 a old w wv wh wo lv lh lo sa sb sc sd se N C wi nw nl ns ws ls ss) []))
 else (
 bif xnot (xcm .eql lo 0) then (
 K (.agg [.int .u64 0, .int .u64 0, .bool false, .int .i64 0, .bool false, .int .i64 1]) (mdo5_b1 a old w wv wh wo lv lh lo sa sb sc sd se N C wi nw nl ns ws ls ss) [])
 else (
 bif xnn a then bif xle (xadd (xnat a) 1) nl then bif xle (xadd (xix 0 (xnat a) 3) 3) (xln ls) then
 K (.agg [.int .u64 0, .int .u64 0, .bool false, .int .i64 0, .bool false, .int .i64 0]) (mdo5_b2 a old w wv wh wo lv lh lo sa sb sc sd se N C wi nw nl ns ws ls ss) [] else False else False else False)))))
 else (
 K (.agg [.int .u64 0, .int .u64 0, .bool false, .int .i64 0, .bool false, .int .i64 2]) (mdo5_b3 a old w wv wh wo lv lh lo sa sb sc sd se N C wi nw nl ns ws ls ss) [])) := by kernel_rfl
theorem mdo6 (a old w wv : Int) (wh : Bool) (wo lv : Int) (lh : Bool) (lo sa sb sc sd se N C wi : Int) (nw nl ns : Nat) (ws ls ss : List LV) (K : Fk) : (xfun Go.Proofs.Try.prog (fun _ => none) 60 12 [.ptr 0 0, .agg (opC 6 a old w wv wh wo lv lh lo)] (mkS (mH sa sb sc sd se N C wi nw nl ns ws ls ss)) (vF K)) = (
 K (.agg [.int .u64 N, .int .u64 0, .bool false, .int .i64 0, .bool false, .int .i64 0]) [some (.cells [.int .i64 sa, .int .i64 sb, .int .i64 sc, .int .i64 sd, .int .u64 se, .ptr 1 0, .ptr 3 0, .ptr 5 0, .ptr 6 0, .int .i64 (xar .add .i64 C 1)] none), some (.cells [.slo 2 0 nw 0] none), some (.cells ws (some 1)), some (.cells [.int .i64 wi, .slo 4 0 nl 0] none), some (.cells ls (some 3)), some (.cells [.int .u64 N] none), some (.cells [.slo 7 0 ns 0] none), some (.cells ss (some 1)), some (.cells [.int .i64 6, .int .i64 a, .int .u64 old, .int .u64 w, .int .u64 wv, .bool wh, .int .i64 wo, .int .u64 lv, .bool lh, .int .i64 lo] none), some (.cells [.int .u64 N, .int .u64 0, .bool false, .int .i64 0, .bool false, .int .i64 0] none), some (.cells [.int .i64 6, .int .i64 a, .int .u64 old, .int .u64 w, .int .u64 wv, .bool wh, .int .i64 wo, .int .u64 lv, .bool lh, .int .i64 lo] none), some (.cells [.int .u64 N, .int .u64 0, .bool false, .int .i64 0, .bool false, .int .i64 0] none), some (.cells [.int .u64 N, .int .u64 0, .bool false, .int .i64 0, .bool false, .int .i64 0] none), some (.cells [.int .u64 N, .int .u64 0, .bool false, .int .i64 0, .bool false, .int .i64 0] none)] []) := by kernel_rfl
theorem mdo7 (a old w wv : Int) (wh : Bool) (wo lv : Int) (lh : Bool) (lo sa sb sc sd se N C wi : Int) (nw nl ns : Nat) (ws ls ss : List LV) (K : Fk) : (xfun Go.Proofs.Try.prog (fun _ => none) 60 12 [.ptr 0 0, .agg (opC 7 a old w wv wh wo lv lh lo)] (mkS (mH sa sb sc sd se N C wi nw nl ns ws ls ss)) (vF K)) = (
 bif xcm .leq w old then (
 K (.agg [.int .u64 0, .int .u64 0, .bool false, .int .i64 0, .bool false, .int .i64 1]) [some (.cells [.int .i64 sa, .int .i64 sb, .int .i64 sc, .int .i64 sd, .int .u64 se, .ptr 1 0, .ptr 3 0, .ptr 5 0, .ptr 6 0, .int .i64 C] none), some (.cells [.slo 2 0 nw 0] none), some (.cells ws (some 1)), some (.cells [.int .i64 wi, .slo 4 0 nl 0] none), some (.cells ls (some 3)), some (.cells [.int .u64 N] none), some (.cells [.slo 7 0 ns 0] none), some (.cells ss (some 1)), some (.cells [.int .i64 7, .int .i64 a, .int .u64 old, .int .u64 w, .int .u64 wv, .bool wh, .int .i64 wo, .int .u64 lv, .bool lh, .int .i64 lo] none), some (.cells [.int .u64 0, .int .u64 0, .bool false, .int .i64 0, .bool false, .int .i64 1] none), some (.cells [.int .i64 7, .int .i64 a, .int .u64 old, .int .u64 w, .int .u64 wv, .bool wh, .int .i64 wo, .int .u64 lv, .bool lh, .int .i64 lo] none), some (.cells [.int .u64 0, .int .u64 0, .bool false, .int .i64 0, .bool false, .int .i64 1] none), some (.cells [.int .u64 0, .int .u64 0, .bool false, .int .i64 0, .bool false, .int .i64 1] none), some (.cells [.int .u64 0, .int .u64 0, .bool false, .int .i64 0, .bool false, .int .i64 1] none)] [])
 else (
 bif xcm .geq w 4611686018427387904 then (
 K (.agg [.int .u64 0, .int .u64 0, .bool false, .int .i64 0, .bool false, .int .i64 7]) [some (.cells [.int .i64 sa, .int .i64 sb, .int .i64 sc, .int .i64 sd, .int .u64 se, .ptr 1 0, .ptr 3 0, .ptr 5 0, .ptr 6 0, .int .i64 C] none), some (.cells [.slo 2 0 nw 0] none), some (.cells ws (some 1)), some (.cells [.int .i64 wi, .slo 4 0 nl 0] none), some (.cells ls (some 3)), some (.cells [.int .u64 N] none), some (.cells [.slo 7 0 ns 0] none), some (.cells ss (some 1)), some (.cells [.int .i64 7, .int .i64 a, .int .u64 old, .int .u64 w, .int .u64 wv, .bool wh, .int .i64 wo, .int .u64 lv, .bool lh, .int .i64 lo] none), some (.cells [.int .u64 0, .int .u64 0, .bool false, .int .i64 0, .bool false, .int .i64 7] none), some (.cells [.int .i64 7, .int .i64 a, .int .u64 old, .int .u64 w, .int .u64 wv, .bool wh, .int .i64 wo, .int .u64 lv, .bool lh, .int .i64 lo] none), some (.cells [.int .u64 0, .int .u64 0, .bool false, .int .i64 0, .bool false, .int .i64 7] none), some (.cells [.int .u64 0, .int .u64 0, .bool false, .int .i64 0, .bool false, .int .i64 7] none), some (.cells [.int .u64 0, .int .u64 0, .bool false, .int .i64 0, .bool false, .int .i64 7] none)] [])
 else (
 bif xcm .neq N old then (
 K (.agg [.int .u64 0, .int .u64 0, .bool false, .int .i64 0, .bool false, .int .i64 0]) [some (.cells [.int .i64 sa, .int .i64 sb, .int .i64 sc, .int .i64 sd, .int .u64 se, .ptr 1 0, .ptr 3 0, .ptr 5 0, .ptr 6 0, .int .i64 (xar .add .i64 C 1)] none), some (.cells [.slo 2 0 nw 0] none), some (.cells ws (some 1)), some (.cells [.int .i64 wi, .slo 4 0 nl 0] none), some (.cells ls (some 3)), some (.cells [.int .u64 N] none), some (.cells [.slo 7 0 ns 0] none), some (.cells ss (some 1)), some (.cells [.int .i64 7, .int .i64 a, .int .u64 old, .int .u64 w, .int .u64 wv, .bool wh, .int .i64 wo, .int .u64 lv, .bool lh, .int .i64 lo] none), some (.cells [.int .u64 0, .int .u64 0, .bool false, .int .i64 0, .bool false, .int .i64 0] none), some (.cells [.int .i64 7, .int .i64 a, .int .u64 old, .int .u64 w, .int .u64 wv, .bool wh, .int .i64 wo, .int .u64 lv, .bool lh, .int .i64 lo] none), some (.cells [.int .u64 0, .int .u64 0, .bool false, .int .i64 0, .bool false, .int .i64 0] none), some (.cells [.int .u64 0, .int .u64 0, .bool false, .int .i64 0, .bool false, .int .i64 0] none), some (.cells [.int .u64 0, .int .u64 0, .bool false, .int .i64 0, .bool false, .int .i64 0] none)] [])
 else (
 K (.agg [.int .u64 0, .int .u64 0, .bool false, .int .i64 0, .bool true, .int .i64 0]) [some (.cells [.int .i64 sa, .int .i64 sb, .int .i64 sc, .int .i64 sd, .int .u64 se, .ptr 1 0, .ptr 3 0, .ptr 5 0, .ptr 6 0, .int .i64 (xar .add .i64 C 1)] none), some (.cells [.slo 2 0 nw 0] none), some (.cells ws (some 1)), some (.cells [.int .i64 wi, .slo 4 0 nl 0] none), some (.cells ls (some 3)), some (.cells [.int .u64 w] none), some (.cells [.slo 7 0 ns 0] none), some (.cells ss (some 1)), some (.cells [.int .i64 7, .int .i64 a, .int .u64 old, .int .u64 w, .int .u64 wv, .bool wh, .int .i64 wo, .int .u64 lv, .bool lh, .int .i64 lo] none), some (.cells [.int .u64 0, .int .u64 0, .bool false, .int .i64 0, .bool true, .int .i64 0] none), some (.cells [.int .i64 7, .int .i64 a, .int .u64 old, .int .u64 w, .int .u64 wv, .bool wh, .int .i64 wo, .int .u64 lv, .bool lh, .int .i64 lo] none), some (.cells [.int .u64 0, .int .u64 0, .bool false, .int .i64 0, .bool true, .int .i64 0] none), some (.cells [.int .u64 0, .int .u64 0, .bool false, .int .i64 0, .bool true, .int .i64 0] none), some (.cells [.int .u64 0, .int .u64 0, .bool false, .int .i64 0, .bool true, .int .i64 0] none)] [])))) := by kernel_rfl
abbrev mdo8_b1 (a : Int) (old : Int) (w : Int) (wv : Int) (wh : Bool) (wo : Int) (lv : Int) (lh : Bool) (lo : Int) (sa : Int) (sb : Int) (sc : Int) (sd : Int) (se : Int) (N : Int) (C : Int) (wi : Int) (nw : Nat) (nl : Nat) (ns : Nat) (ws : List LV) (ls : List LV) (ss : List LV) : List (Option LB) := [some (.cells [.int .i64 sa, .int .i64 sb, .int .i64 sc, .int .i64 sd, .int .u64 se, .ptr 1 0, .ptr 3 0, .ptr 5 0, .ptr 6 0, .int .i64 C] none), some (.cells [.slo 2 0 nw 0] none), some (.cells ws (some 1)), some (.cells [.int .i64 wi, .slo 4 0 nl 0] none), some (.cells ls (some 3)), some (.cells [.int .u64 N] none), some (.cells [.slo 7 0 ns 0] none), some (.cells ss (some 1)), some (.cells [.int .i64 8, .int .i64 a, .int .u64 old, .int .u64 w, .int .u64 wv, .bool wh, .int .i64 wo, .int .u64 lv, .bool lh, .int .i64 lo] none), some (.cells [.int .u64 0, .int .u64 0, .bool false, .int .i64 0, .bool false, .int .i64 2] none), some (.cells [.int .i64 8, .int .i64 a, .int .u64 old, .int .u64 w, .int .u64 wv, .bool wh, .int .i64 wo, .int .u64 lv, .bool lh, .int .i64 lo] none), some (.cells [.int .u64 0, .int .u64 0, .bool false, .int .i64 0, .bool false, .int .i64 2] none), some (.cells [.int .u64 0, .int .u64 0, .bool false, .int .i64 0, .bool false, .int .i64 2] none), some (.cells [.int .u64 0, .int .u64 0, .bool false, .int .i64 0, .bool false, .int .i64 2] none)]
theorem mdo8 (a old w wv : Int) (wh : Bool) (wo lv : Int) (lh : Bool) (lo sa sb sc sd se N C wi : Int) (nw nl ns : Nat) (ws ls ss : List LV) (K : Fk) : (xfun Go.Proofs.Try.prog (fun _ => none) 60 12 [.ptr 0 0, .agg (opC 8 a old w wv wh wo lv lh lo)] (mkS (mH sa sb sc sd se N C wi nw nl ns ws ls ss)) (vF K)) = (
 bif xcm .geq a 0 then (
 bif xnot (xcm .lss a ↑ns) then (
 K (.agg [.int .u64 0, .int .u64 0, .bool false, .int .i64 0, .bool false, .int .i64 2]) (mdo8_b1 a old w wv wh wo lv lh lo sa sb sc sd se N C wi nw nl ns ws ls ss) [])
 else (
 bif xnn a then bif xle (xadd (xnat a) 1) ns then bif xle (xadd (xix 0 (xnat a) 1) 1) (xln ss) then bif isI .u64 (nthD ss (xix 0 (xnat a) 1)) then
 K (.agg [.int .u64 (asI (nthD ss (xix 0 (xnat a) 1))), .int .u64 0, .bool false, .int .i64 0, .bool false, .int .i64 0]) [some (.cells [.int .i64 sa, .int .i64 sb, .int .i64 sc, .int .i64 sd, .int .u64 se, .ptr 1 0, .ptr 3 0, .ptr 5 0, .ptr 6 0, .int .i64 (xar .add .i64 C 1)] none), some (.cells [.slo 2 0 nw 0] none), some (.cells ws (some 1)), some (.cells [.int .i64 wi, .slo 4 0 nl 0] none), some (.cells ls (some 3)), some (.cells [.int .u64 N] none), some (.cells [.slo 7 0 ns 0] none), some (.cells ss (some 1)), some (.cells [.int .i64 8, .int .i64 a, .int .u64 old, .int .u64 w, .int .u64 wv, .bool wh, .int .i64 wo, .int .u64 lv, .bool lh, .int .i64 lo] none), some (.cells [.int .u64 (asI (nthD ss (xix 0 (xnat a) 1))), .int .u64 0, .bool false, .int .i64 0, .bool false, .int .i64 0] none), some (.cells [.int .i64 8, .int .i64 a, .int .u64 old, .int .u64 w, .int .u64 wv, .bool wh, .int .i64 wo, .int .u64 lv, .bool lh, .int .i64 lo] none), some (.cells [.int .u64 (asI (nthD ss (xix 0 (xnat a) 1))), .int .u64 0, .bool false, .int .i64 0, .bool false, .int .i64 0] none), some (.cells [.int .u64 (asI (nthD ss (xix 0 (xnat a) 1))), .int .u64 0, .bool false, .int .i64 0, .bool false, .int .i64 0] none), some (.cells [.int .u64 (asI (nthD ss (xix 0 (xnat a) 1))), .int .u64 0, .bool false, .int .i64 0, .bool false, .int .i64 0] none)] [] else False else False else False else False))
 else (
 K (.agg [.int .u64 0, .int .u64 0, .bool false, .int .i64 0, .bool false, .int .i64 2]) (mdo8_b1 a old w wv wh wo lv lh lo sa sb sc sd se N C wi nw nl ns ws ls ss) [])) := by kernel_rfl
abbrev mdo9_b1 (a : Int) (old : Int) (w : Int) (wv : Int) (wh : Bool) (wo : Int) (lv : Int) (lh : Bool) (lo : Int) (sa : Int) (sb : Int) (sc : Int) (sd : Int) (se : Int) (N : Int) (C : Int) (wi : Int) (nw : Nat) (nl : Nat) (ns : Nat) (ws : List LV) (ls : List LV) (ss : List LV) : List (Option LB) := [some (.cells [.int .i64 sa, .int .i64 sb, .int .i64 sc, .int .i64 sd, .int .u64 se, .ptr 1 0, .ptr 3 0, .ptr 5 0, .ptr 6 0, .int .i64 C] none), some (.cells [.slo 2 0 nw 0] none), some (.cells ws (some 1)), some (.cells [.int .i64 wi, .slo 4 0 nl 0] none), some (.cells ls (some 3)), some (.cells [.int .u64 N] none), some (.cells [.slo 7 0 ns 0] none), some (.cells ss (some 1)), some (.cells [.int .i64 9, .int .i64 a, .int .u64 old, .int .u64 w, .int .u64 wv, .bool wh, .int .i64 wo, .int .u64 lv, .bool lh, .int .i64 lo] none), some (.cells [.int .u64 0, .int .u64 0, .bool false, .int .i64 0, .bool false, .int .i64 2] none), some (.cells [.int .i64 9, .int .i64 a, .int .u64 old, .int .u64 w, .int .u64 wv, .bool wh, .int .i64 wo, .int .u64 lv, .bool lh, .int .i64 lo] none), some (.cells [.int .u64 0, .int .u64 0, .bool false, .int .i64 0, .bool false, .int .i64 2] none), some (.cells [.int .u64 0, .int .u64 0, .bool false, .int .i64 0, .bool false, .int .i64 2] none), some (.cells [.int .u64 0, .int .u64 0, .bool false, .int .i64 0, .bool false, .int .i64 2] none)]
theorem mdo9 (a old w wv : Int) (wh : Bool) (wo lv : Int) (lh : Bool) (lo sa sb sc sd se N C wi : Int) (nw nl ns : Nat) (ws ls ss : List LV) (K : Fk) : (xfun Go.Proofs.Try.prog (fun _ => none) 60 12 [.ptr 0 0, .agg (opC 9 a old w wv wh wo lv lh lo)] (mkS (mH sa sb sc sd se N C wi nw nl ns ws ls ss)) (vF K)) = (
 bif xcm .geq a 0 then (
 bif xnot (xcm .lss a ↑ns) then (
 K (.agg [.int .u64 0, .int .u64 0, .bool false, .int .i64 0, .bool false, .int .i64 2]) (mdo9_b1 a old w wv wh wo lv lh lo sa sb sc sd se N C wi nw nl ns ws ls ss) [])
 else (
 bif xnn a then bif xle (xadd (xnat a) 1) ns then bif xle (xadd (xix 0 (xnat a) 1) 1) (xln ss) then
 K (.agg [.int .u64 0, .int .u64 0, .bool false, .int .i64 0, .bool false, .int .i64 0]) [some (.cells [.int .i64 sa, .int .i64 sb, .int .i64 sc, .int .i64 sd, .int .u64 se, .ptr 1 0, .ptr 3 0, .ptr 5 0, .ptr 6 0, .int .i64 (xar .add .i64 C 1)] none), some (.cells [.slo 2 0 nw 0] none), some (.cells ws (some 1)), some (.cells [.int .i64 wi, .slo 4 0 nl 0] none), some (.cells ls (some 3)), some (.cells [.int .u64 N] none), some (.cells [.slo 7 0 ns 0] none), some (.cells (xlay ss (xix 0 (xnat a) 1) [.int .u64 w]) (some 1)), some (.cells [.int .i64 9, .int .i64 a, .int .u64 old, .int .u64 w, .int .u64 wv, .bool wh, .int .i64 wo, .int .u64 lv, .bool lh, .int .i64 lo] none), some (.cells [.int .u64 0, .int .u64 0, .bool false, .int .i64 0, .bool false, .int .i64 0] none), some (.cells [.int .i64 9, .int .i64 a, .int .u64 old, .int .u64 w, .int .u64 wv, .bool wh, .int .i64 wo, .int .u64 lv, .bool lh, .int .i64 lo] none), some (.cells [.int .u64 0, .int .u64 0, .bool false, .int .i64 0, .bool false, .int .i64 0] none), some (.cells [.int .u64 0, .int .u64 0, .bool false, .int .i64 0, .bool false, .int .i64 0] none), some (.cells [.int .u64 0, .int .u64 0, .bool false, .int .i64 0, .bool false, .int .i64 0] none)] [] else False else False else False))
 else (
 K (.agg [.int .u64 0, .int .u64 0, .bool false, .int .i64 0, .bool false, .int .i64 2]) (mdo9_b1 a old w wv wh wo lv lh lo sa sb sc sd se N C wi nw nl ns ws ls ss) [])) := by kernel_rfl

end
end Go.Lev
