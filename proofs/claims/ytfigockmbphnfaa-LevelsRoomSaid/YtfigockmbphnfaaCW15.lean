/- rows of cells and the words put into them -/
import Derived.Test.YtfigockmbphnfaaCW14
import Derived.Test.YtfigockmbphnfaaLc
import Derived.Test.YtfigockmbphnfaaChecked
import Derived.KernelRfl

namespace Go.Lev
open Go.RowKit
set_option linter.unusedVariables false
set_option linter.unusedSimpArgs false
theorem decG_getD (xs : CL) (i : Nat) : decG (encL cell xs) i = xs.getD i (0, 0) := by simp only [decG, decC_enc]
theorem tab_enc {n : Nat} {g : Nat → Int × Int} {xs : CL} (hn : n = xs.length) (h : ∀ i (hi : i < xs.length), g i = xs[i]) : tab cell n g = encL cell xs := by
  subst hn
  rw [show encL cell xs = tab cell xs.length (fun i => xs.getD i (0, 0)) from tab_of_list (f := cell) xs (0, 0)]
  refine tab_congr fun i hi => ?_
  rw [h i hi]; simp [hi]
theorem put_pl (xs : CL) (a z : Int) (hn : xs.length < 96) (ha : 1 ≤ a ∧ a < 256) : putE 96 xs.length (encL cell xs) a z = 0 ∧ putN 96 xs.length (encL cell xs) a z = (pl xs (a, z)).length ∧ putC 96 xs.length (encL cell xs) a z = encL cell (pl xs (a, z)) := by
  have hg : ∀ i (hi : i < xs.length), decG (encL cell xs) i = xs[i] := fun i hi => by rw [decG_getD]; simp [hi]
  simp only [putE, putN, putC]
  rcases fndT_cases xs.length (decG (encL cell xs)) a with ⟨i, hi, h1, h2, hf⟩ | ⟨h2, hf⟩
  · have e : pRes 96 xs.length (decG (encL cell xs)) a z = (0, xs.length, upd (decG (encL cell xs)) i ((decG (encL cell xs) i).1, z)) := by
      unfold pRes; rw [if_neg (by omega), hf, if_pos (by omega)]; simp
    have p : pl xs (a, z) = xs.set i (a, z) := pl_set xs a z i hi (by rw [← hg i hi]; exact h1) fun j hj hji => by rw [← hg j hj]; exact h2 j hji
    rw [e, p]
    refine ⟨rfl, by simp, tab_enc (by simp) fun j hj => ?_⟩
    simp only [List.length_set] at hj
    dsimp only
    rw [h1]
    by_cases hij : j = i
    · subst hij; rw [upd_same]; simp
    · rw [upd_ne _ _ hij, hg j hj, List.getElem_set_ne (fun e => hij e.symm)]
  · have e : pRes 96 xs.length (decG (encL cell xs)) a z = (0, xs.length + 1, upd (decG (encL cell xs)) xs.length (a, z)) := by
      unfold pRes; rw [if_neg (by omega), hf, if_neg (by omega), if_neg (by omega)]
    have p : pl xs (a, z) = xs ++ [(a, z)] := pl_app xs a z fun j hj => by rw [← hg j hj]; exact h2 j hj
    rw [e, p]
    refine ⟨rfl, by simp, tab_enc (by simp) fun j hj => ?_⟩
    simp only [List.length_append, List.length_singleton] at hj
    dsimp only
    by_cases hij : j = xs.length
    · subst hij; rw [upd_same]; simp
    · rw [upd_ne _ _ hij, hg j (by omega), List.getElem_append_left (by omega)]
theorem tk1_pl (xs : CL) (a z : Int) (hn : xs.length < 96) (ha : 1 ≤ a ∧ a < 256) : tk1N 96 xs.length (encL cell xs) a z = (pl xs (a, z)).length ∧ tk1C 96 xs.length (encL cell xs) a z = encL cell (pl xs (a, z)) := by
  obtain ⟨h1, h2, h3⟩ := put_pl xs a z hn ha
  simp only [tk1N, tk1C, h1, if_true]
  exact ⟨h2, h3⟩
abbrev okK (l : CL) : Prop := ∀ c ∈ l, 1 ≤ c.1 ∧ c.1 < 256
theorem tk_pl (xs ys : CL) (hn : xs.length + ys.length ≤ 96) (hk : okK ys) : ∀ k, k ≤ ys.length → tk 96 (decG (encL cell ys)) xs.length (encL cell xs) k = (0, (pls xs (ys.take k)).length, encL cell (pls xs (ys.take k)))
  | 0, _ => by simp [tk]
  | k + 1, h => by
    have ih := tk_pl xs ys hn hk k (by omega)
    have hl := pls_len (ys.take k) xs
    simp only [List.length_take] at hl
    have hkk : k < ys.length := by omega
    have hy : decG (encL cell ys) k = ys[k] := by rw [decG_getD]; simp [hkk]
    obtain ⟨h1, h2, h3⟩ := put_pl (pls xs (ys.take k)) ys[k].1 ys[k].2 (by omega) (hk _ (List.getElem_mem hkk))
    have e : pls xs (ys.take (k + 1)) = pl (pls xs (ys.take k)) (ys[k].1, ys[k].2) := by
      show List.foldl pl xs (ys.take (k + 1)) = _
      rw [List.take_succ_eq_append_getElem hkk, List.foldl_append]; rfl
    rw [tk, ih, if_pos rfl, e, hy]
    simp only [h1, h2, h3]
theorem take_pl (xs ys : CL) (hn : xs.length + ys.length ≤ 96) (hk : okK ys) : takeN 96 xs.length (encL cell xs) ys.length (encL cell ys) = (pls xs ys).length ∧ takeC 96 xs.length (encL cell xs) ys.length (encL cell ys) = encL cell (pls xs ys) := by
  have h := tk_pl xs ys hn hk ys.length (Nat.le_refl _)
  rw [List.take_of_length_le (Nat.le_refl _)] at h
  simp only [takeN, takeC, h, if_true, and_self]
end Go.Lev
