/- rows of cells and the words put into them -/
import Derived.Test.YtfigockmbphnfaaCW14
import Derived.Test.YtfigockmbphnfaaLc
import Derived.Test.YtfigockmbphnfaaChecked
import Derived.KernelRfl

namespace Go.Lev
open Go.RowKit
set_option linter.unusedVariables false
set_option linter.unusedSimpArgs false
theorem decG_getD (xs : CL) (i : Nat) : decG (encL cell xs) i = xs.getD i (0, 0) := by simp only [decG, decC_enc]
theorem tab_enc {n : Nat} {g : Nat → Int × Int} {xs : CL} (hn : n = xs.length) (h : ∀ i (hi : i < xs.length), g i = xs[i]) : tab cell n g = encL cell xs := by
  subst hn
  rw [show encL cell xs = tab cell xs.length (fun i => xs.getD i (0, 0)) from tab_of_list (f := cell) xs (0, 0)]
  refine tab_congr fun i hi => ?_
  rw [h i hi]; simp [hi]
theorem put_pl (xs : CL) (a z : Int) (hn : xs.length < 96) (ha : 1 ≤ a ∧ a < 256) : putE 96 xs.length (encL cell xs) a z = 0 ∧ putN 96 xs.length (encL cell xs) a z = (pl xs (a, z)).length ∧ putC 96 xs.length (encL cell xs) a z = encL cell (pl xs (a, z)) := by
  have hg : ∀ i (hi : i < xs.length), decG (encL cell xs) i = xs[i] := fun i hi => by rw [decG_getD]; simp [hi]
  simp only [putE, putN, putC]
  rcases fndT_cases xs.length (decG (encL cell xs)) a with ⟨i, hi, h1, h2, hf⟩ | ⟨h2, hf⟩
  · have e : pRes 96 xs.length (decG (encL cell xs)) a z = (0, xs.length, upd (decG (encL cell xs)) i ((decG (encL cell xs) i).1, z)) := by
      unfold pRes; rw [if_neg (by omega), hf, if_pos (by omega)]; simp
    have p : pl xs (a, z) = xs.set i (a, z) := pl_set xs a z i hi (by rw [← hg i hi]; exact h1) fun j hj hji => by rw [← hg j hj]; exact h2 j hji
    rw [e, p]
    refine ⟨rfl, by simp, tab_enc (by simp) fun j hj => ?_⟩
    simp only [List.length_set] at hj
    dsimp only
    rw [h1]
    by_cases hij : j = i
    · subst hij; rw [upd_same]; simp
    · rw [upd_ne _ _ hij, hg j hj, List.getElem_set_ne (fun e => hij e.symm)]
  · have e : pRes 96 xs.length (decG (encL cell xs)) a z = (0, xs.length + 1, upd (decG (encL cell xs)) xs.length (a, z)) := by
      unfold pRes; rw [if_neg (by omega), hf, if_neg (by omega), if_neg (by omega)]
    have p : pl xs (a, z) = xs ++ [(a, z)] := pl_app xs a z fun j hj => by rw [← hg j hj]; exact h2 j hj
    rw [e, p]
    refine ⟨rfl, by simp, tab_enc (by simp) fun j hj => ?_⟩
    simp only [List.length_append, List.length_singleton] at hj
    dsimp only
    by_cases hij : j = xs.length
    · subst hij; rw [upd_same]; simp
    · rw [upd_ne _ _ hij, hg j (by omega), List.getElem_append_left (by omega)]
theorem tk1_pl (xs : CL) (a z : Int) (hn : xs.length < 96) (ha : 1 ≤ a ∧ a < 256) : tk1N 96 xs.length (encL cell xs) a z = (pl xs (a, z)).length ∧ tk1C 96 xs.length (encL cell xs) a z = encL cell (pl xs (a, z)) := by
  obtain ⟨h1, h2, h3⟩ := put_pl xs a z hn ha
  simp only [tk1N, tk1C, h1, if_true]
  exact ⟨h2, h3⟩
abbrev okK (l : CL) : Prop := ∀ c ∈ l, 1 ≤ c.1 ∧ c.1 < 256
theorem tk_pl (xs ys : CL) (hn : xs.length + ys.length ≤ 96) (hk : okK ys) : ∀ k, k ≤ ys.length → tk 96 (decG (encL cell ys)) xs.length (encL cell xs) k = (0, (pls xs (ys.take k)).length, encL cell (pls xs (ys.take k)))
  | 0, _ => by simp [tk]
  | k + 1, h => by
    have ih := tk_pl xs ys hn hk k (by omega)
    have hl := pls_len (ys.take k) xs
    simp only [List.length_take] at hl
    have hkk : k < ys.length := by omega
    have hy : decG (encL cell ys) k = ys[k] := by rw [decG_getD]; simp [hkk]
    obtain ⟨h1, h2, h3⟩ := put_pl (pls xs (ys.take k)) ys[k].1 ys[k].2 (by omega) (hk _ (List.getElem_mem hkk))
    have e : pls xs (ys.take (k + 1)) = pl (pls xs (ys.take k)) (ys[k].1, ys[k].2) := by
      show List.foldl pl xs (ys.take (k + 1)) = _
      rw [List.take_succ_eq_append_getElem hkk, List.foldl_append]; rfl
    rw [tk, ih, if_pos rfl, e, hy]
    simp only [h1, h2, h3]
theorem take_pl (xs ys : CL) (hn : xs.length + ys.length ≤ 96) (hk : okK ys) : takeN 96 xs.length (encL cell xs) ys.length (encL cell ys) = (pls xs ys).length ∧ takeC 96 xs.length (encL cell xs) ys.length (encL cell ys) = encL cell (pls xs ys) := by
  have h := tk_pl xs ys hn hk ys.length (Nat.le_refl _)
  rw [List.take_of_length_le (Nat.le_refl _)] at h
  simp only [takeN, takeC, h, if_true, and_self]
/-! what the asks put and note -/
def lst (ax : List LV) : Nat → CL
  | 0 => []
  | i + 1 => if xar .and .i64 (asI (nthD ax (i * 4))) 3 = 3 then lst ax i else lst ax i ++ [(wthV (asI (nthD ax (i * 4 + 1))) 1 20, asI (nthD ax (i * 4 + 2)))]
def lsf (ax : List LV) : Nat → List Int
  | 0 => []
  | i + 1 => if xar .and .i64 (asI (nthD ax (i * 4))) 3 = 3 then lsf ax i ++ [asI (nthD ax (i * 4 + 1))] else lsf ax i
theorem lst_ok (ax : List LV) : ∀ i, okK (lst ax i) ∧ (lst ax i).length ≤ i
  | 0 => ⟨fun c h => by simp [lst] at h, by simp [lst]⟩
  | i + 1 => by
    obtain ⟨h1, h2⟩ := lst_ok ax i
    rw [lst]; split
    · exact ⟨h1, by omega⟩
    · refine ⟨fun c h => ?_, by simp; omega⟩
      rcases List.mem_append.1 h with h | h
      · exact h1 c h
      · rw [List.mem_singleton.1 h]; exact wth_le _
theorem frees_push (fs : List Int) (z : Int) : xcat (xcut (encL (cI .i64) fs) 0 fs.length) [.int .i64 z] = encL (cI .i64) (fs ++ [z]) := by
  have e : xcut (encL (cI .i64) fs) 0 fs.length = encL (cI .i64) fs := by
    rw [xcut, List.drop_zero, List.take_of_length_le (by rw [encL_length (cI_len .i64)]; omega)]
  rw [e, encL_append]; rfl
theorem fgs_pl (ax : List LV) (xs : CL) (fs : List Int) (hn : xs.length ≤ 48) : ∀ i, i ≤ 12 → fgS ax ((xs.length, encL cell xs), fs.length, encL (cI .i64) fs) i = (((pls xs (lst ax i)).length, encL cell (pls xs (lst ax i))), (fs ++ lsf ax i).length, encL (cI .i64) (fs ++ lsf ax i))
  | 0, _ => by simp [fgS, lst, lsf]
  | i + 1, hi => by
    have ih := fgs_pl ax xs fs hn i (by omega)
    have h2 := (lst_ok ax i).2
    have h3 := pls_len (lst ax i) xs
    rw [fgS, ih, lst, lsf]
    split
    · rw [frees_push]
      simp only [List.append_assoc, List.length_append, List.length_singleton, Nat.add_assoc]
    · obtain ⟨t1, t2⟩ := tk1_pl (pls xs (lst ax i)) (wthV (asI (nthD ax (i * 4 + 1))) 1 20) (asI (nthD ax (i * 4 + 2))) (by omega) (wth_le _)
      simp only [t1, t2, List.foldl_append, List.foldl_cons, List.foldl_nil]
theorem fls_fgs (ax : List LV) : ∀ i, flS ax i = fgS ax ((0, []), 0, []) i
  | 0 => rfl
  | i + 1 => by rw [flS, fgS, fls_fgs ax i]
end Go.Lev
