/- LevelsRoom: rows of cells one after another -/
import Derived.Test.YtfigockmbphnfaaCW15
import Derived.Test.YtfigockmbphnfaaLc
import Derived.Test.YtfigockmbphnfaaChecked
import Derived.KernelRfl

namespace Go.Lev
open Go.RowKit
set_option linter.unusedVariables false
set_option linter.unusedSimpArgs false
/-- The cells a, a + 1, .. : k of them, each with the word 7. -/
def rg (a k : Nat) : CL := (List.range k).map fun t => (((a + t : Nat) : Int), 7)
theorem rg_len (a k : Nat) : (rg a k).length = k := by simp [rg]
theorem rg_get {a k t : Nat} (h : t < (rg a k).length) : (rg a k)[t] = (((a + t : Nat) : Int), 7) := by simp [rg]
theorem rg_succ (a k : Nat) : rg a (k + 1) = rg a k ++ [(((a + k : Nat) : Int), 7)] := by simp [rg, List.range_succ]
theorem rg_app (a k : Nat) : ∀ m, rg a k ++ rg (a + k) m = rg a (k + m)
  | 0 => by simp [rg]
  | m + 1 => by
    have e : (k + (m + 1)) = (k + m) + 1 := by omega
    rw [rg_succ, ← List.append_assoc, rg_app a k m, e, rg_succ, Nat.add_assoc]
/-- What a row has no cell of. -/
theorem fnd_rg_no {a k : Nat} {x : Int} (h : x < a ∨ ((a + k : Nat) : Int) ≤ x) : fnd (rg a k) x = -1 := by
  refine fnd_no fun j hj => ?_
  have hl := rg_len a k
  rw [rg_get hj]; simp only; omega
theorem fndW_rg (a k : Nat) (x : Int) : fndW (encL cell (rg a k)) x = fnd (rg a k) x := by simp only [fndW, decC_enc]
theorem pls_new : ∀ (l x : CL), (∀ c ∈ l, ¬ keyIn c.1 x) → uniq l → pls x l = x ++ l
  | [], x, _, _ => by simp
  | c :: r, x, h, u => by
    have h1 : pl x c = x ++ [c] := pl_app x c.1 c.2 fun j hj e => h c (by simp) ⟨_, List.getElem_mem hj, e⟩
    show pls (pl x c) r = _
    rw [h1, pls_new r _ (fun d hd k => ?_) u.2]
    · simp
    · obtain ⟨e, he, hk⟩ := k
      rcases List.mem_append.1 he with he | he
      · exact h d (by simp [hd]) ⟨e, he, hk⟩
      · rw [List.mem_singleton.1 he] at hk
        exact u.1 ⟨d, hd, hk.symm⟩
theorem key_rg {a k : Nat} {x : Int} : keyIn x (rg a k) ↔ (a : Int) ≤ x ∧ x < ((a + k : Nat) : Int) := by
  constructor
  · rintro ⟨c, hc, rfl⟩
    simp only [rg, List.mem_map, List.mem_range] at hc
    obtain ⟨t, ht, rfl⟩ := hc
    simp only; omega
  · rintro ⟨h1, h2⟩
    refine ⟨(x, 7), ?_, rfl⟩
    simp only [rg, List.mem_map, List.mem_range]
    refine ⟨(x - a).toNat, by omega, ?_⟩
    simp only [Prod.mk.injEq, and_true]; omega
theorem uniq_app : ∀ {x y : CL}, uniq x → uniq y → (∀ c ∈ y, ¬ keyIn c.1 x) → uniq (x ++ y)
  | [], _, _, h, _ => h
  | b :: r, y, h1, h2, h3 => by
    refine ⟨fun k => ?_, uniq_app h1.2 h2 fun c hc k => h3 c hc (key_cons.2 (.inr k))⟩
    obtain ⟨e, he, hk⟩ := k
    rcases List.mem_append.1 he with he | he
    · exact h1.1 ⟨e, he, hk⟩
    · exact h3 e he (key_cons.2 (.inl hk.symm))
theorem uniq_rg (a : Nat) : ∀ k, uniq (rg a k)
  | 0 => by simp [rg, uniq]
  | k + 1 => by
    rw [rg_succ]
    refine uniq_app (uniq_rg a k) ⟨key_nil, trivial⟩ fun c hc h => ?_
    rw [List.mem_singleton.1 hc, key_rg] at h
    simp only at h; omega
/-- The next level's cells go behind those that are there. -/
theorem pls_rg (a k m : Nat) : pls (rg a k) (rg (a + k) m) = rg a (k + m) := by
  rw [pls_new _ _ (fun c hc h => ?_) (uniq_rg _ _), rg_app]
  simp only [rg, List.mem_map, List.mem_range] at hc
  obtain ⟨t, ht, rfl⟩ := hc
  rw [key_rg] at h
  simp only at h; omega
/-- One cell more. -/
theorem pl_rg (a k : Nat) : pl (rg a k) (((a + k : Nat) : Int), 7) = rg a (k + 1) := by
  rw [pl_app _ _ _ fun j hj e => ?_, rg_succ]
  have hl := rg_len a k
  rw [rg_get hj] at e; simp only at e; omega
theorem rg_keys {a k : Nat} (h1 : 1 ≤ a) (h2 : a + k ≤ 256) : okK (rg a k) := fun c hc => by
  simp only [rg, List.mem_map, List.mem_range] at hc
  obtain ⟨t, ht, rfl⟩ := hc
  simp only; omega
end Go.Lev
