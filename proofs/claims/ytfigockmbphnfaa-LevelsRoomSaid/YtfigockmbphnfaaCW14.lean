/- words put into rows: the order and the last word -/
import Derived.Test.YtfigockmbphnfaaCW6
import Derived.Test.YtfigockmbphnfaaLc
import Derived.Test.YtfigockmbphnfaaChecked
import Derived.KernelRfl

namespace Go.Lev
open Go.RowKit
set_option linter.unusedVariables false
set_option linter.unusedSimpArgs false
abbrev CL := List (Int × Int)
def pl : CL → Int × Int → CL
  | [], c => [c]
  | b :: r, c => if b.1 = c.1 then (b.1, c.2) :: r else b :: pl r c
abbrev pls (x l : CL) : CL := l.foldl pl x
def keyIn (a : Int) (x : CL) : Prop := ∃ c ∈ x, c.1 = a
theorem key_cons {a : Int} {b : Int × Int} {r : CL} : keyIn a (b :: r) ↔ b.1 = a ∨ keyIn a r := by simp [keyIn]
theorem key_nil {a : Int} : ¬ keyIn a [] := by simp [keyIn]
theorem key_pl {a : Int} {c : Int × Int} : ∀ {x : CL}, keyIn a (pl x c) ↔ keyIn a x ∨ c.1 = a
  | [] => by simp [pl, keyIn]
  | b :: r => by
    rw [pl]; split
    · rename_i h
      simp only [key_cons]
      constructor
      · rintro (h1 | h1)
        · exact .inl (.inl h1)
        · exact .inl (.inr h1)
      · rintro ((h1 | h1) | h1)
        · exact .inl h1
        · exact .inr h1
        · exact .inl (h.trans h1)
    · simp only [key_cons, key_pl, or_assoc]
theorem pl_hit2 {a w z : Int} : ∀ (s : CL), pl (pl s (a, w)) (a, z) = pl s (a, z)
  | [] => by simp [pl]
  | b :: r => by
    simp only [pl]; split
    · rename_i h; simp [pl, h]
    · rename_i h; simp [pl, h, pl_hit2 r]
theorem pl_swap {a b v z : Int} (hab : b ≠ a) : ∀ {s : CL}, keyIn a s → pl (pl s (b, v)) (a, z) = pl (pl s (a, z)) (b, v)
  | [], h => (key_nil h).elim
  | c :: r, h => by
    by_cases h1 : c.1 = a
    · have h2 : c.1 ≠ b := fun e => hab (e.symm.trans h1)
      have h3 : ¬ a = b := fun e => hab e.symm
      simp [pl, h1, h3]
    · by_cases h2 : c.1 = b
      · simp [pl, h2, hab]
      · have h4 : keyIn a r := (key_cons.1 h).resolve_left h1
        simp [pl, h1, h2, pl_swap hab h4]
theorem pls_out {a z : Int} : ∀ (y : CL) {s : CL}, ¬ keyIn a y → keyIn a s → pls (pl s (a, z)) y = pl (pls s y) (a, z)
  | [], s, _, _ => rfl
  | b :: r, s, h, hs => by
    have h1 : b.1 ≠ a := fun e => h (key_cons.2 (.inl e))
    have h2 : ¬ keyIn a r := fun e => h (key_cons.2 (.inr e))
    simp only [List.foldl_cons]
    rw [← pl_swap (v := b.2) h1 hs]
    exact pls_out r h2 (key_pl.2 (.inl hs))
def uniq : CL → Prop
  | [] => True
  | b :: r => ¬ keyIn b.1 r ∧ uniq r
theorem uniq_pl {c : Int × Int} : ∀ {y : CL}, uniq y → uniq (pl y c)
  | [], _ => ⟨key_nil, trivial⟩
  | b :: r, h => by
    rw [pl]; split
    · exact h
    · rename_i h1
      exact ⟨fun e => (key_pl.1 e).elim h.1 (fun e => h1 e.symm), uniq_pl h.2⟩
theorem uniq_pls : ∀ (l : CL) {y : CL}, uniq y → uniq (pls y l)
  | [], _, h => h
  | c :: r, _, h => uniq_pls r (uniq_pl h)
theorem pls_pl {a z : Int} : ∀ (y : CL) (x : CL), uniq y → pls x (pl y (a, z)) = pl (pls x y) (a, z)
  | [], x, _ => rfl
  | b :: r, x, h => by
    by_cases h1 : b.1 = a
    · have e : pl (b :: r) (a, z) = (a, z) :: r := by simp [pl, h1]
      rw [e]
      simp only [List.foldl_cons]
      have hb : b = (a, b.2) := by rw [← h1]
      rw [hb]
      rw [← pls_out r (h1 ▸ h.1) (key_pl.2 (.inr rfl)), pl_hit2]
    · have e : pl (b :: r) (a, z) = b :: pl r (a, z) := by simp [pl, h1]
      rw [e]
      simp only [List.foldl_cons]
      exact pls_pl r _ h.2
theorem pls_pls (x : CL) : ∀ (l : CL) (y : CL), uniq y → pls x (pls y l) = pls (pls x y) l
  | [], y, _ => rfl
  | c :: r, y, h => by
    simp only [List.foldl_cons]
    rw [show List.foldl pl (pl y c) r = pls (pl y c) r from rfl, pls_pls x r _ (uniq_pl h), show c = (c.1, c.2) from rfl, pls_pl y x h]
theorem pls_nil (x l : CL) : pls x (pls [] l) = pls x l := pls_pls x l [] trivial
theorem pl_len (x : CL) (c : Int × Int) : (pl x c).length ≤ x.length + 1 := by
  induction x with
  | nil => simp [pl]
  | cons b r ih => rw [pl]; split <;> simp <;> omega
theorem pls_len : ∀ (l x : CL), (pls x l).length ≤ x.length + l.length
  | [], x => by simp
  | c :: r, x => by
    have h1 := pls_len r (pl x c)
    have h2 := pl_len x c
    show (pls (pl x c) r).length ≤ _
    simp only [List.length_cons]; omega
/-- A put into a row is pl. -/
theorem pl_set : ∀ (xs : CL) (a z : Int) (i : Nat) (h : i < xs.length), xs[i].1 = a → (∀ j (hj : j < xs.length), j < i → xs[j].1 ≠ a) → pl xs (a, z) = xs.set i (a, z)
  | b :: r, a, z, 0, h, e, _ => by simp at e; simp [pl, e]
  | b :: r, a, z, i + 1, h, e, hn => by
    have h1 : b.1 ≠ a := hn 0 (by simp) (by omega)
    have ih := pl_set r a z i (by simpa using h) (by simpa using e) fun j hj hji => hn (j + 1) (by simp; omega) (by omega)
    simp [pl, h1, ih]
theorem pl_app : ∀ (xs : CL) (a z : Int), (∀ j (hj : j < xs.length), xs[j].1 ≠ a) → pl xs (a, z) = xs ++ [(a, z)]
  | [], a, z, _ => rfl
  | b :: r, a, z, hn => by
    have h1 : b.1 ≠ a := hn 0 (by simp)
    have ih := pl_app r a z fun j hj => hn (j + 1) (by simp; omega)
    simp [pl, h1, ih]
end Go.Lev
