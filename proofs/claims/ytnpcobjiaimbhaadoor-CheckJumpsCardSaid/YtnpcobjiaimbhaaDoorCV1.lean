/- a contract over a read-only row, with new blocks, over one's own row -/
import Derived.Test.YtnpcobjiaimbhaaDoorCZ9
import Derived.Test.YtnpcobjiaimbhaaDoorLc
import Derived.Test.YtnpcobjiaimbhaaDoorChecked
import Derived.KernelRfl

namespace Go.Lev
open Go.RowKit
set_option linter.unusedVariables false
set_option linter.unusedSimpArgs false
theorem cons_get {L M : LB} {new : List LB} {g : Glb} {b : Nat} (h : (mkS (L :: new) g).h.get b = some M) : (b = 0 ∧ M = L) ∨ ∃ c, b = c + 1 ∧ new[c]? = some M := by
  rw [mkS_get] at h
  cases b with
  | zero => simp at h; exact .inl ⟨rfl, h.symm⟩
  | succ c => exact .inr ⟨c, rfl, by simpa using h⟩
theorem get_cons {L : LB} {new : List LB} {g : Glb} {c : Nat} : (mkS (L :: new) g).h.get (c + 1) = new[c]? := by
  rw [mkS_get]; simp
theorem SFun.froze2 {P : Program} {f : Nat} {args : List LV} {cs : List LV} {op : Option Nat} {g : Glb} {v : LV} {new : List LB} (hf : ∀ x ∈ g, x.2.length ≠ 1) (hne : cs ≠ []) (hro : ∀ (i : Nat) ds, new[i]? ≠ some (.ro ds))
    (h : SFun P f args (mkS [.ro cs] g) fun l s' => l = v ∧ s' = mkS (.ro cs :: new) g) : SFun P f args (mkS [.cells cs op] g) fun l s' => l = v ∧ s' = mkS (.cells cs op :: new) g := by
  intro W0 r w us hI hus
  have hn : (mkS [.ro cs] g).n = (mkS [.cells cs op] g).n := by rw [mkS_n, mkS_n]; rfl
  have nolive : ∀ b, ¬ (mkS [.ro cs] g).lives b := fun b ⟨L, h1, h2⟩ => by
    obtain ⟨_, rfl⟩ := one_get h1; cases h2
  have hget : (mkS [.cells cs op] g).h.get 0 = some (.cells cs op) := by rw [mkS_get]; rfl
  have hI' : Inv w r (mkS [.ro cs] g) w := by
    refine ⟨Below.refl _ _, fun b x hx => by rw [hn]; exact hI.dom b x hx, fun b x hl => absurd hl (nolive b), fun b hb => ?_, fun b b' x x' hl => absurd hl (nolive b), fun b ds o hb => ?_, fun b t p hb => ?_, Gl.up hI.gl hI.below hf, fun b ds hb => ?_⟩
    · rw [mkS_get]; rw [mkS_n] at hb; exact List.getElem?_eq_none hb
    · have := (one_get hb).2; cases this
    · have := (one_get hb).2; cases this
    · obtain ⟨rfl, e⟩ := one_get hb
      cases e
      rcases hI.cells 0 cs op hget with h0 | ⟨x, h1, h2⟩
      · exact .inl h0
      · obtain ⟨c, e, lo, hi, q1, q2, _⟩ := h2.ex
        exact .inr ⟨x, h1, c, e, (lo, hi), q1, q2⟩
  obtain ⟨x0, hx0, hH0⟩ : ∃ x, r 0 = some x ∧ Holds r w x cs op := by
    rcases hI.cells 0 cs op hget with h0 | h0
    · exact absurd h0.1 hne
    · exact h0
  have hd0 := (hI.dom 0 x0 hx0).2
  have hlive0 : (mkS [.cells cs op] g).lives 0 := ⟨_, hget, rfl⟩
  refine (h w r w us hI' hus).mono fun e w' ⟨l, s', v', r', hl, he, hvv, hIw, hE⟩ => ?_
  obtain ⟨rfl, rfl⟩ := hl
  have hb := hIw.below
  have h0' : r' 0 = some x0 := hE.le 0 x0 hx0
  have hnn : (mkS (.cells cs op :: new) g).n = (mkS (.ro cs :: new) g).n := by rw [mkS_n, mkS_n]; rfl
  have up : ∀ c, (mkS (.cells cs op :: new) g).lives (c + 1) → (mkS (.ro cs :: new) g).lives (c + 1) := fun c ⟨L, h1, h2⟩ => ⟨L, by rw [get_cons] at h1 ⊢; exact h1, h2⟩
  have own' : ∀ c x, (mkS (.cells cs op :: new) g).lives (c + 1) → r' (c + 1) = some x → w.heap.size ≤ x.1 := fun c x hl hx => hIw.own _ _ (up c hl) hx
  refine ⟨l, _, v', r', ⟨rfl, rfl⟩, he, hvv, ?_, ?_⟩
  · refine ⟨hI.below.trans (hb.mono hI.below.size), fun b x hx => by rw [hnn]; exact hIw.dom b x hx, fun b x hl hx => ?_, fun b hbn => ?_, fun b b' x x' hl hl' hx hx' e => ?_, fun b ds o hds => ?_, fun b t p ht => ?_, hI.gl, fun b ds hds => ?_⟩
    · cases b with
      | zero => rw [h0'] at hx; cases hx; exact hI.own 0 x0 hlive0 hx0
      | succ c => exact Nat.le_trans hI.below.size (own' c x hl hx)
    · rw [mkS_get]; rw [mkS_n] at hbn; exact List.getElem?_eq_none hbn
    · cases b with
      | zero =>
        cases b' with
        | zero => rfl
        | succ c' => rw [h0'] at hx; cases hx; have := own' c' x' hl' hx'; omega
      | succ c =>
        cases b' with
        | zero => rw [h0'] at hx'; cases hx'; have := own' c x hl hx; omega
        | succ c' => exact hIw.inj _ _ x x' (up c hl) (up c' hl') hx hx' e
    · rcases cons_get hds with ⟨rfl, e⟩ | ⟨c, rfl, e⟩
      · cases e
        exact .inr ⟨x0, h0', hH0.mono hE.le (hb.block _ hd0)⟩
      · exact hIw.cells (c + 1) ds o (by rw [get_cons]; exact e)
    · rcases cons_get ht with ⟨rfl, e⟩ | ⟨c, rfl, e⟩
      · cases e
      · exact hIw.iter (c + 1) t p (by rw [get_cons]; exact e)
    · rcases cons_get hds with ⟨rfl, e⟩ | ⟨c, rfl, e⟩
      · cases e
      · exact absurd e (hro c ds)
  · refine ⟨hE.le, by rw [hnn, ← hn]; exact hE.n, hb.size, fun b x h1 h2 hlt => ?_, fun B hB _ => hb.block B hB⟩
    cases b with
    | zero => rw [h0'] at h2; cases h2; exact ⟨0, x0, hlive0, hx0, rfl⟩
    | succ c => have := own' c x h1 h2; omega
end Go.Lev
