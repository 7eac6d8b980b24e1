/- CheckJumps: a program with one instruction turned into a jump: list reasoning -/
import Derived.Test.YtnpcobjiaimbhaaDoorCZ9
import Derived.Test.YtnpcobjiaimbhaaDoorLc
import Derived.Test.YtnpcobjiaimbhaaDoorChecked
import Derived.KernelRfl

namespace Go.Lev
open Go.RowKit
set_option linter.unusedVariables false
set_option linter.unusedSimpArgs false
set_option maxRecDepth 100000
noncomputable section
theorem opAt_set {L : List InsR} {i : Nat} {x : InsR} {y : Int} (h : y.toNat ≠ i) : opAt (L.set i x) y = opAt L y := by
  unfold opAt; rw [List.getElem?_set_ne (fun e => h e.symm)]
theorem beg_set {L : List InsR} {i : Nat} {x : InsR} (hi : i < L.length) {k inn : Int} (hx : x.op ≠ k) (hl : L[i].op ≠ k) : beg (L.set i x) inn k ↔ beg L inn k := by
  show (inn ≠ -1 ∧ opAt (L.set i x) inn = k) ↔ (inn ≠ -1 ∧ opAt L inn = k)
  by_cases h : inn.toNat = i
  · have e1 : opAt (L.set i x) inn = x.op := by unfold opAt; rw [h, List.getElem?_set_self hi]
    have e2 : opAt L inn = L[i].op := by unfold opAt; rw [h, List.getElem?_eq_getElem hi]
    rw [e1, e2]
    exact ⟨fun q => absurd q.2 hx, fun q => absurd q.2 hl⟩
  · rw [opAt_set h]
theorem stp_set {L : List InsR} {i : Nat} {x : InsR} (hi : i < L.length) (hx : ¬ bgs x.op) (hl : ¬ bgs L[i].op) (k : Nat) (y : InsR) (s : PS) : stp (L.set i x) k y s = stp L k y s := by
  have h14 : beg (L.set i x) (inm s.o) 14 ↔ beg L (inm s.o) 14 := beg_set hi (fun e => hx (.inl e)) (fun e => hl (.inl e))
  have h17 : beg (L.set i x) (inm s.o) 17 ↔ beg L (inm s.o) 17 := beg_set hi (fun e => hx (.inr (.inl e))) (fun e => hl (.inr (.inl e)))
  have h18 : beg (L.set i x) (inm s.o) 18 ↔ beg L (inm s.o) 18 := beg_set hi (fun e => hx (.inr (.inr e))) (fun e => hl (.inr (.inr e)))
  unfold stp
  simp only [h14, h17, h18]
theorem stp_plain {L : List InsR} {k : Nat} {y : InsR} {s : PS} (hm : mayI y = true) (hy : y.op < 14 ∨ 19 < y.op) : stp L k y s = (0, ⟨s.o, s.r ++ [inm s.o], s.m ++ [-1]⟩) := by
  rw [stp, if_neg (by simp [hm]), if_neg (by omega), if_neg (by omega), if_neg (by omega), if_neg (by omega), if_neg (by omega)]
theorem goS_set {L : List InsR} {i : Nat} {x : InsR} (hi : i < L.length) (hok : (goS L L.length).1 = 0) (hm : mayI x = true) (hx : x.op < 14 ∨ 19 < x.op) (hl : L[i].op < 14 ∨ 19 < L[i].op) : ∀ k, k ≤ L.length → goS (L.set i x) k = goS L k
  | 0, _ => rfl
  | k + 1, hk => by
    have ih := goS_set hi hok hm hx hl k (by omega)
    have h0 : (goS L k).1 = 0 := ok_le (by omega) hok
    have hlen : k < (L.set i x).length := by rw [List.length_set]; omega
    have hbx : ¬ bgs x.op := fun e => by unfold bgs at e; omega
    have hbl : ¬ bgs L[i].op := fun e => by unfold bgs at e; omega
    rw [goS_next (L := L) (by omega) h0, goS_next hlen (by rw [ih]; exact h0), ih, stp_set hi hbx hbl]
    by_cases e : i = k
    · subst e
      have ma := (goS_inv L L.length (Nat.le_refl _) hok).ma i hi hi
      rw [List.getElem_set_self, stp_plain hm hx, stp_plain ma hl]
    · rw [List.getElem_set_ne e]
/-- What the check tells of a program in which one plain instruction is turned into a jump. -/
theorem chk_jump1 {L : List InsR} {i j : Nat} (hi : i < L.length) (hj : j ≤ L.length) (h40 : L.length ≤ 40) (hok : (goS L L.length).1 = 0) (hp : plc L L.length = []) (hJ : ∀ k (h : k < L.length), jok L (goS L L.length).2.2.r k L[k]) (hl : L[i].op < 14 ∨ 19 < L[i].op) :
    (jok L (goS L L.length).2.2.r i ⟨12, 0, 0, (j : Int), 0⟩ → (chk (L.set i ⟨12, 0, 0, (j : Int), 0⟩)).2.1 = 0 ∧ (chk (L.set i ⟨12, 0, 0, (j : Int), 0⟩)).1 = 0) ∧ (¬ jok L (goS L L.length).2.2.r i ⟨12, 0, 0, (j : Int), 0⟩ → (chk (L.set i ⟨12, 0, 0, (j : Int), 0⟩)).2.1 = 2 ∧ (chk (L.set i ⟨12, 0, 0, (j : Int), 0⟩)).1 = i) := by
  have hm : mayI ⟨12, 0, 0, (j : Int), 0⟩ = true := by unfold mayI; dsimp only; exact (mw12 _ _ _ _).2 ⟨by omega, by omega, by omega, by omega, by omega, by omega, .inr rfl⟩
  have hs := goS_set hi hok hm (.inl (by dsimp only; omega)) hl L.length (Nat.le_refl _)
  have hlen : (L.set i (⟨12, 0, 0, (j : Int), 0⟩ : InsR)).length = L.length := List.length_set ..
  have hn : ¬ ((L.set i (⟨12, 0, 0, (j : Int), 0⟩ : InsR)).length = 0 ∨ 40 < (L.set i (⟨12, 0, 0, (j : Int), 0⟩ : InsR)).length) := by rw [hlen]; omega
  have e0 : (goS (L.set i (⟨12, 0, 0, (j : Int), 0⟩ : InsR)) (L.set i (⟨12, 0, 0, (j : Int), 0⟩ : InsR)).length) = goS L L.length := by rw [hlen, hs]
  have ho : (goS (L.set i (⟨12, 0, 0, (j : Int), 0⟩ : InsR)) (L.set i (⟨12, 0, 0, (j : Int), 0⟩ : InsR)).length).2.2.o = [] := by rw [e0]; exact hp
  have hok' : (goS (L.set i (⟨12, 0, 0, (j : Int), 0⟩ : InsR)) (L.set i (⟨12, 0, 0, (j : Int), 0⟩ : InsR)).length).1 = 0 := by rw [e0]; exact hok
  have hjk : ∀ k (h : k < (L.set i (⟨12, 0, 0, (j : Int), 0⟩ : InsR)).length), k ≠ i → jok (L.set i ⟨12, 0, 0, (j : Int), 0⟩) (goS L L.length).2.2.r k (L.set i (⟨12, 0, 0, (j : Int), 0⟩ : InsR))[k] := fun k h hne => by
    rw [List.getElem_set_ne (Ne.symm hne)]
    have := hJ k (by rw [hlen] at h; exact h)
    unfold jok at this ⊢
    rw [hlen]; exact this
  have hii : i < (L.set i (⟨12, 0, 0, (j : Int), 0⟩ : InsR)).length := by rw [hlen]; exact hi
  have hji : jok (L.set i ⟨12, 0, 0, (j : Int), 0⟩) (goS L L.length).2.2.r i (L.set i (⟨12, 0, 0, (j : Int), 0⟩ : InsR))[i] ↔ jok L (goS L L.length).2.2.r i ⟨12, 0, 0, (j : Int), 0⟩ := by
    rw [List.getElem_set_self]
    unfold jok
    rw [hlen]
  have hup : ∀ k, k ≤ i → goJ (L.set i ⟨12, 0, 0, (j : Int), 0⟩) (goS L L.length).2.2.r k = none := by
    intro k
    induction k with
    | zero => intro _; rfl
    | succ k ih => intro hk; exact goJ_good (by omega) (ih (by omega)) (hjk k (by omega) (by omega))
  refine ⟨fun hg => ?_, fun hg => ?_⟩
  · have hall : ∀ k, k ≤ (L.set i (⟨12, 0, 0, (j : Int), 0⟩ : InsR)).length → goJ (L.set i ⟨12, 0, 0, (j : Int), 0⟩) (goS L L.length).2.2.r k = none := by
      intro k
      induction k with
      | zero => intro _; rfl
      | succ k ih =>
        intro hk
        refine goJ_good (by omega) (ih (by omega)) ?_
        by_cases e : k = i
        · subst e; exact hji.2 hg
        · exact hjk k (by omega) e
    rw [chk_good hn hok' ho (by rw [e0]; exact hall _ (Nat.le_refl _))]
    exact ⟨rfl, rfl⟩
  · have := chk_jump hn hok' ho (k := i) (by rw [e0]; exact goJ_bad hii (hup i (Nat.le_refl _)) (fun q => hg (hji.1 q)))
    exact ⟨this.2, this.1⟩
theorem gF_jok {ks : List KinR} {m : Int} {calm : Bool} (hm : m ≤ 40) : ∀ k (h : k < (gF ks m calm).length), jok (gF ks m calm) (goS (gF ks m calm) (gF ks m calm).length).2.2.r k (gF ks m calm)[k] := by
  obtain ⟨hr, hj⟩ := gF_rep (ks := ks) (calm := calm) hm
  generalize gF ks m calm = L at *
  have ho : (goS L L.length).2.2.o = [] := by have := hr.ops; simpa using this
  intro k hk hop
  obtain ⟨c, e1, e2, e3⟩ := hj k hk hop
  rw [e1, r_at L.length (Nat.le_refl _) hr.ok k (by omega)]
  by_cases hc : c = L.length
  · left
    subst hc
    exact ⟨rfl, by rw [← e3]; show inm (goS L L.length).2.2.o = -1; rw [ho]; rfl⟩
  · right
    exact ⟨by omega, by rw [show ((c : Int)).toNat = c from rfl, r_at L.length (Nat.le_refl _) hr.ok c (by omega)]; exact e3⟩
end
end Go.Lev
