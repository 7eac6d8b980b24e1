/- chapter 25: code and reference in step -/
import Derived.Test.YtooajpakpmnehaaCW34
import Derived.Test.YtooajpakpmnehaaLc
import Derived.Test.YtooajpakpmnehaaChecked
import Derived.KernelRfl

namespace Go.Lev
open Go.RowKit
set_option linter.unusedVariables false
set_option linter.unusedSimpArgs false
set_option maxRecDepth 100000
noncomputable section
theorem gGo_id {qs : List (Int × Int)} {nc : Nat} {ss : List Int} {s : CS} (h0 : s.ph = 0 → s.at' ≠ ss.length) (h4 : s.ph ≠ 4) (h5 : s.ph = 5 → s.at' ≠ nc) (h6 : s.ph = 6 ∨ s.ph = 7 → s.at' ≠ s.tk.length) : gGo qs nc ss s = s := by
  unfold gGo
  rw [g1, if_neg fun k => h0 k.1 k.2, gch_no fun k => h4 k.1, g3, if_neg fun k => h4 k.1, g4, if_neg fun k => h5 k.1 k.2, g5, if_neg fun k => h6 (.inl k.1) k.2, g6, if_neg fun k => h6 (.inr k.1) k.2]
theorem gGo_dating {qs : List (Int × Int)} {nc : Nat} {ss : List Int} {s : CS} (h0 : s.ph = 0) (h1 : s.at' = ss.length) : gGo qs nc ss s = s.enter 2 := by
  unfold gGo
  rw [g1, if_pos ⟨h0, h1⟩, gch_no (by simp), g3, if_neg (by simp), g4, if_neg (by simp), g5, if_neg (by simp), g6, if_neg (by simp)]
theorem gGo_let {qs : List (Int × Int)} {nc : Nat} {ss : List Int} (s : CS) (e b r : Int) : gGo qs nc ss (s.letGo e b r) = if s.tk.length = 0 then (s.letGo e b r).stop e r b else s.letGo e b r := by
  unfold gGo
  rw [g1, if_neg (by simp), gch_no (by simp), g3, if_neg (by simp), g4, if_neg (by simp), g5, if_neg (by simp), g6]
  by_cases q : s.tk.length = 0
  · rw [if_pos ⟨rfl, q.symm⟩, if_pos q]
  · rw [if_neg fun k => q k.2.symm, if_neg q]
theorem gGo_stop6 {qs : List (Int × Int)} {nc : Nat} {ss : List Int} {s : CS} (h : s.ph = 6) (h1 : s.at' = s.tk.length) : gGo qs nc ss s = s.stop 2 0 (-1) := by
  unfold gGo
  rw [g1, if_neg (by omega), gch_no (by omega), g3, if_neg (by omega), g4, if_neg (by omega), g5, if_pos ⟨h, h1⟩, g6, if_neg (by simp [h])]
theorem gGo_stop7 {qs : List (Int × Int)} {nc : Nat} {ss : List Int} {s : CS} (h : s.ph = 7) (h1 : s.at' = s.tk.length) : gGo qs nc ss s = s.stop s.ve s.vr s.vb := by
  unfold gGo
  rw [g1, if_neg (by omega), gch_no (by omega), g3, if_neg (by omega), g4, if_neg (by omega), g5, if_neg (by omega), g6, if_pos ⟨h, h1⟩]
/-- Where it begins to free its stripes, or is done. -/
theorem gGo_free {qs : List (Int × Int)} {nc : Nat} {ss : List Int} {s : CS} (h : s.ph = 5) (h1 : s.at' = nc) : gGo qs nc ss s = if s.tk.length = 0 then (s.enter 6).stop 2 0 (-1) else s.enter 6 := by
  unfold gGo
  rw [g1, if_neg (by omega), gch_no (by omega), g3, if_neg (by omega), g4, if_pos ⟨h, h1⟩, g5]
  by_cases q : s.tk.length = 0
  · rw [if_pos ⟨rfl, q.symm⟩, if_pos q, g6, if_neg (by simp)]
  · rw [if_neg fun k => q k.2.symm, if_neg q, g6, if_neg (by simp)]
theorem gGo_sure {qs : List (Int × Int)} {nc : Nat} {ss : List Int} {s : CS} (h : s.ph = 4) (h1 : s.at' = qs.length) : gGo qs nc ss s = if nc = 0 then (if s.tk.length = 0 then (s.sure.enter 6).stop 2 0 (-1) else s.sure.enter 6) else s.sure := by
  unfold gGo
  rw [g1, if_neg (by omega), gch_no (by omega), g3, if_pos ⟨h, h1⟩, g4]
  by_cases q : nc = 0
  · rw [if_pos ⟨rfl, q.symm⟩, if_pos q, g5]
    by_cases r : s.tk.length = 0
    · rw [if_pos ⟨rfl, r.symm⟩, if_pos r, g6, if_neg (by simp)]
    · rw [if_neg fun k => r k.2.symm, if_neg r, g6, if_neg (by simp)]
  · rw [if_neg fun k => q k.2.symm, if_neg q, g5, if_neg (by simp), g6, if_neg (by simp)]

/-- Code and reference stand alike. -/
structure Sm (qs : List (Int × Int)) (ss : List Int) (c r : CS) : Prop where
  en : c.en = r.en
  bu : c.bu = r.bu
  er : c.er = r.er
  go : c.en = 0 → (c.tk = r.tk ∧ c.su = r.su ∧ c.ph = r.ph ∧ c.at' = r.at' ∧ c.lk = r.lk) ∧ (3 ≤ c.ph → c.ph ≤ 6 → c.now = r.now) ∧ (c.ph = 7 → c.ve = r.ve ∧ c.vb = r.vb ∧ c.vr = r.vr) ∧ (c.ph = 4 → idxOf (ss.take c.tk.length) (qs.getD c.at' q0).1 = none)
theorem Sm.stopped {qs : List (Int × Int)} {ss : List Int} {c r : CS} (h1 : c.en = r.en) (h2 : c.bu = r.bu) (h3 : c.er = r.er) (h : c.en ≠ 0) : Sm qs ss c r := ⟨h1, h2, h3, fun h' => absurd h' h⟩
/-- It goes on, not looking. -/
theorem Sm.plain {qs : List (Int × Int)} {ss : List Int} {c r : CS} (h0 : c.en = 0) (hr : r.en = 0) (hb : c.bu = r.bu ∧ c.er = r.er) (ht : c.tk = r.tk) (hs : c.su = r.su) (hp : c.ph = r.ph) (ha : c.at' = r.at') (hl : c.lk = r.lk) (hn : 3 ≤ c.ph → c.ph ≤ 6 → c.now = r.now) (h4 : c.ph ≠ 4) (h7 : c.ph = 7 → c.ve = r.ve ∧ c.vb = r.vb ∧ c.vr = r.vr) : Sm qs ss c r :=
  ⟨h0.trans hr.symm, hb.1, hb.2, fun _ => ⟨⟨ht, hs, hp, ha, hl⟩, hn, h7, fun h => absurd h h4⟩⟩
/-- It lets go, of what it holds. -/
theorem Sm.letGo {qs : List (Int × Int)} {nc : Nat} {ss : List Int} {c r : CS} (h0 : c.en = 0) (hb : c.bu = -1 ∧ c.er = 0) (ht : c.tk = r.tk) (hs : c.su = r.su) (hl : c.lk = r.lk) {e b x : Int} (he : e ≠ 0) : Sm qs ss (gGo qs nc ss (c.letGo e b x)) (rOut r e x b) := by
  rw [gGo_let, rOut, ht]
  by_cases q : r.tk.length = 0
  · rw [if_pos q, if_pos q]; exact Sm.stopped rfl rfl rfl he
  · rw [if_neg q, if_neg q]
    exact Sm.plain h0 rfl hb ht hs rfl rfl hl (fun _ h => by simp at h) (by simp) fun _ => ⟨rfl, rfl, rfl⟩
/-- It begins to write. -/
theorem Sm.write {qs : List (Int × Int)} {nc : Nat} {ss : List Int} {c r : CS} (h0 : c.en = 0) (hr : r.en = 0) (hb : c.bu = r.bu ∧ c.er = r.er) (h4 : c.ph = 4) (ha : c.at' = qs.length) (hf : c.tk.length = ss.length) (hbu : c.bu = -1 ∧ c.er = 0) (ht : c.tk = r.tk) (hs : c.su = r.su) (hl : c.lk = r.lk) (hn : c.now = r.now) : Sm qs ss (gGo qs nc ss c) (rWrite nc ss.length r) := by
  rw [gGo_sure h4 ha, rWrite]
  by_cases q : nc = 0
  · rw [if_pos q, if_pos q, hf]
    by_cases q2 : ss.length = 0
    · rw [if_pos q2, if_pos q2]
      exact Sm.stopped rfl (hbu.1.symm.trans hb.1) (hbu.2.symm.trans hb.2) (by simp)
    · rw [if_neg q2, if_neg q2]
      exact Sm.plain h0 hr hb ht hs rfl rfl hl (fun _ _ => hn) (by simp) fun h => by simp at h
  · rw [if_neg q, if_neg q]
    exact Sm.plain h0 hr hb ht hs rfl rfl hl (fun _ _ => hn) (by simp) fun h => by simp at h
theorem gGo_none {qs : List (Int × Int)} {nc : Nat} {ss : List Int} {c : CS} (h4 : c.ph = 4) (hlt : c.at' < qs.length) (hi : idxOf (ss.take c.tk.length) (qs.getD c.at' q0).1 = none) : gGo qs nc ss c = c := by
  unfold gGo
  rw [g1, if_neg (by omega), gch_none hi, g3, if_neg (by omega), g4, if_neg (by omega), g5, if_neg (by omega), g6, if_neg (by omega)]
theorem Sm.look {qs : List (Int × Int)} {nc : Nat} {ss : List Int} : ∀ (f : Nat) {c r : CS}, qs.length - c.at' ≤ f → c.en = 0 → r.en = 0 → c.ph = 4 → r.ph = 4 → c.at' ≤ qs.length → c.at' = r.at' → c.tk.length = ss.length → (c.bu = -1 ∧ c.er = 0) → (c.bu = r.bu ∧ c.er = r.er) → c.tk = r.tk → c.su = r.su → c.lk = r.lk → c.now = r.now → Sm qs ss (gGo qs nc ss c) (rLook qs nc ss r) := by
  intro f
  induction f with
  | zero =>
    intro c r hf h0 hr h4 hr4 hle ha hfull hbu hb ht hs hl hn
    rw [rLook_end (by omega)]
    exact Sm.write h0 hr hb h4 (by omega) hfull hbu ht hs hl hn
  | succ f ih =>
    intro c r hf h0 hr h4 hr4 hle ha hfull hbu hb ht hs hl hn
    by_cases hlt : c.at' < qs.length
    case neg =>
      rw [rLook_end (by omega)]
      exact Sm.write h0 hr hb h4 (by omega) hfull hbu ht hs hl hn
    rw [rLook_go (by omega), ← ha, ← ht]
    cases hi : idxOf (ss.take c.tk.length) (qs.getD c.at' q0).1 with
    | none =>
      have hB : ownB ss c.tk (qs.getD c.at' q0).1 = false := by rw [ownB, hi]; rfl
      rw [hB, if_neg (by simp), gGo_none h4 hlt hi]
      exact ⟨h0.trans hr.symm, hb.1, hb.2, fun _ => ⟨⟨ht, hs, h4.trans hr4.symm, ha, hl⟩, fun _ _ => hn, fun h => by omega, fun _ => hi⟩⟩
    | some i =>
      have hB : ownB ss c.tk (qs.getD c.at' q0).1 = true := by rw [ownB, hi]; rfl
      have hV : ownV ss c.tk (qs.getD c.at' q0).1 = (c.tk.getD i d0).1 := by rw [ownV, hi]
      rw [hB, if_pos rfl, hV]
      have eg : gGo qs nc ss c = gGo qs nc ss (gcmp qs c (c.tk.getD i d0).1) := by
        have hp : (gcmp qs c (c.tk.getD i d0).1).ph ≠ 0 := by unfold gcmp; split <;> simp only <;> omega
        unfold gGo
        rw [g1, if_neg (by omega), g1, if_neg (fun k => hp k.1), gch_some h4 hlt hi]
      rw [eg, gcmp]
      by_cases hv : (c.tk.getD i d0).1 ≠ (qs.getD c.at' q0).2
      · rw [if_pos hv, if_pos hv]
        exact Sm.letGo h0 hbu ht hs hl (by omega)
      · rw [if_neg hv, if_neg hv]
        exact ih (c := c.step) (r := r.step) (by simp only; omega) h0 hr h4 hr4 (by simp only; omega) (by simp only; omega) hfull hbu hb ht hs hl hn
theorem Sm.tell {me stm : Int} {qs : List (Int × Int)} {nc : Nat} {ss : List Int} {c r : CS} (h : Sm qs ss c r) (hok : c.Ok qs.length nc ss.length) (w v : Int) (hh : Bool) (o : Int) (d : Bool) (e : Int) : Sm qs ss (gTell me stm qs nc ss c w v hh o d e) (rTell me stm qs nc ss r w v hh o d e) := by
  have same := h
  obtain ⟨s1, s2, s3, s4⟩ := h
  by_cases q0 : c.en = 0
  case neg =>
    rw [show gTell me stm qs nc ss c w v hh o d e = c from if_pos q0, show rTell me stm qs nc ss r w v hh o d e = r from if_pos (by rw [← s1]; exact q0)]
    exact same
  have r0 : r.en = 0 := by rw [← s1]; exact q0
  obtain ⟨k5, ka, kz, kb, kc, kf, kd, kn, kv, ke⟩ := hok.go q0
  obtain ⟨⟨t1, t2, t3, t4, t5⟩, t6, t7, t8⟩ := s4 q0
  by_cases q1 : e = 0
  case neg =>
    rw [show gTell me stm qs nc ss c w v hh o d e = c.stop 4 e (-1) by rw [gTell, if_neg (by simpa using q0), if_pos q1], show rTell me stm qs nc ss r w v hh o d e = r.errd e by rw [rTell, if_neg (by simpa using r0), if_pos q1]]
    exact Sm.stopped rfl (ke.1.symm.trans s2) rfl (by simp)
  rw [show gTell me stm qs nc ss c w v hh o d e = gGo qs nc ss (gSw me stm qs c w v hh o d) by rw [gTell, if_neg (by simpa using q0), if_neg (by simpa using q1)], show rTell me stm qs nc ss r w v hh o d e = rSw me stm qs nc ss r w v hh o d by rw [rTell, if_neg (by simpa using r0), if_neg (by simpa using q1)]]
  have aw : (c.ph = 0 ∨ c.ph = 4) → Sm qs ss (gGo qs nc ss (gAw me c o)) (rAw me r o) := fun hp => by
    have hsu := hok.su
    have idx : ∀ x : CS, x.tk = c.tk → x.ph = c.ph → x.at' = c.at' → gGo qs nc ss x = x := fun x e1 e2 e3 => by
      rcases hp with hp | hp
      · exact gGo_id (fun k => by have := ka (.inl hp); omega) (by omega) (by omega) (by omega)
      · exact gGo_none (e2.trans hp) (by have := kb hp; omega) (by rw [e1, e3]; exact t8 hp)
    unfold gAw rAw
    by_cases u1 : me < o
    · rw [if_pos u1, if_pos u1, idx c rfl rfl rfl]; exact same
    · rw [if_neg u1, if_neg u1]
      by_cases u2 : c.su = 0
      · rw [if_pos u2, if_neg (by omega : ¬ 0 < r.su), ← s3, ke.2]
        exact Sm.letGo q0 ke t1 t2 t5 (by omega)
      · rw [if_neg u2, if_pos (by omega : 0 < r.su), idx ⟨c.tk, c.su - 1, c.en, c.bu, c.er, c.lk, c.ph, c.at', c.now, c.st, c.ve, c.vb, c.vr⟩ rfl rfl rfl]
        exact ⟨s1, s2, s3, fun _ => ⟨⟨t1, by simp only; omega, t3, t4, t5⟩, t6, t7, t8⟩⟩
  unfold gSw rSw
  by_cases p0 : c.ph = 0
  · rw [if_pos p0, if_pos (by omega : r.ph = 0)]
    by_cases u0 : hh = true
    · rw [if_pos u0, if_pos u0]; exact aw (.inl p0)
    · rw [if_neg u0, if_neg u0, gGo_id (by simp) (by simp) (by simp) (by simp)]
      exact Sm.plain q0 r0 ⟨s2, s3⟩ t1 t2 rfl t4 rfl (fun h => by simp at h) (by simp) fun h => by simp at h
  rw [if_neg p0, if_neg (by omega : ¬ r.ph = 0)]
  by_cases p1 : c.ph = 1
  · rw [if_pos p1, if_pos (by omega : r.ph = 1)]
    have ha := ka (.inr p1)
    by_cases u0 : d = true
    · rw [if_pos u0, if_pos u0]
      by_cases u : c.at' + 1 = ss.length
      · rw [if_pos (by omega : r.at' + 1 = ss.length), gGo_dating (s := c.got) rfl u]
        exact Sm.plain q0 r0 ⟨s2, s3⟩ (by simp only [t1, t5]) t2 rfl rfl t5 (fun h => by simp at h) (by simp) fun h => by simp at h
      · rw [if_neg (by omega : ¬ r.at' + 1 = ss.length), gGo_id (s := c.got) (fun _ => u) (by simp) (by simp) (by simp)]
        exact Sm.plain q0 r0 ⟨s2, s3⟩ (by simp only [t1, t5]) t2 rfl (by simp only; omega) t5 (fun h => by simp at h) (by simp) fun h => by simp at h
    · rw [if_neg u0, if_neg u0, gGo_id (s := c.again) (fun _ => by simp only; omega) (by simp) (by simp) (by simp)]
      exact Sm.plain q0 r0 ⟨s2, s3⟩ t1 t2 rfl t4 t5 (fun h => by simp at h) (by simp) fun h => by simp at h
  rw [if_neg p1, if_neg (by omega : ¬ r.ph = 1)]
  by_cases p2 : c.ph = 2
  · rw [if_pos p2, if_pos (by omega : r.ph = 2)]
    by_cases u0 : 4611686018427387903 ≤ w
    · rw [if_pos u0, if_pos u0]; exact Sm.letGo (r := r.dated w) q0 ke t1 t2 t5 (by omega)
    · rw [if_neg u0, if_neg u0, gGo_id (by simp) (by simp) (by simp) (by simp)]
      exact Sm.plain q0 r0 ⟨s2, s3⟩ t1 t2 rfl t4 t5 (fun _ _ => rfl) (by simp) fun h => by simp at h
  rw [if_neg p2, if_neg (by omega : ¬ r.ph = 2)]
  by_cases p3 : c.ph = 3
  · rw [if_pos p3, if_pos (by omega : r.ph = 3)]
    have hf := kf (by omega) (by omega)
    have hn := t6 (by omega) (by omega)
    by_cases u0 : d = true
    · rw [if_pos u0, if_pos u0]
      by_cases u : c.now = stm
      · rw [if_pos u, if_pos (by omega : r.now = stm)]
        exact Sm.write (c := c.skip qs.length) (r := r.into 4 0) q0 r0 ⟨s2, s3⟩ rfl rfl hf ke t1 t2 t5 hn
      · rw [if_neg u, if_neg (by omega : ¬ r.now = stm)]
        exact Sm.look (c := c.enter 4) (r := r.into 4 0) qs.length (by simp) q0 r0 rfl rfl (Nat.zero_le _) rfl hf ke ⟨s2, s3⟩ t1 t2 t5 hn
    · rw [if_neg u0, if_neg u0, gGo_id (by simp) (by simp) (by simp) (by simp)]
      exact Sm.plain q0 r0 ⟨s2, s3⟩ t1 t2 rfl (by have := kz (.inr p3); simp only; omega) t5 (fun h => by simp at h) (by simp) fun h => by simp at h
  rw [if_neg p3, if_neg (by omega : ¬ r.ph = 3)]
  by_cases p4 : c.ph = 4
  · rw [if_pos p4, if_pos (by omega : r.ph = 4)]
    have hf := kf (by omega) (by omega)
    have hn := t6 (by omega) (by omega)
    have hat := kb p4
    by_cases u0 : hh = true
    · rw [if_pos u0, if_pos u0]; exact aw (.inr p4)
    · rw [if_neg u0, if_neg u0, gcmp, ← t4]
      by_cases u : v ≠ (qs.getD c.at' Lev.q0).2
      · rw [if_pos u, if_pos u]
        exact Sm.letGo q0 ke t1 t2 t5 (by omega)
      · rw [if_neg u, if_neg u]
        exact Sm.look (c := c.step) (r := r.step) (qs.length - (c.at' + 1)) (Nat.le_refl _) q0 r0 p4 (by simp only; omega) (by simp only; omega) (by simp only; omega) hf ke ⟨s2, s3⟩ t1 t2 t5 hn
  rw [if_neg p4, if_neg (by omega : ¬ r.ph = 4)]
  by_cases p5 : c.ph = 5
  · rw [if_pos (by omega : r.ph = 5)]
    have hf := kf (by omega) (by omega)
    have hn := t6 (by omega) (by omega)
    by_cases u : c.at' + 1 = nc
    · rw [if_pos (by omega : r.at' + 1 = nc), gGo_free (s := c.step) p5 u]
      have e1 : c.step.tk.length = ss.length := hf
      rw [e1]
      by_cases u2 : ss.length = 0
      · rw [if_pos u2, if_pos u2]
        exact Sm.stopped rfl (ke.1.symm.trans s2) (ke.2.symm.trans s3) (by simp)
      · rw [if_neg u2, if_neg u2]
        exact Sm.plain q0 r0 ⟨s2, s3⟩ t1 t2 rfl rfl t5 (fun _ _ => hn) (by simp) fun h => by simp at h
    · rw [if_neg (by omega : ¬ r.at' + 1 = nc), gGo_id (by simp only; omega) (by simp only; omega) (fun _ => u) (by simp only; omega)]
      exact Sm.plain q0 r0 ⟨s2, s3⟩ t1 t2 t3 (by simp only; omega) t5 (fun _ _ => hn) (by simp only; omega) fun h => by simp only at h; omega
  rw [if_neg (by omega : ¬ r.ph = 5)]
  by_cases p6 : c.ph = 6
  · rw [if_pos (by omega : r.ph = 6)]
    have hf := kf (by omega) (by omega)
    have hn := t6 (by omega) (by omega)
    by_cases u : c.at' + 1 = ss.length
    · rw [if_pos (by omega : r.at' + 1 = ss.length), gGo_stop6 (s := c.step) p6 (by simp only; omega)]
      exact Sm.stopped rfl (ke.1.symm.trans s2) (ke.2.symm.trans s3) (by simp)
    · rw [if_neg (by omega : ¬ r.at' + 1 = ss.length), gGo_id (by simp only; omega) (by simp only; omega) (by simp only; omega) (by simp only; omega)]
      exact Sm.plain q0 r0 ⟨s2, s3⟩ t1 t2 t3 (by simp only; omega) t5 (fun _ _ => hn) (by simp only; omega) fun h => by simp only at h; omega
  rw [if_neg (by omega : ¬ r.ph = 6)]
  have p7 : c.ph = 7 := by omega
  obtain ⟨v1, v2, v3⟩ := t7 p7
  by_cases u : c.at' + 1 = c.tk.length
  · rw [if_pos (by rw [← t1]; omega : r.at' + 1 = r.tk.length), gGo_stop7 (s := c.step) p7 u]
    exact Sm.stopped v1 v2 v3 (kv p7)
  · rw [if_neg (by rw [← t1]; omega : ¬ r.at' + 1 = r.tk.length), gGo_id (by simp only; omega) (by simp only; omega) (by simp only; omega) (by simp only; omega)]
    exact Sm.plain q0 r0 ⟨s2, s3⟩ t1 t2 t3 (by simp only; omega) t5 (fun h1 h2 => by simp only at h1 h2; omega) (by simp only; omega) fun _ => ⟨v1, v2, v3⟩
/-- The same operation is next. -/
theorem Sm.op {me : Int} {qs cs : List (Int × Int)} {ss : List Int} {c r : CS} (h : Sm qs ss c r) : opOf me qs cs ss c = opOf me qs cs ss r := by
  by_cases q0 : c.en = 0
  case neg => rw [opOf, if_pos q0, opOf, if_pos (by rw [← h.en]; exact q0)]
  obtain ⟨⟨t1, t2, t3, t4, t5⟩, t6, t7, t8⟩ := h.go q0
  unfold opOf
  rw [← h.en, ← t1, ← t3, ← t4, ← t5]
  by_cases p3 : c.ph = 3
  · rw [t6 (by omega) (by omega)]
  by_cases p6 : c.ph = 6
  · rw [t6 (by omega) (by omega)]
  rw [if_neg p3, if_neg p3, if_neg p6, if_neg p6]
end
end Go.Lev
