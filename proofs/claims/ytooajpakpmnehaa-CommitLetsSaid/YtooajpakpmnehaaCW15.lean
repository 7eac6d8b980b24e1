/- chapter 25: a commit alone on a memory, what it does -/
import Derived.Test.YtooajpakpmnehaaCW14
import Derived.Test.YtooajpakpmnehaaLc
import Derived.Test.YtooajpakpmnehaaChecked
import Derived.KernelRfl

namespace Go.Lev
open Go.RowKit
set_option linter.unusedVariables false
set_option linter.unusedSimpArgs false
set_option maxRecDepth 100000
noncomputable section
structure AOk (qs cs : List (Int × Int)) (ss : List Int) (p : CS × MS) : Prop where
  s : p.1.Ok qs.length cs.length ss.length
  m : p.2.ok
  n : 0 ≤ p.2.N
theorem stepM_N {m : MS} (h : 0 ≤ m.N) (o : OpR) : 0 ≤ (stepM m o).1.N := by
  have h7 : 0 ≤ (csN m o.old o.w).1.N := by
    simp only [csN]; split
    · exact h
    · split
      · exact h
      · split
        · simp only; omega
        · exact h
  have h1 : ∀ a, (ldW m a).1.N = m.N := fun a => by simp only [ldW]; split <;> rfl
  have h2 : ∀ a w, (stW m a w).1.N = m.N := fun a w => by simp only [stW]; split <;> rfl
  have h3 : ∀ a, (ldL m a).1.N = m.N := fun a => by simp only [ldL]; split <;> rfl
  have h4 : ∀ a w l, (csL m a w l).1.N = m.N := fun a w l => by
    simp only [csL]; split
    · split
      · split <;> rfl
      · rfl
    · rfl
  have h5 : ∀ a l, (stL m a l).1.N = m.N := fun a l => by
    simp only [stL]; split
    · split <;> rfl
    · rfl
  have h8 : ∀ a, (ldS m a).1.N = m.N := fun a => by simp only [ldS]; split <;> rfl
  have h9 : ∀ a w, (stS m a w).1.N = m.N := fun a w => by simp only [stS]; split <;> rfl
  unfold stepM
  repeat' split
  all_goals first | exact h | exact h7 | (rw [h1]; exact h) | (rw [h2]; exact h) | (rw [h3]; exact h) | (rw [h4]; exact h) | (rw [h5]; exact h) | (rw [h8]; exact h) | (rw [h9]; exact h)
theorem stepM_w {m : MS} (h : 0 ≤ m.N) {o : OpR} (k1 : o.k ≠ 1) (k8 : o.k ≠ 8) : 0 ≤ (stepM m o).2.1 := by
  have h2 : ∀ a w, (stW m a w).2.1 = 0 := fun a w => by simp only [stW]; split <;> rfl
  have h3 : ∀ a, (ldL m a).2.1 = 0 := fun a => by simp only [ldL]; split <;> rfl
  have h4 : ∀ a w l, (csL m a w l).2.1 = 0 := fun a w l => by
    simp only [csL]; split
    · split
      · split <;> rfl
      · rfl
    · rfl
  have h5 : ∀ a l, (stL m a l).2.1 = 0 := fun a l => by
    simp only [stL]; split
    · split <;> rfl
    · rfl
  have h7 : ∀ a w, (csN m a w).2.1 = 0 := fun a w => by
    simp only [csN]; split
    · rfl
    · split
      · rfl
      · split <;> rfl
  have h9 : ∀ a w, (stS m a w).2.1 = 0 := fun a w => by simp only [stS]; split <;> rfl
  rw [stepM, if_neg k1]
  by_cases c2 : o.k = 2
  · rw [if_pos c2, h2]; exact Int.le_refl _
  rw [if_neg c2]
  by_cases c3 : o.k = 3
  · rw [if_pos c3, h3]; exact Int.le_refl _
  rw [if_neg c3]
  by_cases c4 : o.k = 4
  · rw [if_pos c4, h4]; exact Int.le_refl _
  rw [if_neg c4]
  by_cases c5 : o.k = 5
  · rw [if_pos c5, h5]; exact Int.le_refl _
  rw [if_neg c5]
  by_cases c6 : o.k = 6
  · rw [if_pos c6]; exact h
  rw [if_neg c6]
  by_cases c7 : o.k = 7
  · rw [if_pos c7, h7]; exact Int.le_refl _
  rw [if_neg c7, if_neg k8]
  by_cases c9 : o.k = 9
  · rw [if_pos c9, h9]; exact Int.le_refl _
  rw [if_neg c9]
  exact Int.le_refl _
theorem opOf_k (me : Int) (qs cs : List (Int × Int)) (ss : List Int) (s : CS) : (opOf me qs cs ss s).k ≠ 1 ∧ (opOf me qs cs ss s).k ≠ 8 := by
  unfold opOf op0
  repeat' split
  all_goals exact ⟨by simp, by simp⟩
theorem aStep_ok {me stm : Int} {qs cs : List (Int × Int)} {ss : List Int} (hb : qs.length ≤ 1000000 ∧ cs.length ≤ 1000000 ∧ ss.length ≤ 1000000) {p : CS × MS} (h : AOk qs cs ss p) : AOk qs cs ss (aStep me stm qs cs ss p) := by
  obtain ⟨h1, h2, h3⟩ := h
  obtain ⟨k1, k8⟩ := opOf_k me qs cs ss p.1
  obtain ⟨l1, l2, l3⟩ := stepM_len p.2 (opOf me qs cs ss p.1)
  exact ⟨gTell_ok hb h1 _ _ (stepM_w h3 k1 k8) _ _ _ _, ⟨by rw [aStep, l1]; exact h2.w, by rw [aStep, l2]; exact h2.l, by rw [aStep, l3]; exact h2.s⟩, stepM_N h3 _⟩
theorem aRun_end {me stm : Int} {qs cs : List (Int × Int)} {ss : List Int} {p : CS × MS} (h : p.1.en ≠ 0) : ∀ f, aRun me stm qs cs ss f p = p
  | 0 => rfl
  | f + 1 => if_pos h
theorem aRun_go {me stm : Int} {qs cs : List (Int × Int)} {ss : List Int} {p : CS × MS} (h : p.1.en = 0) (f : Nat) : aRun me stm qs cs ss (f + 1) p = aRun me stm qs cs ss f (aStep me stm qs cs ss p) := if_neg (by simpa using h)
theorem mkC_s (s : CS) : mkC (encL cL s.tk) s.su s.en s.bu s.er s.lk.1 s.lk.2.1 s.lk.2.2 s.ph (s.at' : Int) s.now s.st s.ve s.vb s.vr = s := mkC_enc s.tk s.su s.en s.bu s.er s.lk.1 s.lk.2.1 s.lk.2.2 s.ph s.at' s.now s.st s.ve s.vb s.vr
theorem nOp_s (me : Int) (qs cs : List (Int × Int)) (ss : List Int) (s : CS) : nOp me (encL cell qs) (encL cell cs) (encL (cI .i64) ss) s = opL (opOf me qs cs ss s) := by
  simp only [nOp, nK, nA, nO, nW, nWv, nWh, nWo, nLv, nLh, nLo, opW, decC_enc, decIi64_enc]
theorem tW_s (me stm : Int) (qs cs : List (Int × Int)) (ss : List Int) (s : CS) (m : MS) : tW me stm (encL cell qs) (encL cell cs) (encL (cI .i64) ss) s (stepM m (opOf me qs cs ss s)).2.1 (stepM m (opOf me qs cs ss s)).2.2.1.1 (stepM m (opOf me qs cs ss s)).2.2.1.2.1 (stepM m (opOf me qs cs ss s)).2.2.1.2.2 (stepM m (opOf me qs cs ss s)).2.2.2.1 (stepM m (opOf me qs cs ss s)).2.2.2.2 = (aStep me stm qs cs ss (s, m)).1 := by
  simp only [tW, decC_enc, decIi64_enc, aStep]
abbrev alM (me stm sa sb sc' sd se wi : Int) (qs cs : List (Int × Int)) (ss : List Int) (p : CS × MS) : List LB := alH me stm qs.length cs.length ss.length p.1.tk.length (encL cell qs) (encL cell cs) (encL (cI .i64) ss) (encL cL p.1.tk) p.1.su p.1.en p.1.bu p.1.er p.1.lk.1 p.1.lk.2.1 p.1.lk.2.2 p.1.ph p.1.at' p.1.now p.1.st p.1.ve p.1.vb p.1.vr sa sb sc' sd se p.2.N p.2.C wi p.2.W.length p.2.L.length p.2.S.length (encL (cI .u64) p.2.W) (encL cL p.2.L) (encL (cI .u64) p.2.S)
abbrev alK (me stm sa sb sc' sd se wi : Int) (qs cs : List (Int × Int)) (ss : List Int) (p : CS × MS) : List LB := alI me stm qs.length cs.length ss.length p.1.tk.length (encL cell qs) (encL cell cs) (encL (cI .i64) ss) (encL cL p.1.tk) p.1.su p.1.en p.1.bu p.1.er p.1.lk.1 p.1.lk.2.1 p.1.lk.2.2 p.1.ph p.1.at' p.1.now p.1.st p.1.ve p.1.vb p.1.vr sa sb sc' sd se p.2.N p.2.C wi p.2.W.length p.2.L.length p.2.S.length (encL (cI .u64) p.2.W) (encL cL p.2.L) (encL (cI .u64) p.2.S)
theorem cxa_ok : CtrOk Go.Proofs.Try.prog (ctrOf cxa) := cxl_ok ⟨nextG_ok, mdoG_ok, tellG_ok, trivial⟩
theorem an_m (m : MS) (o : OpR) : anW (encL (cI .u64) m.W) (encL cL m.L) (encL (cI .u64) m.S) m.N m.C (opL o) = (stepM m o).2.1 ∧ anV (encL (cI .u64) m.W) (encL cL m.L) (encL (cI .u64) m.S) m.N m.C (opL o) = (stepM m o).2.2.1.1 ∧ anH (encL (cI .u64) m.W) (encL cL m.L) (encL (cI .u64) m.S) m.N m.C (opL o) = (stepM m o).2.2.1.2.1 ∧ anO (encL (cI .u64) m.W) (encL cL m.L) (encL (cI .u64) m.S) m.N m.C (opL o) = (stepM m o).2.2.1.2.2 ∧ anD (encL (cI .u64) m.W) (encL cL m.L) (encL (cI .u64) m.S) m.N m.C (opL o) = (stepM m o).2.2.2.1 ∧ anE (encL (cI .u64) m.W) (encL cL m.L) (encL (cI .u64) m.S) m.N m.C (opL o) = (stepM m o).2.2.2.2 := by
  simp only [anW, anV, anH, anO, anD, anE, decM_enc, decO_opL, and_self]
theorem d_m (m : MS) (o : OpR) : dW (encL (cI .u64) m.W) (encL cL m.L) (encL (cI .u64) m.S) m.N m.C (opL o) = encL (cI .u64) (stepM m o).1.W ∧ dL (encL (cI .u64) m.W) (encL cL m.L) (encL (cI .u64) m.S) m.N m.C (opL o) = encL cL (stepM m o).1.L ∧ dS (encL (cI .u64) m.W) (encL cL m.L) (encL (cI .u64) m.S) m.N m.C (opL o) = encL (cI .u64) (stepM m o).1.S ∧ dN (encL (cI .u64) m.W) (encL cL m.L) (encL (cI .u64) m.S) m.N m.C (opL o) = (stepM m o).1.N ∧ dC (encL (cI .u64) m.W) (encL cL m.L) (encL (cI .u64) m.S) m.N m.C (opL o) = (stepM m o).1.C := by
  simp only [dW, dL, dS, dN, dC, decM_enc, decO_opL, and_self]
set_option maxHeartbeats 1000000 in
theorem alone_ok (me stm sa sb sc' sd se wi : Int) (qs cs : List (Int × Int)) (ss : List Int) (hb : qs.length ≤ 1000000 ∧ cs.length ≤ 1000000 ∧ ss.length ≤ 1000000) (p : CS × MS) (hp : AOk qs cs ss p) (he : (aRun me stm qs cs ss 299 p).1.en ≠ 0) :
    SFun Go.Proofs.Try.prog 27 [.ptr 0 0, .ptr 6 0] (mkS (alK me stm sa sb sc' sd se wi qs cs ss p)) fun l s => l = .bool true ∧ s = mkS (alM me stm sa sb sc' sd se wi qs cs ss (aRun me stm qs cs ss 299 p)) := by
  refine SFun.mono (SFun.pieces (Q := fun l b => l = .bool true ∧ b = alM me stm sa sb sc' sd se wi qs cs ss (aRun me stm qs cs ss 299 p)) 24 14 alL [4] (by kernel_rfl) rfl rfl rfl ?_) fun l s' ⟨b0, ⟨h1, h2⟩, h3⟩ => ⟨h1, by rw [h3, h2]⟩
  have nq := noids_c qs
  have nc := noids_c cs
  have nss := noIds_Ii64 ss
  refine SSp.to cxa_ok (n := 40) (g := []) 2 2 rfl (σ := Unit) (fun _ => alT 0) (fun _ => alM me stm sa sb sc' sd se wi qs cs ss p) (mkS_le (Nat.le_refl _)) (by kernel_rfl) ?_ fun _ => ?_
  · have nt := noids_l p.1.tk
    have n1 := noIds_Iu64 p.2.W
    have n2 := noids_l p.2.L
    have n3 := noIds_Iu64 p.2.S
    rw [al_a]
    exact ⟨rfl, (), [.id 0, .id 1, .id 2, .id 3, .id 4, .id 5, .id 6, .id 7, .id 8, .id 9, .id 10, .id 11, .id 12, .id 13, .id 5], by (refine ⟨by kernel_rfl, ?_, ?_⟩ <;> repeat first | exact okTms_nil | refine okTms_cons ?_ ?_ | exact okBlks_nil | refine okBlks_cons ?_ ?_ | exact lws_nil | refine lws_cons ?_ ?_ | exact lb_dead | exact zy1 | exact zy2 | exact lb_none | refine zy3 ?_ | exact zy4 | exact lw_any | exact lw_int | exact lw_bool | exact zy5 | exact zy6 | exact lw_nils | exact lw_slo_nils | exact zy7 | exact zy8 | exact zy9 | refine lw_tup ?_ | refine lw_agg ?_ | assumption)⟩
  refine SSp.code_to (g := []) 3 rfl (σ := {_k : Unit // False}) (fun _ => []) (fun _ => []) (by kernel_rfl) ?_ fun ⟨_, h⟩ => h.elim
  generalize hR : aRun me stm qs cs ss 299 p = R at he
  refine SCode.loop_vc cxa_ok (n := 40) 0 (by kernel_rfl) (σ := {x : Nat × CS × MS // AOk qs cs ss x.2 ∧ x.1 ≤ 299 ∧ aRun me stm qs cs ss (299 - x.1) x.2 = R}) (fun x => alT x.1.1) (fun x => alM me stm sa sb sc' sd se wi qs cs ss x.1.2) (fun x => 300 - x.1.1) (fun _ => Nat.le_of_ble_eq_true rfl) (fun ⟨⟨i, s, m⟩, hk, hi, hr⟩ => ?_) ⟨(0, p), hp, Nat.zero_le _, hR⟩
  dsimp only at hk hi hr ⊢
  obtain ⟨k1, k2, k3⟩ := hk
  dsimp only at k1 k2 k3
  have nt := noids_l s.tk
  have n1 := noIds_Iu64 m.W
  have n2 := noids_l m.L
  have n3 := noIds_Iu64 m.S
  have o1 := okK_enc hb.1 hb.2.1 hb.2.2 k1.tk
  have o2 : okS qs.length cs.length ss.length s = true := okS_iff.2 k1
  have o3 := okIu64_enc (xs := m.W) (by have := k2.w; omega)
  have o4 := okL_enc k2.l
  have o5 := okIu64_enc (xs := m.S) (by have := k2.s; omega)
  have o6 := okO_opL (opOf me qs cs ss s)
  have eo := nOp_s me qs cs ss s
  have b1 := k2.w
  have b2 := k2.s
  obtain ⟨e1, e2, e3, e4, e5, e6⟩ := an_m m (opOf me qs cs ss s)
  obtain ⟨f1, f2, f3, f4, f5⟩ := d_m m (opOf me qs cs ss s)
  obtain ⟨l1, l2, l3⟩ := stepM_len m (opOf me qs cs ss s)
  have et := tW_s me stm qs cs ss s m
  have hlt : (i : Int) < 300 := by omega
  rw [al_b]
  simp only [mkC_s, o1, o2, cm_self, wd_nn, nt_eql, cond_true]
  by_cases q0 : s.en = 0
  case neg =>
    have hR' : R = (s, m) := by rw [← hr, aRun_end q0]
    subst hR'
    (with_reducible repeat first | refine zq1 ?_ | refine zq2 ?_ | refine zq3 ?_ | refine zq4 ?_ | refine zq5 ?_ | refine zq6 ?_ | refine zq7 ?_ | refine zq8 ?_ | refine zq9 ?_ | refine zqa ?_ | refine zqb ?_ | refine zqc ?_ | refine zqd ?_ | refine zqe ?_ | refine zqf ?_ | refine zqg ?_ | refine zqh ?_ | refine zqi ?_ | refine zqj ?_ | refine zqk ?_ | refine zql ?_ | refine zqm ?_ | refine zqn ?_ | refine zqo ?_ | refine zqp ?_)
    exact ⟨trivial, rfl, _, _, [.id 0, .id 1, .id 2, .id 3, .id 4, .id 5, .id 6, .id 7, .id 8, .id 9, .id 10, .id 11, .id 12, .id 13, .id 14], ⟨rfl, rfl⟩, by (refine ⟨by kernel_rfl, ?_, ?_⟩ <;> repeat first | exact okTms_nil | refine okTms_cons ?_ ?_ | exact okBlks_nil | refine okBlks_cons ?_ ?_ | exact lws_nil | refine lws_cons ?_ ?_ | exact lb_dead | exact zy1 | exact zy2 | exact lb_none | refine zy3 ?_ | exact zy4 | exact lw_any | exact lw_int | exact lw_bool | exact zy5 | exact zy6 | exact lw_nils | exact lw_slo_nils | exact zy7 | exact zy8 | exact zy9 | refine lw_tup ?_ | refine lw_agg ?_ | assumption)⟩
  have i1 : i < 299 := by
    rcases Nat.lt_or_ge i 299 with h | h
    · exact h
    · exfalso
      have : 299 - i = 0 := by omega
      rw [this] at hr
      rw [← hr] at he
      exact he q0
  have hr' : aRun me stm qs cs ss (299 - (i + 1)) (aStep me stm qs cs ss (s, m)) = R := by
    rw [← hr, show 299 - i = (299 - (i + 1)) + 1 by omega, aRun_go q0]
  have ei : xar .add .i64 (i : Int) 1 = ((i + 1 : Nat) : Int) := by rw [add_i64 (by omega) (by omega)]; omega
  have hok := aStep_ok (me := me) (stm := stm) hb (p := (s, m)) ⟨k1, k2, k3⟩
  simp only [nOp] at eo
  simp only [eo, e1, e2, e3, e4, e5, e6, f1, f2, f3, f4, f5, et, o3, o4, o5, o6, ei, cond_true]
  (with_reducible repeat first | refine zq1 ?_ | refine zq2 ?_ | refine zq3 ?_ | refine zq4 ?_ | refine zq5 ?_ | refine zq6 ?_ | refine zq7 ?_ | refine zq8 ?_ | refine zq9 ?_ | refine zqa ?_ | refine zqb ?_ | refine zqc ?_ | refine zqd ?_ | refine zqe ?_ | refine zqf ?_ | refine zqg ?_ | refine zqh ?_ | refine zqi ?_ | refine zqj ?_ | refine zqk ?_ | refine zql ?_ | refine zqm ?_ | refine zqn ?_ | refine zqo ?_ | refine zqp ?_)
  have en := noids_l (aStep me stm qs cs ss (s, m)).1.tk
  have en1 := noIds_Iu64 (stepM m (opOf me qs cs ss s)).1.W
  have en2 := noids_l (stepM m (opOf me qs cs ss s)).1.L
  have en3 := noIds_Iu64 (stepM m (opOf me qs cs ss s)).1.S
  have es : (aStep me stm qs cs ss (s, m)).2 = (stepM m (opOf me qs cs ss s)).1 := rfl
  refine ⟨rfl, ⟨(i + 1, aStep me stm qs cs ss (s, m)), hok, by simp only; omega, hr'⟩, by simp only; omega, [.id 0, .id 1, .id 2, .id 3, .id 4, .id 5, .id 6, .id 7, .id 8, .id 9, .id 10, .id 11, .id 12, .id 13, .id 16], ?_⟩
  simp only [alM, es, l1, l2, l3, kSu, kEn, kBu, kEr, kLv, kLh, kLo, kPh, kAt, kNow, kSt, kVe, kVb, kVr, kTn, kTc]
  (refine ⟨by kernel_rfl, ?_, ?_⟩ <;> repeat first | exact okTms_nil | refine okTms_cons ?_ ?_ | exact okBlks_nil | refine okBlks_cons ?_ ?_ | exact lws_nil | refine lws_cons ?_ ?_ | exact lb_dead | exact zy1 | exact zy2 | exact lb_none | refine zy3 ?_ | exact zy4 | exact lw_any | exact lw_int | exact lw_bool | exact zy5 | exact zy6 | exact lw_nils | exact lw_slo_nils | exact zy7 | exact zy8 | exact zy9 | refine lw_tup ?_ | refine lw_agg ?_ | assumption)
end
end Go.Lev
