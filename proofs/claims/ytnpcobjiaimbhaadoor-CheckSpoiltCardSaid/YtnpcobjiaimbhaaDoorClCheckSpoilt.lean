/- CheckSpoilt (P15.1, P15.2): for any draw of a program, any place, any instruction and any way of spoiling it the law returns true; what was there stays as it was. Condition: the listed package-level variables hold what the program's text lays. -/


import Derived.Test.YtnpcobjiaimbhaaDoorRows
import Derived.Test.YtnpcobjiaimbhaaDoorCards
import Derived.Test.YtnpcobjiaimbhaaDoorTie
import Derived.Test.YtnpcobjiaimbhaaDoorCZ6
import Derived.WalkKit
import Derived.ProofKit
import Derived.OpenShut
import Derived.ShutString
import Derived.ChangeOld
import Derived.LaidMore
import Derived.Lay
import Derived.SevenTiedAt
import Derived.Stop.Joined
import Derived.Carry
import Derived.Lib.SmallJoins
namespace Go.Proofs.YtnpcobjiaimbhaaDoor.checkSpoilt
open Go.ChangeShapes Go.WideShapes Go.ChangeAt Go.RowKit Go.Joins
open Go.ChangeMaps (open_string shut_string)
set_option linter.unusedVariables false
theorem own : ownKnob Tryd.prog.godebug = none := by kernel_rfl
theorem laidOut : laidOutB Tryd.prog = true := by kernel_rfl
set_option maxRecDepth 100000 in
theorem lifted (os : Os) (started : os.Started) (H : Type) (enc : TypeId × Value → H) :
    ReturnsInHanded {} Tryd.checked os 5 .any (fun w args => (Rows.checkSpoiltSpec.pre enc Tryd.prog Tryd.f5 Rows.checkSpoiltRow.domain false w args ∧ laidMetH Tryd.prog Rows.checkSpoiltRow.laid w) ∧ sizedMet enc Tryd.prog Tryd.f5 (OpenSpec.ofChange Rows.checkSpoiltSpec) false w args)
      (Rows.checkSpoiltSpec.post enc Tryd.prog Tryd.f5 false true false false) := by
  refine returnsInHanded_of_change_and (C := Tryd.checked) (X := fun w _ => laidMetH Tryd.prog Rows.checkSpoiltRow.laid w) (fun _ _ _ hh h => h.of_heap hh) own started (by kernel_rfl) Tryd.func5
    (ChangeSpec.witness_shaped (enc := enc) (C := Tryd.checked) (os := os) (X := fun w _ => laidMetH Tryd.prog Rows.checkSpoiltRow.laid w) false (World.laidAll Tryd.prog os Rows.checkSpoiltRow.laid) #[.slice none 0 0, .int .u8 0, .agg #[.int .i64 0, .int .i64 0, .int .i64 0, .int .i64 0, .int .u64 0], .int .u8 0] 8 (World.laidAll_os _ _ _)
      (World.shaped_of_ZipB (by kernel_rfl) (by kernel_rfl)) (by kernel_rfl) (by kernel_rfl) (by kernel_rfl)
      (by rw [MakeChecks.laidMetH_plain _ _ _ (by kernel_rfl)]; exact laidMet_laidAll _ (by kernel_rfl) (by kernel_rfl))) ?_
  intro W base args ds gs before hval0 hW hcnd _ hL _
  have hval : ∀ (j : Nat) t v, Tryd.f5.params[j]? = some t → args[j]? = some v → Value.okWide Tryd.prog W .any base t v := hval0
  have hW' := hW
  obtain ⟨p, q, hA0, hV, rfl, hfz, hnd⟩ := hW
  have hA : DataW.TrodAll enc Tryd.prog W 0 (fun _ => true) true Tryd.f5.params.toList args.toList ds p := hA0
  rw [Tryd.params5] at hA hval
  obtain ⟨v0, vs0, d0, ds0, p0, q0, hargs, rfl, rfl, h0, r0⟩ := trodAll_cons hA
  obtain ⟨v1, vs1, d1, ds1, p1, q1, rfl, rfl, rfl, h1, r1⟩ := trodAll_cons r0
  obtain ⟨v2, vs2, d2, ds2, p2, q2, rfl, rfl, rfl, h2, r2⟩ := trodAll_cons r1
  obtain ⟨v3, vs3, d3, ds3, p3, q3, rfl, rfl, rfl, h3, r3⟩ := trodAll_cons r2
  obtain ⟨rfl, rfl, rfl⟩ := trodAll_nil r3
  obtain rfl : args = #[v0, v1, v2, v3] := by cases args; simp_all
  obtain ⟨rfl, rfl⟩ := trodVars_none hV
  rw [MakeChecks.laidMetH_plain _ _ _ (by kernel_rfl)] at hL
  obtain ⟨ps, hl, _, _⟩ := hL
  have hgl := Go.Lev.Gl_of_laid (g := Go.Lev.gtab) (by kernel_rfl) hl
  have k0 := h0
  have lt0 : ∀ x ∈ p0, x.block < W.heap.size := by obtain ⟨m, hm⟩ := k0; exact DataW.trod_lt m _ _ _ hm
  obtain ⟨a0, len0, cap0, hv0⟩ := okWide_slice Tryd.underlying39 (hval 0 39 v0 rfl rfl)
  subst hv0
  have k1 := h1
  have lt1 : ∀ x ∈ p1, x.block < W.heap.size := by obtain ⟨m, hm⟩ := k1; exact DataW.trod_lt m _ _ _ hm
  obtain ⟨a1, hv1, _, _, wf1⟩ := open_int Tryd.underlying5 (hval 1 5 v1 rfl rfl) h1
  have bd1 : 0 ≤ a1 ∧ a1 ≤ 255 := by simpa [Lit.wf, IntKind.min, IntKind.max, IntKind.signed, IntKind.bits] using wf1
  subst hv1
  have k2 := h2
  have lt2 : ∀ x ∈ p2, x.block < W.heap.size := by obtain ⟨m, hm⟩ := k2; exact DataW.trod_lt m _ _ _ hm
  obtain ⟨cs2, hv2, sz2, F2⟩ := agg_open Tryd.underlying24 (by kernel_rfl) (by kernel_rfl) (hval 2 24 v2 rfl rfl) h2
  obtain ⟨x2_0, x2_1, x2_2, x2_3, x2_4, rfl⟩ := arr5 sz2
  obtain ⟨X2_0, y2_0, n2_0, E2_0, G2_0⟩ := F2 0 _ rfl
  simp at E2_0
  subst E2_0
  obtain ⟨a2_0, e2_0, _, w2_0⟩ := DataW.trod_int Tryd.underlying3 G2_0
  simp only [List.cons.injEq, and_true] at e2_0
  subst e2_0
  have bd2_0 : -9223372036854775808 ≤ a2_0 ∧ a2_0 ≤ 9223372036854775807 := by simpa [Lit.wf, IntKind.min, IntKind.max, IntKind.signed, IntKind.bits] using w2_0
  obtain ⟨X2_1, y2_1, n2_1, E2_1, G2_1⟩ := F2 1 _ rfl
  simp at E2_1
  subst E2_1
  obtain ⟨a2_1, e2_1, _, w2_1⟩ := DataW.trod_int Tryd.underlying3 G2_1
  simp only [List.cons.injEq, and_true] at e2_1
  subst e2_1
  have bd2_1 : -9223372036854775808 ≤ a2_1 ∧ a2_1 ≤ 9223372036854775807 := by simpa [Lit.wf, IntKind.min, IntKind.max, IntKind.signed, IntKind.bits] using w2_1
  obtain ⟨X2_2, y2_2, n2_2, E2_2, G2_2⟩ := F2 2 _ rfl
  simp at E2_2
  subst E2_2
  obtain ⟨a2_2, e2_2, _, w2_2⟩ := DataW.trod_int Tryd.underlying3 G2_2
  simp only [List.cons.injEq, and_true] at e2_2
  subst e2_2
  have bd2_2 : -9223372036854775808 ≤ a2_2 ∧ a2_2 ≤ 9223372036854775807 := by simpa [Lit.wf, IntKind.min, IntKind.max, IntKind.signed, IntKind.bits] using w2_2
  obtain ⟨X2_3, y2_3, n2_3, E2_3, G2_3⟩ := F2 3 _ rfl
  simp at E2_3
  subst E2_3
  obtain ⟨a2_3, e2_3, _, w2_3⟩ := DataW.trod_int Tryd.underlying3 G2_3
  simp only [List.cons.injEq, and_true] at e2_3
  subst e2_3
  have bd2_3 : -9223372036854775808 ≤ a2_3 ∧ a2_3 ≤ 9223372036854775807 := by simpa [Lit.wf, IntKind.min, IntKind.max, IntKind.signed, IntKind.bits] using w2_3
  obtain ⟨X2_4, y2_4, n2_4, E2_4, G2_4⟩ := F2 4 _ rfl
  simp at E2_4
  subst E2_4
  obtain ⟨a2_4, e2_4, _, w2_4⟩ := DataW.trod_int Tryd.underlying22 G2_4
  simp only [List.cons.injEq, and_true] at e2_4
  subst e2_4
  have bd2_4 : 0 ≤ a2_4 ∧ a2_4 ≤ 18446744073709551615 := by simpa [Lit.wf, IntKind.min, IntKind.max, IntKind.signed, IntKind.bits] using w2_4
  subst hv2
  have k3 := h3
  have lt3 : ∀ x ∈ p3, x.block < W.heap.size := by obtain ⟨m, hm⟩ := k3; exact DataW.trod_lt m _ _ _ hm
  obtain ⟨a3, hv3, _, _, wf3⟩ := open_int Tryd.underlying5 (hval 3 5 v3 rfl rfl) h3
  have bd3 : 0 ≤ a3 ∧ a3 ≤ 255 := by simpa [Lit.wf, IntKind.min, IntKind.max, IntKind.signed, IntKind.bits] using wf3
  subst hv3
  clear hA0 hval0
  refine (Go.Lev.spoilt_any hgl a1 a2_0 a2_1 a2_2 a2_3 a2_4 a3 k0).mono fun e W' ⟨he, bel⟩ => ?_
  subst he
  exact ⟨_, rfl, _, _, _, [], _, [], hW', trodAll_mk1 (shut_bool Tryd.underlying4 _), (trodAll_cons_mk (Below.trod laidOut (by kernel_rfl) (of_decide_eq_true (by kernel_rfl)) k0 bel lt0) (trodAll_cons_mk (Below.trod laidOut (by kernel_rfl) (of_decide_eq_true (by kernel_rfl)) k1 bel lt1) (trodAll_cons_mk (Below.trod laidOut (by kernel_rfl) (of_decide_eq_true (by kernel_rfl)) k2 bel lt2) (trodAll_cons_mk (Below.trod laidOut (by kernel_rfl) (of_decide_eq_true (by kernel_rfl)) k3 bel lt3) trodAll_mk0)))), rfl, bel.frame _, fun h => by cases h⟩
theorem over : Rows.checkSpoiltRow.holds Tryd.pinned (OpenSpec.ofChange Rows.checkSpoiltSpec) :=
  OpenClaim.holds_of_wide 5 Tryd.f5 rfl rfl rfl rfl rfl rfl rfl ⟨rfl, rfl, rfl, rfl, rfl⟩ rfl rfl rfl rfl rfl (by kernel_rfl) Tryd.func5 (by kernel_rfl)
    (of_decide_eq_true (by kernel_rfl)) (by unfold Func.isWrapper; first | (rw [if_pos (by decide +kernel)]; kernel_rfl) | (rw [if_neg (by decide +kernel)]; exact ⟨rfl, rfl⟩))
    (fun os started H enc _ => lifted os started H enc)
theorem checkSpoilt_holds : Rows.CheckSpoiltSaid := over
theorem checkSpoiltCard_holds : Rows.CheckSpoiltCardSaid :=
  Claim7.holds_tied_plain_at .later [] [.data] true (true, "63622d6a51d7e0dac47fd2b07d6297a98042a8e5dcee8a741ab80c3323613ffd") false over (fun _ h => by cases h) (by kernel_rfl) (fun _ h => by cases h) checkSpoilt_row_tie rfl ⟨rfl, rfl⟩ (by kernel_rfl) rfl
    (fun f fn hf hfn => by
      obtain rfl : f = 5 := Option.some.inj ((show Tryd.prog.funcNamed Tryd.f5.name = some 5 by kernel_rfl).symm.trans hf) |>.symm
      obtain rfl : fn = Tryd.f5 := (Option.some.inj (Tryd.func5.symm.trans hfn)).symm
      exact ⟨by kernel_rfl, fun j t ht => by
        rw [Tryd.params5] at ht
        match j with
        | 0 => simp at ht; subst ht; (show _ = false; kernel_rfl)
        | 1 => simp at ht; subst ht; (show _ = false; kernel_rfl)
        | 2 => simp at ht; subst ht; (show _ = false; kernel_rfl)
        | 3 => simp at ht; subst ht; (show _ = false; kernel_rfl)
        | j + 4 => simp at ht⟩)
    (by kernel_rfl)
end Go.Proofs.YtnpcobjiaimbhaaDoor.checkSpoilt
