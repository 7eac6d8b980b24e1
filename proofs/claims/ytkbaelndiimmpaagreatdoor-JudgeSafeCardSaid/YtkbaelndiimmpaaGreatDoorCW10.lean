/- chapter 30: Safe of both as contracts -/
import Derived.Test.YtkbaelndiimmpaaGreatDoorCW9
import Derived.Test.YtkbaelndiimmpaaGreatDoorLc
import Derived.Test.YtkbaelndiimmpaaGreatDoorChecked
import Derived.KernelRfl

namespace Go.Lev
open Go.RowKit
open Go.Proofs.Tryz (prog)
set_option linter.unusedVariables false
set_option linter.unusedSimpArgs false
set_option maxRecDepth 100000
noncomputable section
theorem cxG1_ok : CtrOk prog (ctrOf cxG1) := cxl_ok ⟨ligG_ok, logG_ok, sizeG_ok, osizeG_ok, trivial⟩
theorem cxB1_ok : CtrOk prog (ctrOf cxB1) := cxl_ok ⟨libG_ok, lobG_ok, sizeG_ok, osizeG_ok, trivial⟩
def hitV (i a : Int) (r : Row) : Bool := r.any fun x => xcm .gtr a x && xcm .lss a (xar .add .i64 x i)
def hitT (i a : Int) (r : Row) (j : Nat) : Prop := ∀ p (hp : p < r.length), p < j → (xcm .gtr a r[p] && xcm .lss a (xar .add .i64 r[p] i)) = false
theorem hit_f {i a : Int} {r : Row} {j : Nat} (h : hitT i a r j) (hj : r.length ≤ j) : hitV i a r = false := by
  rw [hitV, List.any_eq_false]
  intro x hx
  obtain ⟨p, hp, rfl⟩ := List.mem_iff_getElem.1 hx
  rw [h p hp (by omega)]; simp
theorem hit_t {i a : Int} {r : Row} {j : Nat} (hj : j < r.length) (h : (xcm .gtr a r[j] && xcm .lss a (xar .add .i64 r[j] i)) = true) : hitV i a r = true := by
  rw [hitV, List.any_eq_true]; exact ⟨r[j], List.getElem_mem hj, h⟩
theorem hit_s {i a : Int} {r : Row} {j : Nat} (h : hitT i a r j) (k : ∀ hj : j < r.length, (xcm .gtr a r[j] && xcm .lss a (xar .add .i64 r[j] i)) = false) : hitT i a r (j + 1) := fun p hp hpj => by
  by_cases e : p = j
  · subst e; exact k hp
  · exact h p hp (by omega)
def sfV (us : Row) (k a : Int) : Bool := if k = 1 ∨ k = 2 then (match lsAll us with | none => true | some (r1, r2, r3, r4) => !(hitV 2 a r1 || hitV 4 a r2 || hitV 8 a r3 || hitV 16 a r4)) else true
theorem sfV_no {us : Row} {k a : Int} (h : ¬ (k = 1 ∨ k = 2)) : sfV us k a = true := if_neg h
theorem sfV_b {us : Row} {k a : Int} (h : lsAll us = none) : sfV us k a = true := by rw [sfV, h]; simp
theorem sfV_g {us : Row} {k a : Int} {r1 r2 r3 r4 : Row} (hk : k = 1 ∨ k = 2) (h : lsAll us = some (r1, r2, r3, r4)) : sfV us k a = !(hitV 2 a r1 || hitV 4 a r2 || hitV 8 a r3 || hitV 16 a r4) := by rw [sfV, if_pos hk, h]
inductive J5 where | a0 | a1 | a2 | a3 | a4
def J5.v : J5 → Int | .a0 => 0 | .a1 => 1 | .a2 => 2 | .a3 => 3 | .a4 => 4
def J5.m : J5 → Nat | .a0 => 4 | .a1 => 3 | .a2 => 2 | .a3 => 1 | .a4 => 0
def J5.ok (a : Int) (r1 r2 r3 r4 : Row) : J5 → Prop
  | .a0 => True
  | .a1 => hitV 2 a r1 = false
  | .a2 => hitV 2 a r1 = false ∧ hitV 4 a r2 = false
  | .a3 => hitV 2 a r1 = false ∧ hitV 4 a r2 = false ∧ hitV 8 a r3 = false
  | .a4 => hitV 2 a r1 = false ∧ hitV 4 a r2 = false ∧ hitV 8 a r3 = false ∧ hitV 16 a r4 = false
abbrev sfI (wc : List LV) (k a w : Int) (x : OX) (r1 r2 r3 r4 : Row) : List LB := sfH wc k a w x r1.length r2.length r3.length r4.length (encL (cI .i64) r1) (encL (cI .i64) r2) (encL (cI .i64) r3) (encL (cI .i64) r4)
theorem ls_lens2 {us : Row} {r1 r2 r3 r4 : Row} (h : lsAll us = some (r1, r2, r3, r4)) : r1.length ≤ 256 ∧ r2.length ≤ 256 ∧ r3.length ≤ 256 ∧ r4.length ≤ 256 := by
  have key : ∀ {ws : List Int} {bs : List Blk} {c a : Int} {row r : List Int}, lsW ws bs c a row = some r → r.length ≤ row.length + lft bs row := fun {ws bs c a row r} => by
    intro h
    induction row using WellFounded.induction (measure (lft bs)).wf generalizing a with
    | _ row ih =>
      by_cases e : a = 0
      · subst e; rw [lsW_end] at h; cases h; omega
      · by_cases k : isBk bs c a ∧ a ∉ row
        · rw [lsW_go e k] at h
          have h2 := lft_lt k.1 k.2
          have h1 := ih _ h2 h
          have L1 : (row ++ [a]).length = row.length + 1 := by simp
          omega
        · rw [lsW_bad e k] at h; cases h
  cases hb : bkF us with
  | none => rw [lsAll_b hb] at h; cases h
  | some bs =>
    have h0 : ∀ c r, ls1 us bs c = some r → r.length ≤ 256 := fun c r hr => by
      have := key hr
      have h1 := bkF_n hb; have h2 := lft_0 bs
      simp only [List.length_nil, Nat.zero_add] at this
      omega
    rw [lsAll, hb] at h
    simp only [Option.bind_some, Option.bind_eq_some_iff] at h
    obtain ⟨s1, e1, s2, e2, s3, e3, s4, e4, e5⟩ := h
    cases e5
    exact ⟨h0 _ _ e1, h0 _ _ e2, h0 _ _ e3, h0 _ _ e4⟩
abbrev jd7 : List Src := [.id 0, .id 1, .id 2, .id 3, .id 4, .id 5, .id 6]
set_option maxHeartbeats 4000000 in
theorem sf_ok (us : Row) (hu : inU us) (hn : us.length ≤ 100000) (k a w : Int) (x : OX) : SFun prog 8 [.slo 0 0 us.length 0, .agg (opC k a w x)] (mkS [.cells (encL (cI .u64) us) (some 1)]) fun l t => l = .bool (sfV us k a) ∧ t = mkS [.cells (encL (cI .u64) us) (some 1)] := by
  refine SFun.mono (SFun.pieces (Q := fun l b => l = .bool (sfV us k a) ∧ b = [.cells (encL (cI .u64) us) (some 1)]) 55 1 sfL [4] (by kernel_rfl) rfl rfl rfl ?_) fun l s' ⟨b0, ⟨h1, h2⟩, h3⟩ => ⟨h1, by rw [h3, h2]⟩
  have nu := noIds_Iu64 us; have lu := encIu64_len us
  cases hA : lsAll us with
  | none =>
    have o2 : lbW (encL (cI .u64) us) us.length = true := lbW_iff.2 ⟨us, rfl, rfl, hn, hu, hA⟩
    have eV : sfV us k a = true := sfV_b hA
    refine SSp.to cxB1_ok (n := 40) (g := []) 7 7 rfl (σ := Empty) (fun _ => []) (fun _ => []) (mkS_le (Nat.le_of_ble_eq_true rfl)) (by kernel_rfl) ?_ fun z => nomatch z
    rw [sf_h, eV]
    simp only [o2, cond_true]
    by_cases c1 : k = 1
    · (refine zR ?_)
      exact ⟨trivial, rfl, _, _, [.id 0], ⟨rfl, rfl⟩, by (exact zC)⟩
    · by_cases c2 : k = 2
      · (refine zR ?_)
        exact ⟨trivial, rfl, _, _, [.id 0], ⟨rfl, rfl⟩, by (exact zC)⟩
      · (refine zR ?_)
        exact ⟨trivial, rfl, _, _, [.id 0], ⟨rfl, rfl⟩, by (exact zC)⟩
  | some p =>
    obtain ⟨r1, r2, r3, r4⟩ := p
    have o2 : lgW (encL (cI .u64) us) us.length = true := lgW_iff.2 ⟨us, rfl, rfl, hn, hu, by rw [hA]; rfl⟩
    have eD : lsD (encL (cI .u64) us) = (r1, r2, r3, r4) := by rw [lsD, decIu64_enc, hA]; rfl
    have n1 := noIds_Ii64 r1; have n2 := noIds_Ii64 r2; have n3 := noIds_Ii64 r3; have n4 := noIds_Ii64 r4
    obtain ⟨h1, h2, h3, h4⟩ := ls_lens2 hA
    refine SSp.to cxG1_ok (n := 40) (g := []) 7 7 rfl (σ := {_u : Unit // k = 1 ∨ k = 2}) (fun _ => sfT 0) (fun _ => sfI (encL (cI .u64) us) k a w x r1 r2 r3 r4) (mkS_le (Nat.le_of_ble_eq_true rfl)) (by kernel_rfl) ?_ fun ⟨_, hk⟩ => ?_
    · rw [sf_g]
      simp only [sf_g_b1, o2, ln1, ln2, ln3, ln4, lc1, lc2, lc3, lc4, eD, cond_true]
      by_cases c1 : k = 1
      · (refine zR ?_)
        exact ⟨rfl, ⟨(), .inl c1⟩, [.id 0, .id 1, .id 2, .id 3, .id 4, .id 5, .id 6], by (exact zC)⟩
      · by_cases c2 : k = 2
        · (refine zR ?_)
          exact ⟨rfl, ⟨(), .inr c2⟩, [.id 0, .id 1, .id 2, .id 3, .id 4, .id 5, .id 6], by (exact zC)⟩
        · have eV : sfV us k a = true := sfV_no (by omega)
          rw [eV]
          (refine zR ?_)
          exact ⟨trivial, rfl, _, _, [.id 0], ⟨rfl, rfl⟩, by (exact zC)⟩
    try dsimp only
    have eV := sfV_g (a := a) hk hA
    refine SSp.code_to (g := []) 8 rfl (σ := {_u : Unit // J5.ok a r1 r2 r3 r4 .a4}) (fun _ => sfT 4) (fun _ => sfI (encL (cI .u64) us) k a w x r1 r2 r3 r4) (by kernel_rfl) ?_ fun ⟨_, hz⟩ => ?_
    · refine SCode.loop_sp 0 (by kernel_rfl) (σ := {p : J5 // J5.ok a r1 r2 r3 r4 p}) (fun p => sfT p.1.v) (fun _ => sfI (encL (cI .u64) us) k a w x r1 r2 r3 r4) (fun p => p.1.m) (fun _ => Nat.le_of_ble_eq_true rfl) (fun ⟨p, hp⟩ => ?_) ⟨.a0, trivial⟩
      cases p <;> dsimp only [J5.v]
      · refine SSp.to cxG1_ok (n := 40) (g := []) 2 2 rfl (σ := Unit) (fun _ => sfT 0) (fun _ => sfI (encL (cI .u64) us) k a w x r1 r2 r3 r4) (mkS_le (Nat.le_of_ble_eq_true rfl)) (by kernel_rfl) ?_ fun _ => ?_
        · rw [sf_o0]
          (refine zR ?_)
          exact ⟨rfl, (), jd7, by (exact zC)⟩
        try dsimp only
        refine SSp.code_to (g := []) 3 rfl (σ := {_u : Unit // hitV 2 a r1 = false}) (fun _ => sfT 0) (fun _ => sfI (encL (cI .u64) us) k a w x r1 r2 r3 r4) (by kernel_rfl) ?_ fun ⟨_, hh⟩ => ?_
        · refine SCode.block_sp 1 (by kernel_rfl) ?_
          refine SSp.to cxG1_ok (n := 40) (g := []) 2 2 rfl (σ := Unit) (fun _ => sfU 0 3 r1.length 0) (fun _ => sfI (encL (cI .u64) us) k a w x r1 r2 r3 r4) (mkS_le (Nat.le_of_ble_eq_true rfl)) (by kernel_rfl) ?_ fun _ => ?_
          · rw [sf_p0]
            (refine zR ?_)
            exact ⟨rfl, (), jd7, by (exact zC)⟩
          try dsimp only
          refine SSp.code_last (by kernel_rfl) ?_
          refine SCode.loop_vc cxG1_ok (n := 40) (n0 := 1) 2 (by kernel_rfl) (σ := {j : Nat // j ≤ r1.length ∧ hitT 2 a r1 j}) (fun j => sfU 0 3 r1.length j.1) (fun _ => sfI (encL (cI .u64) us) k a w x r1 r2 r3 r4) (fun j => r1.length - j.1) (fun _ => Nat.le_of_ble_eq_true rfl) (fun ⟨j, hj, ht⟩ => ?_) ⟨0, Nat.zero_le _, fun p hp hpj => absurd hpj (by omega)⟩
          dsimp only
          rw [sf_l0, wd_lss]
          refine ite_way (fun h0 => ?_) (fun h0 => ⟨rfl, ⟨(), hit_f ht (by omega)⟩, jd7, by (exact zC)⟩)
          have e3 : xar .add .i64 (j : Int) 1 = ((j + 1 : Nat) : Int) := inc_i64 h0 (by omega)
          (refine zN3 (encIi64_nth h0) @encIi64_len @e3 ?_)
          cases g1 : xcm .gtr a r1[j] with
          | true =>
            cases g2 : xcm .lss a (xar .add .i64 r1[j] 2) with
            | true =>
              have eF : sfV us k a = false := by rw [eV, hit_t h0 (by rw [g1, g2]; rfl)]; simp
              rw [eF]
              simp only [g1, g2, cond_true]
              (refine zR ?_)
              exact ⟨trivial, rfl, _, _, [.id 0], ⟨rfl, rfl⟩, by (exact zC)⟩
            | false =>
              simp only [g1, g2, cond_true, cond_false]
              (refine zR ?_)
              exact ⟨rfl, ⟨j + 1, h0, hit_s ht fun _ => by rw [g1, g2]; rfl⟩, by simp only; omega, jd7, by (exact zC)⟩
          | false =>
            simp only [g1, cond_false]
            (refine zR ?_)
            exact ⟨rfl, ⟨j + 1, h0, hit_s ht fun _ => by rw [g1]; rfl⟩, by simp only; omega, jd7, by (exact zC)⟩
        try dsimp only
        refine SSp.last cxG1_ok (n := 40) (mkS_le (Nat.le_of_ble_eq_true rfl)) ?_
        rw [sf_q0]
        exact ⟨rfl, ⟨.a1, hh⟩, by simp only [J5.m]; omega, jd7, by dsimp only [J5.v]; (exact zC)⟩
      · refine SSp.to cxG1_ok (n := 40) (g := []) 2 2 rfl (σ := Unit) (fun _ => sfT 1) (fun _ => sfI (encL (cI .u64) us) k a w x r1 r2 r3 r4) (mkS_le (Nat.le_of_ble_eq_true rfl)) (by kernel_rfl) ?_ fun _ => ?_
        · rw [sf_o1]
          (refine zR ?_)
          exact ⟨rfl, (), jd7, by (exact zC)⟩
        try dsimp only
        refine SSp.code_to (g := []) 3 rfl (σ := {_u : Unit // hitV 4 a r2 = false}) (fun _ => sfT 1) (fun _ => sfI (encL (cI .u64) us) k a w x r1 r2 r3 r4) (by kernel_rfl) ?_ fun ⟨_, hh⟩ => ?_
        · refine SCode.block_sp 1 (by kernel_rfl) ?_
          refine SSp.to cxG1_ok (n := 40) (g := []) 2 2 rfl (σ := Unit) (fun _ => sfU 1 4 r2.length 0) (fun _ => sfI (encL (cI .u64) us) k a w x r1 r2 r3 r4) (mkS_le (Nat.le_of_ble_eq_true rfl)) (by kernel_rfl) ?_ fun _ => ?_
          · rw [sf_p1]
            (refine zR ?_)
            exact ⟨rfl, (), jd7, by (exact zC)⟩
          try dsimp only
          refine SSp.code_last (by kernel_rfl) ?_
          refine SCode.loop_vc cxG1_ok (n := 40) (n0 := 1) 2 (by kernel_rfl) (σ := {j : Nat // j ≤ r2.length ∧ hitT 4 a r2 j}) (fun j => sfU 1 4 r2.length j.1) (fun _ => sfI (encL (cI .u64) us) k a w x r1 r2 r3 r4) (fun j => r2.length - j.1) (fun _ => Nat.le_of_ble_eq_true rfl) (fun ⟨j, hj, ht⟩ => ?_) ⟨0, Nat.zero_le _, fun p hp hpj => absurd hpj (by omega)⟩
          dsimp only
          rw [sf_l1, wd_lss]
          refine ite_way (fun h0 => ?_) (fun h0 => ⟨rfl, ⟨(), hit_f ht (by omega)⟩, jd7, by (exact zC)⟩)
          have e3 : xar .add .i64 (j : Int) 1 = ((j + 1 : Nat) : Int) := inc_i64 h0 (by omega)
          (refine zN3 (encIi64_nth h0) @encIi64_len @e3 ?_)
          cases g1 : xcm .gtr a r2[j] with
          | true =>
            cases g2 : xcm .lss a (xar .add .i64 r2[j] 4) with
            | true =>
              have eF : sfV us k a = false := by rw [eV, hit_t h0 (by rw [g1, g2]; rfl)]; simp
              rw [eF]
              simp only [g1, g2, cond_true]
              (refine zR ?_)
              exact ⟨trivial, rfl, _, _, [.id 0], ⟨rfl, rfl⟩, by (exact zC)⟩
            | false =>
              simp only [g1, g2, cond_true, cond_false]
              (refine zR ?_)
              exact ⟨rfl, ⟨j + 1, h0, hit_s ht fun _ => by rw [g1, g2]; rfl⟩, by simp only; omega, jd7, by (exact zC)⟩
          | false =>
            simp only [g1, cond_false]
            (refine zR ?_)
            exact ⟨rfl, ⟨j + 1, h0, hit_s ht fun _ => by rw [g1]; rfl⟩, by simp only; omega, jd7, by (exact zC)⟩
        try dsimp only
        refine SSp.last cxG1_ok (n := 40) (mkS_le (Nat.le_of_ble_eq_true rfl)) ?_
        rw [sf_q1]
        exact ⟨rfl, ⟨.a2, ⟨hp, hh⟩⟩, by simp only [J5.m]; omega, jd7, by dsimp only [J5.v]; (exact zC)⟩
      · refine SSp.to cxG1_ok (n := 40) (g := []) 2 2 rfl (σ := Unit) (fun _ => sfT 2) (fun _ => sfI (encL (cI .u64) us) k a w x r1 r2 r3 r4) (mkS_le (Nat.le_of_ble_eq_true rfl)) (by kernel_rfl) ?_ fun _ => ?_
        · rw [sf_o2]
          (refine zR ?_)
          exact ⟨rfl, (), jd7, by (exact zC)⟩
        try dsimp only
        refine SSp.code_to (g := []) 3 rfl (σ := {_u : Unit // hitV 8 a r3 = false}) (fun _ => sfT 2) (fun _ => sfI (encL (cI .u64) us) k a w x r1 r2 r3 r4) (by kernel_rfl) ?_ fun ⟨_, hh⟩ => ?_
        · refine SCode.block_sp 1 (by kernel_rfl) ?_
          refine SSp.to cxG1_ok (n := 40) (g := []) 2 2 rfl (σ := Unit) (fun _ => sfU 2 5 r3.length 0) (fun _ => sfI (encL (cI .u64) us) k a w x r1 r2 r3 r4) (mkS_le (Nat.le_of_ble_eq_true rfl)) (by kernel_rfl) ?_ fun _ => ?_
          · rw [sf_p2]
            (refine zR ?_)
            exact ⟨rfl, (), jd7, by (exact zC)⟩
          try dsimp only
          refine SSp.code_last (by kernel_rfl) ?_
          refine SCode.loop_vc cxG1_ok (n := 40) (n0 := 1) 2 (by kernel_rfl) (σ := {j : Nat // j ≤ r3.length ∧ hitT 8 a r3 j}) (fun j => sfU 2 5 r3.length j.1) (fun _ => sfI (encL (cI .u64) us) k a w x r1 r2 r3 r4) (fun j => r3.length - j.1) (fun _ => Nat.le_of_ble_eq_true rfl) (fun ⟨j, hj, ht⟩ => ?_) ⟨0, Nat.zero_le _, fun p hp hpj => absurd hpj (by omega)⟩
          dsimp only
          rw [sf_l2, wd_lss]
          refine ite_way (fun h0 => ?_) (fun h0 => ⟨rfl, ⟨(), hit_f ht (by omega)⟩, jd7, by (exact zC)⟩)
          have e3 : xar .add .i64 (j : Int) 1 = ((j + 1 : Nat) : Int) := inc_i64 h0 (by omega)
          (refine zN3 (encIi64_nth h0) @encIi64_len @e3 ?_)
          cases g1 : xcm .gtr a r3[j] with
          | true =>
            cases g2 : xcm .lss a (xar .add .i64 r3[j] 8) with
            | true =>
              have eF : sfV us k a = false := by rw [eV, hit_t h0 (by rw [g1, g2]; rfl)]; simp
              rw [eF]
              simp only [g1, g2, cond_true]
              (refine zR ?_)
              exact ⟨trivial, rfl, _, _, [.id 0], ⟨rfl, rfl⟩, by (exact zC)⟩
            | false =>
              simp only [g1, g2, cond_true, cond_false]
              (refine zR ?_)
              exact ⟨rfl, ⟨j + 1, h0, hit_s ht fun _ => by rw [g1, g2]; rfl⟩, by simp only; omega, jd7, by (exact zC)⟩
          | false =>
            simp only [g1, cond_false]
            (refine zR ?_)
            exact ⟨rfl, ⟨j + 1, h0, hit_s ht fun _ => by rw [g1]; rfl⟩, by simp only; omega, jd7, by (exact zC)⟩
        try dsimp only
        refine SSp.last cxG1_ok (n := 40) (mkS_le (Nat.le_of_ble_eq_true rfl)) ?_
        rw [sf_q2]
        exact ⟨rfl, ⟨.a3, ⟨hp.1, hp.2, hh⟩⟩, by simp only [J5.m]; omega, jd7, by dsimp only [J5.v]; (exact zC)⟩
      · refine SSp.to cxG1_ok (n := 40) (g := []) 2 2 rfl (σ := Unit) (fun _ => sfT 3) (fun _ => sfI (encL (cI .u64) us) k a w x r1 r2 r3 r4) (mkS_le (Nat.le_of_ble_eq_true rfl)) (by kernel_rfl) ?_ fun _ => ?_
        · rw [sf_o3]
          (refine zR ?_)
          exact ⟨rfl, (), jd7, by (exact zC)⟩
        try dsimp only
        refine SSp.code_to (g := []) 3 rfl (σ := {_u : Unit // hitV 16 a r4 = false}) (fun _ => sfT 3) (fun _ => sfI (encL (cI .u64) us) k a w x r1 r2 r3 r4) (by kernel_rfl) ?_ fun ⟨_, hh⟩ => ?_
        · refine SCode.block_sp 1 (by kernel_rfl) ?_
          refine SSp.to cxG1_ok (n := 40) (g := []) 2 2 rfl (σ := Unit) (fun _ => sfU 3 6 r4.length 0) (fun _ => sfI (encL (cI .u64) us) k a w x r1 r2 r3 r4) (mkS_le (Nat.le_of_ble_eq_true rfl)) (by kernel_rfl) ?_ fun _ => ?_
          · rw [sf_p3]
            (refine zR ?_)
            exact ⟨rfl, (), jd7, by (exact zC)⟩
          try dsimp only
          refine SSp.code_last (by kernel_rfl) ?_
          refine SCode.loop_vc cxG1_ok (n := 40) (n0 := 1) 2 (by kernel_rfl) (σ := {j : Nat // j ≤ r4.length ∧ hitT 16 a r4 j}) (fun j => sfU 3 6 r4.length j.1) (fun _ => sfI (encL (cI .u64) us) k a w x r1 r2 r3 r4) (fun j => r4.length - j.1) (fun _ => Nat.le_of_ble_eq_true rfl) (fun ⟨j, hj, ht⟩ => ?_) ⟨0, Nat.zero_le _, fun p hp hpj => absurd hpj (by omega)⟩
          dsimp only
          rw [sf_l3, wd_lss]
          refine ite_way (fun h0 => ?_) (fun h0 => ⟨rfl, ⟨(), hit_f ht (by omega)⟩, jd7, by (exact zC)⟩)
          have e3 : xar .add .i64 (j : Int) 1 = ((j + 1 : Nat) : Int) := inc_i64 h0 (by omega)
          (refine zN3 (encIi64_nth h0) @encIi64_len @e3 ?_)
          cases g1 : xcm .gtr a r4[j] with
          | true =>
            cases g2 : xcm .lss a (xar .add .i64 r4[j] 16) with
            | true =>
              have eF : sfV us k a = false := by rw [eV, hit_t h0 (by rw [g1, g2]; rfl)]; simp
              rw [eF]
              simp only [g1, g2, cond_true]
              (refine zR ?_)
              exact ⟨trivial, rfl, _, _, [.id 0], ⟨rfl, rfl⟩, by (exact zC)⟩
            | false =>
              simp only [g1, g2, cond_true, cond_false]
              (refine zR ?_)
              exact ⟨rfl, ⟨j + 1, h0, hit_s ht fun _ => by rw [g1, g2]; rfl⟩, by simp only; omega, jd7, by (exact zC)⟩
          | false =>
            simp only [g1, cond_false]
            (refine zR ?_)
            exact ⟨rfl, ⟨j + 1, h0, hit_s ht fun _ => by rw [g1]; rfl⟩, by simp only; omega, jd7, by (exact zC)⟩
        try dsimp only
        refine SSp.last cxG1_ok (n := 40) (mkS_le (Nat.le_of_ble_eq_true rfl)) ?_
        rw [sf_q3]
        exact ⟨rfl, ⟨.a4, ⟨hp.1, hp.2.1, hp.2.2, hh⟩⟩, by simp only [J5.m]; omega, jd7, by dsimp only [J5.v]; (exact zC)⟩
      · refine SSp.to cxG1_ok (n := 40) (g := []) 2 2 rfl (σ := Empty) (fun _ => []) (fun _ => []) (mkS_le (Nat.le_of_ble_eq_true rfl)) (by kernel_rfl) ?_ fun z => nomatch z
        rw [sf_o4]
        (refine zR ?_)
        exact ⟨rfl, ⟨(), hp⟩, jd7, by (exact zC)⟩
    try dsimp only
    obtain ⟨z1, z2, z3, z4⟩ := hz
    refine SSp.last cxG1_ok (n := 40) (mkS_le (Nat.le_of_ble_eq_true rfl)) ?_
    rw [sf_z, eV, z1, z2, z3, z4]
    exact ⟨trivial, rfl, _, _, [.id 0], ⟨rfl, rfl⟩, by (exact zC)⟩
set_option maxHeartbeats 4000000 in
theorem of_ok (us : Row) (hu : inU us) (hn : us.length ≤ 100000) (k a w : Int) (x : OX) : SFun prog 9 [.slo 0 0 us.length 0, .agg (opC k a w x)] (mkS [.cells (encL (cI .u64) us) (some 1)]) fun l t => l = .bool (sfV us k a) ∧ t = mkS [.cells (encL (cI .u64) us) (some 1)] := by
  refine SFun.mono (SFun.pieces (Q := fun l b => l = .bool (sfV us k a) ∧ b = [.cells (encL (cI .u64) us) (some 1)]) 63 1 ofL [4] (by kernel_rfl) rfl rfl rfl ?_) fun l s' ⟨b0, ⟨h1, h2⟩, h3⟩ => ⟨h1, by rw [h3, h2]⟩
  have nu := noIds_Iu64 us; have lu := encIu64_len us
  cases hA : lsAll us with
  | none =>
    have o2 : lbW (encL (cI .u64) us) us.length = true := lbW_iff.2 ⟨us, rfl, rfl, hn, hu, hA⟩
    have eV : sfV us k a = true := sfV_b hA
    refine SSp.to cxB1_ok (n := 40) (g := []) 5 5 rfl (σ := Empty) (fun _ => []) (fun _ => []) (mkS_le (Nat.le_of_ble_eq_true rfl)) (by kernel_rfl) ?_ fun z => nomatch z
    rw [of_h, eV]
    simp only [o2, cond_true]
    by_cases c1 : k = 1
    · (refine zR ?_)
      exact ⟨trivial, rfl, _, _, [.id 0], ⟨rfl, rfl⟩, by (exact zC)⟩
    · by_cases c2 : k = 2
      · (refine zR ?_)
        exact ⟨trivial, rfl, _, _, [.id 0], ⟨rfl, rfl⟩, by (exact zC)⟩
      · (refine zR ?_)
        exact ⟨trivial, rfl, _, _, [.id 0], ⟨rfl, rfl⟩, by (exact zC)⟩
  | some p =>
    obtain ⟨r1, r2, r3, r4⟩ := p
    have o2 : lgW (encL (cI .u64) us) us.length = true := lgW_iff.2 ⟨us, rfl, rfl, hn, hu, by rw [hA]; rfl⟩
    have eD : lsD (encL (cI .u64) us) = (r1, r2, r3, r4) := by rw [lsD, decIu64_enc, hA]; rfl
    have n1 := noIds_Ii64 r1; have n2 := noIds_Ii64 r2; have n3 := noIds_Ii64 r3; have n4 := noIds_Ii64 r4
    obtain ⟨h1, h2, h3, h4⟩ := ls_lens2 hA
    refine SSp.to cxG1_ok (n := 40) (g := []) 5 5 rfl (σ := {_u : Unit // k = 1 ∨ k = 2}) (fun _ => ofT 0) (fun _ => sfI (encL (cI .u64) us) k a w x r1 r2 r3 r4) (mkS_le (Nat.le_of_ble_eq_true rfl)) (by kernel_rfl) ?_ fun ⟨_, hk⟩ => ?_
    · rw [of_g]
      simp only [of_g_b1, o2, ln1, ln2, ln3, ln4, lc1, lc2, lc3, lc4, eD, cond_true]
      by_cases c1 : k = 1
      · (refine zR ?_)
        exact ⟨rfl, ⟨(), .inl c1⟩, [.id 0, .id 1, .id 2, .id 3, .id 4, .id 5, .id 6], by (exact zC)⟩
      · by_cases c2 : k = 2
        · (refine zR ?_)
          exact ⟨rfl, ⟨(), .inr c2⟩, [.id 0, .id 1, .id 2, .id 3, .id 4, .id 5, .id 6], by (exact zC)⟩
        · have eV : sfV us k a = true := sfV_no (by omega)
          rw [eV]
          (refine zR ?_)
          exact ⟨trivial, rfl, _, _, [.id 0], ⟨rfl, rfl⟩, by (exact zC)⟩
    try dsimp only
    have eV := sfV_g (a := a) hk hA
    refine SSp.code_to (g := []) 6 rfl (σ := {_u : Unit // J5.ok a r1 r2 r3 r4 .a4}) (fun _ => ofT 4) (fun _ => sfI (encL (cI .u64) us) k a w x r1 r2 r3 r4) (by kernel_rfl) ?_ fun ⟨_, hz⟩ => ?_
    · refine SCode.loop_sp 0 (by kernel_rfl) (σ := {p : J5 // J5.ok a r1 r2 r3 r4 p}) (fun p => ofT p.1.v) (fun _ => sfI (encL (cI .u64) us) k a w x r1 r2 r3 r4) (fun p => p.1.m) (fun _ => Nat.le_of_ble_eq_true rfl) (fun ⟨p, hp⟩ => ?_) ⟨.a0, trivial⟩
      cases p <;> dsimp only [J5.v]
      · refine SSp.to cxG1_ok (n := 40) (g := []) 2 2 rfl (σ := Unit) (fun _ => ofT 0) (fun _ => sfI (encL (cI .u64) us) k a w x r1 r2 r3 r4) (mkS_le (Nat.le_of_ble_eq_true rfl)) (by kernel_rfl) ?_ fun _ => ?_
        · rw [of_o0]
          (refine zR ?_)
          exact ⟨rfl, (), jd7, by (exact zC)⟩
        try dsimp only
        refine SSp.code_to (g := []) 3 rfl (σ := {_u : Unit // hitV 2 a r1 = false}) (fun _ => ofT 0) (fun _ => sfI (encL (cI .u64) us) k a w x r1 r2 r3 r4) (by kernel_rfl) ?_ fun ⟨_, hh⟩ => ?_
        · refine SCode.block_sp 1 (by kernel_rfl) ?_
          refine SSp.to cxG1_ok (n := 40) (g := []) 1 1 rfl (σ := Unit) (fun _ => ofU 0 0) (fun _ => sfI (encL (cI .u64) us) k a w x r1 r2 r3 r4) (mkS_le (Nat.le_of_ble_eq_true rfl)) (by kernel_rfl) ?_ fun _ => ?_
          · rw [of_p0]
            (refine zR ?_)
            exact ⟨rfl, (), jd7, by (exact zC)⟩
          try dsimp only
          refine SSp.code_last (by kernel_rfl) ?_
          refine SCode.loop_vc cxG1_ok (n := 40) (n0 := 1) 2 (by kernel_rfl) (σ := {j : Nat // j ≤ r1.length ∧ hitT 2 a r1 j}) (fun j => ofU 0 j.1) (fun _ => sfI (encL (cI .u64) us) k a w x r1 r2 r3 r4) (fun j => r1.length - j.1) (fun _ => Nat.le_of_ble_eq_true rfl) (fun ⟨j, hj, ht⟩ => ?_) ⟨0, Nat.zero_le _, fun p hp hpj => absurd hpj (by omega)⟩
          dsimp only
          rw [of_l0, wd_lss]
          refine ite_way (fun h0 => ?_) (fun h0 => ⟨rfl, ⟨(), hit_f ht (by omega)⟩, jd7, by (exact zC)⟩)
          have e3 : xar .add .i64 (j : Int) 1 = ((j + 1 : Nat) : Int) := inc_i64 h0 (by omega)
          (refine zN3 (encIi64_nth h0) @encIi64_len @e3 ?_)
          cases g1 : xcm .gtr a r1[j] with
          | true =>
            cases g2 : xcm .lss a (xar .add .i64 r1[j] 2) with
            | true =>
              have eF : sfV us k a = false := by rw [eV, hit_t h0 (by rw [g1, g2]; rfl)]; simp
              rw [eF]
              simp only [g1, g2, cond_true]
              (refine zR ?_)
              exact ⟨trivial, rfl, _, _, [.id 0], ⟨rfl, rfl⟩, by (exact zC)⟩
            | false =>
              simp only [g1, g2, cond_true, cond_false]
              (refine zR ?_)
              exact ⟨rfl, ⟨j + 1, h0, hit_s ht fun _ => by rw [g1, g2]; rfl⟩, by simp only; omega, jd7, by (exact zC)⟩
          | false =>
            simp only [g1, cond_false]
            (refine zR ?_)
            exact ⟨rfl, ⟨j + 1, h0, hit_s ht fun _ => by rw [g1]; rfl⟩, by simp only; omega, jd7, by (exact zC)⟩
        try dsimp only
        refine SSp.last cxG1_ok (n := 40) (mkS_le (Nat.le_of_ble_eq_true rfl)) ?_
        rw [of_q0]
        exact ⟨rfl, ⟨.a1, hh⟩, by simp only [J5.m]; omega, jd7, by dsimp only [J5.v]; (exact zC)⟩
      · refine SSp.to cxG1_ok (n := 40) (g := []) 2 2 rfl (σ := Unit) (fun _ => ofT 1) (fun _ => sfI (encL (cI .u64) us) k a w x r1 r2 r3 r4) (mkS_le (Nat.le_of_ble_eq_true rfl)) (by kernel_rfl) ?_ fun _ => ?_
        · rw [of_o1]
          (refine zR ?_)
          exact ⟨rfl, (), jd7, by (exact zC)⟩
        try dsimp only
        refine SSp.code_to (g := []) 3 rfl (σ := {_u : Unit // hitV 4 a r2 = false}) (fun _ => ofT 1) (fun _ => sfI (encL (cI .u64) us) k a w x r1 r2 r3 r4) (by kernel_rfl) ?_ fun ⟨_, hh⟩ => ?_
        · refine SCode.block_sp 1 (by kernel_rfl) ?_
          refine SSp.to cxG1_ok (n := 40) (g := []) 1 1 rfl (σ := Unit) (fun _ => ofU 1 0) (fun _ => sfI (encL (cI .u64) us) k a w x r1 r2 r3 r4) (mkS_le (Nat.le_of_ble_eq_true rfl)) (by kernel_rfl) ?_ fun _ => ?_
          · rw [of_p1]
            (refine zR ?_)
            exact ⟨rfl, (), jd7, by (exact zC)⟩
          try dsimp only
          refine SSp.code_last (by kernel_rfl) ?_
          refine SCode.loop_vc cxG1_ok (n := 40) (n0 := 1) 2 (by kernel_rfl) (σ := {j : Nat // j ≤ r2.length ∧ hitT 4 a r2 j}) (fun j => ofU 1 j.1) (fun _ => sfI (encL (cI .u64) us) k a w x r1 r2 r3 r4) (fun j => r2.length - j.1) (fun _ => Nat.le_of_ble_eq_true rfl) (fun ⟨j, hj, ht⟩ => ?_) ⟨0, Nat.zero_le _, fun p hp hpj => absurd hpj (by omega)⟩
          dsimp only
          rw [of_l1, wd_lss]
          refine ite_way (fun h0 => ?_) (fun h0 => ⟨rfl, ⟨(), hit_f ht (by omega)⟩, jd7, by (exact zC)⟩)
          have e3 : xar .add .i64 (j : Int) 1 = ((j + 1 : Nat) : Int) := inc_i64 h0 (by omega)
          (refine zN3 (encIi64_nth h0) @encIi64_len @e3 ?_)
          cases g1 : xcm .gtr a r2[j] with
          | true =>
            cases g2 : xcm .lss a (xar .add .i64 r2[j] 4) with
            | true =>
              have eF : sfV us k a = false := by rw [eV, hit_t h0 (by rw [g1, g2]; rfl)]; simp
              rw [eF]
              simp only [g1, g2, cond_true]
              (refine zR ?_)
              exact ⟨trivial, rfl, _, _, [.id 0], ⟨rfl, rfl⟩, by (exact zC)⟩
            | false =>
              simp only [g1, g2, cond_true, cond_false]
              (refine zR ?_)
              exact ⟨rfl, ⟨j + 1, h0, hit_s ht fun _ => by rw [g1, g2]; rfl⟩, by simp only; omega, jd7, by (exact zC)⟩
          | false =>
            simp only [g1, cond_false]
            (refine zR ?_)
            exact ⟨rfl, ⟨j + 1, h0, hit_s ht fun _ => by rw [g1]; rfl⟩, by simp only; omega, jd7, by (exact zC)⟩
        try dsimp only
        refine SSp.last cxG1_ok (n := 40) (mkS_le (Nat.le_of_ble_eq_true rfl)) ?_
        rw [of_q1]
        exact ⟨rfl, ⟨.a2, ⟨hp, hh⟩⟩, by simp only [J5.m]; omega, jd7, by dsimp only [J5.v]; (exact zC)⟩
      · refine SSp.to cxG1_ok (n := 40) (g := []) 2 2 rfl (σ := Unit) (fun _ => ofT 2) (fun _ => sfI (encL (cI .u64) us) k a w x r1 r2 r3 r4) (mkS_le (Nat.le_of_ble_eq_true rfl)) (by kernel_rfl) ?_ fun _ => ?_
        · rw [of_o2]
          (refine zR ?_)
          exact ⟨rfl, (), jd7, by (exact zC)⟩
        try dsimp only
        refine SSp.code_to (g := []) 3 rfl (σ := {_u : Unit // hitV 8 a r3 = false}) (fun _ => ofT 2) (fun _ => sfI (encL (cI .u64) us) k a w x r1 r2 r3 r4) (by kernel_rfl) ?_ fun ⟨_, hh⟩ => ?_
        · refine SCode.block_sp 1 (by kernel_rfl) ?_
          refine SSp.to cxG1_ok (n := 40) (g := []) 1 1 rfl (σ := Unit) (fun _ => ofU 2 0) (fun _ => sfI (encL (cI .u64) us) k a w x r1 r2 r3 r4) (mkS_le (Nat.le_of_ble_eq_true rfl)) (by kernel_rfl) ?_ fun _ => ?_
          · rw [of_p2]
            (refine zR ?_)
            exact ⟨rfl, (), jd7, by (exact zC)⟩
          try dsimp only
          refine SSp.code_last (by kernel_rfl) ?_
          refine SCode.loop_vc cxG1_ok (n := 40) (n0 := 1) 2 (by kernel_rfl) (σ := {j : Nat // j ≤ r3.length ∧ hitT 8 a r3 j}) (fun j => ofU 2 j.1) (fun _ => sfI (encL (cI .u64) us) k a w x r1 r2 r3 r4) (fun j => r3.length - j.1) (fun _ => Nat.le_of_ble_eq_true rfl) (fun ⟨j, hj, ht⟩ => ?_) ⟨0, Nat.zero_le _, fun p hp hpj => absurd hpj (by omega)⟩
          dsimp only
          rw [of_l2, wd_lss]
          refine ite_way (fun h0 => ?_) (fun h0 => ⟨rfl, ⟨(), hit_f ht (by omega)⟩, jd7, by (exact zC)⟩)
          have e3 : xar .add .i64 (j : Int) 1 = ((j + 1 : Nat) : Int) := inc_i64 h0 (by omega)
          (refine zN3 (encIi64_nth h0) @encIi64_len @e3 ?_)
          cases g1 : xcm .gtr a r3[j] with
          | true =>
            cases g2 : xcm .lss a (xar .add .i64 r3[j] 8) with
            | true =>
              have eF : sfV us k a = false := by rw [eV, hit_t h0 (by rw [g1, g2]; rfl)]; simp
              rw [eF]
              simp only [g1, g2, cond_true]
              (refine zR ?_)
              exact ⟨trivial, rfl, _, _, [.id 0], ⟨rfl, rfl⟩, by (exact zC)⟩
            | false =>
              simp only [g1, g2, cond_true, cond_false]
              (refine zR ?_)
              exact ⟨rfl, ⟨j + 1, h0, hit_s ht fun _ => by rw [g1, g2]; rfl⟩, by simp only; omega, jd7, by (exact zC)⟩
          | false =>
            simp only [g1, cond_false]
            (refine zR ?_)
            exact ⟨rfl, ⟨j + 1, h0, hit_s ht fun _ => by rw [g1]; rfl⟩, by simp only; omega, jd7, by (exact zC)⟩
        try dsimp only
        refine SSp.last cxG1_ok (n := 40) (mkS_le (Nat.le_of_ble_eq_true rfl)) ?_
        rw [of_q2]
        exact ⟨rfl, ⟨.a3, ⟨hp.1, hp.2, hh⟩⟩, by simp only [J5.m]; omega, jd7, by dsimp only [J5.v]; (exact zC)⟩
      · refine SSp.to cxG1_ok (n := 40) (g := []) 2 2 rfl (σ := Unit) (fun _ => ofT 3) (fun _ => sfI (encL (cI .u64) us) k a w x r1 r2 r3 r4) (mkS_le (Nat.le_of_ble_eq_true rfl)) (by kernel_rfl) ?_ fun _ => ?_
        · rw [of_o3]
          (refine zR ?_)
          exact ⟨rfl, (), jd7, by (exact zC)⟩
        try dsimp only
        refine SSp.code_to (g := []) 3 rfl (σ := {_u : Unit // hitV 16 a r4 = false}) (fun _ => ofT 3) (fun _ => sfI (encL (cI .u64) us) k a w x r1 r2 r3 r4) (by kernel_rfl) ?_ fun ⟨_, hh⟩ => ?_
        · refine SCode.block_sp 1 (by kernel_rfl) ?_
          refine SSp.to cxG1_ok (n := 40) (g := []) 1 1 rfl (σ := Unit) (fun _ => ofU 3 0) (fun _ => sfI (encL (cI .u64) us) k a w x r1 r2 r3 r4) (mkS_le (Nat.le_of_ble_eq_true rfl)) (by kernel_rfl) ?_ fun _ => ?_
          · rw [of_p3]
            (refine zR ?_)
            exact ⟨rfl, (), jd7, by (exact zC)⟩
          try dsimp only
          refine SSp.code_last (by kernel_rfl) ?_
          refine SCode.loop_vc cxG1_ok (n := 40) (n0 := 1) 2 (by kernel_rfl) (σ := {j : Nat // j ≤ r4.length ∧ hitT 16 a r4 j}) (fun j => ofU 3 j.1) (fun _ => sfI (encL (cI .u64) us) k a w x r1 r2 r3 r4) (fun j => r4.length - j.1) (fun _ => Nat.le_of_ble_eq_true rfl) (fun ⟨j, hj, ht⟩ => ?_) ⟨0, Nat.zero_le _, fun p hp hpj => absurd hpj (by omega)⟩
          dsimp only
          rw [of_l3, wd_lss]
          refine ite_way (fun h0 => ?_) (fun h0 => ⟨rfl, ⟨(), hit_f ht (by omega)⟩, jd7, by (exact zC)⟩)
          have e3 : xar .add .i64 (j : Int) 1 = ((j + 1 : Nat) : Int) := inc_i64 h0 (by omega)
          (refine zN3 (encIi64_nth h0) @encIi64_len @e3 ?_)
          cases g1 : xcm .gtr a r4[j] with
          | true =>
            cases g2 : xcm .lss a (xar .add .i64 r4[j] 16) with
            | true =>
              have eF : sfV us k a = false := by rw [eV, hit_t h0 (by rw [g1, g2]; rfl)]; simp
              rw [eF]
              simp only [g1, g2, cond_true]
              (refine zR ?_)
              exact ⟨trivial, rfl, _, _, [.id 0], ⟨rfl, rfl⟩, by (exact zC)⟩
            | false =>
              simp only [g1, g2, cond_true, cond_false]
              (refine zR ?_)
              exact ⟨rfl, ⟨j + 1, h0, hit_s ht fun _ => by rw [g1, g2]; rfl⟩, by simp only; omega, jd7, by (exact zC)⟩
          | false =>
            simp only [g1, cond_false]
            (refine zR ?_)
            exact ⟨rfl, ⟨j + 1, h0, hit_s ht fun _ => by rw [g1]; rfl⟩, by simp only; omega, jd7, by (exact zC)⟩
        try dsimp only
        refine SSp.last cxG1_ok (n := 40) (mkS_le (Nat.le_of_ble_eq_true rfl)) ?_
        rw [of_q3]
        exact ⟨rfl, ⟨.a4, ⟨hp.1, hp.2.1, hp.2.2, hh⟩⟩, by simp only [J5.m]; omega, jd7, by dsimp only [J5.v]; (exact zC)⟩
      · refine SSp.to cxG1_ok (n := 40) (g := []) 2 2 rfl (σ := Empty) (fun _ => []) (fun _ => []) (mkS_le (Nat.le_of_ble_eq_true rfl)) (by kernel_rfl) ?_ fun z => nomatch z
        rw [of_o4]
        (refine zR ?_)
        exact ⟨rfl, ⟨(), hp⟩, jd7, by (exact zC)⟩
    try dsimp only
    obtain ⟨z1, z2, z3, z4⟩ := hz
    refine SSp.last cxG1_ok (n := 40) (mkS_le (Nat.le_of_ble_eq_true rfl)) ?_
    rw [of_z, eV, z1, z2, z3, z4]
    exact ⟨trivial, rfl, _, _, [.id 0], ⟨rfl, rfl⟩, by (exact zC)⟩
def saW (wc : List LV) (k a : Int) : Bool := sfV (decIu64 wc) k a

theorem sf_c (n : Nat) (wc : List LV) (k a w : Int) (x : OX) (k1 : okU wc n = true) (k2 : xle n 100000 = true) : SFun prog 8 [.slo 0 0 n 0, .agg (opC k a w x)] (mkS [.cells wc (some 1)]) fun l t => l = .bool (saW wc k a) ∧ t = mkS [.cells wc (some 1)] := by
  obtain ⟨us, rfl, rfl, hn, hu⟩ := okU_iff.1 k1
  rw [saW, decIu64_enc]
  exact sf_ok us hu (by rw [wd_le, decide_eq_true_eq] at k2; exact k2) k a w x
theorem of_c (n : Nat) (wc : List LV) (k a w : Int) (x : OX) (k1 : okU wc n = true) (k2 : xle n 100000 = true) : SFun prog 9 [.slo 0 0 n 0, .agg (opC k a w x)] (mkS [.cells wc (some 1)]) fun l t => l = .bool (saW wc k a) ∧ t = mkS [.cells wc (some 1)] := by
  obtain ⟨us, rfl, rfl, hn, hu⟩ := okU_iff.1 k1
  rw [saW, decIu64_enc]
  exact of_ok us hu (by rw [wd_le, decide_eq_true_eq] at k2; exact k2) k a w x
end
end Go.Lev
