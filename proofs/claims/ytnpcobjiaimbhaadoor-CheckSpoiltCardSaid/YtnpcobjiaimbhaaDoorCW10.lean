/- CheckTells: same, shown -/
import Derived.Test.YtnpcobjiaimbhaaDoorCW9
import Derived.Test.YtnpcobjiaimbhaaDoorLc
import Derived.Test.YtnpcobjiaimbhaaDoorChecked
import Derived.KernelRfl

namespace Go.Lev
open Go.RowKit
set_option linter.unusedVariables false
set_option linter.unusedSimpArgs false
set_option maxRecDepth 100000
noncomputable section
def cxSB : Cx := cxl [(15, lookBG), (16, wrapG refBG), (11, wrapG same0i64G)]
def cxSG : Cx := cxl [(15, lookGG), (16, wrapG refGG), (11, wrapG sameIi64G)]
theorem cxSB_ok : CtrOk Go.Proofs.Tryd.prog (ctrOf cxSB) := cxl_ok ⟨lookBG_ok, wrapG_ok refBG_ok, wrapG_ok same0i64G_ok, trivial⟩
theorem cxSG_ok : CtrOk Go.Proofs.Tryd.prog (ctrOf cxSG) := cxl_ok ⟨lookGG_ok, wrapG_ok refGG_ok, wrapG_ok sameIi64G_ok, trivial⟩
abbrev same_b_b1 (n : Nat) (ls : List LV) : List (Option LB) := [some (.ro ls), some (.cells [.slo 0 0 n 0] none), some (.cells [.slo 0 0 n 0] none)]
theorem same_b (n : Nat) (ls : List LV) (K : Fk) : (xfun Go.Proofs.Tryd.prog cxSB 40 12 [.agg [.slo 0 0 n 0]] (mkS [.ro ls] gtab) (vF K)) = (
 bif chB n ls then
 bif chB n ls then
 bif xcm .eql (chA ls) (chA ls) then (
 bif xcm .eql (chE ls) (chE ls) then (
 bif chB n ls then
 bif xcm .neq (chE ls) 0 then
 bif chB n ls then
 bif xcm .neq (chE ls) 0 then
 K (.bool true) [some (.ro ls), some (.cells [.slo 0 0 n 0] none), some (.cells [.slo 0 0 n 0] none), some (.cells [.slo 0 0 n 0] none), some (.cells [.slo 0 0 n 0] none)] gtab
 else False
 else False
 else False
 else False)
 else (
 K (.bool false) (same_b_b1 n ls) gtab))
 else (
 K (.bool false) (same_b_b1 n ls) gtab)
 else False
 else False) := by kernel_rfl
theorem same_g (n : Nat) (ls : List LV) (K : Fk) : (xfun Go.Proofs.Tryd.prog cxSG 40 12 [.agg [.slo 0 0 n 0]] (mkS [.ro ls] gtab) (vF K)) = (
 bif chG n ls then
 bif chG n ls then
 bif chG n ls then
 bif okIi64 (chR ls) n then
 bif okIi64 (chR ls) n then
 bif sameIi64 n n (chR ls) (chR ls) then (
 bif chG n ls then
 bif okIi64 (chM ls) n then
 bif okIi64 (chM ls) n then
 K (.bool (sameIi64 n n (chM ls) (chM ls))) [some (.ro ls), some (.cells [.slo 0 0 n 0] none), some (.cells [.slo 0 0 n 0] none), some (.cells [.slo 0 0 n 0, .slo 6 0 0 0, .slo 4 0 n 0, .slo 5 0 n 0] none), some (.cells (chR ls) (some 1)), some (.cells (chM ls) (some 1)), some .dead, some (.cells (chR ls) (some 1)), some (.cells (chM ls) (some 1)), some (.cells [.slo 0 0 n 0] none), some (.cells [.slo 0 0 n 0, .slo 13 0 0 0, .slo 11 0 n 0, .slo 12 0 n 0] none), some (.cells (chR ls) (some 1)), some (.cells (chM ls) (some 1)), some .dead, some (.cells [.slo 0 0 n 0] none), some (.cells [.slo 0 0 n 0, .slo 18 0 0 0, .slo 16 0 n 0, .slo 17 0 n 0] none), some (.cells (chR ls) (some 1)), some (.cells (chM ls) (some 1)), some .dead] gtab
 else False
 else False
 else False)
 else (
 K (.bool false) [some (.ro ls), some (.cells [.slo 0 0 n 0] none), some (.cells [.slo 0 0 n 0] none), some (.cells [.slo 0 0 n 0, .slo 6 0 0 0, .slo 4 0 n 0, .slo 5 0 n 0] none), some (.cells (chR ls) (some 1)), some (.cells (chM ls) (some 1)), some .dead, some (.cells (chR ls) (some 1)), some (.cells (chM ls) (some 1)), some (.cells [.slo 0 0 n 0] none), some (.cells [.slo 0 0 n 0, .slo 13 0 0 0, .slo 11 0 n 0, .slo 12 0 n 0] none), some (.cells (chR ls) (some 1)), some (.cells (chM ls) (some 1)), some .dead] gtab)
 else False
 else False
 else False
 else False
 else False) := by kernel_rfl
theorem chk_len {L : List InsR} (he : (chk L).2.1 = 0) : (chk L).2.2.1.length = L.length ∧ (chk L).2.2.2.length = L.length := by
  by_cases h40 : L.length = 0 ∨ 40 < L.length
  · rw [(chk_form h40).2] at he; exact absurd he (by decide)
  by_cases h0 : (goS L L.length).1 = 0
  · by_cases ho : (goS L L.length).2.2.o = []
    · cases hJ : goJ L (goS L L.length).2.2.r L.length with
      | some k => rw [(chk_jump h40 h0 ho hJ).2] at he; exact absurd he (by decide)
      | none =>
        have hI := goS_inv L L.length (Nat.le_refl _) h0
        rw [chk_good h40 h0 ho hJ]; exact ⟨hI.rl, (und_len _ _ _ _).trans hI.ml⟩
    · rw [(chk_deep h40 h0 ho).2] at he; exact absurd he (by decide)
  · rw [chk, if_neg h40, if_pos h0] at he; exact absurd he h0
theorem same_all (L : List InsR) (h : L.length ≤ 1000) : SFun Go.Proofs.Tryd.prog 12 [.agg [.slo 0 0 L.length 0]] (mkS [.ro (encL insE L)] gtab) fun l s => l = .bool true ∧ s = mkS [.ro (encL insE L)] gtab := by
  have no : noIds (encL insE L) = true := ins_noids L
  by_cases he : (chk L).2.1 = 0
  · have hg : chG L.length (encL insE L) = true := chG_iff.2 ⟨L, rfl, rfl, he⟩
    have lr : (chk L).2.2.1.length = L.length ∧ (chk L).2.2.2.length = L.length := chk_len he
    have o1 : okIi64 (chR (encL insE L)) L.length = true := okIi64_iff.2 ⟨_, rfl, by rw [decIns_enc]; exact lr.1, by omega⟩
    have o2 : okIi64 (chM (encL insE L)) L.length = true := okIi64_iff.2 ⟨_, rfl, by rw [decIns_enc]; exact lr.2, by omega⟩
    refine SFun.mono (SFun.vc (Q := fun l b => l = .bool true ∧ b = [.ro (encL insE L)]) cxSG_ok (n := 40) 1 rfl ?_) fun l s' ⟨b0, ⟨h1, h2⟩, h3⟩ => ⟨h1, by rw [h3, h2]⟩
    rw [same_g]
    simp only [sameIi64_self]
    (with_reducible repeat first | refine zq1 ?_ | refine zq2 ?_ | refine zq3 ?_ | refine zq4 ?_ | refine zq5 ?_ | refine zq6 ?_ | refine zq7 ?_ | refine zq8 ?_ | refine zq9 ?_ | refine zqa ?_ | refine zqb ?_ | refine zqc ?_ | refine zqd ?_ | refine zqe ?_ | refine zqf ?_ | refine zqg ?_ | refine zqh ?_ | refine zqi ?_ | refine zqj ?_ | refine zqk ?_ | refine zql ?_ | refine zqm ?_ | refine zqn ?_ | refine zqo ?_ | refine zqp ?_)
    exact ⟨rfl, _, _, [.id 0], ⟨rfl, rfl⟩, by (refine ⟨by kernel_rfl, ?_, ?_⟩ <;> repeat first | exact okTms_nil | refine okTms_cons ?_ ?_ | exact okBlks_nil | refine okBlks_cons ?_ ?_ | exact lws_nil | refine lws_cons ?_ ?_ | exact lb_dead | exact zy1 | exact zy2 | exact lb_none | refine zy3 ?_ | exact zy4 | exact lw_any | exact lw_int | exact lw_bool | exact zy5 | exact zy6 | exact lw_nils | exact lw_slo_nils | exact zy7 | exact zy8 | exact zy9 | refine lw_tup ?_ | refine lw_agg ?_ | assumption)⟩
  · have hb : chB L.length (encL insE L) = true := chB_iff.2 ⟨L, rfl, rfl, he⟩
    have hne := chE_ne hb
    refine SFun.mono (SFun.vc (Q := fun l b => l = .bool true ∧ b = [.ro (encL insE L)]) cxSB_ok (n := 40) 1 rfl ?_) fun l s' ⟨b0, ⟨h1, h2⟩, h3⟩ => ⟨h1, by rw [h3, h2]⟩
    rw [same_b]
    (with_reducible repeat first | refine zq1 ?_ | refine zq2 ?_ | refine zq3 ?_ | refine zq4 ?_ | refine zq5 ?_ | refine zq6 ?_ | refine zq7 ?_ | refine zq8 ?_ | refine zq9 ?_ | refine zqa ?_ | refine zqb ?_ | refine zqc ?_ | refine zqd ?_ | refine zqe ?_ | refine zqf ?_ | refine zqg ?_ | refine zqh ?_ | refine zqi ?_ | refine zqj ?_ | refine zqk ?_ | refine zql ?_ | refine zqm ?_ | refine zqn ?_ | refine zqo ?_ | refine zqp ?_)
    exact ⟨rfl, _, _, [.id 0], ⟨rfl, rfl⟩, by (refine ⟨by kernel_rfl, ?_, ?_⟩ <;> repeat first | exact okTms_nil | refine okTms_cons ?_ ?_ | exact okBlks_nil | refine okBlks_cons ?_ ?_ | exact lws_nil | refine lws_cons ?_ ?_ | exact lb_dead | exact zy1 | exact zy2 | exact lb_none | refine zy3 ?_ | exact zy4 | exact lw_any | exact lw_int | exact lw_bool | exact zy5 | exact zy6 | exact lw_nils | exact lw_slo_nils | exact zy7 | exact zy8 | exact zy9 | refine lw_tup ?_ | refine lw_agg ?_ | assumption)⟩
end
end Go.Lev
