/- chapter 25: New -/
import Derived.Test.YtooajpakpmnehaaCW12
import Derived.Test.YtooajpakpmnehaaLc
import Derived.Test.YtooajpakpmnehaaChecked
import Derived.KernelRfl

namespace Go.Lev
open Go.RowKit
set_option linter.unusedVariables false
set_option linter.unusedSimpArgs false
set_option maxRecDepth 100000
noncomputable section
def cxm : Cx := cxl [(35, cloneG 2), (36, cloneG 2), (37, stG), (38, goG)]
abbrev nwL : List Nat := [14, 15]
abbrev nvH (me stm u ph : Int) (nq nc ns : Nat) (qc cc sc : List LV) : List LB := [.cells qc (some 2), .cells cc (some 2), .cells [.ptr 3 0, .int .i64 me, .int .u64 stm, .slo 4 0 nq 0, .slo 5 0 nc 0, .slo 6 0 ns 0, .slo 7 0 0 0, .int .u64 0, .bool false, .int .i64 0, .int .i64 ph, .int .i64 0, .int .u64 0, .bool false, .int .i64 0, .int .i64 0, .int .i64 0] none, .cells [.int .i64 me, .int .i64 u, .int .i64 0, .int .i64 (-1), .int .i64 0] none, .cells qc (some 2), .cells cc (some 2), .cells sc (some 1), .cells [] (some 3)]
theorem nv_a (me su stm : Int) (nq nc : Nat) (n w : Int) (qc cc : List LV) (K : Pk) : (xsp Go.Proofs.Try.prog cxm 40 34 (seg (sp Go.Proofs.Try.prog 8) 0 2) (tm0 [.int .i64 me, .int .i64 su, .int .u64 stm, .slo 0 0 nq 0, .slo 1 0 nc 0, .int .i64 n, .int .i64 w]) (mkS [.cells qc (some 2), .cells cc (some 2)]) (vK nwL K)) = (
 bif xle nq 1000000 then bif xeq (xln qc) (xmul nq 2) then bif xnoid qc then bif xle nc 1000000 then bif xeq (xln cc) (xmul nc 2) then bif xnoid cc then bif okC cc nc then
 K .normal [.nilp, .ptr 6 0] [some (.cells qc (some 2)), some (.cells cc (some 2)), some (.cells [.int .i64 me, .int .i64 (xmn (xmx su 0) 4), .int .i64 0, .int .i64 (-1), .int .i64 0] none), some (.cells qc (some 2)), some (.cells cc (some 2)), some (.cells (stC nc cc n w) (some 1)), some (.cells [.ptr 2 0, .int .i64 me, .int .u64 stm, .slo 3 0 nq 0, .slo 4 0 nc 0, .slo 5 0 (stN nc cc n w) 0, .nils, .int .u64 0, .bool false, .int .i64 0, .int .i64 0, .int .i64 0, .int .u64 0, .bool false, .int .i64 0, .int .i64 0, .int .i64 0] none)] [] else False else False else False else False else False else False else False) := by kernel_rfl
theorem nv_z (me stm u : Int) (nq nc ns : Nat) (qc cc sc : List LV) (K : Pk) : (xsp Go.Proofs.Try.prog cxm 40 34 ((sp Go.Proofs.Try.prog 8).drop 2) (mkTm 34 [(15, .ptr 2 0)]) (mkS (nvH me stm u 0 nq nc ns qc cc sc)) (vK nwL K)) = (
 bif okK qc cc sc [] nq nc ns 0 then bif xcm .eql me me then
 K .ret [.ptr 2 0, .ptr 2 0] [some (.cells qc (some 2)), some (.cells cc (some 2)), some (.cells [.ptr 3 0, .int .i64 me, .int .u64 stm, .slo 4 0 nq 0, .slo 5 0 nc 0, .slo 6 0 ns 0, .slo 7 0 0 0, .int .u64 0, .bool false, .int .i64 0, .int .i64 (kPh (gW qc cc sc (mkC [] u 0 (-1) 0 0 false 0 0 0 0 false 0 0 0))), .int .i64 (kAt (gW qc cc sc (mkC [] u 0 (-1) 0 0 false 0 0 0 0 false 0 0 0))), .int .u64 0, .bool (kSt (gW qc cc sc (mkC [] u 0 (-1) 0 0 false 0 0 0 0 false 0 0 0))), .int .i64 (kVe (gW qc cc sc (mkC [] u 0 (-1) 0 0 false 0 0 0 0 false 0 0 0))), .int .i64 (kVb (gW qc cc sc (mkC [] u 0 (-1) 0 0 false 0 0 0 0 false 0 0 0))), .int .i64 (kVr (gW qc cc sc (mkC [] u 0 (-1) 0 0 false 0 0 0 0 false 0 0 0)))] none), some (.cells [.int .i64 me, .int .i64 u, .int .i64 (kEn (gW qc cc sc (mkC [] u 0 (-1) 0 0 false 0 0 0 0 false 0 0 0))), .int .i64 (kBu (gW qc cc sc (mkC [] u 0 (-1) 0 0 false 0 0 0 0 false 0 0 0))), .int .i64 (kEr (gW qc cc sc (mkC [] u 0 (-1) 0 0 false 0 0 0 0 false 0 0 0)))] none), some (.cells qc (some 2)), some (.cells cc (some 2)), some (.cells sc (some 1)), some (.cells [] (some 3))] [] else False else False) := by kernel_rfl
theorem cxm_ok : CtrOk Go.Proofs.Try.prog (ctrOf cxm) := cxl_ok ⟨cloneSeen_ok, cloneCell_ok, wstG_ok, goG_ok, trivial⟩
def spW (su : Int) : Int := xmn (xmx su 0) 4
theorem spin0 {su : Int} (h : xcm .lss su 0 = true) : spW su = 0 := by
  have : su < 0 := by simpa [xcm_lss] using h
  simp only [spW, wd_mn, wd_mx]; split <;> (try split) <;> omega
theorem spin4 {su : Int} (h : xcm .gtr su 4 = true) : spW su = 4 := by
  have : 4 < su := by simpa [xcm_gtr] using h
  simp only [spW, wd_mn, wd_mx]; split <;> (try split) <;> omega
theorem spinS {su : Int} (h : xcm .lss su 0 = false) (h' : xcm .gtr su 4 = false) : spW su = su := by
  have : ¬ su < 0 := by simpa [xcm_lss] using h
  have : ¬ 4 < su := by simpa [xcm_gtr] using h'
  simp only [spW, wd_mn, wd_mx]; split <;> (try split) <;> omega
theorem spW_in (su : Int) : 0 ≤ spW su ∧ spW su ≤ 4 := by
  simp only [spW, wd_mn, wd_mx]; split <;> (try split) <;> omega
def phW (ns : Nat) : Int := if ns = 0 then 2 else 0

/-- The stripes of cells. -/
def strL (cs : List (Int × Int)) (n w : Int) : List Int := gat (metR (decG (encL cell cs)) n w cs.length) 16
theorem strL_len (cs : List (Int × Int)) (n w : Int) : (strL cs n w).length ≤ 16 := gat_len _ 16
abbrev cs0 (su : Int) (ns : Nat) : CS := ⟨[], spW su, 0, -1, 0, d0, phW ns, 0, 0, false, 0, 0, 0⟩
theorem cs0_go (su : Int) (qs : List (Int × Int)) (nc : Nat) (ss : List Int) : gGo qs nc ss ⟨[], spW su, 0, -1, 0, d0, 0, 0, 0, false, 0, 0, 0⟩ = cs0 su ss.length := by
  have h1 : g1 ss.length ⟨[], spW su, 0, -1, 0, d0, 0, 0, 0, false, 0, 0, 0⟩ = cs0 su ss.length := by
    by_cases e : ss.length = 0
    · have h : phW ss.length = 2 := if_pos e
      rw [g1, if_pos ⟨rfl, e.symm⟩, cs0, h]
    · have h : phW ss.length = 0 := if_neg e
      rw [g1, if_neg fun k => e k.2.symm, cs0, h]
  have hp : phW ss.length = 0 ∨ phW ss.length = 2 := by unfold phW; split <;> simp
  unfold gGo
  rw [h1, gch_no (by simp only; omega), g3, if_neg (by simp only; omega), g4, if_neg (by simp only; omega), g5, if_neg (by simp only; omega), g6, if_neg (by simp only; omega)]
theorem cs0_ok (su : Int) (nq nc ns : Nat) : (cs0 su ns).Ok nq nc ns := by
  have hp : phW ns = 0 ∧ 0 < ns ∨ phW ns = 2 ∧ ns = 0 := by
    by_cases e : ns = 0
    · exact .inr ⟨if_pos e, e⟩
    · exact .inl ⟨if_neg e, by omega⟩
  unfold cs0
  generalize phW ns = p at hp
  refine ⟨spW_in su, Nat.zero_le _, Nat.zero_le _, fun _ => ⟨?_, fun h => ⟨rfl, ?_⟩, fun _ => rfl, fun h => ?_, fun h => ?_, fun h1 h2 => ?_, fun h => ?_, fun h1 h2 => ?_, fun h => ?_, ⟨rfl, rfl⟩⟩⟩
  · show 0 ≤ p ∧ p ≤ 7; omega
  · have h : p = 0 ∨ p = 1 := h
    show 0 < ns; omega
  · have h : p = 4 := h
    omega
  · have h : p = 5 := h
    omega
  · have h1 : 2 ≤ p := h1
    show 0 = ns; omega
  · have h : p = 6 ∨ p = 7 := h
    omega
  · exact ⟨Int.le_refl _, by show (0 : Int) < 4611686018427387903; omega⟩
  · have h : p = 7 := h
    omega
theorem newv_ok (me su stm : Int) (qs cs : List (Int × Int)) (hq : qs.length ≤ 1000000) (hc : cs.length ≤ 1000000) (n w : Int) : SFun Go.Proofs.Try.prog 8 [.int .i64 me, .int .i64 su, .int .u64 stm, .slo 0 0 qs.length 0, .slo 1 0 cs.length 0, .int .i64 n, .int .i64 w] (mkS [.cells (encL cell qs) (some 2), .cells (encL cell cs) (some 2)])
    fun l s => l = .ptr 2 0 ∧ s = mkS (nvH me stm (spW su) (phW (strL cs n w).length) qs.length cs.length (strL cs n w).length (encL cell qs) (encL cell cs) (encL (cI .i64) (strL cs n w))) := by
  refine SFun.mono (SFun.pieces (Q := fun l b => l = .ptr 2 0 ∧ b = nvH me stm (spW su) (phW (strL cs n w).length) qs.length cs.length (strL cs n w).length (encL cell qs) (encL cell cs) (encL (cI .i64) (strL cs n w))) 34 2 nwL [14] (by kernel_rfl) rfl rfl rfl ?_) fun l s' ⟨b0, ⟨h1, h2⟩, h3⟩ => ⟨h1, by rw [h3, h2]⟩
  have nx := noids_c cs
  have nq := noids_c qs
  have lq := cell_n qs
  have xq := xnoid_c qs
  have lx := cell_n cs
  have ok : okC (encL cell cs) cs.length = true := okC_enc (by omega)
  have hl := strL_len cs n w
  have nss := noIds_Ii64 (strL cs n w)
  have e1 : stC cs.length (encL cell cs) n w = encL (cI .i64) (strL cs n w) := rfl
  have e2 : stN cs.length (encL cell cs) n w = (strL cs n w).length := rfl
  refine SSp.to cxm_ok (n := 40) (g := []) 2 2 rfl (σ := Unit) (fun _ => [(15, .ptr 2 0)]) (fun _ => nvH me stm (spW su) 0 qs.length cs.length (strL cs n w).length (encL cell qs) (encL cell cs) (encL (cI .i64) (strL cs n w))) (mkS_le (Nat.le_refl _)) (by kernel_rfl) ?_ fun _ => ?_
  · rw [nv_a]
    simp only [wd_nat, wd_asV, wd_isV, wd_ix, wd_add, wd_mul, wd_ln, Nat.zero_add, Nat.mul_one, wd_isI, wd_asI, wd_isB, wd_asB, wd_nn, cI_tlen, cB_tlen, cII_tlen, decide_true, cond_true, wd_not_t, wd_not_f, wd_and_t, wd_and_f, lx, ok, e1, e2, lq, xq, xnoid_c cs]
    (with_reducible repeat first | refine zq1 ?_ | refine zq2 ?_ | refine zq3 ?_ | refine zq4 ?_ | refine zq5 ?_ | refine zq6 ?_ | refine zq7 ?_ | refine zq8 ?_ | refine zq9 ?_ | refine zqa ?_ | refine zqb ?_ | refine zqc ?_ | refine zqd ?_ | refine zqe ?_ | refine zqf ?_ | refine zqg ?_ | refine zqh ?_ | refine zqi ?_ | refine zqj ?_ | refine zqk ?_ | refine zql ?_ | refine zqm ?_ | refine zqn ?_ | refine zqo ?_ | refine zqp ?_)
    exact ⟨rfl, (), [.id 0, .id 1, .id 6, .id 2, .id 3, .id 4, .id 5, .none], by simp only [spW]; (refine ⟨by kernel_rfl, ?_, ?_⟩ <;> repeat first | exact okTms_nil | refine okTms_cons ?_ ?_ | exact okBlks_nil | refine okBlks_cons ?_ ?_ | exact lws_nil | refine lws_cons ?_ ?_ | exact lb_dead | exact zy1 | exact zy2 | exact lb_none | refine zy3 ?_ | exact zy4 | exact lw_any | exact lw_int | exact lw_bool | exact zy5 | exact zy6 | exact lw_nils | exact lw_slo_nils | exact zy7 | exact zy8 | exact zy9 | refine lw_tup ?_ | refine lw_agg ?_ | assumption)⟩
  refine SSp.last cxm_ok (n := 40) (mkS_le (Nat.le_of_ble_eq_true rfl)) ?_
  rw [nv_z]
  have ok2 := okK_enc (qs := qs) (tk := []) hq hc (by omega : (strL cs n w).length ≤ 1000000) (Nat.zero_le _)
  have eg := (gW_mk0 qs cs (strL cs n w) [] (spW su) 0 (-1) 0 0 false 0 0 0 false 0 0 0).trans (cs0_go su qs cs.length (strL cs n w))
  simp only [encL, List.length_nil] at ok2 eg
  simp only [ok2, eg, cm_self, cond_true]
  (with_reducible repeat first | refine zq1 ?_ | refine zq2 ?_ | refine zq3 ?_ | refine zq4 ?_ | refine zq5 ?_ | refine zq6 ?_ | refine zq7 ?_ | refine zq8 ?_ | refine zq9 ?_ | refine zqa ?_ | refine zqb ?_ | refine zqc ?_ | refine zqd ?_ | refine zqe ?_ | refine zqf ?_ | refine zqg ?_ | refine zqh ?_ | refine zqi ?_ | refine zqj ?_ | refine zqk ?_ | refine zql ?_ | refine zqm ?_ | refine zqn ?_ | refine zqo ?_ | refine zqp ?_)
  exact ⟨trivial, rfl, _, _, [.id 0, .id 1, .id 2, .id 3, .id 4, .id 5, .id 6, .id 7], ⟨rfl, rfl⟩, by simp only [kPh, kAt, kSt, kVe, kVb, kVr, kEn, kBu, kEr]; (refine ⟨by kernel_rfl, ?_, ?_⟩ <;> repeat first | exact okTms_nil | refine okTms_cons ?_ ?_ | exact okBlks_nil | refine okBlks_cons ?_ ?_ | exact lws_nil | refine lws_cons ?_ ?_ | exact lb_dead | exact zy1 | exact zy2 | exact lb_none | refine zy3 ?_ | exact zy4 | exact lw_any | exact lw_int | exact lw_bool | exact zy5 | exact zy6 | exact lw_nils | exact lw_slo_nils | exact zy7 | exact zy8 | exact zy9 | refine lw_tup ?_ | refine lw_agg ?_ | assumption)⟩

theorem newv_c (me su stm : Int) (nq nc : Nat) (qc cc : List LV) (n w : Int) (k1 : okC cc nc = true) (k2 : xle nc 1000000 = true) (k3 : okC qc nq = true) (k4 : xle nq 1000000 = true) : SFun Go.Proofs.Try.prog 8 [.int .i64 me, .int .i64 su, .int .u64 stm, .slo 0 0 nq 0, .slo 1 0 nc 0, .int .i64 n, .int .i64 w] (mkS [.cells qc (some 2), .cells cc (some 2)])
    fun l s => l = .ptr 2 0 ∧ s = mkS (nvH me stm (xmn (xmx su 0) 4) (phW (stN nc cc n w)) nq nc (stN nc cc n w) qc cc (stC nc cc n w)) := by
  obtain ⟨cs, rfl, rfl, _⟩ := okC_iff.1 k1
  obtain ⟨qs, rfl, rfl, _⟩ := okC_iff.1 k3
  rw [wd_le, decide_eq_true_eq] at k2 k4
  exact newv_ok me su stm qs cs k4 k2 n w
def newG : Gc := fun args s => match args, s.g with
  | [.int .i64 me, .int .i64 su, .int .u64 stm, .slo q 0 nq 0, .slo c 0 nc 0, .int .i64 n, .int .i64 w], [] => (match s.h.get q with
    | some (.cells qc (some 2)) => (match s.h.get c with
      | some (.cells cc (some 2)) => cond (nodupB [q, c]) (match s.lay [q, c] [.cells qc (some 2), .cells cc (some 2)] [.cells [.ptr (Nat.succ s.n) 0, .int .i64 me, .int .u64 stm, .slo (Nat.succ (Nat.succ s.n)) 0 nq 0, .slo (Nat.succ (Nat.succ (Nat.succ s.n))) 0 nc 0, .slo (Nat.succ (Nat.succ (Nat.succ (Nat.succ s.n)))) 0 (stN nc cc n w) 0, .slo (Nat.succ (Nat.succ (Nat.succ (Nat.succ (Nat.succ s.n))))) 0 0 0, .int .u64 0, .bool false, .int .i64 0, .int .i64 (phW (stN nc cc n w)), .int .i64 0, .int .u64 0, .bool false, .int .i64 0, .int .i64 0, .int .i64 0] none, .cells [.int .i64 me, .int .i64 (xmn (xmx su 0) 4), .int .i64 0, .int .i64 (-1), .int .i64 0] none, .cells qc (some 2), .cells cc (some 2), .cells (stC nc cc n w) (some 1), .cells [] (some 3)] with
        | some s' => some ([okC cc nc, xle nc 1000000, okC qc nq, xle nq 1000000], .ptr s.n 0, s')
        | none => none) none
      | _ => none)
    | _ => none)
  | _, _ => none
theorem newG_ok : GOk Go.Proofs.Try.prog 8 newG := by
  intro args s bs l s' hg hb hfr
  unfold newG at hg
  split at hg
  · rename_i me su stm q nq c nc n w hgl
    split at hg
    · rename_i qc hb0
      split at hg
      · rename_i cc hb1
        cases hbc : nodupB [q, c] with
        | false => rw [hbc] at hg; cases hg
        | true =>
          rw [hbc] at hg
          simp only [cond_true] at hg
          split at hg
          · rename_i s1 hs1
            simp only [Option.some.injEq, Prod.mk.injEq] at hg
            obtain ⟨rfl, rfl, rfl⟩ := hg
            simp only [allT_cons] at hb
            obtain ⟨k1, k2, k3, k4, _⟩ := hb
            have no : noIds cc = true := noids_ok k1
            have no2 : noIds qc = true := noids_ok k3
            refine SFun.lay (bs := [.cells qc (some 2), .cells cc (some 2)]) (args0 := [.int .i64 me, .int .i64 su, .int .u64 stm, .slo 0 0 nq 0, .slo 1 0 nc 0, .int .i64 n, .int .i64 w]) (bs' := [.cells qc (some 2), .cells cc (some 2), .cells [.ptr 3 0, .int .i64 me, .int .u64 stm, .slo 4 0 nq 0, .slo 5 0 nc 0, .slo 6 0 (stN nc cc n w) 0, .slo 7 0 0 0, .int .u64 0, .bool false, .int .i64 0, .int .i64 (phW (stN nc cc n w)), .int .i64 0, .int .u64 0, .bool false, .int .i64 0, .int .i64 0, .int .i64 0] none, .cells [.int .i64 me, .int .i64 (xmn (xmx su 0) 4), .int .i64 0, .int .i64 (-1), .int .i64 0] none, .cells qc (some 2), .cells cc (some 2), .cells (stC nc cc n w) (some 1), .cells [] (some 3)]) (v0 := .ptr 2 0) hfr hs1 (nodupB_nd hbc)
              ⟨⟨there hfr hb0, _, hb0, lb_same (by (first | assumption | exact noIds_tab (fun _ => rfl) _ _ | exact noIds_encL (fun _ => rfl) _ | rfl)), fun κ hκ => lb_same (by (first | assumption | exact noIds_tab (fun _ => rfl) _ _ | exact noIds_encL (fun _ => rfl) _ | rfl))⟩, ⟨there hfr hb1, _, hb1, lb_same (by (first | assumption | exact noIds_tab (fun _ => rfl) _ _ | exact noIds_encL (fun _ => rfl) _ | rfl)), fun κ hκ => lb_same (by (first | assumption | exact noIds_tab (fun _ => rfl) _ _ | exact noIds_encL (fun _ => rfl) _ | rfl))⟩, trivial⟩ (by ((repeat refine lws_cons (by (first | exact lw_any | exact lw_int | exact lw_bool | exact lw_ptr rfl | exact lw_slo rfl | exact lw_nilp | exact lw_nils | exact lw_str | exact lw_slo_nils | exact lw_slo_sle | exact lw_sl rfl | exact lw_unb | exact lw_gptr | exact lw_noid rfl | exact lw_cap rfl (Nat.le_refl _) | exact lw_cap rfl (by omega) | assumption | exact lw_tup (by ((repeat refine lws_cons (by (first | exact lw_any | exact lw_int | exact lw_bool | exact lw_ptr rfl | exact lw_slo rfl | exact lw_nilp | exact lw_nils | exact lw_str | exact lw_slo_nils | exact lw_slo_sle | exact lw_sl rfl | exact lw_unb | exact lw_gptr | exact lw_noid rfl | exact lw_cap rfl (Nat.le_refl _) | exact lw_cap rfl (by omega) | assumption)) ?_); exact lws_nil)))) ?_); exact lws_nil)) ?_
              fun κ h1 h2 => ⟨⟨lb_same (by (first | assumption | exact noIds_tab (fun _ => rfl) _ _ | exact noIds_encL (fun _ => rfl) _ | rfl)), lb_same (by (first | assumption | exact noIds_tab (fun _ => rfl) _ _ | exact noIds_encL (fun _ => rfl) _ | rfl)), lb_cells (lws_cons (lw_ptr (h2 1 (by simp))) (lws_cons (lw_int) (lws_cons (lw_int) (lws_cons (lw_slo (h2 2 (by simp))) (lws_cons (lw_slo (h2 3 (by simp))) (lws_cons (lw_slo (h2 4 (by simp))) (lws_cons (lw_slo (h2 5 (by simp))) (lws_cons (lw_int) (lws_cons (lw_bool) (lws_cons (lw_int) (lws_cons (lw_int) (lws_cons (lw_int) (lws_cons (lw_int) (lws_cons (lw_bool) (lws_cons (lw_int) (lws_cons (lw_int) (lws_cons (lw_int) lws_nil))))))))))))))))) (by simp), lb_cells (lws_cons (lw_int) (lws_cons (lw_int) (lws_cons (lw_int) (lws_cons (lw_int) (lws_cons (lw_int) lws_nil))))) (by simp), lb_same (no2), lb_same (no), lb_same (noIds_Ii64 _), lb_cells lws_nil (by simp), trivial⟩, lw_ptr (h2 0 (by simp))⟩
            rw [hgl]; exact (newv_c me su stm nq nc qc cc n w k1 k2 k3 k4)
          · cases hg
      · cases hg
    · cases hg
  · cases hg
end
end Go.Lev
