/- chapter 25: the reference's commit: own, look: trees -/
import Derived.Test.YtooajpakpmnehaaCW13
import Derived.Test.YtooajpakpmnehaaLc
import Derived.Test.YtooajpakpmnehaaChecked
import Derived.KernelRfl

namespace Go.Lev
open Go.RowKit
set_option linter.unusedVariables false
set_option linter.unusedSimpArgs false
set_option maxRecDepth 100000
noncomputable section
abbrev rE (me stm : Int) (nq nc ns nt : Nat) (qc cc sc tc : List LV) (su en bu er lv : Int) (lh : Bool) (lo ph : Int) (at' : Nat) (now ve vb vr : Int) : List LB := [.cells [.int .i64 me, .int .i64 su, .int .i64 en, .int .i64 er, .int .i64 bu, .int .u64 stm, .slo 1 0 nq 0, .slo 2 0 nc 0, .slo 3 0 ns 0, .slo 4 0 nt 0, .int .u64 lv, .bool lh, .int .i64 lo, .int .i64 ph, .int .i64 at', .int .u64 now, .int .i64 ve, .int .i64 vr, .int .i64 vb] none, .cells qc (some 2), .cells cc (some 2), .cells sc (some 1), .cells tc (some 3)]
abbrev owL : List Nat := [0, 1, 4, 5, 6]
abbrev owT (v : Int) (i : Nat) : List (Nat × LV) := [(0, .ptr 0 0), (1, .int .i64 v), (6, .int .i64 i)]
theorem ow_a (v me stm : Int) (nq nc ns nt : Nat) (qc cc sc tc : List LV) (su en bu er lv : Int) (lh : Bool) (lo ph : Int) (at' : Nat) (now ve vb vr : Int) (K : Pk) : (xsp Go.Proofs.Try.prog (fun _ => none) 40 33 (seg (sp Go.Proofs.Try.prog 86) 0 2) (tm0 [.ptr 0 0, .int .i64 v]) (mkS (rE me stm nq nc ns nt qc cc sc tc su en bu er lv lh lo ph at' now ve vb vr)) (vK owL K)) = (
 K .normal [.ptr 0 0, .int .i64 v, .int .u64 0, .bool false, .int .i64 0] [some (.cells [.int .i64 me, .int .i64 su, .int .i64 en, .int .i64 er, .int .i64 bu, .int .u64 stm, .slo 1 0 nq 0, .slo 2 0 nc 0, .slo 3 0 ns 0, .slo 4 0 nt 0, .int .u64 lv, .bool lh, .int .i64 lo, .int .i64 ph, .int .i64 ↑at', .int .u64 now, .int .i64 ve, .int .i64 vr, .int .i64 vb] none), some (.cells qc (some 2)), some (.cells cc (some 2)), some (.cells sc (some 1)), some (.cells tc (some 3))] []) := by kernel_rfl
abbrev ow_b_b1 (me : Int) (stm : Int) (nq : Nat) (nc : Nat) (ns : Nat) (nt : Nat) (qc : List LV) (cc : List LV) (sc : List LV) (tc : List LV) (su : Int) (en : Int) (bu : Int) (er : Int) (lv : Int) (lh : Bool) (lo : Int) (ph : Int) (at' : Nat) (now : Int) (ve : Int) (vb : Int) (vr : Int) : List (Option LB) := [some (.cells [.int .i64 me, .int .i64 su, .int .i64 en, .int .i64 er, .int .i64 bu, .int .u64 stm, .slo 1 0 nq 0, .slo 2 0 nc 0, .slo 3 0 ns 0, .slo 4 0 nt 0, .int .u64 lv, .bool lh, .int .i64 lo, .int .i64 ph, .int .i64 ↑at', .int .u64 now, .int .i64 ve, .int .i64 vr, .int .i64 vb] none), some (.cells qc (some 2)), some (.cells cc (some 2)), some (.cells sc (some 1)), some (.cells tc (some 3))]
theorem ow_b (v : Int) (i : Nat) (me stm : Int) (nq nc ns nt : Nat) (qc cc sc tc : List LV) (su en bu er lv : Int) (lh : Bool) (lo ph : Int) (at' : Nat) (now ve vb vr : Int) (K : Pk) : (xcode Go.Proofs.Try.prog (fun _ => none) 40 33 (loopOf (nthC (sp Go.Proofs.Try.prog 86) 2)) (mkTm 33 (owT v i)) (mkS (rE me stm nq nc ns nt qc cc sc tc su en bu er lv lh lo ph at' now ve vb vr)) (vK owL K)) = (
 bif xcm .lss ↑i ↑nt then (
 bif xle (xadd (xnat ↑i) 1) ns then bif xle (xadd (xix 0 (xnat ↑i) 1) 1) (xln sc) then bif isI .i64 (nthD sc (xix 0 (xnat ↑i) 1)) then bif xcm .eql (asI (nthD sc (xix 0 (xnat ↑i) 1))) v then (
 bif xle (xadd (xnat ↑i) 1) nt then bif xle (xadd (xix 0 (xnat ↑i) 3) 1) (xln tc) then bif isI .u64 (nthD tc (xix 0 (xnat ↑i) 3)) then
 K .ret [.ptr 0 0, .int .i64 v, .int .u64 (asI (nthD tc (xix 0 (xnat ↑i) 3))), .bool true, .int .i64 ↑i] (ow_b_b1 me stm nq nc ns nt qc cc sc tc su en bu er lv lh lo ph at' now ve vb vr) [] else False else False else False)
 else (
 K .normal [.ptr 0 0, .int .i64 v, .any, .any, .int .i64 (xar .add .i64 (↑i) 1)] (ow_b_b1 me stm nq nc ns nt qc cc sc tc su en bu er lv lh lo ph at' now ve vb vr) []) else False else False else False)
 else (
 K (.exit 0) [.ptr 0 0, .int .i64 v, .any, .any, .int .i64 ↑i] (ow_b_b1 me stm nq nc ns nt qc cc sc tc su en bu er lv lh lo ph at' now ve vb vr) [])) := by kernel_rfl
theorem ow_z (me stm : Int) (nq nc ns nt : Nat) (qc cc sc tc : List LV) (su en bu er lv : Int) (lh : Bool) (lo ph : Int) (at' : Nat) (now ve vb vr : Int) (K : Pk) : (xsp Go.Proofs.Try.prog (fun _ => none) 40 33 ((sp Go.Proofs.Try.prog 86).drop 3) (mkTm 33 []) (mkS (rE me stm nq nc ns nt qc cc sc tc su en bu er lv lh lo ph at' now ve vb vr)) (vK owL K)) = (
 K .ret [.any, .any, .int .u64 0, .bool false, .any] [some (.cells [.int .i64 me, .int .i64 su, .int .i64 en, .int .i64 er, .int .i64 bu, .int .u64 stm, .slo 1 0 nq 0, .slo 2 0 nc 0, .slo 3 0 ns 0, .slo 4 0 nt 0, .int .u64 lv, .bool lh, .int .i64 lo, .int .i64 ph, .int .i64 ↑at', .int .u64 now, .int .i64 ve, .int .i64 vr, .int .i64 vb] none), some (.cells qc (some 2)), some (.cells cc (some 2)), some (.cells sc (some 1)), some (.cells tc (some 3))] []) := by kernel_rfl
/-! own -/
def owB (sc : List LV) (nt : Nat) (v : Int) : Bool := (idxOf ((decIi64 sc).take nt) v).isSome

def owV (sc tc : List LV) (nt : Nat) (v : Int) : Int := match idxOf ((decIi64 sc).take nt) v with
  | some i => ((decL tc).getD i (0, false, 0)).1
  | none => 0

def ownV (ss : List Int) (tk : List Lk) (v : Int) : Int := match idxOf (ss.take tk.length) v with
  | some i => (tk.getD i d0).1
  | none => 0
def ownB (ss : List Int) (tk : List Lk) (v : Int) : Bool := (idxOf (ss.take tk.length) v).isSome
abbrev rES (me stm : Int) (qs cs : List (Int × Int)) (ss : List Int) (s : CS) : List LB := rE me stm qs.length cs.length ss.length s.tk.length (encL cell qs) (encL cell cs) (encL (cI .i64) ss) (encL cL s.tk) s.su s.en s.bu s.er s.lk.1 s.lk.2.1 s.lk.2.2 s.ph s.at' s.now s.ve s.vb s.vr
theorem own_ok (me stm : Int) (qs cs : List (Int × Int)) (ss : List Int) (s : CS) (hs : ss.length ≤ 1000000) (ht : s.tk.length ≤ ss.length) (v : Int) :
    SFun Go.Proofs.Try.prog 86 [.ptr 0 0, .int .i64 v] (mkS (rES me stm qs cs ss s)) fun l t => l = .tup [.int .u64 (ownV ss s.tk v), .bool (ownB ss s.tk v)] ∧ t = mkS (rES me stm qs cs ss s) := by
  refine SFun.mono (SFun.pieces (Q := fun l b => l = .tup [.int .u64 (ownV ss s.tk v), .bool (ownB ss s.tk v)] ∧ b = rES me stm qs cs ss s) 33 5 owL [4, 5] (by kernel_rfl) rfl rfl rfl ?_) fun l s' ⟨b0, ⟨h1, h2⟩, h3⟩ => ⟨h1, by rw [h3, h2]⟩
  have nq := noids_c qs
  have nc := noids_c cs
  have nss := noIds_Ii64 ss
  have nt := noids_l s.tk
  have tl : (ss.take s.tk.length).length = s.tk.length := by simp; omega
  refine SSp.to noCx_ok (n := 40) (g := []) 2 2 rfl (σ := Unit) (fun _ => owT v 0) (fun _ => rES me stm qs cs ss s) (mkS_le (Nat.le_refl _)) (by kernel_rfl) ?_ fun _ => ?_
  · rw [ow_a]; exact ⟨rfl, (), [.id 0, .id 1, .id 2, .id 3, .id 4], by (refine ⟨by kernel_rfl, ?_, ?_⟩ <;> repeat first | exact okTms_nil | refine okTms_cons ?_ ?_ | exact okBlks_nil | refine okBlks_cons ?_ ?_ | exact lws_nil | refine lws_cons ?_ ?_ | exact lb_dead | exact zy1 | exact zy2 | exact lb_none | refine zy3 ?_ | exact zy4 | exact lw_any | exact lw_int | exact lw_bool | exact zy5 | exact zy6 | exact lw_nils | exact lw_slo_nils | exact zy7 | exact zy8 | exact zy9 | refine lw_tup ?_ | refine lw_agg ?_ | assumption)⟩
  refine SSp.code_to (g := []) 3 rfl (σ := {_k : Unit // idxOf (ss.take s.tk.length) v = none}) (fun _ => []) (fun _ => rES me stm qs cs ss s) (by kernel_rfl) ?_ fun ⟨_, hn⟩ => ?_
  · refine SCode.loop_vc noCx_ok (n := 40) 0 (by kernel_rfl) (σ := {i : Nat // i ≤ s.tk.length ∧ ∀ j (hj : j < (ss.take s.tk.length).length), j < i → (ss.take s.tk.length)[j] ≠ v}) (fun i => owT v i.1) (fun _ => rES me stm qs cs ss s) (fun i => s.tk.length - i.1) (fun _ => Nat.le_of_ble_eq_true rfl) (fun ⟨i, hi, hall⟩ => ?_) ⟨0, Nat.zero_le _, fun j hj h => absurd h (by omega)⟩
    dsimp only
    rw [ow_b, wd_lss]
    refine ite_way (fun hk => ?_) (fun hk => ⟨rfl, ⟨(), idxOf_none fun j hj => hall j hj (by omega)⟩, [.id 0, .id 1, .id 2, .id 3, .id 4], by (refine ⟨by kernel_rfl, ?_, ?_⟩ <;> repeat first | exact okTms_nil | refine okTms_cons ?_ ?_ | exact okBlks_nil | refine okBlks_cons ?_ ?_ | exact lws_nil | refine lws_cons ?_ ?_ | exact lb_dead | exact zy1 | exact zy2 | exact lb_none | refine zy3 ?_ | exact zy4 | exact lw_any | exact lw_int | exact lw_bool | exact zy5 | exact zy6 | exact lw_nils | exact lw_slo_nils | exact zy7 | exact zy8 | exact zy9 | refine lw_tup ?_ | refine lw_agg ?_ | assumption)⟩)
    have hix : i < ss.length := by omega
    have e3 : xar .add .i64 (i : Int) 1 = ((i + 1 : Nat) : Int) := inc_i64 hk (by omega)
    have et : (ss.take s.tk.length)[i]'(by omega) = ss[i] := by simp
    simp only [wd_nat, wd_asV, wd_isV, wd_ix, wd_add, wd_mul, wd_ln, Nat.zero_add, Nat.mul_one, wd_isI, wd_asI, wd_isB, wd_asB, wd_nn, cI_tlen, cB_tlen, cII_tlen, decide_true, cond_true, wd_not_t, wd_not_f, wd_and_t, wd_and_f, encIi64_nth hix, encIi64_len, e3, lk_0 hk, lk_n]
    (with_reducible repeat first | refine zq1 ?_ | refine zq2 ?_ | refine zq3 ?_ | refine zq4 ?_ | refine zq5 ?_ | refine zq6 ?_ | refine zq7 ?_ | refine zq8 ?_ | refine zq9 ?_ | refine zqa ?_ | refine zqb ?_ | refine zqc ?_ | refine zqd ?_ | refine zqe ?_ | refine zqf ?_ | refine zqg ?_ | refine zqh ?_ | refine zqi ?_ | refine zqj ?_ | refine zqk ?_ | refine zql ?_ | refine zqm ?_ | refine zqn ?_ | refine zqo ?_ | refine zqp ?_)
    refine ways (fun h1 => ?_) (fun h1 => ?_)
    · have h1' : ss[i] = v := by simpa [xcm_eql] using h1
      have hx : idxOf (ss.take s.tk.length) v = some i := idxOf_some (by omega : i < (ss.take s.tk.length).length) hall (by rw [et, h1'])
      have e4 : ownV ss s.tk v = s.tk[i].1 := by rw [ownV, hx]; simp [List.getD_eq_getElem?_getD, hk]
      have e5 : ownB ss s.tk v = true := by rw [ownB, hx]; rfl
      (with_reducible repeat first | refine zq1 ?_ | refine zq2 ?_ | refine zq3 ?_ | refine zq4 ?_ | refine zq5 ?_ | refine zq6 ?_ | refine zq7 ?_ | refine zq8 ?_ | refine zq9 ?_ | refine zqa ?_ | refine zqb ?_ | refine zqc ?_ | refine zqd ?_ | refine zqe ?_ | refine zqf ?_ | refine zqg ?_ | refine zqh ?_ | refine zqi ?_ | refine zqj ?_ | refine zqk ?_ | refine zql ?_ | refine zqm ?_ | refine zqn ?_ | refine zqo ?_ | refine zqp ?_)
      exact ⟨trivial, rfl, _, _, [.id 0, .id 1, .id 2, .id 3, .id 4], ⟨rfl, rfl⟩, by rw [e4, e5]; (refine ⟨by kernel_rfl, ?_, ?_⟩ <;> repeat first | exact okTms_nil | refine okTms_cons ?_ ?_ | exact okBlks_nil | refine okBlks_cons ?_ ?_ | exact lws_nil | refine lws_cons ?_ ?_ | exact lb_dead | exact zy1 | exact zy2 | exact lb_none | refine zy3 ?_ | exact zy4 | exact lw_any | exact lw_int | exact lw_bool | exact zy5 | exact zy6 | exact lw_nils | exact lw_slo_nils | exact zy7 | exact zy8 | exact zy9 | refine lw_tup ?_ | refine lw_agg ?_ | assumption)⟩
    · have h1' : ¬ ss[i] = v := by simpa [xcm_eql] using h1
      refine ⟨rfl, ⟨i + 1, hk, fun j hj hji => ?_⟩, by simp only; omega, [.id 0, .id 1, .id 2, .id 3, .id 4], by (refine ⟨by kernel_rfl, ?_, ?_⟩ <;> repeat first | exact okTms_nil | refine okTms_cons ?_ ?_ | exact okBlks_nil | refine okBlks_cons ?_ ?_ | exact lws_nil | refine lws_cons ?_ ?_ | exact lb_dead | exact zy1 | exact zy2 | exact lb_none | refine zy3 ?_ | exact zy4 | exact lw_any | exact lw_int | exact lw_bool | exact zy5 | exact zy6 | exact lw_nils | exact lw_slo_nils | exact zy7 | exact zy8 | exact zy9 | refine lw_tup ?_ | refine lw_agg ?_ | assumption)⟩
      rcases Nat.lt_succ_iff_lt_or_eq.1 hji with h | rfl
      · exact hall j hj h
      · rw [et]; exact h1'
  refine SSp.last noCx_ok (n := 40) (mkS_le (Nat.le_of_ble_eq_true rfl)) ?_
  have e4 : ownV ss s.tk v = 0 := by rw [ownV, hn]
  have e5 : ownB ss s.tk v = false := by rw [ownB, hn]; rfl
  rw [ow_z]
  exact ⟨trivial, rfl, _, _, [.id 0, .id 1, .id 2, .id 3, .id 4], ⟨rfl, rfl⟩, by rw [e4, e5]; (refine ⟨by kernel_rfl, ?_, ?_⟩ <;> repeat first | exact okTms_nil | refine okTms_cons ?_ ?_ | exact okBlks_nil | refine okBlks_cons ?_ ?_ | exact lws_nil | refine lws_cons ?_ ?_ | exact lb_dead | exact zy1 | exact zy2 | exact lb_none | refine zy3 ?_ | exact zy4 | exact lw_any | exact lw_int | exact lw_bool | exact zy5 | exact zy6 | exact lw_nils | exact lw_slo_nils | exact zy7 | exact zy8 | exact zy9 | refine lw_tup ?_ | refine lw_agg ?_ | assumption)⟩
abbrev rEi (me stm : Int) (nq nc ns nt : Nat) (qc cc sc tc : List LV) (su en bu er lv : Int) (lh : Bool) (lo ph a : Int) (now ve vb vr : Int) : List LB := [.cells [.int .i64 me, .int .i64 su, .int .i64 en, .int .i64 er, .int .i64 bu, .int .u64 stm, .slo 1 0 nq 0, .slo 2 0 nc 0, .slo 3 0 ns 0, .slo 4 0 nt 0, .int .u64 lv, .bool lh, .int .i64 lo, .int .i64 ph, .int .i64 a, .int .u64 now, .int .i64 ve, .int .i64 vr, .int .i64 vb] none, .cells qc (some 2), .cells cc (some 2), .cells sc (some 1), .cells tc (some 3)]
theorem own_c (v me stm : Int) (nq nc ns nt : Nat) (qc cc sc tc : List LV) (su en bu er lv : Int) (lh : Bool) (lo ph a now ve vb vr : Int) (k1 : okK qc cc sc tc nq nc ns nt = true) (k2 : xnn a = true) :
    SFun Go.Proofs.Try.prog 86 [.ptr 0 0, .int .i64 v] (mkS (rEi me stm nq nc ns nt qc cc sc tc su en bu er lv lh lo ph a now ve vb vr)) fun l t => l = .tup [.int .u64 (owV sc tc nt v), .bool (owB sc nt v)] ∧ t = mkS (rEi me stm nq nc ns nt qc cc sc tc su en bu er lv lh lo ph a now ve vb vr) := by
  obtain ⟨qs, cs, ss, tk, ⟨rfl, rfl, rfl, rfl⟩, ⟨rfl, rfl, rfl, rfl⟩, h1, h2, h3, h4⟩ := okK_iff.1 k1
  rw [wd_nni, decide_eq_true_eq] at k2
  obtain ⟨n, rfl⟩ := Int.eq_ofNat_of_zero_le k2
  have h := own_ok me stm qs cs ss ⟨tk, su, en, bu, er, (lv, lh, lo), ph, n, now, false, ve, vb, vr⟩ h3 h4 v
  simp only [owV, owB, decIi64_enc, decL_enc]
  exact h
def ownG : Gc := fun args s => match args, s.g with
  | [.ptr b 0, .int .i64 v], [] => (match s.h.get b with
    | some (.cells [.int .i64 me, .int .i64 su, .int .i64 en, .int .i64 er, .int .i64 bu, .int .u64 stm, .slo q 0 nq 0, .slo y 0 nc 0, .slo f 0 ns 0, .slo g 0 nt 0, .int .u64 lv, .bool lh, .int .i64 lo, .int .i64 ph, .int .i64 a, .int .u64 now, .int .i64 ve, .int .i64 vr, .int .i64 vb] none) => (match s.h.get q with
      | some (.cells qc (some 2)) => (match s.h.get y with
        | some (.cells cc (some 2)) => (match s.h.get f with
          | some (.cells sc (some 1)) => (match s.h.get g with
            | some (.cells tc (some 3)) => cond (nodupB [b, q, y, f, g]) (match s.lay [b, q, y, f, g] [.cells [.int .i64 me, .int .i64 su, .int .i64 en, .int .i64 er, .int .i64 bu, .int .u64 stm, .slo q 0 nq 0, .slo y 0 nc 0, .slo f 0 ns 0, .slo g 0 nt 0, .int .u64 lv, .bool lh, .int .i64 lo, .int .i64 ph, .int .i64 a, .int .u64 now, .int .i64 ve, .int .i64 vr, .int .i64 vb] none, .cells qc (some 2), .cells cc (some 2), .cells sc (some 1), .cells tc (some 3)] [] with
              | some s' => some ([okK qc cc sc tc nq nc ns nt, xnn a], .tup [.int .u64 (owV sc tc nt v), .bool (owB sc nt v)], s')
              | none => none) none
            | _ => none)
          | _ => none)
        | _ => none)
      | _ => none)
    | _ => none)
  | _, _ => none
theorem ownG_ok : GOk Go.Proofs.Try.prog 86 ownG := by
  intro args s bs l s' hg hb hfr
  unfold ownG at hg
  split at hg
  · rename_i b v hgl
    split at hg
    · rename_i me su en er bu stm q nq y nc f ns g nt lv lh lo ph a now ve vr vb hb0
      split at hg
      · rename_i qc hb1
        split at hg
        · rename_i cc hb2
          split at hg
          · rename_i sc hb3
            split at hg
            · rename_i tc hb4
              cases hbc : nodupB [b, q, y, f, g] with
              | false => rw [hbc] at hg; cases hg
              | true =>
                rw [hbc] at hg
                simp only [cond_true] at hg
                split at hg
                · rename_i s1 hs1
                  simp only [Option.some.injEq, Prod.mk.injEq] at hg
                  obtain ⟨rfl, rfl, rfl⟩ := hg
                  simp only [allT_cons] at hb
                  obtain ⟨k1, k2, _⟩ := hb
                  have no : noIds qc = true := by obtain ⟨_, _, _, _, ⟨e, _, _, _⟩, _⟩ := okK_iff.1 k1; rw [e]; exact noids_c _
                  have no2 : noIds cc = true := by obtain ⟨_, _, _, _, ⟨_, e, _, _⟩, _⟩ := okK_iff.1 k1; rw [e]; exact noids_c _
                  have no3 : noIds sc = true := by obtain ⟨_, _, _, _, ⟨_, _, e, _⟩, _⟩ := okK_iff.1 k1; rw [e]; exact noIds_Ii64 _
                  have no4 : noIds tc = true := by obtain ⟨_, _, _, _, ⟨_, _, _, e⟩, _⟩ := okK_iff.1 k1; rw [e]; exact noids_l _
                  refine SFun.lay (bs := [.cells [.int .i64 me, .int .i64 su, .int .i64 en, .int .i64 er, .int .i64 bu, .int .u64 stm, .slo 1 0 nq 0, .slo 2 0 nc 0, .slo 3 0 ns 0, .slo 4 0 nt 0, .int .u64 lv, .bool lh, .int .i64 lo, .int .i64 ph, .int .i64 a, .int .u64 now, .int .i64 ve, .int .i64 vr, .int .i64 vb] none, .cells qc (some 2), .cells cc (some 2), .cells sc (some 1), .cells tc (some 3)]) (args0 := [.ptr 0 0, .int .i64 v]) (bs' := [.cells [.int .i64 me, .int .i64 su, .int .i64 en, .int .i64 er, .int .i64 bu, .int .u64 stm, .slo 1 0 nq 0, .slo 2 0 nc 0, .slo 3 0 ns 0, .slo 4 0 nt 0, .int .u64 lv, .bool lh, .int .i64 lo, .int .i64 ph, .int .i64 a, .int .u64 now, .int .i64 ve, .int .i64 vr, .int .i64 vb] none, .cells qc (some 2), .cells cc (some 2), .cells sc (some 1), .cells tc (some 3)]) (v0 := .tup [.int .u64 (owV sc tc nt v), .bool (owB sc nt v)]) hfr hs1 (nodupB_nd hbc)
                    ⟨⟨there hfr hb0, _, hb0, by first | exact lb_same rfl | exact lb_cells (lws_cons (lw_int) (lws_cons (lw_int) (lws_cons (lw_int) (lws_cons (lw_int) (lws_cons (lw_int) (lws_cons (lw_int) (lws_cons (lw_slo rfl) (lws_cons (lw_slo rfl) (lws_cons (lw_slo rfl) (lws_cons (lw_slo rfl) (lws_cons (lw_int) (lws_cons (lw_bool) (lws_cons (lw_int) (lws_cons (lw_int) (lws_cons (lw_int) (lws_cons (lw_int) (lws_cons (lw_int) (lws_cons (lw_int) (lws_cons (lw_int) lws_nil))))))))))))))))))) (by simp), fun κ hκ => lb_cells (lws_cons (lw_int) (lws_cons (lw_int) (lws_cons (lw_int) (lws_cons (lw_int) (lws_cons (lw_int) (lws_cons (lw_int) (lws_cons (lw_slo (hκ 1 q rfl)) (lws_cons (lw_slo (hκ 2 y rfl)) (lws_cons (lw_slo (hκ 3 f rfl)) (lws_cons (lw_slo (hκ 4 g rfl)) (lws_cons (lw_int) (lws_cons (lw_bool) (lws_cons (lw_int) (lws_cons (lw_int) (lws_cons (lw_int) (lws_cons (lw_int) (lws_cons (lw_int) (lws_cons (lw_int) (lws_cons (lw_int) lws_nil))))))))))))))))))) (by simp)⟩, ⟨there hfr hb1, _, hb1, lb_same (by (first | assumption | exact noIds_tab (fun _ => rfl) _ _ | exact noIds_encL (fun _ => rfl) _ | rfl)), fun κ hκ => lb_same (by (first | assumption | exact noIds_tab (fun _ => rfl) _ _ | exact noIds_encL (fun _ => rfl) _ | rfl))⟩, ⟨there hfr hb2, _, hb2, lb_same (by (first | assumption | exact noIds_tab (fun _ => rfl) _ _ | exact noIds_encL (fun _ => rfl) _ | rfl)), fun κ hκ => lb_same (by (first | assumption | exact noIds_tab (fun _ => rfl) _ _ | exact noIds_encL (fun _ => rfl) _ | rfl))⟩, ⟨there hfr hb3, _, hb3, lb_same (by (first | assumption | exact noIds_tab (fun _ => rfl) _ _ | exact noIds_encL (fun _ => rfl) _ | rfl)), fun κ hκ => lb_same (by (first | assumption | exact noIds_tab (fun _ => rfl) _ _ | exact noIds_encL (fun _ => rfl) _ | rfl))⟩, ⟨there hfr hb4, _, hb4, lb_same (by (first | assumption | exact noIds_tab (fun _ => rfl) _ _ | exact noIds_encL (fun _ => rfl) _ | rfl)), fun κ hκ => lb_same (by (first | assumption | exact noIds_tab (fun _ => rfl) _ _ | exact noIds_encL (fun _ => rfl) _ | rfl))⟩, trivial⟩ (by ((repeat refine lws_cons (by (first | exact lw_any | exact lw_int | exact lw_bool | exact lw_ptr rfl | exact lw_slo rfl | exact lw_nilp | exact lw_nils | exact lw_str | exact lw_slo_nils | exact lw_slo_sle | exact lw_sl rfl | exact lw_unb | exact lw_gptr | exact lw_noid rfl | exact lw_cap rfl (Nat.le_refl _) | exact lw_cap rfl (by omega) | assumption | exact lw_tup (by ((repeat refine lws_cons (by (first | exact lw_any | exact lw_int | exact lw_bool | exact lw_ptr rfl | exact lw_slo rfl | exact lw_nilp | exact lw_nils | exact lw_str | exact lw_slo_nils | exact lw_slo_sle | exact lw_sl rfl | exact lw_unb | exact lw_gptr | exact lw_noid rfl | exact lw_cap rfl (Nat.le_refl _) | exact lw_cap rfl (by omega) | assumption)) ?_); exact lws_nil)))) ?_); exact lws_nil)) ?_
                    fun κ h1 h2 => ⟨⟨lb_cells (lws_cons (lw_int) (lws_cons (lw_int) (lws_cons (lw_int) (lws_cons (lw_int) (lws_cons (lw_int) (lws_cons (lw_int) (lws_cons (lw_slo (h1 1 q rfl)) (lws_cons (lw_slo (h1 2 y rfl)) (lws_cons (lw_slo (h1 3 f rfl)) (lws_cons (lw_slo (h1 4 g rfl)) (lws_cons (lw_int) (lws_cons (lw_bool) (lws_cons (lw_int) (lws_cons (lw_int) (lws_cons (lw_int) (lws_cons (lw_int) (lws_cons (lw_int) (lws_cons (lw_int) (lws_cons (lw_int) lws_nil))))))))))))))))))) (by simp), lb_same (by (first | assumption | exact noIds_tab (fun _ => rfl) _ _ | exact noIds_encL (fun _ => rfl) _ | rfl)), lb_same (by (first | assumption | exact noIds_tab (fun _ => rfl) _ _ | exact noIds_encL (fun _ => rfl) _ | rfl)), lb_same (by (first | assumption | exact noIds_tab (fun _ => rfl) _ _ | exact noIds_encL (fun _ => rfl) _ | rfl)), lb_same (by (first | assumption | exact noIds_tab (fun _ => rfl) _ _ | exact noIds_encL (fun _ => rfl) _ | rfl)), trivial⟩, lw_noid rfl⟩
                  rw [hgl]; exact (own_c v me stm nq nc ns nt qc cc sc tc su en bu er lv lh lo ph a now ve vb vr k1 k2)
                · cases hg
            · cases hg
          · cases hg
        · cases hg
      · cases hg
    · cases hg
  · cases hg
def cxr : Cx := cxl [(86, ownG)]
abbrev lkL : List Nat := [0]
abbrev lkT : List (Nat × LV) := [(0, .ptr 0 0)]
theorem lk_a (me stm : Int) (nq nc ns nt : Nat) (qc cc sc tc : List LV) (su bu er lv : Int) (lh : Bool) (lo : Int) (at' : Nat) (now ve vb vr : Int) (K : Pk) : (xsp Go.Proofs.Try.prog cxr 40 56 (seg (sp Go.Proofs.Try.prog 61) 0 0) (tm0 [.ptr 0 0]) (mkS (rE me stm nq nc ns nt qc cc sc tc su 0 bu er lv lh lo 4 at' now ve vb vr)) (vK lkL K)) = (
 K .normal [.ptr 0 0] [some (.cells [.int .i64 me, .int .i64 su, .int .i64 0, .int .i64 er, .int .i64 bu, .int .u64 stm, .slo 1 0 nq 0, .slo 2 0 nc 0, .slo 3 0 ns 0, .slo 4 0 nt 0, .int .u64 lv, .bool lh, .int .i64 lo, .int .i64 4, .int .i64 ↑at', .int .u64 now, .int .i64 ve, .int .i64 vr, .int .i64 vb] none), some (.cells qc (some 2)), some (.cells cc (some 2)), some (.cells sc (some 1)), some (.cells tc (some 3))] []) := by kernel_rfl
abbrev lk_b_b1 (me : Int) (stm : Int) (nq : Nat) (nc : Nat) (ns : Nat) (nt : Nat) (qc : List LV) (cc : List LV) (sc : List LV) (tc : List LV) (su : Int) (bu : Int) (er : Int) (lv : Int) (lh : Bool) (lo : Int) (at' : Nat) (now : Int) (ve : Int) (vb : Int) (vr : Int) : List (Option LB) := [some (.cells [.int .i64 me, .int .i64 su, .int .i64 0, .int .i64 er, .int .i64 bu, .int .u64 stm, .slo 1 0 nq 0, .slo 2 0 nc 0, .slo 3 0 ns 0, .slo 4 0 nt 0, .int .u64 lv, .bool lh, .int .i64 lo, .int .i64 4, .int .i64 ↑at', .int .u64 now, .int .i64 ve, .int .i64 vr, .int .i64 vb] none), some (.cells qc (some 2)), some (.cells cc (some 2)), some (.cells sc (some 1)), some (.cells tc (some 3))]
theorem lk_b (me stm : Int) (nq nc ns nt : Nat) (qc cc sc tc : List LV) (su bu er lv : Int) (lh : Bool) (lo : Int) (at' : Nat) (now ve vb vr : Int) (K : Pk) : (xcode Go.Proofs.Try.prog cxr 40 56 (loopOf (nthC (sp Go.Proofs.Try.prog 61) 0)) (mkTm 56 lkT) (mkS (rE me stm nq nc ns nt qc cc sc tc su 0 bu er lv lh lo 4 at' now ve vb vr)) (vK lkL K)) = (
 bif xcm .lss ↑at' ↑nq then (
 bif xle (xadd (xnat ↑at') 1) nq then bif xle (xadd (xix 0 (xnat ↑at') 2) 1) (xln qc) then bif isI .i64 (nthD qc (xix 0 (xnat ↑at') 2)) then bif okK qc cc sc tc nq nc ns nt then bif xnot (owB sc nt (asI (nthD qc (xix 0 (xnat ↑at') 2)))) then (
 K .ret [.ptr 0 0] (lk_b_b1 me stm nq nc ns nt qc cc sc tc su bu er lv lh lo at' now ve vb vr) [])
 else (
 bif xle (xadd (xnat ↑at') 1) nq then bif xle (xadd (xadd (xix 0 (xnat ↑at') 2) 1) 1) (xln qc) then bif isI .u64 (nthD qc (xadd (xix 0 (xnat ↑at') 2) 1)) then bif xcm .neq (owV sc tc nt (asI (nthD qc (xix 0 (xnat ↑at') 2)))) (asI (nthD qc (xadd (xix 0 (xnat ↑at') 2) 1))) then (
 bif xcm .gtr (↑nt) 0 then (
 K .ret [.ptr 0 0] [some (.cells [.int .i64 me, .int .i64 su, .int .i64 0, .int .i64 0, .int .i64 (-1), .int .u64 stm, .slo 1 0 nq 0, .slo 2 0 nc 0, .slo 3 0 ns 0, .slo 4 0 nt 0, .int .u64 lv, .bool lh, .int .i64 lo, .int .i64 7, .int .i64 0, .int .u64 now, .int .i64 5, .int .i64 0, .int .i64 (-1)] none), some (.cells qc (some 2)), some (.cells cc (some 2)), some (.cells sc (some 1)), some (.cells tc (some 3))] [])
 else (
 K .ret [.ptr 0 0] [some (.cells [.int .i64 me, .int .i64 su, .int .i64 5, .int .i64 0, .int .i64 (-1), .int .u64 stm, .slo 1 0 nq 0, .slo 2 0 nc 0, .slo 3 0 ns 0, .slo 4 0 nt 0, .int .u64 lv, .bool lh, .int .i64 lo, .int .i64 4, .int .i64 ↑at', .int .u64 now, .int .i64 ve, .int .i64 vr, .int .i64 vb] none), some (.cells qc (some 2)), some (.cells cc (some 2)), some (.cells sc (some 1)), some (.cells tc (some 3))] []))
 else (
 K .normal [.ptr 0 0] [some (.cells [.int .i64 me, .int .i64 su, .int .i64 0, .int .i64 er, .int .i64 bu, .int .u64 stm, .slo 1 0 nq 0, .slo 2 0 nc 0, .slo 3 0 ns 0, .slo 4 0 nt 0, .int .u64 lv, .bool lh, .int .i64 lo, .int .i64 4, .int .i64 (xar .add .i64 (↑at') 1), .int .u64 now, .int .i64 ve, .int .i64 vr, .int .i64 vb] none), some (.cells qc (some 2)), some (.cells cc (some 2)), some (.cells sc (some 1)), some (.cells tc (some 3))] []) else False else False else False) else False else False else False else False)
 else (
 K (.exit 0) [.ptr 0 0] (lk_b_b1 me stm nq nc ns nt qc cc sc tc su bu er lv lh lo at' now ve vb vr) [])) := by kernel_rfl
theorem lk_z (me stm : Int) (nq nc ns nt : Nat) (qc cc sc tc : List LV) (su bu er lv : Int) (lh : Bool) (lo : Int) (at' : Nat) (now ve vb vr : Int) (K : Pk) : (xsp Go.Proofs.Try.prog cxr 40 56 ((sp Go.Proofs.Try.prog 61).drop 1) (mkTm 56 lkT) (mkS (rE me stm nq nc ns nt qc cc sc tc su 0 bu er lv lh lo 4 at' now ve vb vr)) (vK lkL K)) = (
 bif xcm .eql (↑nc) 0 then (
 bif xcm .eql (↑ns) 0 then (
 K .normal [.ptr 0 0] [some (.cells [.int .i64 me, .int .i64 su, .int .i64 2, .int .i64 er, .int .i64 bu, .int .u64 stm, .slo 1 0 nq 0, .slo 2 0 nc 0, .slo 3 0 ns 0, .slo 4 0 nt 0, .int .u64 lv, .bool lh, .int .i64 lo, .int .i64 6, .int .i64 0, .int .u64 now, .int .i64 ve, .int .i64 vr, .int .i64 vb] none), some (.cells qc (some 2)), some (.cells cc (some 2)), some (.cells sc (some 1)), some (.cells tc (some 3))] [])
 else (
 K .normal [.ptr 0 0] [some (.cells [.int .i64 me, .int .i64 su, .int .i64 0, .int .i64 er, .int .i64 bu, .int .u64 stm, .slo 1 0 nq 0, .slo 2 0 nc 0, .slo 3 0 ns 0, .slo 4 0 nt 0, .int .u64 lv, .bool lh, .int .i64 lo, .int .i64 6, .int .i64 0, .int .u64 now, .int .i64 ve, .int .i64 vr, .int .i64 vb] none), some (.cells qc (some 2)), some (.cells cc (some 2)), some (.cells sc (some 1)), some (.cells tc (some 3))] []))
 else (
 K .normal [.ptr 0 0] [some (.cells [.int .i64 me, .int .i64 su, .int .i64 0, .int .i64 er, .int .i64 bu, .int .u64 stm, .slo 1 0 nq 0, .slo 2 0 nc 0, .slo 3 0 ns 0, .slo 4 0 nt 0, .int .u64 lv, .bool lh, .int .i64 lo, .int .i64 5, .int .i64 0, .int .u64 now, .int .i64 ve, .int .i64 vr, .int .i64 vb] none), some (.cells qc (some 2)), some (.cells cc (some 2)), some (.cells sc (some 1)), some (.cells tc (some 3))] [])) := by kernel_rfl
end
end Go.Lev
