/- chapter 4: the loop of the law as a contract -/
import Derived.Test.YtbggbmcijhnijaaCW4
import Derived.Test.YtbggbmcijhnijaaLc
import Derived.Test.YtbggbmcijhnijaaChecked
import Derived.KernelRfl

namespace Go.Lev
open Go.RowKit
set_option linter.unusedVariables false
set_option linter.unusedSimpArgs false
set_option maxRecDepth 100000
noncomputable section
def nxt (N C : Int) (q : Ask4) : Int × Int :=
  if q.1 then (kN N N (xar .add .u64 N (xwr .u64 (xar .rem .u8 q.2.2.2 5))), kC N (xar .add .u64 N (xwr .u64 (xar .rem .u8 q.2.2.2 5))) C) else (kN N q.2.1 q.2.2.1, kC q.2.1 q.2.2.1 C)
def runC (ops : Nat → Ask4) (N C : Int) : Nat → Int × Int
  | 0 => (N, C)
  | i + 1 => nxt (runC ops N C i).1 (runC ops N C i).2 (ops i)
def decA : List LV → Ask4
  | [.bool a, .int _ b, .int _ c, .int _ d] => (a, b, c, d)
  | _ => (false, 0, 0, 0)
def decOps (ax : List LV) (k : Nat) : Ask4 := decA ((ax.drop (k * 4)).take 4)
theorem decOps_enc {xs : List Ask4} {k : Nat} (h : k < xs.length) : decOps (encL askL xs) k = xs[k] := by
  have e1 := encL_drop askL_len k xs
  have e2 := encL_take askL_len 1 (xs.drop k)
  rw [Nat.one_mul] at e2
  rw [decOps, e1, e2, List.drop_eq_getElem_cons h]
  rfl
theorem xcm_self (x : Int) : xcm .eql x x = true := t_eql rfl
theorem xnm_self (x : Int) : xcm .neq x x = false := f_neq rfl
theorem xbq_self (x : Bool) : xbq x x = true := by simp [wd_bq]
theorem do_fun (xs : List Ask4) (n : Nat) (en : xs.length = n) (hn : n ≤ 9223372036854775807) (sa sb sc sd se N C : Int) (nw nl ns : Nat) (ws ls ss : List LV) (o1 : okIu64 ws nw = true) (o2 : okL ls nl = true) (o3 : okIu64 ss ns = true) (w1 : nw ≤ 1000000) (w3 : ns ≤ 1000000) :
    SFun Go.Proofs.Try.prog 13 [.ptr 0 0, .ptr 1 0, .slo 5 0 n 0] (mkS (dH sa sb sc sd se N C nw nl ns ws ls ss (encL askL xs)))
    fun l s => l = .bool true ∧ s = mkS (dH sa sb sc sd se (runC (decOps (encL askL xs)) N C (min n 60)).1 (runC (decOps (encL askL xs)) N C (min n 60)).2 nw nl ns ws ls ss (encL askL xs)) := by
  refine SFun.mono (SFun.pieces (Q := fun l b => l = .bool true ∧ b = dH sa sb sc sd se (runC (decOps (encL askL xs)) N C (min n 60)).1 (runC (decOps (encL askL xs)) N C (min n 60)).2 nw nl ns ws ls ss (encL askL xs)) 75 6 doL [6] (by kernel_rfl) rfl rfl rfl ?_) fun l s' ⟨b0, ⟨h1, h2⟩, h3⟩ => ⟨h1, by rw [h3, h2]⟩
  have nx := noids_a xs
  have n1 : noIds ws = true := by obtain ⟨_, e, _⟩ := okIu64_iff.1 o1; rw [e]; exact noIds_Iu64 _
  have n2 : noIds ls = true := by obtain ⟨_, e, _⟩ := okL_iff.1 o2; rw [e]; exact noids_l _
  have n3 : noIds ss = true := by obtain ⟨_, e, _⟩ := okIu64_iff.1 o3; rw [e]; exact noIds_Iu64 _
  refine SSp.to cxd_ok (n := 40) (g := []) 2 2 rfl (σ := Unit) (fun _ => doT n 0) (fun _ => dH sa sb sc sd se N C nw nl ns ws ls ss (encL askL xs)) (mkS_le (Nat.le_refl _)) (by kernel_rfl) ?_ fun _ => ?_
  · rw [do_a]
    exact ⟨rfl, (), [.id 0, .id 1, .id 2, .id 3, .id 4, .id 5], by (exact ⟨by kernel_rfl, by ((repeat refine okTms_cons (by (first | exact lw_any | exact lw_int | exact lw_bool | exact lw_ptr rfl | exact lw_slo rfl | exact lw_nilp | exact lw_nils | exact lw_str | exact lw_slo_nils | exact lw_slo_sle | exact lw_sl rfl | exact lw_unb | exact lw_gptr | exact lw_noid rfl | exact lw_cap rfl (Nat.le_refl _) | exact lw_cap rfl (by omega) | assumption)) ?_); exact okTms_nil), by ((repeat refine okBlks_cons (by (first | exact lb_dead | exact lb_same (by (first | assumption | exact noIds_tab (fun _ => rfl) _ _ | exact noIds_encL (fun _ => rfl) _ | rfl)) | exact lb_ro (by (first | assumption | exact noIds_tab (fun _ => rfl) _ _ | exact noIds_encL (fun _ => rfl) _ | rfl)) | exact lb_none | exact lb_cells (by ((repeat refine lws_cons (by (first | exact lw_any | exact lw_int | exact lw_bool | exact lw_ptr rfl | exact lw_slo rfl | exact lw_nilp | exact lw_nils | exact lw_str | exact lw_slo_nils | exact lw_slo_sle | exact lw_sl rfl | exact lw_unb | exact lw_gptr | exact lw_noid rfl | exact lw_cap rfl (Nat.le_refl _) | exact lw_cap rfl (by omega) | assumption)) ?_); exact lws_nil)) (by simp) | exact lb_iter | exact lb_cap (Nat.le_refl _) (Nat.le_refl _) rfl rfl | exact lb_capn (by assumption) (by (first | assumption | exact noIds_tab (fun _ => rfl) _ _ | exact noIds_encL (fun _ => rfl) _ | rfl)) | assumption)) ?_); exact okBlks_nil)⟩)⟩
  refine SSp.code_to (g := []) 3 rfl (σ := Unit) (fun _ => doT n (min n 60)) (fun _ => dH sa sb sc sd se (runC (decOps (encL askL xs)) N C (min n 60)).1 (runC (decOps (encL askL xs)) N C (min n 60)).2 nw nl ns ws ls ss (encL askL xs)) (by kernel_rfl) ?_ fun _ => ?_
  · refine SCode.loop_vc cxd_ok (n := 40) 0 (by kernel_rfl) (σ := {i : Nat // i ≤ n ∧ i ≤ 60}) (fun i => doT n i.1) (fun i => dH sa sb sc sd se (runC (decOps (encL askL xs)) N C i.1).1 (runC (decOps (encL askL xs)) N C i.1).2 nw nl ns ws ls ss (encL askL xs)) (fun i => n - i.1) (fun _ => Nat.le_of_ble_eq_true rfl) (fun ⟨i, hi, hi60⟩ => ?_) ⟨0, Nat.zero_le _, Nat.zero_le _⟩
    dsimp only
    have rs : runC (decOps (encL askL xs)) N C (i + 1) = nxt (runC (decOps (encL askL xs)) N C i).1 (runC (decOps (encL askL xs)) N C i).2 (decOps (encL askL xs) i) := rfl
    generalize hM : runC (decOps (encL askL xs)) N C i = M at *
    rw [do_b, wd_lss]
    refine ite_way (fun h1 => ?_) (fun h1 => ?_)
    · rw [show (60 : Int) = ((60 : Nat) : Int) from rfl, wd_lss]
      refine ite_way (fun h2 => ?_) (fun h2 => ?_)
      · have hix : i < xs.length := by omega
        rw [decOps_enc hix] at rs
        simp only [wd_nat, wd_ix, wd_add, wd_mul, wd_ln, Nat.zero_add, Nat.mul_one, wd_isI, wd_asI, wd_isB, wd_asB, wd_nn, cI_tlen, cB_tlen, cII_tlen, decide_true, cond_true, wd_not_t, wd_not_f, wd_and_t, wd_and_f, ask_0 hix, ask_1 hix, ask_2 hix, ask_3 hix, ask_n, o1, o2, o3, xcm_self, xnm_self, xbq_self, cond_false, inc_i64 h1 hn]
        (repeat (with_reducible refine must (by (first | with_reducible rfl | exact t_le (by omega) | exact t_eq (by omega) | exact t_nn (by omega) | exact t_lss (by omega) | exact t_leq (by omega) | exact t_gtr (by omega) | exact t_geq (by omega) | exact t_eql (by omega) | exact t_neq (by omega) | exact t_z (by omega) | exact wd_not_f | assumption)) ?_))
        refine ways (fun hq => ?_) (fun hq => ?_)
        · (repeat (with_reducible refine must (by (first | with_reducible rfl | exact t_le (by omega) | exact t_eq (by omega) | exact t_nn (by omega) | exact t_lss (by omega) | exact t_leq (by omega) | exact t_gtr (by omega) | exact t_geq (by omega) | exact t_eql (by omega) | exact t_neq (by omega) | exact t_z (by omega) | exact wd_not_f | assumption)) ?_))
          exact ⟨rfl, ⟨i + 1, h1, h2⟩, by simp only; omega, [.id 0, .id 1, .id 2, .id 3, .id 4, .id 5], by simp only [rs, nxt, hq, if_true]; (exact ⟨by kernel_rfl, by ((repeat refine okTms_cons (by (first | exact lw_any | exact lw_int | exact lw_bool | exact lw_ptr rfl | exact lw_slo rfl | exact lw_nilp | exact lw_nils | exact lw_str | exact lw_slo_nils | exact lw_slo_sle | exact lw_sl rfl | exact lw_unb | exact lw_gptr | exact lw_noid rfl | exact lw_cap rfl (Nat.le_refl _) | exact lw_cap rfl (by omega) | assumption)) ?_); exact okTms_nil), by ((repeat refine okBlks_cons (by (first | exact lb_dead | exact lb_same (by (first | assumption | exact noIds_tab (fun _ => rfl) _ _ | exact noIds_encL (fun _ => rfl) _ | rfl)) | exact lb_ro (by (first | assumption | exact noIds_tab (fun _ => rfl) _ _ | exact noIds_encL (fun _ => rfl) _ | rfl)) | exact lb_none | exact lb_cells (by ((repeat refine lws_cons (by (first | exact lw_any | exact lw_int | exact lw_bool | exact lw_ptr rfl | exact lw_slo rfl | exact lw_nilp | exact lw_nils | exact lw_str | exact lw_slo_nils | exact lw_slo_sle | exact lw_sl rfl | exact lw_unb | exact lw_gptr | exact lw_noid rfl | exact lw_cap rfl (Nat.le_refl _) | exact lw_cap rfl (by omega) | assumption)) ?_); exact lws_nil)) (by simp) | exact lb_iter | exact lb_cap (Nat.le_refl _) (Nat.le_refl _) rfl rfl | exact lb_capn (by assumption) (by (first | assumption | exact noIds_tab (fun _ => rfl) _ _ | exact noIds_encL (fun _ => rfl) _ | rfl)) | assumption)) ?_); exact okBlks_nil)⟩)⟩
        · (repeat (with_reducible refine must (by (first | with_reducible rfl | exact t_le (by omega) | exact t_eq (by omega) | exact t_nn (by omega) | exact t_lss (by omega) | exact t_leq (by omega) | exact t_gtr (by omega) | exact t_geq (by omega) | exact t_eql (by omega) | exact t_neq (by omega) | exact t_z (by omega) | exact wd_not_f | assumption)) ?_))
          exact ⟨rfl, ⟨i + 1, h1, h2⟩, by simp only; omega, [.id 0, .id 1, .id 2, .id 3, .id 4, .id 5], by simp only [rs, nxt, hq, Bool.false_eq_true, if_false]; (exact ⟨by kernel_rfl, by ((repeat refine okTms_cons (by (first | exact lw_any | exact lw_int | exact lw_bool | exact lw_ptr rfl | exact lw_slo rfl | exact lw_nilp | exact lw_nils | exact lw_str | exact lw_slo_nils | exact lw_slo_sle | exact lw_sl rfl | exact lw_unb | exact lw_gptr | exact lw_noid rfl | exact lw_cap rfl (Nat.le_refl _) | exact lw_cap rfl (by omega) | assumption)) ?_); exact okTms_nil), by ((repeat refine okBlks_cons (by (first | exact lb_dead | exact lb_same (by (first | assumption | exact noIds_tab (fun _ => rfl) _ _ | exact noIds_encL (fun _ => rfl) _ | rfl)) | exact lb_ro (by (first | assumption | exact noIds_tab (fun _ => rfl) _ _ | exact noIds_encL (fun _ => rfl) _ | rfl)) | exact lb_none | exact lb_cells (by ((repeat refine lws_cons (by (first | exact lw_any | exact lw_int | exact lw_bool | exact lw_ptr rfl | exact lw_slo rfl | exact lw_nilp | exact lw_nils | exact lw_str | exact lw_slo_nils | exact lw_slo_sle | exact lw_sl rfl | exact lw_unb | exact lw_gptr | exact lw_noid rfl | exact lw_cap rfl (Nat.le_refl _) | exact lw_cap rfl (by omega) | assumption)) ?_); exact lws_nil)) (by simp) | exact lb_iter | exact lb_cap (Nat.le_refl _) (Nat.le_refl _) rfl rfl | exact lb_capn (by assumption) (by (first | assumption | exact noIds_tab (fun _ => rfl) _ _ | exact noIds_encL (fun _ => rfl) _ | rfl)) | assumption)) ?_); exact okBlks_nil)⟩)⟩
      · have e : i = min n 60 := by omega
        exact ⟨rfl, (), [.id 0, .id 1, .id 2, .id 3, .id 4, .id 5], by rw [← e, hM]; (exact ⟨by kernel_rfl, by ((repeat refine okTms_cons (by (first | exact lw_any | exact lw_int | exact lw_bool | exact lw_ptr rfl | exact lw_slo rfl | exact lw_nilp | exact lw_nils | exact lw_str | exact lw_slo_nils | exact lw_slo_sle | exact lw_sl rfl | exact lw_unb | exact lw_gptr | exact lw_noid rfl | exact lw_cap rfl (Nat.le_refl _) | exact lw_cap rfl (by omega) | assumption)) ?_); exact okTms_nil), by ((repeat refine okBlks_cons (by (first | exact lb_dead | exact lb_same (by (first | assumption | exact noIds_tab (fun _ => rfl) _ _ | exact noIds_encL (fun _ => rfl) _ | rfl)) | exact lb_ro (by (first | assumption | exact noIds_tab (fun _ => rfl) _ _ | exact noIds_encL (fun _ => rfl) _ | rfl)) | exact lb_none | exact lb_cells (by ((repeat refine lws_cons (by (first | exact lw_any | exact lw_int | exact lw_bool | exact lw_ptr rfl | exact lw_slo rfl | exact lw_nilp | exact lw_nils | exact lw_str | exact lw_slo_nils | exact lw_slo_sle | exact lw_sl rfl | exact lw_unb | exact lw_gptr | exact lw_noid rfl | exact lw_cap rfl (Nat.le_refl _) | exact lw_cap rfl (by omega) | assumption)) ?_); exact lws_nil)) (by simp) | exact lb_iter | exact lb_cap (Nat.le_refl _) (Nat.le_refl _) rfl rfl | exact lb_capn (by assumption) (by (first | assumption | exact noIds_tab (fun _ => rfl) _ _ | exact noIds_encL (fun _ => rfl) _ | rfl)) | assumption)) ?_); exact okBlks_nil)⟩)⟩
    · have e : i = min n 60 := by omega
      exact ⟨rfl, (), [.id 0, .id 1, .id 2, .id 3, .id 4, .id 5], by rw [← e, hM]; (exact ⟨by kernel_rfl, by ((repeat refine okTms_cons (by (first | exact lw_any | exact lw_int | exact lw_bool | exact lw_ptr rfl | exact lw_slo rfl | exact lw_nilp | exact lw_nils | exact lw_str | exact lw_slo_nils | exact lw_slo_sle | exact lw_sl rfl | exact lw_unb | exact lw_gptr | exact lw_noid rfl | exact lw_cap rfl (Nat.le_refl _) | exact lw_cap rfl (by omega) | assumption)) ?_); exact okTms_nil), by ((repeat refine okBlks_cons (by (first | exact lb_dead | exact lb_same (by (first | assumption | exact noIds_tab (fun _ => rfl) _ _ | exact noIds_encL (fun _ => rfl) _ | rfl)) | exact lb_ro (by (first | assumption | exact noIds_tab (fun _ => rfl) _ _ | exact noIds_encL (fun _ => rfl) _ | rfl)) | exact lb_none | exact lb_cells (by ((repeat refine lws_cons (by (first | exact lw_any | exact lw_int | exact lw_bool | exact lw_ptr rfl | exact lw_slo rfl | exact lw_nilp | exact lw_nils | exact lw_str | exact lw_slo_nils | exact lw_slo_sle | exact lw_sl rfl | exact lw_unb | exact lw_gptr | exact lw_noid rfl | exact lw_cap rfl (Nat.le_refl _) | exact lw_cap rfl (by omega) | assumption)) ?_); exact lws_nil)) (by simp) | exact lb_iter | exact lb_cap (Nat.le_refl _) (Nat.le_refl _) rfl rfl | exact lb_capn (by assumption) (by (first | assumption | exact noIds_tab (fun _ => rfl) _ _ | exact noIds_encL (fun _ => rfl) _ | rfl)) | assumption)) ?_); exact okBlks_nil)⟩)⟩
  refine SSp.last cxd_ok (n := 40) (mkS_le (Nat.le_of_ble_eq_true rfl)) ?_
  rw [do_z]
  exact ⟨trivial, rfl, _, _, [.id 0, .id 1, .id 2, .id 3, .id 4, .id 5], ⟨rfl, rfl⟩, by (exact ⟨by kernel_rfl, by ((repeat refine okTms_cons (by (first | exact lw_any | exact lw_int | exact lw_bool | exact lw_ptr rfl | exact lw_slo rfl | exact lw_nilp | exact lw_nils | exact lw_str | exact lw_slo_nils | exact lw_slo_sle | exact lw_sl rfl | exact lw_unb | exact lw_gptr | exact lw_noid rfl | exact lw_cap rfl (Nat.le_refl _) | exact lw_cap rfl (by omega) | assumption)) ?_); exact okTms_nil), by ((repeat refine okBlks_cons (by (first | exact lb_dead | exact lb_same (by (first | assumption | exact noIds_tab (fun _ => rfl) _ _ | exact noIds_encL (fun _ => rfl) _ | rfl)) | exact lb_ro (by (first | assumption | exact noIds_tab (fun _ => rfl) _ _ | exact noIds_encL (fun _ => rfl) _ | rfl)) | exact lb_none | exact lb_cells (by ((repeat refine lws_cons (by (first | exact lw_any | exact lw_int | exact lw_bool | exact lw_ptr rfl | exact lw_slo rfl | exact lw_nilp | exact lw_nils | exact lw_str | exact lw_slo_nils | exact lw_slo_sle | exact lw_sl rfl | exact lw_unb | exact lw_gptr | exact lw_noid rfl | exact lw_cap rfl (Nat.le_refl _) | exact lw_cap rfl (by omega) | assumption)) ?_); exact lws_nil)) (by simp) | exact lb_iter | exact lb_cap (Nat.le_refl _) (Nat.le_refl _) rfl rfl | exact lb_capn (by assumption) (by (first | assumption | exact noIds_tab (fun _ => rfl) _ _ | exact noIds_encL (fun _ => rfl) _ | rfl)) | assumption)) ?_); exact okBlks_nil)⟩)⟩
def okR (ax : List LV) (n : Nat) : Bool := @decide (∃ xs : List Ask4, ax = encL askL xs ∧ xs.length = n ∧ n ≤ 9223372036854775807) (Classical.propDecidable _)

theorem okR_iff {ax : List LV} {n : Nat} : okR ax n = true ↔ ∃ xs : List Ask4, ax = encL askL xs ∧ xs.length = n ∧ n ≤ 9223372036854775807 := by simp only [okR, decide_eq_true_eq]
theorem okR_enc {xs : List Ask4} {n : Nat} (h : xs.length = n) (hn : n ≤ 9223372036854775807) : okR (encL askL xs) n = true := okR_iff.2 ⟨xs, rfl, h, hn⟩
def iN (n : Nat) (ax : List LV) (N C : Int) : Int := (runC (decOps ax) N C (min n 60)).1

def iC (n : Nat) (ax : List LV) (N C : Int) : Int := (runC (decOps ax) N C (min n 60)).2

def doG : Gc := fun args s => match args, s.g with
  | [.ptr c 0, .ptr b 0, .slo d 0 n 0], [] => (match s.h.get c, s.h.get b, s.h.get d with
    | some (.cells [.int .u64 N'] none), some (.cells [.int .i64 sa, .int .i64 sb, .int .i64 sc, .int .i64 sd, .int .u64 se, .slo b1 0 nw 0, .slo b2 0 nl 0, .int .u64 N, .slo b3 0 ns 0, .int .i64 C] none), some (.ro ax) => (match s.h.get b1, s.h.get b2, s.h.get b3 with
      | some (.cells ws (some 1)), some (.cells ls (some 3)), some (.cells ss (some 1)) => cond (nodupB [c, b, b1, b2, b3, d]) (match s.lay [c, b, b1, b2, b3, d] [.cells [.int .u64 (iN n ax N C)] none, .cells [.int .i64 sa, .int .i64 sb, .int .i64 sc, .int .i64 sd, .int .u64 se, .slo b1 0 nw 0, .slo b2 0 nl 0, .int .u64 (iN n ax N C), .slo b3 0 ns 0, .int .i64 (iC n ax N C)] none, .cells ws (some 1), .cells ls (some 3), .cells ss (some 1), .ro ax] [] with
        | some s' => some ([okIu64 ws nw, okL ls nl, okIu64 ss ns, xle nw 1000000, xle ns 1000000, xcm .eql N' N, okR ax n], .bool true, s')
        | none => none) none
      | _, _, _ => none)
    | _, _, _ => none)
  | _, _ => none
theorem doG_ok : GOk Go.Proofs.Try.prog 13 doG := by
  intro args s bs l s' hg hb hfr
  unfold doG at hg
  split at hg
  · rename_i c b d n hgl
    split at hg
    · rename_i N' sa sb sc sd se b1 nw b2 nl N b3 ns C ax hc0 hb0 hd0
      split at hg
      · rename_i ws ls ss hb1 hb2 hb3
        cases hbc : nodupB [c, b, b1, b2, b3, d] with
        | false => rw [hbc] at hg; cases hg
        | true =>
          rw [hbc] at hg
          simp only [cond_true] at hg
          split at hg
          · rename_i s1 hs1
            simp only [Option.some.injEq, Prod.mk.injEq] at hg
            obtain ⟨rfl, rfl, rfl⟩ := hg
            simp only [allT_cons] at hb
            obtain ⟨k1, k2, k3, k4, k5, k6, k7, _⟩ := hb
            rw [wd_le, decide_eq_true_eq] at k4 k5
            rw [xcm_eql, decide_eq_true_eq] at k6
            subst k6
            obtain ⟨xs, rfl, en, hn⟩ := okR_iff.1 k7
            have hx := do_fun xs n en hn sa sb sc sd se N' C nw nl ns ws ls ss k1 k2 k3 k4 k5
            have n1 : noIds ws = true := by obtain ⟨_, e, _⟩ := okIu64_iff.1 k1; rw [e]; exact noIds_Iu64 _
            have n2 : noIds ls = true := by obtain ⟨_, e, _⟩ := okL_iff.1 k2; rw [e]; exact noids_l _
            have n3 : noIds ss = true := by obtain ⟨_, e, _⟩ := okIu64_iff.1 k3; rw [e]; exact noIds_Iu64 _
            have n4 := noids_a xs
            simp only [iN, iC] at hs1 ⊢
            generalize runC (decOps (encL askL xs)) N' C (min n 60) = M at *
            refine SFun.lay (bs := dH sa sb sc sd se N' C nw nl ns ws ls ss (encL askL xs)) (args0 := [.ptr 0 0, .ptr 1 0, .slo 5 0 n 0])
              (bs' := dH sa sb sc sd se M.1 M.2 nw nl ns ws ls ss (encL askL xs)) (v0 := .bool true) hfr hs1 (nodupB_ok hbc)
              ⟨⟨there hfr hc0, _, hc0, by (first | exact lb_dead | exact lb_same (by (first | assumption | exact noIds_tab (fun _ => rfl) _ _ | exact noIds_encL (fun _ => rfl) _ | rfl)) | exact lb_ro (by (first | assumption | exact noIds_tab (fun _ => rfl) _ _ | exact noIds_encL (fun _ => rfl) _ | rfl)) | exact lb_none | exact lb_cells (by ((repeat refine lws_cons (by (first | exact lw_any | exact lw_int | exact lw_bool | exact lw_ptr rfl | exact lw_slo rfl | exact lw_nilp | exact lw_nils | exact lw_str | exact lw_slo_nils | exact lw_slo_sle | exact lw_sl rfl | exact lw_unb | exact lw_gptr | exact lw_noid rfl | exact lw_cap rfl (Nat.le_refl _) | exact lw_cap rfl (by omega) | assumption)) ?_); exact lws_nil)) (by simp) | exact lb_iter | exact lb_cap (Nat.le_refl _) (Nat.le_refl _) rfl rfl | exact lb_capn (by assumption) (by (first | assumption | exact noIds_tab (fun _ => rfl) _ _ | exact noIds_encL (fun _ => rfl) _ | rfl)) | assumption), fun κ hκ => by (first | exact lb_dead | exact lb_same (by (first | assumption | exact noIds_tab (fun _ => rfl) _ _ | exact noIds_encL (fun _ => rfl) _ | rfl)) | exact lb_ro (by (first | assumption | exact noIds_tab (fun _ => rfl) _ _ | exact noIds_encL (fun _ => rfl) _ | rfl)) | exact lb_none | exact lb_cells (by ((repeat refine lws_cons (by (first | exact lw_any | exact lw_int | exact lw_bool | exact lw_ptr rfl | exact lw_slo rfl | exact lw_nilp | exact lw_nils | exact lw_str | exact lw_slo_nils | exact lw_slo_sle | exact lw_sl rfl | exact lw_unb | exact lw_gptr | exact lw_noid rfl | exact lw_cap rfl (Nat.le_refl _) | exact lw_cap rfl (by omega) | assumption)) ?_); exact lws_nil)) (by simp) | exact lb_iter | exact lb_cap (Nat.le_refl _) (Nat.le_refl _) rfl rfl | exact lb_capn (by assumption) (by (first | assumption | exact noIds_tab (fun _ => rfl) _ _ | exact noIds_encL (fun _ => rfl) _ | rfl)) | assumption)⟩, ⟨there hfr hb0, _, hb0, by (first | exact lb_dead | exact lb_same (by (first | assumption | exact noIds_tab (fun _ => rfl) _ _ | exact noIds_encL (fun _ => rfl) _ | rfl)) | exact lb_ro (by (first | assumption | exact noIds_tab (fun _ => rfl) _ _ | exact noIds_encL (fun _ => rfl) _ | rfl)) | exact lb_none | exact lb_cells (by ((repeat refine lws_cons (by (first | exact lw_any | exact lw_int | exact lw_bool | exact lw_ptr rfl | exact lw_slo rfl | exact lw_nilp | exact lw_nils | exact lw_str | exact lw_slo_nils | exact lw_slo_sle | exact lw_sl rfl | exact lw_unb | exact lw_gptr | exact lw_noid rfl | exact lw_cap rfl (Nat.le_refl _) | exact lw_cap rfl (by omega) | assumption)) ?_); exact lws_nil)) (by simp) | exact lb_iter | exact lb_cap (Nat.le_refl _) (Nat.le_refl _) rfl rfl | exact lb_capn (by assumption) (by (first | assumption | exact noIds_tab (fun _ => rfl) _ _ | exact noIds_encL (fun _ => rfl) _ | rfl)) | assumption), fun κ hκ => lb_cells (lws_cons lw_int (lws_cons lw_int (lws_cons lw_int (lws_cons lw_int (lws_cons lw_int (lws_cons (lw_slo (hκ 2 b1 rfl)) (lws_cons (lw_slo (hκ 3 b2 rfl)) (lws_cons lw_int (lws_cons (lw_slo (hκ 4 b3 rfl)) (lws_cons lw_int lws_nil)))))))))) (by simp)⟩, ⟨there hfr hb1, _, hb1, by (first | exact lb_dead | exact lb_same (by (first | assumption | exact noIds_tab (fun _ => rfl) _ _ | exact noIds_encL (fun _ => rfl) _ | rfl)) | exact lb_ro (by (first | assumption | exact noIds_tab (fun _ => rfl) _ _ | exact noIds_encL (fun _ => rfl) _ | rfl)) | exact lb_none | exact lb_cells (by ((repeat refine lws_cons (by (first | exact lw_any | exact lw_int | exact lw_bool | exact lw_ptr rfl | exact lw_slo rfl | exact lw_nilp | exact lw_nils | exact lw_str | exact lw_slo_nils | exact lw_slo_sle | exact lw_sl rfl | exact lw_unb | exact lw_gptr | exact lw_noid rfl | exact lw_cap rfl (Nat.le_refl _) | exact lw_cap rfl (by omega) | assumption)) ?_); exact lws_nil)) (by simp) | exact lb_iter | exact lb_cap (Nat.le_refl _) (Nat.le_refl _) rfl rfl | exact lb_capn (by assumption) (by (first | assumption | exact noIds_tab (fun _ => rfl) _ _ | exact noIds_encL (fun _ => rfl) _ | rfl)) | assumption), fun κ hκ => by (first | exact lb_dead | exact lb_same (by (first | assumption | exact noIds_tab (fun _ => rfl) _ _ | exact noIds_encL (fun _ => rfl) _ | rfl)) | exact lb_ro (by (first | assumption | exact noIds_tab (fun _ => rfl) _ _ | exact noIds_encL (fun _ => rfl) _ | rfl)) | exact lb_none | exact lb_cells (by ((repeat refine lws_cons (by (first | exact lw_any | exact lw_int | exact lw_bool | exact lw_ptr rfl | exact lw_slo rfl | exact lw_nilp | exact lw_nils | exact lw_str | exact lw_slo_nils | exact lw_slo_sle | exact lw_sl rfl | exact lw_unb | exact lw_gptr | exact lw_noid rfl | exact lw_cap rfl (Nat.le_refl _) | exact lw_cap rfl (by omega) | assumption)) ?_); exact lws_nil)) (by simp) | exact lb_iter | exact lb_cap (Nat.le_refl _) (Nat.le_refl _) rfl rfl | exact lb_capn (by assumption) (by (first | assumption | exact noIds_tab (fun _ => rfl) _ _ | exact noIds_encL (fun _ => rfl) _ | rfl)) | assumption)⟩, ⟨there hfr hb2, _, hb2, by (first | exact lb_dead | exact lb_same (by (first | assumption | exact noIds_tab (fun _ => rfl) _ _ | exact noIds_encL (fun _ => rfl) _ | rfl)) | exact lb_ro (by (first | assumption | exact noIds_tab (fun _ => rfl) _ _ | exact noIds_encL (fun _ => rfl) _ | rfl)) | exact lb_none | exact lb_cells (by ((repeat refine lws_cons (by (first | exact lw_any | exact lw_int | exact lw_bool | exact lw_ptr rfl | exact lw_slo rfl | exact lw_nilp | exact lw_nils | exact lw_str | exact lw_slo_nils | exact lw_slo_sle | exact lw_sl rfl | exact lw_unb | exact lw_gptr | exact lw_noid rfl | exact lw_cap rfl (Nat.le_refl _) | exact lw_cap rfl (by omega) | assumption)) ?_); exact lws_nil)) (by simp) | exact lb_iter | exact lb_cap (Nat.le_refl _) (Nat.le_refl _) rfl rfl | exact lb_capn (by assumption) (by (first | assumption | exact noIds_tab (fun _ => rfl) _ _ | exact noIds_encL (fun _ => rfl) _ | rfl)) | assumption), fun κ hκ => by (first | exact lb_dead | exact lb_same (by (first | assumption | exact noIds_tab (fun _ => rfl) _ _ | exact noIds_encL (fun _ => rfl) _ | rfl)) | exact lb_ro (by (first | assumption | exact noIds_tab (fun _ => rfl) _ _ | exact noIds_encL (fun _ => rfl) _ | rfl)) | exact lb_none | exact lb_cells (by ((repeat refine lws_cons (by (first | exact lw_any | exact lw_int | exact lw_bool | exact lw_ptr rfl | exact lw_slo rfl | exact lw_nilp | exact lw_nils | exact lw_str | exact lw_slo_nils | exact lw_slo_sle | exact lw_sl rfl | exact lw_unb | exact lw_gptr | exact lw_noid rfl | exact lw_cap rfl (Nat.le_refl _) | exact lw_cap rfl (by omega) | assumption)) ?_); exact lws_nil)) (by simp) | exact lb_iter | exact lb_cap (Nat.le_refl _) (Nat.le_refl _) rfl rfl | exact lb_capn (by assumption) (by (first | assumption | exact noIds_tab (fun _ => rfl) _ _ | exact noIds_encL (fun _ => rfl) _ | rfl)) | assumption)⟩, ⟨there hfr hb3, _, hb3, by (first | exact lb_dead | exact lb_same (by (first | assumption | exact noIds_tab (fun _ => rfl) _ _ | exact noIds_encL (fun _ => rfl) _ | rfl)) | exact lb_ro (by (first | assumption | exact noIds_tab (fun _ => rfl) _ _ | exact noIds_encL (fun _ => rfl) _ | rfl)) | exact lb_none | exact lb_cells (by ((repeat refine lws_cons (by (first | exact lw_any | exact lw_int | exact lw_bool | exact lw_ptr rfl | exact lw_slo rfl | exact lw_nilp | exact lw_nils | exact lw_str | exact lw_slo_nils | exact lw_slo_sle | exact lw_sl rfl | exact lw_unb | exact lw_gptr | exact lw_noid rfl | exact lw_cap rfl (Nat.le_refl _) | exact lw_cap rfl (by omega) | assumption)) ?_); exact lws_nil)) (by simp) | exact lb_iter | exact lb_cap (Nat.le_refl _) (Nat.le_refl _) rfl rfl | exact lb_capn (by assumption) (by (first | assumption | exact noIds_tab (fun _ => rfl) _ _ | exact noIds_encL (fun _ => rfl) _ | rfl)) | assumption), fun κ hκ => by (first | exact lb_dead | exact lb_same (by (first | assumption | exact noIds_tab (fun _ => rfl) _ _ | exact noIds_encL (fun _ => rfl) _ | rfl)) | exact lb_ro (by (first | assumption | exact noIds_tab (fun _ => rfl) _ _ | exact noIds_encL (fun _ => rfl) _ | rfl)) | exact lb_none | exact lb_cells (by ((repeat refine lws_cons (by (first | exact lw_any | exact lw_int | exact lw_bool | exact lw_ptr rfl | exact lw_slo rfl | exact lw_nilp | exact lw_nils | exact lw_str | exact lw_slo_nils | exact lw_slo_sle | exact lw_sl rfl | exact lw_unb | exact lw_gptr | exact lw_noid rfl | exact lw_cap rfl (Nat.le_refl _) | exact lw_cap rfl (by omega) | assumption)) ?_); exact lws_nil)) (by simp) | exact lb_iter | exact lb_cap (Nat.le_refl _) (Nat.le_refl _) rfl rfl | exact lb_capn (by assumption) (by (first | assumption | exact noIds_tab (fun _ => rfl) _ _ | exact noIds_encL (fun _ => rfl) _ | rfl)) | assumption)⟩, ⟨there hfr hd0, _, hd0, by (first | exact lb_dead | exact lb_same (by (first | assumption | exact noIds_tab (fun _ => rfl) _ _ | exact noIds_encL (fun _ => rfl) _ | rfl)) | exact lb_ro (by (first | assumption | exact noIds_tab (fun _ => rfl) _ _ | exact noIds_encL (fun _ => rfl) _ | rfl)) | exact lb_none | exact lb_cells (by ((repeat refine lws_cons (by (first | exact lw_any | exact lw_int | exact lw_bool | exact lw_ptr rfl | exact lw_slo rfl | exact lw_nilp | exact lw_nils | exact lw_str | exact lw_slo_nils | exact lw_slo_sle | exact lw_sl rfl | exact lw_unb | exact lw_gptr | exact lw_noid rfl | exact lw_cap rfl (Nat.le_refl _) | exact lw_cap rfl (by omega) | assumption)) ?_); exact lws_nil)) (by simp) | exact lb_iter | exact lb_cap (Nat.le_refl _) (Nat.le_refl _) rfl rfl | exact lb_capn (by assumption) (by (first | assumption | exact noIds_tab (fun _ => rfl) _ _ | exact noIds_encL (fun _ => rfl) _ | rfl)) | assumption), fun κ hκ => by (first | exact lb_dead | exact lb_same (by (first | assumption | exact noIds_tab (fun _ => rfl) _ _ | exact noIds_encL (fun _ => rfl) _ | rfl)) | exact lb_ro (by (first | assumption | exact noIds_tab (fun _ => rfl) _ _ | exact noIds_encL (fun _ => rfl) _ | rfl)) | exact lb_none | exact lb_cells (by ((repeat refine lws_cons (by (first | exact lw_any | exact lw_int | exact lw_bool | exact lw_ptr rfl | exact lw_slo rfl | exact lw_nilp | exact lw_nils | exact lw_str | exact lw_slo_nils | exact lw_slo_sle | exact lw_sl rfl | exact lw_unb | exact lw_gptr | exact lw_noid rfl | exact lw_cap rfl (Nat.le_refl _) | exact lw_cap rfl (by omega) | assumption)) ?_); exact lws_nil)) (by simp) | exact lb_iter | exact lb_cap (Nat.le_refl _) (Nat.le_refl _) rfl rfl | exact lb_capn (by assumption) (by (first | assumption | exact noIds_tab (fun _ => rfl) _ _ | exact noIds_encL (fun _ => rfl) _ | rfl)) | assumption)⟩, trivial⟩ (by ((repeat refine lws_cons (by (first | exact lw_any | exact lw_int | exact lw_bool | exact lw_ptr rfl | exact lw_slo rfl | exact lw_nilp | exact lw_nils | exact lw_str | exact lw_slo_nils | exact lw_slo_sle | exact lw_sl rfl | exact lw_unb | exact lw_gptr | exact lw_noid rfl | exact lw_cap rfl (Nat.le_refl _) | exact lw_cap rfl (by omega) | assumption)) ?_); exact lws_nil)) ?_
              fun κ h1 h2 => ⟨⟨lb_cells (lws_cons lw_int lws_nil) (by simp), lb_cells (lws_cons lw_int (lws_cons lw_int (lws_cons lw_int (lws_cons lw_int (lws_cons lw_int (lws_cons (lw_slo (h1 2 b1 rfl)) (lws_cons (lw_slo (h1 3 b2 rfl)) (lws_cons lw_int (lws_cons (lw_slo (h1 4 b3 rfl)) (lws_cons lw_int lws_nil)))))))))) (by simp), lb_same n1, lb_same n2, lb_same n3, lb_ro n4, trivial⟩, lw_bool⟩
            rw [hgl]; exact hx
          · cases hg
      · cases hg
    · cases hg
  · cases hg
/-! the law -/
def cxp : Cx := cxl [(3, runG), (12, newmemG), (13, doG)]
abbrev ccL : List Nat := [1, 2, 6, 7, 8, 9, 10]
abbrev ccT (na nb : Nat) : List (Nat × LV) := [(1, .slo 0 0 na 0), (2, .slo 1 0 nb 0), (7, .ptr 2 0), (8, .ptr 3 0)]
abbrev ccU (na nb : Nat) : List (Nat × LV) := [(1, .slo 0 0 na 0), (2, .slo 1 0 nb 0), (7, .ptr 2 0), (8, .ptr 3 0), (9, .ptr 7 0), (10, .ptr 8 0)]
abbrev ccH (sa sb sc sd se N C : Int) (ws ls ss ax bx : List LV) : List LB := [.ro ax, .ro bx, .cells [.int .u64 N] none, .cells [.int .i64 sa, .int .i64 sb, .int .i64 sc, .int .i64 sd, .int .u64 se, .slo 4 0 32 0, .slo 5 0 1 0, .int .u64 N, .slo 6 0 1 0, .int .i64 C] none, .cells ws (some 1), .cells ls (some 3), .cells ss (some 1)]
abbrev ccI (sa sb sc sd se N C : Int) (ws ls ss ax bx : List LV) : List LB := [.ro ax, .ro bx, .cells [.int .u64 N] none, .cells [.int .i64 sa, .int .i64 sb, .int .i64 sc, .int .i64 sd, .int .u64 se, .slo 4 0 32 0, .slo 5 0 1 0, .int .u64 N, .slo 6 0 1 0, .int .i64 C] none, .cells ws (some 1), .cells ls (some 3), .cells ss (some 1), .cells [.int .u64 N] none, .cells [.int .i64 sa, .int .i64 sb, .int .i64 sc, .int .i64 sd, .int .u64 se, .slo 9 0 32 0, .slo 10 0 1 0, .int .u64 N, .slo 11 0 1 0, .int .i64 C] none, .cells ws (some 1), .cells ls (some 3), .cells ss (some 1)]
theorem cc_a (st : Int) (na nb : Nat) (ax bx : List LV) (K : Pk) : (xsp Go.Proofs.Try.prog cxp 40 67 (seg (sp Go.Proofs.Try.prog 7) 0 4) (tm0 [.int .u64 st, .slo 0 0 na 0, .slo 1 0 nb 0]) (mkS [.ro ax, .ro bx]) (vK ccL K)) = (
  K .normal [.slo 0 0 na 0, .slo 1 0 nb 0, .bool false, .ptr 2 0, .ptr 3 0, .tup [], .tup []] [some (.ro ax), some (.ro bx), some (.cells [.int .u64 (xmn st 4611686018427387903)] none), some (.cells [.int .i64 32, .int .i64 1, .int .i64 1, .int .i64 1, .int .u64 (xmn st 4611686018427387903), .slo 4 0 32 0, .slo 5 0 1 0, .int .u64 (xmn st 4611686018427387903), .slo 6 0 1 0, .int .i64 0] none), some (.cells [.int .u64 0, .int .u64 0, .int .u64 0, .int .u64 0, .int .u64 0, .int .u64 0, .int .u64 0, .int .u64 0, .int .u64 0, .int .u64 0, .int .u64 0, .int .u64 0, .int .u64 0, .int .u64 0, .int .u64 0, .int .u64 0, .int .u64 0, .int .u64 0, .int .u64 0, .int .u64 0, .int .u64 0, .int .u64 0, .int .u64 0, .int .u64 0, .int .u64 0, .int .u64 0, .int .u64 0, .int .u64 0, .int .u64 0, .int .u64 0, .int .u64 0, .int .u64 0] (some 1)), some (.cells [.int .u64 0, .bool false, .int .i64 0] (some 3)), some (.cells [.int .u64 0] (some 1))] []) := by kernel_rfl
theorem cc_b (na nb : Nat) (sa sb sc sd se N C : Int) (ws ls ss ax bx : List LV) (K : Pk) : (xsp Go.Proofs.Try.prog cxp 40 67 (seg (sp Go.Proofs.Try.prog 7) 4 2) (mkTm 67 (ccT na nb)) (mkS (ccH sa sb sc sd se N C ws ls ss ax bx)) (vK ccL K)) = (
  bif okIu64 ws 32 then
  bif okL ls 1 then
  bif okIu64 ss 1 then
  bif xcm .eql N N then
  bif okR ax na then
  K .normal [.slo 0 0 na 0, .slo 1 0 nb 0, .any, .ptr 2 0, .ptr 3 0, .any, .any] [some (.ro ax), some (.ro bx), some (.cells [.int .u64 (iN na ax N C)] none), some (.cells [.int .i64 sa, .int .i64 sb, .int .i64 sc, .int .i64 sd, .int .u64 se, .slo 4 0 32 0, .slo 5 0 1 0, .int .u64 (iN na ax N C), .slo 6 0 1 0, .int .i64 (iC na ax N C)] none), some (.cells ws (some 1)), some (.cells ls (some 3)), some (.cells ss (some 1))] []
  else False
  else False
  else False
  else False
  else False) := by kernel_rfl
theorem cc_c (na nb : Nat) (sa sb sc sd se N C : Int) (ws ls ss ax bx : List LV) (K : Pk) : (xsp Go.Proofs.Try.prog cxp 40 67 (seg (sp Go.Proofs.Try.prog 7) 6 1) (mkTm 67 (ccT na nb)) (mkS (ccH sa sb sc sd se N C ws ls ss ax bx)) (vK ccL K)) = (
  bif xle 32 (xln ws) then
  bif xle 3 (xln ls) then
  bif xle 1 (xln ss) then
  bif xcm .eql sa sa then
  bif xcm .eql sb sb then
  bif xcm .eql sc sc then
  bif xcm .eql sd sd then
  bif xcm .eql se se then
  bif xcm .eql sa sa then
  bif xcm .eql sb sb then
  bif xcm .eql sc sc then
  bif xcm .eql sd sd then
  bif xcm .eql se se then
  bif xcm .eql sa sa then
  bif xcm .eql sb sb then
  bif xcm .eql sc sc then
  bif xcm .eql sd sd then
  bif xcm .eql se se then
  bif xcm .eql sa sa then
  bif xcm .eql sb sb then
  bif xcm .eql sc sc then
  bif xcm .eql sd sd then
  bif xcm .eql se se then
  bif xcm .eql sa sa then
  bif xcm .eql sb sb then
  bif xcm .eql sc sc then
  bif xcm .eql sd sd then
  bif xcm .eql se se then
  bif xcm .eql sa sa then
  bif xcm .eql sb sb then
  bif xcm .eql sc sc then
  bif xcm .eql sd sd then
  bif xcm .eql se se then
  bif xcm .eql N N then
  bif xcm .eql N N then
  bif xcm .eql N N then
  bif xcm .eql N N then
  bif xcm .eql N N then
  bif xcm .eql N N then
  bif xcm .eql C C then
  bif xcm .eql C C then
  bif xcm .eql C C then
  bif xcm .eql C C then
  bif xcm .eql C C then
  bif xcm .eql C C then
  K .normal [.slo 0 0 na 0, .slo 1 0 nb 0, .any, .ptr 2 0, .ptr 3 0, .ptr 7 0, .ptr 11 0] [some (.ro ax), some (.ro bx), some (.cells [.int .u64 N] none), some (.cells [.int .i64 sa, .int .i64 sb, .int .i64 sc, .int .i64 sd, .int .u64 se, .slo 4 0 32 0, .slo 5 0 1 0, .int .u64 N, .slo 6 0 1 0, .int .i64 C] none), some (.cells ws (some 1)), some (.cells ls (some 3)), some (.cells ss (some 1)), some (.cells [.int .u64 N] none), some (.cells (xcut ws 0 32) (some 1)), some (.cells (xcut ls 0 3) (some 3)), some (.cells (xcut ss 0 1) (some 1)), some (.cells [.int .i64 sa, .int .i64 sb, .int .i64 sc, .int .i64 sd, .int .u64 se, .slo 8 0 32 0, .slo 9 0 1 0, .int .u64 N, .slo 10 0 1 0, .int .i64 C] none)] []
  else False
  else False
  else False
  else False
  else False
  else False
  else False
  else False
  else False
  else False
  else False
  else False
  else False
  else False
  else False
  else False
  else False
  else False
  else False
  else False
  else False
  else False
  else False
  else False
  else False
  else False
  else False
  else False
  else False
  else False
  else False
  else False
  else False
  else False
  else False
  else False
  else False
  else False
  else False
  else False
  else False
  else False
  else False
  else False
  else False) := by kernel_rfl
theorem cc_z (na nb : Nat) (sa sb sc sd se N C : Int) (ws ls ss ax bx : List LV) (K : Pk) : (xsp Go.Proofs.Try.prog cxp 40 67 ((sp Go.Proofs.Try.prog 7).drop 7) (mkTm 67 (ccU na nb)) (mkS (ccI sa sb sc sd se N C ws ls ss ax bx)) (vK ccL K)) = (
  bif okIu64 ws 32 then
  bif okL ls 1 then
  bif okIu64 ss 1 then
  bif xcm .eql N N then
  bif okR bx nb then
  bif xcm .eql N N then
  bif xcm .eql N N then
  bif xcm .neq N N then (
   K .ret [.slo 0 0 na 0, .slo 1 0 nb 0, .bool false, .ptr 2 0, .ptr 3 0, .ptr 7 0, .ptr 8 0] [some (.ro ax), some (.ro bx), some (.cells [.int .u64 N] none), some (.cells [.int .i64 sa, .int .i64 sb, .int .i64 sc, .int .i64 sd, .int .u64 se, .slo 4 0 32 0, .slo 5 0 1 0, .int .u64 N, .slo 6 0 1 0, .int .i64 C] none), some (.cells ws (some 1)), some (.cells ls (some 3)), some (.cells ss (some 1)), some (.cells [.int .u64 (iN nb bx N C)] none), some (.cells [.int .i64 sa, .int .i64 sb, .int .i64 sc, .int .i64 sd, .int .u64 se, .slo 9 0 32 0, .slo 10 0 1 0, .int .u64 (iN nb bx N C), .slo 11 0 1 0, .int .i64 (iC nb bx N C)] none), some (.cells ws (some 1)), some (.cells ls (some 3)), some (.cells ss (some 1))] [])
  else (
   K .ret [.slo 0 0 na 0, .slo 1 0 nb 0, .bool true, .ptr 2 0, .ptr 3 0, .ptr 7 0, .ptr 8 0] [some (.ro ax), some (.ro bx), some (.cells [.int .u64 N] none), some (.cells [.int .i64 sa, .int .i64 sb, .int .i64 sc, .int .i64 sd, .int .u64 se, .slo 4 0 32 0, .slo 5 0 1 0, .int .u64 N, .slo 6 0 1 0, .int .i64 C] none), some (.cells ws (some 1)), some (.cells ls (some 3)), some (.cells ss (some 1)), some (.cells [.int .u64 (iN nb bx N C)] none), some (.cells [.int .i64 sa, .int .i64 sb, .int .i64 sc, .int .i64 sd, .int .u64 se, .slo 9 0 32 0, .slo 10 0 1 0, .int .u64 (iN nb bx N C), .slo 11 0 1 0, .int .i64 (iC nb bx N C)] none), some (.cells ws (some 1)), some (.cells ls (some 3)), some (.cells ss (some 1)), some (.cells [.int .u64 4611686018427387903] none)] [])
  else False
  else False
  else False
  else False
  else False
  else False
  else False) := by kernel_rfl
end
end Go.Lev
