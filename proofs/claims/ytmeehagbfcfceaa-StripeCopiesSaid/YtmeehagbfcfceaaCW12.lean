/- chapter 3: the loop of the law -/
import Derived.Test.YtmeehagbfcfceaaCW9
import Derived.Test.YtmeehagbfcfceaaLc
import Derived.Test.YtmeehagbfcfceaaChecked
import Derived.KernelRfl

namespace Go.Lev
open Go.RowKit
set_option linter.unusedVariables false
set_option linter.unusedSimpArgs false
set_option maxRecDepth 100000
noncomputable section
theorem cxd_ok : CtrOk Go.Proofs.Try.prog (ctrOf cxd) := cxl_ok ⟨tldG_ok, tstG_ok, tcsG_ok, lofG_ok, sameG_ok, rdoG_ok, trivial⟩
structure Ask3 where
  k : Int
  i : Int
  was : Lk
  l : Lk
abbrev askL (q : Ask3) : List LV := [.int .i64 q.k, .int .i64 q.i, .int .u64 q.was.1, .bool q.was.2.1, .int .i64 q.was.2.2, .int .u64 q.l.1, .bool q.l.2.1, .int .i64 q.l.2.2]
theorem askL_len (x : Ask3) : (askL x).length = 8 := rfl
theorem ask_0 {xs : List Ask3} {i : Nat} (h : i < xs.length) : nthD (encL askL xs) (i * 8) = .int .i64 xs[i].k := encL_nth askL_len (j := 0) h (by omega)
theorem ask_1 {xs : List Ask3} {i : Nat} (h : i < xs.length) : nthD (encL askL xs) (i * 8 + 1) = .int .i64 xs[i].i := encL_nth askL_len (j := 1) h (by omega)
theorem ask_2 {xs : List Ask3} {i : Nat} (h : i < xs.length) : nthD (encL askL xs) (i * 8 + 1 + 1) = .int .u64 xs[i].was.1 := encL_nth askL_len (j := 2) h (by omega)
theorem ask_3 {xs : List Ask3} {i : Nat} (h : i < xs.length) : nthD (encL askL xs) (i * 8 + 1 + 1 + 1) = .bool xs[i].was.2.1 := encL_nth askL_len (j := 3) h (by omega)
theorem ask_4 {xs : List Ask3} {i : Nat} (h : i < xs.length) : nthD (encL askL xs) (i * 8 + 1 + 1 + 1 + 1) = .int .i64 xs[i].was.2.2 := encL_nth askL_len (j := 4) h (by omega)
theorem ask_5 {xs : List Ask3} {i : Nat} (h : i < xs.length) : nthD (encL askL xs) (i * 8 + 1 + 1 + 1 + 1 + 1) = .int .u64 xs[i].l.1 := encL_nth askL_len (j := 5) h (by omega)
theorem ask_6 {xs : List Ask3} {i : Nat} (h : i < xs.length) : nthD (encL askL xs) (i * 8 + 1 + 1 + 1 + 1 + 1 + 1) = .bool xs[i].l.2.1 := encL_nth askL_len (j := 6) h (by omega)
theorem ask_7 {xs : List Ask3} {i : Nat} (h : i < xs.length) : nthD (encL askL xs) (i * 8 + 1 + 1 + 1 + 1 + 1 + 1 + 1) = .int .i64 xs[i].l.2.2 := encL_nth askL_len (j := 7) h (by omega)
theorem ask_n (xs : List Ask3) : (encL askL xs).length = xs.length * 8 := encL_length askL_len xs
theorem noids_a (xs : List Ask3) : noIds (encL askL xs) = true := noIds_encL (fun _ => rfl) xs
def sqB (nl : Nat) (ls : List LV) (C : Int) (i xv : Int) (xh : Bool) (xo uv : Int) (uh : Bool) (uo : Int) : List LV × Int := (vX ls nl i uv uh uo xv xh xo, vC (vQ nl i xv xh xo) C)
def sqA (nl : Nat) (ls : List LV) (C : Int) (kd i xv : Int) (xh : Bool) (xo uv : Int) (uh : Bool) (uo : Int) : List LV × Int :=
  bif xcm .eql kd 0 then (ls, vC (vE nl i) C) else
  bif xcm .eql kd 1 then (vS ls nl i xv xh xo, vC (vQ nl i xv xh xo) C) else
  bif xcm .eql kd 3 then
    (bif xcm .geq i 0 then (bif xcm .lss i nl then sqB nl ls C i xv xh xo (asI (nthD ls (xnat i * 3))) (asB (nthD ls (xnat i * 3 + 1))) (asI (nthD ls (xnat i * 3 + 1 + 1))) else sqB nl ls C i xv xh xo uv uh uo) else sqB nl ls C i xv xh xo uv uh uo)
  else sqB nl ls C i xv xh xo uv uh uo
def sqS (nl : Nat) (ls : List LV) (C : Int) (q : Ask3) : List LV × Int := sqA nl ls C (xar .and .i64 q.k 3) q.i (lfV (xcm .gtr q.k 40) q.l.1) q.l.2.1 (lfO (xcm .gtr q.k 40) q.l.2.1 q.l.2.2) (lfV (xcm .gtr q.k 40) q.was.1) q.was.2.1 (lfO (xcm .gtr q.k 40) q.was.2.1 q.was.2.2)
def runS (nl : Nat) (ops : Nat → Ask3) (ls : List LV) (C : Int) : Nat → List LV × Int
  | 0 => (ls, C)
  | i + 1 => sqS nl (runS nl ops ls C i).1 (runS nl ops ls C i).2 (ops i)
theorem okL_vS {ls : List LV} {n : Nat} (h : okL ls n = true) (a lv : Int) (lh : Bool) (lo : Int) : okL (vS ls n a lv lh lo) n = true := by
  obtain ⟨L, rfl, e, hn⟩ := okL_iff.1 h
  simp only [vS, decL_enc]
  split
  · exact okL_iff.2 ⟨_, rfl, by simp [e], hn⟩
  · exact h
theorem okL_vX {ls : List LV} {n : Nat} (h : okL ls n = true) (a wv : Int) (wh : Bool) (wo lv : Int) (lh : Bool) (lo : Int) : okL (vX ls n a wv wh wo lv lh lo) n = true := by
  obtain ⟨L, rfl, e, hn⟩ := okL_iff.1 h
  simp only [vX, decL_enc]
  split
  · exact okL_iff.2 ⟨_, rfl, by simp [e], hn⟩
  · exact h
theorem okL_noids {ls : List LV} {n : Nat} (h : okL ls n = true) : noIds ls = true := by obtain ⟨_, e, _⟩ := okL_iff.1 h; rw [e]; exact noids_l _
theorem okL_st {nl : Nat} {ls : List LV} (h : okL ls nl = true) (C : Int) (q : Ask3) : okL (sqS nl ls C q).1 nl = true := by
  simp only [sqS, sqA, sqB]
  cases xcm .eql (xar .and .i64 q.k 3) 0 <;> cases xcm .eql (xar .and .i64 q.k 3) 1 <;> cases xcm .eql (xar .and .i64 q.k 3) 3 <;> cases xcm .geq q.i 0 <;> cases xcm .lss q.i nl <;> simp only [cond_true, cond_false] <;> first | exact h | exact okL_vS h _ _ _ _ | exact okL_vX h _ _ _ _ _ _ _
theorem okL_run {nl : Nat} {ls : List LV} (h : okL ls nl = true) (ops : Nat → Ask3) (C : Int) : ∀ i, okL (runS nl ops ls C i).1 nl = true
  | 0 => h
  | i + 1 => okL_st (okL_run h ops C i) _ _
def decA : List LV → Ask3
  | [.int _ a, .int _ b, .int _ c, .bool d, .int _ e, .int _ f, .bool g, .int _ h] => ⟨a, b, (c, d, e), (f, g, h)⟩
  | _ => ⟨0, 0, (0, false, 0), (0, false, 0)⟩
def decOps (ax : List LV) (k : Nat) : Ask3 := decA ((ax.drop (k * 8)).take 8)
theorem decOps_enc {xs : List Ask3} {k : Nat} (h : k < xs.length) : decOps (encL askL xs) k = xs[k] := by
  have e1 := encL_drop askL_len k xs
  have e2 := encL_take askL_len 1 (xs.drop k)
  rw [Nat.one_mul] at e2
  rw [decOps, e1, e2, List.drop_eq_getElem_cons h]
  rfl
set_option maxHeartbeats 2000000 in
theorem do_fun (xs : List Ask3) (n : Nat) (en : xs.length = n) (hn : n ≤ 9223372036854775807) (sa sb sc sd se N C wi : Int) (nw nl ns : Nat) (ws ls ss : List LV) (o1 : okIu64 ws nw = true) (o2 : okL ls nl = true) (o3 : okIu64 ss ns = true) (w1 : nw ≤ 1000000) (w2 : nl ≤ 1000) (w3 : ns ≤ 1000000) :
    SFun Go.Proofs.Try.prog 16 [.ptr 0 0, .ptr 2 0, .slo 6 0 n 0] (mkS (dH sa sb sc sd se N C wi nw nl ns ws ls ss (encL askL xs)))
    fun l s => l = .bool true ∧ s = mkS (dH sa sb sc sd se N (runS nl (decOps (encL askL xs)) ls C (min n 60)).2 wi nw nl ns ws (runS nl (decOps (encL askL xs)) ls C (min n 60)).1 ss (encL askL xs)) := by
  refine SFun.mono (SFun.pieces (Q := fun l b => l = .bool true ∧ b = dH sa sb sc sd se N (runS nl (decOps (encL askL xs)) ls C (min n 60)).2 wi nw nl ns ws (runS nl (decOps (encL askL xs)) ls C (min n 60)).1 ss (encL askL xs)) 141 7 doL [6] (by kernel_rfl) rfl rfl rfl ?_) fun l s' ⟨b0, ⟨h1, h2⟩, h3⟩ => ⟨h1, by rw [h3, h2]⟩
  have nx := noids_a xs
  have n1 : noIds ws = true := by obtain ⟨_, e, _⟩ := okIu64_iff.1 o1; rw [e]; exact noIds_Iu64 _
  have n3 : noIds ss = true := by obtain ⟨_, e, _⟩ := okIu64_iff.1 o3; rw [e]; exact noIds_Iu64 _
  have n2 := okL_noids o2
  have hok := okL_run o2 (decOps (encL askL xs)) C
  refine SSp.to cxd_ok (n := 40) (g := []) 2 2 rfl (σ := Unit) (fun _ => doT n 0) (fun _ => dH sa sb sc sd se N C wi nw nl ns ws ls ss (encL askL xs)) (mkS_le (Nat.le_refl _)) (by kernel_rfl) ?_ fun _ => ?_
  · rw [do_a]
    exact ⟨rfl, (), [.id 0, .id 1, .id 2, .id 3, .id 4, .id 5, .id 6], by (refine ⟨by kernel_rfl, ?_, ?_⟩ <;> repeat (first | exact okTms_nil | refine okTms_cons ?_ ?_ | exact okBlks_nil | refine okBlks_cons ?_ ?_ | exact lws_nil | refine lws_cons ?_ ?_ | exact lb_dead | exact lb_same (by (first | assumption | exact noIds_encL (fun _ => rfl) _ | exact noIds_tab (fun _ => rfl) _ _ | rfl)) | exact lb_ro (by (first | assumption | exact noIds_encL (fun _ => rfl) _ | exact noIds_tab (fun _ => rfl) _ _ | rfl)) | exact lb_none | refine lb_cells ?_ (by simp) | exact lb_cap (Nat.le_refl _) (Nat.le_refl _) rfl rfl | exact lb_capn (by assumption) (by (first | assumption | exact noIds_encL (fun _ => rfl) _ | exact noIds_tab (fun _ => rfl) _ _ | rfl)) | exact lw_any | exact lw_int | exact lw_bool | exact lw_ptr rfl | exact lw_slo rfl | exact lw_nils | exact lw_slo_nils | exact lw_sl rfl | exact lw_noid rfl | exact lw_cap rfl (Nat.le_refl _) | refine lw_tup ?_ | refine lw_agg ?_ | assumption))⟩
  refine SSp.code_to (g := []) 3 rfl (σ := Unit) (fun _ => doT n (min n 60)) (fun _ => dH sa sb sc sd se N (runS nl (decOps (encL askL xs)) ls C (min n 60)).2 wi nw nl ns ws (runS nl (decOps (encL askL xs)) ls C (min n 60)).1 ss (encL askL xs)) (by kernel_rfl) ?_ fun _ => ?_
  · refine SCode.loop_sp 0 (by kernel_rfl) (σ := {i : Nat // i ≤ n ∧ i ≤ 60}) (fun i => doT n i.1) (fun i => dH sa sb sc sd se N (runS nl (decOps (encL askL xs)) ls C i.1).2 wi nw nl ns ws (runS nl (decOps (encL askL xs)) ls C i.1).1 ss (encL askL xs)) (fun i => n - i.1) (fun _ => Nat.le_of_ble_eq_true rfl) (fun ⟨i, hi, hi60⟩ => ?_) ⟨0, Nat.zero_le _, Nat.zero_le _⟩
    dsimp only
    have ho := hok i
    have ho' := hok (i + 1)
    have rs : runS nl (decOps (encL askL xs)) ls C (i + 1) = sqS nl (runS nl (decOps (encL askL xs)) ls C i).1 (runS nl (decOps (encL askL xs)) ls C i).2 (decOps (encL askL xs) i) := rfl
    generalize hM : runS nl (decOps (encL askL xs)) ls C i = M at *
    have m2 := okL_noids ho
    refine SSp.to cxd_ok (n := 40) (g := []) 2 2 rfl (σ := {_k : Unit // i < n ∧ i < 60}) (fun _ => doT n i) (fun _ => dH sa sb sc sd se N M.2 wi nw nl ns ws M.1 ss (encL askL xs)) (mkS_le (Nat.le_of_ble_eq_true rfl)) (by kernel_rfl) ?_ fun ⟨_, h1, h2⟩ => ?_
    · rw [do_b, wd_lss]
      refine ite_way (fun h1 => ?_) (fun h1 => ?_)
      · rw [show (60 : Int) = ((60 : Nat) : Int) from rfl, wd_lss]
        refine ite_way (fun h2 => ?_) (fun h2 => ?_)
        · exact ⟨rfl, ⟨(), h1, h2⟩, [.id 0, .id 1, .id 2, .id 3, .id 4, .id 5, .id 6], by (refine ⟨by kernel_rfl, ?_, ?_⟩ <;> repeat (first | exact okTms_nil | refine okTms_cons ?_ ?_ | exact okBlks_nil | refine okBlks_cons ?_ ?_ | exact lws_nil | refine lws_cons ?_ ?_ | exact lb_dead | exact lb_same (by (first | assumption | exact noIds_encL (fun _ => rfl) _ | exact noIds_tab (fun _ => rfl) _ _ | rfl)) | exact lb_ro (by (first | assumption | exact noIds_encL (fun _ => rfl) _ | exact noIds_tab (fun _ => rfl) _ _ | rfl)) | exact lb_none | refine lb_cells ?_ (by simp) | exact lb_cap (Nat.le_refl _) (Nat.le_refl _) rfl rfl | exact lb_capn (by assumption) (by (first | assumption | exact noIds_encL (fun _ => rfl) _ | exact noIds_tab (fun _ => rfl) _ _ | rfl)) | exact lw_any | exact lw_int | exact lw_bool | exact lw_ptr rfl | exact lw_slo rfl | exact lw_nils | exact lw_slo_nils | exact lw_sl rfl | exact lw_noid rfl | exact lw_cap rfl (Nat.le_refl _) | refine lw_tup ?_ | refine lw_agg ?_ | assumption))⟩
        · have e : i = min n 60 := by omega
          exact ⟨rfl, (), [.id 0, .id 1, .id 2, .id 3, .id 4, .id 5, .id 6], by rw [← e, hM]; (refine ⟨by kernel_rfl, ?_, ?_⟩ <;> repeat (first | exact okTms_nil | refine okTms_cons ?_ ?_ | exact okBlks_nil | refine okBlks_cons ?_ ?_ | exact lws_nil | refine lws_cons ?_ ?_ | exact lb_dead | exact lb_same (by (first | assumption | exact noIds_encL (fun _ => rfl) _ | exact noIds_tab (fun _ => rfl) _ _ | rfl)) | exact lb_ro (by (first | assumption | exact noIds_encL (fun _ => rfl) _ | exact noIds_tab (fun _ => rfl) _ _ | rfl)) | exact lb_none | refine lb_cells ?_ (by simp) | exact lb_cap (Nat.le_refl _) (Nat.le_refl _) rfl rfl | exact lb_capn (by assumption) (by (first | assumption | exact noIds_encL (fun _ => rfl) _ | exact noIds_tab (fun _ => rfl) _ _ | rfl)) | exact lw_any | exact lw_int | exact lw_bool | exact lw_ptr rfl | exact lw_slo rfl | exact lw_nils | exact lw_slo_nils | exact lw_sl rfl | exact lw_noid rfl | exact lw_cap rfl (Nat.le_refl _) | refine lw_tup ?_ | refine lw_agg ?_ | assumption))⟩
      · have e : i = min n 60 := by omega
        exact ⟨rfl, (), [.id 0, .id 1, .id 2, .id 3, .id 4, .id 5, .id 6], by rw [← e, hM]; (refine ⟨by kernel_rfl, ?_, ?_⟩ <;> repeat (first | exact okTms_nil | refine okTms_cons ?_ ?_ | exact okBlks_nil | refine okBlks_cons ?_ ?_ | exact lws_nil | refine lws_cons ?_ ?_ | exact lb_dead | exact lb_same (by (first | assumption | exact noIds_encL (fun _ => rfl) _ | exact noIds_tab (fun _ => rfl) _ _ | rfl)) | exact lb_ro (by (first | assumption | exact noIds_encL (fun _ => rfl) _ | exact noIds_tab (fun _ => rfl) _ _ | rfl)) | exact lb_none | refine lb_cells ?_ (by simp) | exact lb_cap (Nat.le_refl _) (Nat.le_refl _) rfl rfl | exact lb_capn (by assumption) (by (first | assumption | exact noIds_encL (fun _ => rfl) _ | exact noIds_tab (fun _ => rfl) _ _ | rfl)) | exact lw_any | exact lw_int | exact lw_bool | exact lw_ptr rfl | exact lw_slo rfl | exact lw_nils | exact lw_slo_nils | exact lw_sl rfl | exact lw_noid rfl | exact lw_cap rfl (Nat.le_refl _) | refine lw_tup ?_ | refine lw_agg ?_ | assumption))⟩
    have hix : i < xs.length := by omega
    rw [decOps_enc hix] at rs
    refine SSp.code_to (g := []) 3 rfl (σ := Unit) (fun _ => doT n i) (fun _ => dH sa sb sc sd se N (runS nl (decOps (encL askL xs)) ls C (i + 1)).2 wi nw nl ns ws (runS nl (decOps (encL askL xs)) ls C (i + 1)).1 ss (encL askL xs)) (by kernel_rfl) ?_ fun _ => ?_
    · refine SCode.block_sp 1 (by kernel_rfl) ?_
      refine SSp.to cxd_ok (n := 40) (g := []) 1 1 rfl (σ := Unit) (fun _ => doV n i) (fun _ => dV sa sb sc sd se N M.2 wi nw nl ns ws M.1 ss (encL askL xs) (askL xs[i])) (mkS_le (Nat.le_of_ble_eq_true rfl)) (by kernel_rfl) ?_ fun _ => ?_
      · rw [do_c]
        simp only [wd_nat, wd_asV, wd_isV, wd_ix, wd_add, wd_mul, wd_ln, Nat.zero_add, Nat.mul_one, wd_isI, wd_asI, wd_isB, wd_asB, wd_nn, cI_tlen, cB_tlen, cII_tlen, decide_true, cond_true, wd_not_t, wd_not_f, wd_and_t, wd_and_f, ask_0 hix, ask_1 hix, ask_2 hix, ask_3 hix, ask_4 hix, ask_5 hix, ask_6 hix, ask_7 hix, ask_n]
        (repeat (with_reducible refine must (by (first | with_reducible rfl | exact t_le (by omega) | exact t_eq (by omega) | exact t_nn (by omega) | exact t_lss (by omega) | exact t_leq (by omega) | exact t_gtr (by omega) | exact t_geq (by omega) | exact t_eql (by omega) | exact t_neq (by omega) | exact t_z (by omega) | exact wd_not_f | assumption)) ?_))
        exact ⟨rfl, (), [.id 0, .id 1, .id 2, .id 3, .id 4, .id 5, .id 6, .id 7], by (refine ⟨by kernel_rfl, ?_, ?_⟩ <;> repeat (first | exact okTms_nil | refine okTms_cons ?_ ?_ | exact okBlks_nil | refine okBlks_cons ?_ ?_ | exact lws_nil | refine lws_cons ?_ ?_ | exact lb_dead | exact lb_same (by (first | assumption | exact noIds_encL (fun _ => rfl) _ | exact noIds_tab (fun _ => rfl) _ _ | rfl)) | exact lb_ro (by (first | assumption | exact noIds_encL (fun _ => rfl) _ | exact noIds_tab (fun _ => rfl) _ _ | rfl)) | exact lb_none | refine lb_cells ?_ (by simp) | exact lb_cap (Nat.le_refl _) (Nat.le_refl _) rfl rfl | exact lb_capn (by assumption) (by (first | assumption | exact noIds_encL (fun _ => rfl) _ | exact noIds_tab (fun _ => rfl) _ _ | rfl)) | exact lw_any | exact lw_int | exact lw_bool | exact lw_ptr rfl | exact lw_slo rfl | exact lw_nils | exact lw_slo_nils | exact lw_sl rfl | exact lw_noid rfl | exact lw_cap rfl (Nat.le_refl _) | refine lw_tup ?_ | refine lw_agg ?_ | assumption))⟩
      rw [rs] at ho' ⊢
      generalize xs[i] = q8 at ho' ⊢
      obtain ⟨qk, qi, ⟨wv, wh, wo⟩, ⟨lv, lh, lo⟩⟩ := q8
      have m3 := okL_noids ho'
      simp only [sqS] at m3 ho' ⊢
      refine SSp.code_to (g := []) 2 rfl (σ := Unit) (fun _ => doW n i) (fun _ => dU sa sb sc sd se N M.2 wi nw nl ns ws M.1 ss (encL askL xs) [.int .i64 qk, .int .i64 qi, .int .u64 wv, .bool wh, .int .i64 wo, .int .u64 lv, .bool lh, .int .i64 lo] [.int .u64 (lfV (xcm .gtr qk 40) lv), .bool lh, .int .i64 (lfO (xcm .gtr qk 40) lh lo)] [.int .u64 (lfV (xcm .gtr qk 40) wv), .bool wh, .int .i64 (lfO (xcm .gtr qk 40) wh wo)]) (by kernel_rfl) (SCode.orders cxd_ok (n := 40) (mkS_le (Nat.le_of_ble_eq_true rfl)) ?_) fun _ => ?_
      · change xorders _ _ _ _ _ (mkTm 141 (doV n i)) (mkS (dV sa sb sc sd se N M.2 wi nw nl ns ws M.1 ss (encL askL xs) [.int .i64 qk, .int .i64 qi, .int .u64 wv, .bool wh, .int .i64 wo, .int .u64 lv, .bool lh, .int .i64 lo]) []) _
        rw [do_r]
        simp only [xcm_self, xbq_self, cond_true]
        refine ⟨?_, ?_, ?_, ?_, ?_, ?_, ?_, ?_, ?_, ?_, ?_, ?_⟩ <;> first
          | (refine ⟨rfl, (), [.id 0, .id 1, .id 2, .id 3, .id 4, .id 5, .id 6, .id 7, .id 8, .id 9], ?_⟩; (refine ⟨by kernel_rfl, ?_, ?_⟩ <;> repeat (first | exact okTms_nil | refine okTms_cons ?_ ?_ | exact okBlks_nil | refine okBlks_cons ?_ ?_ | exact lws_nil | refine lws_cons ?_ ?_ | exact lb_dead | exact lb_same (by (first | assumption | exact noIds_encL (fun _ => rfl) _ | exact noIds_tab (fun _ => rfl) _ _ | rfl)) | exact lb_ro (by (first | assumption | exact noIds_encL (fun _ => rfl) _ | exact noIds_tab (fun _ => rfl) _ _ | rfl)) | exact lb_none | refine lb_cells ?_ (by simp) | exact lb_cap (Nat.le_refl _) (Nat.le_refl _) rfl rfl | exact lb_capn (by assumption) (by (first | assumption | exact noIds_encL (fun _ => rfl) _ | exact noIds_tab (fun _ => rfl) _ _ | rfl)) | exact lw_any | exact lw_int | exact lw_bool | exact lw_ptr rfl | exact lw_slo rfl | exact lw_nils | exact lw_slo_nils | exact lw_sl rfl | exact lw_noid rfl | exact lw_cap rfl (Nat.le_refl _) | refine lw_tup ?_ | refine lw_agg ?_ | assumption)); done)
          | (refine ⟨rfl, (), [.id 0, .id 1, .id 2, .id 3, .id 4, .id 5, .id 6, .id 7, .id 9, .id 8], ?_⟩; (refine ⟨by kernel_rfl, ?_, ?_⟩ <;> repeat (first | exact okTms_nil | refine okTms_cons ?_ ?_ | exact okBlks_nil | refine okBlks_cons ?_ ?_ | exact lws_nil | refine lws_cons ?_ ?_ | exact lb_dead | exact lb_same (by (first | assumption | exact noIds_encL (fun _ => rfl) _ | exact noIds_tab (fun _ => rfl) _ _ | rfl)) | exact lb_ro (by (first | assumption | exact noIds_encL (fun _ => rfl) _ | exact noIds_tab (fun _ => rfl) _ _ | rfl)) | exact lb_none | refine lb_cells ?_ (by simp) | exact lb_cap (Nat.le_refl _) (Nat.le_refl _) rfl rfl | exact lb_capn (by assumption) (by (first | assumption | exact noIds_encL (fun _ => rfl) _ | exact noIds_tab (fun _ => rfl) _ _ | rfl)) | exact lw_any | exact lw_int | exact lw_bool | exact lw_ptr rfl | exact lw_slo rfl | exact lw_nils | exact lw_slo_nils | exact lw_sl rfl | exact lw_noid rfl | exact lw_cap rfl (Nat.le_refl _) | refine lw_tup ?_ | refine lw_agg ?_ | assumption)); done)
      generalize lfV (xcm .gtr qk 40) lv = xv at *
      generalize lfO (xcm .gtr qk 40) lh lo = xo at *
      generalize lfV (xcm .gtr qk 40) wv = uv at *
      generalize lfO (xcm .gtr qk 40) wh wo = uo at *
      refine SSp.to cxd_ok (n := 40) (g := []) 1 3 rfl (σ := Unit) (fun _ => doU n i (xar .and .i64 qk 3)) (fun _ => dU sa sb sc sd se N M.2 wi nw nl ns ws M.1 ss (encL askL xs) [.int .i64 qk, .int .i64 qi, .int .u64 wv, .bool wh, .int .i64 wo, .int .u64 lv, .bool lh, .int .i64 lo] [.int .u64 xv, .bool lh, .int .i64 xo] [.int .u64 uv, .bool wh, .int .i64 uo]) (mkS_le (Nat.le_of_ble_eq_true rfl)) (by kernel_rfl) ?_ fun _ => ?_
      · rw [do_s]
        exact ⟨rfl, (), [.id 0, .id 1, .id 2, .id 3, .id 4, .id 5, .id 6, .id 7, .id 8, .id 9], by (refine ⟨by kernel_rfl, ?_, ?_⟩ <;> repeat (first | exact okTms_nil | refine okTms_cons ?_ ?_ | exact okBlks_nil | refine okBlks_cons ?_ ?_ | exact lws_nil | refine lws_cons ?_ ?_ | exact lb_dead | exact lb_same (by (first | assumption | exact noIds_encL (fun _ => rfl) _ | exact noIds_tab (fun _ => rfl) _ _ | rfl)) | exact lb_ro (by (first | assumption | exact noIds_encL (fun _ => rfl) _ | exact noIds_tab (fun _ => rfl) _ _ | rfl)) | exact lb_none | refine lb_cells ?_ (by simp) | exact lb_cap (Nat.le_refl _) (Nat.le_refl _) rfl rfl | exact lb_capn (by assumption) (by (first | assumption | exact noIds_encL (fun _ => rfl) _ | exact noIds_tab (fun _ => rfl) _ _ | rfl)) | exact lw_any | exact lw_int | exact lw_bool | exact lw_ptr rfl | exact lw_slo rfl | exact lw_nils | exact lw_slo_nils | exact lw_sl rfl | exact lw_noid rfl | exact lw_cap rfl (Nat.le_refl _) | refine lw_tup ?_ | refine lw_agg ?_ | assumption))⟩
      refine SSp.code_last (by kernel_rfl) ?_
      refine SCode.vc cxd_ok (n := 40) (mkS_le (Nat.le_of_ble_eq_true rfl)) ?_
      rw [do_d]
      simp only [ho, o1, o3, xcm_self, xnm_self, xbq_self, wd_and_t, wd_not_t, cond_true, cond_false]
      simp only [sqA, sqB] at m3 ⊢
      generalize hq : xar .and .i64 qk 3 = kd at *
      refine ways (fun h0 => ?_) (fun h0 => ?_)
      · simp only [h0, cond_true] at m3 ⊢
        (repeat (first | (with_reducible refine way_t (by (first | with_reducible rfl | exact t_le (by omega) | exact t_eq (by omega) | exact t_nn (by omega) | exact t_lss (by omega) | exact t_leq (by omega) | exact t_gtr (by omega) | exact t_geq (by omega) | exact t_eql (by omega) | exact t_neq (by omega) | exact t_z (by omega) | exact wd_not_f | assumption)) ?_) | (with_reducible refine way_f (by (first | with_reducible rfl | exact f_le (by omega) | exact f_eq (by omega) | exact f_nn (by omega) | exact f_lss (by omega) | exact f_leq (by omega) | exact f_gtr (by omega) | exact f_geq (by omega) | exact f_eql (by omega) | exact f_neq (by omega) | exact f_z (by omega) | exact wd_not_t | assumption)) ?_)))
        exact ⟨rfl, (), [.id 0, .id 1, .id 2, .id 3, .id 4, .id 5, .id 6], by (refine ⟨by kernel_rfl, ?_, ?_⟩ <;> repeat (first | exact okTms_nil | refine okTms_cons ?_ ?_ | exact okBlks_nil | refine okBlks_cons ?_ ?_ | exact lws_nil | refine lws_cons ?_ ?_ | exact lb_dead | exact lb_same (by (first | assumption | exact noIds_encL (fun _ => rfl) _ | exact noIds_tab (fun _ => rfl) _ _ | rfl)) | exact lb_ro (by (first | assumption | exact noIds_encL (fun _ => rfl) _ | exact noIds_tab (fun _ => rfl) _ _ | rfl)) | exact lb_none | refine lb_cells ?_ (by simp) | exact lb_cap (Nat.le_refl _) (Nat.le_refl _) rfl rfl | exact lb_capn (by assumption) (by (first | assumption | exact noIds_encL (fun _ => rfl) _ | exact noIds_tab (fun _ => rfl) _ _ | rfl)) | exact lw_any | exact lw_int | exact lw_bool | exact lw_ptr rfl | exact lw_slo rfl | exact lw_nils | exact lw_slo_nils | exact lw_sl rfl | exact lw_noid rfl | exact lw_cap rfl (Nat.le_refl _) | refine lw_tup ?_ | refine lw_agg ?_ | assumption))⟩
      refine ways (fun h1 => ?_) (fun h1 => ?_)
      · simp only [h0, h1, cond_true, cond_false] at m3 ⊢
        (repeat (first | (with_reducible refine way_t (by (first | with_reducible rfl | exact t_le (by omega) | exact t_eq (by omega) | exact t_nn (by omega) | exact t_lss (by omega) | exact t_leq (by omega) | exact t_gtr (by omega) | exact t_geq (by omega) | exact t_eql (by omega) | exact t_neq (by omega) | exact t_z (by omega) | exact wd_not_f | assumption)) ?_) | (with_reducible refine way_f (by (first | with_reducible rfl | exact f_le (by omega) | exact f_eq (by omega) | exact f_nn (by omega) | exact f_lss (by omega) | exact f_leq (by omega) | exact f_gtr (by omega) | exact f_geq (by omega) | exact f_eql (by omega) | exact f_neq (by omega) | exact f_z (by omega) | exact wd_not_t | assumption)) ?_)))
        exact ⟨rfl, (), [.id 0, .id 1, .id 2, .id 3, .id 4, .id 5, .id 6], by (refine ⟨by kernel_rfl, ?_, ?_⟩ <;> repeat (first | exact okTms_nil | refine okTms_cons ?_ ?_ | exact okBlks_nil | refine okBlks_cons ?_ ?_ | exact lws_nil | refine lws_cons ?_ ?_ | exact lb_dead | exact lb_same (by (first | assumption | exact noIds_encL (fun _ => rfl) _ | exact noIds_tab (fun _ => rfl) _ _ | rfl)) | exact lb_ro (by (first | assumption | exact noIds_encL (fun _ => rfl) _ | exact noIds_tab (fun _ => rfl) _ _ | rfl)) | exact lb_none | refine lb_cells ?_ (by simp) | exact lb_cap (Nat.le_refl _) (Nat.le_refl _) rfl rfl | exact lb_capn (by assumption) (by (first | assumption | exact noIds_encL (fun _ => rfl) _ | exact noIds_tab (fun _ => rfl) _ _ | rfl)) | exact lw_any | exact lw_int | exact lw_bool | exact lw_ptr rfl | exact lw_slo rfl | exact lw_nils | exact lw_slo_nils | exact lw_sl rfl | exact lw_noid rfl | exact lw_cap rfl (Nat.le_refl _) | refine lw_tup ?_ | refine lw_agg ?_ | assumption))⟩
      refine ways (fun h3 => ?_) (fun h3 => ?_)
      · refine ways (fun h4 => ?_) (fun h4 => ?_)
        · refine ways (fun h5 => ?_) (fun h5 => ?_)
          · simp only [h0, h1, h3, h4, h5, cond_true, cond_false] at m3 ⊢
            have h4' : 0 ≤ qi := by simpa [xcm_geq] using h4
            have h5' : qi < nl := by simpa [xcm_lss] using h5
            obtain ⟨p, rfl⟩ := Int.eq_ofNat_of_zero_le h4'
            obtain ⟨L, eL, e, _⟩ := okL_iff.1 ho
            have hp : p < L.length := by omega
            rw [eL] at m3 ⊢
            simp only [wd_nat, wd_asV, wd_isV, wd_ix, wd_add, wd_mul, wd_ln, Nat.zero_add, Nat.mul_one, wd_isI, wd_asI, wd_isB, wd_asB, wd_nn, cI_tlen, cB_tlen, cII_tlen, decide_true, cond_true, wd_not_t, wd_not_f, wd_and_t, wd_and_f, lk_0 hp, lk_1 hp, lk_2' hp, lk_n] at m3
            simp only [wd_nat, wd_asV, wd_isV, wd_ix, wd_add, wd_mul, wd_ln, Nat.zero_add, Nat.mul_one, wd_isI, wd_asI, wd_isB, wd_asB, wd_nn, cI_tlen, cB_tlen, cII_tlen, decide_true, cond_true, wd_not_t, wd_not_f, wd_and_t, wd_and_f, lk_0 hp, lk_1 hp, lk_2' hp, lk_n]
            (repeat (first | (with_reducible refine way_t (by (first | with_reducible rfl | exact t_le (by omega) | exact t_eq (by omega) | exact t_nn (by omega) | exact t_lss (by omega) | exact t_leq (by omega) | exact t_gtr (by omega) | exact t_geq (by omega) | exact t_eql (by omega) | exact t_neq (by omega) | exact t_z (by omega) | exact wd_not_f | assumption)) ?_) | (with_reducible refine way_f (by (first | with_reducible rfl | exact f_le (by omega) | exact f_eq (by omega) | exact f_nn (by omega) | exact f_lss (by omega) | exact f_leq (by omega) | exact f_gtr (by omega) | exact f_geq (by omega) | exact f_eql (by omega) | exact f_neq (by omega) | exact f_z (by omega) | exact wd_not_t | assumption)) ?_)))
            exact ⟨rfl, (), [.id 0, .id 1, .id 2, .id 3, .id 4, .id 5, .id 6], by (refine ⟨by kernel_rfl, ?_, ?_⟩ <;> repeat (first | exact okTms_nil | refine okTms_cons ?_ ?_ | exact okBlks_nil | refine okBlks_cons ?_ ?_ | exact lws_nil | refine lws_cons ?_ ?_ | exact lb_dead | exact lb_same (by (first | assumption | exact noIds_encL (fun _ => rfl) _ | exact noIds_tab (fun _ => rfl) _ _ | rfl)) | exact lb_ro (by (first | assumption | exact noIds_encL (fun _ => rfl) _ | exact noIds_tab (fun _ => rfl) _ _ | rfl)) | exact lb_none | refine lb_cells ?_ (by simp) | exact lb_cap (Nat.le_refl _) (Nat.le_refl _) rfl rfl | exact lb_capn (by assumption) (by (first | assumption | exact noIds_encL (fun _ => rfl) _ | exact noIds_tab (fun _ => rfl) _ _ | rfl)) | exact lw_any | exact lw_int | exact lw_bool | exact lw_ptr rfl | exact lw_slo rfl | exact lw_nils | exact lw_slo_nils | exact lw_sl rfl | exact lw_noid rfl | exact lw_cap rfl (Nat.le_refl _) | refine lw_tup ?_ | refine lw_agg ?_ | assumption))⟩
          · simp only [h0, h1, h3, h4, h5, cond_true, cond_false] at m3 ⊢
            (repeat (first | (with_reducible refine way_t (by (first | with_reducible rfl | exact t_le (by omega) | exact t_eq (by omega) | exact t_nn (by omega) | exact t_lss (by omega) | exact t_leq (by omega) | exact t_gtr (by omega) | exact t_geq (by omega) | exact t_eql (by omega) | exact t_neq (by omega) | exact t_z (by omega) | exact wd_not_f | assumption)) ?_) | (with_reducible refine way_f (by (first | with_reducible rfl | exact f_le (by omega) | exact f_eq (by omega) | exact f_nn (by omega) | exact f_lss (by omega) | exact f_leq (by omega) | exact f_gtr (by omega) | exact f_geq (by omega) | exact f_eql (by omega) | exact f_neq (by omega) | exact f_z (by omega) | exact wd_not_t | assumption)) ?_)))
            exact ⟨rfl, (), [.id 0, .id 1, .id 2, .id 3, .id 4, .id 5, .id 6], by (refine ⟨by kernel_rfl, ?_, ?_⟩ <;> repeat (first | exact okTms_nil | refine okTms_cons ?_ ?_ | exact okBlks_nil | refine okBlks_cons ?_ ?_ | exact lws_nil | refine lws_cons ?_ ?_ | exact lb_dead | exact lb_same (by (first | assumption | exact noIds_encL (fun _ => rfl) _ | exact noIds_tab (fun _ => rfl) _ _ | rfl)) | exact lb_ro (by (first | assumption | exact noIds_encL (fun _ => rfl) _ | exact noIds_tab (fun _ => rfl) _ _ | rfl)) | exact lb_none | refine lb_cells ?_ (by simp) | exact lb_cap (Nat.le_refl _) (Nat.le_refl _) rfl rfl | exact lb_capn (by assumption) (by (first | assumption | exact noIds_encL (fun _ => rfl) _ | exact noIds_tab (fun _ => rfl) _ _ | rfl)) | exact lw_any | exact lw_int | exact lw_bool | exact lw_ptr rfl | exact lw_slo rfl | exact lw_nils | exact lw_slo_nils | exact lw_sl rfl | exact lw_noid rfl | exact lw_cap rfl (Nat.le_refl _) | refine lw_tup ?_ | refine lw_agg ?_ | assumption))⟩
        · simp only [h0, h1, h3, h4, cond_true, cond_false] at m3 ⊢
          (repeat (first | (with_reducible refine way_t (by (first | with_reducible rfl | exact t_le (by omega) | exact t_eq (by omega) | exact t_nn (by omega) | exact t_lss (by omega) | exact t_leq (by omega) | exact t_gtr (by omega) | exact t_geq (by omega) | exact t_eql (by omega) | exact t_neq (by omega) | exact t_z (by omega) | exact wd_not_f | assumption)) ?_) | (with_reducible refine way_f (by (first | with_reducible rfl | exact f_le (by omega) | exact f_eq (by omega) | exact f_nn (by omega) | exact f_lss (by omega) | exact f_leq (by omega) | exact f_gtr (by omega) | exact f_geq (by omega) | exact f_eql (by omega) | exact f_neq (by omega) | exact f_z (by omega) | exact wd_not_t | assumption)) ?_)))
          exact ⟨rfl, (), [.id 0, .id 1, .id 2, .id 3, .id 4, .id 5, .id 6], by (refine ⟨by kernel_rfl, ?_, ?_⟩ <;> repeat (first | exact okTms_nil | refine okTms_cons ?_ ?_ | exact okBlks_nil | refine okBlks_cons ?_ ?_ | exact lws_nil | refine lws_cons ?_ ?_ | exact lb_dead | exact lb_same (by (first | assumption | exact noIds_encL (fun _ => rfl) _ | exact noIds_tab (fun _ => rfl) _ _ | rfl)) | exact lb_ro (by (first | assumption | exact noIds_encL (fun _ => rfl) _ | exact noIds_tab (fun _ => rfl) _ _ | rfl)) | exact lb_none | refine lb_cells ?_ (by simp) | exact lb_cap (Nat.le_refl _) (Nat.le_refl _) rfl rfl | exact lb_capn (by assumption) (by (first | assumption | exact noIds_encL (fun _ => rfl) _ | exact noIds_tab (fun _ => rfl) _ _ | rfl)) | exact lw_any | exact lw_int | exact lw_bool | exact lw_ptr rfl | exact lw_slo rfl | exact lw_nils | exact lw_slo_nils | exact lw_sl rfl | exact lw_noid rfl | exact lw_cap rfl (Nat.le_refl _) | refine lw_tup ?_ | refine lw_agg ?_ | assumption))⟩
      · simp only [h0, h1, h3, cond_true, cond_false] at m3 ⊢
        (repeat (first | (with_reducible refine way_t (by (first | with_reducible rfl | exact t_le (by omega) | exact t_eq (by omega) | exact t_nn (by omega) | exact t_lss (by omega) | exact t_leq (by omega) | exact t_gtr (by omega) | exact t_geq (by omega) | exact t_eql (by omega) | exact t_neq (by omega) | exact t_z (by omega) | exact wd_not_f | assumption)) ?_) | (with_reducible refine way_f (by (first | with_reducible rfl | exact f_le (by omega) | exact f_eq (by omega) | exact f_nn (by omega) | exact f_lss (by omega) | exact f_leq (by omega) | exact f_gtr (by omega) | exact f_geq (by omega) | exact f_eql (by omega) | exact f_neq (by omega) | exact f_z (by omega) | exact wd_not_t | assumption)) ?_)))
        exact ⟨rfl, (), [.id 0, .id 1, .id 2, .id 3, .id 4, .id 5, .id 6], by (refine ⟨by kernel_rfl, ?_, ?_⟩ <;> repeat (first | exact okTms_nil | refine okTms_cons ?_ ?_ | exact okBlks_nil | refine okBlks_cons ?_ ?_ | exact lws_nil | refine lws_cons ?_ ?_ | exact lb_dead | exact lb_same (by (first | assumption | exact noIds_encL (fun _ => rfl) _ | exact noIds_tab (fun _ => rfl) _ _ | rfl)) | exact lb_ro (by (first | assumption | exact noIds_encL (fun _ => rfl) _ | exact noIds_tab (fun _ => rfl) _ _ | rfl)) | exact lb_none | refine lb_cells ?_ (by simp) | exact lb_cap (Nat.le_refl _) (Nat.le_refl _) rfl rfl | exact lb_capn (by assumption) (by (first | assumption | exact noIds_encL (fun _ => rfl) _ | exact noIds_tab (fun _ => rfl) _ _ | rfl)) | exact lw_any | exact lw_int | exact lw_bool | exact lw_ptr rfl | exact lw_slo rfl | exact lw_nils | exact lw_slo_nils | exact lw_sl rfl | exact lw_noid rfl | exact lw_cap rfl (Nat.le_refl _) | refine lw_tup ?_ | refine lw_agg ?_ | assumption))⟩
    have m4 := okL_noids ho'
    refine SSp.last cxd_ok (n := 40) (mkS_le (Nat.le_of_ble_eq_true rfl)) ?_
    rw [do_e, inc_i64 h1 hn]
    exact ⟨rfl, ⟨i + 1, h1, h2⟩, by simp only; omega, [.id 0, .id 1, .id 2, .id 3, .id 4, .id 5, .id 6], by (refine ⟨by kernel_rfl, ?_, ?_⟩ <;> repeat (first | exact okTms_nil | refine okTms_cons ?_ ?_ | exact okBlks_nil | refine okBlks_cons ?_ ?_ | exact lws_nil | refine lws_cons ?_ ?_ | exact lb_dead | exact lb_same (by (first | assumption | exact noIds_encL (fun _ => rfl) _ | exact noIds_tab (fun _ => rfl) _ _ | rfl)) | exact lb_ro (by (first | assumption | exact noIds_encL (fun _ => rfl) _ | exact noIds_tab (fun _ => rfl) _ _ | rfl)) | exact lb_none | refine lb_cells ?_ (by simp) | exact lb_cap (Nat.le_refl _) (Nat.le_refl _) rfl rfl | exact lb_capn (by assumption) (by (first | assumption | exact noIds_encL (fun _ => rfl) _ | exact noIds_tab (fun _ => rfl) _ _ | rfl)) | exact lw_any | exact lw_int | exact lw_bool | exact lw_ptr rfl | exact lw_slo rfl | exact lw_nils | exact lw_slo_nils | exact lw_sl rfl | exact lw_noid rfl | exact lw_cap rfl (Nat.le_refl _) | refine lw_tup ?_ | refine lw_agg ?_ | assumption))⟩
  have ho := hok (min n 60)
  generalize runS nl (decOps (encL askL xs)) ls C (min n 60) = M at *
  have m2 := okL_noids ho
  refine SSp.last cxd_ok (n := 40) (mkS_le (Nat.le_of_ble_eq_true rfl)) ?_
  rw [do_z]
  simp only [ho, o1, o3, eqLs_self, xcm_self, cond_true, wd_eq, decide_true]
  (repeat (first | (with_reducible refine way_t (by (first | with_reducible rfl | exact t_le (by omega) | exact t_eq (by omega) | exact t_nn (by omega) | exact t_lss (by omega) | exact t_leq (by omega) | exact t_gtr (by omega) | exact t_geq (by omega) | exact t_eql (by omega) | exact t_neq (by omega) | exact t_z (by omega) | exact wd_not_f | assumption)) ?_) | (with_reducible refine way_f (by (first | with_reducible rfl | exact f_le (by omega) | exact f_eq (by omega) | exact f_nn (by omega) | exact f_lss (by omega) | exact f_leq (by omega) | exact f_gtr (by omega) | exact f_geq (by omega) | exact f_eql (by omega) | exact f_neq (by omega) | exact f_z (by omega) | exact wd_not_t | assumption)) ?_)))
  exact ⟨trivial, rfl, _, _, [.id 0, .id 1, .id 2, .id 3, .id 4, .id 5, .id 6], ⟨rfl, rfl⟩, by (refine ⟨by kernel_rfl, ?_, ?_⟩ <;> repeat (first | exact okTms_nil | refine okTms_cons ?_ ?_ | exact okBlks_nil | refine okBlks_cons ?_ ?_ | exact lws_nil | refine lws_cons ?_ ?_ | exact lb_dead | exact lb_same (by (first | assumption | exact noIds_encL (fun _ => rfl) _ | exact noIds_tab (fun _ => rfl) _ _ | rfl)) | exact lb_ro (by (first | assumption | exact noIds_encL (fun _ => rfl) _ | exact noIds_tab (fun _ => rfl) _ _ | rfl)) | exact lb_none | refine lb_cells ?_ (by simp) | exact lb_cap (Nat.le_refl _) (Nat.le_refl _) rfl rfl | exact lb_capn (by assumption) (by (first | assumption | exact noIds_encL (fun _ => rfl) _ | exact noIds_tab (fun _ => rfl) _ _ | rfl)) | exact lw_any | exact lw_int | exact lw_bool | exact lw_ptr rfl | exact lw_slo rfl | exact lw_nils | exact lw_slo_nils | exact lw_sl rfl | exact lw_noid rfl | exact lw_cap rfl (Nat.le_refl _) | refine lw_tup ?_ | refine lw_agg ?_ | assumption))⟩
end
end Go.Lev
