/- CheckTells: the code's look, whole -/
import Derived.Test.YtnpcobjiaimbhaaDoorCW4
import Derived.Test.YtnpcobjiaimbhaaDoorLc
import Derived.Test.YtnpcobjiaimbhaaDoorChecked
import Derived.KernelRfl

namespace Go.Lev
open Go.RowKit
set_option linter.unusedVariables false
set_option linter.unusedSimpArgs false
set_option maxRecDepth 100000
noncomputable section
def decIns : List LV → List InsR
  | .int _ a :: .int _ b :: .int _ c :: .int _ d :: .int _ e :: r => ⟨a, b, c, d, e⟩ :: decIns r
  | _ => []
theorem decIns_enc : ∀ xs, decIns (encL insE xs) = xs
  | [] => rfl
  | x :: r => by simp [encL, insE, decIns, decIns_enc r]
def UndP (L : List InsR) (r : List Int) : Prop := ∀ j, j < L.length → opAt L (j : Int) = 16 → 0 ≤ r.getD j 0 ∧ r.getD j 0 < (L.length : Int)
def undOk (n : Nat) (ls rc mc : List LV) : Bool := @decide (∃ L r m, ls = encL insE L ∧ L.length = n ∧ n ≤ 1000 ∧ rc = encL (cI .i64) r ∧ r.length = n ∧ mc = encL (cI .i64) m ∧ m.length = n ∧ UndP L r) (Classical.propDecidable _)

def undW (ls rc mc : List LV) : List LV := encL (cI .i64) (und (decIns ls) (decIi64 rc) (decIi64 mc) (decIns ls).length)

abbrev unL : List Nat := [0, 7, 8, 9]
abbrev unT (n k : Nat) : List (Nat × LV) := [(0, .ptr 0 0), (7, .slo 1 0 n 0), (8, .int .i64 n), (9, .int .i64 k)]
abbrev unH (n : Nat) (ls rc mc : List LV) : List LB := [.cells [.slo 1 0 n 0, .slo 2 0 0 0, .slo 3 0 n 0, .slo 4 0 n 0] none, .ro ls, .dead, .cells rc (some 1), .cells mc (some 1)]
theorem un_a (n : Nat) (ls rc mc : List LV) (K : Pk) : (xsp Go.Proofs.Tryd.prog (fun _ => none) 40 37 (seg (sp Go.Proofs.Tryd.prog 22) 0 1) (tm0 [.ptr 0 0]) (mkS (unH n ls rc mc)) (vK unL K)) = (
 K .normal [.ptr 0 0, .slo 1 0 n 0, .int .i64 ↑n, .int .i64 0] [some (.cells [.slo 1 0 n 0, .slo 2 0 0 0, .slo 3 0 n 0, .slo 4 0 n 0] none), some (.ro ls), some .dead, some (.cells rc (some 1)), some (.cells mc (some 1))] []) := by kernel_rfl
theorem un_b (n k : Nat) (ls rc mc : List LV) (K : Pk) : (xcode Go.Proofs.Tryd.prog (fun _ => none) 40 37 (loopOf (nthC (sp Go.Proofs.Tryd.prog 22) 1)) (mkTm 37 (unT n k)) (mkS (unH n ls rc mc)) (vK unL K)) = (
 bif xcm .lss ↑k ↑n then (
 bif xle (xadd (xnat ↑k) 1) n then
 bif xle (xadd (xix 0 (xnat ↑k) 5) 5) (xln ls) then
 bif isI .i64 (nthD ls (xix 0 (xnat ↑k) 5)) then
 bif isI .i64 (nthD ls (xadd (xix 0 (xnat ↑k) 5) 1)) then
 bif isI .i64 (nthD ls (xadd (xadd (xix 0 (xnat ↑k) 5) 1) 1)) then
 bif isI .i64 (nthD ls (xadd (xadd (xadd (xix 0 (xnat ↑k) 5) 1) 1) 1)) then
 bif isI .u64 (nthD ls (xadd (xadd (xadd (xadd (xix 0 (xnat ↑k) 5) 1) 1) 1) 1)) then
 bif xcm .eql (asI (nthD ls (xix 0 (xnat ↑k) 5))) 16 then (
 bif xle (xadd (xnat ↑k) 1) n then
 bif xle (xadd (xix 0 (xnat ↑k) 1) 1) (xln rc) then
 bif isI .i64 (nthD rc (xix 0 (xnat ↑k) 1)) then
 bif xnn (asI (nthD rc (xix 0 (xnat ↑k) 1))) then
 bif xle (xadd (xnat (asI (nthD rc (xix 0 (xnat ↑k) 1)))) 1) n then
 bif xle (xadd (xix 0 (xnat (asI (nthD rc (xix 0 (xnat ↑k) 1)))) 1) 1) (xln mc) then
 bif isI .i64 (nthD mc (xix 0 (xnat (asI (nthD rc (xix 0 (xnat ↑k) 1)))) 1)) then
 bif xle (xadd (xnat ↑k) 1) n then
 bif xle (xadd (xix 0 (xnat ↑k) 1) 1) (xln mc) then
 K .normal [.ptr 0 0, .slo 1 0 n 0, .int .i64 ↑n, .int .i64 (xar .add .i64 (↑k) 1)] [some (.cells [.slo 1 0 n 0, .slo 2 0 0 0, .slo 3 0 n 0, .slo 4 0 n 0] none), some (.ro ls), some .dead, some (.cells rc (some 1)), some (.cells (xlay mc (xix 0 (xnat ↑k) 1) [.int .i64 (asI (nthD mc (xix 0 (xnat (asI (nthD rc (xix 0 (xnat ↑k) 1)))) 1)))]) (some 1)), some (.cells [.int .i64 (asI (nthD ls (xix 0 (xnat ↑k) 5))), .int .i64 (asI (nthD ls (xadd (xix 0 (xnat ↑k) 5) 1))), .int .i64 (asI (nthD ls (xadd (xadd (xix 0 (xnat ↑k) 5) 1) 1))), .int .i64 (asI (nthD ls (xadd (xadd (xadd (xix 0 (xnat ↑k) 5) 1) 1) 1))), .int .u64 (asI (nthD ls (xadd (xadd (xadd (xadd (xix 0 (xnat ↑k) 5) 1) 1) 1) 1)))] none)] []
 else False
 else False
 else False
 else False
 else False
 else False
 else False
 else False
 else False)
 else (
 K .normal [.ptr 0 0, .slo 1 0 n 0, .int .i64 ↑n, .int .i64 (xar .add .i64 (↑k) 1)] [some (.cells [.slo 1 0 n 0, .slo 2 0 0 0, .slo 3 0 n 0, .slo 4 0 n 0] none), some (.ro ls), some .dead, some (.cells rc (some 1)), some (.cells mc (some 1)), some (.cells [.int .i64 (asI (nthD ls (xix 0 (xnat ↑k) 5))), .int .i64 (asI (nthD ls (xadd (xix 0 (xnat ↑k) 5) 1))), .int .i64 (asI (nthD ls (xadd (xadd (xix 0 (xnat ↑k) 5) 1) 1))), .int .i64 (asI (nthD ls (xadd (xadd (xadd (xix 0 (xnat ↑k) 5) 1) 1) 1))), .int .u64 (asI (nthD ls (xadd (xadd (xadd (xadd (xix 0 (xnat ↑k) 5) 1) 1) 1) 1)))] none)] [])
 else False
 else False
 else False
 else False
 else False
 else False
 else False)
 else (
 K (.exit 0) [.ptr 0 0, .slo 1 0 n 0, .int .i64 ↑n, .int .i64 ↑k] [some (.cells [.slo 1 0 n 0, .slo 2 0 0 0, .slo 3 0 n 0, .slo 4 0 n 0] none), some (.ro ls), some .dead, some (.cells rc (some 1)), some (.cells mc (some 1))] [])) := by kernel_rfl
theorem und_next (L : List InsR) (r m : List Int) {k : Nat} (hk : k < L.length) : und L r m (k + 1) = if L[k].op = 16 then (und L r m k).set k ((und L r m k).getD (r.getD k 0).toNat 0) else und L r m k := by
  rw [und, opAt_get hk]
abbrev unS (L : List InsR) (r m : List Int) (k : Nat) : List LB := unH L.length (encL insE L) (encL (cI .i64) r) (encL (cI .i64) (und L r m k))
set_option maxHeartbeats 1000000 in
theorem und_ok (L : List InsR) (r m : List Int) (hL : L.length ≤ 1000) (hr : r.length = L.length) (hm : m.length = L.length) (hu : UndP L r) : SFun Go.Proofs.Tryd.prog 22 [.ptr 0 0] (mkS (unS L r m 0)) fun l s => l = .tup [] ∧ s = mkS (unS L r m L.length) := by
  refine SFun.mono (SFun.pieces (Q := fun l b => l = .tup [] ∧ b = unS L r m L.length) 37 5 unL [] (by kernel_rfl) rfl rfl rfl ?_) fun l s' ⟨b0, ⟨h1, h2⟩, h3⟩ => ⟨h1, by rw [h3, h2]⟩
  have nls : noIds (encL insE L) = true := ins_noids L
  have nr := noIds_Ii64 r
  have nm := fun k => noIds_Ii64 (und L r m k)
  refine SSp.to noCx_ok (n := 40) (g := []) 1 1 rfl (σ := Unit) (fun _ => unT L.length 0) (fun _ => unS L r m 0) (mkS_le (Nat.le_refl _)) (by kernel_rfl) ?_ fun _ => ?_
  · have n1 := nm 0
    rw [un_a]
    exact ⟨rfl, (), [.id 0, .id 1, .id 2, .id 3, .id 4], by (refine ⟨by kernel_rfl, ?_, ?_⟩ <;> repeat first | exact okTms_nil | refine okTms_cons ?_ ?_ | exact okBlks_nil | refine okBlks_cons ?_ ?_ | exact lws_nil | refine lws_cons ?_ ?_ | exact lb_dead | exact zy1 | exact zy2 | exact lb_none | refine zy3 ?_ | exact zy4 | exact lw_any | exact lw_int | exact lw_bool | exact zy5 | exact zy6 | exact lw_nils | exact lw_slo_nils | exact zy7 | exact zy8 | exact zy9 | refine lw_tup ?_ | refine lw_agg ?_ | assumption)⟩
  refine SSp.code_last (by kernel_rfl) ?_
  refine SCode.loop_vc noCx_ok (n := 40) 0 (by kernel_rfl) (σ := {k : Nat // k ≤ L.length}) (fun k => unT L.length k.1) (fun k => unS L r m k.1) (fun k => L.length - k.1) (fun _ => Nat.le_of_ble_eq_true rfl) (fun ⟨k, hk⟩ => ?_) ⟨0, Nat.zero_le _⟩
  dsimp only
  have n1 := nm k
  have hl : (und L r m k).length = L.length := (und_len L r m k).trans hm
  rw [un_b]
  by_cases hlt : k < L.length
  · have n2 := nm (k + 1)
    have c0 := ins_0 hlt
    have c1 := ins_1 hlt
    have c2 : nthD (encL insE L) (k * 5 + 1 + 1) = .int .i64 L[k].b := ins_2 hlt
    have c3 : nthD (encL insE L) (k * 5 + 1 + 1 + 1) = .int .i64 L[k].c := ins_3 hlt
    have c4 : nthD (encL insE L) (k * 5 + 1 + 1 + 1 + 1) = .int .u64 L[k].n := ins_4 hlt
    have hkr : k < r.length := by omega
    have er : r.getD k 0 = r[k] := by simp [List.getD_eq_getElem?_getD, hkr]
    have en := und_next L r m hlt
    by_cases e : L[k].op = 16
    · have hb := hu k hlt ((opAt_get hlt).trans e)
      rw [er] at hb
      rw [if_pos e, er] at en
      obtain ⟨j, ej⟩ : ∃ j : Nat, r[k] = (j : Int) := ⟨r[k].toNat, by omega⟩
      have hjl : j < (und L r m k).length := by omega
      have ed : (und L r m k).getD j 0 = (und L r m k)[j] := by simp [List.getD_eq_getElem?_getD, hjl]
      rw [ej, show ((j : Int)).toNat = j from rfl, ed] at en
      have st := setI (und L r m k) k (und L r m k)[j] (by omega)
      have cr : nthD (encL (cI .i64) r) k = .int .i64 (j : Int) := by rw [encIi64_nth hkr, ej]
      rw [en] at n2
      simp only [wd_nat, wd_asV, wd_isV, wd_ix, wd_add, wd_mul, wd_ln, Nat.zero_add, Nat.mul_one, wd_isI, wd_asI, wd_isB, wd_asB, wd_nn, cI_tlen, cB_tlen, cII_tlen, decide_true, cond_true, wd_not_t, wd_not_f, wd_and_t, wd_and_f, c0, c1, c2, c3, c4, ins_n, cr, encIi64_nth hjl, encIi64_len, hl, hr, st, inc_i64 hlt (by omega)]
      (with_reducible repeat first | refine zq1 ?_ | refine zq2 ?_ | refine zq3 ?_ | refine zq4 ?_ | refine zq5 ?_ | refine zq6 ?_ | refine zq7 ?_ | refine zq8 ?_ | refine zq9 ?_ | refine zqa ?_ | refine zqb ?_ | refine zqc ?_ | refine zqd ?_ | refine zqe ?_ | refine zqf ?_ | refine zqg ?_ | refine zqh ?_ | refine zqi ?_ | refine zqj ?_ | refine zqk ?_ | refine zql ?_ | refine zqm ?_ | refine zqn ?_ | refine zqo ?_ | refine zqp ?_)
      exact ⟨rfl, ⟨k + 1, hlt⟩, by simp only; omega, [.id 0, .id 1, .id 2, .id 3, .id 4], by simp only [unS, en]; (refine ⟨by kernel_rfl, ?_, ?_⟩ <;> repeat first | exact okTms_nil | refine okTms_cons ?_ ?_ | exact okBlks_nil | refine okBlks_cons ?_ ?_ | exact lws_nil | refine lws_cons ?_ ?_ | exact lb_dead | exact zy1 | exact zy2 | exact lb_none | refine zy3 ?_ | exact zy4 | exact lw_any | exact lw_int | exact lw_bool | exact zy5 | exact zy6 | exact lw_nils | exact lw_slo_nils | exact zy7 | exact zy8 | exact zy9 | refine lw_tup ?_ | refine lw_agg ?_ | assumption)⟩
    · rw [if_neg e] at en
      simp only [wd_nat, wd_asV, wd_isV, wd_ix, wd_add, wd_mul, wd_ln, Nat.zero_add, Nat.mul_one, wd_isI, wd_asI, wd_isB, wd_asB, wd_nn, cI_tlen, cB_tlen, cII_tlen, decide_true, cond_true, wd_not_t, wd_not_f, wd_and_t, wd_and_f, c0, c1, c2, c3, c4, ins_n, encIi64_len, hl, hr, inc_i64 hlt (by omega)]
      (with_reducible repeat first | refine zq1 ?_ | refine zq2 ?_ | refine zq3 ?_ | refine zq4 ?_ | refine zq5 ?_ | refine zq6 ?_ | refine zq7 ?_ | refine zq8 ?_ | refine zq9 ?_ | refine zqa ?_ | refine zqb ?_ | refine zqc ?_ | refine zqd ?_ | refine zqe ?_ | refine zqf ?_ | refine zqg ?_ | refine zqh ?_ | refine zqi ?_ | refine zqj ?_ | refine zqk ?_ | refine zql ?_ | refine zqm ?_ | refine zqn ?_ | refine zqo ?_ | refine zqp ?_)
      exact ⟨rfl, ⟨k + 1, hlt⟩, by simp only; omega, [.id 0, .id 1, .id 2, .id 3, .id 4], by simp only [unS, en]; (refine ⟨by kernel_rfl, ?_, ?_⟩ <;> repeat first | exact okTms_nil | refine okTms_cons ?_ ?_ | exact okBlks_nil | refine okBlks_cons ?_ ?_ | exact lws_nil | refine lws_cons ?_ ?_ | exact lb_dead | exact zy1 | exact zy2 | exact lb_none | refine zy3 ?_ | exact zy4 | exact lw_any | exact lw_int | exact lw_bool | exact zy5 | exact zy6 | exact lw_nils | exact lw_slo_nils | exact zy7 | exact zy8 | exact zy9 | refine lw_tup ?_ | refine lw_agg ?_ | assumption)⟩
  · obtain rfl : k = L.length := by omega
    (with_reducible repeat first | refine zq1 ?_ | refine zq2 ?_ | refine zq3 ?_ | refine zq4 ?_ | refine zq5 ?_ | refine zq6 ?_ | refine zq7 ?_ | refine zq8 ?_ | refine zq9 ?_ | refine zqa ?_ | refine zqb ?_ | refine zqc ?_ | refine zqd ?_ | refine zqe ?_ | refine zqf ?_ | refine zqg ?_ | refine zqh ?_ | refine zqi ?_ | refine zqj ?_ | refine zqk ?_ | refine zql ?_ | refine zqm ?_ | refine zqn ?_ | refine zqo ?_ | refine zqp ?_)
    exact ⟨trivial, rfl, .tup [], _, [.id 0, .id 1, .id 2, .id 3, .id 4], ⟨rfl, rfl⟩, by (refine ⟨by kernel_rfl, ?_, ?_⟩ <;> repeat first | exact okTms_nil | refine okTms_cons ?_ ?_ | exact okBlks_nil | refine okBlks_cons ?_ ?_ | exact lws_nil | refine lws_cons ?_ ?_ | exact lb_dead | exact zy1 | exact zy2 | exact lb_none | refine zy3 ?_ | exact zy4 | exact lw_any | exact lw_int | exact lw_bool | exact zy5 | exact zy6 | exact lw_nils | exact lw_slo_nils | exact zy7 | exact zy8 | exact zy9 | refine lw_tup ?_ | refine lw_agg ?_ | assumption)⟩
theorem undOk_iff {n : Nat} {ls rc mc : List LV} : undOk n ls rc mc = true ↔ ∃ L r m, ls = encL insE L ∧ L.length = n ∧ n ≤ 1000 ∧ rc = encL (cI .i64) r ∧ r.length = n ∧ mc = encL (cI .i64) m ∧ m.length = n ∧ UndP L r := by simp only [undOk, decide_eq_true_eq]
theorem und_in (n n1 n2 : Nat) (ls rc mc : List LV) (h : undOk n ls rc mc = true) (e1 : xeq n n1 = true) (e2 : xeq n n2 = true) : SFun Go.Proofs.Tryd.prog 22 [.ptr 0 0] (mkS [.cells [.slo 1 0 n 0, .slo 2 0 0 0, .slo 3 0 n1 0, .slo 4 0 n2 0] none, .ro ls, .dead, .cells rc (some 1), .cells mc (some 1)])
    fun l s => l = .tup [] ∧ s = mkS [.cells [.slo 1 0 n 0, .slo 2 0 0 0, .slo 3 0 n1 0, .slo 4 0 n2 0] none, .ro ls, .dead, .cells rc (some 1), .cells (undW ls rc mc) (some 1)] := by
  obtain rfl : n = n1 := Nat.eq_of_beq_eq_true e1
  obtain rfl : n = n2 := Nat.eq_of_beq_eq_true e2
  obtain ⟨L, r, m, rfl, rfl, h1, rfl, h2, rfl, h3, h4⟩ := undOk_iff.1 h
  rw [undW, decIns_enc, decIi64_enc, decIi64_enc]
  exact und_ok L r m h1 h2 h3 h4
theorem undOk_no {n : Nat} {ls rc mc : List LV} (h : undOk n ls rc mc = true) : noIds ls = true ∧ noIds rc = true ∧ noIds mc = true := by
  obtain ⟨L, r, m, rfl, rfl, h1, rfl, h2, rfl, h3, h4⟩ := undOk_iff.1 h
  exact ⟨ins_noids L, noIds_Ii64 r, noIds_Ii64 m⟩
def undG : Gc := fun args s => match args, s.g with
  | [.ptr p 0], [] => (match s.h.get p with
    | some (.cells [.slo a 0 n 0, .slo o 0 0 0, .slo r 0 n1 0, .slo m 0 n2 0] none) => (match s.h.get a with
      | some (.ro ls) => (match s.h.get o with
        | some (.dead) => (match s.h.get r with
          | some (.cells rc (some 1)) => (match s.h.get m with
            | some (.cells mc (some 1)) => cond (nodupB [p, a, o, r, m]) (match s.lay [p, a, o, r, m] [.cells [.slo a 0 n 0, .slo o 0 0 0, .slo r 0 n1 0, .slo m 0 n2 0] none, .ro ls, .dead, .cells rc (some 1), .cells (undW ls rc mc) (some 1)] [] with
              | some s' => some ([undOk n ls rc mc, xeq n n1, xeq n n2], .tup [], s')
              | none => none) none
            | _ => none)
          | _ => none)
        | _ => none)
      | _ => none)
    | _ => none)
  | _, _ => none
theorem undG_ok : GOk Go.Proofs.Tryd.prog 22 undG := by
  intro args s bs l s' hg hb hfr
  unfold undG at hg
  split at hg
  · rename_i p hgl
    split at hg
    · rename_i a n o r n1 m n2 hb0
      split at hg
      · rename_i ls hb1
        split at hg
        · rename_i  hb2
          split at hg
          · rename_i rc hb3
            split at hg
            · rename_i mc hb4
              cases hbc : nodupB [p, a, o, r, m] with
              | false => rw [hbc] at hg; cases hg
              | true =>
                rw [hbc] at hg
                simp only [cond_true] at hg
                split at hg
                · rename_i s1 hs1
                  simp only [Option.some.injEq, Prod.mk.injEq] at hg
                  obtain ⟨rfl, rfl, rfl⟩ := hg
                  simp only [allT_cons] at hb
                  obtain ⟨k1, k2, k3, _⟩ := hb
                  obtain ⟨no1, no2, no3⟩ := undOk_no k1
                  refine SFun.lay (bs := [.cells [.slo 1 0 n 0, .slo 2 0 0 0, .slo 3 0 n1 0, .slo 4 0 n2 0] none, .ro ls, .dead, .cells rc (some 1), .cells mc (some 1)]) (args0 := [.ptr 0 0]) (bs' := [.cells [.slo 1 0 n 0, .slo 2 0 0 0, .slo 3 0 n1 0, .slo 4 0 n2 0] none, .ro ls, .dead, .cells rc (some 1), .cells (undW ls rc mc) (some 1)]) (v0 := .tup []) hfr hs1 (nodupB_nd hbc)
                    ⟨⟨there hfr hb0, _, hb0, by (first | exact lb_dead | exact lb_same (by (first | assumption | exact noIds_tab (fun _ => rfl) _ _ | exact noIds_encL (fun _ => rfl) _ | rfl)) | exact lb_ro (by (first | assumption | exact noIds_tab (fun _ => rfl) _ _ | exact noIds_encL (fun _ => rfl) _ | rfl)) | exact lb_none | exact lb_cells (by ((repeat refine lws_cons (by (first | exact lw_any | exact lw_int | exact lw_bool | exact lw_ptr rfl | exact lw_slo rfl | exact lw_nilp | exact lw_nils | exact lw_str | exact lw_slo_nils | exact lw_slo_sle | exact lw_sl rfl | exact lw_unb | exact lw_gptr | exact lw_noid rfl | exact lw_cap rfl (Nat.le_refl _) | exact lw_cap rfl (by omega) | assumption | exact lw_tup (by ((repeat refine lws_cons (by (first | exact lw_any | exact lw_int | exact lw_bool | exact lw_ptr rfl | exact lw_slo rfl | exact lw_nilp | exact lw_nils | exact lw_str | exact lw_slo_nils | exact lw_slo_sle | exact lw_sl rfl | exact lw_unb | exact lw_gptr | exact lw_noid rfl | exact lw_cap rfl (Nat.le_refl _) | exact lw_cap rfl (by omega) | assumption)) ?_); exact lws_nil)))) ?_); exact lws_nil)) (by simp) | exact lb_iter | exact lb_cap (Nat.le_refl _) (Nat.le_refl _) rfl rfl | exact lb_capn (by assumption) (by (first | assumption | exact noIds_tab (fun _ => rfl) _ _ | exact noIds_encL (fun _ => rfl) _ | rfl)) | assumption), fun κ hκ => lb_cells (lws_cons (lw_slo (hκ 1 a rfl)) (lws_cons (lw_slo (hκ 2 o rfl)) (lws_cons (lw_slo (hκ 3 r rfl)) (lws_cons (lw_slo (hκ 4 m rfl)) lws_nil)))) (by simp)⟩, ⟨there hfr hb1, _, hb1, by (first | exact lb_dead | exact lb_same (by (first | assumption | exact noIds_tab (fun _ => rfl) _ _ | exact noIds_encL (fun _ => rfl) _ | rfl)) | exact lb_ro (by (first | assumption | exact noIds_tab (fun _ => rfl) _ _ | exact noIds_encL (fun _ => rfl) _ | rfl)) | exact lb_none | exact lb_cells (by ((repeat refine lws_cons (by (first | exact lw_any | exact lw_int | exact lw_bool | exact lw_ptr rfl | exact lw_slo rfl | exact lw_nilp | exact lw_nils | exact lw_str | exact lw_slo_nils | exact lw_slo_sle | exact lw_sl rfl | exact lw_unb | exact lw_gptr | exact lw_noid rfl | exact lw_cap rfl (Nat.le_refl _) | exact lw_cap rfl (by omega) | assumption | exact lw_tup (by ((repeat refine lws_cons (by (first | exact lw_any | exact lw_int | exact lw_bool | exact lw_ptr rfl | exact lw_slo rfl | exact lw_nilp | exact lw_nils | exact lw_str | exact lw_slo_nils | exact lw_slo_sle | exact lw_sl rfl | exact lw_unb | exact lw_gptr | exact lw_noid rfl | exact lw_cap rfl (Nat.le_refl _) | exact lw_cap rfl (by omega) | assumption)) ?_); exact lws_nil)))) ?_); exact lws_nil)) (by simp) | exact lb_iter | exact lb_cap (Nat.le_refl _) (Nat.le_refl _) rfl rfl | exact lb_capn (by assumption) (by (first | assumption | exact noIds_tab (fun _ => rfl) _ _ | exact noIds_encL (fun _ => rfl) _ | rfl)) | assumption), fun κ hκ => by (first | exact lb_dead | exact lb_same (by (first | assumption | exact noIds_tab (fun _ => rfl) _ _ | exact noIds_encL (fun _ => rfl) _ | rfl)) | exact lb_ro (by (first | assumption | exact noIds_tab (fun _ => rfl) _ _ | exact noIds_encL (fun _ => rfl) _ | rfl)) | exact lb_none | exact lb_cells (by ((repeat refine lws_cons (by (first | exact lw_any | exact lw_int | exact lw_bool | exact lw_ptr rfl | exact lw_slo rfl | exact lw_nilp | exact lw_nils | exact lw_str | exact lw_slo_nils | exact lw_slo_sle | exact lw_sl rfl | exact lw_unb | exact lw_gptr | exact lw_noid rfl | exact lw_cap rfl (Nat.le_refl _) | exact lw_cap rfl (by omega) | assumption | exact lw_tup (by ((repeat refine lws_cons (by (first | exact lw_any | exact lw_int | exact lw_bool | exact lw_ptr rfl | exact lw_slo rfl | exact lw_nilp | exact lw_nils | exact lw_str | exact lw_slo_nils | exact lw_slo_sle | exact lw_sl rfl | exact lw_unb | exact lw_gptr | exact lw_noid rfl | exact lw_cap rfl (Nat.le_refl _) | exact lw_cap rfl (by omega) | assumption)) ?_); exact lws_nil)))) ?_); exact lws_nil)) (by simp) | exact lb_iter | exact lb_cap (Nat.le_refl _) (Nat.le_refl _) rfl rfl | exact lb_capn (by assumption) (by (first | assumption | exact noIds_tab (fun _ => rfl) _ _ | exact noIds_encL (fun _ => rfl) _ | rfl)) | assumption)⟩, ⟨there hfr hb2, _, hb2, by (first | exact lb_dead | exact lb_same (by (first | assumption | exact noIds_tab (fun _ => rfl) _ _ | exact noIds_encL (fun _ => rfl) _ | rfl)) | exact lb_ro (by (first | assumption | exact noIds_tab (fun _ => rfl) _ _ | exact noIds_encL (fun _ => rfl) _ | rfl)) | exact lb_none | exact lb_cells (by ((repeat refine lws_cons (by (first | exact lw_any | exact lw_int | exact lw_bool | exact lw_ptr rfl | exact lw_slo rfl | exact lw_nilp | exact lw_nils | exact lw_str | exact lw_slo_nils | exact lw_slo_sle | exact lw_sl rfl | exact lw_unb | exact lw_gptr | exact lw_noid rfl | exact lw_cap rfl (Nat.le_refl _) | exact lw_cap rfl (by omega) | assumption | exact lw_tup (by ((repeat refine lws_cons (by (first | exact lw_any | exact lw_int | exact lw_bool | exact lw_ptr rfl | exact lw_slo rfl | exact lw_nilp | exact lw_nils | exact lw_str | exact lw_slo_nils | exact lw_slo_sle | exact lw_sl rfl | exact lw_unb | exact lw_gptr | exact lw_noid rfl | exact lw_cap rfl (Nat.le_refl _) | exact lw_cap rfl (by omega) | assumption)) ?_); exact lws_nil)))) ?_); exact lws_nil)) (by simp) | exact lb_iter | exact lb_cap (Nat.le_refl _) (Nat.le_refl _) rfl rfl | exact lb_capn (by assumption) (by (first | assumption | exact noIds_tab (fun _ => rfl) _ _ | exact noIds_encL (fun _ => rfl) _ | rfl)) | assumption), fun κ hκ => lb_dead⟩, ⟨there hfr hb3, _, hb3, by (first | exact lb_dead | exact lb_same (by (first | assumption | exact noIds_tab (fun _ => rfl) _ _ | exact noIds_encL (fun _ => rfl) _ | rfl)) | exact lb_ro (by (first | assumption | exact noIds_tab (fun _ => rfl) _ _ | exact noIds_encL (fun _ => rfl) _ | rfl)) | exact lb_none | exact lb_cells (by ((repeat refine lws_cons (by (first | exact lw_any | exact lw_int | exact lw_bool | exact lw_ptr rfl | exact lw_slo rfl | exact lw_nilp | exact lw_nils | exact lw_str | exact lw_slo_nils | exact lw_slo_sle | exact lw_sl rfl | exact lw_unb | exact lw_gptr | exact lw_noid rfl | exact lw_cap rfl (Nat.le_refl _) | exact lw_cap rfl (by omega) | assumption | exact lw_tup (by ((repeat refine lws_cons (by (first | exact lw_any | exact lw_int | exact lw_bool | exact lw_ptr rfl | exact lw_slo rfl | exact lw_nilp | exact lw_nils | exact lw_str | exact lw_slo_nils | exact lw_slo_sle | exact lw_sl rfl | exact lw_unb | exact lw_gptr | exact lw_noid rfl | exact lw_cap rfl (Nat.le_refl _) | exact lw_cap rfl (by omega) | assumption)) ?_); exact lws_nil)))) ?_); exact lws_nil)) (by simp) | exact lb_iter | exact lb_cap (Nat.le_refl _) (Nat.le_refl _) rfl rfl | exact lb_capn (by assumption) (by (first | assumption | exact noIds_tab (fun _ => rfl) _ _ | exact noIds_encL (fun _ => rfl) _ | rfl)) | assumption), fun κ hκ => by (first | exact lb_dead | exact lb_same (by (first | assumption | exact noIds_tab (fun _ => rfl) _ _ | exact noIds_encL (fun _ => rfl) _ | rfl)) | exact lb_ro (by (first | assumption | exact noIds_tab (fun _ => rfl) _ _ | exact noIds_encL (fun _ => rfl) _ | rfl)) | exact lb_none | exact lb_cells (by ((repeat refine lws_cons (by (first | exact lw_any | exact lw_int | exact lw_bool | exact lw_ptr rfl | exact lw_slo rfl | exact lw_nilp | exact lw_nils | exact lw_str | exact lw_slo_nils | exact lw_slo_sle | exact lw_sl rfl | exact lw_unb | exact lw_gptr | exact lw_noid rfl | exact lw_cap rfl (Nat.le_refl _) | exact lw_cap rfl (by omega) | assumption | exact lw_tup (by ((repeat refine lws_cons (by (first | exact lw_any | exact lw_int | exact lw_bool | exact lw_ptr rfl | exact lw_slo rfl | exact lw_nilp | exact lw_nils | exact lw_str | exact lw_slo_nils | exact lw_slo_sle | exact lw_sl rfl | exact lw_unb | exact lw_gptr | exact lw_noid rfl | exact lw_cap rfl (Nat.le_refl _) | exact lw_cap rfl (by omega) | assumption)) ?_); exact lws_nil)))) ?_); exact lws_nil)) (by simp) | exact lb_iter | exact lb_cap (Nat.le_refl _) (Nat.le_refl _) rfl rfl | exact lb_capn (by assumption) (by (first | assumption | exact noIds_tab (fun _ => rfl) _ _ | exact noIds_encL (fun _ => rfl) _ | rfl)) | assumption)⟩, ⟨there hfr hb4, _, hb4, by (first | exact lb_dead | exact lb_same (by (first | assumption | exact noIds_tab (fun _ => rfl) _ _ | exact noIds_encL (fun _ => rfl) _ | rfl)) | exact lb_ro (by (first | assumption | exact noIds_tab (fun _ => rfl) _ _ | exact noIds_encL (fun _ => rfl) _ | rfl)) | exact lb_none | exact lb_cells (by ((repeat refine lws_cons (by (first | exact lw_any | exact lw_int | exact lw_bool | exact lw_ptr rfl | exact lw_slo rfl | exact lw_nilp | exact lw_nils | exact lw_str | exact lw_slo_nils | exact lw_slo_sle | exact lw_sl rfl | exact lw_unb | exact lw_gptr | exact lw_noid rfl | exact lw_cap rfl (Nat.le_refl _) | exact lw_cap rfl (by omega) | assumption | exact lw_tup (by ((repeat refine lws_cons (by (first | exact lw_any | exact lw_int | exact lw_bool | exact lw_ptr rfl | exact lw_slo rfl | exact lw_nilp | exact lw_nils | exact lw_str | exact lw_slo_nils | exact lw_slo_sle | exact lw_sl rfl | exact lw_unb | exact lw_gptr | exact lw_noid rfl | exact lw_cap rfl (Nat.le_refl _) | exact lw_cap rfl (by omega) | assumption)) ?_); exact lws_nil)))) ?_); exact lws_nil)) (by simp) | exact lb_iter | exact lb_cap (Nat.le_refl _) (Nat.le_refl _) rfl rfl | exact lb_capn (by assumption) (by (first | assumption | exact noIds_tab (fun _ => rfl) _ _ | exact noIds_encL (fun _ => rfl) _ | rfl)) | assumption), fun κ hκ => by (first | exact lb_dead | exact lb_same (by (first | assumption | exact noIds_tab (fun _ => rfl) _ _ | exact noIds_encL (fun _ => rfl) _ | rfl)) | exact lb_ro (by (first | assumption | exact noIds_tab (fun _ => rfl) _ _ | exact noIds_encL (fun _ => rfl) _ | rfl)) | exact lb_none | exact lb_cells (by ((repeat refine lws_cons (by (first | exact lw_any | exact lw_int | exact lw_bool | exact lw_ptr rfl | exact lw_slo rfl | exact lw_nilp | exact lw_nils | exact lw_str | exact lw_slo_nils | exact lw_slo_sle | exact lw_sl rfl | exact lw_unb | exact lw_gptr | exact lw_noid rfl | exact lw_cap rfl (Nat.le_refl _) | exact lw_cap rfl (by omega) | assumption | exact lw_tup (by ((repeat refine lws_cons (by (first | exact lw_any | exact lw_int | exact lw_bool | exact lw_ptr rfl | exact lw_slo rfl | exact lw_nilp | exact lw_nils | exact lw_str | exact lw_slo_nils | exact lw_slo_sle | exact lw_sl rfl | exact lw_unb | exact lw_gptr | exact lw_noid rfl | exact lw_cap rfl (Nat.le_refl _) | exact lw_cap rfl (by omega) | assumption)) ?_); exact lws_nil)))) ?_); exact lws_nil)) (by simp) | exact lb_iter | exact lb_cap (Nat.le_refl _) (Nat.le_refl _) rfl rfl | exact lb_capn (by assumption) (by (first | assumption | exact noIds_tab (fun _ => rfl) _ _ | exact noIds_encL (fun _ => rfl) _ | rfl)) | assumption)⟩, trivial⟩ (by ((repeat refine lws_cons (by (first | exact lw_any | exact lw_int | exact lw_bool | exact lw_ptr rfl | exact lw_slo rfl | exact lw_nilp | exact lw_nils | exact lw_str | exact lw_slo_nils | exact lw_slo_sle | exact lw_sl rfl | exact lw_unb | exact lw_gptr | exact lw_noid rfl | exact lw_cap rfl (Nat.le_refl _) | exact lw_cap rfl (by omega) | assumption | exact lw_tup (by ((repeat refine lws_cons (by (first | exact lw_any | exact lw_int | exact lw_bool | exact lw_ptr rfl | exact lw_slo rfl | exact lw_nilp | exact lw_nils | exact lw_str | exact lw_slo_nils | exact lw_slo_sle | exact lw_sl rfl | exact lw_unb | exact lw_gptr | exact lw_noid rfl | exact lw_cap rfl (Nat.le_refl _) | exact lw_cap rfl (by omega) | assumption)) ?_); exact lws_nil)))) ?_); exact lws_nil)) ?_
                    fun κ h1 h2 => ⟨⟨lb_cells (lws_cons (lw_slo (h1 1 a rfl)) (lws_cons (lw_slo (h1 2 o rfl)) (lws_cons (lw_slo (h1 3 r rfl)) (lws_cons (lw_slo (h1 4 m rfl)) lws_nil)))) (by simp), by (first | exact lb_dead | exact lb_same (by (first | assumption | exact noIds_tab (fun _ => rfl) _ _ | exact noIds_encL (fun _ => rfl) _ | rfl)) | exact lb_ro (by (first | assumption | exact noIds_tab (fun _ => rfl) _ _ | exact noIds_encL (fun _ => rfl) _ | rfl)) | exact lb_none | exact lb_cells (by ((repeat refine lws_cons (by (first | exact lw_any | exact lw_int | exact lw_bool | exact lw_ptr rfl | exact lw_slo rfl | exact lw_nilp | exact lw_nils | exact lw_str | exact lw_slo_nils | exact lw_slo_sle | exact lw_sl rfl | exact lw_unb | exact lw_gptr | exact lw_noid rfl | exact lw_cap rfl (Nat.le_refl _) | exact lw_cap rfl (by omega) | assumption | exact lw_tup (by ((repeat refine lws_cons (by (first | exact lw_any | exact lw_int | exact lw_bool | exact lw_ptr rfl | exact lw_slo rfl | exact lw_nilp | exact lw_nils | exact lw_str | exact lw_slo_nils | exact lw_slo_sle | exact lw_sl rfl | exact lw_unb | exact lw_gptr | exact lw_noid rfl | exact lw_cap rfl (Nat.le_refl _) | exact lw_cap rfl (by omega) | assumption)) ?_); exact lws_nil)))) ?_); exact lws_nil)) (by simp) | exact lb_iter | exact lb_cap (Nat.le_refl _) (Nat.le_refl _) rfl rfl | exact lb_capn (by assumption) (by (first | assumption | exact noIds_tab (fun _ => rfl) _ _ | exact noIds_encL (fun _ => rfl) _ | rfl)) | assumption), lb_dead, by (first | exact lb_dead | exact lb_same (by (first | assumption | exact noIds_tab (fun _ => rfl) _ _ | exact noIds_encL (fun _ => rfl) _ | rfl)) | exact lb_ro (by (first | assumption | exact noIds_tab (fun _ => rfl) _ _ | exact noIds_encL (fun _ => rfl) _ | rfl)) | exact lb_none | exact lb_cells (by ((repeat refine lws_cons (by (first | exact lw_any | exact lw_int | exact lw_bool | exact lw_ptr rfl | exact lw_slo rfl | exact lw_nilp | exact lw_nils | exact lw_str | exact lw_slo_nils | exact lw_slo_sle | exact lw_sl rfl | exact lw_unb | exact lw_gptr | exact lw_noid rfl | exact lw_cap rfl (Nat.le_refl _) | exact lw_cap rfl (by omega) | assumption | exact lw_tup (by ((repeat refine lws_cons (by (first | exact lw_any | exact lw_int | exact lw_bool | exact lw_ptr rfl | exact lw_slo rfl | exact lw_nilp | exact lw_nils | exact lw_str | exact lw_slo_nils | exact lw_slo_sle | exact lw_sl rfl | exact lw_unb | exact lw_gptr | exact lw_noid rfl | exact lw_cap rfl (Nat.le_refl _) | exact lw_cap rfl (by omega) | assumption)) ?_); exact lws_nil)))) ?_); exact lws_nil)) (by simp) | exact lb_iter | exact lb_cap (Nat.le_refl _) (Nat.le_refl _) rfl rfl | exact lb_capn (by assumption) (by (first | assumption | exact noIds_tab (fun _ => rfl) _ _ | exact noIds_encL (fun _ => rfl) _ | rfl)) | assumption), lb_same (noIds_Ii64 _), trivial⟩, lw_noid rfl⟩
                  rw [hgl]; exact und_in n n1 n2 ls rc mc k1 k2 k3
                · cases hg
            · cases hg
          · cases hg
        · cases hg
      · cases hg
    · cases hg
  · cases hg
def ckU : Cx := cxl [(25, mayG), (22, wrapG undG)]
abbrev luT (n k : Nat) : List (Nat × LV) := [(5, .ptr 2 0), (51, .int .i64 n), (52, .int .i64 k)]
abbrev luH (n : Nat) (ls rc mc : List LV) : List LB := [.ro ls, .cells [.slo 0 0 n 0] none, .cells [.slo 0 0 n 0, .slo 3 0 0 0, .slo 4 0 n 0, .slo 5 0 n 0] none, .dead, .cells rc (some 1), .cells mc (some 1)]
theorem lk_d (n : Nat) (ls rc mc : List LV) (K : Pk) : (xsp Go.Proofs.Tryd.prog ckU 60 62 (seg (sp Go.Proofs.Tryd.prog 15) 9 2) (mkTm 62 [(1, .ptr 1 0), (5, .ptr 2 0)]) (mkS (luH n ls rc mc) gtab) (vK lkL K)) = (
 bif undOk n ls rc mc then
 bif xeq n n then
 bif xeq n n then
 K .normal [.ptr 1 0, .any, .any, .any, .ptr 2 0, .any, .any, .any, .int .i64 ↑n, .int .i64 0] [some (.ro ls), some (.cells [.slo 0 0 n 0] none), some (.cells [.slo 0 0 n 0, .slo 3 0 0 0, .slo 4 0 n 0, .slo 5 0 n 0] none), some .dead, some (.cells rc (some 1)), some (.cells (undW ls rc mc) (some 1))] gtab
 else False
 else False
 else False) := by kernel_rfl
abbrev lk_e_b1 (n : Nat) (k : Nat) (ls : List LV) (rc : List LV) (mc : List LV) : List (Option LB) := [some (.ro ls), some (.cells [.slo 0 0 n 0] none), some (.cells [.slo 0 0 n 0, .slo 3 0 0 0, .slo 4 0 n 0, .slo 5 0 n 0] none), some .dead, some (.cells rc (some 1)), some (.cells mc (some 1)), some (.cells [.int .i64 (asI (nthD ls (xix 0 (xnat ↑k) 5))), .int .i64 (asI (nthD ls (xadd (xix 0 (xnat ↑k) 5) 1))), .int .i64 (asI (nthD ls (xadd (xadd (xix 0 (xnat ↑k) 5) 1) 1))), .int .i64 (asI (nthD ls (xadd (xadd (xadd (xix 0 (xnat ↑k) 5) 1) 1) 1))), .int .u64 (asI (nthD ls (xadd (xadd (xadd (xadd (xix 0 (xnat ↑k) 5) 1) 1) 1) 1)))] none)]
theorem lk_e (n k : Nat) (ls rc mc : List LV) (K : Pk) : (xcode Go.Proofs.Tryd.prog ckU 60 62 (loopOf (nthC (sp Go.Proofs.Tryd.prog 15) 11)) (mkTm 62 (luT n k)) (mkS (luH n ls rc mc) gtab) (vK lkL K)) = (
 bif xcm .lss ↑k ↑n then (
 bif xle (xadd (xnat ↑k) 1) n then
 bif xle (xadd (xix 0 (xnat ↑k) 5) 5) (xln ls) then
 bif isI .i64 (nthD ls (xix 0 (xnat ↑k) 5)) then
 bif isI .i64 (nthD ls (xadd (xix 0 (xnat ↑k) 5) 1)) then
 bif isI .i64 (nthD ls (xadd (xadd (xix 0 (xnat ↑k) 5) 1) 1)) then
 bif isI .i64 (nthD ls (xadd (xadd (xadd (xix 0 (xnat ↑k) 5) 1) 1) 1)) then
 bif isI .u64 (nthD ls (xadd (xadd (xadd (xadd (xix 0 (xnat ↑k) 5) 1) 1) 1) 1)) then
 bif xcm .eql (asI (nthD ls (xix 0 (xnat ↑k) 5))) 12 then (
 bif xcm .eql (asI (nthD ls (xadd (xadd (xadd (xix 0 (xnat ↑k) 5) 1) 1) 1))) ↑n then (
 bif xle (xadd (xnat ↑k) 1) n then
 bif xle (xadd (xix 0 (xnat ↑k) 1) 1) (xln rc) then
 bif isI .i64 (nthD rc (xix 0 (xnat ↑k) 1)) then
 bif xnot (xcm .eql (asI (nthD rc (xix 0 (xnat ↑k) 1))) (-1)) then (
 K .ret [.any, .nilp, .int .i64 ↑k, .int .i64 2, .ptr 2 0, .any, .any, .any, .int .i64 ↑n, .int .i64 ↑k] (lk_e_b1 n k ls rc mc) gtab)
 else (
 K .normal [.any, .any, .any, .any, .ptr 2 0, .any, .any, .any, .int .i64 ↑n, .int .i64 (xar .add .i64 (↑k) 1)] (lk_e_b1 n k ls rc mc) gtab)
 else False
 else False
 else False)
 else (
 bif xcm .lss (asI (nthD ls (xadd (xadd (xadd (xix 0 (xnat ↑k) 5) 1) 1) 1))) ↑n then (
 bif xnn (asI (nthD ls (xadd (xadd (xadd (xix 0 (xnat ↑k) 5) 1) 1) 1))) then
 bif xle (xadd (xnat (asI (nthD ls (xadd (xadd (xadd (xix 0 (xnat ↑k) 5) 1) 1) 1)))) 1) n then
 bif xle (xadd (xix 0 (xnat (asI (nthD ls (xadd (xadd (xadd (xix 0 (xnat ↑k) 5) 1) 1) 1)))) 1) 1) (xln rc) then
 bif isI .i64 (nthD rc (xix 0 (xnat (asI (nthD ls (xadd (xadd (xadd (xix 0 (xnat ↑k) 5) 1) 1) 1)))) 1)) then
 bif xle (xadd (xnat ↑k) 1) n then
 bif xle (xadd (xix 0 (xnat ↑k) 1) 1) (xln rc) then
 bif isI .i64 (nthD rc (xix 0 (xnat ↑k) 1)) then
 bif xnot (xcm .eql (asI (nthD rc (xix 0 (xnat (asI (nthD ls (xadd (xadd (xadd (xix 0 (xnat ↑k) 5) 1) 1) 1)))) 1))) (asI (nthD rc (xix 0 (xnat ↑k) 1)))) then (
 K .ret [.any, .nilp, .int .i64 ↑k, .int .i64 2, .ptr 2 0, .any, .any, .any, .int .i64 ↑n, .int .i64 ↑k] (lk_e_b1 n k ls rc mc) gtab)
 else (
 K .normal [.any, .any, .any, .any, .ptr 2 0, .any, .any, .any, .int .i64 ↑n, .int .i64 (xar .add .i64 (↑k) 1)] (lk_e_b1 n k ls rc mc) gtab)
 else False
 else False
 else False
 else False
 else False
 else False
 else False)
 else (
 K .ret [.any, .nilp, .int .i64 ↑k, .int .i64 2, .ptr 2 0, .any, .any, .any, .int .i64 ↑n, .int .i64 ↑k] (lk_e_b1 n k ls rc mc) gtab)))
 else (
 bif xnot (xcm .eql (asI (nthD ls (xix 0 (xnat ↑k) 5))) 13) then (
 K .normal [.any, .any, .any, .any, .ptr 2 0, .any, .any, .any, .int .i64 ↑n, .int .i64 (xar .add .i64 (↑k) 1)] (lk_e_b1 n k ls rc mc) gtab)
 else (
 bif xcm .eql (asI (nthD ls (xadd (xadd (xadd (xix 0 (xnat ↑k) 5) 1) 1) 1))) ↑n then (
 bif xle (xadd (xnat ↑k) 1) n then
 bif xle (xadd (xix 0 (xnat ↑k) 1) 1) (xln rc) then
 bif isI .i64 (nthD rc (xix 0 (xnat ↑k) 1)) then
 bif xnot (xcm .eql (asI (nthD rc (xix 0 (xnat ↑k) 1))) (-1)) then (
 K .ret [.any, .nilp, .int .i64 ↑k, .int .i64 2, .ptr 2 0, .any, .any, .any, .int .i64 ↑n, .int .i64 ↑k] (lk_e_b1 n k ls rc mc) gtab)
 else (
 K .normal [.any, .any, .any, .any, .ptr 2 0, .any, .any, .any, .int .i64 ↑n, .int .i64 (xar .add .i64 (↑k) 1)] (lk_e_b1 n k ls rc mc) gtab)
 else False
 else False
 else False)
 else (
 bif xcm .lss (asI (nthD ls (xadd (xadd (xadd (xix 0 (xnat ↑k) 5) 1) 1) 1))) ↑n then (
 bif xnn (asI (nthD ls (xadd (xadd (xadd (xix 0 (xnat ↑k) 5) 1) 1) 1))) then
 bif xle (xadd (xnat (asI (nthD ls (xadd (xadd (xadd (xix 0 (xnat ↑k) 5) 1) 1) 1)))) 1) n then
 bif xle (xadd (xix 0 (xnat (asI (nthD ls (xadd (xadd (xadd (xix 0 (xnat ↑k) 5) 1) 1) 1)))) 1) 1) (xln rc) then
 bif isI .i64 (nthD rc (xix 0 (xnat (asI (nthD ls (xadd (xadd (xadd (xix 0 (xnat ↑k) 5) 1) 1) 1)))) 1)) then
 bif xle (xadd (xnat ↑k) 1) n then
 bif xle (xadd (xix 0 (xnat ↑k) 1) 1) (xln rc) then
 bif isI .i64 (nthD rc (xix 0 (xnat ↑k) 1)) then
 bif xnot (xcm .eql (asI (nthD rc (xix 0 (xnat (asI (nthD ls (xadd (xadd (xadd (xix 0 (xnat ↑k) 5) 1) 1) 1)))) 1))) (asI (nthD rc (xix 0 (xnat ↑k) 1)))) then (
 K .ret [.any, .nilp, .int .i64 ↑k, .int .i64 2, .ptr 2 0, .any, .any, .any, .int .i64 ↑n, .int .i64 ↑k] (lk_e_b1 n k ls rc mc) gtab)
 else (
 K .normal [.any, .any, .any, .any, .ptr 2 0, .any, .any, .any, .int .i64 ↑n, .int .i64 (xar .add .i64 (↑k) 1)] (lk_e_b1 n k ls rc mc) gtab)
 else False
 else False
 else False
 else False
 else False
 else False
 else False)
 else (
 K .ret [.any, .nilp, .int .i64 ↑k, .int .i64 2, .ptr 2 0, .any, .any, .any, .int .i64 ↑n, .int .i64 ↑k] (lk_e_b1 n k ls rc mc) gtab))))
 else False
 else False
 else False
 else False
 else False
 else False
 else False)
 else (
 K (.exit 2) [.any, .any, .any, .any, .ptr 2 0, .any, .any, .any, .int .i64 ↑n, .int .i64 ↑k] [some (.ro ls), some (.cells [.slo 0 0 n 0] none), some (.cells [.slo 0 0 n 0, .slo 3 0 0 0, .slo 4 0 n 0, .slo 5 0 n 0] none), some .dead, some (.cells rc (some 1)), some (.cells mc (some 1))] gtab)) := by kernel_rfl
theorem lk_z (n : Nat) (ls rc mc : List LV) (K : Pk) : (xsp Go.Proofs.Tryd.prog ckU 60 62 ((sp Go.Proofs.Tryd.prog 15).drop 12) (mkTm 62 [(5, .ptr 2 0)]) (mkS (luH n ls rc mc) gtab) (vK lkL K)) = (
 K .ret [.any, .ptr 2 0, .int .i64 0, .int .i64 0, .ptr 2 0, .any, .any, .any, .any, .any] [some (.ro ls), some (.cells [.slo 0 0 n 0] none), some (.cells [.slo 0 0 n 0, .slo 3 0 0 0, .slo 4 0 n 0, .slo 5 0 n 0] none), some .dead, some (.cells rc (some 1)), some (.cells mc (some 1))] gtab) := by kernel_rfl
theorem ckU_ok : CtrOk Go.Proofs.Tryd.prog (ctrOf ckU) := cxl_ok ⟨mayG_ok, wrapG_ok undG_ok, trivial⟩
theorem mw_c {x : InsR} (h : mayI x = true) (ho : x.op = 12 ∨ x.op = 13) : 0 ≤ x.c := by
  have h' : mayW x.op x.a x.b x.c x.n = true := h
  rcases ho with e | e <;> rw [e] at h'
  · have := (mw12 _ _ _ _).1 h'; omega
  · have := (mw13 _ _ _ _).1 h'; omega
theorem chk_deep {L : List InsR} (h : ¬ (L.length = 0 ∨ 40 < L.length)) (h0 : (goS L L.length).1 = 0) (ho : (goS L L.length).2.2.o ≠ []) : (chk L).1 = inm (goS L L.length).2.2.o ∧ (chk L).2.1 = 12 := by
  rw [chk, if_neg h, if_neg (by simpa using h0), if_pos ho]; exact ⟨rfl, rfl⟩
theorem chk_jump {L : List InsR} (h : ¬ (L.length = 0 ∨ 40 < L.length)) (h0 : (goS L L.length).1 = 0) (ho : (goS L L.length).2.2.o = []) {k : Nat} (hk : goJ L (goS L L.length).2.2.r L.length = some k) : (chk L).1 = k ∧ (chk L).2.1 = 2 := by
  rw [chk, if_neg h, if_neg (by simpa using h0), if_neg (by simpa using ho), hk]; exact ⟨rfl, rfl⟩
theorem chk_good {L : List InsR} (h : ¬ (L.length = 0 ∨ 40 < L.length)) (h0 : (goS L L.length).1 = 0) (ho : (goS L L.length).2.2.o = []) (hk : goJ L (goS L L.length).2.2.r L.length = none) : chk L = (0, 0, (goS L L.length).2.2.r, und L (goS L L.length).2.2.r (goS L L.length).2.2.m L.length) := by
  rw [chk, if_neg h, if_neg (by simpa using h0), if_neg (by simpa using ho), hk]
theorem enc0 : encL (cI .i64) ([] : List Int) = [] := rfl
set_option maxHeartbeats 8000000 in
theorem look_fun (L : List InsR) : SFun Go.Proofs.Tryd.prog 15 [.agg [.slo 0 0 L.length 0]] (mkS [.ro (encL insE L)] gtab) fun l s => ∃ b, lookQ L l b ∧ s = mkS b gtab := by
  refine SFun.pieces (Q := lookQ L) 62 1 lkL [2, 3, 4] (by kernel_rfl) rfl rfl rfl ?_
  have nls : noIds (encL insE L) = true := ins_noids L
  have nI : ∀ l : List Int, noIds (encL (cI .i64) l) = true := fun l => noIds_Ii64 l
  refine SSp.to ckPro_ok (n := 60) (g := gtab) 5 5 rfl (σ := {_k : Unit // ¬ (L.length = 0 ∨ 40 < L.length)}) (fun _ => lkT L.length 0) (fun _ => lkS L ⟨[], [], []⟩ 0 []) (mkS_le (Nat.le_refl _)) (by kernel_rfl) ?_ fun ⟨_, h40⟩ => ?_
  · rw [lk_a]
    by_cases h0 : L.length = 0
    · (with_reducible repeat first | refine zq1 ?_ | refine zq2 ?_ | refine zq3 ?_ | refine zq4 ?_ | refine zq5 ?_ | refine zq6 ?_ | refine zq7 ?_ | refine zq8 ?_ | refine zq9 ?_ | refine zqa ?_ | refine zqb ?_ | refine zqc ?_ | refine zqd ?_ | refine zqe ?_ | refine zqf ?_ | refine zqg ?_ | refine zqh ?_ | refine zqi ?_ | refine zqj ?_ | refine zqk ?_ | refine zql ?_ | refine zqm ?_ | refine zqn ?_ | refine zqo ?_ | refine zqp ?_)
      exact ⟨trivial, rfl, _, _, [.id 0], lookQ_err (chk_form (.inl h0)) (by decide), by (refine ⟨by kernel_rfl, ?_, ?_⟩ <;> repeat first | exact okTms_nil | refine okTms_cons ?_ ?_ | exact okBlks_nil | refine okBlks_cons ?_ ?_ | exact lws_nil | refine lws_cons ?_ ?_ | exact lb_dead | exact zy1 | exact zy2 | exact lb_none | refine zy3 ?_ | exact zy4 | exact lw_any | exact lw_int | exact lw_bool | exact zy5 | exact zy6 | exact lw_nils | exact lw_slo_nils | exact zy7 | exact zy8 | exact zy9 | refine lw_tup ?_ | refine lw_agg ?_ | assumption)⟩
    · by_cases h1 : 40 < L.length
      · (with_reducible repeat first | refine zq1 ?_ | refine zq2 ?_ | refine zq3 ?_ | refine zq4 ?_ | refine zq5 ?_ | refine zq6 ?_ | refine zq7 ?_ | refine zq8 ?_ | refine zq9 ?_ | refine zqa ?_ | refine zqb ?_ | refine zqc ?_ | refine zqd ?_ | refine zqe ?_ | refine zqf ?_ | refine zqg ?_ | refine zqh ?_ | refine zqi ?_ | refine zqj ?_ | refine zqk ?_ | refine zql ?_ | refine zqm ?_ | refine zqn ?_ | refine zqo ?_ | refine zqp ?_)
        exact ⟨trivial, rfl, _, _, [.id 0], lookQ_err (chk_form (.inr h1)) (by decide), by (refine ⟨by kernel_rfl, ?_, ?_⟩ <;> repeat first | exact okTms_nil | refine okTms_cons ?_ ?_ | exact okBlks_nil | refine okBlks_cons ?_ ?_ | exact lws_nil | refine lws_cons ?_ ?_ | exact lb_dead | exact zy1 | exact zy2 | exact lb_none | refine zy3 ?_ | exact zy4 | exact lw_any | exact lw_int | exact lw_bool | exact zy5 | exact zy6 | exact lw_nils | exact lw_slo_nils | exact zy7 | exact zy8 | exact zy9 | refine lw_tup ?_ | refine lw_agg ?_ | assumption)⟩
      · (with_reducible repeat first | refine zq1 ?_ | refine zq2 ?_ | refine zq3 ?_ | refine zq4 ?_ | refine zq5 ?_ | refine zq6 ?_ | refine zq7 ?_ | refine zq8 ?_ | refine zq9 ?_ | refine zqa ?_ | refine zqb ?_ | refine zqc ?_ | refine zqd ?_ | refine zqe ?_ | refine zqf ?_ | refine zqg ?_ | refine zqh ?_ | refine zqi ?_ | refine zqj ?_ | refine zqk ?_ | refine zql ?_ | refine zqm ?_ | refine zqn ?_ | refine zqo ?_ | refine zqp ?_)
        exact ⟨rfl, ⟨(), by omega⟩, [.id 0, .id 1, .id 2, .none, .none, .none], by (refine ⟨by kernel_rfl, ?_, ?_⟩ <;> repeat first | exact okTms_nil | refine okTms_cons ?_ ?_ | exact okBlks_nil | refine okBlks_cons ?_ ?_ | exact lws_nil | refine lws_cons ?_ ?_ | exact lb_dead | exact zy1 | exact zy2 | exact lb_none | refine zy3 ?_ | exact zy4 | exact lw_any | exact lw_int | exact lw_bool | exact zy5 | exact zy6 | exact lw_nils | exact lw_slo_nils | exact zy7 | exact zy8 | exact zy9 | refine lw_tup ?_ | refine lw_agg ?_ | assumption)⟩
  refine SSp.code_to (g := gtab) 6 rfl (σ := {j : List Int // (goS L L.length).1 = 0}) (fun _ => [(1, .ptr 1 0), (5, .ptr 2 0)]) (fun j => lkS L (goS L L.length).2.2 L.length j.1) (by kernel_rfl) (look_loop L h40 ⟨(0, []), Nat.zero_le _, rfl⟩ _ _ (fun h j => ⟨j, h⟩) (fun _ _ => rfl) (fun _ _ => rfl)) fun ⟨junk, h0⟩ => ?_
  have hI := goS_inv L L.length (Nat.le_refl _) h0
  have hq12 := fun ho => lookQ_err (chk_deep h40 h0 ho) (by decide)
  have hq2 := fun ho k hk => lookQ_err (chk_jump (k := k) h40 h0 ho hk) (by decide)
  have hqg := fun ho hk => chk_good h40 h0 ho hk
  generalize (goS L L.length).2.2 = s at *
  obtain ⟨o, r, m⟩ := s
  obtain ⟨rl, ml, ol, oo, rr, un, ma⟩ := hI
  dsimp only at rl ml ol oo rr un ma hq12 hq2 hqg ⊢
  have nr := nI r
  have nm := nI m
  have no := nI (o ++ junk)
  refine SSp.to ckPro_ok (n := 60) (g := gtab) 3 9 rfl (σ := {_k : Unit // o = []}) (fun _ => [(1, .ptr 1 0), (5, .ptr 2 0)]) (fun _ => luH L.length (encL insE L) (encL (cI .i64) r) (encL (cI .i64) m)) (mkS_le (Nat.le_of_ble_eq_true rfl)) (by kernel_rfl) ?_ fun ⟨_, ho⟩ => ?_
  · show xsp _ _ _ _ _ _ (mkS (lkH (.ro (encL insE L)) L.length o.length L.length (encL (cI .i64) (o ++ junk)) (encL (cI .i64) r) (encL (cI .i64) m)) gtab) _
    rw [lk_c]
    rcases List.eq_nil_or_concat o with rfl | ⟨o', x, rfl⟩
    · simp only [List.length_nil]
      (with_reducible repeat first | refine zq1 ?_ | refine zq2 ?_ | refine zq3 ?_ | refine zq4 ?_ | refine zq5 ?_ | refine zq6 ?_ | refine zq7 ?_ | refine zq8 ?_ | refine zq9 ?_ | refine zqa ?_ | refine zqb ?_ | refine zqc ?_ | refine zqd ?_ | refine zqe ?_ | refine zqf ?_ | refine zqg ?_ | refine zqh ?_ | refine zqi ?_ | refine zqj ?_ | refine zqk ?_ | refine zql ?_ | refine zqm ?_ | refine zqn ?_ | refine zqo ?_ | refine zqp ?_)
      exact ⟨rfl, ⟨(), rfl⟩, [.id 0, .id 1, .id 2, .id 3, .id 4, .id 5], by (refine ⟨by kernel_rfl, ?_, ?_⟩ <;> repeat first | exact okTms_nil | refine okTms_cons ?_ ?_ | exact okBlks_nil | refine okBlks_cons ?_ ?_ | exact lws_nil | refine lws_cons ?_ ?_ | exact lb_dead | exact zy1 | exact zy2 | exact lb_none | refine zy3 ?_ | exact zy4 | exact lw_any | exact lw_int | exact lw_bool | exact zy5 | exact zy6 | exact lw_nils | exact lw_slo_nils | exact zy7 | exact zy8 | exact zy9 | refine lw_tup ?_ | refine lw_agg ?_ | assumption)⟩
    · rw [List.concat_eq_append] at *
      have hx := oo x (by simp)
      have cl := nthL o' x junk
      have sb : xar .sub .i64 ((o'.length + 1 : Nat) : Int) 1 = ((o'.length : Nat) : Int) := by rw [sub_i64 (by omega) (by simp at ol; omega)]; omega
      have el : (o' ++ [x]).length = o'.length + 1 := by simp
      have el2 : (o' ++ [x] ++ junk).length = o'.length + 1 + junk.length := by simp; omega
      have hq := hq12 (by simp)
      rw [inm_snoc] at hq
      simp only [wd_nat, wd_asV, wd_isV, wd_ix, wd_add, wd_mul, wd_ln, Nat.zero_add, Nat.mul_one, wd_isI, wd_asI, wd_isB, wd_asB, wd_nn, cI_tlen, cB_tlen, cII_tlen, decide_true, cond_true, wd_not_t, wd_not_f, wd_and_t, wd_and_f, el, sb, cl, encIi64_len, el2]
      (with_reducible repeat first | refine zq1 ?_ | refine zq2 ?_ | refine zq3 ?_ | refine zq4 ?_ | refine zq5 ?_ | refine zq6 ?_ | refine zq7 ?_ | refine zq8 ?_ | refine zq9 ?_ | refine zqa ?_ | refine zqb ?_ | refine zqc ?_ | refine zqd ?_ | refine zqe ?_ | refine zqf ?_ | refine zqg ?_ | refine zqh ?_ | refine zqi ?_ | refine zqj ?_ | refine zqk ?_ | refine zql ?_ | refine zqm ?_ | refine zqn ?_ | refine zqo ?_ | refine zqp ?_)
      exact ⟨trivial, rfl, _, _, [.id 0], hq, by (refine ⟨by kernel_rfl, ?_, ?_⟩ <;> repeat first | exact okTms_nil | refine okTms_cons ?_ ?_ | exact okBlks_nil | refine okBlks_cons ?_ ?_ | exact lws_nil | refine lws_cons ?_ ?_ | exact lb_dead | exact zy1 | exact zy2 | exact lb_none | refine zy3 ?_ | exact zy4 | exact lw_any | exact lw_int | exact lw_bool | exact zy5 | exact zy6 | exact lw_nils | exact lw_slo_nils | exact zy7 | exact zy8 | exact zy9 | refine lw_tup ?_ | refine lw_agg ?_ | assumption)⟩
  refine SSp.to ckU_ok (n := 60) (g := gtab) 2 11 rfl (σ := Unit) (fun _ => luT L.length 0) (fun _ => luH L.length (encL insE L) (encL (cI .i64) r) (encL (cI .i64) (und L r m L.length))) (mkS_le (Nat.le_of_ble_eq_true rfl)) (by kernel_rfl) ?_ fun _ => ?_
  · have nu := nI (und L r m L.length)
    have ok : undOk L.length (encL insE L) (encL (cI .i64) r) (encL (cI .i64) m) = true := undOk_iff.2 ⟨L, r, m, rfl, rfl, by omega, rfl, rl, rfl, ml, fun j hj hop => by
      refine ⟨un j hj hop, ?_⟩
      have hjr : j < r.length := by omega
      rw [List.getD_eq_getElem?_getD, List.getElem?_eq_getElem hjr]
      exact (rr _ (List.getElem_mem hjr)).2⟩
    have eu : undW (encL insE L) (encL (cI .i64) r) (encL (cI .i64) m) = encL (cI .i64) (und L r m L.length) := by rw [undW, decIns_enc, decIi64_enc, decIi64_enc]
    show xsp _ _ _ _ _ _ (mkS (luH L.length (encL insE L) (encL (cI .i64) r) (encL (cI .i64) m)) gtab) _
    rw [lk_d]
    simp only [ok, eu, cond_true]
    (with_reducible repeat first | refine zq1 ?_ | refine zq2 ?_ | refine zq3 ?_ | refine zq4 ?_ | refine zq5 ?_ | refine zq6 ?_ | refine zq7 ?_ | refine zq8 ?_ | refine zq9 ?_ | refine zqa ?_ | refine zqb ?_ | refine zqc ?_ | refine zqd ?_ | refine zqe ?_ | refine zqf ?_ | refine zqg ?_ | refine zqh ?_ | refine zqi ?_ | refine zqj ?_ | refine zqk ?_ | refine zql ?_ | refine zqm ?_ | refine zqn ?_ | refine zqo ?_ | refine zqp ?_)
    exact ⟨rfl, (), [.id 0, .id 1, .id 2, .id 3, .id 4, .id 5], by (refine ⟨by kernel_rfl, ?_, ?_⟩ <;> repeat first | exact okTms_nil | refine okTms_cons ?_ ?_ | exact okBlks_nil | refine okBlks_cons ?_ ?_ | exact lws_nil | refine lws_cons ?_ ?_ | exact lb_dead | exact zy1 | exact zy2 | exact lb_none | refine zy3 ?_ | exact zy4 | exact lw_any | exact lw_int | exact lw_bool | exact zy5 | exact zy6 | exact lw_nils | exact lw_slo_nils | exact zy7 | exact zy8 | exact zy9 | refine lw_tup ?_ | refine lw_agg ?_ | assumption)⟩
  have nu := nI (und L r m L.length)
  refine SSp.code_to (g := gtab) 12 rfl (σ := {_k : Unit // goJ L r L.length = none}) (fun _ => [(5, .ptr 2 0)]) (fun _ => luH L.length (encL insE L) (encL (cI .i64) r) (encL (cI .i64) (und L r m L.length))) (by kernel_rfl) ?_ fun ⟨_, hJ⟩ => ?_
  · refine SCode.loop_vc ckU_ok (n := 60) 2 (by kernel_rfl) (σ := {k : Nat // k ≤ L.length ∧ goJ L r k = none}) (fun k => luT L.length k.1) (fun _ => luH L.length (encL insE L) (encL (cI .i64) r) (encL (cI .i64) (und L r m L.length))) (fun k => L.length - k.1) (fun _ => Nat.le_of_ble_eq_true rfl) (fun ⟨k, hk, hJ⟩ => ?_) ⟨0, Nat.zero_le _, rfl⟩
    dsimp only
    rw [lk_e]; simp only [lk_e_b1]
    by_cases hlt : k < L.length
    · have c0 := ins_0 hlt
      have c1 := ins_1 hlt
      have c2 : nthD (encL insE L) (k * 5 + 1 + 1) = .int .i64 L[k].b := ins_2 hlt
      have c3 : nthD (encL insE L) (k * 5 + 1 + 1 + 1) = .int .i64 L[k].c := ins_3 hlt
      have c4 : nthD (encL insE L) (k * 5 + 1 + 1 + 1 + 1) = .int .u64 L[k].n := ins_4 hlt
      have hkr : k < r.length := by omega
      have cr := encIi64_nth hkr
      have er : r.getD k 0 = r[k] := by simp [List.getD_eq_getElem?_getD, hkr]
      have hq := fun hj => hq2 ho k (goJ_bad (r := r) hlt hJ hj)
      have hg := fun hj => goJ_good (r := r) hlt hJ hj
      simp only [jok, er] at hq hg
      simp only [wd_nat, wd_asV, wd_isV, wd_ix, wd_add, wd_mul, wd_ln, Nat.zero_add, Nat.mul_one, wd_isI, wd_asI, wd_isB, wd_asB, wd_nn, cI_tlen, cB_tlen, cII_tlen, decide_true, cond_true, wd_not_t, wd_not_f, wd_and_t, wd_and_f, c0, c1, c2, c3, c4, ins_n, cr, encIi64_len, rl, inc_i64 hlt (by omega)]
      by_cases hop : L[k].op = 12 ∨ L[k].op = 13
      · have hc := mw_c (ma k hlt hlt) hop
        obtain ⟨c, ec⟩ : ∃ c : Nat, L[k].c = (c : Int) := ⟨L[k].c.toNat, by omega⟩
        simp only [ec, show ((c : Int)).toNat = c from rfl] at hq hg
        simp only [ec, wd_nat, wd_nn, wd_ix, wd_add, Nat.zero_add, Nat.mul_one]
        by_cases hcn : c = L.length
        · by_cases h1 : r[k] = -1
          · have hd := hg fun _ => .inl ⟨by rw [hcn], h1⟩
            simp only [show xcm .eql r[k] (-1) = true from t_eql h1, wd_not_t]
            rcases hop with hop | hop
            · (with_reducible repeat first | refine zq1 ?_ | refine zq2 ?_ | refine zq3 ?_ | refine zq4 ?_ | refine zq5 ?_ | refine zq6 ?_ | refine zq7 ?_ | refine zq8 ?_ | refine zq9 ?_ | refine zqa ?_ | refine zqb ?_ | refine zqc ?_ | refine zqd ?_ | refine zqe ?_ | refine zqf ?_ | refine zqg ?_ | refine zqh ?_ | refine zqi ?_ | refine zqj ?_ | refine zqk ?_ | refine zql ?_ | refine zqm ?_ | refine zqn ?_ | refine zqo ?_ | refine zqp ?_)
              exact ⟨rfl, ⟨k + 1, hlt, hd⟩, by simp only; omega, [.id 0, .id 1, .id 2, .id 3, .id 4, .id 5], by (refine ⟨by kernel_rfl, ?_, ?_⟩ <;> repeat first | exact okTms_nil | refine okTms_cons ?_ ?_ | exact okBlks_nil | refine okBlks_cons ?_ ?_ | exact lws_nil | refine lws_cons ?_ ?_ | exact lb_dead | exact zy1 | exact zy2 | exact lb_none | refine zy3 ?_ | exact zy4 | exact lw_any | exact lw_int | exact lw_bool | exact zy5 | exact zy6 | exact lw_nils | exact lw_slo_nils | exact zy7 | exact zy8 | exact zy9 | refine lw_tup ?_ | refine lw_agg ?_ | assumption)⟩
            · simp only [show xcm .eql L[k].op 13 = true from t_eql hop, wd_not_t]
              (with_reducible repeat first | refine zq1 ?_ | refine zq2 ?_ | refine zq3 ?_ | refine zq4 ?_ | refine zq5 ?_ | refine zq6 ?_ | refine zq7 ?_ | refine zq8 ?_ | refine zq9 ?_ | refine zqa ?_ | refine zqb ?_ | refine zqc ?_ | refine zqd ?_ | refine zqe ?_ | refine zqf ?_ | refine zqg ?_ | refine zqh ?_ | refine zqi ?_ | refine zqj ?_ | refine zqk ?_ | refine zql ?_ | refine zqm ?_ | refine zqn ?_ | refine zqo ?_ | refine zqp ?_)
              exact ⟨rfl, ⟨k + 1, hlt, hd⟩, by simp only; omega, [.id 0, .id 1, .id 2, .id 3, .id 4, .id 5], by (refine ⟨by kernel_rfl, ?_, ?_⟩ <;> repeat first | exact okTms_nil | refine okTms_cons ?_ ?_ | exact okBlks_nil | refine okBlks_cons ?_ ?_ | exact lws_nil | refine lws_cons ?_ ?_ | exact lb_dead | exact zy1 | exact zy2 | exact lb_none | refine zy3 ?_ | exact zy4 | exact lw_any | exact lw_int | exact lw_bool | exact zy5 | exact zy6 | exact lw_nils | exact lw_slo_nils | exact zy7 | exact zy8 | exact zy9 | refine lw_tup ?_ | refine lw_agg ?_ | assumption)⟩
          · have hd := hq fun q => by rcases q hop with q | q <;> omega
            simp only [show xcm .eql r[k] (-1) = false from f_eql h1, wd_not_f]
            rcases hop with hop | hop
            · (with_reducible repeat first | refine zq1 ?_ | refine zq2 ?_ | refine zq3 ?_ | refine zq4 ?_ | refine zq5 ?_ | refine zq6 ?_ | refine zq7 ?_ | refine zq8 ?_ | refine zq9 ?_ | refine zqa ?_ | refine zqb ?_ | refine zqc ?_ | refine zqd ?_ | refine zqe ?_ | refine zqf ?_ | refine zqg ?_ | refine zqh ?_ | refine zqi ?_ | refine zqj ?_ | refine zqk ?_ | refine zql ?_ | refine zqm ?_ | refine zqn ?_ | refine zqo ?_ | refine zqp ?_)
              exact ⟨trivial, rfl, _, _, [.id 0], hd, by (refine ⟨by kernel_rfl, ?_, ?_⟩ <;> repeat first | exact okTms_nil | refine okTms_cons ?_ ?_ | exact okBlks_nil | refine okBlks_cons ?_ ?_ | exact lws_nil | refine lws_cons ?_ ?_ | exact lb_dead | exact zy1 | exact zy2 | exact lb_none | refine zy3 ?_ | exact zy4 | exact lw_any | exact lw_int | exact lw_bool | exact zy5 | exact zy6 | exact lw_nils | exact lw_slo_nils | exact zy7 | exact zy8 | exact zy9 | refine lw_tup ?_ | refine lw_agg ?_ | assumption)⟩
            · simp only [show xcm .eql L[k].op 13 = true from t_eql hop, wd_not_t]
              (with_reducible repeat first | refine zq1 ?_ | refine zq2 ?_ | refine zq3 ?_ | refine zq4 ?_ | refine zq5 ?_ | refine zq6 ?_ | refine zq7 ?_ | refine zq8 ?_ | refine zq9 ?_ | refine zqa ?_ | refine zqb ?_ | refine zqc ?_ | refine zqd ?_ | refine zqe ?_ | refine zqf ?_ | refine zqg ?_ | refine zqh ?_ | refine zqi ?_ | refine zqj ?_ | refine zqk ?_ | refine zql ?_ | refine zqm ?_ | refine zqn ?_ | refine zqo ?_ | refine zqp ?_)
              exact ⟨trivial, rfl, _, _, [.id 0], hd, by (refine ⟨by kernel_rfl, ?_, ?_⟩ <;> repeat first | exact okTms_nil | refine okTms_cons ?_ ?_ | exact okBlks_nil | refine okBlks_cons ?_ ?_ | exact lws_nil | refine lws_cons ?_ ?_ | exact lb_dead | exact zy1 | exact zy2 | exact lb_none | refine zy3 ?_ | exact zy4 | exact lw_any | exact lw_int | exact lw_bool | exact zy5 | exact zy6 | exact lw_nils | exact lw_slo_nils | exact zy7 | exact zy8 | exact zy9 | refine lw_tup ?_ | refine lw_agg ?_ | assumption)⟩
        · by_cases hcl : c < L.length
          · have hcr : c < r.length := by omega
            have cc := encIi64_nth hcr
            have erc : r.getD c 0 = r[c] := by simp [List.getD_eq_getElem?_getD, hcr]
            simp only [erc] at hq hg
            simp only [cc, wd_isI, wd_asI, decide_true]
            by_cases h1 : r[c] = r[k]
            · have hd := hg fun _ => .inr ⟨by omega, h1⟩
              simp only [show xcm .eql r[c] r[k] = true from t_eql h1, wd_not_t]
              rcases hop with hop | hop
              · (with_reducible repeat first | refine zq1 ?_ | refine zq2 ?_ | refine zq3 ?_ | refine zq4 ?_ | refine zq5 ?_ | refine zq6 ?_ | refine zq7 ?_ | refine zq8 ?_ | refine zq9 ?_ | refine zqa ?_ | refine zqb ?_ | refine zqc ?_ | refine zqd ?_ | refine zqe ?_ | refine zqf ?_ | refine zqg ?_ | refine zqh ?_ | refine zqi ?_ | refine zqj ?_ | refine zqk ?_ | refine zql ?_ | refine zqm ?_ | refine zqn ?_ | refine zqo ?_ | refine zqp ?_)
                exact ⟨rfl, ⟨k + 1, hlt, hd⟩, by simp only; omega, [.id 0, .id 1, .id 2, .id 3, .id 4, .id 5], by (refine ⟨by kernel_rfl, ?_, ?_⟩ <;> repeat first | exact okTms_nil | refine okTms_cons ?_ ?_ | exact okBlks_nil | refine okBlks_cons ?_ ?_ | exact lws_nil | refine lws_cons ?_ ?_ | exact lb_dead | exact zy1 | exact zy2 | exact lb_none | refine zy3 ?_ | exact zy4 | exact lw_any | exact lw_int | exact lw_bool | exact zy5 | exact zy6 | exact lw_nils | exact lw_slo_nils | exact zy7 | exact zy8 | exact zy9 | refine lw_tup ?_ | refine lw_agg ?_ | assumption)⟩
              · simp only [show xcm .eql L[k].op 13 = true from t_eql hop, wd_not_t]
                (with_reducible repeat first | refine zq1 ?_ | refine zq2 ?_ | refine zq3 ?_ | refine zq4 ?_ | refine zq5 ?_ | refine zq6 ?_ | refine zq7 ?_ | refine zq8 ?_ | refine zq9 ?_ | refine zqa ?_ | refine zqb ?_ | refine zqc ?_ | refine zqd ?_ | refine zqe ?_ | refine zqf ?_ | refine zqg ?_ | refine zqh ?_ | refine zqi ?_ | refine zqj ?_ | refine zqk ?_ | refine zql ?_ | refine zqm ?_ | refine zqn ?_ | refine zqo ?_ | refine zqp ?_)
                exact ⟨rfl, ⟨k + 1, hlt, hd⟩, by simp only; omega, [.id 0, .id 1, .id 2, .id 3, .id 4, .id 5], by (refine ⟨by kernel_rfl, ?_, ?_⟩ <;> repeat first | exact okTms_nil | refine okTms_cons ?_ ?_ | exact okBlks_nil | refine okBlks_cons ?_ ?_ | exact lws_nil | refine lws_cons ?_ ?_ | exact lb_dead | exact zy1 | exact zy2 | exact lb_none | refine zy3 ?_ | exact zy4 | exact lw_any | exact lw_int | exact lw_bool | exact zy5 | exact zy6 | exact lw_nils | exact lw_slo_nils | exact zy7 | exact zy8 | exact zy9 | refine lw_tup ?_ | refine lw_agg ?_ | assumption)⟩
            · have hd := hq fun q => by rcases q hop with q | q <;> omega
              simp only [show xcm .eql r[c] r[k] = false from f_eql h1, wd_not_f]
              rcases hop with hop | hop
              · (with_reducible repeat first | refine zq1 ?_ | refine zq2 ?_ | refine zq3 ?_ | refine zq4 ?_ | refine zq5 ?_ | refine zq6 ?_ | refine zq7 ?_ | refine zq8 ?_ | refine zq9 ?_ | refine zqa ?_ | refine zqb ?_ | refine zqc ?_ | refine zqd ?_ | refine zqe ?_ | refine zqf ?_ | refine zqg ?_ | refine zqh ?_ | refine zqi ?_ | refine zqj ?_ | refine zqk ?_ | refine zql ?_ | refine zqm ?_ | refine zqn ?_ | refine zqo ?_ | refine zqp ?_)
                exact ⟨trivial, rfl, _, _, [.id 0], hd, by (refine ⟨by kernel_rfl, ?_, ?_⟩ <;> repeat first | exact okTms_nil | refine okTms_cons ?_ ?_ | exact okBlks_nil | refine okBlks_cons ?_ ?_ | exact lws_nil | refine lws_cons ?_ ?_ | exact lb_dead | exact zy1 | exact zy2 | exact lb_none | refine zy3 ?_ | exact zy4 | exact lw_any | exact lw_int | exact lw_bool | exact zy5 | exact zy6 | exact lw_nils | exact lw_slo_nils | exact zy7 | exact zy8 | exact zy9 | refine lw_tup ?_ | refine lw_agg ?_ | assumption)⟩
              · simp only [show xcm .eql L[k].op 13 = true from t_eql hop, wd_not_t]
                (with_reducible repeat first | refine zq1 ?_ | refine zq2 ?_ | refine zq3 ?_ | refine zq4 ?_ | refine zq5 ?_ | refine zq6 ?_ | refine zq7 ?_ | refine zq8 ?_ | refine zq9 ?_ | refine zqa ?_ | refine zqb ?_ | refine zqc ?_ | refine zqd ?_ | refine zqe ?_ | refine zqf ?_ | refine zqg ?_ | refine zqh ?_ | refine zqi ?_ | refine zqj ?_ | refine zqk ?_ | refine zql ?_ | refine zqm ?_ | refine zqn ?_ | refine zqo ?_ | refine zqp ?_)
                exact ⟨trivial, rfl, _, _, [.id 0], hd, by (refine ⟨by kernel_rfl, ?_, ?_⟩ <;> repeat first | exact okTms_nil | refine okTms_cons ?_ ?_ | exact okBlks_nil | refine okBlks_cons ?_ ?_ | exact lws_nil | refine lws_cons ?_ ?_ | exact lb_dead | exact zy1 | exact zy2 | exact lb_none | refine zy3 ?_ | exact zy4 | exact lw_any | exact lw_int | exact lw_bool | exact zy5 | exact zy6 | exact lw_nils | exact lw_slo_nils | exact zy7 | exact zy8 | exact zy9 | refine lw_tup ?_ | refine lw_agg ?_ | assumption)⟩
          · have hd := hq fun q => by rcases q hop with q | q <;> omega
            rcases hop with hop | hop
            · (with_reducible repeat first | refine zq1 ?_ | refine zq2 ?_ | refine zq3 ?_ | refine zq4 ?_ | refine zq5 ?_ | refine zq6 ?_ | refine zq7 ?_ | refine zq8 ?_ | refine zq9 ?_ | refine zqa ?_ | refine zqb ?_ | refine zqc ?_ | refine zqd ?_ | refine zqe ?_ | refine zqf ?_ | refine zqg ?_ | refine zqh ?_ | refine zqi ?_ | refine zqj ?_ | refine zqk ?_ | refine zql ?_ | refine zqm ?_ | refine zqn ?_ | refine zqo ?_ | refine zqp ?_)
              exact ⟨trivial, rfl, _, _, [.id 0], hd, by (refine ⟨by kernel_rfl, ?_, ?_⟩ <;> repeat first | exact okTms_nil | refine okTms_cons ?_ ?_ | exact okBlks_nil | refine okBlks_cons ?_ ?_ | exact lws_nil | refine lws_cons ?_ ?_ | exact lb_dead | exact zy1 | exact zy2 | exact lb_none | refine zy3 ?_ | exact zy4 | exact lw_any | exact lw_int | exact lw_bool | exact zy5 | exact zy6 | exact lw_nils | exact lw_slo_nils | exact zy7 | exact zy8 | exact zy9 | refine lw_tup ?_ | refine lw_agg ?_ | assumption)⟩
            · simp only [show xcm .eql L[k].op 13 = true from t_eql hop, wd_not_t]
              (with_reducible repeat first | refine zq1 ?_ | refine zq2 ?_ | refine zq3 ?_ | refine zq4 ?_ | refine zq5 ?_ | refine zq6 ?_ | refine zq7 ?_ | refine zq8 ?_ | refine zq9 ?_ | refine zqa ?_ | refine zqb ?_ | refine zqc ?_ | refine zqd ?_ | refine zqe ?_ | refine zqf ?_ | refine zqg ?_ | refine zqh ?_ | refine zqi ?_ | refine zqj ?_ | refine zqk ?_ | refine zql ?_ | refine zqm ?_ | refine zqn ?_ | refine zqo ?_ | refine zqp ?_)
              exact ⟨trivial, rfl, _, _, [.id 0], hd, by (refine ⟨by kernel_rfl, ?_, ?_⟩ <;> repeat first | exact okTms_nil | refine okTms_cons ?_ ?_ | exact okBlks_nil | refine okBlks_cons ?_ ?_ | exact lws_nil | refine lws_cons ?_ ?_ | exact lb_dead | exact zy1 | exact zy2 | exact lb_none | refine zy3 ?_ | exact zy4 | exact lw_any | exact lw_int | exact lw_bool | exact zy5 | exact zy6 | exact lw_nils | exact lw_slo_nils | exact zy7 | exact zy8 | exact zy9 | refine lw_tup ?_ | refine lw_agg ?_ | assumption)⟩
      · have hd := hg fun q => absurd q hop
        simp only [show xcm .eql L[k].op 13 = false from f_eql (by omega), wd_not_f]
        (with_reducible repeat first | refine zq1 ?_ | refine zq2 ?_ | refine zq3 ?_ | refine zq4 ?_ | refine zq5 ?_ | refine zq6 ?_ | refine zq7 ?_ | refine zq8 ?_ | refine zq9 ?_ | refine zqa ?_ | refine zqb ?_ | refine zqc ?_ | refine zqd ?_ | refine zqe ?_ | refine zqf ?_ | refine zqg ?_ | refine zqh ?_ | refine zqi ?_ | refine zqj ?_ | refine zqk ?_ | refine zql ?_ | refine zqm ?_ | refine zqn ?_ | refine zqo ?_ | refine zqp ?_)
        exact ⟨rfl, ⟨k + 1, hlt, hd⟩, by simp only; omega, [.id 0, .id 1, .id 2, .id 3, .id 4, .id 5], by (refine ⟨by kernel_rfl, ?_, ?_⟩ <;> repeat first | exact okTms_nil | refine okTms_cons ?_ ?_ | exact okBlks_nil | refine okBlks_cons ?_ ?_ | exact lws_nil | refine lws_cons ?_ ?_ | exact lb_dead | exact zy1 | exact zy2 | exact lb_none | refine zy3 ?_ | exact zy4 | exact lw_any | exact lw_int | exact lw_bool | exact zy5 | exact zy6 | exact lw_nils | exact lw_slo_nils | exact zy7 | exact zy8 | exact zy9 | refine lw_tup ?_ | refine lw_agg ?_ | assumption)⟩
    · obtain rfl : k = L.length := by omega
      (with_reducible repeat first | refine zq1 ?_ | refine zq2 ?_ | refine zq3 ?_ | refine zq4 ?_ | refine zq5 ?_ | refine zq6 ?_ | refine zq7 ?_ | refine zq8 ?_ | refine zq9 ?_ | refine zqa ?_ | refine zqb ?_ | refine zqc ?_ | refine zqd ?_ | refine zqe ?_ | refine zqf ?_ | refine zqg ?_ | refine zqh ?_ | refine zqi ?_ | refine zqj ?_ | refine zqk ?_ | refine zql ?_ | refine zqm ?_ | refine zqn ?_ | refine zqo ?_ | refine zqp ?_)
      exact ⟨rfl, ⟨(), hJ⟩, [.id 0, .id 1, .id 2, .id 3, .id 4, .id 5], by (refine ⟨by kernel_rfl, ?_, ?_⟩ <;> repeat first | exact okTms_nil | refine okTms_cons ?_ ?_ | exact okBlks_nil | refine okBlks_cons ?_ ?_ | exact lws_nil | refine lws_cons ?_ ?_ | exact lb_dead | exact zy1 | exact zy2 | exact lb_none | refine zy3 ?_ | exact zy4 | exact lw_any | exact lw_int | exact lw_bool | exact zy5 | exact zy6 | exact lw_nils | exact lw_slo_nils | exact zy7 | exact zy8 | exact zy9 | refine lw_tup ?_ | refine lw_agg ?_ | assumption)⟩
  refine SSp.last ckU_ok (n := 60) (mkS_le (Nat.le_of_ble_eq_true rfl)) ?_
  have hgood := hqg ho hJ
  show xsp _ _ _ _ _ _ (mkS (luH L.length (encL insE L) (encL (cI .i64) r) (encL (cI .i64) (und L r m L.length))) gtab) _
  rw [lk_z]
  exact ⟨trivial, rfl, .tup [.ptr 1 0, .int .i64 0, .int .i64 0], [.ro (encL insE L), .cells [.slo 0 0 L.length 0, .slo 4 0 0 0, .slo 2 0 L.length 0, .slo 3 0 L.length 0] none, .cells (encL (cI .i64) r) (some 1), .cells (encL (cI .i64) (und L r m L.length)) (some 1), .dead], [.id 0, .id 2, .id 4, .id 5, .id 3], by rw [lookQ, hgood]; exact ⟨rfl, rfl⟩, by (refine ⟨by kernel_rfl, ?_, ?_⟩ <;> repeat first | exact okTms_nil | refine okTms_cons ?_ ?_ | exact okBlks_nil | refine okBlks_cons ?_ ?_ | exact lws_nil | refine lws_cons ?_ ?_ | exact lb_dead | exact zy1 | exact zy2 | exact lb_none | refine zy3 ?_ | exact zy4 | exact lw_any | exact lw_int | exact lw_bool | exact zy5 | exact zy6 | exact lw_nils | exact lw_slo_nils | exact zy7 | exact zy8 | exact zy9 | refine lw_tup ?_ | refine lw_agg ?_ | assumption)⟩
end
end Go.Lev
