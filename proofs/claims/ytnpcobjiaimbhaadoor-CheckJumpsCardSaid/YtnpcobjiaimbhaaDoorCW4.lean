/- CheckTells: the code's look: the steps -/
import Derived.Test.YtnpcobjiaimbhaaDoorCW3
import Derived.Test.YtnpcobjiaimbhaaDoorLc
import Derived.Test.YtnpcobjiaimbhaaDoorChecked
import Derived.KernelRfl

namespace Go.Lev
open Go.RowKit
set_option linter.unusedVariables false
set_option linter.unusedSimpArgs false
set_option maxRecDepth 100000
noncomputable section
theorem ckPro_ok : CtrOk Go.Proofs.Tryd.prog (ctrOf ckPro) := cxl_ok ⟨mayG_ok, trivial⟩
theorem cutA (a b : List Int) : xcut (encL (cI .i64) (a ++ b)) 0 a.length = encL (cI .i64) a := by
  rw [encL_append, xcut, List.drop_zero, List.take_append_of_le_length (by rw [encIi64_len]; omega), List.take_of_length_le (by rw [encIi64_len]; omega)]
theorem pushA (a b : List Int) (y : Int) : xcat (xcut (encL (cI .i64) (a ++ b)) 0 a.length) [.int .i64 y] = encL (cI .i64) (a ++ [y]) := by
  rw [cutA, encL_append]; rfl
theorem setI (xs : List Int) (i : Nat) (y : Int) (h : i < xs.length) : xlay (encL (cI .i64) xs) i [.int .i64 y] = encL (cI .i64) (xs.set i y) := by
  have e := encL_set (cI_len .i64) xs i y h
  rw [Nat.mul_one] at e; exact e
theorem nthL (o : List Int) (x : Int) (b : List Int) : nthD (encL (cI .i64) (o ++ [x] ++ b)) o.length = .int .i64 x := by
  rw [encIi64_nth (show o.length < (o ++ [x] ++ b).length by simp)]
  simp
/-- What look answers. -/
def lookQ (L : List InsR) (l : LV) (bs : List LB) : Prop :=
  if (chk L).2.1 = 0 then l = .tup [.ptr 1 0, .int .i64 0, .int .i64 0] ∧ bs = [.ro (encL insE L), .cells [.slo 0 0 L.length 0, .slo 4 0 0 0, .slo 2 0 L.length 0, .slo 3 0 L.length 0] none, .cells (encL (cI .i64) (chk L).2.2.1) (some 1), .cells (encL (cI .i64) (chk L).2.2.2) (some 1), .dead]
  else l = .tup [.nilp, .int .i64 (chk L).1, .int .i64 (chk L).2.1] ∧ bs = [.ro (encL insE L)]
theorem lookQ_err {L : List InsR} {a e : Int} (h : (chk L).1 = a ∧ (chk L).2.1 = e) (he : e ≠ 0) : lookQ L (.tup [.nilp, .int .i64 a, .int .i64 e]) [.ro (encL insE L)] := by
  rw [lookQ, if_neg (by rw [h.2]; exact he), h.1, h.2]; exact ⟨rfl, rfl⟩
theorem chk_form {L : List InsR} (h : L.length = 0 ∨ 40 < L.length) : (chk L).1 = 0 ∧ (chk L).2.1 = 4 := by rw [chk, if_pos h]; exact ⟨rfl, rfl⟩
theorem chk_step {L : List InsR} (h : ¬ (L.length = 0 ∨ 40 < L.length)) {e : Int} {i : Nat} (h1 : (goS L L.length).1 = e ∧ (goS L L.length).2.1 = i) (he : e ≠ 0) : (chk L).1 = i ∧ (chk L).2.1 = e := by
  rw [chk, if_neg h, if_pos (by rw [h1.1]; exact he), h1.1, h1.2]; exact ⟨rfl, rfl⟩
abbrev Q1 (L : List InsR) := {p : Nat × List Int // p.1 ≤ L.length ∧ (goS L p.1).1 = 0}
abbrev lkS (L : List InsR) (s : PS) (i : Nat) (junk : List Int) : List LB := lkH (.ro (encL insE L)) L.length s.o.length i (encL (cI .i64) (s.o ++ junk)) (encL (cI .i64) s.r) (encL (cI .i64) s.m)
set_option maxHeartbeats 8000000 in
theorem look_loop (L : List InsR) (h40 : ¬ (L.length = 0 ∨ 40 < L.length)) (a : Q1 L) {σ : Type} (T2 : σ → List (Nat × LV)) (H2 : σ → List LB) (el : (goS L L.length).1 = 0 → List Int → σ)
    (hT : ∀ h j, T2 (el h j) = [(1, .ptr 1 0), (5, .ptr 2 0)]) (hH : ∀ h j, H2 (el h j) = lkS L (goS L L.length).2.2 L.length j) : SCode Go.Proofs.Tryd.prog 62 (nthC (sp Go.Proofs.Tryd.prog 15) 5) 1 (mkTm 62 (lkT L.length a.1.1)) (mkS (lkS L (goS L a.1.1).2.2 a.1.1 a.1.2) gtab) (vK lkL (toK 1 62 lkL gtab T2 H2 (endK 1 [2, 3, 4] lkL gtab (lookQ L)))) := by
  refine SCode.loop_vc ckPro_ok (n := 60) 0 (by kernel_rfl) (σ := Q1 L) (fun p => lkT L.length p.1.1) (fun p => lkS L (goS L p.1.1).2.2 p.1.1 p.1.2) (fun p => L.length - p.1.1) (fun _ => Nat.le_of_ble_eq_true rfl) (fun ⟨⟨i, junk⟩, hi, h0⟩ => ?_) a
  have hI := goS_inv L i hi h0
  have nls : noIds (encL insE L) = true := ins_noids L
  have nI : ∀ l : List Int, noIds (encL (cI .i64) l) = true := fun l => noIds_Ii64 l
  by_cases hlt : i < L.length
  · have hq : ∀ e : Int, (stp L i L[i] (goS L i).2.2).1 = e → e ≠ 0 → lookQ L (.tup [.nilp, .int .i64 (i : Int), .int .i64 e]) [.ro (encL insE L)] := fun e he hne => lookQ_err (chk_step h40 (goS_err hlt h0 he hne) hne) hne
    have hn : ∀ s', stp L i L[i] (goS L i).2.2 = (0, s') → (goS L (i + 1)).1 = 0 ∧ (goS L (i + 1)).2.2 = s' := fun s' he => by rw [goS_next hlt h0, he]; exact ⟨rfl, rfl⟩
    show xcode _ _ _ _ _ _ (mkS (lkS L (goS L i).2.2 i junk) gtab) _
    generalize (goS L i).2.2 = s at *
    obtain ⟨o, r, m⟩ := s
    obtain ⟨rl, ml, ol, oo, rr, un, ma⟩ := hI
    dsimp only at rl ml ol oo rr un ma ⊢
    have c0 := ins_0 hlt
    have c1 := ins_1 hlt
    have c2 : nthD (encL insE L) (i * 5 + 1 + 1) = .int .i64 L[i].b := ins_2 hlt
    have c3 : nthD (encL insE L) (i * 5 + 1 + 1 + 1) = .int .i64 L[i].c := ins_3 hlt
    have c4 : nthD (encL insE L) (i * 5 + 1 + 1 + 1 + 1) = .int .u64 L[i].n := ins_4 hlt
    have pm : xcat (xcut (encL (cI .i64) m) 0 i) [.int .i64 (-1)] = encL (cI .i64) (m ++ [-1]) := by rw [← ml]; exact encIi64_push m (-1)
    have n1 := nI (o ++ junk)
    have n2 := nI r
    have n3 := nI m
    have n4 := nI (m ++ [-1])
    rw [lk_b]; simp only [lk_b_b1, lk_b_b2, lk_b_b3, lk_b_b4, lk_b_b5, lk_b_b6]
    cases hm : mayI L[i] with
    | false =>
      have hm' : mayW L[i].op L[i].a L[i].b L[i].c L[i].n = false := hm
      have hst : (stp L i L[i] ⟨o, r, m⟩).1 = 8 := by rw [stp, if_pos hm]
      simp only [wd_nat, wd_asV, wd_isV, wd_ix, wd_add, wd_mul, wd_ln, Nat.zero_add, Nat.mul_one, wd_isI, wd_asI, wd_isB, wd_asB, wd_nn, cI_tlen, cB_tlen, cII_tlen, decide_true, cond_true, wd_not_t, wd_not_f, wd_and_t, wd_and_f, c0, c1, c2, c3, c4, ins_n, hm']
      (with_reducible repeat first | refine zq1 ?_ | refine zq2 ?_ | refine zq3 ?_ | refine zq4 ?_ | refine zq5 ?_ | refine zq6 ?_ | refine zq7 ?_ | refine zq8 ?_ | refine zq9 ?_ | refine zqa ?_ | refine zqb ?_ | refine zqc ?_ | refine zqd ?_ | refine zqe ?_ | refine zqf ?_ | refine zqg ?_ | refine zqh ?_ | refine zqi ?_ | refine zqj ?_ | refine zqk ?_ | refine zql ?_ | refine zqm ?_ | refine zqn ?_ | refine zqo ?_ | refine zqp ?_)
      exact ⟨trivial, rfl, _, _, [.id 0], hq 8 hst (by decide), by (refine ⟨by kernel_rfl, ?_, ?_⟩ <;> repeat first | exact okTms_nil | refine okTms_cons ?_ ?_ | exact okBlks_nil | refine okBlks_cons ?_ ?_ | exact lws_nil | refine lws_cons ?_ ?_ | exact lb_dead | exact zy1 | exact zy2 | exact lb_none | refine zy3 ?_ | exact zy4 | exact lw_any | exact lw_int | exact lw_bool | exact zy5 | exact zy6 | exact lw_nils | exact lw_slo_nils | exact zy7 | exact zy8 | exact zy9 | refine lw_tup ?_ | refine lw_agg ?_ | assumption)⟩
    | true =>
    have hm' : mayW L[i].op L[i].a L[i].b L[i].c L[i].n = true := hm
    have hmn : ¬ mayI L[i] = false := by rw [hm]; decide
    rcases List.eq_nil_or_concat o with rfl | ⟨o', x, rfl⟩
    · have pr : xcat (xcut (encL (cI .i64) r) 0 i) [.int .i64 (-1)] = encL (cI .i64) (r ++ [-1]) := by rw [← rl]; exact encIi64_push r (-1)
      have po : xcat (xcut (encL (cI .i64) junk) 0 0) [.int .i64 (i : Int)] = encL (cI .i64) [(i : Int)] := pushA [] junk i
      have n5 := nI (r ++ [-1])
      have n6 := nI [(i : Int)]
      simp only [List.nil_append] at n1
      simp only [wd_nat, wd_asV, wd_isV, wd_ix, wd_add, wd_mul, wd_ln, Nat.zero_add, Nat.mul_one, wd_isI, wd_asI, wd_isB, wd_asB, wd_nn, cI_tlen, cB_tlen, cII_tlen, decide_true, cond_true, wd_not_t, wd_not_f, wd_and_t, wd_and_f, List.nil_append, List.length_nil, c0, c1, c2, c3, c4, ins_n, hm', encIi64_len, rl, ml, pm, pr, po, inc_i64 hlt (by omega)]
      by_cases e1 : L[i].op = 14 ∨ L[i].op = 17
      · by_cases e5 : 5 ≤ ([] : List Int).length
        · exact absurd e5 (by simp)
        · rcases e1 with e1 | e1
          · have hst : stp L i L[i] (⟨[], r, m⟩ : PS) = (0, ⟨[] ++ [(i : Int)], r ++ [(-1)], m ++ [-1]⟩) := by rw [stp, if_neg hmn, if_pos (.inl e1), if_neg e5, show inm [] = (-1) from inm_nil]
            obtain ⟨g1, g2⟩ := hn _ hst
            (with_reducible repeat first | refine zq1 ?_ | refine zq2 ?_ | refine zq3 ?_ | refine zq4 ?_ | refine zq5 ?_ | refine zq6 ?_ | refine zq7 ?_ | refine zq8 ?_ | refine zq9 ?_ | refine zqa ?_ | refine zqb ?_ | refine zqc ?_ | refine zqd ?_ | refine zqe ?_ | refine zqf ?_ | refine zqg ?_ | refine zqh ?_ | refine zqi ?_ | refine zqj ?_ | refine zqk ?_ | refine zql ?_ | refine zqm ?_ | refine zqn ?_ | refine zqo ?_ | refine zqp ?_)
            exact ⟨rfl, ⟨(i + 1, []), by simp only; omega, g1⟩, by simp only; omega, [.id 0, .id 1, .id 2, .id 13, .id 9, .id 11], by simp only [g2, lkS, List.append_nil, List.length_append, List.length_singleton, List.length_nil, List.nil_append]; (refine ⟨by kernel_rfl, ?_, ?_⟩ <;> repeat first | exact okTms_nil | refine okTms_cons ?_ ?_ | exact okBlks_nil | refine okBlks_cons ?_ ?_ | exact lws_nil | refine lws_cons ?_ ?_ | exact lb_dead | exact zy1 | exact zy2 | exact lb_none | refine zy3 ?_ | exact zy4 | exact lw_any | exact lw_int | exact lw_bool | exact zy5 | exact zy6 | exact lw_nils | exact lw_slo_nils | exact zy7 | exact zy8 | exact zy9 | refine lw_tup ?_ | refine lw_agg ?_ | assumption)⟩
          · have hst : stp L i L[i] (⟨[], r, m⟩ : PS) = (0, ⟨[] ++ [(i : Int)], r ++ [(-1)], m ++ [-1]⟩) := by rw [stp, if_neg hmn, if_pos (.inr e1), if_neg e5, show inm [] = (-1) from inm_nil]
            obtain ⟨g1, g2⟩ := hn _ hst
            (with_reducible repeat first | refine zq1 ?_ | refine zq2 ?_ | refine zq3 ?_ | refine zq4 ?_ | refine zq5 ?_ | refine zq6 ?_ | refine zq7 ?_ | refine zq8 ?_ | refine zq9 ?_ | refine zqa ?_ | refine zqb ?_ | refine zqc ?_ | refine zqd ?_ | refine zqe ?_ | refine zqf ?_ | refine zqg ?_ | refine zqh ?_ | refine zqi ?_ | refine zqj ?_ | refine zqk ?_ | refine zql ?_ | refine zqm ?_ | refine zqn ?_ | refine zqo ?_ | refine zqp ?_)
            exact ⟨rfl, ⟨(i + 1, []), by simp only; omega, g1⟩, by simp only; omega, [.id 0, .id 1, .id 2, .id 13, .id 9, .id 11], by simp only [g2, lkS, List.append_nil, List.length_append, List.length_singleton, List.length_nil, List.nil_append]; (refine ⟨by kernel_rfl, ?_, ?_⟩ <;> repeat first | exact okTms_nil | refine okTms_cons ?_ ?_ | exact okBlks_nil | refine okBlks_cons ?_ ?_ | exact lws_nil | refine lws_cons ?_ ?_ | exact lb_dead | exact zy1 | exact zy2 | exact lb_none | refine zy3 ?_ | exact zy4 | exact lw_any | exact lw_int | exact lw_bool | exact zy5 | exact zy6 | exact lw_nils | exact lw_slo_nils | exact zy7 | exact zy8 | exact zy9 | refine lw_tup ?_ | refine lw_agg ?_ | assumption)⟩
      by_cases e2 : L[i].op = 16
      · have hst : (stp L i L[i] (⟨[], r, m⟩ : PS)).1 = 12 := by rw [stp, if_neg hmn, if_neg e1, if_pos e2, show inm [] = (-1) from inm_nil, if_neg (show ¬ beg L (-1) 14 from fun q => q.1 rfl)]
        (with_reducible repeat first | refine zq1 ?_ | refine zq2 ?_ | refine zq3 ?_ | refine zq4 ?_ | refine zq5 ?_ | refine zq6 ?_ | refine zq7 ?_ | refine zq8 ?_ | refine zq9 ?_ | refine zqa ?_ | refine zqb ?_ | refine zqc ?_ | refine zqd ?_ | refine zqe ?_ | refine zqf ?_ | refine zqg ?_ | refine zqh ?_ | refine zqi ?_ | refine zqj ?_ | refine zqk ?_ | refine zql ?_ | refine zqm ?_ | refine zqn ?_ | refine zqo ?_ | refine zqp ?_)
        exact ⟨trivial, rfl, _, _, [.id 0], hq 12 hst (by decide), by (refine ⟨by kernel_rfl, ?_, ?_⟩ <;> repeat first | exact okTms_nil | refine okTms_cons ?_ ?_ | exact okBlks_nil | refine okBlks_cons ?_ ?_ | exact lws_nil | refine lws_cons ?_ ?_ | exact lb_dead | exact zy1 | exact zy2 | exact lb_none | refine zy3 ?_ | exact zy4 | exact lw_any | exact lw_int | exact lw_bool | exact zy5 | exact zy6 | exact lw_nils | exact lw_slo_nils | exact zy7 | exact zy8 | exact zy9 | refine lw_tup ?_ | refine lw_agg ?_ | assumption)⟩
      by_cases e3 : L[i].op = 15
      · have hst : (stp L i L[i] (⟨[], r, m⟩ : PS)).1 = 12 := by rw [stp, if_neg hmn, if_neg e1, if_neg e2, if_pos e3, show inm [] = (-1) from inm_nil, if_neg (show ¬ beg L (-1) 14 from fun q => q.1 rfl)]
        (with_reducible repeat first | refine zq1 ?_ | refine zq2 ?_ | refine zq3 ?_ | refine zq4 ?_ | refine zq5 ?_ | refine zq6 ?_ | refine zq7 ?_ | refine zq8 ?_ | refine zq9 ?_ | refine zqa ?_ | refine zqb ?_ | refine zqc ?_ | refine zqd ?_ | refine zqe ?_ | refine zqf ?_ | refine zqg ?_ | refine zqh ?_ | refine zqi ?_ | refine zqj ?_ | refine zqk ?_ | refine zql ?_ | refine zqm ?_ | refine zqn ?_ | refine zqo ?_ | refine zqp ?_)
        exact ⟨trivial, rfl, _, _, [.id 0], hq 12 hst (by decide), by (refine ⟨by kernel_rfl, ?_, ?_⟩ <;> repeat first | exact okTms_nil | refine okTms_cons ?_ ?_ | exact okBlks_nil | refine okBlks_cons ?_ ?_ | exact lws_nil | refine lws_cons ?_ ?_ | exact lb_dead | exact zy1 | exact zy2 | exact lb_none | refine zy3 ?_ | exact zy4 | exact lw_any | exact lw_int | exact lw_bool | exact zy5 | exact zy6 | exact lw_nils | exact lw_slo_nils | exact zy7 | exact zy8 | exact zy9 | refine lw_tup ?_ | refine lw_agg ?_ | assumption)⟩
      by_cases e4 : L[i].op = 19
      · have hst : (stp L i L[i] (⟨[], r, m⟩ : PS)).1 = 12 := by rw [stp, if_neg hmn, if_neg e1, if_neg e2, if_neg e3, if_pos e4, show inm [] = (-1) from inm_nil, if_neg (show ¬ beg L (-1) 18 from fun q => q.1 rfl)]
        (with_reducible repeat first | refine zq1 ?_ | refine zq2 ?_ | refine zq3 ?_ | refine zq4 ?_ | refine zq5 ?_ | refine zq6 ?_ | refine zq7 ?_ | refine zq8 ?_ | refine zq9 ?_ | refine zqa ?_ | refine zqb ?_ | refine zqc ?_ | refine zqd ?_ | refine zqe ?_ | refine zqf ?_ | refine zqg ?_ | refine zqh ?_ | refine zqi ?_ | refine zqj ?_ | refine zqk ?_ | refine zql ?_ | refine zqm ?_ | refine zqn ?_ | refine zqo ?_ | refine zqp ?_)
        exact ⟨trivial, rfl, _, _, [.id 0], hq 12 hst (by decide), by (refine ⟨by kernel_rfl, ?_, ?_⟩ <;> repeat first | exact okTms_nil | refine okTms_cons ?_ ?_ | exact okBlks_nil | refine okBlks_cons ?_ ?_ | exact lws_nil | refine lws_cons ?_ ?_ | exact lb_dead | exact zy1 | exact zy2 | exact lb_none | refine zy3 ?_ | exact zy4 | exact lw_any | exact lw_int | exact lw_bool | exact zy5 | exact zy6 | exact lw_nils | exact lw_slo_nils | exact zy7 | exact zy8 | exact zy9 | refine lw_tup ?_ | refine lw_agg ?_ | assumption)⟩
      by_cases e6 : L[i].op = 18
      · have hst : (stp L i L[i] (⟨[], r, m⟩ : PS)).1 = 12 := by rw [stp, if_neg hmn, if_neg e1, if_neg e2, if_neg e3, if_neg e4, if_pos e6, show inm [] = (-1) from inm_nil, if_neg (show ¬ beg L (-1) 17 from fun q => q.1 rfl)]
        (with_reducible repeat first | refine zq1 ?_ | refine zq2 ?_ | refine zq3 ?_ | refine zq4 ?_ | refine zq5 ?_ | refine zq6 ?_ | refine zq7 ?_ | refine zq8 ?_ | refine zq9 ?_ | refine zqa ?_ | refine zqb ?_ | refine zqc ?_ | refine zqd ?_ | refine zqe ?_ | refine zqf ?_ | refine zqg ?_ | refine zqh ?_ | refine zqi ?_ | refine zqj ?_ | refine zqk ?_ | refine zql ?_ | refine zqm ?_ | refine zqn ?_ | refine zqo ?_ | refine zqp ?_)
        exact ⟨trivial, rfl, _, _, [.id 0], hq 12 hst (by decide), by (refine ⟨by kernel_rfl, ?_, ?_⟩ <;> repeat first | exact okTms_nil | refine okTms_cons ?_ ?_ | exact okBlks_nil | refine okBlks_cons ?_ ?_ | exact lws_nil | refine lws_cons ?_ ?_ | exact lb_dead | exact zy1 | exact zy2 | exact lb_none | refine zy3 ?_ | exact zy4 | exact lw_any | exact lw_int | exact lw_bool | exact zy5 | exact zy6 | exact lw_nils | exact lw_slo_nils | exact zy7 | exact zy8 | exact zy9 | refine lw_tup ?_ | refine lw_agg ?_ | assumption)⟩
      have hst : stp L i L[i] (⟨[], r, m⟩ : PS) = (0, ⟨[], r ++ [(-1)], m ++ [-1]⟩) := by rw [stp, if_neg hmn, if_neg e1, if_neg e2, if_neg e3, if_neg e4, if_neg e6, show inm [] = (-1) from inm_nil]
      obtain ⟨g1, g2⟩ := hn _ hst
      (with_reducible repeat first | refine zq1 ?_ | refine zq2 ?_ | refine zq3 ?_ | refine zq4 ?_ | refine zq5 ?_ | refine zq6 ?_ | refine zq7 ?_ | refine zq8 ?_ | refine zq9 ?_ | refine zqa ?_ | refine zqb ?_ | refine zqc ?_ | refine zqd ?_ | refine zqe ?_ | refine zqf ?_ | refine zqg ?_ | refine zqh ?_ | refine zqi ?_ | refine zqj ?_ | refine zqk ?_ | refine zql ?_ | refine zqm ?_ | refine zqn ?_ | refine zqo ?_ | refine zqp ?_)
      exact ⟨rfl, ⟨(i + 1, junk), by simp only; omega, g1⟩, by simp only; omega, [.id 0, .id 1, .id 2, .id 3, .id 9, .id 11], by simp only [g2, lkS]; (refine ⟨by kernel_rfl, ?_, ?_⟩ <;> repeat first | exact okTms_nil | refine okTms_cons ?_ ?_ | exact okBlks_nil | refine okBlks_cons ?_ ?_ | exact lws_nil | refine lws_cons ?_ ?_ | exact lb_dead | exact zy1 | exact zy2 | exact lb_none | refine zy3 ?_ | exact zy4 | exact lw_any | exact lw_int | exact lw_bool | exact zy5 | exact zy6 | exact lw_nils | exact lw_slo_nils | exact zy7 | exact zy8 | exact zy9 | refine lw_tup ?_ | refine lw_agg ?_ | assumption)⟩
    · rw [List.concat_eq_append] at *
      obtain ⟨j, rfl⟩ : ∃ j : Nat, x = (j : Int) := ⟨x.toNat, by have := oo x (by simp); omega⟩
      have hji : j < i := by have := oo (j : Int) (by simp); omega
      have hjl : j < L.length := by omega
      have ob := opAt_get hjl
      have cj := ins_0 hjl
      have ol' : o'.length + 1 ≤ 5 := by simpa using ol
      have pr : xcat (xcut (encL (cI .i64) r) 0 i) [.int .i64 (j : Int)] = encL (cI .i64) (r ++ [(j : Int)]) := by rw [← rl]; exact encIi64_push r j
      have po : xcat (xcut (encL (cI .i64) (o' ++ [(j : Int)] ++ junk)) 0 (o'.length + 1)) [.int .i64 (i : Int)] = encL (cI .i64) (o' ++ [(j : Int)] ++ [(i : Int)]) := by
        have := pushA (o' ++ [(j : Int)]) junk i
        rwa [List.length_append, List.length_singleton] at this
      have po2 : xcat (xcut (encL (cI .i64) (o' ++ [(j : Int)] ++ junk)) 0 o'.length) [.int .i64 (i : Int)] = encL (cI .i64) (o' ++ [(i : Int)]) := by
        rw [List.append_assoc]; exact pushA o' _ i
      have ps : xlay (encL (cI .i64) (m ++ [-1])) j [.int .i64 (i : Int)] = encL (cI .i64) ((m ++ [-1]).set j i) := setI _ j i (by simp; omega)
      have cl := nthL o' (j : Int) junk
      have sb : xar .sub .i64 ((o'.length + 1 : Nat) : Int) 1 = ((o'.length : Nat) : Int) := by rw [sub_i64 (by omega) (by omega)]; omega
      have n5 := nI (r ++ [(j : Int)])
      have n6 := nI (o' ++ [(j : Int)] ++ [(i : Int)])
      have n7 := nI (o' ++ [(i : Int)])
      have n8 := nI ((m ++ [-1]).set j i)
      have el : (o' ++ [(j : Int)]).length = o'.length + 1 := by simp
      have el2 : (o' ++ [(j : Int)] ++ junk).length = o'.length + 1 + junk.length := by simp; omega
      have el3 : (m ++ [-1]).length = i + 1 := by simp [ml]
      simp only [wd_nat, wd_asV, wd_isV, wd_ix, wd_add, wd_mul, wd_ln, Nat.zero_add, Nat.mul_one, wd_isI, wd_asI, wd_isB, wd_asB, wd_nn, cI_tlen, cB_tlen, cII_tlen, decide_true, cond_true, wd_not_t, wd_not_f, wd_and_t, wd_and_f, el, sb, cl, cj, c0, c1, c2, c3, c4, ins_n, hm', encIi64_len, el2, el3, rl, ml, pm, pr, po, po2, ps, inc_i64 hlt (by omega), Nat.sub_zero, wd_sub]
      by_cases e1 : L[i].op = 14 ∨ L[i].op = 17
      · by_cases e5 : 5 ≤ (o' ++ [(j : Int)]).length
        · skip
          have e5' : 5 ≤ o'.length + 1 := by simpa using e5
          rcases e1 with e1 | e1
          · have hst : (stp L i L[i] (⟨(o' ++ [(j : Int)]), r, m⟩ : PS)).1 = 9 := by rw [stp, if_neg hmn, if_pos (.inl e1), if_pos e5]
            (with_reducible repeat first | refine zq1 ?_ | refine zq2 ?_ | refine zq3 ?_ | refine zq4 ?_ | refine zq5 ?_ | refine zq6 ?_ | refine zq7 ?_ | refine zq8 ?_ | refine zq9 ?_ | refine zqa ?_ | refine zqb ?_ | refine zqc ?_ | refine zqd ?_ | refine zqe ?_ | refine zqf ?_ | refine zqg ?_ | refine zqh ?_ | refine zqi ?_ | refine zqj ?_ | refine zqk ?_ | refine zql ?_ | refine zqm ?_ | refine zqn ?_ | refine zqo ?_ | refine zqp ?_)
            exact ⟨trivial, rfl, _, _, [.id 0], hq 9 hst (by decide), by (refine ⟨by kernel_rfl, ?_, ?_⟩ <;> repeat first | exact okTms_nil | refine okTms_cons ?_ ?_ | exact okBlks_nil | refine okBlks_cons ?_ ?_ | exact lws_nil | refine lws_cons ?_ ?_ | exact lb_dead | exact zy1 | exact zy2 | exact lb_none | refine zy3 ?_ | exact zy4 | exact lw_any | exact lw_int | exact lw_bool | exact zy5 | exact zy6 | exact lw_nils | exact lw_slo_nils | exact zy7 | exact zy8 | exact zy9 | refine lw_tup ?_ | refine lw_agg ?_ | assumption)⟩
          · have hst : (stp L i L[i] (⟨(o' ++ [(j : Int)]), r, m⟩ : PS)).1 = 9 := by rw [stp, if_neg hmn, if_pos (.inr e1), if_pos e5]
            (with_reducible repeat first | refine zq1 ?_ | refine zq2 ?_ | refine zq3 ?_ | refine zq4 ?_ | refine zq5 ?_ | refine zq6 ?_ | refine zq7 ?_ | refine zq8 ?_ | refine zq9 ?_ | refine zqa ?_ | refine zqb ?_ | refine zqc ?_ | refine zqd ?_ | refine zqe ?_ | refine zqf ?_ | refine zqg ?_ | refine zqh ?_ | refine zqi ?_ | refine zqj ?_ | refine zqk ?_ | refine zql ?_ | refine zqm ?_ | refine zqn ?_ | refine zqo ?_ | refine zqp ?_)
            exact ⟨trivial, rfl, _, _, [.id 0], hq 9 hst (by decide), by (refine ⟨by kernel_rfl, ?_, ?_⟩ <;> repeat first | exact okTms_nil | refine okTms_cons ?_ ?_ | exact okBlks_nil | refine okBlks_cons ?_ ?_ | exact lws_nil | refine lws_cons ?_ ?_ | exact lb_dead | exact zy1 | exact zy2 | exact lb_none | refine zy3 ?_ | exact zy4 | exact lw_any | exact lw_int | exact lw_bool | exact zy5 | exact zy6 | exact lw_nils | exact lw_slo_nils | exact zy7 | exact zy8 | exact zy9 | refine lw_tup ?_ | refine lw_agg ?_ | assumption)⟩
        · rcases e1 with e1 | e1
          · have hst : stp L i L[i] (⟨(o' ++ [(j : Int)]), r, m⟩ : PS) = (0, ⟨(o' ++ [(j : Int)]) ++ [(i : Int)], r ++ [(j : Int)], m ++ [-1]⟩) := by rw [stp, if_neg hmn, if_pos (.inl e1), if_neg e5, show inm (o' ++ [(j : Int)]) = (j : Int) from inm_snoc o' _]
            obtain ⟨g1, g2⟩ := hn _ hst
            (with_reducible repeat first | refine zq1 ?_ | refine zq2 ?_ | refine zq3 ?_ | refine zq4 ?_ | refine zq5 ?_ | refine zq6 ?_ | refine zq7 ?_ | refine zq8 ?_ | refine zq9 ?_ | refine zqa ?_ | refine zqb ?_ | refine zqc ?_ | refine zqd ?_ | refine zqe ?_ | refine zqf ?_ | refine zqg ?_ | refine zqh ?_ | refine zqi ?_ | refine zqj ?_ | refine zqk ?_ | refine zql ?_ | refine zqm ?_ | refine zqn ?_ | refine zqo ?_ | refine zqp ?_)
            exact ⟨rfl, ⟨(i + 1, []), by simp only; omega, g1⟩, by simp only; omega, [.id 0, .id 1, .id 2, .id 13, .id 9, .id 11], by simp only [g2, lkS, List.append_nil, List.length_append, List.length_singleton]; (refine ⟨by kernel_rfl, ?_, ?_⟩ <;> repeat first | exact okTms_nil | refine okTms_cons ?_ ?_ | exact okBlks_nil | refine okBlks_cons ?_ ?_ | exact lws_nil | refine lws_cons ?_ ?_ | exact lb_dead | exact zy1 | exact zy2 | exact lb_none | refine zy3 ?_ | exact zy4 | exact lw_any | exact lw_int | exact lw_bool | exact zy5 | exact zy6 | exact lw_nils | exact lw_slo_nils | exact zy7 | exact zy8 | exact zy9 | refine lw_tup ?_ | refine lw_agg ?_ | assumption)⟩
          · have hst : stp L i L[i] (⟨(o' ++ [(j : Int)]), r, m⟩ : PS) = (0, ⟨(o' ++ [(j : Int)]) ++ [(i : Int)], r ++ [(j : Int)], m ++ [-1]⟩) := by rw [stp, if_neg hmn, if_pos (.inr e1), if_neg e5, show inm (o' ++ [(j : Int)]) = (j : Int) from inm_snoc o' _]
            obtain ⟨g1, g2⟩ := hn _ hst
            (with_reducible repeat first | refine zq1 ?_ | refine zq2 ?_ | refine zq3 ?_ | refine zq4 ?_ | refine zq5 ?_ | refine zq6 ?_ | refine zq7 ?_ | refine zq8 ?_ | refine zq9 ?_ | refine zqa ?_ | refine zqb ?_ | refine zqc ?_ | refine zqd ?_ | refine zqe ?_ | refine zqf ?_ | refine zqg ?_ | refine zqh ?_ | refine zqi ?_ | refine zqj ?_ | refine zqk ?_ | refine zql ?_ | refine zqm ?_ | refine zqn ?_ | refine zqo ?_ | refine zqp ?_)
            exact ⟨rfl, ⟨(i + 1, []), by simp only; omega, g1⟩, by simp only; omega, [.id 0, .id 1, .id 2, .id 13, .id 9, .id 11], by simp only [g2, lkS, List.append_nil, List.length_append, List.length_singleton]; (refine ⟨by kernel_rfl, ?_, ?_⟩ <;> repeat first | exact okTms_nil | refine okTms_cons ?_ ?_ | exact okBlks_nil | refine okBlks_cons ?_ ?_ | exact lws_nil | refine lws_cons ?_ ?_ | exact lb_dead | exact zy1 | exact zy2 | exact lb_none | refine zy3 ?_ | exact zy4 | exact lw_any | exact lw_int | exact lw_bool | exact zy5 | exact zy6 | exact lw_nils | exact lw_slo_nils | exact zy7 | exact zy8 | exact zy9 | refine lw_tup ?_ | refine lw_agg ?_ | assumption)⟩
      by_cases e2 : L[i].op = 16
      · by_cases eb : L[j].op = 14
        · simp only [show xcm .eql L[j].op 14 = true from t_eql eb, wd_not_t]
          have hst : stp L i L[i] (⟨(o' ++ [(j : Int)]), r, m⟩ : PS) = (0, ⟨(o' ++ [(j : Int)]), r ++ [(j : Int)], m ++ [-1]⟩) := by rw [stp, if_neg hmn, if_neg e1, if_pos e2, show inm (o' ++ [(j : Int)]) = (j : Int) from inm_snoc o' _, if_pos (show beg L (j : Int) 14 from ⟨by omega, ob.trans eb⟩)]
          obtain ⟨g1, g2⟩ := hn _ hst
          (with_reducible repeat first | refine zq1 ?_ | refine zq2 ?_ | refine zq3 ?_ | refine zq4 ?_ | refine zq5 ?_ | refine zq6 ?_ | refine zq7 ?_ | refine zq8 ?_ | refine zq9 ?_ | refine zqa ?_ | refine zqb ?_ | refine zqc ?_ | refine zqd ?_ | refine zqe ?_ | refine zqf ?_ | refine zqg ?_ | refine zqh ?_ | refine zqi ?_ | refine zqj ?_ | refine zqk ?_ | refine zql ?_ | refine zqm ?_ | refine zqn ?_ | refine zqo ?_ | refine zqp ?_)
          exact ⟨rfl, ⟨(i + 1, junk), by simp only; omega, g1⟩, by simp only; omega, [.id 0, .id 1, .id 2, .id 3, .id 9, .id 11], by simp only [g2, lkS, List.length_append, List.length_singleton]; (refine ⟨by kernel_rfl, ?_, ?_⟩ <;> repeat first | exact okTms_nil | refine okTms_cons ?_ ?_ | exact okBlks_nil | refine okBlks_cons ?_ ?_ | exact lws_nil | refine lws_cons ?_ ?_ | exact lb_dead | exact zy1 | exact zy2 | exact lb_none | refine zy3 ?_ | exact zy4 | exact lw_any | exact lw_int | exact lw_bool | exact zy5 | exact zy6 | exact lw_nils | exact lw_slo_nils | exact zy7 | exact zy8 | exact zy9 | refine lw_tup ?_ | refine lw_agg ?_ | assumption)⟩
        · simp only [show xcm .eql L[j].op 14 = false from f_eql eb, wd_not_f]
          have hst : (stp L i L[i] (⟨(o' ++ [(j : Int)]), r, m⟩ : PS)).1 = 12 := by rw [stp, if_neg hmn, if_neg e1, if_pos e2, show inm (o' ++ [(j : Int)]) = (j : Int) from inm_snoc o' _, if_neg (show ¬ beg L (j : Int) 14 from fun q => eb (ob.symm.trans q.2))]
          (with_reducible repeat first | refine zq1 ?_ | refine zq2 ?_ | refine zq3 ?_ | refine zq4 ?_ | refine zq5 ?_ | refine zq6 ?_ | refine zq7 ?_ | refine zq8 ?_ | refine zq9 ?_ | refine zqa ?_ | refine zqb ?_ | refine zqc ?_ | refine zqd ?_ | refine zqe ?_ | refine zqf ?_ | refine zqg ?_ | refine zqh ?_ | refine zqi ?_ | refine zqj ?_ | refine zqk ?_ | refine zql ?_ | refine zqm ?_ | refine zqn ?_ | refine zqo ?_ | refine zqp ?_)
          exact ⟨trivial, rfl, _, _, [.id 0], hq 12 hst (by decide), by (refine ⟨by kernel_rfl, ?_, ?_⟩ <;> repeat first | exact okTms_nil | refine okTms_cons ?_ ?_ | exact okBlks_nil | refine okBlks_cons ?_ ?_ | exact lws_nil | refine lws_cons ?_ ?_ | exact lb_dead | exact zy1 | exact zy2 | exact lb_none | refine zy3 ?_ | exact zy4 | exact lw_any | exact lw_int | exact lw_bool | exact zy5 | exact zy6 | exact lw_nils | exact lw_slo_nils | exact zy7 | exact zy8 | exact zy9 | refine lw_tup ?_ | refine lw_agg ?_ | assumption)⟩
      by_cases e3 : L[i].op = 15
      · by_cases eb : L[j].op = 14
        · simp only [show xcm .eql L[j].op 14 = true from t_eql eb, wd_not_t]
          have hst : stp L i L[i] (⟨(o' ++ [(j : Int)]), r, m⟩ : PS) = (0, ⟨o', r ++ [(j : Int)], (m ++ [-1]).set j i⟩) := by rw [stp, if_neg hmn, if_neg e1, if_neg e2, if_pos e3, show inm (o' ++ [(j : Int)]) = (j : Int) from inm_snoc o' _, if_pos (show beg L (j : Int) 14 from ⟨by omega, ob.trans eb⟩)]; rw [List.dropLast_concat]; rfl
          obtain ⟨g1, g2⟩ := hn _ hst
          (with_reducible repeat first | refine zq1 ?_ | refine zq2 ?_ | refine zq3 ?_ | refine zq4 ?_ | refine zq5 ?_ | refine zq6 ?_ | refine zq7 ?_ | refine zq8 ?_ | refine zq9 ?_ | refine zqa ?_ | refine zqb ?_ | refine zqc ?_ | refine zqd ?_ | refine zqe ?_ | refine zqf ?_ | refine zqg ?_ | refine zqh ?_ | refine zqi ?_ | refine zqj ?_ | refine zqk ?_ | refine zql ?_ | refine zqm ?_ | refine zqn ?_ | refine zqo ?_ | refine zqp ?_)
          exact ⟨rfl, ⟨(i + 1, (j : Int) :: junk), by simp only; omega, g1⟩, by simp only; omega, [.id 0, .id 1, .id 2, .id 3, .id 9, .id 11], by simp only [g2, lkS, show o' ++ ((j : Int) :: junk) = o' ++ [(j : Int)] ++ junk from by simp]; (refine ⟨by kernel_rfl, ?_, ?_⟩ <;> repeat first | exact okTms_nil | refine okTms_cons ?_ ?_ | exact okBlks_nil | refine okBlks_cons ?_ ?_ | exact lws_nil | refine lws_cons ?_ ?_ | exact lb_dead | exact zy1 | exact zy2 | exact lb_none | refine zy3 ?_ | exact zy4 | exact lw_any | exact lw_int | exact lw_bool | exact zy5 | exact zy6 | exact lw_nils | exact lw_slo_nils | exact zy7 | exact zy8 | exact zy9 | refine lw_tup ?_ | refine lw_agg ?_ | assumption)⟩
        · simp only [show xcm .eql L[j].op 14 = false from f_eql eb, wd_not_f]
          have hst : (stp L i L[i] (⟨(o' ++ [(j : Int)]), r, m⟩ : PS)).1 = 12 := by rw [stp, if_neg hmn, if_neg e1, if_neg e2, if_pos e3, show inm (o' ++ [(j : Int)]) = (j : Int) from inm_snoc o' _, if_neg (show ¬ beg L (j : Int) 14 from fun q => eb (ob.symm.trans q.2))]
          (with_reducible repeat first | refine zq1 ?_ | refine zq2 ?_ | refine zq3 ?_ | refine zq4 ?_ | refine zq5 ?_ | refine zq6 ?_ | refine zq7 ?_ | refine zq8 ?_ | refine zq9 ?_ | refine zqa ?_ | refine zqb ?_ | refine zqc ?_ | refine zqd ?_ | refine zqe ?_ | refine zqf ?_ | refine zqg ?_ | refine zqh ?_ | refine zqi ?_ | refine zqj ?_ | refine zqk ?_ | refine zql ?_ | refine zqm ?_ | refine zqn ?_ | refine zqo ?_ | refine zqp ?_)
          exact ⟨trivial, rfl, _, _, [.id 0], hq 12 hst (by decide), by (refine ⟨by kernel_rfl, ?_, ?_⟩ <;> repeat first | exact okTms_nil | refine okTms_cons ?_ ?_ | exact okBlks_nil | refine okBlks_cons ?_ ?_ | exact lws_nil | refine lws_cons ?_ ?_ | exact lb_dead | exact zy1 | exact zy2 | exact lb_none | refine zy3 ?_ | exact zy4 | exact lw_any | exact lw_int | exact lw_bool | exact zy5 | exact zy6 | exact lw_nils | exact lw_slo_nils | exact zy7 | exact zy8 | exact zy9 | refine lw_tup ?_ | refine lw_agg ?_ | assumption)⟩
      by_cases e4 : L[i].op = 19
      · by_cases eb : L[j].op = 18
        · simp only [show xcm .eql L[j].op 18 = true from t_eql eb, wd_not_t]
          have hst : stp L i L[i] (⟨(o' ++ [(j : Int)]), r, m⟩ : PS) = (0, ⟨o', r ++ [(j : Int)], (m ++ [-1]).set j i⟩) := by rw [stp, if_neg hmn, if_neg e1, if_neg e2, if_neg e3, if_pos e4, show inm (o' ++ [(j : Int)]) = (j : Int) from inm_snoc o' _, if_pos (show beg L (j : Int) 18 from ⟨by omega, ob.trans eb⟩)]; rw [List.dropLast_concat]; rfl
          obtain ⟨g1, g2⟩ := hn _ hst
          (with_reducible repeat first | refine zq1 ?_ | refine zq2 ?_ | refine zq3 ?_ | refine zq4 ?_ | refine zq5 ?_ | refine zq6 ?_ | refine zq7 ?_ | refine zq8 ?_ | refine zq9 ?_ | refine zqa ?_ | refine zqb ?_ | refine zqc ?_ | refine zqd ?_ | refine zqe ?_ | refine zqf ?_ | refine zqg ?_ | refine zqh ?_ | refine zqi ?_ | refine zqj ?_ | refine zqk ?_ | refine zql ?_ | refine zqm ?_ | refine zqn ?_ | refine zqo ?_ | refine zqp ?_)
          exact ⟨rfl, ⟨(i + 1, (j : Int) :: junk), by simp only; omega, g1⟩, by simp only; omega, [.id 0, .id 1, .id 2, .id 3, .id 9, .id 11], by simp only [g2, lkS, show o' ++ ((j : Int) :: junk) = o' ++ [(j : Int)] ++ junk from by simp]; (refine ⟨by kernel_rfl, ?_, ?_⟩ <;> repeat first | exact okTms_nil | refine okTms_cons ?_ ?_ | exact okBlks_nil | refine okBlks_cons ?_ ?_ | exact lws_nil | refine lws_cons ?_ ?_ | exact lb_dead | exact zy1 | exact zy2 | exact lb_none | refine zy3 ?_ | exact zy4 | exact lw_any | exact lw_int | exact lw_bool | exact zy5 | exact zy6 | exact lw_nils | exact lw_slo_nils | exact zy7 | exact zy8 | exact zy9 | refine lw_tup ?_ | refine lw_agg ?_ | assumption)⟩
        · simp only [show xcm .eql L[j].op 18 = false from f_eql eb, wd_not_f]
          have hst : (stp L i L[i] (⟨(o' ++ [(j : Int)]), r, m⟩ : PS)).1 = 12 := by rw [stp, if_neg hmn, if_neg e1, if_neg e2, if_neg e3, if_pos e4, show inm (o' ++ [(j : Int)]) = (j : Int) from inm_snoc o' _, if_neg (show ¬ beg L (j : Int) 18 from fun q => eb (ob.symm.trans q.2))]
          (with_reducible repeat first | refine zq1 ?_ | refine zq2 ?_ | refine zq3 ?_ | refine zq4 ?_ | refine zq5 ?_ | refine zq6 ?_ | refine zq7 ?_ | refine zq8 ?_ | refine zq9 ?_ | refine zqa ?_ | refine zqb ?_ | refine zqc ?_ | refine zqd ?_ | refine zqe ?_ | refine zqf ?_ | refine zqg ?_ | refine zqh ?_ | refine zqi ?_ | refine zqj ?_ | refine zqk ?_ | refine zql ?_ | refine zqm ?_ | refine zqn ?_ | refine zqo ?_ | refine zqp ?_)
          exact ⟨trivial, rfl, _, _, [.id 0], hq 12 hst (by decide), by (refine ⟨by kernel_rfl, ?_, ?_⟩ <;> repeat first | exact okTms_nil | refine okTms_cons ?_ ?_ | exact okBlks_nil | refine okBlks_cons ?_ ?_ | exact lws_nil | refine lws_cons ?_ ?_ | exact lb_dead | exact zy1 | exact zy2 | exact lb_none | refine zy3 ?_ | exact zy4 | exact lw_any | exact lw_int | exact lw_bool | exact zy5 | exact zy6 | exact lw_nils | exact lw_slo_nils | exact zy7 | exact zy8 | exact zy9 | refine lw_tup ?_ | refine lw_agg ?_ | assumption)⟩
      by_cases e6 : L[i].op = 18
      · by_cases eb : L[j].op = 17
        · simp only [show xcm .eql L[j].op 17 = true from t_eql eb, wd_not_t]
          have hst : stp L i L[i] (⟨(o' ++ [(j : Int)]), r, m⟩ : PS) = (0, ⟨o' ++ [(i : Int)], r ++ [(j : Int)], (m ++ [-1]).set j i⟩) := by rw [stp, if_neg hmn, if_neg e1, if_neg e2, if_neg e3, if_neg e4, if_pos e6, show inm (o' ++ [(j : Int)]) = (j : Int) from inm_snoc o' _, if_pos (show beg L (j : Int) 17 from ⟨by omega, ob.trans eb⟩)]; rw [List.dropLast_concat]; rfl
          obtain ⟨g1, g2⟩ := hn _ hst
          (with_reducible repeat first | refine zq1 ?_ | refine zq2 ?_ | refine zq3 ?_ | refine zq4 ?_ | refine zq5 ?_ | refine zq6 ?_ | refine zq7 ?_ | refine zq8 ?_ | refine zq9 ?_ | refine zqa ?_ | refine zqb ?_ | refine zqc ?_ | refine zqd ?_ | refine zqe ?_ | refine zqf ?_ | refine zqg ?_ | refine zqh ?_ | refine zqi ?_ | refine zqj ?_ | refine zqk ?_ | refine zql ?_ | refine zqm ?_ | refine zqn ?_ | refine zqo ?_ | refine zqp ?_)
          exact ⟨rfl, ⟨(i + 1, []), by simp only; omega, g1⟩, by simp only; omega, [.id 0, .id 1, .id 2, .id 13, .id 9, .id 11], by simp only [g2, lkS, List.append_nil, List.length_append, List.length_singleton]; (refine ⟨by kernel_rfl, ?_, ?_⟩ <;> repeat first | exact okTms_nil | refine okTms_cons ?_ ?_ | exact okBlks_nil | refine okBlks_cons ?_ ?_ | exact lws_nil | refine lws_cons ?_ ?_ | exact lb_dead | exact zy1 | exact zy2 | exact lb_none | refine zy3 ?_ | exact zy4 | exact lw_any | exact lw_int | exact lw_bool | exact zy5 | exact zy6 | exact lw_nils | exact lw_slo_nils | exact zy7 | exact zy8 | exact zy9 | refine lw_tup ?_ | refine lw_agg ?_ | assumption)⟩
        · simp only [show xcm .eql L[j].op 17 = false from f_eql eb, wd_not_f]
          have hst : (stp L i L[i] (⟨(o' ++ [(j : Int)]), r, m⟩ : PS)).1 = 12 := by rw [stp, if_neg hmn, if_neg e1, if_neg e2, if_neg e3, if_neg e4, if_pos e6, show inm (o' ++ [(j : Int)]) = (j : Int) from inm_snoc o' _, if_neg (show ¬ beg L (j : Int) 17 from fun q => eb (ob.symm.trans q.2))]
          (with_reducible repeat first | refine zq1 ?_ | refine zq2 ?_ | refine zq3 ?_ | refine zq4 ?_ | refine zq5 ?_ | refine zq6 ?_ | refine zq7 ?_ | refine zq8 ?_ | refine zq9 ?_ | refine zqa ?_ | refine zqb ?_ | refine zqc ?_ | refine zqd ?_ | refine zqe ?_ | refine zqf ?_ | refine zqg ?_ | refine zqh ?_ | refine zqi ?_ | refine zqj ?_ | refine zqk ?_ | refine zql ?_ | refine zqm ?_ | refine zqn ?_ | refine zqo ?_ | refine zqp ?_)
          exact ⟨trivial, rfl, _, _, [.id 0], hq 12 hst (by decide), by (refine ⟨by kernel_rfl, ?_, ?_⟩ <;> repeat first | exact okTms_nil | refine okTms_cons ?_ ?_ | exact okBlks_nil | refine okBlks_cons ?_ ?_ | exact lws_nil | refine lws_cons ?_ ?_ | exact lb_dead | exact zy1 | exact zy2 | exact lb_none | refine zy3 ?_ | exact zy4 | exact lw_any | exact lw_int | exact lw_bool | exact zy5 | exact zy6 | exact lw_nils | exact lw_slo_nils | exact zy7 | exact zy8 | exact zy9 | refine lw_tup ?_ | refine lw_agg ?_ | assumption)⟩
      have hst : stp L i L[i] (⟨(o' ++ [(j : Int)]), r, m⟩ : PS) = (0, ⟨(o' ++ [(j : Int)]), r ++ [(j : Int)], m ++ [-1]⟩) := by rw [stp, if_neg hmn, if_neg e1, if_neg e2, if_neg e3, if_neg e4, if_neg e6, show inm (o' ++ [(j : Int)]) = (j : Int) from inm_snoc o' _]
      obtain ⟨g1, g2⟩ := hn _ hst
      (with_reducible repeat first | refine zq1 ?_ | refine zq2 ?_ | refine zq3 ?_ | refine zq4 ?_ | refine zq5 ?_ | refine zq6 ?_ | refine zq7 ?_ | refine zq8 ?_ | refine zq9 ?_ | refine zqa ?_ | refine zqb ?_ | refine zqc ?_ | refine zqd ?_ | refine zqe ?_ | refine zqf ?_ | refine zqg ?_ | refine zqh ?_ | refine zqi ?_ | refine zqj ?_ | refine zqk ?_ | refine zql ?_ | refine zqm ?_ | refine zqn ?_ | refine zqo ?_ | refine zqp ?_)
      exact ⟨rfl, ⟨(i + 1, junk), by simp only; omega, g1⟩, by simp only; omega, [.id 0, .id 1, .id 2, .id 3, .id 9, .id 11], by simp only [g2, lkS, List.length_append, List.length_singleton]; (refine ⟨by kernel_rfl, ?_, ?_⟩ <;> repeat first | exact okTms_nil | refine okTms_cons ?_ ?_ | exact okBlks_nil | refine okBlks_cons ?_ ?_ | exact lws_nil | refine lws_cons ?_ ?_ | exact lb_dead | exact zy1 | exact zy2 | exact lb_none | refine zy3 ?_ | exact zy4 | exact lw_any | exact lw_int | exact lw_bool | exact zy5 | exact zy6 | exact lw_nils | exact lw_slo_nils | exact zy7 | exact zy8 | exact zy9 | refine lw_tup ?_ | refine lw_agg ?_ | assumption)⟩
  · obtain rfl : i = L.length := by omega
    show xcode _ _ _ _ _ _ (mkS (lkS L (goS L L.length).2.2 L.length junk) gtab) _
    have n1 := nI ((goS L L.length).2.2.o ++ junk)
    have n2 := nI (goS L L.length).2.2.r
    have n3 := nI (goS L L.length).2.2.m
    dsimp only
    rw [lk_b]; simp only [lk_b_b1, lk_b_b2, lk_b_b3, lk_b_b4, lk_b_b5, lk_b_b6]
    (with_reducible repeat first | refine zq1 ?_ | refine zq2 ?_ | refine zq3 ?_ | refine zq4 ?_ | refine zq5 ?_ | refine zq6 ?_ | refine zq7 ?_ | refine zq8 ?_ | refine zq9 ?_ | refine zqa ?_ | refine zqb ?_ | refine zqc ?_ | refine zqd ?_ | refine zqe ?_ | refine zqf ?_ | refine zqg ?_ | refine zqh ?_ | refine zqi ?_ | refine zqj ?_ | refine zqk ?_ | refine zql ?_ | refine zqm ?_ | refine zqn ?_ | refine zqo ?_ | refine zqp ?_)
    exact ⟨rfl, el h0 junk, [.id 0, .id 1, .id 2, .id 3, .id 4, .id 5], by rw [hT, hH]; (refine ⟨by kernel_rfl, ?_, ?_⟩ <;> repeat first | exact okTms_nil | refine okTms_cons ?_ ?_ | exact okBlks_nil | refine okBlks_cons ?_ ?_ | exact lws_nil | refine lws_cons ?_ ?_ | exact lb_dead | exact zy1 | exact zy2 | exact lb_none | refine zy3 ?_ | exact zy4 | exact lw_any | exact lw_int | exact lw_bool | exact zy5 | exact zy6 | exact lw_nils | exact lw_slo_nils | exact zy7 | exact zy8 | exact zy9 | refine lw_tup ?_ | refine lw_agg ?_ | assumption)⟩
end
end Go.Lev
