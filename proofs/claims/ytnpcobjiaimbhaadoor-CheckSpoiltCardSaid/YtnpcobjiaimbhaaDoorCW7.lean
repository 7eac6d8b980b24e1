/- CheckTells: the reference's Check, shown -/
import Derived.Test.YtnpcobjiaimbhaaDoorCW6
import Derived.Test.YtnpcobjiaimbhaaDoorLc
import Derived.Test.YtnpcobjiaimbhaaDoorChecked
import Derived.KernelRfl

namespace Go.Lev
open Go.RowKit
set_option linter.unusedVariables false
set_option linter.unusedSimpArgs false
set_option maxRecDepth 100000
noncomputable section
theorem ckR_ok : CtrOk Go.Proofs.Tryd.prog (ctrOf ckR) := cxl_ok ⟨rmayG_ok, trivial⟩
abbrev sE : Int × Int → List LV := cII .i64 .i64
def P2 (L : List InsR) (o : List Int) : List (Int × Int) := o.map fun x => (x, opAt L x)
theorem sE_n (xs : List (Int × Int)) : (encL sE xs).length = xs.length * 2 := encL_length (f := sE) (w := 2) (fun _ => rfl) xs
theorem P2_len (L : List InsR) (o : List Int) : (P2 L o).length = o.length := by simp [P2]
theorem P2_app (L : List InsR) (o p : List Int) : P2 L (o ++ p) = P2 L o ++ P2 L p := by simp [P2]
theorem stk_e (L : List InsR) (o' : List Int) (j : Int) (junk : List (Int × Int)) : (P2 L (o' ++ [j]) ++ junk)[o'.length]? = some (j, opAt L j) := by
  rw [P2_app, List.append_assoc, List.getElem?_append_right (by rw [P2_len]; omega), P2_len, Nat.sub_self]; rfl
theorem stk_0 (L : List InsR) (o' : List Int) (j : Int) (junk : List (Int × Int)) : nthD (encL sE (P2 L (o' ++ [j]) ++ junk)) (o'.length * 2) = .int .i64 j := by
  obtain ⟨h, e⟩ := List.getElem?_eq_some_iff.1 (stk_e L o' j junk)
  have := encL_nth (f := sE) (w := 2) (fun _ => rfl) (j := 0) h (by omega)
  rw [Nat.add_zero, e] at this; exact this
theorem stk_1 (L : List InsR) (o' : List Int) (j : Int) (junk : List (Int × Int)) : nthD (encL sE (P2 L (o' ++ [j]) ++ junk)) (o'.length * 2 + 1) = .int .i64 (opAt L j) := by
  obtain ⟨h, e⟩ := List.getElem?_eq_some_iff.1 (stk_e L o' j junk)
  have := encL_nth (f := sE) (w := 2) (fun _ => rfl) (j := 1) h (by omega)
  rw [e] at this; exact this
theorem stk_push (L : List InsR) (o : List Int) (i : Int) (junk : List (Int × Int)) {op : Int} (ho : opAt L i = op) : xcat (xcut (encL sE (P2 L o ++ junk)) 0 (o.length * 2)) [.int .i64 i, .int .i64 op] = encL sE (P2 L (o ++ [i]) ++ []) := by
  rw [encL_append, xcut, List.drop_zero, List.take_append_of_le_length (by rw [sE_n, P2_len]; omega), List.take_of_length_le (by rw [sE_n, P2_len]; omega), List.append_nil, P2_app, encL_append, ← ho]; rfl
theorem stk_set (L : List InsR) (o' : List Int) (j i : Int) (junk : List (Int × Int)) {op : Int} (ho : opAt L i = op) : xlay (encL sE (P2 L (o' ++ [j]) ++ junk)) (o'.length * 2) [.int .i64 i, .int .i64 op] = encL sE (P2 L (o' ++ [i]) ++ junk) := by
  have e := encL_set (f := sE) (w := 2) (fun _ => rfl) (P2 L (o' ++ [j]) ++ junk) o'.length (i, op) (by simp [P2_len]; omega)
  rw [show (P2 L (o' ++ [j]) ++ junk).set o'.length (i, op) = P2 L (o' ++ [i]) ++ junk from by
    rw [P2_app, P2_app, List.append_assoc, List.append_assoc, List.set_append_right _ _ (by rw [P2_len]; omega), P2_len, Nat.sub_self, ← ho]; rfl] at e
  exact e
theorem stk_pop (L : List InsR) (o' : List Int) (j : Int) (junk : List (Int × Int)) : P2 L (o' ++ [j]) ++ junk = P2 L o' ++ ((j, opAt L j) :: junk) := by simp [P2]
def zr (n : Nat) (r : List Int) : List Int := r ++ List.replicate (n - r.length) 0
theorem zr_len {n : Nat} {r : List Int} (h : r.length ≤ n) : (zr n r).length = n := by simp [zr]; omega
theorem zr_push {n : Nat} {r : List Int} (h : r.length < n) (x : Int) : (zr n r).set r.length x = zr n (r ++ [x]) := by
  obtain ⟨m, hm⟩ : ∃ m, n - r.length = m + 1 := ⟨n - r.length - 1, by omega⟩
  rw [zr, zr, List.set_append_right _ _ (Nat.le_refl _), Nat.sub_self, hm, List.replicate_succ, List.set_cons_zero, List.length_append, List.length_singleton, show n - (r.length + 1) = m by omega, List.append_assoc]; rfl
theorem zr_set {n : Nat} {m : List Int} {j : Nat} (h : j < m.length) (x : Int) : (zr n m).set j x = zr n (m.set j x) := by
  rw [zr, zr, List.set_append_left _ _ h, List.length_set]
theorem zr_full {n : Nat} {r : List Int} (h : r.length = n) : zr n r = r := by simp [zr, h]
theorem rep_I : ∀ n : Nat, xrep n [.int .i64 0] = encL (cI .i64) (List.replicate n 0)
  | 0 => rfl
  | n + 1 => by rw [List.replicate_succ]; show [LV.int .i64 0] ++ xrep n _ = cI .i64 0 ++ encL (cI .i64) _; rw [rep_I n]; rfl
/-- What the inmost part's word in the stack is. -/
def tp (L : List InsR) (o : List Int) : Int := if o = [] then 0 else opAt L (inm o)
theorem tp_nil (L : List InsR) : tp L [] = 0 := rfl
theorem tp_snoc (L : List InsR) (o' : List Int) (j : Int) : tp L (o' ++ [j]) = opAt L j := by rw [tp, if_neg (by simp), inm_snoc]
theorem tp_beg {L : List InsR} {o : List Int} {k : Int} (oo : ∀ x ∈ o, 0 ≤ x) (hk : k ≠ 0) : tp L o = k ↔ beg L (inm o) k := by
  rcases List.eq_nil_or_concat o with rfl | ⟨o', x, rfl⟩
  · rw [tp_nil]; exact ⟨fun h => absurd h.symm hk, fun h => absurd rfl h.1⟩
  · rw [List.concat_eq_append, tp_snoc, inm_snoc]
    have := oo x (by simp)
    exact ⟨fun h => ⟨by omega, h⟩, fun h => h.2⟩
/-- What the reference answers. -/
def rchkQ (L : List InsR) (l : LV) (bs : List LB) : Prop :=
  if (chk L).2.1 = 0 then l = .tup [.int .i64 0, .int .i64 0, .slo 1 0 L.length 0, .slo 2 0 L.length 0] ∧ bs = [.ro (encL insE L), .cells (encL (cI .i64) (chk L).2.2.1) (some 1), .cells (encL (cI .i64) (chk L).2.2.2) (some 1)]
  else l = .tup [.int .i64 (chk L).1, .int .i64 (chk L).2.1, .nils, .nils] ∧ bs = [.ro (encL insE L)]
theorem rchkQ_err {L : List InsR} {a e : Int} (h : (chk L).1 = a ∧ (chk L).2.1 = e) (he : e ≠ 0) : rchkQ L (.tup [.int .i64 a, .int .i64 e, .nils, .nils]) [.ro (encL insE L)] := by
  rw [rchkQ, if_neg (by rw [h.2]; exact he), h.1, h.2]; exact ⟨rfl, rfl⟩
abbrev Q5 (L : List InsR) := {p : Nat × List (Int × Int) // p.1 ≤ L.length ∧ (goS L p.1).1 = 0}
abbrev rkS (L : List InsR) (s : PS) (junk : List (Int × Int)) : List LB := rkH L.length (encL insE L) (encL sE (P2 L s.o ++ junk)) (encL (cI .i64) (zr L.length s.r)) (encL (cI .i64) (zr L.length s.m))
abbrev rkJ (L : List InsR) (s : PS) (junk : List (Int × Int)) (x y : Int) : List LB := rkI L.length x y (encL insE L) (encL sE (P2 L s.o ++ junk)) (encL (cI .i64) (zr L.length s.r)) (encL (cI .i64) (zr L.length s.m))
def fok (op y : Int) : Prop := (op = 15 → y = 14) ∧ (op = 18 → y = 17) ∧ (op = 19 → y = 18) ∧ (op = 16 → y = 14)
set_option maxHeartbeats 8000000 in
theorem ref_loop (L : List InsR) (h40 : ¬ (L.length = 0 ∨ 40 < L.length)) (a : Q5 L) {σ : Type} (T2 : σ → List (Nat × LV)) (H2 : σ → List LB) (el : (goS L L.length).1 = 0 → List (Int × Int) → σ)
    (hT : ∀ h j, T2 (el h j) = rkT2 L.length (goS L L.length).2.2.o.length) (hH : ∀ h j, H2 (el h j) = rkS L (goS L L.length).2.2 j) : SCode Go.Proofs.Tryd.prog 227 (nthC (sp Go.Proofs.Tryd.prog 16) 6) 1 (mkTm 227 (rkT L.length (goS L a.1.1).2.2.o.length a.1.1)) (mkS (rkS L (goS L a.1.1).2.2 a.1.2)) (vK rkL2 (toK 1 227 rkL2 [] T2 H2 (endK 1 [2, 3, 4, 5] rkL2 [] (rchkQ L)))) := by
  refine SCode.loop_sp 0 (by kernel_rfl) (σ := Q5 L) (fun p => rkT L.length (goS L p.1.1).2.2.o.length p.1.1) (fun p => rkS L (goS L p.1.1).2.2 p.1.2) (fun p => L.length - p.1.1) (fun _ => Nat.le_of_ble_eq_true rfl) (fun ⟨⟨i, junk⟩, hi, h0⟩ => ?_) a
  have hI := goS_inv L i hi h0
  have nls : noIds (encL insE L) = true := ins_noids L
  have nI : ∀ l : List Int, noIds (encL (cI .i64) l) = true := fun l => noIds_Ii64 l
  have nS : ∀ l : List (Int × Int), noIds (encL sE l) = true := fun l => noIds_encL (fun _ => rfl) l
  have hq : ∀ (hlt : i < L.length) (e : Int), (stp L i L[i] (goS L i).2.2).1 = e → e ≠ 0 → rchkQ L (.tup [.int .i64 (i : Int), .int .i64 e, .nils, .nils]) [.ro (encL insE L)] := fun hlt e he hne => rchkQ_err (chk_step h40 (goS_err hlt h0 he hne) hne) hne
  have hn : ∀ (hlt : i < L.length) s', stp L i L[i] (goS L i).2.2 = (0, s') → (goS L (i + 1)).1 = 0 ∧ (goS L (i + 1)).2.2 = s' := fun hlt s' he => by rw [goS_next hlt h0, he]; exact ⟨rfl, rfl⟩
  dsimp only
  refine SSp.to ckR_ok (n := 60) (g := []) 2 2 rfl (σ := {_k : Unit // i < L.length}) (fun _ => rkT L.length (goS L i).2.2.o.length i) (fun _ => rkS L (goS L i).2.2 junk) (mkS_le (Nat.le_of_ble_eq_true rfl)) (by kernel_rfl) ?_ fun ⟨_, hlt⟩ => ?_
  · have n0 := nS (P2 L (goS L i).2.2.o ++ junk)
    have n1 := nI (zr L.length (goS L i).2.2.r)
    have n2 := nI (zr L.length (goS L i).2.2.m)
    rw [rb_h]
    by_cases hlt : i < L.length
    · (with_reducible repeat first | refine zq1 ?_ | refine zq2 ?_ | refine zq3 ?_ | refine zq4 ?_ | refine zq5 ?_ | refine zq6 ?_ | refine zq7 ?_ | refine zq8 ?_ | refine zq9 ?_ | refine zqa ?_ | refine zqb ?_ | refine zqc ?_ | refine zqd ?_ | refine zqe ?_ | refine zqf ?_ | refine zqg ?_ | refine zqh ?_ | refine zqi ?_ | refine zqj ?_ | refine zqk ?_ | refine zql ?_ | refine zqm ?_ | refine zqn ?_ | refine zqo ?_ | refine zqp ?_)
      exact ⟨rfl, ⟨(), hlt⟩, [.id 0, .id 1, .id 2, .id 3, .id 4], by (refine ⟨by kernel_rfl, ?_, ?_⟩ <;> repeat first | exact okTms_nil | refine okTms_cons ?_ ?_ | exact okBlks_nil | refine okBlks_cons ?_ ?_ | exact lws_nil | refine lws_cons ?_ ?_ | exact lb_dead | exact zy1 | exact zy2 | exact lb_none | refine zy3 ?_ | exact zy4 | exact lw_any | exact lw_int | exact lw_bool | exact zy5 | exact zy6 | exact lw_nils | exact lw_slo_nils | exact zy7 | exact zy8 | exact zy9 | refine lw_tup ?_ | refine lw_agg ?_ | assumption)⟩
    · obtain rfl : i = L.length := by omega
      (with_reducible repeat first | refine zq1 ?_ | refine zq2 ?_ | refine zq3 ?_ | refine zq4 ?_ | refine zq5 ?_ | refine zq6 ?_ | refine zq7 ?_ | refine zq8 ?_ | refine zq9 ?_ | refine zqa ?_ | refine zqb ?_ | refine zqc ?_ | refine zqd ?_ | refine zqe ?_ | refine zqf ?_ | refine zqg ?_ | refine zqh ?_ | refine zqi ?_ | refine zqj ?_ | refine zqk ?_ | refine zql ?_ | refine zqm ?_ | refine zqn ?_ | refine zqo ?_ | refine zqp ?_)
      exact ⟨rfl, el h0 junk, [.id 0, .id 1, .id 2, .id 3, .id 4], by rw [hT, hH]; (refine ⟨by kernel_rfl, ?_, ?_⟩ <;> repeat first | exact okTms_nil | refine okTms_cons ?_ ?_ | exact okBlks_nil | refine okBlks_cons ?_ ?_ | exact lws_nil | refine lws_cons ?_ ?_ | exact lb_dead | exact zy1 | exact zy2 | exact lb_none | refine zy3 ?_ | exact zy4 | exact lw_any | exact lw_int | exact lw_bool | exact zy5 | exact zy6 | exact lw_nils | exact lw_slo_nils | exact zy7 | exact zy8 | exact zy9 | refine lw_tup ?_ | refine lw_agg ?_ | assumption)⟩
  refine SSp.code_to (g := []) 3 rfl (σ := {j : List (Int × Int) // (goS L (i + 1)).1 = 0}) (fun _ => rkT L.length (goS L (i + 1)).2.2.o.length i) (fun j => rkS L (goS L (i + 1)).2.2 j.1) (by kernel_rfl) ?_ fun ⟨j2, g1⟩ => ?_
  · refine SCode.block_sp 1 (by kernel_rfl) ?_
    have hq := hq hlt
    have hn := hn hlt
    generalize (goS L i).2.2 = s at *
    obtain ⟨o, r, m⟩ := s
    obtain ⟨rl, ml, ol, oo, rr, un, ma⟩ := hI
    dsimp only at rl ml ol oo rr un ma ⊢
    have c0 := ins_0 hlt
    have c1 := ins_1 hlt
    have c2 : nthD (encL insE L) (i * 5 + 1 + 1) = .int .i64 L[i].b := ins_2 hlt
    have c3 : nthD (encL insE L) (i * 5 + 1 + 1 + 1) = .int .i64 L[i].c := ins_3 hlt
    have c4 : nthD (encL insE L) (i * 5 + 1 + 1 + 1 + 1) = .int .u64 L[i].n := ins_4 hlt
    have hoi := opAt_get hlt
    have oo' : ∀ x ∈ o, 0 ≤ x := fun x hx => (oo x hx).1
    have lr : (zr L.length r).length = L.length := zr_len (by omega)
    have lm : (zr L.length m).length = L.length := zr_len (by omega)
    have lm1 : (zr L.length (m ++ [-1])).length = L.length := zr_len (by simp; omega)
    have pr : xlay (encL (cI .i64) (zr L.length r)) i [.int .i64 (inm o)] = encL (cI .i64) (zr L.length (r ++ [inm o])) := by rw [setI _ _ _ (by omega), ← rl, zr_push (by omega)]
    have pm : xlay (encL (cI .i64) (zr L.length m)) i [.int .i64 (-1)] = encL (cI .i64) (zr L.length (m ++ [-1])) := by rw [setI _ _ _ (by omega), ← ml, zr_push (by omega)]
    have n0 := nS (P2 L o ++ junk)
    have n1 := nI (zr L.length r)
    have n2 := nI (zr L.length m)
    have n3 := nI (zr L.length (r ++ [inm o]))
    have n4 := nI (zr L.length (m ++ [-1]))
    -- the inmost part
    refine SSp.to ckR_ok (n := 60) (g := []) 3 3 rfl (σ := Unit) (fun _ => rkA L.length o.length i) (fun _ => rkJ L ⟨o, r, m⟩ junk (inm o) (tp L o)) (mkS_le (Nat.le_of_ble_eq_true rfl)) (by kernel_rfl) ?_ fun _ => ?_
    · show xsp _ _ _ _ _ _ (mkS (rkH L.length (encL insE L) (encL sE (P2 L o ++ junk)) (encL (cI .i64) (zr L.length r)) (encL (cI .i64) (zr L.length m)))) _
      rw [rb_a]
      rcases List.eq_nil_or_concat o with rfl | ⟨o', x, rfl⟩
      · simp only [List.length_nil]
        (with_reducible repeat first | refine zq1 ?_ | refine zq2 ?_ | refine zq3 ?_ | refine zq4 ?_ | refine zq5 ?_ | refine zq6 ?_ | refine zq7 ?_ | refine zq8 ?_ | refine zq9 ?_ | refine zqa ?_ | refine zqb ?_ | refine zqc ?_ | refine zqd ?_ | refine zqe ?_ | refine zqf ?_ | refine zqg ?_ | refine zqh ?_ | refine zqi ?_ | refine zqj ?_ | refine zqk ?_ | refine zql ?_ | refine zqm ?_ | refine zqn ?_ | refine zqo ?_ | refine zqp ?_)
        exact ⟨rfl, (), [.id 0, .id 1, .id 2, .id 3, .id 4, .id 5], by (refine ⟨by kernel_rfl, ?_, ?_⟩ <;> repeat first | exact okTms_nil | refine okTms_cons ?_ ?_ | exact okBlks_nil | refine okBlks_cons ?_ ?_ | exact lws_nil | refine lws_cons ?_ ?_ | exact lb_dead | exact zy1 | exact zy2 | exact lb_none | refine zy3 ?_ | exact zy4 | exact lw_any | exact lw_int | exact lw_bool | exact zy5 | exact zy6 | exact lw_nils | exact lw_slo_nils | exact zy7 | exact zy8 | exact zy9 | refine lw_tup ?_ | refine lw_agg ?_ | assumption)⟩
      · rw [List.concat_eq_append] at *
        have el : (o' ++ [x]).length = o'.length + 1 := by simp
        have sb : xar .sub .i64 ((o'.length + 1 : Nat) : Int) 1 = ((o'.length : Nat) : Int) := by rw [sub_i64 (by omega) (by simp at ol; omega)]; omega
        have e0 := stk_0 L o' x junk
        have e1 := stk_1 L o' x junk
        simp only [wd_nat, wd_asV, wd_isV, wd_ix, wd_add, wd_mul, wd_ln, Nat.zero_add, Nat.mul_one, wd_isI, wd_asI, wd_isB, wd_asB, wd_nn, cI_tlen, cB_tlen, cII_tlen, decide_true, cond_true, wd_not_t, wd_not_f, wd_and_t, wd_and_f, el, sb, e0, e1, sE_n, P2_len, List.length_append, List.length_singleton]
        (with_reducible repeat first | refine zq1 ?_ | refine zq2 ?_ | refine zq3 ?_ | refine zq4 ?_ | refine zq5 ?_ | refine zq6 ?_ | refine zq7 ?_ | refine zq8 ?_ | refine zq9 ?_ | refine zqa ?_ | refine zqb ?_ | refine zqc ?_ | refine zqd ?_ | refine zqe ?_ | refine zqf ?_ | refine zqg ?_ | refine zqh ?_ | refine zqi ?_ | refine zqj ?_ | refine zqk ?_ | refine zql ?_ | refine zqm ?_ | refine zqn ?_ | refine zqo ?_ | refine zqp ?_)
        exact ⟨rfl, (), [.id 0, .id 1, .id 2, .id 3, .id 4, .id 5], by simp only [inm_snoc, tp_snoc, rkJ]; (refine ⟨by kernel_rfl, ?_, ?_⟩ <;> repeat first | exact okTms_nil | refine okTms_cons ?_ ?_ | exact okBlks_nil | refine okBlks_cons ?_ ?_ | exact lws_nil | refine lws_cons ?_ ?_ | exact lb_dead | exact zy1 | exact zy2 | exact lb_none | refine zy3 ?_ | exact zy4 | exact lw_any | exact lw_int | exact lw_bool | exact zy5 | exact zy6 | exact lw_nils | exact lw_slo_nils | exact zy7 | exact zy8 | exact zy9 | refine lw_tup ?_ | refine lw_agg ?_ | assumption)⟩
    -- whether it may be
    refine SSp.to ckR_ok (n := 60) (g := []) 3 6 rfl (σ := {_k : Unit // mayI L[i] = true}) (fun _ => rkA L.length o.length i) (fun _ => rkJ L ⟨o, r ++ [inm o], m ++ [-1]⟩ junk (inm o) (tp L o)) (mkS_le (Nat.le_of_ble_eq_true rfl)) (by kernel_rfl) ?_ fun ⟨_, hm⟩ => ?_
    · show xsp _ _ _ _ _ _ (mkS (rkI L.length (inm o) (tp L o) (encL insE L) (encL sE (P2 L o ++ junk)) (encL (cI .i64) (zr L.length r)) (encL (cI .i64) (zr L.length m)))) _
      rw [rb_b]
      simp only [wd_nat, wd_asV, wd_isV, wd_ix, wd_add, wd_mul, wd_ln, Nat.zero_add, Nat.mul_one, wd_isI, wd_asI, wd_isB, wd_asB, wd_nn, cI_tlen, cB_tlen, cII_tlen, decide_true, cond_true, wd_not_t, wd_not_f, wd_and_t, wd_and_f, c0, c1, c2, c3, c4, ins_n, encIi64_len, lr, lm, pr, pm]
      cases hm : mayI L[i] with
      | false =>
        have hm' : mayW L[i].op L[i].a L[i].b L[i].c L[i].n = false := hm
        have hst : (stp L i L[i] ⟨o, r, m⟩).1 = 8 := by rw [stp, if_pos hm]
        simp only [hm', wd_not_f]
        (with_reducible repeat first | refine zq1 ?_ | refine zq2 ?_ | refine zq3 ?_ | refine zq4 ?_ | refine zq5 ?_ | refine zq6 ?_ | refine zq7 ?_ | refine zq8 ?_ | refine zq9 ?_ | refine zqa ?_ | refine zqb ?_ | refine zqc ?_ | refine zqd ?_ | refine zqe ?_ | refine zqf ?_ | refine zqg ?_ | refine zqh ?_ | refine zqi ?_ | refine zqj ?_ | refine zqk ?_ | refine zql ?_ | refine zqm ?_ | refine zqn ?_ | refine zqo ?_ | refine zqp ?_)
        exact ⟨trivial, rfl, _, _, [.id 0], hq 8 hst (by decide), by (refine ⟨by kernel_rfl, ?_, ?_⟩ <;> repeat first | exact okTms_nil | refine okTms_cons ?_ ?_ | exact okBlks_nil | refine okBlks_cons ?_ ?_ | exact lws_nil | refine lws_cons ?_ ?_ | exact lb_dead | exact zy1 | exact zy2 | exact lb_none | refine zy3 ?_ | exact zy4 | exact lw_any | exact lw_int | exact lw_bool | exact zy5 | exact zy6 | exact lw_nils | exact lw_slo_nils | exact zy7 | exact zy8 | exact zy9 | refine lw_tup ?_ | refine lw_agg ?_ | assumption)⟩
      | true =>
        have hm' : mayW L[i].op L[i].a L[i].b L[i].c L[i].n = true := hm
        simp only [hm', wd_not_t]
        (with_reducible repeat first | refine zq1 ?_ | refine zq2 ?_ | refine zq3 ?_ | refine zq4 ?_ | refine zq5 ?_ | refine zq6 ?_ | refine zq7 ?_ | refine zq8 ?_ | refine zq9 ?_ | refine zqa ?_ | refine zqb ?_ | refine zqc ?_ | refine zqd ?_ | refine zqe ?_ | refine zqf ?_ | refine zqg ?_ | refine zqh ?_ | refine zqi ?_ | refine zqj ?_ | refine zqk ?_ | refine zql ?_ | refine zqm ?_ | refine zqn ?_ | refine zqo ?_ | refine zqp ?_)
        exact ⟨rfl, ⟨(), rfl⟩, [.id 0, .id 1, .id 2, .id 3, .id 4, .id 5], by (refine ⟨by kernel_rfl, ?_, ?_⟩ <;> repeat first | exact okTms_nil | refine okTms_cons ?_ ?_ | exact okBlks_nil | refine okBlks_cons ?_ ?_ | exact lws_nil | refine lws_cons ?_ ?_ | exact lb_dead | exact zy1 | exact zy2 | exact lb_none | refine zy3 ?_ | exact zy4 | exact lw_any | exact lw_int | exact lw_bool | exact zy5 | exact zy6 | exact lw_nils | exact lw_slo_nils | exact zy7 | exact zy8 | exact zy9 | refine lw_tup ?_ | refine lw_agg ?_ | assumption)⟩
    have hmn : ¬ mayI L[i] = false := by rw [hm]; decide
    -- its form
    refine SSp.to ckR_ok (n := 60) (g := []) 3 9 rfl (σ := {_k : Unit // fok L[i].op (tp L o)}) (fun _ => rkB L.length o.length i L[i].op) (fun _ => rkJ L ⟨o, r ++ [inm o], m ++ [-1]⟩ junk (inm o) (tp L o)) (mkS_le (Nat.le_of_ble_eq_true rfl)) (by kernel_rfl) ?_ fun ⟨_, hf⟩ => ?_
    · show xsp _ _ _ _ _ _ (mkS (rkI L.length (inm o) (tp L o) (encL insE L) (encL sE (P2 L o ++ junk)) (encL (cI .i64) (zr L.length (r ++ [inm o]))) (encL (cI .i64) (zr L.length (m ++ [-1]))))) _
      rw [rb_c]
      simp only [wd_nat, wd_asV, wd_isV, wd_ix, wd_add, wd_mul, wd_ln, Nat.zero_add, Nat.mul_one, wd_isI, wd_asI, wd_isB, wd_asB, wd_nn, cI_tlen, cB_tlen, cII_tlen, decide_true, cond_true, wd_not_t, wd_not_f, wd_and_t, wd_and_f, c0, ins_n]
      by_cases e2 : L[i].op = 16
      · by_cases eb : tp L o = 14
        · (with_reducible repeat first | refine zq1 ?_ | refine zq2 ?_ | refine zq3 ?_ | refine zq4 ?_ | refine zq5 ?_ | refine zq6 ?_ | refine zq7 ?_ | refine zq8 ?_ | refine zq9 ?_ | refine zqa ?_ | refine zqb ?_ | refine zqc ?_ | refine zqd ?_ | refine zqe ?_ | refine zqf ?_ | refine zqg ?_ | refine zqh ?_ | refine zqi ?_ | refine zqj ?_ | refine zqk ?_ | refine zql ?_ | refine zqm ?_ | refine zqn ?_ | refine zqo ?_ | refine zqp ?_)
          exact ⟨rfl, ⟨(), by unfold fok; omega⟩, [.id 0, .id 1, .id 2, .id 3, .id 4, .id 5], by (refine ⟨by kernel_rfl, ?_, ?_⟩ <;> repeat first | exact okTms_nil | refine okTms_cons ?_ ?_ | exact okBlks_nil | refine okBlks_cons ?_ ?_ | exact lws_nil | refine lws_cons ?_ ?_ | exact lb_dead | exact zy1 | exact zy2 | exact lb_none | refine zy3 ?_ | exact zy4 | exact lw_any | exact lw_int | exact lw_bool | exact zy5 | exact zy6 | exact lw_nils | exact lw_slo_nils | exact zy7 | exact zy8 | exact zy9 | refine lw_tup ?_ | refine lw_agg ?_ | assumption)⟩
        · have hst : (stp L i L[i] ⟨o, r, m⟩).1 = 12 := by rw [stp, if_neg hmn, if_neg (by omega), if_pos e2, if_neg (fun q => eb ((tp_beg oo' (by decide)).2 q))]
          (with_reducible repeat first | refine zq1 ?_ | refine zq2 ?_ | refine zq3 ?_ | refine zq4 ?_ | refine zq5 ?_ | refine zq6 ?_ | refine zq7 ?_ | refine zq8 ?_ | refine zq9 ?_ | refine zqa ?_ | refine zqb ?_ | refine zqc ?_ | refine zqd ?_ | refine zqe ?_ | refine zqf ?_ | refine zqg ?_ | refine zqh ?_ | refine zqi ?_ | refine zqj ?_ | refine zqk ?_ | refine zql ?_ | refine zqm ?_ | refine zqn ?_ | refine zqo ?_ | refine zqp ?_)
          exact ⟨trivial, rfl, _, _, [.id 0], hq 12 hst (by decide), by (refine ⟨by kernel_rfl, ?_, ?_⟩ <;> repeat first | exact okTms_nil | refine okTms_cons ?_ ?_ | exact okBlks_nil | refine okBlks_cons ?_ ?_ | exact lws_nil | refine lws_cons ?_ ?_ | exact lb_dead | exact zy1 | exact zy2 | exact lb_none | refine zy3 ?_ | exact zy4 | exact lw_any | exact lw_int | exact lw_bool | exact zy5 | exact zy6 | exact lw_nils | exact lw_slo_nils | exact zy7 | exact zy8 | exact zy9 | refine lw_tup ?_ | refine lw_agg ?_ | assumption)⟩
      by_cases e3 : L[i].op = 15
      · by_cases eb : tp L o = 14
        · (with_reducible repeat first | refine zq1 ?_ | refine zq2 ?_ | refine zq3 ?_ | refine zq4 ?_ | refine zq5 ?_ | refine zq6 ?_ | refine zq7 ?_ | refine zq8 ?_ | refine zq9 ?_ | refine zqa ?_ | refine zqb ?_ | refine zqc ?_ | refine zqd ?_ | refine zqe ?_ | refine zqf ?_ | refine zqg ?_ | refine zqh ?_ | refine zqi ?_ | refine zqj ?_ | refine zqk ?_ | refine zql ?_ | refine zqm ?_ | refine zqn ?_ | refine zqo ?_ | refine zqp ?_)
          exact ⟨rfl, ⟨(), by unfold fok; omega⟩, [.id 0, .id 1, .id 2, .id 3, .id 4, .id 5], by (refine ⟨by kernel_rfl, ?_, ?_⟩ <;> repeat first | exact okTms_nil | refine okTms_cons ?_ ?_ | exact okBlks_nil | refine okBlks_cons ?_ ?_ | exact lws_nil | refine lws_cons ?_ ?_ | exact lb_dead | exact zy1 | exact zy2 | exact lb_none | refine zy3 ?_ | exact zy4 | exact lw_any | exact lw_int | exact lw_bool | exact zy5 | exact zy6 | exact lw_nils | exact lw_slo_nils | exact zy7 | exact zy8 | exact zy9 | refine lw_tup ?_ | refine lw_agg ?_ | assumption)⟩
        · have hst : (stp L i L[i] ⟨o, r, m⟩).1 = 12 := by rw [stp, if_neg hmn, if_neg (by omega), if_neg e2, if_pos e3, if_neg (fun q => eb ((tp_beg oo' (by decide)).2 q))]
          (with_reducible repeat first | refine zq1 ?_ | refine zq2 ?_ | refine zq3 ?_ | refine zq4 ?_ | refine zq5 ?_ | refine zq6 ?_ | refine zq7 ?_ | refine zq8 ?_ | refine zq9 ?_ | refine zqa ?_ | refine zqb ?_ | refine zqc ?_ | refine zqd ?_ | refine zqe ?_ | refine zqf ?_ | refine zqg ?_ | refine zqh ?_ | refine zqi ?_ | refine zqj ?_ | refine zqk ?_ | refine zql ?_ | refine zqm ?_ | refine zqn ?_ | refine zqo ?_ | refine zqp ?_)
          exact ⟨trivial, rfl, _, _, [.id 0], hq 12 hst (by decide), by (refine ⟨by kernel_rfl, ?_, ?_⟩ <;> repeat first | exact okTms_nil | refine okTms_cons ?_ ?_ | exact okBlks_nil | refine okBlks_cons ?_ ?_ | exact lws_nil | refine lws_cons ?_ ?_ | exact lb_dead | exact zy1 | exact zy2 | exact lb_none | refine zy3 ?_ | exact zy4 | exact lw_any | exact lw_int | exact lw_bool | exact zy5 | exact zy6 | exact lw_nils | exact lw_slo_nils | exact zy7 | exact zy8 | exact zy9 | refine lw_tup ?_ | refine lw_agg ?_ | assumption)⟩
      by_cases e4 : L[i].op = 19
      · by_cases eb : tp L o = 18
        · (with_reducible repeat first | refine zq1 ?_ | refine zq2 ?_ | refine zq3 ?_ | refine zq4 ?_ | refine zq5 ?_ | refine zq6 ?_ | refine zq7 ?_ | refine zq8 ?_ | refine zq9 ?_ | refine zqa ?_ | refine zqb ?_ | refine zqc ?_ | refine zqd ?_ | refine zqe ?_ | refine zqf ?_ | refine zqg ?_ | refine zqh ?_ | refine zqi ?_ | refine zqj ?_ | refine zqk ?_ | refine zql ?_ | refine zqm ?_ | refine zqn ?_ | refine zqo ?_ | refine zqp ?_)
          exact ⟨rfl, ⟨(), by unfold fok; omega⟩, [.id 0, .id 1, .id 2, .id 3, .id 4, .id 5], by (refine ⟨by kernel_rfl, ?_, ?_⟩ <;> repeat first | exact okTms_nil | refine okTms_cons ?_ ?_ | exact okBlks_nil | refine okBlks_cons ?_ ?_ | exact lws_nil | refine lws_cons ?_ ?_ | exact lb_dead | exact zy1 | exact zy2 | exact lb_none | refine zy3 ?_ | exact zy4 | exact lw_any | exact lw_int | exact lw_bool | exact zy5 | exact zy6 | exact lw_nils | exact lw_slo_nils | exact zy7 | exact zy8 | exact zy9 | refine lw_tup ?_ | refine lw_agg ?_ | assumption)⟩
        · have hst : (stp L i L[i] ⟨o, r, m⟩).1 = 12 := by rw [stp, if_neg hmn, if_neg (by omega), if_neg e2, if_neg e3, if_pos e4, if_neg (fun q => eb ((tp_beg oo' (by decide)).2 q))]
          (with_reducible repeat first | refine zq1 ?_ | refine zq2 ?_ | refine zq3 ?_ | refine zq4 ?_ | refine zq5 ?_ | refine zq6 ?_ | refine zq7 ?_ | refine zq8 ?_ | refine zq9 ?_ | refine zqa ?_ | refine zqb ?_ | refine zqc ?_ | refine zqd ?_ | refine zqe ?_ | refine zqf ?_ | refine zqg ?_ | refine zqh ?_ | refine zqi ?_ | refine zqj ?_ | refine zqk ?_ | refine zql ?_ | refine zqm ?_ | refine zqn ?_ | refine zqo ?_ | refine zqp ?_)
          exact ⟨trivial, rfl, _, _, [.id 0], hq 12 hst (by decide), by (refine ⟨by kernel_rfl, ?_, ?_⟩ <;> repeat first | exact okTms_nil | refine okTms_cons ?_ ?_ | exact okBlks_nil | refine okBlks_cons ?_ ?_ | exact lws_nil | refine lws_cons ?_ ?_ | exact lb_dead | exact zy1 | exact zy2 | exact lb_none | refine zy3 ?_ | exact zy4 | exact lw_any | exact lw_int | exact lw_bool | exact zy5 | exact zy6 | exact lw_nils | exact lw_slo_nils | exact zy7 | exact zy8 | exact zy9 | refine lw_tup ?_ | refine lw_agg ?_ | assumption)⟩
      by_cases e6 : L[i].op = 18
      · by_cases eb : tp L o = 17
        · (with_reducible repeat first | refine zq1 ?_ | refine zq2 ?_ | refine zq3 ?_ | refine zq4 ?_ | refine zq5 ?_ | refine zq6 ?_ | refine zq7 ?_ | refine zq8 ?_ | refine zq9 ?_ | refine zqa ?_ | refine zqb ?_ | refine zqc ?_ | refine zqd ?_ | refine zqe ?_ | refine zqf ?_ | refine zqg ?_ | refine zqh ?_ | refine zqi ?_ | refine zqj ?_ | refine zqk ?_ | refine zql ?_ | refine zqm ?_ | refine zqn ?_ | refine zqo ?_ | refine zqp ?_)
          exact ⟨rfl, ⟨(), by unfold fok; omega⟩, [.id 0, .id 1, .id 2, .id 3, .id 4, .id 5], by (refine ⟨by kernel_rfl, ?_, ?_⟩ <;> repeat first | exact okTms_nil | refine okTms_cons ?_ ?_ | exact okBlks_nil | refine okBlks_cons ?_ ?_ | exact lws_nil | refine lws_cons ?_ ?_ | exact lb_dead | exact zy1 | exact zy2 | exact lb_none | refine zy3 ?_ | exact zy4 | exact lw_any | exact lw_int | exact lw_bool | exact zy5 | exact zy6 | exact lw_nils | exact lw_slo_nils | exact zy7 | exact zy8 | exact zy9 | refine lw_tup ?_ | refine lw_agg ?_ | assumption)⟩
        · have hst : (stp L i L[i] ⟨o, r, m⟩).1 = 12 := by rw [stp, if_neg hmn, if_neg (by omega), if_neg e2, if_neg e3, if_neg e4, if_pos e6, if_neg (fun q => eb ((tp_beg oo' (by decide)).2 q))]
          (with_reducible repeat first | refine zq1 ?_ | refine zq2 ?_ | refine zq3 ?_ | refine zq4 ?_ | refine zq5 ?_ | refine zq6 ?_ | refine zq7 ?_ | refine zq8 ?_ | refine zq9 ?_ | refine zqa ?_ | refine zqb ?_ | refine zqc ?_ | refine zqd ?_ | refine zqe ?_ | refine zqf ?_ | refine zqg ?_ | refine zqh ?_ | refine zqi ?_ | refine zqj ?_ | refine zqk ?_ | refine zql ?_ | refine zqm ?_ | refine zqn ?_ | refine zqo ?_ | refine zqp ?_)
          exact ⟨trivial, rfl, _, _, [.id 0], hq 12 hst (by decide), by (refine ⟨by kernel_rfl, ?_, ?_⟩ <;> repeat first | exact okTms_nil | refine okTms_cons ?_ ?_ | exact okBlks_nil | refine okBlks_cons ?_ ?_ | exact lws_nil | refine lws_cons ?_ ?_ | exact lb_dead | exact zy1 | exact zy2 | exact lb_none | refine zy3 ?_ | exact zy4 | exact lw_any | exact lw_int | exact lw_bool | exact zy5 | exact zy6 | exact lw_nils | exact lw_slo_nils | exact zy7 | exact zy8 | exact zy9 | refine lw_tup ?_ | refine lw_agg ?_ | assumption)⟩
      (with_reducible repeat first | refine zq1 ?_ | refine zq2 ?_ | refine zq3 ?_ | refine zq4 ?_ | refine zq5 ?_ | refine zq6 ?_ | refine zq7 ?_ | refine zq8 ?_ | refine zq9 ?_ | refine zqa ?_ | refine zqb ?_ | refine zqc ?_ | refine zqd ?_ | refine zqe ?_ | refine zqf ?_ | refine zqg ?_ | refine zqh ?_ | refine zqi ?_ | refine zqj ?_ | refine zqk ?_ | refine zql ?_ | refine zqm ?_ | refine zqn ?_ | refine zqo ?_ | refine zqp ?_)
      exact ⟨rfl, ⟨(), by unfold fok; omega⟩, [.id 0, .id 1, .id 2, .id 3, .id 4, .id 5], by (refine ⟨by kernel_rfl, ?_, ?_⟩ <;> repeat first | exact okTms_nil | refine okTms_cons ?_ ?_ | exact okBlks_nil | refine okBlks_cons ?_ ?_ | exact lws_nil | refine lws_cons ?_ ?_ | exact lb_dead | exact zy1 | exact zy2 | exact lb_none | refine zy3 ?_ | exact zy4 | exact lw_any | exact lw_int | exact lw_bool | exact zy5 | exact zy6 | exact lw_nils | exact lw_slo_nils | exact zy7 | exact zy8 | exact zy9 | refine lw_tup ?_ | refine lw_agg ?_ | assumption)⟩
    -- what it does
    refine SSp.last ckR_ok (n := 60) (mkS_le (Nat.le_of_ble_eq_true rfl)) ?_
    show xsp _ _ _ _ _ _ (mkS (rkI L.length (inm o) (tp L o) (encL insE L) (encL sE (P2 L o ++ junk)) (encL (cI .i64) (zr L.length (r ++ [inm o]))) (encL (cI .i64) (zr L.length (m ++ [-1]))))) _
    rw [rb_d]; simp only [rb_d_b1, rb_d_b3]
    have po := stk_push L o (i : Int) junk hoi
    have n5 := nS (P2 L (o ++ [(i : Int)]) ++ [])
    by_cases e1 : L[i].op = 14 ∨ L[i].op = 17
    · by_cases e5 : 5 ≤ o.length
      · have hst : (stp L i L[i] ⟨o, r, m⟩).1 = 9 := by rw [stp, if_neg hmn, if_pos e1, if_pos e5]
        rcases e1 with e1 | e1
        · (with_reducible repeat first | refine zq1 ?_ | refine zq2 ?_ | refine zq3 ?_ | refine zq4 ?_ | refine zq5 ?_ | refine zq6 ?_ | refine zq7 ?_ | refine zq8 ?_ | refine zq9 ?_ | refine zqa ?_ | refine zqb ?_ | refine zqc ?_ | refine zqd ?_ | refine zqe ?_ | refine zqf ?_ | refine zqg ?_ | refine zqh ?_ | refine zqi ?_ | refine zqj ?_ | refine zqk ?_ | refine zql ?_ | refine zqm ?_ | refine zqn ?_ | refine zqo ?_ | refine zqp ?_)
          exact ⟨trivial, rfl, _, _, [.id 0], hq 9 hst (by decide), by (refine ⟨by kernel_rfl, ?_, ?_⟩ <;> repeat first | exact okTms_nil | refine okTms_cons ?_ ?_ | exact okBlks_nil | refine okBlks_cons ?_ ?_ | exact lws_nil | refine lws_cons ?_ ?_ | exact lb_dead | exact zy1 | exact zy2 | exact lb_none | refine zy3 ?_ | exact zy4 | exact lw_any | exact lw_int | exact lw_bool | exact zy5 | exact zy6 | exact lw_nils | exact lw_slo_nils | exact zy7 | exact zy8 | exact zy9 | refine lw_tup ?_ | refine lw_agg ?_ | assumption)⟩
        · (with_reducible repeat first | refine zq1 ?_ | refine zq2 ?_ | refine zq3 ?_ | refine zq4 ?_ | refine zq5 ?_ | refine zq6 ?_ | refine zq7 ?_ | refine zq8 ?_ | refine zq9 ?_ | refine zqa ?_ | refine zqb ?_ | refine zqc ?_ | refine zqd ?_ | refine zqe ?_ | refine zqf ?_ | refine zqg ?_ | refine zqh ?_ | refine zqi ?_ | refine zqj ?_ | refine zqk ?_ | refine zql ?_ | refine zqm ?_ | refine zqn ?_ | refine zqo ?_ | refine zqp ?_)
          exact ⟨trivial, rfl, _, _, [.id 0], hq 9 hst (by decide), by (refine ⟨by kernel_rfl, ?_, ?_⟩ <;> repeat first | exact okTms_nil | refine okTms_cons ?_ ?_ | exact okBlks_nil | refine okBlks_cons ?_ ?_ | exact lws_nil | refine lws_cons ?_ ?_ | exact lb_dead | exact zy1 | exact zy2 | exact lb_none | refine zy3 ?_ | exact zy4 | exact lw_any | exact lw_int | exact lw_bool | exact zy5 | exact zy6 | exact lw_nils | exact lw_slo_nils | exact zy7 | exact zy8 | exact zy9 | refine lw_tup ?_ | refine lw_agg ?_ | assumption)⟩
      · have hst : stp L i L[i] ⟨o, r, m⟩ = (0, ⟨o ++ [(i : Int)], r ++ [inm o], m ++ [-1]⟩) := by rw [stp, if_neg hmn, if_pos e1, if_neg e5]
        obtain ⟨g1, g2⟩ := hn _ hst
        simp only [wd_nat, wd_asV, wd_isV, wd_ix, wd_add, wd_mul, wd_ln, Nat.zero_add, Nat.mul_one, wd_isI, wd_asI, wd_isB, wd_asB, wd_nn, cI_tlen, cB_tlen, cII_tlen, decide_true, cond_true, wd_not_t, wd_not_f, wd_and_t, wd_and_f, sE_n, P2_len, List.length_append, po]
        rcases e1 with e1 | e1
        · (with_reducible repeat first | refine zq1 ?_ | refine zq2 ?_ | refine zq3 ?_ | refine zq4 ?_ | refine zq5 ?_ | refine zq6 ?_ | refine zq7 ?_ | refine zq8 ?_ | refine zq9 ?_ | refine zqa ?_ | refine zqb ?_ | refine zqc ?_ | refine zqd ?_ | refine zqe ?_ | refine zqf ?_ | refine zqg ?_ | refine zqh ?_ | refine zqi ?_ | refine zqj ?_ | refine zqk ?_ | refine zql ?_ | refine zqm ?_ | refine zqn ?_ | refine zqo ?_ | refine zqp ?_)
          exact ⟨rfl, ⟨[], g1⟩, [.id 0, .id 1, .id 7, .id 3, .id 4], by simp only [g2, rkS, List.length_append, List.length_singleton]; (refine ⟨by kernel_rfl, ?_, ?_⟩ <;> repeat first | exact okTms_nil | refine okTms_cons ?_ ?_ | exact okBlks_nil | refine okBlks_cons ?_ ?_ | exact lws_nil | refine lws_cons ?_ ?_ | exact lb_dead | exact zy1 | exact zy2 | exact lb_none | refine zy3 ?_ | exact zy4 | exact lw_any | exact lw_int | exact lw_bool | exact zy5 | exact zy6 | exact lw_nils | exact lw_slo_nils | exact zy7 | exact zy8 | exact zy9 | refine lw_tup ?_ | refine lw_agg ?_ | assumption)⟩
        · (with_reducible repeat first | refine zq1 ?_ | refine zq2 ?_ | refine zq3 ?_ | refine zq4 ?_ | refine zq5 ?_ | refine zq6 ?_ | refine zq7 ?_ | refine zq8 ?_ | refine zq9 ?_ | refine zqa ?_ | refine zqb ?_ | refine zqc ?_ | refine zqd ?_ | refine zqe ?_ | refine zqf ?_ | refine zqg ?_ | refine zqh ?_ | refine zqi ?_ | refine zqj ?_ | refine zqk ?_ | refine zql ?_ | refine zqm ?_ | refine zqn ?_ | refine zqo ?_ | refine zqp ?_)
          exact ⟨rfl, ⟨[], g1⟩, [.id 0, .id 1, .id 7, .id 3, .id 4], by simp only [g2, rkS, List.length_append, List.length_singleton]; (refine ⟨by kernel_rfl, ?_, ?_⟩ <;> repeat first | exact okTms_nil | refine okTms_cons ?_ ?_ | exact okBlks_nil | refine okBlks_cons ?_ ?_ | exact lws_nil | refine lws_cons ?_ ?_ | exact lb_dead | exact zy1 | exact zy2 | exact lb_none | refine zy3 ?_ | exact zy4 | exact lw_any | exact lw_int | exact lw_bool | exact zy5 | exact zy6 | exact lw_nils | exact lw_slo_nils | exact zy7 | exact zy8 | exact zy9 | refine lw_tup ?_ | refine lw_agg ?_ | assumption)⟩
    by_cases e2 : L[i].op = 16
    · have hst : stp L i L[i] ⟨o, r, m⟩ = (0, ⟨o, r ++ [inm o], m ++ [-1]⟩) := by rw [stp, if_neg hmn, if_neg e1, if_pos e2, if_pos ((tp_beg oo' (by decide)).1 (hf.2.2.2 e2))]
      obtain ⟨g1, g2⟩ := hn _ hst
      (with_reducible repeat first | refine zq1 ?_ | refine zq2 ?_ | refine zq3 ?_ | refine zq4 ?_ | refine zq5 ?_ | refine zq6 ?_ | refine zq7 ?_ | refine zq8 ?_ | refine zq9 ?_ | refine zqa ?_ | refine zqb ?_ | refine zqc ?_ | refine zqd ?_ | refine zqe ?_ | refine zqf ?_ | refine zqg ?_ | refine zqh ?_ | refine zqi ?_ | refine zqj ?_ | refine zqk ?_ | refine zql ?_ | refine zqm ?_ | refine zqn ?_ | refine zqo ?_ | refine zqp ?_)
      exact ⟨rfl, ⟨junk, g1⟩, [.id 0, .id 1, .id 2, .id 3, .id 4], by simp only [g2, rkS]; (refine ⟨by kernel_rfl, ?_, ?_⟩ <;> repeat first | exact okTms_nil | refine okTms_cons ?_ ?_ | exact okBlks_nil | refine okBlks_cons ?_ ?_ | exact lws_nil | refine lws_cons ?_ ?_ | exact lb_dead | exact zy1 | exact zy2 | exact lb_none | refine zy3 ?_ | exact zy4 | exact lw_any | exact lw_int | exact lw_bool | exact zy5 | exact zy6 | exact lw_nils | exact lw_slo_nils | exact zy7 | exact zy8 | exact zy9 | refine lw_tup ?_ | refine lw_agg ?_ | assumption)⟩
    have hne : (L[i].op = 15 ∨ L[i].op = 18 ∨ L[i].op = 19) → o ≠ [] := fun q e => by
      rw [e, tp_nil] at hf
      unfold fok at hf; omega
    by_cases e0 : L[i].op = 15 ∨ L[i].op = 18 ∨ L[i].op = 19
    · rcases List.eq_nil_or_concat o with rfl | ⟨o', x, rfl⟩
      · exact absurd rfl (hne e0)
      rw [List.concat_eq_append] at *
      obtain ⟨j, rfl⟩ : ∃ j : Nat, x = (j : Int) := ⟨x.toNat, by have := oo x (by simp); omega⟩
      have hji : j < i := by have := oo (j : Int) (by simp); omega
      have el : (o' ++ [(j : Int)]).length = o'.length + 1 := by simp
      have ol' : o'.length + 1 ≤ 5 := by simpa using ol
      have sb : xar .sub .i64 ((o'.length + 1 : Nat) : Int) 1 = ((o'.length : Nat) : Int) := by rw [sub_i64 (by omega) (by omega)]; omega
      have hb : ∀ k : Int, k ≠ 0 → tp L (o' ++ [(j : Int)]) = k → beg L (inm (o' ++ [(j : Int)])) k := fun k hk e => (tp_beg oo' hk).1 e
      have ps : xlay (encL (cI .i64) (zr L.length (m ++ [-1]))) j [.int .i64 (i : Int)] = encL (cI .i64) (zr L.length ((m ++ [-1]).set j i)) := by rw [setI _ _ _ (by omega), zr_set (by simp; omega)]
      have pt := stk_set L o' (j : Int) (i : Int) junk hoi
      have pp := stk_pop L o' (j : Int) junk
      have n6 := nI (zr L.length ((m ++ [-1]).set j i))
      have n7 := nS (P2 L (o' ++ [(i : Int)]) ++ junk)
      have n8 := nS (P2 L o' ++ ((j : Int), opAt L j) :: junk)
      have hin : inm (o' ++ [(j : Int)]) = (j : Int) := inm_snoc o' _
      rw [hin] at *
      simp only [wd_nat, wd_asV, wd_isV, wd_ix, wd_add, wd_mul, wd_ln, Nat.zero_add, Nat.mul_one, wd_isI, wd_asI, wd_isB, wd_asB, wd_nn, cI_tlen, cB_tlen, cII_tlen, decide_true, cond_true, wd_not_t, wd_not_f, wd_and_t, wd_and_f, el, sb, sE_n, P2_len, encIi64_len, lm1, List.length_append, List.length_singleton, ps, pt, wd_sub, Nat.sub_zero]
      by_cases e3 : L[i].op = 15
      · have hst : stp L i L[i] (⟨o' ++ [(j : Int)], r, m⟩ : PS) = (0, ⟨o', r ++ [(j : Int)], (m ++ [-1]).set j i⟩) := by
          have hbb := hb 14 (by decide) (hf.1 e3)
          rw [stp, if_neg hmn, if_neg e1, if_neg e2, if_pos e3, hin, if_pos hbb, List.dropLast_concat]
          show ((0 : Int), (⟨o', r ++ [inm (o' ++ [(j : Int)])], (m ++ [-1]).set (inm (o' ++ [(j : Int)])).toNat (i : Int)⟩ : PS)) = _
          rw [inm_snoc]; rfl
        obtain ⟨g1, g2⟩ := hn _ hst
        rw [pp]
        (with_reducible repeat first | refine zq1 ?_ | refine zq2 ?_ | refine zq3 ?_ | refine zq4 ?_ | refine zq5 ?_ | refine zq6 ?_ | refine zq7 ?_ | refine zq8 ?_ | refine zq9 ?_ | refine zqa ?_ | refine zqb ?_ | refine zqc ?_ | refine zqd ?_ | refine zqe ?_ | refine zqf ?_ | refine zqg ?_ | refine zqh ?_ | refine zqi ?_ | refine zqj ?_ | refine zqk ?_ | refine zql ?_ | refine zqm ?_ | refine zqn ?_ | refine zqo ?_ | refine zqp ?_)
        exact ⟨rfl, ⟨((j : Int), opAt L j) :: junk, g1⟩, [.id 0, .id 1, .id 2, .id 3, .id 4], by simp only [g2, rkS]; (refine ⟨by kernel_rfl, ?_, ?_⟩ <;> repeat first | exact okTms_nil | refine okTms_cons ?_ ?_ | exact okBlks_nil | refine okBlks_cons ?_ ?_ | exact lws_nil | refine lws_cons ?_ ?_ | exact lb_dead | exact zy1 | exact zy2 | exact lb_none | refine zy3 ?_ | exact zy4 | exact lw_any | exact lw_int | exact lw_bool | exact zy5 | exact zy6 | exact lw_nils | exact lw_slo_nils | exact zy7 | exact zy8 | exact zy9 | refine lw_tup ?_ | refine lw_agg ?_ | assumption)⟩
      by_cases e4 : L[i].op = 19
      · have hst : stp L i L[i] (⟨o' ++ [(j : Int)], r, m⟩ : PS) = (0, ⟨o', r ++ [(j : Int)], (m ++ [-1]).set j i⟩) := by
          have hbb := hb 18 (by decide) (hf.2.2.1 e4)
          rw [stp, if_neg hmn, if_neg e1, if_neg e2, if_neg e3, if_pos e4, hin, if_pos hbb, List.dropLast_concat]
          show ((0 : Int), (⟨o', r ++ [inm (o' ++ [(j : Int)])], (m ++ [-1]).set (inm (o' ++ [(j : Int)])).toNat (i : Int)⟩ : PS)) = _
          rw [inm_snoc]; rfl
        obtain ⟨g1, g2⟩ := hn _ hst
        rw [pp]
        (with_reducible repeat first | refine zq1 ?_ | refine zq2 ?_ | refine zq3 ?_ | refine zq4 ?_ | refine zq5 ?_ | refine zq6 ?_ | refine zq7 ?_ | refine zq8 ?_ | refine zq9 ?_ | refine zqa ?_ | refine zqb ?_ | refine zqc ?_ | refine zqd ?_ | refine zqe ?_ | refine zqf ?_ | refine zqg ?_ | refine zqh ?_ | refine zqi ?_ | refine zqj ?_ | refine zqk ?_ | refine zql ?_ | refine zqm ?_ | refine zqn ?_ | refine zqo ?_ | refine zqp ?_)
        exact ⟨rfl, ⟨((j : Int), opAt L j) :: junk, g1⟩, [.id 0, .id 1, .id 2, .id 3, .id 4], by simp only [g2, rkS]; (refine ⟨by kernel_rfl, ?_, ?_⟩ <;> repeat first | exact okTms_nil | refine okTms_cons ?_ ?_ | exact okBlks_nil | refine okBlks_cons ?_ ?_ | exact lws_nil | refine lws_cons ?_ ?_ | exact lb_dead | exact zy1 | exact zy2 | exact lb_none | refine zy3 ?_ | exact zy4 | exact lw_any | exact lw_int | exact lw_bool | exact zy5 | exact zy6 | exact lw_nils | exact lw_slo_nils | exact zy7 | exact zy8 | exact zy9 | refine lw_tup ?_ | refine lw_agg ?_ | assumption)⟩
      have e6 : L[i].op = 18 := by omega
      have hst : stp L i L[i] (⟨o' ++ [(j : Int)], r, m⟩ : PS) = (0, ⟨o' ++ [(i : Int)], r ++ [(j : Int)], (m ++ [-1]).set j i⟩) := by
        have hbb := hb 17 (by decide) (hf.2.1 e6)
        rw [stp, if_neg hmn, if_neg e1, if_neg e2, if_neg e3, if_neg e4, if_pos e6, hin, if_pos hbb, List.dropLast_concat]
        show ((0 : Int), (⟨o' ++ [(i : Int)], r ++ [inm (o' ++ [(j : Int)])], (m ++ [-1]).set (inm (o' ++ [(j : Int)])).toNat (i : Int)⟩ : PS)) = _
        rw [inm_snoc]; rfl
      obtain ⟨g1, g2⟩ := hn _ hst
      (with_reducible repeat first | refine zq1 ?_ | refine zq2 ?_ | refine zq3 ?_ | refine zq4 ?_ | refine zq5 ?_ | refine zq6 ?_ | refine zq7 ?_ | refine zq8 ?_ | refine zq9 ?_ | refine zqa ?_ | refine zqb ?_ | refine zqc ?_ | refine zqd ?_ | refine zqe ?_ | refine zqf ?_ | refine zqg ?_ | refine zqh ?_ | refine zqi ?_ | refine zqj ?_ | refine zqk ?_ | refine zql ?_ | refine zqm ?_ | refine zqn ?_ | refine zqo ?_ | refine zqp ?_)
      exact ⟨rfl, ⟨junk, g1⟩, [.id 0, .id 1, .id 2, .id 3, .id 4], by simp only [g2, rkS, List.length_append, List.length_singleton]; (refine ⟨by kernel_rfl, ?_, ?_⟩ <;> repeat first | exact okTms_nil | refine okTms_cons ?_ ?_ | exact okBlks_nil | refine okBlks_cons ?_ ?_ | exact lws_nil | refine lws_cons ?_ ?_ | exact lb_dead | exact zy1 | exact zy2 | exact lb_none | refine zy3 ?_ | exact zy4 | exact lw_any | exact lw_int | exact lw_bool | exact zy5 | exact zy6 | exact lw_nils | exact lw_slo_nils | exact zy7 | exact zy8 | exact zy9 | refine lw_tup ?_ | refine lw_agg ?_ | assumption)⟩
    have hst : stp L i L[i] ⟨o, r, m⟩ = (0, ⟨o, r ++ [inm o], m ++ [-1]⟩) := by rw [stp, if_neg hmn, if_neg e1, if_neg e2, if_neg (by omega), if_neg (by omega), if_neg (by omega)]
    obtain ⟨g1, g2⟩ := hn _ hst
    (with_reducible repeat first | refine zq1 ?_ | refine zq2 ?_ | refine zq3 ?_ | refine zq4 ?_ | refine zq5 ?_ | refine zq6 ?_ | refine zq7 ?_ | refine zq8 ?_ | refine zq9 ?_ | refine zqa ?_ | refine zqb ?_ | refine zqc ?_ | refine zqd ?_ | refine zqe ?_ | refine zqf ?_ | refine zqg ?_ | refine zqh ?_ | refine zqi ?_ | refine zqj ?_ | refine zqk ?_ | refine zql ?_ | refine zqm ?_ | refine zqn ?_ | refine zqo ?_ | refine zqp ?_)
    exact ⟨rfl, ⟨junk, g1⟩, [.id 0, .id 1, .id 2, .id 3, .id 4], by simp only [g2, rkS]; (refine ⟨by kernel_rfl, ?_, ?_⟩ <;> repeat first | exact okTms_nil | refine okTms_cons ?_ ?_ | exact okBlks_nil | refine okBlks_cons ?_ ?_ | exact lws_nil | refine lws_cons ?_ ?_ | exact lb_dead | exact zy1 | exact zy2 | exact lb_none | refine zy3 ?_ | exact zy4 | exact lw_any | exact lw_int | exact lw_bool | exact zy5 | exact zy6 | exact lw_nils | exact lw_slo_nils | exact zy7 | exact zy8 | exact zy9 | refine lw_tup ?_ | refine lw_agg ?_ | assumption)⟩
  refine SSp.last ckR_ok (n := 60) (mkS_le (Nat.le_of_ble_eq_true rfl)) ?_
  have n0 := nS (P2 L (goS L (i + 1)).2.2.o ++ j2)
  have n1 := nI (zr L.length (goS L (i + 1)).2.2.r)
  have n2 := nI (zr L.length (goS L (i + 1)).2.2.m)
  rw [rb_n, inc_i64 hlt (by omega)]
  exact ⟨rfl, ⟨(i + 1, j2), hlt, g1⟩, by simp only; omega, [.id 0, .id 1, .id 2, .id 3, .id 4], by (refine ⟨by kernel_rfl, ?_, ?_⟩ <;> repeat first | exact okTms_nil | refine okTms_cons ?_ ?_ | exact okBlks_nil | refine okBlks_cons ?_ ?_ | exact lws_nil | refine lws_cons ?_ ?_ | exact lb_dead | exact zy1 | exact zy2 | exact lb_none | refine zy3 ?_ | exact zy4 | exact lw_any | exact lw_int | exact lw_bool | exact zy5 | exact zy6 | exact lw_nils | exact lw_slo_nils | exact zy7 | exact zy8 | exact zy9 | refine lw_tup ?_ | refine lw_agg ?_ | assumption)⟩
end
end Go.Lev
