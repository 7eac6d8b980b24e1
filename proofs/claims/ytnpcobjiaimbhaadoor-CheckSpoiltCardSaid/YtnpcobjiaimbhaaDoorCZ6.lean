/- CheckSpoilt (P15.1, P15.2): for any draw of a program, any place, any instruction and any way of spoiling it the law returns true; what was there stays as it was. Condition: the listed package-level variables hold what the program's text lays. -/
import Derived.Test.YtnpcobjiaimbhaaDoorCZ5
import Derived.Test.YtnpcobjiaimbhaaDoorLc
import Derived.Test.YtnpcobjiaimbhaaDoorChecked
import Derived.KernelRfl

import Derived.Deep.Slices
import Derived.Deep.Fields
import Derived.ChangeSame
import Derived.ChangeOld
import Derived.OpenShut
import Derived.Lib.SmallJoins
import Derived.Test.YtnpcobjiaimbhaaDoorLc
import Derived.Test.YtnpcobjiaimbhaaDoorRows
namespace Go.Proofs.YtnpcobjiaimbhaaDoor
open Go.ChangeShapes Go.WideShapes Go.ChangeAt Go.RowKit Go.Deep
set_option linter.unusedVariables false
set_option linter.unusedSimpArgs false
theorem agg_open {H : Type} {enc : TypeId × Value → H} {P : Program} {w : World} {r : Reach} {b0 base : Nat} {spare : Nat → Bool} {held : Bool} {t : TypeId} {fs : Array Field} {v : Value} {d : DataW H} {p : List MemPlace} (hs : P.underlying t = some (.struct fs)) (hone : oneCellFields P fs = true) (hC : P.cellsOf t = fs.size)
    (hv : Value.okWide P w r b0 t v) (h : DataW.Trod enc P w base spare held t v d p) :
    ∃ cs : Array Value, v = .agg cs ∧ cs.size = fs.size ∧ ∀ (j : Nat) (f : Field), fs[j]? = some f → ∃ (x : Value) (y : DataW H × List MemPlace) (n : Nat), cs[j]? = some x ∧ DataW.trod enc P w base spare held n f.type [x] = some y := by
  obtain ⟨cs, rfl, hsz⟩ := okWide_struct hs hv
  obtain ⟨fuel, hf⟩ := h
  obtain ⟨ys, n', _, _, hlen, hyl, hg⟩ := DataW.trod_struct hs hf
  refine ⟨cs, rfl, hsz.trans hC, fun j f hj => ?_⟩
  obtain ⟨ho, hk⟩ := hone_of hone j f hj
  have hjl : j < fs.size := (Array.getElem?_eq_some_iff.1 hj).1
  have h1 := hg j f hj
  rw [ho, hk] at h1
  have hcs : cs.size = fs.size := hsz.trans hC
  have hlt : j < cs.toList.length := by simp; omega
  have e1 : ((Value.agg cs).cells.toList.drop j).take 1 = [cs.toList[j]] := by
    show (cs.toList.drop j).take 1 = _
    rw [List.drop_eq_getElem_cons hlt]
    rfl
  have hy : j < ys.length := by omega
  rw [e1, List.getElem?_eq_getElem hy] at h1
  exact ⟨cs.toList[j], _, n', by simp [show j < cs.size by omega], h1⟩
theorem arr5 {cs : Array Value} (h : cs.size = 5) : ∃ a b c d e, cs = #[a, b, c, d, e] := by
  obtain ⟨l⟩ := cs
  match l, h with
  | [a, b, c, d, e], _ => exact ⟨a, b, c, d, e, rfl⟩
end Go.Proofs.YtnpcobjiaimbhaaDoor
namespace Go.Lev
open Go.RowKit
set_option linter.unusedVariables false
set_option linter.unusedSimpArgs false
set_option maxRecDepth 100000
noncomputable section
theorem gL_bd {m : Int} {calm : Bool} {n : Nat} (hm : m ≤ (n : Int)) : ∀ (ks : List KinR) (l : List InsR) (o : List Int), o.length ≤ 5 → l.length + 2 * o.length ≤ n → (gL m calm ks l o).2.length ≤ 5 ∧ (gL m calm ks l o).1.length + 2 * (gL m calm ks l o).2.length ≤ n
  | [], l, o, h1, h2 => ⟨h1, h2⟩
  | x :: r, l, o, h1, h2 => by
    rw [gL]
    split
    · exact ⟨h1, h2⟩
    · have := gst_GI (calm := calm) (x := x) (l := l) (o := o) (n := n) h1 (by omega)
      exact gL_bd hm r _ _ this.1 this.2.1
theorem gC_bd : ∀ (f : Nat) (l : List InsR) (o : List Int), (gC f l o).length ≤ l.length + gwt o
  | 0, l, o => by rw [gC]; omega
  | f + 1, l, o => by
    rw [gC]
    split
    · omega
    · rename_i h
      rcases nil_snoc o with rfl | ⟨o2, y, rfl⟩
      · exact absurd rfl h
      · have h1 := gC_bd f (shS l (o2 ++ [y])).1 (shS l (o2 ++ [y])).2
        have h2 := shS_w (l := l) (o' := o2) (x := y)
        omega
theorem gF_le {ks : List KinR} {m : Int} {calm : Bool} {n : Nat} (hm : m ≤ (n : Int)) (h1 : 1 ≤ n) : (gF ks m calm).length ≤ n := by
  have h2 := gL_bd (calm := calm) hm ks [] [] (by simp) (by simp)
  have h3 := gC_bd 20 (gL m calm ks [] []).1 (gL m calm ks [] []).2
  have h4 := gwt_le (gL m calm ks [] []).2
  unfold gF
  split
  · simpa using h1
  · omega
theorem gN_eq (K : List KinR) (m : Int) (calm : Bool) : gN (encL kinE K) m calm = (gF K m calm).length := by rw [gN, decKin_enc]
theorem gW_eq (K : List KinR) (m : Int) (calm : Bool) : gW (encL kinE K) m calm = encL insE (gF K m calm) := by rw [gW, decKin_enc]
theorem in_eta (x : InsR) : (⟨x.op, x.a, x.b, x.c, x.n⟩ : InsR) = x := rfl
set_option maxHeartbeats 4000000 in
theorem spoilt_fun (KS : List KinR) (hk : KS.length ≤ 9223372036854775807) (at' how xo xa xb xc xn : Int) : SFun Go.Proofs.Tryd.prog 5 [.slo 0 0 KS.length 0, .int .u8 at', .agg [.int .i64 xo, .int .i64 xa, .int .i64 xb, .int .i64 xc, .int .u64 xn], .int .u8 how] (mkS [.ro (encL kinE KS)] gtab) fun l _ => l = .bool true := by
  refine SFun.mono (SFun.pieces (Q := fun l _ => l = .bool true) 96 1 csL [8] (by kernel_rfl) rfl rfl rfl ?_) fun l s' ⟨b0, h1, _⟩ => h1
  have nk : noIds (encL kinE KS) = true := kin_noids KS
  have nP : ∀ P : List InsR, noIds (encL insE P) = true := ins_noids
  have hG1 : 1 ≤ (gF KS 38 false).length := gF_len
  have hG2 : (gF KS 38 false).length ≤ 38 := gF_le (n := 38) (by decide) (by decide)
  have o0 : okKin KS.length (encL kinE KS) 38 = true := okKin_iff.2 ⟨KS, rfl, rfl, hk, by decide⟩
  have ng := nP (gF KS 38 false)
  refine SSp.to cxCS_ok (n := 60) (g := gtab) 10 10 rfl (σ := Int × Int × Int × Int × Int × Int) (fun q => csT how q.1 0 0) (fun q => csH (gF KS 38 false).length (encL kinE KS) (encL insE (gF KS 38 false)) [] q.2.1 q.2.2.1 q.2.2.2.1 q.2.2.2.2.1 q.2.2.2.2.2) (mkS_le (Nat.le_refl _)) (by kernel_rfl) ?_ fun ⟨i, yo, ya, yb, yc, yn⟩ => ?_
  · rw [cs_a]
    simp only [gN_eq, gW_eq]
    generalize gF KS 38 false = G at *
    have o1 : okIns G.length (encL insE G) = true := okIns_iff.2 ⟨G, rfl, rfl, by omega⟩
    have ea : xar .add .i64 (G.length : Int) 1 = (G.length : Int) + 1 := add_i64 (by omega) (by omega)
    rw [ea]
    (with_reducible repeat first | refine zq1 ?_ | refine zq2 ?_ | refine zq3 ?_ | refine zq4 ?_ | refine zq5 ?_ | refine zq6 ?_ | refine zq7 ?_ | refine zq8 ?_ | refine zq9 ?_ | refine zqa ?_ | refine zqb ?_ | refine zqc ?_ | refine zqd ?_ | refine zqe ?_ | refine zqf ?_ | refine zqg ?_ | refine zqh ?_ | refine zqi ?_ | refine zqj ?_ | refine zqk ?_ | refine zql ?_ | refine zqm ?_ | refine zqn ?_ | refine zqo ?_ | refine zqp ?_)
    exact ⟨rfl, (xar .rem .i64 (xwr .i64 at') (G.length : Int), wthV xo 1 23, wthV xa 0 8, 0, wthV xc 0 ((G.length : Int) + 1), 0), [.id 0, .id 1, .id 3, .id 2, .none], by (refine ⟨by kernel_rfl, ?_, ?_⟩ <;> repeat first | exact okTms_nil | refine okTms_cons ?_ ?_ | exact okBlks_nil | refine okBlks_cons ?_ ?_ | exact lws_nil | refine lws_cons ?_ ?_ | exact lb_dead | exact zy1 | exact zy2 | exact lb_none | refine zy3 ?_ | exact zy4 | exact lw_any | exact lw_int | exact lw_bool | exact zy5 | exact zy6 | exact lw_nils | exact lw_slo_nils | exact zy7 | exact zy8 | exact zy9 | refine lw_tup ?_ | refine lw_agg ?_ | assumption)⟩
  generalize gF KS 38 false = G at *
  dsimp only
  refine SSp.code_to (g := gtab) 11 rfl (σ := {P : List InsR // P.length ≤ 1000}) (fun P => csU P.1.length) (fun P => csH G.length (encL kinE KS) (encL insE G) (encL insE P.1) yo ya yb yc yn) (by kernel_rfl) ?_ fun ⟨P, hP⟩ => ?_
  · refine SCode.loop_vc cxCS_ok (n := 60) 0 (by kernel_rfl) (σ := {p : Nat × List InsR // p.1 ≤ G.length ∧ p.2.length ≤ 2 * p.1}) (fun p => csT how i p.1.2.length p.1.1) (fun p => csH G.length (encL kinE KS) (encL insE G) (encL insE p.1.2) yo ya yb yc yn) (fun p => G.length - p.1.1) (fun _ => Nat.le_of_ble_eq_true rfl) (fun ⟨⟨n, P⟩, hn, hP⟩ => ?_) ⟨(0, []), Nat.zero_le _, by simp⟩
    dsimp only at hn hP ⊢
    have n1 := nP P
    rw [cs_b]; simp only [cs_b_b1, cs_b_b2, cs_b_b3, cs_b_b4, cs_b_b5, cs_b_b6]
    by_cases hlt : n < G.length
    · have c0 := ins_0 hlt
      have c1 := ins_1 hlt
      have c2 : nthD (encL insE G) (n * 5 + 1 + 1) = .int .i64 G[n].b := ins_2 hlt
      have c3 : nthD (encL insE G) (n * 5 + 1 + 1 + 1) = .int .i64 G[n].c := ins_3 hlt
      have c4 : nthD (encL insE G) (n * 5 + 1 + 1 + 1 + 1) = .int .u64 G[n].n := ins_4 hlt
      have p1 := kin_push1 P yo ya yb yc yn
      have p2 := kin_push1 P G[n].op G[n].a G[n].b G[n].c G[n].n
      have p3 := kin_push1 (P ++ [⟨yo, ya, yb, yc, yn⟩]) G[n].op G[n].a G[n].b G[n].c G[n].n
      rw [List.length_append, List.length_singleton] at p3
      have n2 := nP (P ++ [⟨yo, ya, yb, yc, yn⟩])
      have n3 := nP (P ++ [⟨G[n].op, G[n].a, G[n].b, G[n].c, G[n].n⟩])
      have n4 := nP (P ++ [⟨yo, ya, yb, yc, yn⟩] ++ [⟨G[n].op, G[n].a, G[n].b, G[n].c, G[n].n⟩])
      simp only [wd_nat, wd_asV, wd_isV, wd_ix, wd_add, wd_mul, wd_ln, Nat.zero_add, Nat.mul_one, wd_isI, wd_asI, wd_isB, wd_asB, wd_nn, cI_tlen, cB_tlen, cII_tlen, decide_true, cond_true, wd_not_t, wd_not_f, wd_and_t, wd_and_f, c0, c1, c2, c3, c4, ins_n, p1, p2, p3, List.length_append, List.length_singleton, inc_i64 hlt (by omega)]
      by_cases hi : (n : Int) = i
      · by_cases h1 : xar .rem .u8 how 3 = 1
        · (with_reducible repeat first | refine zq1 ?_ | refine zq2 ?_ | refine zq3 ?_ | refine zq4 ?_ | refine zq5 ?_ | refine zq6 ?_ | refine zq7 ?_ | refine zq8 ?_ | refine zq9 ?_ | refine zqa ?_ | refine zqb ?_ | refine zqc ?_ | refine zqd ?_ | refine zqe ?_ | refine zqf ?_ | refine zqg ?_ | refine zqh ?_ | refine zqi ?_ | refine zqj ?_ | refine zqk ?_ | refine zql ?_ | refine zqm ?_ | refine zqn ?_ | refine zqo ?_ | refine zqp ?_)
          exact ⟨rfl, ⟨(n + 1, P ++ [⟨yo, ya, yb, yc, yn⟩] ++ [⟨G[n].op, G[n].a, G[n].b, G[n].c, G[n].n⟩]), hlt, by simp; omega⟩, by simp only; omega, [.id 0, .id 1, .id 2, .id 3, .id 8], by simp only [List.length_append, List.length_singleton]; (refine ⟨by kernel_rfl, ?_, ?_⟩ <;> repeat first | exact okTms_nil | refine okTms_cons ?_ ?_ | exact okBlks_nil | refine okBlks_cons ?_ ?_ | exact lws_nil | refine lws_cons ?_ ?_ | exact lb_dead | exact zy1 | exact zy2 | exact lb_none | refine zy3 ?_ | exact zy4 | exact lw_any | exact lw_int | exact lw_bool | exact zy5 | exact zy6 | exact lw_nils | exact lw_slo_nils | exact zy7 | exact zy8 | exact zy9 | refine lw_tup ?_ | refine lw_agg ?_ | assumption)⟩
        · by_cases h0 : xar .rem .u8 how 3 = 0
          · (with_reducible repeat first | refine zq1 ?_ | refine zq2 ?_ | refine zq3 ?_ | refine zq4 ?_ | refine zq5 ?_ | refine zq6 ?_ | refine zq7 ?_ | refine zq8 ?_ | refine zq9 ?_ | refine zqa ?_ | refine zqb ?_ | refine zqc ?_ | refine zqd ?_ | refine zqe ?_ | refine zqf ?_ | refine zqg ?_ | refine zqh ?_ | refine zqi ?_ | refine zqj ?_ | refine zqk ?_ | refine zql ?_ | refine zqm ?_ | refine zqn ?_ | refine zqo ?_ | refine zqp ?_)
            exact ⟨rfl, ⟨(n + 1, P ++ [⟨yo, ya, yb, yc, yn⟩]), hlt, by simp; omega⟩, by simp only; omega, [.id 0, .id 1, .id 2, .id 3, .id 6], by simp only [List.length_append, List.length_singleton]; (refine ⟨by kernel_rfl, ?_, ?_⟩ <;> repeat first | exact okTms_nil | refine okTms_cons ?_ ?_ | exact okBlks_nil | refine okBlks_cons ?_ ?_ | exact lws_nil | refine lws_cons ?_ ?_ | exact lb_dead | exact zy1 | exact zy2 | exact lb_none | refine zy3 ?_ | exact zy4 | exact lw_any | exact lw_int | exact lw_bool | exact zy5 | exact zy6 | exact lw_nils | exact lw_slo_nils | exact zy7 | exact zy8 | exact zy9 | refine lw_tup ?_ | refine lw_agg ?_ | assumption)⟩
          · (with_reducible repeat first | refine zq1 ?_ | refine zq2 ?_ | refine zq3 ?_ | refine zq4 ?_ | refine zq5 ?_ | refine zq6 ?_ | refine zq7 ?_ | refine zq8 ?_ | refine zq9 ?_ | refine zqa ?_ | refine zqb ?_ | refine zqc ?_ | refine zqd ?_ | refine zqe ?_ | refine zqf ?_ | refine zqg ?_ | refine zqh ?_ | refine zqi ?_ | refine zqj ?_ | refine zqk ?_ | refine zql ?_ | refine zqm ?_ | refine zqn ?_ | refine zqo ?_ | refine zqp ?_)
            exact ⟨rfl, ⟨(n + 1, P), hlt, by simp only; omega⟩, by simp only; omega, [.id 0, .id 1, .id 2, .id 3, .id 4], by (refine ⟨by kernel_rfl, ?_, ?_⟩ <;> repeat first | exact okTms_nil | refine okTms_cons ?_ ?_ | exact okBlks_nil | refine okBlks_cons ?_ ?_ | exact lws_nil | refine lws_cons ?_ ?_ | exact lb_dead | exact zy1 | exact zy2 | exact lb_none | refine zy3 ?_ | exact zy4 | exact lw_any | exact lw_int | exact lw_bool | exact zy5 | exact zy6 | exact lw_nils | exact lw_slo_nils | exact zy7 | exact zy8 | exact zy9 | refine lw_tup ?_ | refine lw_agg ?_ | assumption)⟩
      · (with_reducible repeat first | refine zq1 ?_ | refine zq2 ?_ | refine zq3 ?_ | refine zq4 ?_ | refine zq5 ?_ | refine zq6 ?_ | refine zq7 ?_ | refine zq8 ?_ | refine zq9 ?_ | refine zqa ?_ | refine zqb ?_ | refine zqc ?_ | refine zqd ?_ | refine zqe ?_ | refine zqf ?_ | refine zqg ?_ | refine zqh ?_ | refine zqi ?_ | refine zqj ?_ | refine zqk ?_ | refine zql ?_ | refine zqm ?_ | refine zqn ?_ | refine zqo ?_ | refine zqp ?_)
        exact ⟨rfl, ⟨(n + 1, P ++ [⟨G[n].op, G[n].a, G[n].b, G[n].c, G[n].n⟩]), hlt, by simp; omega⟩, by simp only; omega, [.id 0, .id 1, .id 2, .id 3, .id 6], by simp only [List.length_append, List.length_singleton]; (refine ⟨by kernel_rfl, ?_, ?_⟩ <;> repeat first | exact okTms_nil | refine okTms_cons ?_ ?_ | exact okBlks_nil | refine okBlks_cons ?_ ?_ | exact lws_nil | refine lws_cons ?_ ?_ | exact lb_dead | exact zy1 | exact zy2 | exact lb_none | refine zy3 ?_ | exact zy4 | exact lw_any | exact lw_int | exact lw_bool | exact zy5 | exact zy6 | exact lw_nils | exact lw_slo_nils | exact zy7 | exact zy8 | exact zy9 | refine lw_tup ?_ | refine lw_agg ?_ | assumption)⟩
    · (with_reducible repeat first | refine zq1 ?_ | refine zq2 ?_ | refine zq3 ?_ | refine zq4 ?_ | refine zq5 ?_ | refine zq6 ?_ | refine zq7 ?_ | refine zq8 ?_ | refine zq9 ?_ | refine zqa ?_ | refine zqb ?_ | refine zqc ?_ | refine zqd ?_ | refine zqe ?_ | refine zqf ?_ | refine zqg ?_ | refine zqh ?_ | refine zqi ?_ | refine zqj ?_ | refine zqk ?_ | refine zql ?_ | refine zqm ?_ | refine zqn ?_ | refine zqo ?_ | refine zqp ?_)
      exact ⟨rfl, ⟨P, by omega⟩, [.id 0, .id 1, .id 2, .id 3, .id 4], by (refine ⟨by kernel_rfl, ?_, ?_⟩ <;> repeat first | exact okTms_nil | refine okTms_cons ?_ ?_ | exact okBlks_nil | refine okBlks_cons ?_ ?_ | exact lws_nil | refine lws_cons ?_ ?_ | exact lb_dead | exact zy1 | exact zy2 | exact lb_none | refine zy3 ?_ | exact zy4 | exact lw_any | exact lw_int | exact lw_bool | exact zy5 | exact zy6 | exact lw_nils | exact lw_slo_nils | exact zy7 | exact zy8 | exact zy9 | refine lw_tup ?_ | refine lw_agg ?_ | assumption)⟩
  have n1 := nP P
  have o2 : okIns P.length (encL insE P) = true := okIns_iff.2 ⟨P, rfl, rfl, hP⟩
  refine SSp.last cxCS_ok (n := 60) (mkS_le (Nat.le_of_ble_eq_true rfl)) ?_
  rw [cs_z]
  (with_reducible repeat first | refine zq1 ?_ | refine zq2 ?_ | refine zq3 ?_ | refine zq4 ?_ | refine zq5 ?_ | refine zq6 ?_ | refine zq7 ?_ | refine zq8 ?_ | refine zq9 ?_ | refine zqa ?_ | refine zqb ?_ | refine zqc ?_ | refine zqd ?_ | refine zqe ?_ | refine zqf ?_ | refine zqg ?_ | refine zqh ?_ | refine zqi ?_ | refine zqj ?_ | refine zqk ?_ | refine zql ?_ | refine zqm ?_ | refine zqn ?_ | refine zqo ?_ | refine zqp ?_)
  exact ⟨trivial, rfl, .bool true, [.ro _], [.id 0], rfl, by (refine ⟨by kernel_rfl, ?_, ?_⟩ <;> repeat first | exact okTms_nil | refine okTms_cons ?_ ?_ | exact okBlks_nil | refine okBlks_cons ?_ ?_ | exact lws_nil | refine lws_cons ?_ ?_ | exact lb_dead | exact zy1 | exact zy2 | exact lb_none | refine zy3 ?_ | exact zy4 | exact lw_any | exact lw_int | exact lw_bool | exact zy5 | exact zy6 | exact lw_nils | exact lw_slo_nils | exact zy7 | exact zy8 | exact zy9 | refine lw_tup ?_ | refine lw_agg ?_ | assumption)⟩
theorem kin_rowP {H : Type} {enc : TypeId × Value → H} {W : World} {a : Option Addr} {len cap : Nat} {d : DataW H} {ps : List MemPlace} (h : DataW.Trod enc Go.Proofs.Tryd.prog W 0 (fun _ => true) true 39 (.slice a len cap) d ps) :
    ∃ xs : List KinR, xs.length = len ∧ len ≤ 9223372036854775807 ∧ (∀ x ∈ xs, kin_bd x) ∧ RowArg W (.slice a len cap) len (encL kinE xs) := by
  obtain ⟨xs, q1, q2, q3, q4⟩ := row_arg (f := kinE) (ok := kin_bd) kinE_len (by omega) Go.Proofs.Tryd.underlying39 (by kernel_rfl) h fun cs n x hl hx => by
    have hf := fl_ok 8 (l := [(0, .int .i64), (1, .int .i64), (2, .int .i64), (3, .int .i64), (4, .int .u64)]) (by kernel_rfl) hx
    obtain ⟨_, e0, z0, rfl, b0⟩ := hf (0, .int .i64) (by simp)
    obtain ⟨_, e1, z1, rfl, b1⟩ := hf (1, .int .i64) (by simp)
    obtain ⟨_, e2, z2, rfl, b2⟩ := hf (2, .int .i64) (by simp)
    obtain ⟨_, e3, z3, rfl, b3⟩ := hf (3, .int .i64) (by simp)
    obtain ⟨_, e4, z4, rfl, b4⟩ := hf (4, .int .u64) (by simp)
    refine ⟨⟨z0, z1, z2, z3, z4⟩, ⟨b0, b1, b2, b3, b4⟩, fun i l hi => ?_⟩
    match i with
    | 0 => simp at hi; subst hi; exact ⟨rfl, _, e0, by simp only [VR]⟩
    | 1 => simp at hi; subst hi; exact ⟨rfl, _, e1, by simp only [VR]⟩
    | 2 => simp at hi; subst hi; exact ⟨rfl, _, e2, by simp only [VR]⟩
    | 3 => simp at hi; subst hi; exact ⟨rfl, _, e3, by simp only [VR]⟩
    | 4 => simp at hi; subst hi; exact ⟨rfl, _, e4, by simp only [VR]⟩
    | i + 5 => simp at hi
  exact ⟨xs, q1, q2, q3, q4⟩
theorem spoilt_any {H : Type} {enc : TypeId × Value → H} {W : World} (hg : Gl W gtab) {a0 : Option Addr} {len0 cap0 : Nat} {d0 : DataW H} {p0 : List MemPlace} (at' xo xa xb xc xn how : Int) (h0 : DataW.Trod enc Go.Proofs.Tryd.prog W 0 (fun _ => true) true 39 (.slice a0 len0 cap0) d0 p0) :
    Calls Go.Proofs.Tryd.prog 5 #[.slice a0 len0 cap0, .int .u8 at', .agg #[.int .i64 xo, .int .i64 xa, .int .i64 xb, .int .i64 xc, .int .u64 xn], .int .u8 how] W fun e W' => e = .returned (.bool true) ∧ Below W.heap.size W W' := by
  obtain ⟨K, e0, n0, _, r0⟩ := kin_rowP h0
  subst e0
  refine SFun.top (rows := [(.slice a0 K.length cap0, K.length, encL kinE K)]) (g := gtab) (us := [.slice a0 K.length cap0, .int .u8 at', .agg #[.int .i64 xo, .int .i64 xa, .int .i64 xb, .int .i64 xc, .int .u64 xn], .int .u8 how]) ⟨r0, trivial⟩ hg (fun r h => ?_) (spoilt_fun K n0 at' how xo xa xb xc xn)
  simp only [VRs, VR]
  exact ⟨_, _, rfl, h 0 _ _ _ rfl, _, _, rfl, rfl, _, _, rfl, ⟨_, rfl, _, _, rfl, rfl, _, _, rfl, rfl, _, _, rfl, rfl, _, _, rfl, rfl, _, _, rfl, rfl, rfl⟩, _, _, rfl, rfl, rfl⟩
end
end Go.Lev
