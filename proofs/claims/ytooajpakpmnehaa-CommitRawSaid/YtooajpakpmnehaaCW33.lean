/- chapter 25: the reference's look as a contract; trees of its Tell -/
import Derived.Test.YtooajpakpmnehaaCW32
import Derived.Test.YtooajpakpmnehaaLc
import Derived.Test.YtooajpakpmnehaaChecked
import Derived.KernelRfl

namespace Go.Lev
open Go.RowKit
set_option linter.unusedVariables false
set_option linter.unusedSimpArgs false
set_option maxRecDepth 100000
noncomputable section
def lkW (qc cc sc : List LV) (s : CS) : CS := rLook (decC qc) (decC cc).length (decIi64 sc) s

theorem rOut_same (s : CS) (e r b : Int) : (rOut s e r b).tk = s.tk ∧ (rOut s e r b).su = s.su ∧ (rOut s e r b).lk = s.lk ∧ (rOut s e r b).now = s.now := by unfold rOut; split <;> exact ⟨rfl, rfl, rfl, rfl⟩
theorem rWrite_same (nc ns : Nat) (s : CS) : (rWrite nc ns s).tk = s.tk ∧ (rWrite nc ns s).su = s.su ∧ (rWrite nc ns s).lk = s.lk ∧ (rWrite nc ns s).now = s.now := by
  unfold rWrite; split
  · split <;> exact ⟨rfl, rfl, rfl, rfl⟩
  · exact ⟨rfl, rfl, rfl, rfl⟩
theorem rLook_same (qs : List (Int × Int)) (nc : Nat) (ss : List Int) (s : CS) : (rLook qs nc ss s).tk = s.tk ∧ (rLook qs nc ss s).su = s.su ∧ (rLook qs nc ss s).lk = s.lk ∧ (rLook qs nc ss s).now = s.now := by
  have H : ∀ f s, (rLk qs nc ss f s).tk = s.tk ∧ (rLk qs nc ss f s).su = s.su ∧ (rLk qs nc ss f s).lk = s.lk ∧ (rLk qs nc ss f s).now = s.now := by
    intro f
    induction f with
    | zero => exact fun s => rWrite_same _ _ _
    | succ f ih =>
      intro s
      rw [rLk]
      split
      · split
        · split
          · exact rOut_same _ _ _ _
          · obtain ⟨a1, a2, a3, a4⟩ := ih s.step
            exact ⟨a1, a2, a3, a4⟩
        · exact ⟨rfl, rfl, rfl, rfl⟩
      · exact rWrite_same _ _ _
  exact H _ _
theorem look_c (me stm : Int) (nq nc ns nt : Nat) (qc cc sc tc : List LV) (su en bu er lv : Int) (lh : Bool) (lo ph a now ve vb vr : Int) (k1 : okK qc cc sc tc nq nc ns nt = true) (k2 : xnn a = true) (k3 : xcm .eql en 0 = true) (k4 : xcm .eql ph 4 = true) :
    SFun Go.Proofs.Try.prog 61 [.ptr 0 0] (mkS (rEi me stm nq nc ns nt qc cc sc tc su en bu er lv lh lo ph a now ve vb vr)) fun l t => l = .tup [] ∧ t = mkS (rEi me stm nq nc ns nt qc cc sc tc su (kEn (lkW qc cc sc (mkC tc su en bu er lv lh lo ph a now false ve vb vr))) (kBu (lkW qc cc sc (mkC tc su en bu er lv lh lo ph a now false ve vb vr))) (kEr (lkW qc cc sc (mkC tc su en bu er lv lh lo ph a now false ve vb vr))) lv lh lo (kPh (lkW qc cc sc (mkC tc su en bu er lv lh lo ph a now false ve vb vr))) (kAt (lkW qc cc sc (mkC tc su en bu er lv lh lo ph a now false ve vb vr))) now (kVe (lkW qc cc sc (mkC tc su en bu er lv lh lo ph a now false ve vb vr))) (kVb (lkW qc cc sc (mkC tc su en bu er lv lh lo ph a now false ve vb vr))) (kVr (lkW qc cc sc (mkC tc su en bu er lv lh lo ph a now false ve vb vr)))) := by
  obtain ⟨qs, cs, ss, tk, ⟨rfl, rfl, rfl, rfl⟩, ⟨rfl, rfl, rfl, rfl⟩, h1, h2, h3, h4⟩ := okK_iff.1 k1
  rw [wd_nni, decide_eq_true_eq] at k2
  obtain ⟨n, rfl⟩ := Int.eq_ofNat_of_zero_le k2
  have j3 : en = 0 := by simpa [xcm_eql] using k3
  have j4 : ph = 4 := by simpa [xcm_eql] using k4
  have h := look_ok me stm qs cs ss ⟨tk, su, en, bu, er, (lv, lh, lo), ph, n, now, false, ve, vb, vr⟩ h1 h2 h3 h4 j3 j4
  obtain ⟨a1, a2, a3, a4⟩ := rLook_same qs cs.length ss ⟨tk, su, en, bu, er, (lv, lh, lo), ph, n, now, false, ve, vb, vr⟩
  simp only [lkW, mkC_enc, decC_enc, decIi64_enc, kEn, kBu, kEr, kPh, kAt, kVe, kVb, kVr]
  simp only [rES, a1, a2, a3, a4] at h
  exact h
def lookG : Gc := fun args s => match args, s.g with
  | [.ptr b 0], [] => (match s.h.get b with
    | some (.cells [.int .i64 me, .int .i64 su, .int .i64 en, .int .i64 er, .int .i64 bu, .int .u64 stm, .slo q 0 nq 0, .slo y 0 nc 0, .slo f 0 ns 0, .slo g 0 nt 0, .int .u64 lv, .bool lh, .int .i64 lo, .int .i64 ph, .int .i64 a, .int .u64 now, .int .i64 ve, .int .i64 vr, .int .i64 vb] none) => (match s.h.get q with
      | some (.cells qc (some 2)) => (match s.h.get y with
        | some (.cells cc (some 2)) => (match s.h.get f with
          | some (.cells sc (some 1)) => (match s.h.get g with
            | some (.cells tc (some 3)) => cond (nodupB [b, q, y, f, g]) (match s.lay [b, q, y, f, g] [.cells [.int .i64 me, .int .i64 su, .int .i64 (kEn (lkW qc cc sc (mkC tc su en bu er lv lh lo ph a now false ve vb vr))), .int .i64 (kEr (lkW qc cc sc (mkC tc su en bu er lv lh lo ph a now false ve vb vr))), .int .i64 (kBu (lkW qc cc sc (mkC tc su en bu er lv lh lo ph a now false ve vb vr))), .int .u64 stm, .slo q 0 nq 0, .slo y 0 nc 0, .slo f 0 ns 0, .slo g 0 nt 0, .int .u64 lv, .bool lh, .int .i64 lo, .int .i64 (kPh (lkW qc cc sc (mkC tc su en bu er lv lh lo ph a now false ve vb vr))), .int .i64 (kAt (lkW qc cc sc (mkC tc su en bu er lv lh lo ph a now false ve vb vr))), .int .u64 now, .int .i64 (kVe (lkW qc cc sc (mkC tc su en bu er lv lh lo ph a now false ve vb vr))), .int .i64 (kVr (lkW qc cc sc (mkC tc su en bu er lv lh lo ph a now false ve vb vr))), .int .i64 (kVb (lkW qc cc sc (mkC tc su en bu er lv lh lo ph a now false ve vb vr)))] none, .cells qc (some 2), .cells cc (some 2), .cells sc (some 1), .cells tc (some 3)] [] with
              | some s' => some ([okK qc cc sc tc nq nc ns nt, xnn a, xcm .eql en 0, xcm .eql ph 4], .tup [], s')
              | none => none) none
            | _ => none)
          | _ => none)
        | _ => none)
      | _ => none)
    | _ => none)
  | _, _ => none
theorem lookG_ok : GOk Go.Proofs.Try.prog 61 lookG := by
  intro args s bs l s' hg hb hfr
  unfold lookG at hg
  split at hg
  · rename_i b hgl
    split at hg
    · rename_i me su en er bu stm q nq y nc f ns g nt lv lh lo ph a now ve vr vb hb0
      split at hg
      · rename_i qc hb1
        split at hg
        · rename_i cc hb2
          split at hg
          · rename_i sc hb3
            split at hg
            · rename_i tc hb4
              cases hbc : nodupB [b, q, y, f, g] with
              | false => rw [hbc] at hg; cases hg
              | true =>
                rw [hbc] at hg
                simp only [cond_true] at hg
                split at hg
                · rename_i s1 hs1
                  simp only [Option.some.injEq, Prod.mk.injEq] at hg
                  obtain ⟨rfl, rfl, rfl⟩ := hg
                  simp only [allT_cons] at hb
                  obtain ⟨k1, k2, k3, k4, _⟩ := hb
                  have no : noIds qc = true := by obtain ⟨_, _, _, _, ⟨e, _, _, _⟩, _⟩ := okK_iff.1 k1; rw [e]; exact noids_c _
                  have no2 : noIds cc = true := by obtain ⟨_, _, _, _, ⟨_, e, _, _⟩, _⟩ := okK_iff.1 k1; rw [e]; exact noids_c _
                  have no3 : noIds sc = true := by obtain ⟨_, _, _, _, ⟨_, _, e, _⟩, _⟩ := okK_iff.1 k1; rw [e]; exact noIds_Ii64 _
                  have no4 : noIds tc = true := by obtain ⟨_, _, _, _, ⟨_, _, _, e⟩, _⟩ := okK_iff.1 k1; rw [e]; exact noids_l _
                  refine SFun.lay (bs := [.cells [.int .i64 me, .int .i64 su, .int .i64 en, .int .i64 er, .int .i64 bu, .int .u64 stm, .slo 1 0 nq 0, .slo 2 0 nc 0, .slo 3 0 ns 0, .slo 4 0 nt 0, .int .u64 lv, .bool lh, .int .i64 lo, .int .i64 ph, .int .i64 a, .int .u64 now, .int .i64 ve, .int .i64 vr, .int .i64 vb] none, .cells qc (some 2), .cells cc (some 2), .cells sc (some 1), .cells tc (some 3)]) (args0 := [.ptr 0 0]) (bs' := [.cells [.int .i64 me, .int .i64 su, .int .i64 (kEn (lkW qc cc sc (mkC tc su en bu er lv lh lo ph a now false ve vb vr))), .int .i64 (kEr (lkW qc cc sc (mkC tc su en bu er lv lh lo ph a now false ve vb vr))), .int .i64 (kBu (lkW qc cc sc (mkC tc su en bu er lv lh lo ph a now false ve vb vr))), .int .u64 stm, .slo 1 0 nq 0, .slo 2 0 nc 0, .slo 3 0 ns 0, .slo 4 0 nt 0, .int .u64 lv, .bool lh, .int .i64 lo, .int .i64 (kPh (lkW qc cc sc (mkC tc su en bu er lv lh lo ph a now false ve vb vr))), .int .i64 (kAt (lkW qc cc sc (mkC tc su en bu er lv lh lo ph a now false ve vb vr))), .int .u64 now, .int .i64 (kVe (lkW qc cc sc (mkC tc su en bu er lv lh lo ph a now false ve vb vr))), .int .i64 (kVr (lkW qc cc sc (mkC tc su en bu er lv lh lo ph a now false ve vb vr))), .int .i64 (kVb (lkW qc cc sc (mkC tc su en bu er lv lh lo ph a now false ve vb vr)))] none, .cells qc (some 2), .cells cc (some 2), .cells sc (some 1), .cells tc (some 3)]) (v0 := .tup []) hfr hs1 (nodupB_nd hbc)
                    ⟨⟨there hfr hb0, _, hb0, by first | exact lb_same rfl | exact lb_cells (lws_cons (lw_int) (lws_cons (lw_int) (lws_cons (lw_int) (lws_cons (lw_int) (lws_cons (lw_int) (lws_cons (lw_int) (lws_cons (lw_slo rfl) (lws_cons (lw_slo rfl) (lws_cons (lw_slo rfl) (lws_cons (lw_slo rfl) (lws_cons (lw_int) (lws_cons (lw_bool) (lws_cons (lw_int) (lws_cons (lw_int) (lws_cons (lw_int) (lws_cons (lw_int) (lws_cons (lw_int) (lws_cons (lw_int) (lws_cons (lw_int) lws_nil))))))))))))))))))) (by simp), fun κ hκ => lb_cells (lws_cons (lw_int) (lws_cons (lw_int) (lws_cons (lw_int) (lws_cons (lw_int) (lws_cons (lw_int) (lws_cons (lw_int) (lws_cons (lw_slo (hκ 1 q rfl)) (lws_cons (lw_slo (hκ 2 y rfl)) (lws_cons (lw_slo (hκ 3 f rfl)) (lws_cons (lw_slo (hκ 4 g rfl)) (lws_cons (lw_int) (lws_cons (lw_bool) (lws_cons (lw_int) (lws_cons (lw_int) (lws_cons (lw_int) (lws_cons (lw_int) (lws_cons (lw_int) (lws_cons (lw_int) (lws_cons (lw_int) lws_nil))))))))))))))))))) (by simp)⟩, ⟨there hfr hb1, _, hb1, lb_same (by (first | assumption | exact noIds_tab (fun _ => rfl) _ _ | exact noIds_encL (fun _ => rfl) _ | rfl)), fun κ hκ => lb_same (by (first | assumption | exact noIds_tab (fun _ => rfl) _ _ | exact noIds_encL (fun _ => rfl) _ | rfl))⟩, ⟨there hfr hb2, _, hb2, lb_same (by (first | assumption | exact noIds_tab (fun _ => rfl) _ _ | exact noIds_encL (fun _ => rfl) _ | rfl)), fun κ hκ => lb_same (by (first | assumption | exact noIds_tab (fun _ => rfl) _ _ | exact noIds_encL (fun _ => rfl) _ | rfl))⟩, ⟨there hfr hb3, _, hb3, lb_same (by (first | assumption | exact noIds_tab (fun _ => rfl) _ _ | exact noIds_encL (fun _ => rfl) _ | rfl)), fun κ hκ => lb_same (by (first | assumption | exact noIds_tab (fun _ => rfl) _ _ | exact noIds_encL (fun _ => rfl) _ | rfl))⟩, ⟨there hfr hb4, _, hb4, lb_same (by (first | assumption | exact noIds_tab (fun _ => rfl) _ _ | exact noIds_encL (fun _ => rfl) _ | rfl)), fun κ hκ => lb_same (by (first | assumption | exact noIds_tab (fun _ => rfl) _ _ | exact noIds_encL (fun _ => rfl) _ | rfl))⟩, trivial⟩ (by ((repeat refine lws_cons (by (first | exact lw_any | exact lw_int | exact lw_bool | exact lw_ptr rfl | exact lw_slo rfl | exact lw_nilp | exact lw_nils | exact lw_str | exact lw_slo_nils | exact lw_slo_sle | exact lw_sl rfl | exact lw_unb | exact lw_gptr | exact lw_noid rfl | exact lw_cap rfl (Nat.le_refl _) | exact lw_cap rfl (by omega) | assumption | exact lw_tup (by ((repeat refine lws_cons (by (first | exact lw_any | exact lw_int | exact lw_bool | exact lw_ptr rfl | exact lw_slo rfl | exact lw_nilp | exact lw_nils | exact lw_str | exact lw_slo_nils | exact lw_slo_sle | exact lw_sl rfl | exact lw_unb | exact lw_gptr | exact lw_noid rfl | exact lw_cap rfl (Nat.le_refl _) | exact lw_cap rfl (by omega) | assumption)) ?_); exact lws_nil)))) ?_); exact lws_nil)) ?_
                    fun κ h1 h2 => ⟨⟨lb_cells (lws_cons (lw_int) (lws_cons (lw_int) (lws_cons (lw_int) (lws_cons (lw_int) (lws_cons (lw_int) (lws_cons (lw_int) (lws_cons (lw_slo (h1 1 q rfl)) (lws_cons (lw_slo (h1 2 y rfl)) (lws_cons (lw_slo (h1 3 f rfl)) (lws_cons (lw_slo (h1 4 g rfl)) (lws_cons (lw_int) (lws_cons (lw_bool) (lws_cons (lw_int) (lws_cons (lw_int) (lws_cons (lw_int) (lws_cons (lw_int) (lws_cons (lw_int) (lws_cons (lw_int) (lws_cons (lw_int) lws_nil))))))))))))))))))) (by simp), lb_same (by (first | assumption | exact noIds_tab (fun _ => rfl) _ _ | exact noIds_encL (fun _ => rfl) _ | rfl)), lb_same (by (first | assumption | exact noIds_tab (fun _ => rfl) _ _ | exact noIds_encL (fun _ => rfl) _ | rfl)), lb_same (by (first | assumption | exact noIds_tab (fun _ => rfl) _ _ | exact noIds_encL (fun _ => rfl) _ | rfl)), lb_same (by (first | assumption | exact noIds_tab (fun _ => rfl) _ _ | exact noIds_encL (fun _ => rfl) _ | rfl)), trivial⟩, lw_noid rfl⟩
                  rw [hgl]; exact (look_c me stm nq nc ns nt qc cc sc tc su en bu er lv lh lo ph a now ve vb vr k1 k2 k3 k4)
                · cases hg
            · cases hg
          · cases hg
        · cases hg
      · cases hg
    · cases hg
  · cases hg
def cxw : Cx := cxl [(61, lookG)]
def cxwd : Cx := cxl [(61, dumG), (58, dumG), (59, dumG), (60, dumG), (62, dumG)]
theorem rt_0 (me stm : Int) (nq nc ns nt : Nat) (qc cc sc tc : List LV) (su bu er lv : Int) (lh : Bool) (lo : Int) (at' : Nat) (now ve vb vr : Int) (w v : Int) (h : Bool) (o : Int) (d : Bool) (K : Fk) : (xfun Go.Proofs.Try.prog cxw 60 23 [.ptr 0 0, .agg (ansC w v h o d 0)] (mkS (rE me stm nq nc ns nt qc cc sc tc su 0 bu er lv lh lo 0 at' now ve vb vr)) (vF K)) = (
 bif h then (
 bif xcm .gtr o me then (
 K (.tup []) [some (.cells [.int .i64 me, .int .i64 su, .int .i64 0, .int .i64 er, .int .i64 bu, .int .u64 stm, .slo 1 0 nq 0, .slo 2 0 nc 0, .slo 3 0 ns 0, .slo 4 0 nt 0, .int .u64 lv, .bool lh, .int .i64 lo, .int .i64 0, .int .i64 ↑at', .int .u64 now, .int .i64 ve, .int .i64 vr, .int .i64 vb] none), some (.cells qc (some 2)), some (.cells cc (some 2)), some (.cells sc (some 1)), some (.cells tc (some 3)), some (.cells [.int .u64 w, .int .u64 v, .bool h, .int .i64 o, .bool d, .int .i64 0] none), some (.cells [.int .u64 w, .int .u64 v, .bool h, .int .i64 o, .bool d, .int .i64 0] none), some (.cells [.int .u64 w, .int .u64 v, .bool h, .int .i64 o, .bool d, .int .i64 0] none), some (.cells [.int .u64 v, .bool h, .int .i64 o] none)] [])
 else (
 bif xcm .gtr su 0 then (
 K (.tup []) [some (.cells [.int .i64 me, .int .i64 (xar .sub .i64 su 1), .int .i64 0, .int .i64 er, .int .i64 bu, .int .u64 stm, .slo 1 0 nq 0, .slo 2 0 nc 0, .slo 3 0 ns 0, .slo 4 0 nt 0, .int .u64 lv, .bool lh, .int .i64 lo, .int .i64 0, .int .i64 ↑at', .int .u64 now, .int .i64 ve, .int .i64 vr, .int .i64 vb] none), some (.cells qc (some 2)), some (.cells cc (some 2)), some (.cells sc (some 1)), some (.cells tc (some 3)), some (.cells [.int .u64 w, .int .u64 v, .bool h, .int .i64 o, .bool d, .int .i64 0] none), some (.cells [.int .u64 w, .int .u64 v, .bool h, .int .i64 o, .bool d, .int .i64 0] none), some (.cells [.int .u64 w, .int .u64 v, .bool h, .int .i64 o, .bool d, .int .i64 0] none), some (.cells [.int .u64 v, .bool h, .int .i64 o] none)] [])
 else (
 bif xcm .eql o o then bif xcm .eql o o then bif xcm .gtr (↑nt) 0 then (
 K (.tup []) [some (.cells [.int .i64 me, .int .i64 su, .int .i64 0, .int .i64 0, .int .i64 (-1), .int .u64 stm, .slo 1 0 nq 0, .slo 2 0 nc 0, .slo 3 0 ns 0, .slo 4 0 nt 0, .int .u64 lv, .bool lh, .int .i64 lo, .int .i64 7, .int .i64 0, .int .u64 now, .int .i64 5, .int .i64 er, .int .i64 o] none), some (.cells qc (some 2)), some (.cells cc (some 2)), some (.cells sc (some 1)), some (.cells tc (some 3)), some (.cells [.int .u64 w, .int .u64 v, .bool h, .int .i64 o, .bool d, .int .i64 0] none), some (.cells [.int .u64 w, .int .u64 v, .bool h, .int .i64 o, .bool d, .int .i64 0] none), some (.cells [.int .u64 w, .int .u64 v, .bool h, .int .i64 o, .bool d, .int .i64 0] none), some (.cells [.int .u64 v, .bool h, .int .i64 o] none)] [])
 else (
 K (.tup []) [some (.cells [.int .i64 me, .int .i64 su, .int .i64 5, .int .i64 er, .int .i64 o, .int .u64 stm, .slo 1 0 nq 0, .slo 2 0 nc 0, .slo 3 0 ns 0, .slo 4 0 nt 0, .int .u64 lv, .bool lh, .int .i64 lo, .int .i64 0, .int .i64 ↑at', .int .u64 now, .int .i64 ve, .int .i64 vr, .int .i64 vb] none), some (.cells qc (some 2)), some (.cells cc (some 2)), some (.cells sc (some 1)), some (.cells tc (some 3)), some (.cells [.int .u64 w, .int .u64 v, .bool h, .int .i64 o, .bool d, .int .i64 0] none), some (.cells [.int .u64 w, .int .u64 v, .bool h, .int .i64 o, .bool d, .int .i64 0] none), some (.cells [.int .u64 w, .int .u64 v, .bool h, .int .i64 o, .bool d, .int .i64 0] none), some (.cells [.int .u64 v, .bool h, .int .i64 o] none)] []) else False else False)))
 else (
 K (.tup []) [some (.cells [.int .i64 me, .int .i64 su, .int .i64 0, .int .i64 er, .int .i64 bu, .int .u64 stm, .slo 1 0 nq 0, .slo 2 0 nc 0, .slo 3 0 ns 0, .slo 4 0 nt 0, .int .u64 v, .bool h, .int .i64 o, .int .i64 1, .int .i64 ↑at', .int .u64 now, .int .i64 ve, .int .i64 vr, .int .i64 vb] none), some (.cells qc (some 2)), some (.cells cc (some 2)), some (.cells sc (some 1)), some (.cells tc (some 3)), some (.cells [.int .u64 w, .int .u64 v, .bool h, .int .i64 o, .bool d, .int .i64 0] none), some (.cells [.int .u64 w, .int .u64 v, .bool h, .int .i64 o, .bool d, .int .i64 0] none), some (.cells [.int .u64 w, .int .u64 v, .bool h, .int .i64 o, .bool d, .int .i64 0] none)] [])) := by kernel_rfl
theorem rt_1 (me stm : Int) (nq nc ns nt : Nat) (qc cc sc tc : List LV) (su bu er lv : Int) (lh : Bool) (lo : Int) (at' : Nat) (now ve vb vr : Int) (w v : Int) (h : Bool) (o : Int) (d : Bool) (K : Fk) : (xfun Go.Proofs.Try.prog cxw 60 23 [.ptr 0 0, .agg (ansC w v h o d 0)] (mkS (rE me stm nq nc ns nt qc cc sc tc su 0 bu er lv lh lo 1 at' now ve vb vr)) (vF K)) = (
 bif xnot d then (
 K (.tup []) [some (.cells [.int .i64 me, .int .i64 su, .int .i64 0, .int .i64 er, .int .i64 bu, .int .u64 stm, .slo 1 0 nq 0, .slo 2 0 nc 0, .slo 3 0 ns 0, .slo 4 0 nt 0, .int .u64 lv, .bool lh, .int .i64 lo, .int .i64 0, .int .i64 ↑at', .int .u64 now, .int .i64 ve, .int .i64 vr, .int .i64 vb] none), some (.cells qc (some 2)), some (.cells cc (some 2)), some (.cells sc (some 1)), some (.cells tc (some 3)), some (.cells [.int .u64 w, .int .u64 v, .bool h, .int .i64 o, .bool d, .int .i64 0] none), some (.cells [.int .u64 w, .int .u64 v, .bool h, .int .i64 o, .bool d, .int .i64 0] none), some (.cells [.int .u64 w, .int .u64 v, .bool h, .int .i64 o, .bool d, .int .i64 0] none)] [])
 else (
 bif xle (xadd nt 1) 1000000 then bif xle (xadd 0 (xmul nt 3)) (xln tc) then bif xeq nt nt then bif xeq nt nt then bif xcm .eql (xar .add .i64 (↑at') 1) ↑ns then (
 K (.tup []) [some (.cells [.int .i64 me, .int .i64 su, .int .i64 0, .int .i64 er, .int .i64 bu, .int .u64 stm, .slo 1 0 nq 0, .slo 2 0 nc 0, .slo 3 0 ns 0, .slo 9 0 (xadd nt 1) 0, .int .u64 lv, .bool lh, .int .i64 lo, .int .i64 2, .int .i64 0, .int .u64 now, .int .i64 ve, .int .i64 vr, .int .i64 vb] none), some (.cells qc (some 2)), some (.cells cc (some 2)), some (.cells sc (some 1)), some .dead, some (.cells [.int .u64 w, .int .u64 v, .bool h, .int .i64 o, .bool d, .int .i64 0] none), some (.cells [.int .u64 w, .int .u64 v, .bool h, .int .i64 o, .bool d, .int .i64 0] none), some (.cells [.int .u64 w, .int .u64 v, .bool h, .int .i64 o, .bool d, .int .i64 0] none), some (.cells [.int .u64 lv, .bool lh, .int .i64 lo] none), some (.cells (xcat (xcut tc 0 (xmul nt 3)) [.int .u64 lv, .bool lh, .int .i64 lo]) (some 3))] [])
 else (
 K (.tup []) [some (.cells [.int .i64 me, .int .i64 su, .int .i64 0, .int .i64 er, .int .i64 bu, .int .u64 stm, .slo 1 0 nq 0, .slo 2 0 nc 0, .slo 3 0 ns 0, .slo 9 0 (xadd nt 1) 0, .int .u64 lv, .bool lh, .int .i64 lo, .int .i64 0, .int .i64 (xar .add .i64 (↑at') 1), .int .u64 now, .int .i64 ve, .int .i64 vr, .int .i64 vb] none), some (.cells qc (some 2)), some (.cells cc (some 2)), some (.cells sc (some 1)), some .dead, some (.cells [.int .u64 w, .int .u64 v, .bool h, .int .i64 o, .bool d, .int .i64 0] none), some (.cells [.int .u64 w, .int .u64 v, .bool h, .int .i64 o, .bool d, .int .i64 0] none), some (.cells [.int .u64 w, .int .u64 v, .bool h, .int .i64 o, .bool d, .int .i64 0] none), some (.cells [.int .u64 lv, .bool lh, .int .i64 lo] none), some (.cells (xcat (xcut tc 0 (xmul nt 3)) [.int .u64 lv, .bool lh, .int .i64 lo]) (some 3))] []) else False else False else False else False)) := by kernel_rfl
theorem rt_2 (me stm : Int) (nq nc ns nt : Nat) (qc cc sc tc : List LV) (su bu er lv : Int) (lh : Bool) (lo : Int) (at' : Nat) (now ve vb vr : Int) (w v : Int) (h : Bool) (o : Int) (d : Bool) (K : Fk) : (xfun Go.Proofs.Try.prog cxw 60 23 [.ptr 0 0, .agg (ansC w v h o d 0)] (mkS (rE me stm nq nc ns nt qc cc sc tc su 0 bu er lv lh lo 2 at' now ve vb vr)) (vF K)) = (
 bif xcm .geq w 4611686018427387903 then (
 bif xcm .gtr (↑nt) 0 then (
 K (.tup []) [some (.cells [.int .i64 me, .int .i64 su, .int .i64 0, .int .i64 0, .int .i64 (-1), .int .u64 stm, .slo 1 0 nq 0, .slo 2 0 nc 0, .slo 3 0 ns 0, .slo 4 0 nt 0, .int .u64 lv, .bool lh, .int .i64 lo, .int .i64 7, .int .i64 0, .int .u64 w, .int .i64 4, .int .i64 7, .int .i64 (-1)] none), some (.cells qc (some 2)), some (.cells cc (some 2)), some (.cells sc (some 1)), some (.cells tc (some 3)), some (.cells [.int .u64 w, .int .u64 v, .bool h, .int .i64 o, .bool d, .int .i64 0] none), some (.cells [.int .u64 w, .int .u64 v, .bool h, .int .i64 o, .bool d, .int .i64 0] none)] [])
 else (
 K (.tup []) [some (.cells [.int .i64 me, .int .i64 su, .int .i64 4, .int .i64 7, .int .i64 (-1), .int .u64 stm, .slo 1 0 nq 0, .slo 2 0 nc 0, .slo 3 0 ns 0, .slo 4 0 nt 0, .int .u64 lv, .bool lh, .int .i64 lo, .int .i64 3, .int .i64 ↑at', .int .u64 w, .int .i64 ve, .int .i64 vr, .int .i64 vb] none), some (.cells qc (some 2)), some (.cells cc (some 2)), some (.cells sc (some 1)), some (.cells tc (some 3)), some (.cells [.int .u64 w, .int .u64 v, .bool h, .int .i64 o, .bool d, .int .i64 0] none), some (.cells [.int .u64 w, .int .u64 v, .bool h, .int .i64 o, .bool d, .int .i64 0] none)] []))
 else (
 K (.tup []) [some (.cells [.int .i64 me, .int .i64 su, .int .i64 0, .int .i64 er, .int .i64 bu, .int .u64 stm, .slo 1 0 nq 0, .slo 2 0 nc 0, .slo 3 0 ns 0, .slo 4 0 nt 0, .int .u64 lv, .bool lh, .int .i64 lo, .int .i64 3, .int .i64 ↑at', .int .u64 w, .int .i64 ve, .int .i64 vr, .int .i64 vb] none), some (.cells qc (some 2)), some (.cells cc (some 2)), some (.cells sc (some 1)), some (.cells tc (some 3)), some (.cells [.int .u64 w, .int .u64 v, .bool h, .int .i64 o, .bool d, .int .i64 0] none), some (.cells [.int .u64 w, .int .u64 v, .bool h, .int .i64 o, .bool d, .int .i64 0] none)] [])) := by kernel_rfl
theorem rt_3 (me stm : Int) (nq nc ns nt : Nat) (qc cc sc tc : List LV) (su bu er lv : Int) (lh : Bool) (lo : Int) (at' : Nat) (now ve vb vr : Int) (w v : Int) (h : Bool) (o : Int) (d : Bool) (K : Fk) : (xfun Go.Proofs.Try.prog cxw 60 23 [.ptr 0 0, .agg (ansC w v h o d 0)] (mkS (rE me stm nq nc ns nt qc cc sc tc su 0 bu er lv lh lo 3 at' now ve vb vr)) (vF K)) = (
 bif xnot d then (
 K (.tup []) [some (.cells [.int .i64 me, .int .i64 su, .int .i64 0, .int .i64 er, .int .i64 bu, .int .u64 stm, .slo 1 0 nq 0, .slo 2 0 nc 0, .slo 3 0 ns 0, .slo 4 0 nt 0, .int .u64 lv, .bool lh, .int .i64 lo, .int .i64 2, .int .i64 ↑at', .int .u64 now, .int .i64 ve, .int .i64 vr, .int .i64 vb] none), some (.cells qc (some 2)), some (.cells cc (some 2)), some (.cells sc (some 1)), some (.cells tc (some 3)), some (.cells [.int .u64 w, .int .u64 v, .bool h, .int .i64 o, .bool d, .int .i64 0] none), some (.cells [.int .u64 w, .int .u64 v, .bool h, .int .i64 o, .bool d, .int .i64 0] none)] [])
 else (
 bif xcm .eql now stm then (
 bif xcm .eql (↑nc) 0 then (
 bif xcm .eql (↑ns) 0 then (
 K (.tup []) [some (.cells [.int .i64 me, .int .i64 su, .int .i64 2, .int .i64 er, .int .i64 bu, .int .u64 stm, .slo 1 0 nq 0, .slo 2 0 nc 0, .slo 3 0 ns 0, .slo 4 0 nt 0, .int .u64 lv, .bool lh, .int .i64 lo, .int .i64 6, .int .i64 0, .int .u64 now, .int .i64 ve, .int .i64 vr, .int .i64 vb] none), some (.cells qc (some 2)), some (.cells cc (some 2)), some (.cells sc (some 1)), some (.cells tc (some 3)), some (.cells [.int .u64 w, .int .u64 v, .bool h, .int .i64 o, .bool d, .int .i64 0] none), some (.cells [.int .u64 w, .int .u64 v, .bool h, .int .i64 o, .bool d, .int .i64 0] none)] [])
 else (
 K (.tup []) [some (.cells [.int .i64 me, .int .i64 su, .int .i64 0, .int .i64 er, .int .i64 bu, .int .u64 stm, .slo 1 0 nq 0, .slo 2 0 nc 0, .slo 3 0 ns 0, .slo 4 0 nt 0, .int .u64 lv, .bool lh, .int .i64 lo, .int .i64 6, .int .i64 0, .int .u64 now, .int .i64 ve, .int .i64 vr, .int .i64 vb] none), some (.cells qc (some 2)), some (.cells cc (some 2)), some (.cells sc (some 1)), some (.cells tc (some 3)), some (.cells [.int .u64 w, .int .u64 v, .bool h, .int .i64 o, .bool d, .int .i64 0] none), some (.cells [.int .u64 w, .int .u64 v, .bool h, .int .i64 o, .bool d, .int .i64 0] none)] []))
 else (
 K (.tup []) [some (.cells [.int .i64 me, .int .i64 su, .int .i64 0, .int .i64 er, .int .i64 bu, .int .u64 stm, .slo 1 0 nq 0, .slo 2 0 nc 0, .slo 3 0 ns 0, .slo 4 0 nt 0, .int .u64 lv, .bool lh, .int .i64 lo, .int .i64 5, .int .i64 0, .int .u64 now, .int .i64 ve, .int .i64 vr, .int .i64 vb] none), some (.cells qc (some 2)), some (.cells cc (some 2)), some (.cells sc (some 1)), some (.cells tc (some 3)), some (.cells [.int .u64 w, .int .u64 v, .bool h, .int .i64 o, .bool d, .int .i64 0] none), some (.cells [.int .u64 w, .int .u64 v, .bool h, .int .i64 o, .bool d, .int .i64 0] none)] []))
 else (
 bif okK qc cc sc tc nq nc ns nt then
 K (.tup []) [some (.cells [.int .i64 me, .int .i64 su, .int .i64 (kEn (lkW qc cc sc (mkC tc su 0 bu er lv lh lo 4 0 now false ve vb vr))), .int .i64 (kEr (lkW qc cc sc (mkC tc su 0 bu er lv lh lo 4 0 now false ve vb vr))), .int .i64 (kBu (lkW qc cc sc (mkC tc su 0 bu er lv lh lo 4 0 now false ve vb vr))), .int .u64 stm, .slo 1 0 nq 0, .slo 2 0 nc 0, .slo 3 0 ns 0, .slo 4 0 nt 0, .int .u64 lv, .bool lh, .int .i64 lo, .int .i64 (kPh (lkW qc cc sc (mkC tc su 0 bu er lv lh lo 4 0 now false ve vb vr))), .int .i64 (kAt (lkW qc cc sc (mkC tc su 0 bu er lv lh lo 4 0 now false ve vb vr))), .int .u64 now, .int .i64 (kVe (lkW qc cc sc (mkC tc su 0 bu er lv lh lo 4 0 now false ve vb vr))), .int .i64 (kVr (lkW qc cc sc (mkC tc su 0 bu er lv lh lo 4 0 now false ve vb vr))), .int .i64 (kVb (lkW qc cc sc (mkC tc su 0 bu er lv lh lo 4 0 now false ve vb vr)))] none), some (.cells qc (some 2)), some (.cells cc (some 2)), some (.cells sc (some 1)), some (.cells tc (some 3)), some (.cells [.int .u64 w, .int .u64 v, .bool h, .int .i64 o, .bool d, .int .i64 0] none), some (.cells [.int .u64 w, .int .u64 v, .bool h, .int .i64 o, .bool d, .int .i64 0] none)] [] else False))) := by kernel_rfl
theorem rt_4 (me stm : Int) (nq nc ns nt : Nat) (qc cc sc tc : List LV) (su bu er lv : Int) (lh : Bool) (lo : Int) (at' : Nat) (now ve vb vr : Int) (w v : Int) (h : Bool) (o : Int) (d : Bool) (K : Fk) : (xfun Go.Proofs.Try.prog cxw 60 23 [.ptr 0 0, .agg (ansC w v h o d 0)] (mkS (rE me stm nq nc ns nt qc cc sc tc su 0 bu er lv lh lo 4 at' now ve vb vr)) (vF K)) = (
 bif h then (
 bif xcm .gtr o me then (
 K (.tup []) [some (.cells [.int .i64 me, .int .i64 su, .int .i64 0, .int .i64 er, .int .i64 bu, .int .u64 stm, .slo 1 0 nq 0, .slo 2 0 nc 0, .slo 3 0 ns 0, .slo 4 0 nt 0, .int .u64 lv, .bool lh, .int .i64 lo, .int .i64 4, .int .i64 ↑at', .int .u64 now, .int .i64 ve, .int .i64 vr, .int .i64 vb] none), some (.cells qc (some 2)), some (.cells cc (some 2)), some (.cells sc (some 1)), some (.cells tc (some 3)), some (.cells [.int .u64 w, .int .u64 v, .bool h, .int .i64 o, .bool d, .int .i64 0] none), some (.cells [.int .u64 w, .int .u64 v, .bool h, .int .i64 o, .bool d, .int .i64 0] none), some (.cells [.int .u64 w, .int .u64 v, .bool h, .int .i64 o, .bool d, .int .i64 0] none), some (.cells [.int .u64 v, .bool h, .int .i64 o] none)] [])
 else (
 bif xcm .gtr su 0 then (
 K (.tup []) [some (.cells [.int .i64 me, .int .i64 (xar .sub .i64 su 1), .int .i64 0, .int .i64 er, .int .i64 bu, .int .u64 stm, .slo 1 0 nq 0, .slo 2 0 nc 0, .slo 3 0 ns 0, .slo 4 0 nt 0, .int .u64 lv, .bool lh, .int .i64 lo, .int .i64 4, .int .i64 ↑at', .int .u64 now, .int .i64 ve, .int .i64 vr, .int .i64 vb] none), some (.cells qc (some 2)), some (.cells cc (some 2)), some (.cells sc (some 1)), some (.cells tc (some 3)), some (.cells [.int .u64 w, .int .u64 v, .bool h, .int .i64 o, .bool d, .int .i64 0] none), some (.cells [.int .u64 w, .int .u64 v, .bool h, .int .i64 o, .bool d, .int .i64 0] none), some (.cells [.int .u64 w, .int .u64 v, .bool h, .int .i64 o, .bool d, .int .i64 0] none), some (.cells [.int .u64 v, .bool h, .int .i64 o] none)] [])
 else (
 bif xcm .eql o o then bif xcm .eql o o then bif xcm .gtr (↑nt) 0 then (
 K (.tup []) [some (.cells [.int .i64 me, .int .i64 su, .int .i64 0, .int .i64 0, .int .i64 (-1), .int .u64 stm, .slo 1 0 nq 0, .slo 2 0 nc 0, .slo 3 0 ns 0, .slo 4 0 nt 0, .int .u64 lv, .bool lh, .int .i64 lo, .int .i64 7, .int .i64 0, .int .u64 now, .int .i64 5, .int .i64 er, .int .i64 o] none), some (.cells qc (some 2)), some (.cells cc (some 2)), some (.cells sc (some 1)), some (.cells tc (some 3)), some (.cells [.int .u64 w, .int .u64 v, .bool h, .int .i64 o, .bool d, .int .i64 0] none), some (.cells [.int .u64 w, .int .u64 v, .bool h, .int .i64 o, .bool d, .int .i64 0] none), some (.cells [.int .u64 w, .int .u64 v, .bool h, .int .i64 o, .bool d, .int .i64 0] none), some (.cells [.int .u64 v, .bool h, .int .i64 o] none)] [])
 else (
 K (.tup []) [some (.cells [.int .i64 me, .int .i64 su, .int .i64 5, .int .i64 er, .int .i64 o, .int .u64 stm, .slo 1 0 nq 0, .slo 2 0 nc 0, .slo 3 0 ns 0, .slo 4 0 nt 0, .int .u64 lv, .bool lh, .int .i64 lo, .int .i64 4, .int .i64 ↑at', .int .u64 now, .int .i64 ve, .int .i64 vr, .int .i64 vb] none), some (.cells qc (some 2)), some (.cells cc (some 2)), some (.cells sc (some 1)), some (.cells tc (some 3)), some (.cells [.int .u64 w, .int .u64 v, .bool h, .int .i64 o, .bool d, .int .i64 0] none), some (.cells [.int .u64 w, .int .u64 v, .bool h, .int .i64 o, .bool d, .int .i64 0] none), some (.cells [.int .u64 w, .int .u64 v, .bool h, .int .i64 o, .bool d, .int .i64 0] none), some (.cells [.int .u64 v, .bool h, .int .i64 o] none)] []) else False else False)))
 else (
 bif xle (xadd (xnat ↑at') 1) nq then bif xle (xadd (xadd (xix 0 (xnat ↑at') 2) 1) 1) (xln qc) then bif isI .u64 (nthD qc (xadd (xix 0 (xnat ↑at') 2) 1)) then bif xcm .neq v (asI (nthD qc (xadd (xix 0 (xnat ↑at') 2) 1))) then (
 bif xcm .gtr (↑nt) 0 then (
 K (.tup []) [some (.cells [.int .i64 me, .int .i64 su, .int .i64 0, .int .i64 0, .int .i64 (-1), .int .u64 stm, .slo 1 0 nq 0, .slo 2 0 nc 0, .slo 3 0 ns 0, .slo 4 0 nt 0, .int .u64 lv, .bool lh, .int .i64 lo, .int .i64 7, .int .i64 0, .int .u64 now, .int .i64 5, .int .i64 0, .int .i64 (-1)] none), some (.cells qc (some 2)), some (.cells cc (some 2)), some (.cells sc (some 1)), some (.cells tc (some 3)), some (.cells [.int .u64 w, .int .u64 v, .bool h, .int .i64 o, .bool d, .int .i64 0] none), some (.cells [.int .u64 w, .int .u64 v, .bool h, .int .i64 o, .bool d, .int .i64 0] none), some (.cells [.int .u64 w, .int .u64 v, .bool h, .int .i64 o, .bool d, .int .i64 0] none)] [])
 else (
 K (.tup []) [some (.cells [.int .i64 me, .int .i64 su, .int .i64 5, .int .i64 0, .int .i64 (-1), .int .u64 stm, .slo 1 0 nq 0, .slo 2 0 nc 0, .slo 3 0 ns 0, .slo 4 0 nt 0, .int .u64 lv, .bool lh, .int .i64 lo, .int .i64 4, .int .i64 ↑at', .int .u64 now, .int .i64 ve, .int .i64 vr, .int .i64 vb] none), some (.cells qc (some 2)), some (.cells cc (some 2)), some (.cells sc (some 1)), some (.cells tc (some 3)), some (.cells [.int .u64 w, .int .u64 v, .bool h, .int .i64 o, .bool d, .int .i64 0] none), some (.cells [.int .u64 w, .int .u64 v, .bool h, .int .i64 o, .bool d, .int .i64 0] none), some (.cells [.int .u64 w, .int .u64 v, .bool h, .int .i64 o, .bool d, .int .i64 0] none)] []))
 else (
 bif okK qc cc sc tc nq nc ns nt then bif xnn (xar .add .i64 (↑at') 1) then
 K (.tup []) [some (.cells [.int .i64 me, .int .i64 su, .int .i64 (kEn (lkW qc cc sc (mkC tc su 0 bu er lv lh lo 4 (xar .add .i64 (↑at') 1) now false ve vb vr))), .int .i64 (kEr (lkW qc cc sc (mkC tc su 0 bu er lv lh lo 4 (xar .add .i64 (↑at') 1) now false ve vb vr))), .int .i64 (kBu (lkW qc cc sc (mkC tc su 0 bu er lv lh lo 4 (xar .add .i64 (↑at') 1) now false ve vb vr))), .int .u64 stm, .slo 1 0 nq 0, .slo 2 0 nc 0, .slo 3 0 ns 0, .slo 4 0 nt 0, .int .u64 lv, .bool lh, .int .i64 lo, .int .i64 (kPh (lkW qc cc sc (mkC tc su 0 bu er lv lh lo 4 (xar .add .i64 (↑at') 1) now false ve vb vr))), .int .i64 (kAt (lkW qc cc sc (mkC tc su 0 bu er lv lh lo 4 (xar .add .i64 (↑at') 1) now false ve vb vr))), .int .u64 now, .int .i64 (kVe (lkW qc cc sc (mkC tc su 0 bu er lv lh lo 4 (xar .add .i64 (↑at') 1) now false ve vb vr))), .int .i64 (kVr (lkW qc cc sc (mkC tc su 0 bu er lv lh lo 4 (xar .add .i64 (↑at') 1) now false ve vb vr))), .int .i64 (kVb (lkW qc cc sc (mkC tc su 0 bu er lv lh lo 4 (xar .add .i64 (↑at') 1) now false ve vb vr)))] none), some (.cells qc (some 2)), some (.cells cc (some 2)), some (.cells sc (some 1)), some (.cells tc (some 3)), some (.cells [.int .u64 w, .int .u64 v, .bool h, .int .i64 o, .bool d, .int .i64 0] none), some (.cells [.int .u64 w, .int .u64 v, .bool h, .int .i64 o, .bool d, .int .i64 0] none), some (.cells [.int .u64 w, .int .u64 v, .bool h, .int .i64 o, .bool d, .int .i64 0] none)] [] else False else False) else False else False else False)) := by kernel_rfl
theorem rt_5 (me stm : Int) (nq nc ns nt : Nat) (qc cc sc tc : List LV) (su bu er lv : Int) (lh : Bool) (lo : Int) (at' : Nat) (now ve vb vr : Int) (w v : Int) (h : Bool) (o : Int) (d : Bool) (K : Fk) : (xfun Go.Proofs.Try.prog cxw 60 23 [.ptr 0 0, .agg (ansC w v h o d 0)] (mkS (rE me stm nq nc ns nt qc cc sc tc su 0 bu er lv lh lo 5 at' now ve vb vr)) (vF K)) = (
 bif xcm .eql (xar .add .i64 (↑at') 1) ↑nc then (
 bif xcm .eql (↑ns) 0 then (
 K (.tup []) [some (.cells [.int .i64 me, .int .i64 su, .int .i64 2, .int .i64 er, .int .i64 bu, .int .u64 stm, .slo 1 0 nq 0, .slo 2 0 nc 0, .slo 3 0 ns 0, .slo 4 0 nt 0, .int .u64 lv, .bool lh, .int .i64 lo, .int .i64 6, .int .i64 0, .int .u64 now, .int .i64 ve, .int .i64 vr, .int .i64 vb] none), some (.cells qc (some 2)), some (.cells cc (some 2)), some (.cells sc (some 1)), some (.cells tc (some 3)), some (.cells [.int .u64 w, .int .u64 v, .bool h, .int .i64 o, .bool d, .int .i64 0] none), some (.cells [.int .u64 w, .int .u64 v, .bool h, .int .i64 o, .bool d, .int .i64 0] none)] [])
 else (
 K (.tup []) [some (.cells [.int .i64 me, .int .i64 su, .int .i64 0, .int .i64 er, .int .i64 bu, .int .u64 stm, .slo 1 0 nq 0, .slo 2 0 nc 0, .slo 3 0 ns 0, .slo 4 0 nt 0, .int .u64 lv, .bool lh, .int .i64 lo, .int .i64 6, .int .i64 0, .int .u64 now, .int .i64 ve, .int .i64 vr, .int .i64 vb] none), some (.cells qc (some 2)), some (.cells cc (some 2)), some (.cells sc (some 1)), some (.cells tc (some 3)), some (.cells [.int .u64 w, .int .u64 v, .bool h, .int .i64 o, .bool d, .int .i64 0] none), some (.cells [.int .u64 w, .int .u64 v, .bool h, .int .i64 o, .bool d, .int .i64 0] none)] []))
 else (
 K (.tup []) [some (.cells [.int .i64 me, .int .i64 su, .int .i64 0, .int .i64 er, .int .i64 bu, .int .u64 stm, .slo 1 0 nq 0, .slo 2 0 nc 0, .slo 3 0 ns 0, .slo 4 0 nt 0, .int .u64 lv, .bool lh, .int .i64 lo, .int .i64 5, .int .i64 (xar .add .i64 (↑at') 1), .int .u64 now, .int .i64 ve, .int .i64 vr, .int .i64 vb] none), some (.cells qc (some 2)), some (.cells cc (some 2)), some (.cells sc (some 1)), some (.cells tc (some 3)), some (.cells [.int .u64 w, .int .u64 v, .bool h, .int .i64 o, .bool d, .int .i64 0] none), some (.cells [.int .u64 w, .int .u64 v, .bool h, .int .i64 o, .bool d, .int .i64 0] none)] [])) := by kernel_rfl
theorem rt_6 (me stm : Int) (nq nc ns nt : Nat) (qc cc sc tc : List LV) (su bu er lv : Int) (lh : Bool) (lo : Int) (at' : Nat) (now ve vb vr : Int) (w v : Int) (h : Bool) (o : Int) (d : Bool) (K : Fk) : (xfun Go.Proofs.Try.prog cxw 60 23 [.ptr 0 0, .agg (ansC w v h o d 0)] (mkS (rE me stm nq nc ns nt qc cc sc tc su 0 bu er lv lh lo 6 at' now ve vb vr)) (vF K)) = (
 bif xcm .eql (xar .add .i64 (↑at') 1) ↑ns then (
 K (.tup []) [some (.cells [.int .i64 me, .int .i64 su, .int .i64 2, .int .i64 er, .int .i64 bu, .int .u64 stm, .slo 1 0 nq 0, .slo 2 0 nc 0, .slo 3 0 ns 0, .slo 4 0 nt 0, .int .u64 lv, .bool lh, .int .i64 lo, .int .i64 6, .int .i64 (xar .add .i64 (↑at') 1), .int .u64 now, .int .i64 ve, .int .i64 vr, .int .i64 vb] none), some (.cells qc (some 2)), some (.cells cc (some 2)), some (.cells sc (some 1)), some (.cells tc (some 3)), some (.cells [.int .u64 w, .int .u64 v, .bool h, .int .i64 o, .bool d, .int .i64 0] none), some (.cells [.int .u64 w, .int .u64 v, .bool h, .int .i64 o, .bool d, .int .i64 0] none)] [])
 else (
 K (.tup []) [some (.cells [.int .i64 me, .int .i64 su, .int .i64 0, .int .i64 er, .int .i64 bu, .int .u64 stm, .slo 1 0 nq 0, .slo 2 0 nc 0, .slo 3 0 ns 0, .slo 4 0 nt 0, .int .u64 lv, .bool lh, .int .i64 lo, .int .i64 6, .int .i64 (xar .add .i64 (↑at') 1), .int .u64 now, .int .i64 ve, .int .i64 vr, .int .i64 vb] none), some (.cells qc (some 2)), some (.cells cc (some 2)), some (.cells sc (some 1)), some (.cells tc (some 3)), some (.cells [.int .u64 w, .int .u64 v, .bool h, .int .i64 o, .bool d, .int .i64 0] none), some (.cells [.int .u64 w, .int .u64 v, .bool h, .int .i64 o, .bool d, .int .i64 0] none)] [])) := by kernel_rfl
theorem rt_7 (me stm : Int) (nq nc ns nt : Nat) (qc cc sc tc : List LV) (su bu er lv : Int) (lh : Bool) (lo : Int) (at' : Nat) (now ve vb vr : Int) (w v : Int) (h : Bool) (o : Int) (d : Bool) (K : Fk) : (xfun Go.Proofs.Try.prog cxw 60 23 [.ptr 0 0, .agg (ansC w v h o d 0)] (mkS (rE me stm nq nc ns nt qc cc sc tc su 0 bu er lv lh lo 7 at' now ve vb vr)) (vF K)) = (
 bif xcm .eql (xar .add .i64 (↑at') 1) ↑nt then (
 K (.tup []) [some (.cells [.int .i64 me, .int .i64 su, .int .i64 ve, .int .i64 vr, .int .i64 vb, .int .u64 stm, .slo 1 0 nq 0, .slo 2 0 nc 0, .slo 3 0 ns 0, .slo 4 0 nt 0, .int .u64 lv, .bool lh, .int .i64 lo, .int .i64 7, .int .i64 (xar .add .i64 (↑at') 1), .int .u64 now, .int .i64 ve, .int .i64 vr, .int .i64 vb] none), some (.cells qc (some 2)), some (.cells cc (some 2)), some (.cells sc (some 1)), some (.cells tc (some 3)), some (.cells [.int .u64 w, .int .u64 v, .bool h, .int .i64 o, .bool d, .int .i64 0] none), some (.cells [.int .u64 w, .int .u64 v, .bool h, .int .i64 o, .bool d, .int .i64 0] none)] [])
 else (
 K (.tup []) [some (.cells [.int .i64 me, .int .i64 su, .int .i64 0, .int .i64 er, .int .i64 bu, .int .u64 stm, .slo 1 0 nq 0, .slo 2 0 nc 0, .slo 3 0 ns 0, .slo 4 0 nt 0, .int .u64 lv, .bool lh, .int .i64 lo, .int .i64 7, .int .i64 (xar .add .i64 (↑at') 1), .int .u64 now, .int .i64 ve, .int .i64 vr, .int .i64 vb] none), some (.cells qc (some 2)), some (.cells cc (some 2)), some (.cells sc (some 1)), some (.cells tc (some 3)), some (.cells [.int .u64 w, .int .u64 v, .bool h, .int .i64 o, .bool d, .int .i64 0] none), some (.cells [.int .u64 w, .int .u64 v, .bool h, .int .i64 o, .bool d, .int .i64 0] none)] [])) := by kernel_rfl
abbrev rt_x_b1 (me : Int) (stm : Int) (nq : Nat) (nc : Nat) (ns : Nat) (nt : Nat) (qc : List LV) (cc : List LV) (sc : List LV) (tc : List LV) (su : Int) (en : Int) (bu : Int) (er : Int) (lv : Int) (lh : Bool) (lo : Int) (ph : Int) (at' : Nat) (now : Int) (ve : Int) (vb : Int) (vr : Int) (w : Int) (v : Int) (h : Bool) (o : Int) (d : Bool) (e : Int) : List (Option LB) := [some (.cells [.int .i64 me, .int .i64 su, .int .i64 en, .int .i64 er, .int .i64 bu, .int .u64 stm, .slo 1 0 nq 0, .slo 2 0 nc 0, .slo 3 0 ns 0, .slo 4 0 nt 0, .int .u64 lv, .bool lh, .int .i64 lo, .int .i64 ph, .int .i64 (xar .add .i64 (↑at') 1), .int .u64 now, .int .i64 ve, .int .i64 vr, .int .i64 vb] none), some (.cells qc (some 2)), some (.cells cc (some 2)), some (.cells sc (some 1)), some (.cells tc (some 3)), some (.cells [.int .u64 w, .int .u64 v, .bool h, .int .i64 o, .bool d, .int .i64 e] none), some (.cells [.int .u64 w, .int .u64 v, .bool h, .int .i64 o, .bool d, .int .i64 e] none)]
abbrev rt_x_b2 (me : Int) (stm : Int) (nq : Nat) (nc : Nat) (ns : Nat) (nt : Nat) (qc : List LV) (cc : List LV) (sc : List LV) (tc : List LV) (su : Int) (bu : Int) (lv : Int) (lh : Bool) (lo : Int) (ph : Int) (at' : Nat) (now : Int) (ve : Int) (vb : Int) (vr : Int) (w : Int) (v : Int) (h : Bool) (o : Int) (d : Bool) (e : Int) : List (Option LB) := [some (.cells [.int .i64 me, .int .i64 su, .int .i64 4, .int .i64 e, .int .i64 bu, .int .u64 stm, .slo 1 0 nq 0, .slo 2 0 nc 0, .slo 3 0 ns 0, .slo 4 0 nt 0, .int .u64 lv, .bool lh, .int .i64 lo, .int .i64 ph, .int .i64 (xar .add .i64 (↑at') 1), .int .u64 now, .int .i64 ve, .int .i64 vr, .int .i64 vb] none), some (.cells qc (some 2)), some (.cells cc (some 2)), some (.cells sc (some 1)), some (.cells tc (some 3)), some (.cells [.int .u64 w, .int .u64 v, .bool h, .int .i64 o, .bool d, .int .i64 e] none), some (.cells [.int .u64 w, .int .u64 v, .bool h, .int .i64 o, .bool d, .int .i64 e] none)]
abbrev rt_x_b3 (me : Int) (stm : Int) (nq : Nat) (nc : Nat) (ns : Nat) (nt : Nat) (qc : List LV) (cc : List LV) (sc : List LV) (tc : List LV) (su : Int) (lv : Int) (lh : Bool) (lo : Int) (ph : Int) (at' : Nat) (now : Int) (ve : Int) (vb : Int) (vr : Int) (w : Int) (v : Int) (h : Bool) (o : Int) (d : Bool) (e : Int) : List (Option LB) := [some (.cells [.int .i64 me, .int .i64 su, .int .i64 ve, .int .i64 vr, .int .i64 vb, .int .u64 stm, .slo 1 0 nq 0, .slo 2 0 nc 0, .slo 3 0 ns 0, .slo 4 0 nt 0, .int .u64 lv, .bool lh, .int .i64 lo, .int .i64 ph, .int .i64 (xar .add .i64 (↑at') 1), .int .u64 now, .int .i64 ve, .int .i64 vr, .int .i64 vb] none), some (.cells qc (some 2)), some (.cells cc (some 2)), some (.cells sc (some 1)), some (.cells tc (some 3)), some (.cells [.int .u64 w, .int .u64 v, .bool h, .int .i64 o, .bool d, .int .i64 e] none), some (.cells [.int .u64 w, .int .u64 v, .bool h, .int .i64 o, .bool d, .int .i64 e] none)]
abbrev rt_x_b4 (me : Int) (stm : Int) (nq : Nat) (nc : Nat) (ns : Nat) (nt : Nat) (qc : List LV) (cc : List LV) (sc : List LV) (tc : List LV) (su : Int) (bu : Int) (er : Int) (lv : Int) (lh : Bool) (lo : Int) (ph : Int) (at' : Nat) (now : Int) (ve : Int) (vb : Int) (vr : Int) (w : Int) (v : Int) (h : Bool) (o : Int) (d : Bool) (e : Int) : List (Option LB) := [some (.cells [.int .i64 me, .int .i64 su, .int .i64 2, .int .i64 er, .int .i64 bu, .int .u64 stm, .slo 1 0 nq 0, .slo 2 0 nc 0, .slo 3 0 ns 0, .slo 4 0 nt 0, .int .u64 lv, .bool lh, .int .i64 lo, .int .i64 ph, .int .i64 (xar .add .i64 (↑at') 1), .int .u64 now, .int .i64 ve, .int .i64 vr, .int .i64 vb] none), some (.cells qc (some 2)), some (.cells cc (some 2)), some (.cells sc (some 1)), some (.cells tc (some 3)), some (.cells [.int .u64 w, .int .u64 v, .bool h, .int .i64 o, .bool d, .int .i64 e] none), some (.cells [.int .u64 w, .int .u64 v, .bool h, .int .i64 o, .bool d, .int .i64 e] none)]
abbrev rt_x_b5 (me : Int) (stm : Int) (nq : Nat) (nc : Nat) (ns : Nat) (nt : Nat) (qc : List LV) (cc : List LV) (sc : List LV) (tc : List LV) (su : Int) (bu : Int) (lv : Int) (lh : Bool) (lo : Int) (ph : Int) (at' : Nat) (now : Int) (ve : Int) (vb : Int) (vr : Int) (w : Int) (v : Int) (h : Bool) (o : Int) (d : Bool) (e : Int) : List (Option LB) := [some (.cells [.int .i64 me, .int .i64 su, .int .i64 2, .int .i64 e, .int .i64 bu, .int .u64 stm, .slo 1 0 nq 0, .slo 2 0 nc 0, .slo 3 0 ns 0, .slo 4 0 nt 0, .int .u64 lv, .bool lh, .int .i64 lo, .int .i64 ph, .int .i64 (xar .add .i64 (↑at') 1), .int .u64 now, .int .i64 ve, .int .i64 vr, .int .i64 vb] none), some (.cells qc (some 2)), some (.cells cc (some 2)), some (.cells sc (some 1)), some (.cells tc (some 3)), some (.cells [.int .u64 w, .int .u64 v, .bool h, .int .i64 o, .bool d, .int .i64 e] none), some (.cells [.int .u64 w, .int .u64 v, .bool h, .int .i64 o, .bool d, .int .i64 e] none)]
abbrev rt_x_b6 (me : Int) (stm : Int) (nq : Nat) (nc : Nat) (ns : Nat) (nt : Nat) (qc : List LV) (cc : List LV) (sc : List LV) (tc : List LV) (su : Int) (en : Int) (bu : Int) (er : Int) (lv : Int) (lh : Bool) (lo : Int) (at' : Nat) (now : Int) (ve : Int) (vb : Int) (vr : Int) (w : Int) (v : Int) (h : Bool) (o : Int) (d : Bool) (e : Int) : List (Option LB) := [some (.cells [.int .i64 me, .int .i64 su, .int .i64 en, .int .i64 er, .int .i64 bu, .int .u64 stm, .slo 1 0 nq 0, .slo 2 0 nc 0, .slo 3 0 ns 0, .slo 4 0 nt 0, .int .u64 lv, .bool lh, .int .i64 lo, .int .i64 2, .int .i64 ↑at', .int .u64 now, .int .i64 ve, .int .i64 vr, .int .i64 vb] none), some (.cells qc (some 2)), some (.cells cc (some 2)), some (.cells sc (some 1)), some (.cells tc (some 3)), some (.cells [.int .u64 w, .int .u64 v, .bool h, .int .i64 o, .bool d, .int .i64 e] none), some (.cells [.int .u64 w, .int .u64 v, .bool h, .int .i64 o, .bool d, .int .i64 e] none)]
abbrev rt_x_b7 (me : Int) (stm : Int) (nq : Nat) (nc : Nat) (ns : Nat) (nt : Nat) (qc : List LV) (cc : List LV) (sc : List LV) (tc : List LV) (su : Int) (bu : Int) (lv : Int) (lh : Bool) (lo : Int) (at' : Nat) (now : Int) (ve : Int) (vb : Int) (vr : Int) (w : Int) (v : Int) (h : Bool) (o : Int) (d : Bool) (e : Int) : List (Option LB) := [some (.cells [.int .i64 me, .int .i64 su, .int .i64 4, .int .i64 e, .int .i64 bu, .int .u64 stm, .slo 1 0 nq 0, .slo 2 0 nc 0, .slo 3 0 ns 0, .slo 4 0 nt 0, .int .u64 lv, .bool lh, .int .i64 lo, .int .i64 2, .int .i64 ↑at', .int .u64 now, .int .i64 ve, .int .i64 vr, .int .i64 vb] none), some (.cells qc (some 2)), some (.cells cc (some 2)), some (.cells sc (some 1)), some (.cells tc (some 3)), some (.cells [.int .u64 w, .int .u64 v, .bool h, .int .i64 o, .bool d, .int .i64 e] none), some (.cells [.int .u64 w, .int .u64 v, .bool h, .int .i64 o, .bool d, .int .i64 e] none)]
abbrev rt_x_b8 (me : Int) (stm : Int) (nq : Nat) (nc : Nat) (ns : Nat) (nt : Nat) (qc : List LV) (cc : List LV) (sc : List LV) (tc : List LV) (su : Int) (en : Int) (bu : Int) (er : Int) (lv : Int) (lh : Bool) (lo : Int) (at' : Nat) (ve : Int) (vb : Int) (vr : Int) (w : Int) (v : Int) (h : Bool) (o : Int) (d : Bool) (e : Int) : List (Option LB) := [some (.cells [.int .i64 me, .int .i64 su, .int .i64 en, .int .i64 er, .int .i64 bu, .int .u64 stm, .slo 1 0 nq 0, .slo 2 0 nc 0, .slo 3 0 ns 0, .slo 4 0 nt 0, .int .u64 lv, .bool lh, .int .i64 lo, .int .i64 3, .int .i64 ↑at', .int .u64 w, .int .i64 ve, .int .i64 vr, .int .i64 vb] none), some (.cells qc (some 2)), some (.cells cc (some 2)), some (.cells sc (some 1)), some (.cells tc (some 3)), some (.cells [.int .u64 w, .int .u64 v, .bool h, .int .i64 o, .bool d, .int .i64 e] none), some (.cells [.int .u64 w, .int .u64 v, .bool h, .int .i64 o, .bool d, .int .i64 e] none)]
abbrev rt_x_b9 (me : Int) (stm : Int) (nq : Nat) (nc : Nat) (ns : Nat) (nt : Nat) (qc : List LV) (cc : List LV) (sc : List LV) (tc : List LV) (su : Int) (bu : Int) (lv : Int) (lh : Bool) (lo : Int) (at' : Nat) (ve : Int) (vb : Int) (vr : Int) (w : Int) (v : Int) (h : Bool) (o : Int) (d : Bool) (e : Int) : List (Option LB) := [some (.cells [.int .i64 me, .int .i64 su, .int .i64 4, .int .i64 e, .int .i64 bu, .int .u64 stm, .slo 1 0 nq 0, .slo 2 0 nc 0, .slo 3 0 ns 0, .slo 4 0 nt 0, .int .u64 lv, .bool lh, .int .i64 lo, .int .i64 3, .int .i64 ↑at', .int .u64 w, .int .i64 ve, .int .i64 vr, .int .i64 vb] none), some (.cells qc (some 2)), some (.cells cc (some 2)), some (.cells sc (some 1)), some (.cells tc (some 3)), some (.cells [.int .u64 w, .int .u64 v, .bool h, .int .i64 o, .bool d, .int .i64 e] none), some (.cells [.int .u64 w, .int .u64 v, .bool h, .int .i64 o, .bool d, .int .i64 e] none)]
theorem rt_x (me stm : Int) (nq nc ns nt : Nat) (qc cc sc tc : List LV) (su en bu er lv : Int) (lh : Bool) (lo ph : Int) (at' : Nat) (now ve vb vr : Int) (w v : Int) (h : Bool) (o : Int) (d : Bool) (e : Int) (K : Fk) : (xfun Go.Proofs.Try.prog cxwd 60 23 [.ptr 0 0, .agg (ansC w v h o d e)] (mkS (rE me stm nq nc ns nt qc cc sc tc su en bu er lv lh lo ph at' now ve vb vr)) (vF K)) = (
 bif xcm .neq en 0 then (
 K (.tup []) [some (.cells [.int .i64 me, .int .i64 su, .int .i64 en, .int .i64 er, .int .i64 bu, .int .u64 stm, .slo 1 0 nq 0, .slo 2 0 nc 0, .slo 3 0 ns 0, .slo 4 0 nt 0, .int .u64 lv, .bool lh, .int .i64 lo, .int .i64 ph, .int .i64 ↑at', .int .u64 now, .int .i64 ve, .int .i64 vr, .int .i64 vb] none), some (.cells qc (some 2)), some (.cells cc (some 2)), some (.cells sc (some 1)), some (.cells tc (some 3)), some (.cells [.int .u64 w, .int .u64 v, .bool h, .int .i64 o, .bool d, .int .i64 e] none)] [])
 else (
 bif xcm .neq e 0 then (
 bif xcm .eql e e then bif xcm .eql e e then bif xcm .neq e 0 then (
 K (.tup []) [some (.cells [.int .i64 me, .int .i64 su, .int .i64 4, .int .i64 e, .int .i64 bu, .int .u64 stm, .slo 1 0 nq 0, .slo 2 0 nc 0, .slo 3 0 ns 0, .slo 4 0 nt 0, .int .u64 lv, .bool lh, .int .i64 lo, .int .i64 ph, .int .i64 ↑at', .int .u64 now, .int .i64 ve, .int .i64 vr, .int .i64 vb] none), some (.cells qc (some 2)), some (.cells cc (some 2)), some (.cells sc (some 1)), some (.cells tc (some 3)), some (.cells [.int .u64 w, .int .u64 v, .bool h, .int .i64 o, .bool d, .int .i64 e] none), some (.cells [.int .u64 w, .int .u64 v, .bool h, .int .i64 o, .bool d, .int .i64 e] none)] [])
 else (
 bif xcm .eql ph 0 then (
 bif xcm .eql ph 0 then (
 False)
 else (
 bif xcm .eql ph 2 then (
 bif xcm .geq w 4611686018427387903 then (
 False)
 else (
 K (.tup []) (rt_x_b9 me stm nq nc ns nt qc cc sc tc su bu lv lh lo at' ve vb vr w v h o d e) []))
 else (
 bif xcm .eql ph 3 then (
 bif xnot d then (
 K (.tup []) (rt_x_b7 me stm nq nc ns nt qc cc sc tc su bu lv lh lo at' now ve vb vr w v h o d e) [])
 else (
 bif xcm .eql now stm then
 False else False))
 else (
 bif xcm .eql ph 5 then (
 bif xcm .eql (xar .add .i64 (↑at') 1) ↑nc then (
 False)
 else (
 K (.tup []) (rt_x_b2 me stm nq nc ns nt qc cc sc tc su bu lv lh lo ph at' now ve vb vr w v h o d e) []))
 else (
 bif xcm .eql ph 6 then (
 bif xcm .eql (xar .add .i64 (↑at') 1) ↑ns then (
 K (.tup []) (rt_x_b5 me stm nq nc ns nt qc cc sc tc su bu lv lh lo ph at' now ve vb vr w v h o d e) [])
 else (
 K (.tup []) (rt_x_b2 me stm nq nc ns nt qc cc sc tc su bu lv lh lo ph at' now ve vb vr w v h o d e) []))
 else (
 bif xcm .eql (xar .add .i64 (↑at') 1) ↑nt then (
 K (.tup []) (rt_x_b3 me stm nq nc ns nt qc cc sc tc su lv lh lo ph at' now ve vb vr w v h o d e) [])
 else (
 K (.tup []) (rt_x_b2 me stm nq nc ns nt qc cc sc tc su bu lv lh lo ph at' now ve vb vr w v h o d e) [])))))))
 else (
 bif xcm .eql ph 1 then (
 bif xcm .eql ph 1 then (
 False)
 else (
 bif xcm .eql ph 2 then (
 bif xcm .geq w 4611686018427387903 then (
 False)
 else (
 K (.tup []) (rt_x_b9 me stm nq nc ns nt qc cc sc tc su bu lv lh lo at' ve vb vr w v h o d e) []))
 else (
 bif xcm .eql ph 3 then (
 bif xnot d then (
 K (.tup []) (rt_x_b7 me stm nq nc ns nt qc cc sc tc su bu lv lh lo at' now ve vb vr w v h o d e) [])
 else (
 bif xcm .eql now stm then
 False else False))
 else (
 bif xcm .eql ph 5 then (
 bif xcm .eql (xar .add .i64 (↑at') 1) ↑nc then (
 False)
 else (
 K (.tup []) (rt_x_b2 me stm nq nc ns nt qc cc sc tc su bu lv lh lo ph at' now ve vb vr w v h o d e) []))
 else (
 bif xcm .eql ph 6 then (
 bif xcm .eql (xar .add .i64 (↑at') 1) ↑ns then (
 K (.tup []) (rt_x_b5 me stm nq nc ns nt qc cc sc tc su bu lv lh lo ph at' now ve vb vr w v h o d e) [])
 else (
 K (.tup []) (rt_x_b2 me stm nq nc ns nt qc cc sc tc su bu lv lh lo ph at' now ve vb vr w v h o d e) []))
 else (
 bif xcm .eql (xar .add .i64 (↑at') 1) ↑nt then (
 K (.tup []) (rt_x_b3 me stm nq nc ns nt qc cc sc tc su lv lh lo ph at' now ve vb vr w v h o d e) [])
 else (
 K (.tup []) (rt_x_b2 me stm nq nc ns nt qc cc sc tc su bu lv lh lo ph at' now ve vb vr w v h o d e) [])))))))
 else (
 bif xcm .eql ph 4 then (
 False)
 else (
 bif xcm .eql ph 2 then (
 bif xcm .geq w 4611686018427387903 then (
 False)
 else (
 K (.tup []) (rt_x_b9 me stm nq nc ns nt qc cc sc tc su bu lv lh lo at' ve vb vr w v h o d e) []))
 else (
 bif xcm .eql ph 3 then (
 bif xnot d then (
 K (.tup []) (rt_x_b7 me stm nq nc ns nt qc cc sc tc su bu lv lh lo at' now ve vb vr w v h o d e) [])
 else (
 bif xcm .eql now stm then
 False else False))
 else (
 bif xcm .eql ph 5 then (
 bif xcm .eql (xar .add .i64 (↑at') 1) ↑nc then (
 False)
 else (
 K (.tup []) (rt_x_b2 me stm nq nc ns nt qc cc sc tc su bu lv lh lo ph at' now ve vb vr w v h o d e) []))
 else (
 bif xcm .eql ph 6 then (
 bif xcm .eql (xar .add .i64 (↑at') 1) ↑ns then (
 K (.tup []) (rt_x_b5 me stm nq nc ns nt qc cc sc tc su bu lv lh lo ph at' now ve vb vr w v h o d e) [])
 else (
 K (.tup []) (rt_x_b2 me stm nq nc ns nt qc cc sc tc su bu lv lh lo ph at' now ve vb vr w v h o d e) []))
 else (
 bif xcm .eql (xar .add .i64 (↑at') 1) ↑nt then (
 K (.tup []) (rt_x_b3 me stm nq nc ns nt qc cc sc tc su lv lh lo ph at' now ve vb vr w v h o d e) [])
 else (
 K (.tup []) (rt_x_b2 me stm nq nc ns nt qc cc sc tc su bu lv lh lo ph at' now ve vb vr w v h o d e) []))))))))) else False else False)
 else (
 bif xcm .neq e 0 then (
 K (.tup []) [some (.cells [.int .i64 me, .int .i64 su, .int .i64 en, .int .i64 er, .int .i64 bu, .int .u64 stm, .slo 1 0 nq 0, .slo 2 0 nc 0, .slo 3 0 ns 0, .slo 4 0 nt 0, .int .u64 lv, .bool lh, .int .i64 lo, .int .i64 ph, .int .i64 ↑at', .int .u64 now, .int .i64 ve, .int .i64 vr, .int .i64 vb] none), some (.cells qc (some 2)), some (.cells cc (some 2)), some (.cells sc (some 1)), some (.cells tc (some 3)), some (.cells [.int .u64 w, .int .u64 v, .bool h, .int .i64 o, .bool d, .int .i64 e] none), some (.cells [.int .u64 w, .int .u64 v, .bool h, .int .i64 o, .bool d, .int .i64 e] none)] [])
 else (
 bif xcm .eql ph 0 then (
 bif xcm .eql ph 0 then (
 False)
 else (
 bif xcm .eql ph 2 then (
 bif xcm .geq w 4611686018427387903 then (
 False)
 else (
 K (.tup []) (rt_x_b8 me stm nq nc ns nt qc cc sc tc su en bu er lv lh lo at' ve vb vr w v h o d e) []))
 else (
 bif xcm .eql ph 3 then (
 bif xnot d then (
 K (.tup []) (rt_x_b6 me stm nq nc ns nt qc cc sc tc su en bu er lv lh lo at' now ve vb vr w v h o d e) [])
 else (
 bif xcm .eql now stm then
 False else False))
 else (
 bif xcm .eql ph 5 then (
 bif xcm .eql (xar .add .i64 (↑at') 1) ↑nc then (
 False)
 else (
 K (.tup []) (rt_x_b1 me stm nq nc ns nt qc cc sc tc su en bu er lv lh lo ph at' now ve vb vr w v h o d e) []))
 else (
 bif xcm .eql ph 6 then (
 bif xcm .eql (xar .add .i64 (↑at') 1) ↑ns then (
 K (.tup []) (rt_x_b4 me stm nq nc ns nt qc cc sc tc su bu er lv lh lo ph at' now ve vb vr w v h o d e) [])
 else (
 K (.tup []) (rt_x_b1 me stm nq nc ns nt qc cc sc tc su en bu er lv lh lo ph at' now ve vb vr w v h o d e) []))
 else (
 bif xcm .eql (xar .add .i64 (↑at') 1) ↑nt then (
 K (.tup []) (rt_x_b3 me stm nq nc ns nt qc cc sc tc su lv lh lo ph at' now ve vb vr w v h o d e) [])
 else (
 K (.tup []) (rt_x_b1 me stm nq nc ns nt qc cc sc tc su en bu er lv lh lo ph at' now ve vb vr w v h o d e) [])))))))
 else (
 bif xcm .eql ph 1 then (
 bif xcm .eql ph 1 then (
 False)
 else (
 bif xcm .eql ph 2 then (
 bif xcm .geq w 4611686018427387903 then (
 False)
 else (
 K (.tup []) (rt_x_b8 me stm nq nc ns nt qc cc sc tc su en bu er lv lh lo at' ve vb vr w v h o d e) []))
 else (
 bif xcm .eql ph 3 then (
 bif xnot d then (
 K (.tup []) (rt_x_b6 me stm nq nc ns nt qc cc sc tc su en bu er lv lh lo at' now ve vb vr w v h o d e) [])
 else (
 bif xcm .eql now stm then
 False else False))
 else (
 bif xcm .eql ph 5 then (
 bif xcm .eql (xar .add .i64 (↑at') 1) ↑nc then (
 False)
 else (
 K (.tup []) (rt_x_b1 me stm nq nc ns nt qc cc sc tc su en bu er lv lh lo ph at' now ve vb vr w v h o d e) []))
 else (
 bif xcm .eql ph 6 then (
 bif xcm .eql (xar .add .i64 (↑at') 1) ↑ns then (
 K (.tup []) (rt_x_b4 me stm nq nc ns nt qc cc sc tc su bu er lv lh lo ph at' now ve vb vr w v h o d e) [])
 else (
 K (.tup []) (rt_x_b1 me stm nq nc ns nt qc cc sc tc su en bu er lv lh lo ph at' now ve vb vr w v h o d e) []))
 else (
 bif xcm .eql (xar .add .i64 (↑at') 1) ↑nt then (
 K (.tup []) (rt_x_b3 me stm nq nc ns nt qc cc sc tc su lv lh lo ph at' now ve vb vr w v h o d e) [])
 else (
 K (.tup []) (rt_x_b1 me stm nq nc ns nt qc cc sc tc su en bu er lv lh lo ph at' now ve vb vr w v h o d e) [])))))))
 else (
 bif xcm .eql ph 4 then (
 False)
 else (
 bif xcm .eql ph 2 then (
 bif xcm .geq w 4611686018427387903 then (
 False)
 else (
 K (.tup []) (rt_x_b8 me stm nq nc ns nt qc cc sc tc su en bu er lv lh lo at' ve vb vr w v h o d e) []))
 else (
 bif xcm .eql ph 3 then (
 bif xnot d then (
 K (.tup []) (rt_x_b6 me stm nq nc ns nt qc cc sc tc su en bu er lv lh lo at' now ve vb vr w v h o d e) [])
 else (
 bif xcm .eql now stm then
 False else False))
 else (
 bif xcm .eql ph 5 then (
 bif xcm .eql (xar .add .i64 (↑at') 1) ↑nc then (
 False)
 else (
 K (.tup []) (rt_x_b1 me stm nq nc ns nt qc cc sc tc su en bu er lv lh lo ph at' now ve vb vr w v h o d e) []))
 else (
 bif xcm .eql ph 6 then (
 bif xcm .eql (xar .add .i64 (↑at') 1) ↑ns then (
 K (.tup []) (rt_x_b4 me stm nq nc ns nt qc cc sc tc su bu er lv lh lo ph at' now ve vb vr w v h o d e) [])
 else (
 K (.tup []) (rt_x_b1 me stm nq nc ns nt qc cc sc tc su en bu er lv lh lo ph at' now ve vb vr w v h o d e) []))
 else (
 bif xcm .eql (xar .add .i64 (↑at') 1) ↑nt then (
 K (.tup []) (rt_x_b3 me stm nq nc ns nt qc cc sc tc su lv lh lo ph at' now ve vb vr w v h o d e) [])
 else (
 K (.tup []) (rt_x_b1 me stm nq nc ns nt qc cc sc tc su en bu er lv lh lo ph at' now ve vb vr w v h o d e) [])))))))))))) := by kernel_rfl
theorem rn_x (me stm : Int) (nq nc ns nt : Nat) (qc cc sc tc : List LV) (su bu er lv : Int) (lh : Bool) (lo ph : Int) (at' : Nat) (now ve vb vr : Int) (K : Fk) : (xfun Go.Proofs.Try.prog cxw 60 20 [.ptr 0 0] (mkS (rE me stm nq nc ns nt qc cc sc tc su 0 bu er lv lh lo ph at' now ve vb vr)) (vF K)) = (
 bif xcm .eql ph 0 then (
 bif xle (xadd (xnat ↑at') 1) ns then bif xle (xadd (xix 0 (xnat ↑at') 1) 1) (xln sc) then bif isI .i64 (nthD sc (xix 0 (xnat ↑at') 1)) then
 K (.agg [.int .i64 3, .int .i64 (asI (nthD sc (xix 0 (xnat ↑at') 1))), .int .u64 0, .int .u64 0, .int .u64 0, .bool false, .int .i64 0, .int .u64 0, .bool false, .int .i64 0]) [some (.cells [.int .i64 me, .int .i64 su, .int .i64 0, .int .i64 er, .int .i64 bu, .int .u64 stm, .slo 1 0 nq 0, .slo 2 0 nc 0, .slo 3 0 ns 0, .slo 4 0 nt 0, .int .u64 lv, .bool lh, .int .i64 lo, .int .i64 ph, .int .i64 ↑at', .int .u64 now, .int .i64 ve, .int .i64 vr, .int .i64 vb] none), some (.cells qc (some 2)), some (.cells cc (some 2)), some (.cells sc (some 1)), some (.cells tc (some 3)), some (.cells [.int .i64 3, .int .i64 (asI (nthD sc (xix 0 (xnat ↑at') 1))), .int .u64 0, .int .u64 0, .int .u64 0, .bool false, .int .i64 0, .int .u64 0, .bool false, .int .i64 0] none)] [] else False else False else False)
 else (
 bif xcm .eql ph 1 then (
 bif xle (xadd (xnat ↑at') 1) ns then bif xle (xadd (xix 0 (xnat ↑at') 1) 1) (xln sc) then bif isI .i64 (nthD sc (xix 0 (xnat ↑at') 1)) then
 K (.agg [.int .i64 4, .int .i64 (asI (nthD sc (xix 0 (xnat ↑at') 1))), .int .u64 0, .int .u64 0, .int .u64 lv, .bool lh, .int .i64 lo, .int .u64 lv, .bool true, .int .i64 me]) [some (.cells [.int .i64 me, .int .i64 su, .int .i64 0, .int .i64 er, .int .i64 bu, .int .u64 stm, .slo 1 0 nq 0, .slo 2 0 nc 0, .slo 3 0 ns 0, .slo 4 0 nt 0, .int .u64 lv, .bool lh, .int .i64 lo, .int .i64 ph, .int .i64 ↑at', .int .u64 now, .int .i64 ve, .int .i64 vr, .int .i64 vb] none), some (.cells qc (some 2)), some (.cells cc (some 2)), some (.cells sc (some 1)), some (.cells tc (some 3)), some (.cells [.int .i64 4, .int .i64 (asI (nthD sc (xix 0 (xnat ↑at') 1))), .int .u64 0, .int .u64 0, .int .u64 lv, .bool lh, .int .i64 lo, .int .u64 lv, .bool true, .int .i64 me] none)] [] else False else False else False)
 else (
 bif xcm .eql ph 2 then (
 K (.agg [.int .i64 6, .int .i64 0, .int .u64 0, .int .u64 0, .int .u64 0, .bool false, .int .i64 0, .int .u64 0, .bool false, .int .i64 0]) [some (.cells [.int .i64 me, .int .i64 su, .int .i64 0, .int .i64 er, .int .i64 bu, .int .u64 stm, .slo 1 0 nq 0, .slo 2 0 nc 0, .slo 3 0 ns 0, .slo 4 0 nt 0, .int .u64 lv, .bool lh, .int .i64 lo, .int .i64 ph, .int .i64 ↑at', .int .u64 now, .int .i64 ve, .int .i64 vr, .int .i64 vb] none), some (.cells qc (some 2)), some (.cells cc (some 2)), some (.cells sc (some 1)), some (.cells tc (some 3)), some (.cells [.int .i64 6, .int .i64 0, .int .u64 0, .int .u64 0, .int .u64 0, .bool false, .int .i64 0, .int .u64 0, .bool false, .int .i64 0] none)] [])
 else (
 bif xcm .eql ph 3 then (
 K (.agg [.int .i64 7, .int .i64 0, .int .u64 now, .int .u64 (xar .add .u64 now 1), .int .u64 0, .bool false, .int .i64 0, .int .u64 0, .bool false, .int .i64 0]) [some (.cells [.int .i64 me, .int .i64 su, .int .i64 0, .int .i64 er, .int .i64 bu, .int .u64 stm, .slo 1 0 nq 0, .slo 2 0 nc 0, .slo 3 0 ns 0, .slo 4 0 nt 0, .int .u64 lv, .bool lh, .int .i64 lo, .int .i64 ph, .int .i64 ↑at', .int .u64 now, .int .i64 ve, .int .i64 vr, .int .i64 vb] none), some (.cells qc (some 2)), some (.cells cc (some 2)), some (.cells sc (some 1)), some (.cells tc (some 3)), some (.cells [.int .i64 7, .int .i64 0, .int .u64 now, .int .u64 (xar .add .u64 now 1), .int .u64 0, .bool false, .int .i64 0, .int .u64 0, .bool false, .int .i64 0] none)] [])
 else (
 bif xcm .eql ph 4 then (
 bif xle (xadd (xnat ↑at') 1) nq then bif xle (xadd (xix 0 (xnat ↑at') 2) 1) (xln qc) then bif isI .i64 (nthD qc (xix 0 (xnat ↑at') 2)) then
 K (.agg [.int .i64 3, .int .i64 (asI (nthD qc (xix 0 (xnat ↑at') 2))), .int .u64 0, .int .u64 0, .int .u64 0, .bool false, .int .i64 0, .int .u64 0, .bool false, .int .i64 0]) [some (.cells [.int .i64 me, .int .i64 su, .int .i64 0, .int .i64 er, .int .i64 bu, .int .u64 stm, .slo 1 0 nq 0, .slo 2 0 nc 0, .slo 3 0 ns 0, .slo 4 0 nt 0, .int .u64 lv, .bool lh, .int .i64 lo, .int .i64 ph, .int .i64 ↑at', .int .u64 now, .int .i64 ve, .int .i64 vr, .int .i64 vb] none), some (.cells qc (some 2)), some (.cells cc (some 2)), some (.cells sc (some 1)), some (.cells tc (some 3)), some (.cells [.int .i64 3, .int .i64 (asI (nthD qc (xix 0 (xnat ↑at') 2))), .int .u64 0, .int .u64 0, .int .u64 0, .bool false, .int .i64 0, .int .u64 0, .bool false, .int .i64 0] none)] [] else False else False else False)
 else (
 bif xcm .eql ph 5 then (
 bif xle (xadd (xnat ↑at') 1) nc then bif xle (xadd (xix 0 (xnat ↑at') 2) 1) (xln cc) then bif isI .i64 (nthD cc (xix 0 (xnat ↑at') 2)) then bif xle (xadd (xnat ↑at') 1) nc then bif xle (xadd (xadd (xix 0 (xnat ↑at') 2) 1) 1) (xln cc) then bif isI .u64 (nthD cc (xadd (xix 0 (xnat ↑at') 2) 1)) then
 K (.agg [.int .i64 2, .int .i64 (asI (nthD cc (xix 0 (xnat ↑at') 2))), .int .u64 0, .int .u64 (asI (nthD cc (xadd (xix 0 (xnat ↑at') 2) 1))), .int .u64 0, .bool false, .int .i64 0, .int .u64 0, .bool false, .int .i64 0]) [some (.cells [.int .i64 me, .int .i64 su, .int .i64 0, .int .i64 er, .int .i64 bu, .int .u64 stm, .slo 1 0 nq 0, .slo 2 0 nc 0, .slo 3 0 ns 0, .slo 4 0 nt 0, .int .u64 lv, .bool lh, .int .i64 lo, .int .i64 ph, .int .i64 ↑at', .int .u64 now, .int .i64 ve, .int .i64 vr, .int .i64 vb] none), some (.cells qc (some 2)), some (.cells cc (some 2)), some (.cells sc (some 1)), some (.cells tc (some 3)), some (.cells [.int .i64 2, .int .i64 (asI (nthD cc (xix 0 (xnat ↑at') 2))), .int .u64 0, .int .u64 (asI (nthD cc (xadd (xix 0 (xnat ↑at') 2) 1))), .int .u64 0, .bool false, .int .i64 0, .int .u64 0, .bool false, .int .i64 0] none)] [] else False else False else False else False else False else False)
 else (
 bif xcm .eql ph 6 then (
 bif xle (xadd (xnat ↑at') 1) ns then bif xle (xadd (xix 0 (xnat ↑at') 1) 1) (xln sc) then bif isI .i64 (nthD sc (xix 0 (xnat ↑at') 1)) then
 K (.agg [.int .i64 5, .int .i64 (asI (nthD sc (xix 0 (xnat ↑at') 1))), .int .u64 0, .int .u64 0, .int .u64 0, .bool false, .int .i64 0, .int .u64 (xar .add .u64 now 1), .bool false, .int .i64 0]) [some (.cells [.int .i64 me, .int .i64 su, .int .i64 0, .int .i64 er, .int .i64 bu, .int .u64 stm, .slo 1 0 nq 0, .slo 2 0 nc 0, .slo 3 0 ns 0, .slo 4 0 nt 0, .int .u64 lv, .bool lh, .int .i64 lo, .int .i64 ph, .int .i64 ↑at', .int .u64 now, .int .i64 ve, .int .i64 vr, .int .i64 vb] none), some (.cells qc (some 2)), some (.cells cc (some 2)), some (.cells sc (some 1)), some (.cells tc (some 3)), some (.cells [.int .i64 5, .int .i64 (asI (nthD sc (xix 0 (xnat ↑at') 1))), .int .u64 0, .int .u64 0, .int .u64 0, .bool false, .int .i64 0, .int .u64 (xar .add .u64 now 1), .bool false, .int .i64 0] none)] [] else False else False else False)
 else (
 bif xle (xadd (xnat ↑at') 1) ns then bif xle (xadd (xix 0 (xnat ↑at') 1) 1) (xln sc) then bif isI .i64 (nthD sc (xix 0 (xnat ↑at') 1)) then bif xle (xadd (xnat ↑at') 1) nt then bif xle (xadd (xix 0 (xnat ↑at') 3) 3) (xln tc) then bif isI .u64 (nthD tc (xix 0 (xnat ↑at') 3)) then bif isB (nthD tc (xadd (xix 0 (xnat ↑at') 3) 1)) then bif isI .i64 (nthD tc (xadd (xadd (xix 0 (xnat ↑at') 3) 1) 1)) then
 K (.agg [.int .i64 5, .int .i64 (asI (nthD sc (xix 0 (xnat ↑at') 1))), .int .u64 0, .int .u64 0, .int .u64 0, .bool false, .int .i64 0, .int .u64 (asI (nthD tc (xix 0 (xnat ↑at') 3))), .bool (asB (nthD tc (xadd (xix 0 (xnat ↑at') 3) 1))), .int .i64 (asI (nthD tc (xadd (xadd (xix 0 (xnat ↑at') 3) 1) 1)))]) [some (.cells [.int .i64 me, .int .i64 su, .int .i64 0, .int .i64 er, .int .i64 bu, .int .u64 stm, .slo 1 0 nq 0, .slo 2 0 nc 0, .slo 3 0 ns 0, .slo 4 0 nt 0, .int .u64 lv, .bool lh, .int .i64 lo, .int .i64 ph, .int .i64 ↑at', .int .u64 now, .int .i64 ve, .int .i64 vr, .int .i64 vb] none), some (.cells qc (some 2)), some (.cells cc (some 2)), some (.cells sc (some 1)), some (.cells tc (some 3)), some (.cells [.int .i64 5, .int .i64 (asI (nthD sc (xix 0 (xnat ↑at') 1))), .int .u64 0, .int .u64 0, .int .u64 0, .bool false, .int .i64 0, .int .u64 (asI (nthD tc (xix 0 (xnat ↑at') 3))), .bool (asB (nthD tc (xadd (xix 0 (xnat ↑at') 3) 1))), .int .i64 (asI (nthD tc (xadd (xadd (xix 0 (xnat ↑at') 3) 1) 1)))] none)] [] else False else False else False else False else False else False else False else False)))))))) := by kernel_rfl
end
end Go.Lev
