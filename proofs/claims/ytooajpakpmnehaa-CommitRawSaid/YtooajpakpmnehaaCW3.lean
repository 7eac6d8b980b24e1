/- chapter 25: goOn as a contract; trees of Tell -/
import Derived.Test.YtooajpakpmnehaaCW2
import Derived.Test.YtooajpakpmnehaaLc
import Derived.Test.YtooajpakpmnehaaChecked
import Derived.KernelRfl

namespace Go.Lev
open Go.RowKit
set_option linter.unusedVariables false
set_option linter.unusedSimpArgs false
set_option maxRecDepth 100000
noncomputable section
def mkC (tc : List LV) (su en bu er lv : Int) (lh : Bool) (lo ph a now : Int) (st : Bool) (ve vb vr : Int) : CS := ⟨decL tc, su, en, bu, er, (lv, lh, lo), ph, a.toNat, now, st, ve, vb, vr⟩

def gW (qc cc sc : List LV) (s : CS) : CS := gGo (decC qc) (decC cc).length (decIi64 sc) s

def kSu (s : CS) : Int := s.su

def kEn (s : CS) : Int := s.en

def kBu (s : CS) : Int := s.bu

def kEr (s : CS) : Int := s.er

def kLv (s : CS) : Int := s.lk.1

def kLh (s : CS) : Bool := s.lk.2.1

def kLo (s : CS) : Int := s.lk.2.2

def kPh (s : CS) : Int := s.ph

def kAt (s : CS) : Int := (s.at' : Int)

def kNow (s : CS) : Int := s.now

def kSt (s : CS) : Bool := s.st

def kVe (s : CS) : Int := s.ve

def kVb (s : CS) : Int := s.vb

def kVr (s : CS) : Int := s.vr

def kTn (s : CS) : Nat := s.tk.length

def kTc (s : CS) : List LV := encL cL s.tk

def okK (qc cc sc tc : List LV) (nq nc ns nt : Nat) : Bool := @decide (∃ (qs cs : List (Int × Int)) (ss : List Int) (tk : List Lk), (qc = encL cell qs ∧ cc = encL cell cs ∧ sc = encL (cI .i64) ss ∧ tc = encL cL tk) ∧ (nq = qs.length ∧ nc = cs.length ∧ ns = ss.length ∧ nt = tk.length) ∧ nq ≤ 1000000 ∧ nc ≤ 1000000 ∧ ns ≤ 1000000 ∧ nt ≤ ns) (Classical.propDecidable _)

theorem okK_iff {qc cc sc tc : List LV} {nq nc ns nt : Nat} : okK qc cc sc tc nq nc ns nt = true ↔ ∃ (qs cs : List (Int × Int)) (ss : List Int) (tk : List Lk), (qc = encL cell qs ∧ cc = encL cell cs ∧ sc = encL (cI .i64) ss ∧ tc = encL cL tk) ∧ (nq = qs.length ∧ nc = cs.length ∧ ns = ss.length ∧ nt = tk.length) ∧ nq ≤ 1000000 ∧ nc ≤ 1000000 ∧ ns ≤ 1000000 ∧ nt ≤ ns := by simp only [okK, decide_eq_true_eq]
theorem gGo_same (qs : List (Int × Int)) (nc : Nat) (ss : List Int) (s : CS) : (gGo qs nc ss s).tk = s.tk ∧ (gGo qs nc ss s).su = s.su ∧ (gGo qs nc ss s).lk = s.lk ∧ (gGo qs nc ss s).now = s.now := by
  have hc : ∀ f s, (gchk qs ss f s).tk = s.tk ∧ (gchk qs ss f s).su = s.su ∧ (gchk qs ss f s).lk = s.lk ∧ (gchk qs ss f s).now = s.now := by
    intro f
    induction f with
    | zero => intro s; exact ⟨rfl, rfl, rfl, rfl⟩
    | succ f ih =>
      intro s
      rw [gchk]; split
      · split
        · exact ⟨rfl, rfl, rfl, rfl⟩
        · rename_i i _
          obtain ⟨a1, a2, a3, a4⟩ := ih (gcmp qs s (s.tk.getD i d0).1)
          rw [a1, a2, a3, a4]
          unfold gcmp; split <;> exact ⟨rfl, rfl, rfl, rfl⟩
      · exact ⟨rfl, rfl, rfl, rfl⟩
  have h1 : ∀ s, (g1 ss.length s).tk = s.tk ∧ (g1 ss.length s).su = s.su ∧ (g1 ss.length s).lk = s.lk ∧ (g1 ss.length s).now = s.now := fun s => by unfold g1; split <;> exact ⟨rfl, rfl, rfl, rfl⟩
  have h3 : ∀ s, (g3 qs.length s).tk = s.tk ∧ (g3 qs.length s).su = s.su ∧ (g3 qs.length s).lk = s.lk ∧ (g3 qs.length s).now = s.now := fun s => by unfold g3; split <;> exact ⟨rfl, rfl, rfl, rfl⟩
  have h4 : ∀ s, (g4 nc s).tk = s.tk ∧ (g4 nc s).su = s.su ∧ (g4 nc s).lk = s.lk ∧ (g4 nc s).now = s.now := fun s => by unfold g4; split <;> exact ⟨rfl, rfl, rfl, rfl⟩
  have h5 : ∀ s, (g5 s).tk = s.tk ∧ (g5 s).su = s.su ∧ (g5 s).lk = s.lk ∧ (g5 s).now = s.now := fun s => by unfold g5; split <;> exact ⟨rfl, rfl, rfl, rfl⟩
  have h6 : ∀ s, (g6 s).tk = s.tk ∧ (g6 s).su = s.su ∧ (g6 s).lk = s.lk ∧ (g6 s).now = s.now := fun s => by unfold g6; split <;> exact ⟨rfl, rfl, rfl, rfl⟩
  unfold gGo
  rw [(h6 _).1, (h6 _).2.1, (h6 _).2.2.1, (h6 _).2.2.2, (h5 _).1, (h5 _).2.1, (h5 _).2.2.1, (h5 _).2.2.2, (h4 _).1, (h4 _).2.1, (h4 _).2.2.1, (h4 _).2.2.2, (h3 _).1, (h3 _).2.1, (h3 _).2.2.1, (h3 _).2.2.2]
  unfold gch
  rw [(hc _ _).1, (hc _ _).2.1, (hc _ _).2.2.1, (hc _ _).2.2.2, (h1 _).1, (h1 _).2.1, (h1 _).2.2.1, (h1 _).2.2.2]
  exact ⟨rfl, rfl, rfl, rfl⟩
abbrev cEi (me stm : Int) (nq nc ns nt : Nat) (qc cc sc tc : List LV) (su en bu er lv : Int) (lh : Bool) (lo ph a now : Int) (st : Bool) (ve vb vr : Int) : List LB := [.cells [.ptr 1 0, .int .i64 me, .int .u64 stm, .slo 2 0 nq 0, .slo 3 0 nc 0, .slo 4 0 ns 0, .slo 5 0 nt 0, .int .u64 lv, .bool lh, .int .i64 lo, .int .i64 ph, .int .i64 a, .int .u64 now, .bool st, .int .i64 ve, .int .i64 vb, .int .i64 vr] none, .cells [.int .i64 me, .int .i64 su, .int .i64 en, .int .i64 bu, .int .i64 er] none, .cells qc (some 2), .cells cc (some 2), .cells sc (some 1), .cells tc (some 3)]
theorem go_c' (me stm : Int) (nq nc ns nt : Nat) (qc cc sc tc : List LV) (su en bu er lv : Int) (lh : Bool) (lo ph a now : Int) (st : Bool) (ve vb vr : Int) (k1 : okK qc cc sc tc nq nc ns nt = true) (k2 : xnn a = true) :
    SFun Go.Proofs.Try.prog 38 [.ptr 0 0] (mkS (cEi me stm nq nc ns nt qc cc sc tc su en bu er lv lh lo ph a now st ve vb vr)) fun l t => l = .tup [] ∧ t = mkS (cEi me stm nq nc ns nt qc cc sc tc su (kEn (gW qc cc sc (mkC tc su en bu er lv lh lo ph a now st ve vb vr))) (kBu (gW qc cc sc (mkC tc su en bu er lv lh lo ph a now st ve vb vr))) (kEr (gW qc cc sc (mkC tc su en bu er lv lh lo ph a now st ve vb vr))) lv lh lo (kPh (gW qc cc sc (mkC tc su en bu er lv lh lo ph a now st ve vb vr))) (kAt (gW qc cc sc (mkC tc su en bu er lv lh lo ph a now st ve vb vr))) now (kSt (gW qc cc sc (mkC tc su en bu er lv lh lo ph a now st ve vb vr))) (kVe (gW qc cc sc (mkC tc su en bu er lv lh lo ph a now st ve vb vr))) (kVb (gW qc cc sc (mkC tc su en bu er lv lh lo ph a now st ve vb vr))) (kVr (gW qc cc sc (mkC tc su en bu er lv lh lo ph a now st ve vb vr)))) := by
  obtain ⟨qs, cs, ss, tk, ⟨rfl, rfl, rfl, rfl⟩, ⟨rfl, rfl, rfl, rfl⟩, h1, h2, h3, h4⟩ := okK_iff.1 k1
  rw [wd_nni, decide_eq_true_eq] at k2
  obtain ⟨n, rfl⟩ := Int.eq_ofNat_of_zero_le k2
  have e : gW (encL cell qs) (encL cell cs) (encL (cI .i64) ss) (mkC (encL cL tk) su en bu er lv lh lo ph (n : Int) now st ve vb vr) = gGo qs cs.length ss ⟨tk, su, en, bu, er, (lv, lh, lo), ph, n, now, st, ve, vb, vr⟩ := by
    simp only [gW, mkC, decC_enc, decIi64_enc, decL_enc, Int.toNat_natCast]
  rw [e]
  have h := go_ok me stm qs cs ss ⟨tk, su, en, bu, er, (lv, lh, lo), ph, n, now, st, ve, vb, vr⟩ h1 h3 h4
  obtain ⟨a1, a2, a3, a4⟩ := gGo_same qs cs.length ss ⟨tk, su, en, bu, er, (lv, lh, lo), ph, n, now, st, ve, vb, vr⟩
  simp only [cES, a1, a2, a3, a4] at h
  exact h
def goG : Gc := fun args s => match args, s.g with
  | [.ptr b 0], [] => (match s.h.get b with
    | some (.cells [.ptr k 0, .int .i64 me, .int .u64 stm, .slo q 0 nq 0, .slo d 0 nc 0, .slo f 0 ns 0, .slo g 0 nt 0, .int .u64 lv, .bool lh, .int .i64 lo, .int .i64 ph, .int .i64 a, .int .u64 now, .bool st, .int .i64 ve, .int .i64 vb, .int .i64 vr] none) => (match s.h.get k with
      | some (.cells [.int .i64 me', .int .i64 su, .int .i64 en, .int .i64 bu, .int .i64 er] none) => (match s.h.get q with
        | some (.cells qc (some 2)) => (match s.h.get d with
          | some (.cells cc (some 2)) => (match s.h.get f with
            | some (.cells sc (some 1)) => (match s.h.get g with
              | some (.cells tc (some 3)) => cond (nodupB [b, k, q, d, f, g]) (match s.lay [b, k, q, d, f, g] [.cells [.ptr k 0, .int .i64 me, .int .u64 stm, .slo q 0 nq 0, .slo d 0 nc 0, .slo f 0 ns 0, .slo g 0 nt 0, .int .u64 lv, .bool lh, .int .i64 lo, .int .i64 (kPh (gW qc cc sc (mkC tc su en bu er lv lh lo ph a now st ve vb vr))), .int .i64 (kAt (gW qc cc sc (mkC tc su en bu er lv lh lo ph a now st ve vb vr))), .int .u64 now, .bool (kSt (gW qc cc sc (mkC tc su en bu er lv lh lo ph a now st ve vb vr))), .int .i64 (kVe (gW qc cc sc (mkC tc su en bu er lv lh lo ph a now st ve vb vr))), .int .i64 (kVb (gW qc cc sc (mkC tc su en bu er lv lh lo ph a now st ve vb vr))), .int .i64 (kVr (gW qc cc sc (mkC tc su en bu er lv lh lo ph a now st ve vb vr)))] none, .cells [.int .i64 me', .int .i64 su, .int .i64 (kEn (gW qc cc sc (mkC tc su en bu er lv lh lo ph a now st ve vb vr))), .int .i64 (kBu (gW qc cc sc (mkC tc su en bu er lv lh lo ph a now st ve vb vr))), .int .i64 (kEr (gW qc cc sc (mkC tc su en bu er lv lh lo ph a now st ve vb vr)))] none, .cells qc (some 2), .cells cc (some 2), .cells sc (some 1), .cells tc (some 3)] [] with
                | some s' => some ([okK qc cc sc tc nq nc ns nt, xnn a, xcm .eql me me'], .tup [], s')
                | none => none) none
              | _ => none)
            | _ => none)
          | _ => none)
        | _ => none)
      | _ => none)
    | _ => none)
  | _, _ => none
theorem goG_ok : GOk Go.Proofs.Try.prog 38 goG := by
  intro args s bs l s' hg hb hfr
  unfold goG at hg
  split at hg
  · rename_i b hgl
    split at hg
    · rename_i k me stm q nq d nc f ns g nt lv lh lo ph a now st ve vb vr hb0
      split at hg
      · rename_i me' su en bu er hb1
        split at hg
        · rename_i qc hb2
          split at hg
          · rename_i cc hb3
            split at hg
            · rename_i sc hb4
              split at hg
              · rename_i tc hb5
                cases hbc : nodupB [b, k, q, d, f, g] with
                | false => rw [hbc] at hg; cases hg
                | true =>
                  rw [hbc] at hg
                  simp only [cond_true] at hg
                  split at hg
                  · rename_i s1 hs1
                    simp only [Option.some.injEq, Prod.mk.injEq] at hg
                    obtain ⟨rfl, rfl, rfl⟩ := hg
                    simp only [allT_cons] at hb
                    obtain ⟨k1, k2, k3, _⟩ := hb
                    have no : noIds qc = true := by obtain ⟨_, _, _, _, ⟨e, _, _, _⟩, _⟩ := okK_iff.1 k1; rw [e]; exact noids_c _
                    have no2 : noIds cc = true := by obtain ⟨_, _, _, _, ⟨_, e, _, _⟩, _⟩ := okK_iff.1 k1; rw [e]; exact noids_c _
                    have no3 : noIds sc = true := by obtain ⟨_, _, _, _, ⟨_, _, e, _⟩, _⟩ := okK_iff.1 k1; rw [e]; exact noIds_Ii64 _
                    have no4 : noIds tc = true := by obtain ⟨_, _, _, _, ⟨_, _, _, e⟩, _⟩ := okK_iff.1 k1; rw [e]; exact noids_l _
                    have e3 : me = me' := by simpa [xcm_eql] using k3
                    refine SFun.lay (bs := [.cells [.ptr 1 0, .int .i64 me, .int .u64 stm, .slo 2 0 nq 0, .slo 3 0 nc 0, .slo 4 0 ns 0, .slo 5 0 nt 0, .int .u64 lv, .bool lh, .int .i64 lo, .int .i64 ph, .int .i64 a, .int .u64 now, .bool st, .int .i64 ve, .int .i64 vb, .int .i64 vr] none, .cells [.int .i64 me', .int .i64 su, .int .i64 en, .int .i64 bu, .int .i64 er] none, .cells qc (some 2), .cells cc (some 2), .cells sc (some 1), .cells tc (some 3)]) (args0 := [.ptr 0 0]) (bs' := [.cells [.ptr 1 0, .int .i64 me, .int .u64 stm, .slo 2 0 nq 0, .slo 3 0 nc 0, .slo 4 0 ns 0, .slo 5 0 nt 0, .int .u64 lv, .bool lh, .int .i64 lo, .int .i64 (kPh (gW qc cc sc (mkC tc su en bu er lv lh lo ph a now st ve vb vr))), .int .i64 (kAt (gW qc cc sc (mkC tc su en bu er lv lh lo ph a now st ve vb vr))), .int .u64 now, .bool (kSt (gW qc cc sc (mkC tc su en bu er lv lh lo ph a now st ve vb vr))), .int .i64 (kVe (gW qc cc sc (mkC tc su en bu er lv lh lo ph a now st ve vb vr))), .int .i64 (kVb (gW qc cc sc (mkC tc su en bu er lv lh lo ph a now st ve vb vr))), .int .i64 (kVr (gW qc cc sc (mkC tc su en bu er lv lh lo ph a now st ve vb vr)))] none, .cells [.int .i64 me', .int .i64 su, .int .i64 (kEn (gW qc cc sc (mkC tc su en bu er lv lh lo ph a now st ve vb vr))), .int .i64 (kBu (gW qc cc sc (mkC tc su en bu er lv lh lo ph a now st ve vb vr))), .int .i64 (kEr (gW qc cc sc (mkC tc su en bu er lv lh lo ph a now st ve vb vr)))] none, .cells qc (some 2), .cells cc (some 2), .cells sc (some 1), .cells tc (some 3)]) (v0 := .tup []) hfr hs1 (nodupB_nd hbc)
                      ⟨⟨there hfr hb0, _, hb0, by first | exact lb_same rfl | exact lb_cells (lws_cons (lw_ptr rfl) (lws_cons (lw_int) (lws_cons (lw_int) (lws_cons (lw_slo rfl) (lws_cons (lw_slo rfl) (lws_cons (lw_slo rfl) (lws_cons (lw_slo rfl) (lws_cons (lw_int) (lws_cons (lw_bool) (lws_cons (lw_int) (lws_cons (lw_int) (lws_cons (lw_int) (lws_cons (lw_int) (lws_cons (lw_bool) (lws_cons (lw_int) (lws_cons (lw_int) (lws_cons (lw_int) lws_nil))))))))))))))))) (by simp), fun κ hκ => lb_cells (lws_cons (lw_ptr (hκ 1 k rfl)) (lws_cons (lw_int) (lws_cons (lw_int) (lws_cons (lw_slo (hκ 2 q rfl)) (lws_cons (lw_slo (hκ 3 d rfl)) (lws_cons (lw_slo (hκ 4 f rfl)) (lws_cons (lw_slo (hκ 5 g rfl)) (lws_cons (lw_int) (lws_cons (lw_bool) (lws_cons (lw_int) (lws_cons (lw_int) (lws_cons (lw_int) (lws_cons (lw_int) (lws_cons (lw_bool) (lws_cons (lw_int) (lws_cons (lw_int) (lws_cons (lw_int) lws_nil))))))))))))))))) (by simp)⟩, ⟨there hfr hb1, _, hb1, by first | exact lb_same rfl | exact lb_cells (lws_cons (lw_int) (lws_cons (lw_int) (lws_cons (lw_int) (lws_cons (lw_int) (lws_cons (lw_int) lws_nil))))) (by simp), fun κ hκ => lb_cells (lws_cons (lw_int) (lws_cons (lw_int) (lws_cons (lw_int) (lws_cons (lw_int) (lws_cons (lw_int) lws_nil))))) (by simp)⟩, ⟨there hfr hb2, _, hb2, lb_same (by (first | assumption | exact noIds_tab (fun _ => rfl) _ _ | exact noIds_encL (fun _ => rfl) _ | rfl)), fun κ hκ => lb_same (by (first | assumption | exact noIds_tab (fun _ => rfl) _ _ | exact noIds_encL (fun _ => rfl) _ | rfl))⟩, ⟨there hfr hb3, _, hb3, lb_same (by (first | assumption | exact noIds_tab (fun _ => rfl) _ _ | exact noIds_encL (fun _ => rfl) _ | rfl)), fun κ hκ => lb_same (by (first | assumption | exact noIds_tab (fun _ => rfl) _ _ | exact noIds_encL (fun _ => rfl) _ | rfl))⟩, ⟨there hfr hb4, _, hb4, lb_same (by (first | assumption | exact noIds_tab (fun _ => rfl) _ _ | exact noIds_encL (fun _ => rfl) _ | rfl)), fun κ hκ => lb_same (by (first | assumption | exact noIds_tab (fun _ => rfl) _ _ | exact noIds_encL (fun _ => rfl) _ | rfl))⟩, ⟨there hfr hb5, _, hb5, lb_same (by (first | assumption | exact noIds_tab (fun _ => rfl) _ _ | exact noIds_encL (fun _ => rfl) _ | rfl)), fun κ hκ => lb_same (by (first | assumption | exact noIds_tab (fun _ => rfl) _ _ | exact noIds_encL (fun _ => rfl) _ | rfl))⟩, trivial⟩ (by ((repeat refine lws_cons (by (first | exact lw_any | exact lw_int | exact lw_bool | exact lw_ptr rfl | exact lw_slo rfl | exact lw_nilp | exact lw_nils | exact lw_str | exact lw_slo_nils | exact lw_slo_sle | exact lw_sl rfl | exact lw_unb | exact lw_gptr | exact lw_noid rfl | exact lw_cap rfl (Nat.le_refl _) | exact lw_cap rfl (by omega) | assumption | exact lw_tup (by ((repeat refine lws_cons (by (first | exact lw_any | exact lw_int | exact lw_bool | exact lw_ptr rfl | exact lw_slo rfl | exact lw_nilp | exact lw_nils | exact lw_str | exact lw_slo_nils | exact lw_slo_sle | exact lw_sl rfl | exact lw_unb | exact lw_gptr | exact lw_noid rfl | exact lw_cap rfl (Nat.le_refl _) | exact lw_cap rfl (by omega) | assumption)) ?_); exact lws_nil)))) ?_); exact lws_nil)) ?_
                      fun κ h1 h2 => ⟨⟨lb_cells (lws_cons (lw_ptr (h1 1 k rfl)) (lws_cons (lw_int) (lws_cons (lw_int) (lws_cons (lw_slo (h1 2 q rfl)) (lws_cons (lw_slo (h1 3 d rfl)) (lws_cons (lw_slo (h1 4 f rfl)) (lws_cons (lw_slo (h1 5 g rfl)) (lws_cons (lw_int) (lws_cons (lw_bool) (lws_cons (lw_int) (lws_cons (lw_int) (lws_cons (lw_int) (lws_cons (lw_int) (lws_cons (lw_bool) (lws_cons (lw_int) (lws_cons (lw_int) (lws_cons (lw_int) lws_nil))))))))))))))))) (by simp), lb_cells (lws_cons (lw_int) (lws_cons (lw_int) (lws_cons (lw_int) (lws_cons (lw_int) (lws_cons (lw_int) lws_nil))))) (by simp), lb_same (by (first | assumption | exact noIds_tab (fun _ => rfl) _ _ | exact noIds_encL (fun _ => rfl) _ | rfl)), lb_same (by (first | assumption | exact noIds_tab (fun _ => rfl) _ _ | exact noIds_encL (fun _ => rfl) _ | rfl)), lb_same (by (first | assumption | exact noIds_tab (fun _ => rfl) _ _ | exact noIds_encL (fun _ => rfl) _ | rfl)), lb_same (by (first | assumption | exact noIds_tab (fun _ => rfl) _ _ | exact noIds_encL (fun _ => rfl) _ | rfl)), trivial⟩, lw_noid rfl⟩
                    rw [hgl]; exact (by rw [← e3]; exact go_c' me stm nq nc ns nt qc cc sc tc su en bu er lv lh lo ph a now st ve vb vr k1 k2)
                  · cases hg
              · cases hg
            · cases hg
          · cases hg
        · cases hg
      · cases hg
    · cases hg
  · cases hg
def cxg : Cx := cxl [(38, goG)]
def dumG : Gc := fun _ s => some ([false], .tup [], s)
def cxgd : Cx := cxl [(38, goG), (42, dumG), (43, dumG), (44, dumG), (45, dumG), (46, dumG)]
abbrev ansC (w v : Int) (h : Bool) (o : Int) (d : Bool) (e : Int) : List LV := [.int .u64 w, .int .u64 v, .bool h, .int .i64 o, .bool d, .int .i64 e]
abbrev tl_x_b1 (me : Int) (stm : Int) (nq : Nat) (nc : Nat) (ns : Nat) (nt : Nat) (qc : List LV) (cc : List LV) (sc : List LV) (tc : List LV) (su : Int) (en : Int) (bu : Int) (er : Int) (lv : Int) (lh : Bool) (lo : Int) (ph : Int) (at' : Nat) (now : Int) (st : Bool) (ve : Int) (vb : Int) (vr : Int) (w : Int) (v : Int) (h : Bool) (o : Int) (d : Bool) (e : Int) : List (Option LB) := [some (.cells [.ptr 1 0, .int .i64 me, .int .u64 stm, .slo 2 0 nq 0, .slo 3 0 nc 0, .slo 4 0 ns 0, .slo 5 0 nt 0, .int .u64 lv, .bool lh, .int .i64 lo, .int .i64 ph, .int .i64 ↑at', .int .u64 now, .bool st, .int .i64 ve, .int .i64 vb, .int .i64 vr] none), some (.cells [.int .i64 me, .int .i64 su, .int .i64 en, .int .i64 bu, .int .i64 er] none), some (.cells qc (some 2)), some (.cells cc (some 2)), some (.cells sc (some 1)), some (.cells tc (some 3)), some (.cells [.int .u64 w, .int .u64 v, .bool h, .int .i64 o, .bool d, .int .i64 e] none)]
theorem tl_x (me stm : Int) (nq nc ns nt : Nat) (qc cc sc tc : List LV) (su en bu er lv : Int) (lh : Bool) (lo ph : Int) (at' : Nat) (now : Int) (st : Bool) (ve vb vr : Int) (w v : Int) (h : Bool) (o : Int) (d : Bool) (e : Int) (K : Fk) : (xfun Go.Proofs.Try.prog cxgd 60 11 [.ptr 0 0, .agg (ansC w v h o d e)] (mkS (cE me stm nq nc ns nt qc cc sc tc su en bu er lv lh lo ph at' now st ve vb vr)) (vF K)) = (
 bif xnot (xcm .eql en 0) then (
 K (.tup []) (tl_x_b1 me stm nq nc ns nt qc cc sc tc su en bu er lv lh lo ph at' now st ve vb vr w v h o d e) [])
 else (
 bif xcm .neq e 0 then (
 bif xcm .neq e 0 then (
 K (.tup []) [some (.cells [.ptr 1 0, .int .i64 me, .int .u64 stm, .slo 2 0 nq 0, .slo 3 0 nc 0, .slo 4 0 ns 0, .slo 5 0 nt 0, .int .u64 lv, .bool lh, .int .i64 lo, .int .i64 ph, .int .i64 ↑at', .int .u64 now, .bool st, .int .i64 ve, .int .i64 vb, .int .i64 vr] none), some (.cells [.int .i64 me, .int .i64 su, .int .i64 4, .int .i64 (-1), .int .i64 e] none), some (.cells qc (some 2)), some (.cells cc (some 2)), some (.cells sc (some 1)), some (.cells tc (some 3)), some (.cells [.int .u64 w, .int .u64 v, .bool h, .int .i64 o, .bool d, .int .i64 e] none)] [])
 else (
 bif xcm .eql ph 0 then (
 False)
 else (
 bif xcm .eql ph 1 then (
 False)
 else (
 bif xcm .eql ph 2 then (
 False)
 else (
 bif xcm .eql ph 3 then (
 False)
 else (
 bif xcm .eql ph 4 then (
 False)
 else (
 K (.tup []) [some (.cells [.ptr 1 0, .int .i64 me, .int .u64 stm, .slo 2 0 nq 0, .slo 3 0 nc 0, .slo 4 0 ns 0, .slo 5 0 nt 0, .int .u64 lv, .bool lh, .int .i64 lo, .int .i64 ph, .int .i64 (xar .add .i64 (↑at') 1), .int .u64 now, .bool st, .int .i64 ve, .int .i64 vb, .int .i64 vr] none), some (.cells [.int .i64 me, .int .i64 su, .int .i64 4, .int .i64 (-1), .int .i64 e] none), some (.cells qc (some 2)), some (.cells cc (some 2)), some (.cells sc (some 1)), some (.cells tc (some 3)), some (.cells [.int .u64 w, .int .u64 v, .bool h, .int .i64 o, .bool d, .int .i64 e] none)] [])))))))
 else (
 bif xcm .neq e 0 then (
 K (.tup []) (tl_x_b1 me stm nq nc ns nt qc cc sc tc su en bu er lv lh lo ph at' now st ve vb vr w v h o d e) [])
 else (
 bif xcm .eql ph 0 then (
 False)
 else (
 bif xcm .eql ph 1 then (
 False)
 else (
 bif xcm .eql ph 2 then (
 False)
 else (
 bif xcm .eql ph 3 then (
 False)
 else (
 bif xcm .eql ph 4 then (
 False)
 else (
 bif xcm .eql en 0 then (
 bif okK qc cc sc tc nq nc ns nt then bif xnn (xar .add .i64 (↑at') 1) then bif xcm .eql me me then
 K (.tup []) [some (.cells [.ptr 1 0, .int .i64 me, .int .u64 stm, .slo 2 0 nq 0, .slo 3 0 nc 0, .slo 4 0 ns 0, .slo 5 0 nt 0, .int .u64 lv, .bool lh, .int .i64 lo, .int .i64 (kPh (gW qc cc sc (mkC tc su en bu er lv lh lo ph (xar .add .i64 (↑at') 1) now st ve vb vr))), .int .i64 (kAt (gW qc cc sc (mkC tc su en bu er lv lh lo ph (xar .add .i64 (↑at') 1) now st ve vb vr))), .int .u64 now, .bool (kSt (gW qc cc sc (mkC tc su en bu er lv lh lo ph (xar .add .i64 (↑at') 1) now st ve vb vr))), .int .i64 (kVe (gW qc cc sc (mkC tc su en bu er lv lh lo ph (xar .add .i64 (↑at') 1) now st ve vb vr))), .int .i64 (kVb (gW qc cc sc (mkC tc su en bu er lv lh lo ph (xar .add .i64 (↑at') 1) now st ve vb vr))), .int .i64 (kVr (gW qc cc sc (mkC tc su en bu er lv lh lo ph (xar .add .i64 (↑at') 1) now st ve vb vr)))] none), some (.cells [.int .i64 me, .int .i64 su, .int .i64 (kEn (gW qc cc sc (mkC tc su en bu er lv lh lo ph (xar .add .i64 (↑at') 1) now st ve vb vr))), .int .i64 (kBu (gW qc cc sc (mkC tc su en bu er lv lh lo ph (xar .add .i64 (↑at') 1) now st ve vb vr))), .int .i64 (kEr (gW qc cc sc (mkC tc su en bu er lv lh lo ph (xar .add .i64 (↑at') 1) now st ve vb vr)))] none), some (.cells qc (some 2)), some (.cells cc (some 2)), some (.cells sc (some 1)), some (.cells tc (some 3)), some (.cells [.int .u64 w, .int .u64 v, .bool h, .int .i64 o, .bool d, .int .i64 e] none)] [] else False else False else False)
 else (
 K (.tup []) [some (.cells [.ptr 1 0, .int .i64 me, .int .u64 stm, .slo 2 0 nq 0, .slo 3 0 nc 0, .slo 4 0 ns 0, .slo 5 0 nt 0, .int .u64 lv, .bool lh, .int .i64 lo, .int .i64 ph, .int .i64 (xar .add .i64 (↑at') 1), .int .u64 now, .bool st, .int .i64 ve, .int .i64 vb, .int .i64 vr] none), some (.cells [.int .i64 me, .int .i64 su, .int .i64 en, .int .i64 bu, .int .i64 er] none), some (.cells qc (some 2)), some (.cells cc (some 2)), some (.cells sc (some 1)), some (.cells tc (some 3)), some (.cells [.int .u64 w, .int .u64 v, .bool h, .int .i64 o, .bool d, .int .i64 e] none)] [])))))))))) := by kernel_rfl
theorem tl_0 (me stm : Int) (nq nc ns nt : Nat) (qc cc sc tc : List LV) (su bu er lv : Int) (lh : Bool) (lo : Int) (at' : Nat) (now : Int) (st : Bool) (ve vb vr : Int) (w v : Int) (h : Bool) (o : Int) (d : Bool) (K : Fk) : (xfun Go.Proofs.Try.prog cxg 60 11 [.ptr 0 0, .agg (ansC w v h o d 0)] (mkS (cE me stm nq nc ns nt qc cc sc tc su 0 bu er lv lh lo 0 at' now st ve vb vr)) (vF K)) = (
 bif h then (
 bif xcm .gtr o me then (
 bif okK qc cc sc tc nq nc ns nt then bif xcm .eql me me then
 K (.tup []) [some (.cells [.ptr 1 0, .int .i64 me, .int .u64 stm, .slo 2 0 nq 0, .slo 3 0 nc 0, .slo 4 0 ns 0, .slo 5 0 nt 0, .int .u64 lv, .bool lh, .int .i64 lo, .int .i64 (kPh (gW qc cc sc (mkC tc su 0 bu er lv lh lo 0 (↑at') now st ve vb vr))), .int .i64 (kAt (gW qc cc sc (mkC tc su 0 bu er lv lh lo 0 (↑at') now st ve vb vr))), .int .u64 now, .bool (kSt (gW qc cc sc (mkC tc su 0 bu er lv lh lo 0 (↑at') now st ve vb vr))), .int .i64 (kVe (gW qc cc sc (mkC tc su 0 bu er lv lh lo 0 (↑at') now st ve vb vr))), .int .i64 (kVb (gW qc cc sc (mkC tc su 0 bu er lv lh lo 0 (↑at') now st ve vb vr))), .int .i64 (kVr (gW qc cc sc (mkC tc su 0 bu er lv lh lo 0 (↑at') now st ve vb vr)))] none), some (.cells [.int .i64 me, .int .i64 su, .int .i64 (kEn (gW qc cc sc (mkC tc su 0 bu er lv lh lo 0 (↑at') now st ve vb vr))), .int .i64 (kBu (gW qc cc sc (mkC tc su 0 bu er lv lh lo 0 (↑at') now st ve vb vr))), .int .i64 (kEr (gW qc cc sc (mkC tc su 0 bu er lv lh lo 0 (↑at') now st ve vb vr)))] none), some (.cells qc (some 2)), some (.cells cc (some 2)), some (.cells sc (some 1)), some (.cells tc (some 3)), some (.cells [.int .u64 w, .int .u64 v, .bool h, .int .i64 o, .bool d, .int .i64 0] none), some (.cells [.int .u64 v, .bool h, .int .i64 o] none)] [] else False else False)
 else (
 bif xcm .eql su 0 then (
 bif okK qc cc sc tc nq nc ns nt then bif xcm .eql me me then
 K (.tup []) [some (.cells [.ptr 1 0, .int .i64 me, .int .u64 stm, .slo 2 0 nq 0, .slo 3 0 nc 0, .slo 4 0 ns 0, .slo 5 0 nt 0, .int .u64 lv, .bool lh, .int .i64 lo, .int .i64 (kPh (gW qc cc sc (mkC tc su 0 bu er lv lh lo 7 0 now st 5 o 0))), .int .i64 (kAt (gW qc cc sc (mkC tc su 0 bu er lv lh lo 7 0 now st 5 o 0))), .int .u64 now, .bool (kSt (gW qc cc sc (mkC tc su 0 bu er lv lh lo 7 0 now st 5 o 0))), .int .i64 (kVe (gW qc cc sc (mkC tc su 0 bu er lv lh lo 7 0 now st 5 o 0))), .int .i64 (kVb (gW qc cc sc (mkC tc su 0 bu er lv lh lo 7 0 now st 5 o 0))), .int .i64 (kVr (gW qc cc sc (mkC tc su 0 bu er lv lh lo 7 0 now st 5 o 0)))] none), some (.cells [.int .i64 me, .int .i64 su, .int .i64 (kEn (gW qc cc sc (mkC tc su 0 bu er lv lh lo 7 0 now st 5 o 0))), .int .i64 (kBu (gW qc cc sc (mkC tc su 0 bu er lv lh lo 7 0 now st 5 o 0))), .int .i64 (kEr (gW qc cc sc (mkC tc su 0 bu er lv lh lo 7 0 now st 5 o 0)))] none), some (.cells qc (some 2)), some (.cells cc (some 2)), some (.cells sc (some 1)), some (.cells tc (some 3)), some (.cells [.int .u64 w, .int .u64 v, .bool h, .int .i64 o, .bool d, .int .i64 0] none), some (.cells [.int .u64 v, .bool h, .int .i64 o] none), some (.cells [.int .i64 5, .int .i64 o, .int .i64 0] none)] [] else False else False)
 else (
 bif okK qc cc sc tc nq nc ns nt then bif xcm .eql me me then
 K (.tup []) [some (.cells [.ptr 1 0, .int .i64 me, .int .u64 stm, .slo 2 0 nq 0, .slo 3 0 nc 0, .slo 4 0 ns 0, .slo 5 0 nt 0, .int .u64 lv, .bool lh, .int .i64 lo, .int .i64 (kPh (gW qc cc sc (mkC tc (xar .sub .i64 su 1) 0 bu er lv lh lo 0 (↑at') now st ve vb vr))), .int .i64 (kAt (gW qc cc sc (mkC tc (xar .sub .i64 su 1) 0 bu er lv lh lo 0 (↑at') now st ve vb vr))), .int .u64 now, .bool (kSt (gW qc cc sc (mkC tc (xar .sub .i64 su 1) 0 bu er lv lh lo 0 (↑at') now st ve vb vr))), .int .i64 (kVe (gW qc cc sc (mkC tc (xar .sub .i64 su 1) 0 bu er lv lh lo 0 (↑at') now st ve vb vr))), .int .i64 (kVb (gW qc cc sc (mkC tc (xar .sub .i64 su 1) 0 bu er lv lh lo 0 (↑at') now st ve vb vr))), .int .i64 (kVr (gW qc cc sc (mkC tc (xar .sub .i64 su 1) 0 bu er lv lh lo 0 (↑at') now st ve vb vr)))] none), some (.cells [.int .i64 me, .int .i64 (xar .sub .i64 su 1), .int .i64 (kEn (gW qc cc sc (mkC tc (xar .sub .i64 su 1) 0 bu er lv lh lo 0 (↑at') now st ve vb vr))), .int .i64 (kBu (gW qc cc sc (mkC tc (xar .sub .i64 su 1) 0 bu er lv lh lo 0 (↑at') now st ve vb vr))), .int .i64 (kEr (gW qc cc sc (mkC tc (xar .sub .i64 su 1) 0 bu er lv lh lo 0 (↑at') now st ve vb vr)))] none), some (.cells qc (some 2)), some (.cells cc (some 2)), some (.cells sc (some 1)), some (.cells tc (some 3)), some (.cells [.int .u64 w, .int .u64 v, .bool h, .int .i64 o, .bool d, .int .i64 0] none), some (.cells [.int .u64 v, .bool h, .int .i64 o] none)] [] else False else False)))
 else (
 bif okK qc cc sc tc nq nc ns nt then bif xcm .eql me me then
 K (.tup []) [some (.cells [.ptr 1 0, .int .i64 me, .int .u64 stm, .slo 2 0 nq 0, .slo 3 0 nc 0, .slo 4 0 ns 0, .slo 5 0 nt 0, .int .u64 v, .bool h, .int .i64 o, .int .i64 (kPh (gW qc cc sc (mkC tc su 0 bu er v h o 1 (↑at') now st ve vb vr))), .int .i64 (kAt (gW qc cc sc (mkC tc su 0 bu er v h o 1 (↑at') now st ve vb vr))), .int .u64 now, .bool (kSt (gW qc cc sc (mkC tc su 0 bu er v h o 1 (↑at') now st ve vb vr))), .int .i64 (kVe (gW qc cc sc (mkC tc su 0 bu er v h o 1 (↑at') now st ve vb vr))), .int .i64 (kVb (gW qc cc sc (mkC tc su 0 bu er v h o 1 (↑at') now st ve vb vr))), .int .i64 (kVr (gW qc cc sc (mkC tc su 0 bu er v h o 1 (↑at') now st ve vb vr)))] none), some (.cells [.int .i64 me, .int .i64 su, .int .i64 (kEn (gW qc cc sc (mkC tc su 0 bu er v h o 1 (↑at') now st ve vb vr))), .int .i64 (kBu (gW qc cc sc (mkC tc su 0 bu er v h o 1 (↑at') now st ve vb vr))), .int .i64 (kEr (gW qc cc sc (mkC tc su 0 bu er v h o 1 (↑at') now st ve vb vr)))] none), some (.cells qc (some 2)), some (.cells cc (some 2)), some (.cells sc (some 1)), some (.cells tc (some 3)), some (.cells [.int .u64 w, .int .u64 v, .bool h, .int .i64 o, .bool d, .int .i64 0] none), some (.cells [.int .u64 v, .bool h, .int .i64 o] none)] [] else False else False)) := by kernel_rfl
theorem tl_1 (me stm : Int) (nq nc ns nt : Nat) (qc cc sc tc : List LV) (su bu er lv : Int) (lh : Bool) (lo : Int) (at' : Nat) (now : Int) (st : Bool) (ve vb vr : Int) (w v : Int) (h : Bool) (o : Int) (d : Bool) (K : Fk) : (xfun Go.Proofs.Try.prog cxg 60 11 [.ptr 0 0, .agg (ansC w v h o d 0)] (mkS (cE me stm nq nc ns nt qc cc sc tc su 0 bu er lv lh lo 1 at' now st ve vb vr)) (vF K)) = (
 bif d then (
 bif xle (xadd nt 1) 1000000 then bif xle (xadd 0 (xmul nt 3)) (xln tc) then bif xeq nt nt then bif xeq nt nt then bif okK qc cc sc (xcat (xcut tc 0 (xmul nt 3)) [.int .u64 lv, .bool lh, .int .i64 lo]) nq nc ns (xadd nt 1) then bif xnn (xar .add .i64 (↑at') 1) then bif xcm .eql me me then
 K (.tup []) [some (.cells [.ptr 1 0, .int .i64 me, .int .u64 stm, .slo 2 0 nq 0, .slo 3 0 nc 0, .slo 4 0 ns 0, .slo 8 0 (xadd nt 1) 0, .int .u64 lv, .bool lh, .int .i64 lo, .int .i64 (kPh (gW qc cc sc (mkC (xcat (xcut tc 0 (xmul nt 3)) [.int .u64 lv, .bool lh, .int .i64 lo]) su 0 bu er lv lh lo 0 (xar .add .i64 (↑at') 1) now st ve vb vr))), .int .i64 (kAt (gW qc cc sc (mkC (xcat (xcut tc 0 (xmul nt 3)) [.int .u64 lv, .bool lh, .int .i64 lo]) su 0 bu er lv lh lo 0 (xar .add .i64 (↑at') 1) now st ve vb vr))), .int .u64 now, .bool (kSt (gW qc cc sc (mkC (xcat (xcut tc 0 (xmul nt 3)) [.int .u64 lv, .bool lh, .int .i64 lo]) su 0 bu er lv lh lo 0 (xar .add .i64 (↑at') 1) now st ve vb vr))), .int .i64 (kVe (gW qc cc sc (mkC (xcat (xcut tc 0 (xmul nt 3)) [.int .u64 lv, .bool lh, .int .i64 lo]) su 0 bu er lv lh lo 0 (xar .add .i64 (↑at') 1) now st ve vb vr))), .int .i64 (kVb (gW qc cc sc (mkC (xcat (xcut tc 0 (xmul nt 3)) [.int .u64 lv, .bool lh, .int .i64 lo]) su 0 bu er lv lh lo 0 (xar .add .i64 (↑at') 1) now st ve vb vr))), .int .i64 (kVr (gW qc cc sc (mkC (xcat (xcut tc 0 (xmul nt 3)) [.int .u64 lv, .bool lh, .int .i64 lo]) su 0 bu er lv lh lo 0 (xar .add .i64 (↑at') 1) now st ve vb vr)))] none), some (.cells [.int .i64 me, .int .i64 su, .int .i64 (kEn (gW qc cc sc (mkC (xcat (xcut tc 0 (xmul nt 3)) [.int .u64 lv, .bool lh, .int .i64 lo]) su 0 bu er lv lh lo 0 (xar .add .i64 (↑at') 1) now st ve vb vr))), .int .i64 (kBu (gW qc cc sc (mkC (xcat (xcut tc 0 (xmul nt 3)) [.int .u64 lv, .bool lh, .int .i64 lo]) su 0 bu er lv lh lo 0 (xar .add .i64 (↑at') 1) now st ve vb vr))), .int .i64 (kEr (gW qc cc sc (mkC (xcat (xcut tc 0 (xmul nt 3)) [.int .u64 lv, .bool lh, .int .i64 lo]) su 0 bu er lv lh lo 0 (xar .add .i64 (↑at') 1) now st ve vb vr)))] none), some (.cells qc (some 2)), some (.cells cc (some 2)), some (.cells sc (some 1)), some .dead, some (.cells [.int .u64 w, .int .u64 v, .bool h, .int .i64 o, .bool d, .int .i64 0] none), some (.cells [.int .u64 lv, .bool lh, .int .i64 lo] none), some (.cells (xcat (xcut tc 0 (xmul nt 3)) [.int .u64 lv, .bool lh, .int .i64 lo]) (some 3))] [] else False else False else False else False else False else False else False)
 else (
 bif okK qc cc sc tc nq nc ns nt then bif xcm .eql me me then
 K (.tup []) [some (.cells [.ptr 1 0, .int .i64 me, .int .u64 stm, .slo 2 0 nq 0, .slo 3 0 nc 0, .slo 4 0 ns 0, .slo 5 0 nt 0, .int .u64 lv, .bool lh, .int .i64 lo, .int .i64 (kPh (gW qc cc sc (mkC tc su 0 bu er lv lh lo 0 (↑at') now st ve vb vr))), .int .i64 (kAt (gW qc cc sc (mkC tc su 0 bu er lv lh lo 0 (↑at') now st ve vb vr))), .int .u64 now, .bool (kSt (gW qc cc sc (mkC tc su 0 bu er lv lh lo 0 (↑at') now st ve vb vr))), .int .i64 (kVe (gW qc cc sc (mkC tc su 0 bu er lv lh lo 0 (↑at') now st ve vb vr))), .int .i64 (kVb (gW qc cc sc (mkC tc su 0 bu er lv lh lo 0 (↑at') now st ve vb vr))), .int .i64 (kVr (gW qc cc sc (mkC tc su 0 bu er lv lh lo 0 (↑at') now st ve vb vr)))] none), some (.cells [.int .i64 me, .int .i64 su, .int .i64 (kEn (gW qc cc sc (mkC tc su 0 bu er lv lh lo 0 (↑at') now st ve vb vr))), .int .i64 (kBu (gW qc cc sc (mkC tc su 0 bu er lv lh lo 0 (↑at') now st ve vb vr))), .int .i64 (kEr (gW qc cc sc (mkC tc su 0 bu er lv lh lo 0 (↑at') now st ve vb vr)))] none), some (.cells qc (some 2)), some (.cells cc (some 2)), some (.cells sc (some 1)), some (.cells tc (some 3)), some (.cells [.int .u64 w, .int .u64 v, .bool h, .int .i64 o, .bool d, .int .i64 0] none)] [] else False else False)) := by kernel_rfl
theorem tl_2 (me stm : Int) (nq nc ns nt : Nat) (qc cc sc tc : List LV) (su bu er lv : Int) (lh : Bool) (lo : Int) (at' : Nat) (now : Int) (st : Bool) (ve vb vr : Int) (w v : Int) (h : Bool) (o : Int) (d : Bool) (K : Fk) : (xfun Go.Proofs.Try.prog cxg 60 11 [.ptr 0 0, .agg (ansC w v h o d 0)] (mkS (cE me stm nq nc ns nt qc cc sc tc su 0 bu er lv lh lo 2 at' now st ve vb vr)) (vF K)) = (
 bif xcm .geq w 4611686018427387903 then (
 bif okK qc cc sc tc nq nc ns nt then bif xcm .eql me me then
 K (.tup []) [some (.cells [.ptr 1 0, .int .i64 me, .int .u64 stm, .slo 2 0 nq 0, .slo 3 0 nc 0, .slo 4 0 ns 0, .slo 5 0 nt 0, .int .u64 lv, .bool lh, .int .i64 lo, .int .i64 (kPh (gW qc cc sc (mkC tc su 0 bu er lv lh lo 7 0 now st 4 (-1) 7))), .int .i64 (kAt (gW qc cc sc (mkC tc su 0 bu er lv lh lo 7 0 now st 4 (-1) 7))), .int .u64 now, .bool (kSt (gW qc cc sc (mkC tc su 0 bu er lv lh lo 7 0 now st 4 (-1) 7))), .int .i64 (kVe (gW qc cc sc (mkC tc su 0 bu er lv lh lo 7 0 now st 4 (-1) 7))), .int .i64 (kVb (gW qc cc sc (mkC tc su 0 bu er lv lh lo 7 0 now st 4 (-1) 7))), .int .i64 (kVr (gW qc cc sc (mkC tc su 0 bu er lv lh lo 7 0 now st 4 (-1) 7)))] none), some (.cells [.int .i64 me, .int .i64 su, .int .i64 (kEn (gW qc cc sc (mkC tc su 0 bu er lv lh lo 7 0 now st 4 (-1) 7))), .int .i64 (kBu (gW qc cc sc (mkC tc su 0 bu er lv lh lo 7 0 now st 4 (-1) 7))), .int .i64 (kEr (gW qc cc sc (mkC tc su 0 bu er lv lh lo 7 0 now st 4 (-1) 7)))] none), some (.cells qc (some 2)), some (.cells cc (some 2)), some (.cells sc (some 1)), some (.cells tc (some 3)), some (.cells [.int .u64 w, .int .u64 v, .bool h, .int .i64 o, .bool d, .int .i64 0] none), some (.cells [.int .i64 4, .int .i64 (-1), .int .i64 7] none)] [] else False else False)
 else (
 bif okK qc cc sc tc nq nc ns nt then bif xcm .eql me me then
 K (.tup []) [some (.cells [.ptr 1 0, .int .i64 me, .int .u64 stm, .slo 2 0 nq 0, .slo 3 0 nc 0, .slo 4 0 ns 0, .slo 5 0 nt 0, .int .u64 lv, .bool lh, .int .i64 lo, .int .i64 (kPh (gW qc cc sc (mkC tc su 0 bu er lv lh lo 3 (↑at') w st ve vb vr))), .int .i64 (kAt (gW qc cc sc (mkC tc su 0 bu er lv lh lo 3 (↑at') w st ve vb vr))), .int .u64 w, .bool (kSt (gW qc cc sc (mkC tc su 0 bu er lv lh lo 3 (↑at') w st ve vb vr))), .int .i64 (kVe (gW qc cc sc (mkC tc su 0 bu er lv lh lo 3 (↑at') w st ve vb vr))), .int .i64 (kVb (gW qc cc sc (mkC tc su 0 bu er lv lh lo 3 (↑at') w st ve vb vr))), .int .i64 (kVr (gW qc cc sc (mkC tc su 0 bu er lv lh lo 3 (↑at') w st ve vb vr)))] none), some (.cells [.int .i64 me, .int .i64 su, .int .i64 (kEn (gW qc cc sc (mkC tc su 0 bu er lv lh lo 3 (↑at') w st ve vb vr))), .int .i64 (kBu (gW qc cc sc (mkC tc su 0 bu er lv lh lo 3 (↑at') w st ve vb vr))), .int .i64 (kEr (gW qc cc sc (mkC tc su 0 bu er lv lh lo 3 (↑at') w st ve vb vr)))] none), some (.cells qc (some 2)), some (.cells cc (some 2)), some (.cells sc (some 1)), some (.cells tc (some 3)), some (.cells [.int .u64 w, .int .u64 v, .bool h, .int .i64 o, .bool d, .int .i64 0] none)] [] else False else False)) := by kernel_rfl
theorem tl_3 (me stm : Int) (nq nc ns nt : Nat) (qc cc sc tc : List LV) (su bu er lv : Int) (lh : Bool) (lo : Int) (at' : Nat) (now : Int) (st : Bool) (ve vb vr : Int) (w v : Int) (h : Bool) (o : Int) (d : Bool) (K : Fk) : (xfun Go.Proofs.Try.prog cxg 60 11 [.ptr 0 0, .agg (ansC w v h o d 0)] (mkS (cE me stm nq nc ns nt qc cc sc tc su 0 bu er lv lh lo 3 at' now st ve vb vr)) (vF K)) = (
 bif xnot d then (
 bif okK qc cc sc tc nq nc ns nt then bif xcm .eql me me then
 K (.tup []) [some (.cells [.ptr 1 0, .int .i64 me, .int .u64 stm, .slo 2 0 nq 0, .slo 3 0 nc 0, .slo 4 0 ns 0, .slo 5 0 nt 0, .int .u64 lv, .bool lh, .int .i64 lo, .int .i64 (kPh (gW qc cc sc (mkC tc su 0 bu er lv lh lo 2 0 now st ve vb vr))), .int .i64 (kAt (gW qc cc sc (mkC tc su 0 bu er lv lh lo 2 0 now st ve vb vr))), .int .u64 now, .bool (kSt (gW qc cc sc (mkC tc su 0 bu er lv lh lo 2 0 now st ve vb vr))), .int .i64 (kVe (gW qc cc sc (mkC tc su 0 bu er lv lh lo 2 0 now st ve vb vr))), .int .i64 (kVb (gW qc cc sc (mkC tc su 0 bu er lv lh lo 2 0 now st ve vb vr))), .int .i64 (kVr (gW qc cc sc (mkC tc su 0 bu er lv lh lo 2 0 now st ve vb vr)))] none), some (.cells [.int .i64 me, .int .i64 su, .int .i64 (kEn (gW qc cc sc (mkC tc su 0 bu er lv lh lo 2 0 now st ve vb vr))), .int .i64 (kBu (gW qc cc sc (mkC tc su 0 bu er lv lh lo 2 0 now st ve vb vr))), .int .i64 (kEr (gW qc cc sc (mkC tc su 0 bu er lv lh lo 2 0 now st ve vb vr)))] none), some (.cells qc (some 2)), some (.cells cc (some 2)), some (.cells sc (some 1)), some (.cells tc (some 3)), some (.cells [.int .u64 w, .int .u64 v, .bool h, .int .i64 o, .bool d, .int .i64 0] none)] [] else False else False)
 else (
 bif xcm .eql now stm then (
 bif okK qc cc sc tc nq nc ns nt then bif xcm .eql me me then
 K (.tup []) [some (.cells [.ptr 1 0, .int .i64 me, .int .u64 stm, .slo 2 0 nq 0, .slo 3 0 nc 0, .slo 4 0 ns 0, .slo 5 0 nt 0, .int .u64 lv, .bool lh, .int .i64 lo, .int .i64 (kPh (gW qc cc sc (mkC tc su 0 bu er lv lh lo 4 (↑nq) now st ve vb vr))), .int .i64 (kAt (gW qc cc sc (mkC tc su 0 bu er lv lh lo 4 (↑nq) now st ve vb vr))), .int .u64 now, .bool (kSt (gW qc cc sc (mkC tc su 0 bu er lv lh lo 4 (↑nq) now st ve vb vr))), .int .i64 (kVe (gW qc cc sc (mkC tc su 0 bu er lv lh lo 4 (↑nq) now st ve vb vr))), .int .i64 (kVb (gW qc cc sc (mkC tc su 0 bu er lv lh lo 4 (↑nq) now st ve vb vr))), .int .i64 (kVr (gW qc cc sc (mkC tc su 0 bu er lv lh lo 4 (↑nq) now st ve vb vr)))] none), some (.cells [.int .i64 me, .int .i64 su, .int .i64 (kEn (gW qc cc sc (mkC tc su 0 bu er lv lh lo 4 (↑nq) now st ve vb vr))), .int .i64 (kBu (gW qc cc sc (mkC tc su 0 bu er lv lh lo 4 (↑nq) now st ve vb vr))), .int .i64 (kEr (gW qc cc sc (mkC tc su 0 bu er lv lh lo 4 (↑nq) now st ve vb vr)))] none), some (.cells qc (some 2)), some (.cells cc (some 2)), some (.cells sc (some 1)), some (.cells tc (some 3)), some (.cells [.int .u64 w, .int .u64 v, .bool h, .int .i64 o, .bool d, .int .i64 0] none)] [] else False else False)
 else (
 bif okK qc cc sc tc nq nc ns nt then bif xcm .eql me me then
 K (.tup []) [some (.cells [.ptr 1 0, .int .i64 me, .int .u64 stm, .slo 2 0 nq 0, .slo 3 0 nc 0, .slo 4 0 ns 0, .slo 5 0 nt 0, .int .u64 lv, .bool lh, .int .i64 lo, .int .i64 (kPh (gW qc cc sc (mkC tc su 0 bu er lv lh lo 4 0 now st ve vb vr))), .int .i64 (kAt (gW qc cc sc (mkC tc su 0 bu er lv lh lo 4 0 now st ve vb vr))), .int .u64 now, .bool (kSt (gW qc cc sc (mkC tc su 0 bu er lv lh lo 4 0 now st ve vb vr))), .int .i64 (kVe (gW qc cc sc (mkC tc su 0 bu er lv lh lo 4 0 now st ve vb vr))), .int .i64 (kVb (gW qc cc sc (mkC tc su 0 bu er lv lh lo 4 0 now st ve vb vr))), .int .i64 (kVr (gW qc cc sc (mkC tc su 0 bu er lv lh lo 4 0 now st ve vb vr)))] none), some (.cells [.int .i64 me, .int .i64 su, .int .i64 (kEn (gW qc cc sc (mkC tc su 0 bu er lv lh lo 4 0 now st ve vb vr))), .int .i64 (kBu (gW qc cc sc (mkC tc su 0 bu er lv lh lo 4 0 now st ve vb vr))), .int .i64 (kEr (gW qc cc sc (mkC tc su 0 bu er lv lh lo 4 0 now st ve vb vr)))] none), some (.cells qc (some 2)), some (.cells cc (some 2)), some (.cells sc (some 1)), some (.cells tc (some 3)), some (.cells [.int .u64 w, .int .u64 v, .bool h, .int .i64 o, .bool d, .int .i64 0] none)] [] else False else False))) := by kernel_rfl
theorem tl_4 (me stm : Int) (nq nc ns nt : Nat) (qc cc sc tc : List LV) (su bu er lv : Int) (lh : Bool) (lo : Int) (at' : Nat) (now : Int) (st : Bool) (ve vb vr : Int) (w v : Int) (h : Bool) (o : Int) (d : Bool) (K : Fk) : (xfun Go.Proofs.Try.prog cxg 60 11 [.ptr 0 0, .agg (ansC w v h o d 0)] (mkS (cE me stm nq nc ns nt qc cc sc tc su 0 bu er lv lh lo 4 at' now st ve vb vr)) (vF K)) = (
 bif h then (
 bif xcm .gtr o me then (
 bif okK qc cc sc tc nq nc ns nt then bif xcm .eql me me then
 K (.tup []) [some (.cells [.ptr 1 0, .int .i64 me, .int .u64 stm, .slo 2 0 nq 0, .slo 3 0 nc 0, .slo 4 0 ns 0, .slo 5 0 nt 0, .int .u64 lv, .bool lh, .int .i64 lo, .int .i64 (kPh (gW qc cc sc (mkC tc su 0 bu er lv lh lo 4 (↑at') now st ve vb vr))), .int .i64 (kAt (gW qc cc sc (mkC tc su 0 bu er lv lh lo 4 (↑at') now st ve vb vr))), .int .u64 now, .bool (kSt (gW qc cc sc (mkC tc su 0 bu er lv lh lo 4 (↑at') now st ve vb vr))), .int .i64 (kVe (gW qc cc sc (mkC tc su 0 bu er lv lh lo 4 (↑at') now st ve vb vr))), .int .i64 (kVb (gW qc cc sc (mkC tc su 0 bu er lv lh lo 4 (↑at') now st ve vb vr))), .int .i64 (kVr (gW qc cc sc (mkC tc su 0 bu er lv lh lo 4 (↑at') now st ve vb vr)))] none), some (.cells [.int .i64 me, .int .i64 su, .int .i64 (kEn (gW qc cc sc (mkC tc su 0 bu er lv lh lo 4 (↑at') now st ve vb vr))), .int .i64 (kBu (gW qc cc sc (mkC tc su 0 bu er lv lh lo 4 (↑at') now st ve vb vr))), .int .i64 (kEr (gW qc cc sc (mkC tc su 0 bu er lv lh lo 4 (↑at') now st ve vb vr)))] none), some (.cells qc (some 2)), some (.cells cc (some 2)), some (.cells sc (some 1)), some (.cells tc (some 3)), some (.cells [.int .u64 w, .int .u64 v, .bool h, .int .i64 o, .bool d, .int .i64 0] none), some (.cells [.int .u64 v, .bool h, .int .i64 o] none)] [] else False else False)
 else (
 bif xcm .eql su 0 then (
 bif okK qc cc sc tc nq nc ns nt then bif xcm .eql me me then
 K (.tup []) [some (.cells [.ptr 1 0, .int .i64 me, .int .u64 stm, .slo 2 0 nq 0, .slo 3 0 nc 0, .slo 4 0 ns 0, .slo 5 0 nt 0, .int .u64 lv, .bool lh, .int .i64 lo, .int .i64 (kPh (gW qc cc sc (mkC tc su 0 bu er lv lh lo 7 0 now st 5 o 0))), .int .i64 (kAt (gW qc cc sc (mkC tc su 0 bu er lv lh lo 7 0 now st 5 o 0))), .int .u64 now, .bool (kSt (gW qc cc sc (mkC tc su 0 bu er lv lh lo 7 0 now st 5 o 0))), .int .i64 (kVe (gW qc cc sc (mkC tc su 0 bu er lv lh lo 7 0 now st 5 o 0))), .int .i64 (kVb (gW qc cc sc (mkC tc su 0 bu er lv lh lo 7 0 now st 5 o 0))), .int .i64 (kVr (gW qc cc sc (mkC tc su 0 bu er lv lh lo 7 0 now st 5 o 0)))] none), some (.cells [.int .i64 me, .int .i64 su, .int .i64 (kEn (gW qc cc sc (mkC tc su 0 bu er lv lh lo 7 0 now st 5 o 0))), .int .i64 (kBu (gW qc cc sc (mkC tc su 0 bu er lv lh lo 7 0 now st 5 o 0))), .int .i64 (kEr (gW qc cc sc (mkC tc su 0 bu er lv lh lo 7 0 now st 5 o 0)))] none), some (.cells qc (some 2)), some (.cells cc (some 2)), some (.cells sc (some 1)), some (.cells tc (some 3)), some (.cells [.int .u64 w, .int .u64 v, .bool h, .int .i64 o, .bool d, .int .i64 0] none), some (.cells [.int .u64 v, .bool h, .int .i64 o] none), some (.cells [.int .i64 5, .int .i64 o, .int .i64 0] none)] [] else False else False)
 else (
 bif okK qc cc sc tc nq nc ns nt then bif xcm .eql me me then
 K (.tup []) [some (.cells [.ptr 1 0, .int .i64 me, .int .u64 stm, .slo 2 0 nq 0, .slo 3 0 nc 0, .slo 4 0 ns 0, .slo 5 0 nt 0, .int .u64 lv, .bool lh, .int .i64 lo, .int .i64 (kPh (gW qc cc sc (mkC tc (xar .sub .i64 su 1) 0 bu er lv lh lo 4 (↑at') now st ve vb vr))), .int .i64 (kAt (gW qc cc sc (mkC tc (xar .sub .i64 su 1) 0 bu er lv lh lo 4 (↑at') now st ve vb vr))), .int .u64 now, .bool (kSt (gW qc cc sc (mkC tc (xar .sub .i64 su 1) 0 bu er lv lh lo 4 (↑at') now st ve vb vr))), .int .i64 (kVe (gW qc cc sc (mkC tc (xar .sub .i64 su 1) 0 bu er lv lh lo 4 (↑at') now st ve vb vr))), .int .i64 (kVb (gW qc cc sc (mkC tc (xar .sub .i64 su 1) 0 bu er lv lh lo 4 (↑at') now st ve vb vr))), .int .i64 (kVr (gW qc cc sc (mkC tc (xar .sub .i64 su 1) 0 bu er lv lh lo 4 (↑at') now st ve vb vr)))] none), some (.cells [.int .i64 me, .int .i64 (xar .sub .i64 su 1), .int .i64 (kEn (gW qc cc sc (mkC tc (xar .sub .i64 su 1) 0 bu er lv lh lo 4 (↑at') now st ve vb vr))), .int .i64 (kBu (gW qc cc sc (mkC tc (xar .sub .i64 su 1) 0 bu er lv lh lo 4 (↑at') now st ve vb vr))), .int .i64 (kEr (gW qc cc sc (mkC tc (xar .sub .i64 su 1) 0 bu er lv lh lo 4 (↑at') now st ve vb vr)))] none), some (.cells qc (some 2)), some (.cells cc (some 2)), some (.cells sc (some 1)), some (.cells tc (some 3)), some (.cells [.int .u64 w, .int .u64 v, .bool h, .int .i64 o, .bool d, .int .i64 0] none), some (.cells [.int .u64 v, .bool h, .int .i64 o] none)] [] else False else False)))
 else (
 bif xle (xadd (xnat ↑at') 1) nq then bif xle (xadd (xadd (xix 0 (xnat ↑at') 2) 1) 1) (xln qc) then bif isI .u64 (nthD qc (xadd (xix 0 (xnat ↑at') 2) 1)) then bif xcm .neq v (asI (nthD qc (xadd (xix 0 (xnat ↑at') 2) 1))) then (
 bif okK qc cc sc tc nq nc ns nt then bif xcm .eql me me then
 K (.tup []) [some (.cells [.ptr 1 0, .int .i64 me, .int .u64 stm, .slo 2 0 nq 0, .slo 3 0 nc 0, .slo 4 0 ns 0, .slo 5 0 nt 0, .int .u64 lv, .bool lh, .int .i64 lo, .int .i64 (kPh (gW qc cc sc (mkC tc su 0 bu er lv lh lo 7 0 now st 5 (-1) 0))), .int .i64 (kAt (gW qc cc sc (mkC tc su 0 bu er lv lh lo 7 0 now st 5 (-1) 0))), .int .u64 now, .bool (kSt (gW qc cc sc (mkC tc su 0 bu er lv lh lo 7 0 now st 5 (-1) 0))), .int .i64 (kVe (gW qc cc sc (mkC tc su 0 bu er lv lh lo 7 0 now st 5 (-1) 0))), .int .i64 (kVb (gW qc cc sc (mkC tc su 0 bu er lv lh lo 7 0 now st 5 (-1) 0))), .int .i64 (kVr (gW qc cc sc (mkC tc su 0 bu er lv lh lo 7 0 now st 5 (-1) 0)))] none), some (.cells [.int .i64 me, .int .i64 su, .int .i64 (kEn (gW qc cc sc (mkC tc su 0 bu er lv lh lo 7 0 now st 5 (-1) 0))), .int .i64 (kBu (gW qc cc sc (mkC tc su 0 bu er lv lh lo 7 0 now st 5 (-1) 0))), .int .i64 (kEr (gW qc cc sc (mkC tc su 0 bu er lv lh lo 7 0 now st 5 (-1) 0)))] none), some (.cells qc (some 2)), some (.cells cc (some 2)), some (.cells sc (some 1)), some (.cells tc (some 3)), some (.cells [.int .u64 w, .int .u64 v, .bool h, .int .i64 o, .bool d, .int .i64 0] none), some (.cells [.int .u64 v, .bool h, .int .i64 o] none), some (.cells [.int .u64 v, .bool h, .int .i64 o] none), some (.cells [.int .i64 5, .int .i64 (-1), .int .i64 0] none)] [] else False else False)
 else (
 bif okK qc cc sc tc nq nc ns nt then bif xnn (xar .add .i64 (↑at') 1) then bif xcm .eql me me then
 K (.tup []) [some (.cells [.ptr 1 0, .int .i64 me, .int .u64 stm, .slo 2 0 nq 0, .slo 3 0 nc 0, .slo 4 0 ns 0, .slo 5 0 nt 0, .int .u64 lv, .bool lh, .int .i64 lo, .int .i64 (kPh (gW qc cc sc (mkC tc su 0 bu er lv lh lo 4 (xar .add .i64 (↑at') 1) now st ve vb vr))), .int .i64 (kAt (gW qc cc sc (mkC tc su 0 bu er lv lh lo 4 (xar .add .i64 (↑at') 1) now st ve vb vr))), .int .u64 now, .bool (kSt (gW qc cc sc (mkC tc su 0 bu er lv lh lo 4 (xar .add .i64 (↑at') 1) now st ve vb vr))), .int .i64 (kVe (gW qc cc sc (mkC tc su 0 bu er lv lh lo 4 (xar .add .i64 (↑at') 1) now st ve vb vr))), .int .i64 (kVb (gW qc cc sc (mkC tc su 0 bu er lv lh lo 4 (xar .add .i64 (↑at') 1) now st ve vb vr))), .int .i64 (kVr (gW qc cc sc (mkC tc su 0 bu er lv lh lo 4 (xar .add .i64 (↑at') 1) now st ve vb vr)))] none), some (.cells [.int .i64 me, .int .i64 su, .int .i64 (kEn (gW qc cc sc (mkC tc su 0 bu er lv lh lo 4 (xar .add .i64 (↑at') 1) now st ve vb vr))), .int .i64 (kBu (gW qc cc sc (mkC tc su 0 bu er lv lh lo 4 (xar .add .i64 (↑at') 1) now st ve vb vr))), .int .i64 (kEr (gW qc cc sc (mkC tc su 0 bu er lv lh lo 4 (xar .add .i64 (↑at') 1) now st ve vb vr)))] none), some (.cells qc (some 2)), some (.cells cc (some 2)), some (.cells sc (some 1)), some (.cells tc (some 3)), some (.cells [.int .u64 w, .int .u64 v, .bool h, .int .i64 o, .bool d, .int .i64 0] none), some (.cells [.int .u64 v, .bool h, .int .i64 o] none), some (.cells [.int .u64 v, .bool h, .int .i64 o] none)] [] else False else False else False) else False else False else False)) := by kernel_rfl
end
end Go.Lev
