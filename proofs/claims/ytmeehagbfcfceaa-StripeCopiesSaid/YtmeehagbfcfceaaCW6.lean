/- chapter 3: same: trees -/
import Derived.Test.YtmeehagbfcfceaaCW5
import Derived.Test.YtmeehagbfcfceaaLc
import Derived.Test.YtmeehagbfcfceaaChecked
import Derived.KernelRfl

namespace Go.Lev
open Go.RowKit
set_option linter.unusedVariables false
set_option linter.unusedSimpArgs false
set_option maxRecDepth 100000
noncomputable section
def tHeldG : Gc := fun args s => match args, s.g with
  | [.ptr b 0, .int .i64 o], [] => (match s.h.get b with
    | some (.cells [.int .i64 wi, .slo b1 0 nl 0] none) => (match s.h.get b1 with
      | some (.cells ls (some 3)) => cond (nodupB [b, b1]) (match s.lay [b, b1] [.cells [.int .i64 wi, .slo b1 0 nl 0] none, .cells ls (some 3)] [.cells (heC ls nl o) (some 1)] with
        | some s' => some ([okL ls nl, xle nl 1000], .slo s.n 0 (heN ls nl o) 0, s')
        | none => none) none
      | _ => none)
    | _ => none)
  | _, _ => none
theorem tHeldG_ok : GOk Go.Proofs.Try.prog 12 tHeldG := by
  intro args s bs l s' hg hb hfr
  unfold tHeldG at hg
  split at hg
  · rename_i b o hgl
    split at hg
    · rename_i wi b1 nl hb0
      split at hg
      · rename_i ls hb1
        cases hbc : nodupB [b, b1] with
        | false => rw [hbc] at hg; cases hg
        | true =>
          rw [hbc] at hg
          simp only [cond_true] at hg
          split at hg
          · rename_i s1 hs1
            simp only [Option.some.injEq, Prod.mk.injEq] at hg
            obtain ⟨rfl, rfl, rfl⟩ := hg
            obtain ⟨k1, hb2⟩ := allT_cons.1 hb
            have k2 := (allT_cons.1 hb2).1
            rw [wd_le, decide_eq_true_eq] at k2
            obtain ⟨L, rfl, rfl, h2⟩ := okL_iff.1 k1
            have n2 := noids_l L
            have hx := tHeld_ok o wi L L.length rfl k2
            simp only [heC, heN, decL_enc] at hs1 ⊢
            refine SFun.lay (bs := tS wi L.length (encL cL L)) (args0 := [.ptr 0 0, .int .i64 o]) (bs' := [.cells [.int .i64 wi, .slo 1 0 L.length 0] none, .cells (encL cL L) (some 3), .cells (encL (cI .i64) (hls L o L.length)) (some 1)]) (v0 := .slo 2 0 (hls L o L.length).length 0) hfr hs1 (nodupB_ok hbc)
              ⟨⟨there hfr hb0, _, hb0, by (first | exact lb_dead | exact lb_same (by (first | assumption | exact noIds_tab (fun _ => rfl) _ _ | exact noIds_encL (fun _ => rfl) _ | rfl)) | exact lb_ro (by (first | assumption | exact noIds_tab (fun _ => rfl) _ _ | exact noIds_encL (fun _ => rfl) _ | rfl)) | exact lb_none | exact lb_cells (by ((repeat refine lws_cons (by (first | exact lw_any | exact lw_int | exact lw_bool | exact lw_ptr rfl | exact lw_slo rfl | exact lw_nilp | exact lw_nils | exact lw_str | exact lw_slo_nils | exact lw_slo_sle | exact lw_sl rfl | exact lw_unb | exact lw_gptr | exact lw_noid rfl | exact lw_cap rfl (Nat.le_refl _) | exact lw_cap rfl (by omega) | assumption | exact lw_tup (by ((repeat refine lws_cons (by (first | exact lw_any | exact lw_int | exact lw_bool | exact lw_ptr rfl | exact lw_slo rfl | exact lw_nilp | exact lw_nils | exact lw_str | exact lw_slo_nils | exact lw_slo_sle | exact lw_sl rfl | exact lw_unb | exact lw_gptr | exact lw_noid rfl | exact lw_cap rfl (Nat.le_refl _) | exact lw_cap rfl (by omega) | assumption)) ?_); exact lws_nil)))) ?_); exact lws_nil)) (by simp) | exact lb_iter | exact lb_cap (Nat.le_refl _) (Nat.le_refl _) rfl rfl | exact lb_capn (by assumption) (by (first | assumption | exact noIds_tab (fun _ => rfl) _ _ | exact noIds_encL (fun _ => rfl) _ | rfl)) | assumption), fun κ hκ => lb_cells (lws_cons lw_int (lws_cons (lw_slo (hκ 1 b1 rfl)) lws_nil)) (by simp)⟩, ⟨there hfr hb1, _, hb1, by (first | exact lb_dead | exact lb_same (by (first | assumption | exact noIds_tab (fun _ => rfl) _ _ | exact noIds_encL (fun _ => rfl) _ | rfl)) | exact lb_ro (by (first | assumption | exact noIds_tab (fun _ => rfl) _ _ | exact noIds_encL (fun _ => rfl) _ | rfl)) | exact lb_none | exact lb_cells (by ((repeat refine lws_cons (by (first | exact lw_any | exact lw_int | exact lw_bool | exact lw_ptr rfl | exact lw_slo rfl | exact lw_nilp | exact lw_nils | exact lw_str | exact lw_slo_nils | exact lw_slo_sle | exact lw_sl rfl | exact lw_unb | exact lw_gptr | exact lw_noid rfl | exact lw_cap rfl (Nat.le_refl _) | exact lw_cap rfl (by omega) | assumption | exact lw_tup (by ((repeat refine lws_cons (by (first | exact lw_any | exact lw_int | exact lw_bool | exact lw_ptr rfl | exact lw_slo rfl | exact lw_nilp | exact lw_nils | exact lw_str | exact lw_slo_nils | exact lw_slo_sle | exact lw_sl rfl | exact lw_unb | exact lw_gptr | exact lw_noid rfl | exact lw_cap rfl (Nat.le_refl _) | exact lw_cap rfl (by omega) | assumption)) ?_); exact lws_nil)))) ?_); exact lws_nil)) (by simp) | exact lb_iter | exact lb_cap (Nat.le_refl _) (Nat.le_refl _) rfl rfl | exact lb_capn (by assumption) (by (first | assumption | exact noIds_tab (fun _ => rfl) _ _ | exact noIds_encL (fun _ => rfl) _ | rfl)) | assumption), fun κ hκ => by (first | exact lb_dead | exact lb_same (by (first | assumption | exact noIds_tab (fun _ => rfl) _ _ | exact noIds_encL (fun _ => rfl) _ | rfl)) | exact lb_ro (by (first | assumption | exact noIds_tab (fun _ => rfl) _ _ | exact noIds_encL (fun _ => rfl) _ | rfl)) | exact lb_none | exact lb_cells (by ((repeat refine lws_cons (by (first | exact lw_any | exact lw_int | exact lw_bool | exact lw_ptr rfl | exact lw_slo rfl | exact lw_nilp | exact lw_nils | exact lw_str | exact lw_slo_nils | exact lw_slo_sle | exact lw_sl rfl | exact lw_unb | exact lw_gptr | exact lw_noid rfl | exact lw_cap rfl (Nat.le_refl _) | exact lw_cap rfl (by omega) | assumption | exact lw_tup (by ((repeat refine lws_cons (by (first | exact lw_any | exact lw_int | exact lw_bool | exact lw_ptr rfl | exact lw_slo rfl | exact lw_nilp | exact lw_nils | exact lw_str | exact lw_slo_nils | exact lw_slo_sle | exact lw_sl rfl | exact lw_unb | exact lw_gptr | exact lw_noid rfl | exact lw_cap rfl (Nat.le_refl _) | exact lw_cap rfl (by omega) | assumption)) ?_); exact lws_nil)))) ?_); exact lws_nil)) (by simp) | exact lb_iter | exact lb_cap (Nat.le_refl _) (Nat.le_refl _) rfl rfl | exact lb_capn (by assumption) (by (first | assumption | exact noIds_tab (fun _ => rfl) _ _ | exact noIds_encL (fun _ => rfl) _ | rfl)) | assumption)⟩, trivial⟩ (by ((repeat refine lws_cons (by (first | exact lw_any | exact lw_int | exact lw_bool | exact lw_ptr rfl | exact lw_slo rfl | exact lw_nilp | exact lw_nils | exact lw_str | exact lw_slo_nils | exact lw_slo_sle | exact lw_sl rfl | exact lw_unb | exact lw_gptr | exact lw_noid rfl | exact lw_cap rfl (Nat.le_refl _) | exact lw_cap rfl (by omega) | assumption | exact lw_tup (by ((repeat refine lws_cons (by (first | exact lw_any | exact lw_int | exact lw_bool | exact lw_ptr rfl | exact lw_slo rfl | exact lw_nilp | exact lw_nils | exact lw_str | exact lw_slo_nils | exact lw_slo_sle | exact lw_sl rfl | exact lw_unb | exact lw_gptr | exact lw_noid rfl | exact lw_cap rfl (Nat.le_refl _) | exact lw_cap rfl (by omega) | assumption)) ?_); exact lws_nil)))) ?_); exact lws_nil)) ?_
              fun κ h1 h2 => ⟨⟨lb_cells (lws_cons lw_int (lws_cons (lw_slo (h1 1 b1 rfl)) lws_nil)) (by simp), lb_same n2, lb_same (noIds_Ii64 _), trivial⟩, lw_slo (h2 0 (by simp))⟩
            rw [hgl]
            exact hx
          · cases hg
      · cases hg
    · cases hg
  · cases hg
def cxs : Cx := cxl [(33, cloneG 3), (12, tHeldG)]
abbrev saL : List Nat := [0, 1, 4, 5, 6, 7, 8, 9, 10, 11]
abbrev saA (nl k : Nat) : List (Nat × LV) := [(0, .ptr 0 0), (1, .ptr 2 0), (5, .slo 6 0 nl 0), (6, .int .i64 k)]
abbrev saB (nl : Nat) (o : Int) : List (Nat × LV) := [(0, .ptr 0 0), (1, .ptr 2 0), (5, .slo 6 0 nl 0), (7, .int .i64 o)]
abbrev saC (nl : Nat) (o : Int) (p k : Nat) : List (Nat × LV) := [(0, .ptr 0 0), (1, .ptr 2 0), (5, .slo 6 0 nl 0), (7, .int .i64 o), (8, .slo 7 0 p 0), (9, .int .i64 k)]
abbrev saD (nl : Nat) (o : Int) (p k : Nat) : List (Nat × LV) := [(0, .ptr 0 0), (1, .ptr 2 0), (5, .slo 6 0 nl 0), (7, .int .i64 o), (8, .slo 7 0 p 0), (10, .slo 8 0 p 0), (11, .int .i64 k)]
abbrev qH (sa sb sc sd se N C wi : Int) (nw nl ns : Nat) (ws ls ss : List LV) : List LB := [.cells [.int .i64 wi, .slo 1 0 nl 0] none, .cells ls (some 3), .cells [.int .i64 sa, .int .i64 sb, .int .i64 sc, .int .i64 sd, .int .u64 se, .slo 3 0 nw 0, .slo 4 0 nl 0, .int .u64 N, .slo 5 0 ns 0, .int .i64 C] none, .cells ws (some 1), .cells ls (some 3), .cells ss (some 1)]
abbrev qA (sa sb sc sd se N C wi : Int) (nw nl ns : Nat) (ws ls ss : List LV) : List LB := [.cells [.int .i64 wi, .slo 1 0 nl 0] none, .cells ls (some 3), .cells [.int .i64 sa, .int .i64 sb, .int .i64 sc, .int .i64 sd, .int .u64 se, .slo 3 0 nw 0, .slo 4 0 nl 0, .int .u64 N, .slo 5 0 ns 0, .int .i64 C] none, .cells ws (some 1), .cells ls (some 3), .cells ss (some 1), .cells ls (some 3)]
abbrev qC (sa sb sc sd se N C wi : Int) (nw nl ns : Nat) (ws ls ss : List LV) (ps : List LV) : List LB := [.cells [.int .i64 wi, .slo 1 0 nl 0] none, .cells ls (some 3), .cells [.int .i64 sa, .int .i64 sb, .int .i64 sc, .int .i64 sd, .int .u64 se, .slo 3 0 nw 0, .slo 4 0 nl 0, .int .u64 N, .slo 5 0 ns 0, .int .i64 C] none, .cells ws (some 1), .cells ls (some 3), .cells ss (some 1), .cells ls (some 3), .cells ps (some 1)]
abbrev qD (sa sb sc sd se N C wi : Int) (nw nl ns : Nat) (ws ls ss : List LV) (ps : List LV) : List LB := [.cells [.int .i64 wi, .slo 1 0 nl 0] none, .cells ls (some 3), .cells [.int .i64 sa, .int .i64 sb, .int .i64 sc, .int .i64 sd, .int .u64 se, .slo 3 0 nw 0, .slo 4 0 nl 0, .int .u64 N, .slo 5 0 ns 0, .int .i64 C] none, .cells ws (some 1), .cells ls (some 3), .cells ss (some 1), .cells ls (some 3), .cells ps (some 1), .cells ps (some 1)]
theorem cxs_ok : CtrOk Go.Proofs.Try.prog (ctrOf cxs) := cxl_ok ⟨cloneL_ok, tHeldG_ok, trivial⟩
theorem sa_a (sa sb sc sd se N C wi : Int) (nw nl ns : Nat) (ws ls ss : List LV) (K : Pk) : (xsp Go.Proofs.Try.prog cxs 40 101 (seg (sp Go.Proofs.Try.prog 21) 0 5) (tm0 [.ptr 0 0, .ptr 2 0]) (mkS (qH sa sb sc sd se N C wi nw nl ns ws ls ss)) (vK saL K)) = (
  bif xle nl 1000000 then
  bif xeq (xln ls) (xmul nl 3) then
  bif xnoid ls then
  bif xcm .neq ↑nl ↑nl then (
   K .ret [.ptr 0 0, .ptr 2 0, .bool false, .slo 6 0 nl 0, .tup [], .tup [], .tup [], .tup [], .tup [], .tup []] [some (.cells [.int .i64 wi, .slo 1 0 nl 0] none), some (.cells ls (some 3)), some (.cells [.int .i64 sa, .int .i64 sb, .int .i64 sc, .int .i64 sd, .int .u64 se, .slo 3 0 nw 0, .slo 4 0 nl 0, .int .u64 N, .slo 5 0 ns 0, .int .i64 C] none), some (.cells ws (some 1)), some (.cells ls (some 3)), some (.cells ss (some 1)), some (.cells ls (some 3))] [])
  else (
   bif xeq nl nl then
   bif xeq nl nl then
   bif xcm .neq ↑nl ↑nl then (
    K .ret [.ptr 0 0, .ptr 2 0, .bool false, .slo 6 0 nl 0, .tup [], .tup [], .tup [], .tup [], .tup [], .tup []] [some (.cells [.int .i64 wi, .slo 1 0 nl 0] none), some (.cells ls (some 3)), some (.cells [.int .i64 sa, .int .i64 sb, .int .i64 sc, .int .i64 sd, .int .u64 se, .slo 3 0 nw 0, .slo 4 0 nl 0, .int .u64 N, .slo 5 0 ns 0, .int .i64 C] none), some (.cells ws (some 1)), some (.cells ls (some 3)), some (.cells ss (some 1)), some (.cells ls (some 3))] [])
   else (
    K .normal [.ptr 0 0, .ptr 2 0, .bool false, .slo 6 0 nl 0, .int .i64 0, .tup [], .tup [], .tup [], .tup [], .tup []] [some (.cells [.int .i64 wi, .slo 1 0 nl 0] none), some (.cells ls (some 3)), some (.cells [.int .i64 sa, .int .i64 sb, .int .i64 sc, .int .i64 sd, .int .u64 se, .slo 3 0 nw 0, .slo 4 0 nl 0, .int .u64 N, .slo 5 0 ns 0, .int .i64 C] none), some (.cells ws (some 1)), some (.cells ls (some 3)), some (.cells ss (some 1)), some (.cells ls (some 3))] [])
   else False
   else False)
  else False
  else False
  else False) := by kernel_rfl
theorem sa_b (k : Nat) (sa sb sc sd se N C wi : Int) (nw nl ns : Nat) (ws ls ss : List LV) (K : Pk) : (xcode Go.Proofs.Try.prog cxs 40 101 (loopOf (nthC (sp Go.Proofs.Try.prog 21) 5)) (mkTm 101 (saA nl k)) (mkS (qA sa sb sc sd se N C wi nw nl ns ws ls ss)) (vK saL K)) = (
  bif xcm .lss ↑k ↑nl then (
   bif xle (xadd (xnat ↑k) 1) nl then
   bif xle (xadd (xix 0 (xnat ↑k) 3) 3) (xln ls) then
   bif isI .u64 (nthD ls (xix 0 (xnat ↑k) 3)) then
   bif isB (nthD ls (xadd (xix 0 (xnat ↑k) 3) 1)) then
   bif isI .i64 (nthD ls (xadd (xadd (xix 0 (xnat ↑k) 3) 1) 1)) then
   bif xle (xadd (xnat ↑k) 1) nl then
   bif xle (xadd (xix 0 (xnat ↑k) 3) 3) (xln ls) then
   bif isI .u64 (nthD ls (xix 0 (xnat ↑k) 3)) then
   bif isB (nthD ls (xadd (xix 0 (xnat ↑k) 3) 1)) then
   bif isI .i64 (nthD ls (xadd (xadd (xix 0 (xnat ↑k) 3) 1) 1)) then
   bif xnot (xand (xcm .eql (asI (nthD ls (xix 0 (xnat ↑k) 3))) (asI (nthD ls (xix 0 (xnat ↑k) 3)))) (xand (xbq (asB (nthD ls (xadd (xix 0 (xnat ↑k) 3) 1))) (asB (nthD ls (xadd (xix 0 (xnat ↑k) 3) 1)))) (xand (xcm .eql (asI (nthD ls (xadd (xadd (xix 0 (xnat ↑k) 3) 1) 1))) (asI (nthD ls (xadd (xadd (xix 0 (xnat ↑k) 3) 1) 1)))) true))) then (
    K .ret [.ptr 0 0, .ptr 2 0, .bool false, .slo 6 0 nl 0, .int .i64 ↑k, .any, .any, .any, .any, .any] [some (.cells [.int .i64 wi, .slo 1 0 nl 0] none), some (.cells ls (some 3)), some (.cells [.int .i64 sa, .int .i64 sb, .int .i64 sc, .int .i64 sd, .int .u64 se, .slo 3 0 nw 0, .slo 4 0 nl 0, .int .u64 N, .slo 5 0 ns 0, .int .i64 C] none), some (.cells ws (some 1)), some (.cells ls (some 3)), some (.cells ss (some 1)), some (.cells ls (some 3))] [])
   else (
    K .normal [.ptr 0 0, .ptr 2 0, .any, .slo 6 0 nl 0, .int .i64 (xar .add .i64 (↑k) 1), .any, .any, .any, .any, .any] [some (.cells [.int .i64 wi, .slo 1 0 nl 0] none), some (.cells ls (some 3)), some (.cells [.int .i64 sa, .int .i64 sb, .int .i64 sc, .int .i64 sd, .int .u64 se, .slo 3 0 nw 0, .slo 4 0 nl 0, .int .u64 N, .slo 5 0 ns 0, .int .i64 C] none), some (.cells ws (some 1)), some (.cells ls (some 3)), some (.cells ss (some 1)), some (.cells ls (some 3))] [])
   else False
   else False
   else False
   else False
   else False
   else False
   else False
   else False
   else False
   else False)
  else (
   K (.exit 0) [.ptr 0 0, .ptr 2 0, .any, .slo 6 0 nl 0, .int .i64 ↑k, .any, .any, .any, .any, .any] [some (.cells [.int .i64 wi, .slo 1 0 nl 0] none), some (.cells ls (some 3)), some (.cells [.int .i64 sa, .int .i64 sb, .int .i64 sc, .int .i64 sd, .int .u64 se, .slo 3 0 nw 0, .slo 4 0 nl 0, .int .u64 N, .slo 5 0 ns 0, .int .i64 C] none), some (.cells ws (some 1)), some (.cells ls (some 3)), some (.cells ss (some 1)), some (.cells ls (some 3))] [])) := by kernel_rfl
theorem sa_c (k : Nat) (sa sb sc sd se N C wi : Int) (nw nl ns : Nat) (ws ls ss : List LV) (K : Pk) : (xsp Go.Proofs.Try.prog cxs 40 101 (seg (sp Go.Proofs.Try.prog 21) 6 1) (mkTm 101 (saA nl k)) (mkS (qA sa sb sc sd se N C wi nw nl ns ws ls ss)) (vK saL K)) = (
  K .normal [.ptr 0 0, .ptr 2 0, .any, .slo 6 0 nl 0, .int .i64 ↑k, .int .i64 (-1), .any, .any, .any, .any] [some (.cells [.int .i64 wi, .slo 1 0 nl 0] none), some (.cells ls (some 3)), some (.cells [.int .i64 sa, .int .i64 sb, .int .i64 sc, .int .i64 sd, .int .u64 se, .slo 3 0 nw 0, .slo 4 0 nl 0, .int .u64 N, .slo 5 0 ns 0, .int .i64 C] none), some (.cells ws (some 1)), some (.cells ls (some 3)), some (.cells ss (some 1)), some (.cells ls (some 3))] []) := by kernel_rfl
theorem sa_d (o : Int) (sa sb sc sd se N C wi : Int) (nw nl ns : Nat) (ws ls ss : List LV) (K : Pk) : (xsp Go.Proofs.Try.prog cxs 40 101 (seg (spineL (loopOf (nthC (sp Go.Proofs.Try.prog 21) 7))) 0 2) (mkTm 101 (saB nl o)) (mkS (qA sa sb sc sd se N C wi nw nl ns ws ls ss)) (vK saL K)) = (
  bif xcm .leq o 4 then (
   K .normal [.ptr 0 0, .ptr 2 0, .any, .slo 6 0 nl 0, .any, .int .i64 o, .any, .any, .any, .any] [some (.cells [.int .i64 wi, .slo 1 0 nl 0] none), some (.cells ls (some 3)), some (.cells [.int .i64 sa, .int .i64 sb, .int .i64 sc, .int .i64 sd, .int .u64 se, .slo 3 0 nw 0, .slo 4 0 nl 0, .int .u64 N, .slo 5 0 ns 0, .int .i64 C] none), some (.cells ws (some 1)), some (.cells ls (some 3)), some (.cells ss (some 1)), some (.cells ls (some 3))] [])
  else (
   K (.exit 2) [.ptr 0 0, .ptr 2 0, .any, .slo 6 0 nl 0, .any, .int .i64 o, .any, .any, .any, .any] [some (.cells [.int .i64 wi, .slo 1 0 nl 0] none), some (.cells ls (some 3)), some (.cells [.int .i64 sa, .int .i64 sb, .int .i64 sc, .int .i64 sd, .int .u64 se, .slo 3 0 nw 0, .slo 4 0 nl 0, .int .u64 N, .slo 5 0 ns 0, .int .i64 C] none), some (.cells ws (some 1)), some (.cells ls (some 3)), some (.cells ss (some 1)), some (.cells ls (some 3))] [])) := by kernel_rfl
theorem sa_e (o : Int) (sa sb sc sd se N C wi : Int) (nw nl ns : Nat) (ws ls ss : List LV) (K : Pk) : (xsp Go.Proofs.Try.prog cxs 40 101 (seg (spineL (blockIn (nthC (spineL (loopOf (nthC (sp Go.Proofs.Try.prog 21) 7))) 2))) 0 2) (mkTm 101 (saB nl o)) (mkS (qA sa sb sc sd se N C wi nw nl ns ws ls ss)) (vK saL K)) = (
  K .normal [.ptr 0 0, .ptr 2 0, .any, .slo 6 0 nl 0, .any, .int .i64 o, .nils, .int .i64 0, .any, .any] [some (.cells [.int .i64 wi, .slo 1 0 nl 0] none), some (.cells ls (some 3)), some (.cells [.int .i64 sa, .int .i64 sb, .int .i64 sc, .int .i64 sd, .int .u64 se, .slo 3 0 nw 0, .slo 4 0 nl 0, .int .u64 N, .slo 5 0 ns 0, .int .i64 C] none), some (.cells ws (some 1)), some (.cells ls (some 3)), some (.cells ss (some 1)), some (.cells ls (some 3))] []) := by kernel_rfl
theorem sa_f (o : Int) (p k : Nat) (sa sb sc sd se N C wi : Int) (nw nl ns : Nat) (ws ls ss : List LV) (ps : List LV) (K : Pk) : (xcode Go.Proofs.Try.prog cxs 40 101 (loopOf (nthC (spineL (blockIn (nthC (spineL (loopOf (nthC (sp Go.Proofs.Try.prog 21) 7))) 2))) 2)) (mkTm 101 (saC nl o p k)) (mkS (qC sa sb sc sd se N C wi nw nl ns ws ls ss ps)) (vK saL K)) = (
  bif xcm .lss ↑k ↑nl then (
   bif xle (xadd (xnat ↑k) 1) nl then
   bif xle (xadd (xadd (xix 0 (xnat ↑k) 3) 1) 1) (xln ls) then
   bif isB (nthD ls (xadd (xix 0 (xnat ↑k) 3) 1)) then
   bif asB (nthD ls (xadd (xix 0 (xnat ↑k) 3) 1)) then (
    bif xle (xadd (xnat ↑k) 1) nl then
    bif xle (xadd (xadd (xix 0 (xnat ↑k) 3) 2) 1) (xln ls) then
    bif isI .i64 (nthD ls (xadd (xix 0 (xnat ↑k) 3) 2)) then
    bif xcm .eql (asI (nthD ls (xadd (xix 0 (xnat ↑k) 3) 2))) o then (
     bif xle (xadd p 1) 1000000 then
     bif xle (xadd 0 (xmul p 1)) (xln ps) then
     K .normal [.ptr 0 0, .ptr 2 0, .any, .slo 6 0 nl 0, .any, .int .i64 o, .slo 9 0 (xadd p 1) 0, .int .i64 (xar .add .i64 (↑k) 1), .any, .any] [some (.cells [.int .i64 wi, .slo 1 0 nl 0] none), some (.cells ls (some 3)), some (.cells [.int .i64 sa, .int .i64 sb, .int .i64 sc, .int .i64 sd, .int .u64 se, .slo 3 0 nw 0, .slo 4 0 nl 0, .int .u64 N, .slo 5 0 ns 0, .int .i64 C] none), some (.cells ws (some 1)), some (.cells ls (some 3)), some (.cells ss (some 1)), some (.cells ls (some 3)), some .dead, some (.cells [.int .i64 ↑k] none), some (.cells (xcat (xcut ps 0 (xmul p 1)) [.int .i64 ↑k]) (some 1))] []
     else False
     else False)
    else (
     K .normal [.ptr 0 0, .ptr 2 0, .any, .slo 6 0 nl 0, .any, .int .i64 o, .slo 7 0 p 0, .int .i64 (xar .add .i64 (↑k) 1), .any, .any] [some (.cells [.int .i64 wi, .slo 1 0 nl 0] none), some (.cells ls (some 3)), some (.cells [.int .i64 sa, .int .i64 sb, .int .i64 sc, .int .i64 sd, .int .u64 se, .slo 3 0 nw 0, .slo 4 0 nl 0, .int .u64 N, .slo 5 0 ns 0, .int .i64 C] none), some (.cells ws (some 1)), some (.cells ls (some 3)), some (.cells ss (some 1)), some (.cells ls (some 3)), some (.cells ps (some 1))] [])
    else False
    else False
    else False)
   else (
    K .normal [.ptr 0 0, .ptr 2 0, .any, .slo 6 0 nl 0, .any, .int .i64 o, .slo 7 0 p 0, .int .i64 (xar .add .i64 (↑k) 1), .any, .any] [some (.cells [.int .i64 wi, .slo 1 0 nl 0] none), some (.cells ls (some 3)), some (.cells [.int .i64 sa, .int .i64 sb, .int .i64 sc, .int .i64 sd, .int .u64 se, .slo 3 0 nw 0, .slo 4 0 nl 0, .int .u64 N, .slo 5 0 ns 0, .int .i64 C] none), some (.cells ws (some 1)), some (.cells ls (some 3)), some (.cells ss (some 1)), some (.cells ls (some 3)), some (.cells ps (some 1))] [])
   else False
   else False
   else False)
  else (
   K (.exit 4) [.ptr 0 0, .ptr 2 0, .any, .slo 6 0 nl 0, .any, .int .i64 o, .slo 7 0 p 0, .int .i64 ↑k, .any, .any] [some (.cells [.int .i64 wi, .slo 1 0 nl 0] none), some (.cells ls (some 3)), some (.cells [.int .i64 sa, .int .i64 sb, .int .i64 sc, .int .i64 sd, .int .u64 se, .slo 3 0 nw 0, .slo 4 0 nl 0, .int .u64 N, .slo 5 0 ns 0, .int .i64 C] none), some (.cells ws (some 1)), some (.cells ls (some 3)), some (.cells ss (some 1)), some (.cells ls (some 3)), some (.cells ps (some 1))] [])) := by kernel_rfl
theorem sa_g (o : Int) (p k : Nat) (sa sb sc sd se N C wi : Int) (nw nl ns : Nat) (ws ls ss : List LV) (ps : List LV) (K : Pk) : (xsp Go.Proofs.Try.prog cxs 40 101 (seg (spineL (blockIn (nthC (spineL (loopOf (nthC (sp Go.Proofs.Try.prog 21) 7))) 2))) 3 4) (mkTm 101 (saC nl o p k)) (mkS (qC sa sb sc sd se N C wi nw nl ns ws ls ss ps)) (vK saL K)) = (
  bif okL ls nl then
  bif xle nl 1000 then
  bif xcm .neq ↑(heN ls nl o) ↑p then (
   K .ret [.ptr 0 0, .ptr 2 0, .bool false, .slo 6 0 nl 0, .any, .int .i64 o, .slo 7 0 p 0, .int .i64 ↑k, .slo 8 0 (heN ls nl o) 0, .any] [some (.cells [.int .i64 wi, .slo 1 0 nl 0] none), some (.cells ls (some 3)), some (.cells [.int .i64 sa, .int .i64 sb, .int .i64 sc, .int .i64 sd, .int .u64 se, .slo 3 0 nw 0, .slo 4 0 nl 0, .int .u64 N, .slo 5 0 ns 0, .int .i64 C] none), some (.cells ws (some 1)), some (.cells ls (some 3)), some (.cells ss (some 1)), some (.cells ls (some 3)), some (.cells ps (some 1)), some (.cells (heC ls nl o) (some 1))] [])
  else (
   K .normal [.ptr 0 0, .ptr 2 0, .any, .slo 6 0 nl 0, .any, .int .i64 o, .slo 7 0 p 0, .int .i64 ↑k, .slo 8 0 (heN ls nl o) 0, .int .i64 0] [some (.cells [.int .i64 wi, .slo 1 0 nl 0] none), some (.cells ls (some 3)), some (.cells [.int .i64 sa, .int .i64 sb, .int .i64 sc, .int .i64 sd, .int .u64 se, .slo 3 0 nw 0, .slo 4 0 nl 0, .int .u64 N, .slo 5 0 ns 0, .int .i64 C] none), some (.cells ws (some 1)), some (.cells ls (some 3)), some (.cells ss (some 1)), some (.cells ls (some 3)), some (.cells ps (some 1)), some (.cells (heC ls nl o) (some 1))] [])
  else False
  else False) := by kernel_rfl
theorem sa_h (o : Int) (p k : Nat) (sa sb sc sd se N C wi : Int) (nw nl ns : Nat) (ws ls ss : List LV) (ps : List LV) (K : Pk) : (xcode Go.Proofs.Try.prog cxs 40 101 (loopOf (nthC (spineL (blockIn (nthC (spineL (loopOf (nthC (sp Go.Proofs.Try.prog 21) 7))) 2))) 7)) (mkTm 101 (saD nl o p k)) (mkS (qD sa sb sc sd se N C wi nw nl ns ws ls ss ps)) (vK saL K)) = (
  bif xcm .lss ↑k ↑p then (
   bif xle (xadd (xnat ↑k) 1) p then
   bif xle (xadd (xix 0 (xnat ↑k) 1) 1) (xln ps) then
   bif isI .i64 (nthD ps (xix 0 (xnat ↑k) 1)) then
   bif xle (xadd (xnat ↑k) 1) p then
   bif xle (xadd (xix 0 (xnat ↑k) 1) 1) (xln ps) then
   bif isI .i64 (nthD ps (xix 0 (xnat ↑k) 1)) then
   bif xcm .neq (asI (nthD ps (xix 0 (xnat ↑k) 1))) (asI (nthD ps (xix 0 (xnat ↑k) 1))) then (
    K .ret [.ptr 0 0, .ptr 2 0, .bool false, .slo 6 0 nl 0, .any, .int .i64 o, .slo 7 0 p 0, .any, .slo 8 0 p 0, .int .i64 ↑k] [some (.cells [.int .i64 wi, .slo 1 0 nl 0] none), some (.cells ls (some 3)), some (.cells [.int .i64 sa, .int .i64 sb, .int .i64 sc, .int .i64 sd, .int .u64 se, .slo 3 0 nw 0, .slo 4 0 nl 0, .int .u64 N, .slo 5 0 ns 0, .int .i64 C] none), some (.cells ws (some 1)), some (.cells ls (some 3)), some (.cells ss (some 1)), some (.cells ls (some 3)), some (.cells ps (some 1)), some (.cells ps (some 1))] [])
   else (
    K .normal [.ptr 0 0, .ptr 2 0, .any, .slo 6 0 nl 0, .any, .int .i64 o, .slo 7 0 p 0, .any, .slo 8 0 p 0, .int .i64 (xar .add .i64 (↑k) 1)] [some (.cells [.int .i64 wi, .slo 1 0 nl 0] none), some (.cells ls (some 3)), some (.cells [.int .i64 sa, .int .i64 sb, .int .i64 sc, .int .i64 sd, .int .u64 se, .slo 3 0 nw 0, .slo 4 0 nl 0, .int .u64 N, .slo 5 0 ns 0, .int .i64 C] none), some (.cells ws (some 1)), some (.cells ls (some 3)), some (.cells ss (some 1)), some (.cells ls (some 3)), some (.cells ps (some 1)), some (.cells ps (some 1))] [])
   else False
   else False
   else False
   else False
   else False
   else False)
  else (
   K (.exit 6) [.ptr 0 0, .ptr 2 0, .any, .slo 6 0 nl 0, .any, .int .i64 o, .slo 7 0 p 0, .any, .slo 8 0 p 0, .int .i64 ↑k] [some (.cells [.int .i64 wi, .slo 1 0 nl 0] none), some (.cells ls (some 3)), some (.cells [.int .i64 sa, .int .i64 sb, .int .i64 sc, .int .i64 sd, .int .u64 se, .slo 3 0 nw 0, .slo 4 0 nl 0, .int .u64 N, .slo 5 0 ns 0, .int .i64 C] none), some (.cells ws (some 1)), some (.cells ls (some 3)), some (.cells ss (some 1)), some (.cells ls (some 3)), some (.cells ps (some 1)), some (.cells ps (some 1))] [])) := by kernel_rfl
theorem sa_i (o : Int) (sa sb sc sd se N C wi : Int) (nw nl ns : Nat) (ws ls ss : List LV) (K : Pk) : (xsp Go.Proofs.Try.prog cxs 40 101 ((spineL (loopOf (nthC (sp Go.Proofs.Try.prog 21) 7))).drop 3) (mkTm 101 (saB nl o)) (mkS (qA sa sb sc sd se N C wi nw nl ns ws ls ss)) (vK saL K)) = (
  K .normal [.ptr 0 0, .ptr 2 0, .any, .slo 6 0 nl 0, .any, .int .i64 (xar .add .i64 o 1), .any, .any, .any, .any] [some (.cells [.int .i64 wi, .slo 1 0 nl 0] none), some (.cells ls (some 3)), some (.cells [.int .i64 sa, .int .i64 sb, .int .i64 sc, .int .i64 sd, .int .u64 se, .slo 3 0 nw 0, .slo 4 0 nl 0, .int .u64 N, .slo 5 0 ns 0, .int .i64 C] none), some (.cells ws (some 1)), some (.cells ls (some 3)), some (.cells ss (some 1)), some (.cells ls (some 3))] []) := by kernel_rfl
theorem sa_z (o : Int) (sa sb sc sd se N C wi : Int) (nw nl ns : Nat) (ws ls ss : List LV) (K : Pk) : (xsp Go.Proofs.Try.prog cxs 40 101 ((sp Go.Proofs.Try.prog 21).drop 8) (mkTm 101 (saB nl o)) (mkS (qA sa sb sc sd se N C wi nw nl ns ws ls ss)) (vK saL K)) = (
  K .ret [.ptr 0 0, .ptr 2 0, .bool true, .slo 6 0 nl 0, .any, .int .i64 o, .any, .any, .any, .any] [some (.cells [.int .i64 wi, .slo 1 0 nl 0] none), some (.cells ls (some 3)), some (.cells [.int .i64 sa, .int .i64 sb, .int .i64 sc, .int .i64 sd, .int .u64 se, .slo 3 0 nw 0, .slo 4 0 nl 0, .int .u64 N, .slo 5 0 ns 0, .int .i64 C] none), some (.cells ws (some 1)), some (.cells ls (some 3)), some (.cells ss (some 1)), some (.cells ls (some 3))] []) := by kernel_rfl
end
end Go.Lev
