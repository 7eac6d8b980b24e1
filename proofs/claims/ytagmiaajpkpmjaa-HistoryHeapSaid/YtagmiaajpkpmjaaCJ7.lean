/- chapter 29: the stable sort of few -/
import Derived.Test.YtagmiaajpkpmjaaCJ6
import Derived.Test.YtagmiaajpkpmjaaLc
import Derived.Test.YtagmiaajpkpmjaaChecked
import Derived.KernelRfl
namespace Go.Lev
set_option linter.unusedSimpArgs false
set_option linter.unusedVariables false
open Go.RowKit
open Go.Proofs.Try (prog)
set_option maxRecDepth 100000
noncomputable section
def okAts (c:List LV) (n:Nat) (ats:List AtV):Prop:=c=encL atC ats∧n=ats.length∧n≤20
def okAt (c:List LV) (n:Nat):Bool:=@decide (∃ ats,okAts c n ats) (Classical.propDecidable _)
def okRg (c:List LV) (n:Nat):Bool:=@decide (c=encL nI (List.range n)) (Classical.propDecidable _)
def orW (c:List LV) (n:Nat):List LV:=encL nI (srt (ltC c) n n)
def okSo (o c:List LV) (n:Nat):Bool:=@decide (o=orW c n) (Classical.propDecidable _)
theorem okAt_iff {c:List LV} {n:Nat}:okAt c n=true↔∃ ats,okAts c n ats:=by simp only [okAt,decide_eq_true_eq]
theorem okRg_iff {c:List LV} {n:Nat}:okRg c n=true↔c=encL nI (List.range n):=by simp only [okRg,decide_eq_true_eq]
theorem okSo_iff {o c:List LV} {n:Nat}:okSo o c n=true↔o=orW c n:=by simp only [okSo,decide_eq_true_eq]
theorem okAt_nd {c:List LV} {n:Nat} (h:okAt c n=true):noIds c=true:=by
 obtain⟨ats,rfl,_⟩:=okAt_iff.1 h
 exact noids_aC ats
theorem isc_ok (n n2:Nat) (z m:Int) (c oc:List LV) (F:World→Prop) (k1:okAt c n=true) (k2:okRg oc n=true) (k3:xcm .eql z 0=true) (k4:xcm .eql m (.ofNat n)=true) (k5:xle n2 n=true) (k6:xle n n2=true) :
  SFun prog 24 [.slo 2 0 n 0,.int .i64 z,.int .i64 m,.fn 16 [.ptr 0 0]] (mkS [.cells [.slo 1 0 n2 0] none,.ro c,.cells oc (some 1)] (factG F)) fun l s=>l=.tup []∧s=mkS [.cells [.slo 1 0 n2 0] none,.ro c,.cells (orW c n) (some 1)] (factG F):=by
 obtain⟨ats,rfl,rfl,h2⟩:=okAt_iff.1 k1
 obtain rfl:=okRg_iff.1 k2
 rw [xcm_eql,decide_eq_true_eq] at k3 k4
 rw [wd_le,decide_eq_true_eq] at k5 k6
 obtain rfl:n2=ats.length:=Nat.le_antisymm k5 k6
 subst k3 k4
 exact is_ok ats F (by omega)
def isG:Gc:=fun args s=>match args,s.g with
 | [.slo d 0 n 0,.int .i64 z,.int .i64 m,.fn 16 [.ptr b 0]],[(0,[.fact F])]=>(match s.h.get b with
   | some (.cells [.slo a 0 n2 0] none)=>(match s.h.get a with
     | some (.ro c)=>(match s.h.get d with
       | some (.cells oc (some 1))=>cond (nodupB [b,a,d]) (match s.lay [b,a,d] [.cells [.slo a 0 n2 0] none,.ro c,.cells (orW c n) (some 1)] [] with
         | some s'=>some ([okAt c n,okRg oc n,xcm .eql z 0,xcm .eql m (.ofNat n),xle n2 n,xle n n2],.tup [],s')
         | none=>none) none
       | _=>none)
     | _=>none)
   | _=>none)
 | _,_=>none
theorem isG_ok:GOk prog 24 isG:=by
 intro args s bs l s' hg hb hfr
 unfold isG at hg
 split at hg
 ·rename_i d n z m b F hgl
  split at hg
  ·rename_i a n2 hb0
   split at hg
   ·rename_i c hb1
    split at hg
    ·rename_i oc hb2
     cases hbc:nodupB [b,a,d] with
     | false=>rw [hbc] at hg; cases hg
     | true =>
       rw [hbc] at hg
       simp only [cond_true] at hg
       split at hg
       ·rename_i s1 hs1
        simp only [Option.some.injEq,Prod.mk.injEq] at hg
        obtain⟨rfl,rfl,rfl⟩:=hg
        simp only [allT_cons] at hb
        obtain⟨k1,k2,k3,k4,k5,k6,_⟩:=hb
        have nc:noIds c=true:=okAt_nd k1
        have no:noIds oc=true:=by rw [okRg_iff.1 k2]; exact noids_nI _
        refine SFun.lay (bs:=[.cells [.slo 1 0 n2 0] none,.ro c,.cells oc (some 1)]) (args0:=[.slo 2 0 n 0,.int .i64 z,.int .i64 m,.fn 16 [.ptr 0 0]]) (bs':=[.cells [.slo 1 0 n2 0] none,.ro c,.cells (orW c n) (some 1)]) (v0:=.tup []) hfr hs1 (nodupB_nd hbc)
         ⟨⟨there hfr hb0,_,hb0,by first | exact lb_same rfl | exact lb_cells (lws_cons (lw_slo rfl) lws_nil) (by simp),fun κ hκ=>lb_cells (lws_cons (lw_slo (hκ 1 a rfl)) lws_nil) (by simp)⟩,⟨there hfr hb1,_,hb1,lb_ro (by(exact zId)),fun κ hκ=>lb_ro (by(exact zId))⟩,⟨there hfr hb2,_,hb2,lb_same (by(exact zId)),fun κ hκ=>lb_same (by(exact zId))⟩,trivial⟩ (by((repeat refine lws_cons (by(first | exact lw_any | exact lw_int | exact lw_bool | exact lw_ptr rfl | exact lw_slo rfl | exact lw_nilp | exact lw_nils | exact lw_str | exact lw_slo_nils | exact lw_slo_sle | exact lw_sl rfl | exact lw_unb | exact lw_gptr | exact lw_noid rfl | exact lw_cap rfl (Nat.le_refl _) | exact lw_cap rfl (by omega) | assumption | exact lw_tup (by((repeat refine lws_cons (by(first | exact lw_any | exact lw_int | exact lw_bool | exact lw_ptr rfl | exact lw_slo rfl | exact lw_nilp | exact lw_nils | exact lw_str | exact lw_slo_nils | exact lw_slo_sle | exact lw_sl rfl | exact lw_unb | exact lw_gptr | exact lw_noid rfl | exact lw_cap rfl (Nat.le_refl _) | exact lw_cap rfl (by omega) | assumption)) ?_); exact lws_nil)) | exact lw_agg (by((repeat refine lws_cons (by(first | exact lw_any | exact lw_int | exact lw_bool | exact lw_ptr rfl | exact lw_slo rfl | exact lw_nilp | exact lw_nils | exact lw_str | exact lw_slo_nils | exact lw_slo_sle | exact lw_sl rfl | exact lw_unb | exact lw_gptr | exact lw_noid rfl | exact lw_cap rfl (Nat.le_refl _) | exact lw_cap rfl (by omega) | assumption | exact lw_tup (by((repeat refine lws_cons (by(first | exact lw_any | exact lw_int | exact lw_bool | exact lw_ptr rfl | exact lw_slo rfl | exact lw_nilp | exact lw_nils | exact lw_str | exact lw_slo_nils | exact lw_slo_sle | exact lw_sl rfl | exact lw_unb | exact lw_gptr | exact lw_noid rfl | exact lw_cap rfl (Nat.le_refl _) | exact lw_cap rfl (by omega) | assumption)) ?_); exact lws_nil)))) ?_); exact lws_nil)) | exact lw_fn (by((repeat refine lws_cons (by(first | exact lw_any | exact lw_int | exact lw_bool | exact lw_ptr rfl | exact lw_slo rfl | exact lw_nilp | exact lw_nils | exact lw_str | exact lw_slo_nils | exact lw_slo_sle | exact lw_sl rfl | exact lw_unb | exact lw_gptr | exact lw_noid rfl | exact lw_cap rfl (Nat.le_refl _) | exact lw_cap rfl (by omega) | assumption | exact lw_tup (by((repeat refine lws_cons (by(first | exact lw_any | exact lw_int | exact lw_bool | exact lw_ptr rfl | exact lw_slo rfl | exact lw_nilp | exact lw_nils | exact lw_str | exact lw_slo_nils | exact lw_slo_sle | exact lw_sl rfl | exact lw_unb | exact lw_gptr | exact lw_noid rfl | exact lw_cap rfl (Nat.le_refl _) | exact lw_cap rfl (by omega) | assumption)) ?_); exact lws_nil)))) ?_); exact lws_nil)))) ?_); exact lws_nil)) ?_
         fun κ h1 h2=>⟨⟨lb_cells (lws_cons (lw_slo (h1 1 a rfl)) lws_nil) (by simp),lb_ro (by(exact zId)),lb_same (noids_nI _),trivial⟩,lw_noid rfl⟩
        rw [hgl]; exact(isc_ok n n2 z m c oc F k1 k2 k3 k4 k5 k6)
       ·cases hg
    ·cases hg
   ·cases hg
  ·cases hg
 ·cases hg
end
end Go.Lev
