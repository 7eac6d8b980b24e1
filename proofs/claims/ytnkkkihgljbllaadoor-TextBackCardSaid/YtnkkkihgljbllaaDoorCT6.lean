/- text: contracts of both Prints -/
import Derived.Test.YtnkkkihgljbllaaDoorCT5
import Derived.Test.YtnkkkihgljbllaaDoorLc
import Derived.Test.YtnkkkihgljbllaaDoorChecked
import Derived.KernelRfl
namespace Go.Lev
set_option linter.unusedSimpArgs false
set_option linter.unusedVariables false
open Go.RowKit
open Go.Proofs.Tryd (prog)
set_option maxRecDepth 100000
noncomputable section
theorem gt4_up {W w:World} (h:Gl W gt4) (hb:Below W.heap.size W w):Gl w gt4:=fun x hx=>by
 rcases h x hx with⟨F,e,hF⟩ | ⟨c,e,f,h1,h2⟩
 ·refine .inl ⟨F,e,?_⟩
  have:F=powF:=by
   simp only [gt4,List.mem_cons,List.not_mem_nil,or_false] at hx
   rcases hx with rfl | rfl | rfl | rfl
   ·cases e
   ·cases e
   ·cases e
   ·simp only [List.cons.injEq,LV.fact.injEq,and_true] at e; exact e.symm
  subst this
  exact pow_up hF hb
 ·refine .inr ⟨c,e,f,?_,h2⟩
  have:x.1 < W.heap.size:=(Array.getElem?_eq_some_iff.1 h1).1
  rw [hb.block _ this]; exact h1
theorem one_get {L M:LB} {g:Glb} {b:Nat} (h:(mkS [L] g).h.get b=some M):b=0∧M=L:=by
 rw [mkS_get] at h
 rcases Nat.eq_zero_or_pos b with rfl | hb
 ·simp at h; exact⟨rfl,h.symm⟩
 ·rw [List.getElem?_eq_none (show [L].length≤b from hb)] at h; cases h
theorem SFun.froze4 {P:Program} {f:Nat} {args:List LV} {cs:List LV} {op:Option Nat} {g:Glb} {v:LV} (hv:noId v=true) (hf:∀ {W w:World},Gl W g→Below W.heap.size W w→Gl w g)
  (h:SFun P f args (mkS [.ro cs] g) fun l _=>l=v):SFun P f args (mkS [.cells cs op] g) fun l s'=>l=v∧s'=mkS [.cells cs op] g:=by
 intro W0 r w us hI hus
 have hn:(mkS [.ro cs] g).n=(mkS [.cells cs op] g).n:=by rw [mkS_n,mkS_n]; rfl
 have nolive:∀ b,¬ (mkS [.ro cs] g).lives b:=fun b ⟨L,h1,h2⟩=>by
  obtain⟨_,rfl⟩:=one_get h1; cases h2
 have hget:(mkS [.cells cs op] g).h.get 0=some (.cells cs op):=by rw [mkS_get]; rfl
 have no1:∀ b F cs' g',(mkS [.ro cs] g).h.get b≠some (.obj F cs' g'):=fun b F cs' g' hb=>by have:=(one_get hb).2; cases this
 have no2:∀ b F cs' g',(mkS [.cells cs op] g).h.get b≠some (.obj F cs' g'):=fun b F cs' g' hb=>by have:=(one_get hb).2; cases this
 have hI':Inv w r (mkS [.ro cs] g) w:=by
  refine⟨Below.refl _ _,fun b x hx=>by rw [hn]; exact hI.dom b x hx,fun b x hl=>absurd hl (nolive b),fun b hb=>?_,fun b b' x x' hl=>absurd hl (nolive b),fun b ds o hb=>?_,fun b t p hb=>?_,hf hI.gl hI.below,fun b ds hb=>?_,OInv.none no1⟩
  ·rw [mkS_get]; rw [mkS_n] at hb; exact List.getElem?_eq_none hb
  ·have:=(one_get hb).2; cases this
  ·have:=(one_get hb).2; cases this
  ·obtain⟨rfl,e⟩:=one_get hb
   cases e
   rcases hI.cells 0 cs op hget with h0 | ⟨x,h1,h2⟩
   ·exact .inl h0
   ·obtain⟨c,e,lo,hi,q1,q2,_⟩:=h2.ex
    exact .inr ⟨x,h1,c,e,(lo,hi),q1,q2⟩
 refine(h w r w us hI' hus).mono fun e w' ⟨l,s',v',r',hl,he,hvv,hIw,hE⟩=>?_
 subst hl
 have hb:=hIw.below
 refine⟨l,_,v',r,⟨rfl,rfl⟩,he,noId.sound hv hvv,?_,⟨r.le_refl,Nat.le_refl _,hb.size,fun B _ h=>h,fun B hB _=>hb.block B hB⟩⟩
 refine⟨hI.below.trans (hb.mono hI.below.size),fun b x hx=>⟨(hI.dom b x hx).1,Nat.lt_of_lt_of_le (hI.dom b x hx).2 hb.size⟩,hI.own,hI.fresh,hI.inj,fun b ds o hds=>?_,fun b t p ht=>?_,hI.gl,fun b ds hds=>?_,OInv.none no2⟩
 ·rcases hI.cells b ds o hds with h0 | ⟨x,h1,h2⟩
  ·exact .inl h0
  ·refine .inr ⟨x,h1,?_⟩
   obtain⟨⟨c,e,lo,hi,q1,q2⟩,q3⟩:=h2
   exact⟨⟨c,e,lo,hi,by rw [hb.block _ (hI.dom b x h1).2]; exact q1,q2⟩,q3⟩
 ·have:=(one_get ht).2; cases this
 ·have:=(one_get hds).2; cases this
theorem pt_c (n:Nat) (cs:List LV) (h:okI5 n cs=true):SFun prog 12 [.agg [.slo 0 0 n 0]] (mkS [.ro cs] gt4) fun l s=>l=.str (ptxW cs)∧s=mkS [.ro cs] gt4:=by
 obtain⟨L,rfl,rfl,hb⟩:=okI5_iff.1 h; exact print_f L hb
theorem po_c (n:Nat) (cs:List LV) (h:okI5 n cs=true):SFun prog 12 [.agg [.slo 0 0 n 0]] (mkS [.cells cs (some 5)] gt4) fun l s=>l=.str (ptxW cs)∧s=mkS [.cells cs (some 5)] gt4 :=
 SFun.froze4 rfl gt4_up (SFun.mono (pt_c n cs h) fun l s h=>h.1)
def poG:Gc:=fun args s=>match args,s.g with
 | [.agg [.slo q 0 n 0]],[(g0,F0),(g1,F1),(g2,F2),(g3,[.fact F])]=>cond (Nat.beq g0 0 && eqbs F0 formsL && (Nat.beq g1 2 && eqbs F1 callsL) && (Nat.beq g2 2 && eqbs F2 callsL) && Nat.beq g3 1000) (match s.h.get q with
   | some (.cells cs (some 5))=>(match s.lay [q] [.cells cs (some 5)] [] with
     | some s'=>some ([isFt F,okI5 n cs],.str (ptxW cs),s')
     | none=>none)
   | _=>none) none
 | _,_=>none
theorem poG_ok:GOk prog 12 poG:=by
 intro args s bs l s' hg hb hfr
 unfold poG at hg
 split at hg
 ·rename_i q n g0 F0 g1 F1 g2 F2 g3 F hgl
  cases hc:(Nat.beq g0 0 && eqbs F0 formsL && (Nat.beq g1 2 && eqbs F1 callsL) && (Nat.beq g2 2 && eqbs F2 callsL) && Nat.beq g3 1000) with
  | false=>rw [hc] at hg; cases hg
  | true =>
    rw [hc] at hg
    simp only [cond_true] at hg
    simp only [Bool.and_eq_true] at hc
    replace hgl:s.g=gtF F:=by rw [hgl,Nat.eq_of_beq_eq_true hc.1.1.1.1,eqbs_eq hc.1.1.1.2,Nat.eq_of_beq_eq_true hc.1.1.2.1,eqbs_eq hc.1.1.2.2,Nat.eq_of_beq_eq_true hc.1.2.1,eqbs_eq hc.1.2.2,Nat.eq_of_beq_eq_true hc.2]
    split at hg
    ·rename_i cs hb0
     split at hg
     ·rename_i s1 hs1
      simp only [Option.some.injEq,Prod.mk.injEq] at hg
      obtain⟨rfl,rfl,rfl⟩:=hg
      simp only [allT_cons] at hb
      obtain⟨k1,k2,_⟩:=hb
      have eF:=isFt_eq k1
      subst eF
      have no:=okI5_noids k2
      refine SFun.lay (bs:=[.cells cs (some 5)]) (args0:=[.agg [.slo 0 0 n 0]]) (bs':=[.cells cs (some 5)]) (v0:=.str (ptxW cs)) hfr hs1 (by simp)
       ⟨⟨there hfr hb0,_,hb0,lb_same (by(exact zId)),fun κ hκ=>lb_same (by(exact zId))⟩,trivial⟩ (by((repeat refine lws_cons (by(first | exact lw_any | exact lw_int | exact lw_bool | exact lw_ptr rfl | exact lw_slo rfl | exact lw_nilp | exact lw_nils | exact lw_str | exact lw_slo_nils | exact lw_slo_sle | exact lw_sl rfl | exact lw_unb | exact lw_gptr | exact lw_noid rfl | exact lw_cap rfl (Nat.le_refl _) | exact lw_cap rfl (by omega) | assumption | exact lw_tup (by((repeat refine lws_cons (by(first | exact lw_any | exact lw_int | exact lw_bool | exact lw_ptr rfl | exact lw_slo rfl | exact lw_nilp | exact lw_nils | exact lw_str | exact lw_slo_nils | exact lw_slo_sle | exact lw_sl rfl | exact lw_unb | exact lw_gptr | exact lw_noid rfl | exact lw_cap rfl (Nat.le_refl _) | exact lw_cap rfl (by omega) | assumption)) ?_); exact lws_nil)) | exact lw_agg (by((repeat refine lws_cons (by(first | exact lw_any | exact lw_int | exact lw_bool | exact lw_ptr rfl | exact lw_slo rfl | exact lw_nilp | exact lw_nils | exact lw_str | exact lw_slo_nils | exact lw_slo_sle | exact lw_sl rfl | exact lw_unb | exact lw_gptr | exact lw_noid rfl | exact lw_cap rfl (Nat.le_refl _) | exact lw_cap rfl (by omega) | assumption | exact lw_tup (by((repeat refine lws_cons (by(first | exact lw_any | exact lw_int | exact lw_bool | exact lw_ptr rfl | exact lw_slo rfl | exact lw_nilp | exact lw_nils | exact lw_str | exact lw_slo_nils | exact lw_slo_sle | exact lw_sl rfl | exact lw_unb | exact lw_gptr | exact lw_noid rfl | exact lw_cap rfl (Nat.le_refl _) | exact lw_cap rfl (by omega) | assumption)) ?_); exact lws_nil)))) ?_); exact lws_nil)) | exact lw_fn (by((repeat refine lws_cons (by(first | exact lw_any | exact lw_int | exact lw_bool | exact lw_ptr rfl | exact lw_slo rfl | exact lw_nilp | exact lw_nils | exact lw_str | exact lw_slo_nils | exact lw_slo_sle | exact lw_sl rfl | exact lw_unb | exact lw_gptr | exact lw_noid rfl | exact lw_cap rfl (Nat.le_refl _) | exact lw_cap rfl (by omega) | assumption | exact lw_tup (by((repeat refine lws_cons (by(first | exact lw_any | exact lw_int | exact lw_bool | exact lw_ptr rfl | exact lw_slo rfl | exact lw_nilp | exact lw_nils | exact lw_str | exact lw_slo_nils | exact lw_slo_sle | exact lw_sl rfl | exact lw_unb | exact lw_gptr | exact lw_noid rfl | exact lw_cap rfl (Nat.le_refl _) | exact lw_cap rfl (by omega) | assumption)) ?_); exact lws_nil)))) ?_); exact lws_nil)))) ?_); exact lws_nil)) ?_
       fun κ h1 h2=>⟨⟨lb_same (by(exact zId)),trivial⟩,lw_noid rfl⟩
      rw [hgl]; exact(po_c n cs k2)
     ·cases hg
    ·cases hg
 ·cases hg
end
end Go.Lev
