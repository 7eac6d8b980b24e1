/- text: printable -/
import Derived.Test.YtnkkkihgljbllaaDoorCQ9
import Derived.Test.YtnkkkihgljbllaaDoorLc
import Derived.Test.YtnkkkihgljbllaaDoorChecked
import Derived.KernelRfl
namespace Go.Lev
set_option linter.unusedSimpArgs false
set_option linter.unusedVariables false
open Go.RowKit
open Go.Proofs.Tryd (prog)
set_option maxRecDepth 100000
noncomputable section
theorem cxR_ok:CtrOk prog (ctrOf cxR):=cxl_ok ⟨mayG_ok,trivial⟩
theorem prW_no {L:List InsR} (h:¬ okP L):prW (encL insE L)=false:=Bool.eq_false_iff.2 fun e=>h ((prW_enc L).1 e)
set_option maxHeartbeats 4000000 in
theorem pr_f (L:List InsR):SFun prog 23 [.agg [.slo 0 0 L.length 0]] (mkS [.ro (encL insE L)] gt4) fun l s=>l=.bool (prW (encL insE L))∧s=mkS [.ro (encL insE L)] gt4:=by
 refine SFun.mono (SFun.pieces (Q:=fun l b'=>l=.bool (prW (encL insE L))∧b'=[.ro (encL insE L)]) 33 1 prL [2] (by kernel_rfl) rfl rfl rfl ?_) fun l s' ⟨b0,⟨h1,h2⟩,h3⟩=>⟨h1,by rw [h3,h2]⟩
 have nls:noIds (encL insE L)=true:=ins_noids L
 refine SSp.to cxR_ok (n:=40) (g:=gt4) 4 4 rfl (σ:={_u:Unit // L.length≤40}) (fun _=>prT L.length 0) (fun _=>prH L.length (encL insE L)) (mkS_le (Nat.le_of_ble_eq_true rfl)) (by kernel_rfl) ?_ fun⟨_,h40⟩=>?_
 ·rw [pr_a]
  by_cases c:40 < L.length
  ·have hF:prW (encL insE L)=false:=prW_no fun h=>by have:=h.1; omega
   (refine zR ?_)
   exact⟨trivial,rfl,.bool false,_,[.id 0],⟨by rw [hF],rfl⟩,by(exact zC)⟩
  ·(refine zR ?_)
   exact⟨rfl,⟨(),by omega⟩,[.id 0,.id 1],by(exact zC)⟩
 refine SSp.code_to (g:=gt4) 5 rfl (σ:={_u:Unit // okP L}) (fun _=>prT L.length L.length) (fun _=>prH L.length (encL insE L)) (by kernel_rfl) ?_ fun⟨_,hok⟩=>?_
 ·refine SCode.loop_vc cxR_ok (n:=40) 0 (by kernel_rfl) (σ:={i:Nat // i≤L.length∧∀ j (h:j < L.length),j < i→okx L.length L[j]}) (fun i=>prT L.length i.1) (fun _=>prH L.length (encL insE L)) (fun i=>L.length - i.1) (fun _=>Nat.le_of_ble_eq_true rfl) (fun⟨i,hi,hj⟩=>?_) ⟨0,by omega,fun j _ h=>by omega⟩
  dsimp only
  rw [pr_l]; simp only [pr_l_b1]
  by_cases hlt:i < L.length
  ·have c0:=ins_0 hlt
   have c1:=ins_1 hlt
   have c2:nthD (encL insE L) (i * 5+1+1)=.int .i64 L[i].b:=ins_2 hlt
   have c3:nthD (encL insE L) (i * 5+1+1+1)=.int .i64 L[i].c:=ins_3 hlt
   have c4:nthD (encL insE L) (i * 5+1+1+1+1)=.int .u64 L[i].n:=ins_4 hlt
   have i1:xar .add .i64 (i:Int) 1=((i+1:Nat):Int):=inc_i64 hlt (by omega)
   have nx:okx L.length L[i]→∀ j (h:j < L.length),j < i+1→okx L.length L[j]:=fun h j h1 h2=>by
    rcases Nat.lt_succ_iff_lt_or_eq.1 h2 with h2 | rfl
    ·exact hj j h1 h2
    ·exact h
   have bad:¬ okx L.length L[i]→prW (encL insE L)=false:=fun h=>prW_no fun k=>h (k.2 _ (List.getElem_mem hlt))
   cases hm:mayW L[i].op L[i].a L[i].b L[i].c L[i].n with
   | false =>
     have hF:=bad fun h=>by rw [h.1] at hm; cases hm
     simp only [wd_nat,wd_asV,wd_isV,wd_ix,wd_add,wd_mul,wd_ln,Nat.zero_add,Nat.mul_one,wd_isI,wd_asI,wd_isB,wd_asB,wd_nn,cI_tlen,cB_tlen,cII_tlen,decide_true,cond_true,wd_not_t,wd_not_f,wd_and_t,wd_and_f,c0,c1,c2,c3,c4,ins_n,hm,i1]
     (refine zR ?_)
     exact⟨trivial,rfl,.bool false,_,[.id 0],⟨by rw [hF],rfl⟩,by(exact zC)⟩
   | true =>
     by_cases y12:L[i].op=12
     ·by_cases yc:(L.length:Int) < L[i].c
      ·have hF:=bad fun h=>by have:=h.2 (.inl y12); omega
       simp only [wd_nat,wd_asV,wd_isV,wd_ix,wd_add,wd_mul,wd_ln,Nat.zero_add,Nat.mul_one,wd_isI,wd_asI,wd_isB,wd_asB,wd_nn,cI_tlen,cB_tlen,cII_tlen,decide_true,cond_true,wd_not_t,wd_not_f,wd_and_t,wd_and_f,c0,c1,c2,c3,c4,ins_n,hm,i1]
       (refine zR ?_)
       exact⟨trivial,rfl,.bool false,_,[.id 0],⟨by rw [hF],rfl⟩,by(exact zC)⟩
      ·have hn:=nx ⟨hm,fun _=>by omega⟩
       simp only [wd_nat,wd_asV,wd_isV,wd_ix,wd_add,wd_mul,wd_ln,Nat.zero_add,Nat.mul_one,wd_isI,wd_asI,wd_isB,wd_asB,wd_nn,cI_tlen,cB_tlen,cII_tlen,decide_true,cond_true,wd_not_t,wd_not_f,wd_and_t,wd_and_f,c0,c1,c2,c3,c4,ins_n,hm,i1]
       (refine zR ?_)
       exact⟨rfl,⟨i+1,hlt,hn⟩,by simp only; omega,[.id 0,.id 1],by(exact zC)⟩
     ·by_cases y13:L[i].op=13
      ·by_cases yc:(L.length:Int) < L[i].c
       ·have hF:=bad fun h=>by have:=h.2 (.inr y13); omega
        simp only [wd_nat,wd_asV,wd_isV,wd_ix,wd_add,wd_mul,wd_ln,Nat.zero_add,Nat.mul_one,wd_isI,wd_asI,wd_isB,wd_asB,wd_nn,cI_tlen,cB_tlen,cII_tlen,decide_true,cond_true,wd_not_t,wd_not_f,wd_and_t,wd_and_f,c0,c1,c2,c3,c4,ins_n,hm,i1]
        (refine zR ?_)
        exact⟨trivial,rfl,.bool false,_,[.id 0],⟨by rw [hF],rfl⟩,by(exact zC)⟩
       ·have hn:=nx ⟨hm,fun _=>by omega⟩
        simp only [wd_nat,wd_asV,wd_isV,wd_ix,wd_add,wd_mul,wd_ln,Nat.zero_add,Nat.mul_one,wd_isI,wd_asI,wd_isB,wd_asB,wd_nn,cI_tlen,cB_tlen,cII_tlen,decide_true,cond_true,wd_not_t,wd_not_f,wd_and_t,wd_and_f,c0,c1,c2,c3,c4,ins_n,hm,i1]
        (refine zR ?_)
        exact⟨rfl,⟨i+1,hlt,hn⟩,by simp only; omega,[.id 0,.id 1],by(exact zC)⟩
      ·have hn:=nx ⟨hm,fun h=>by omega⟩
       simp only [wd_nat,wd_asV,wd_isV,wd_ix,wd_add,wd_mul,wd_ln,Nat.zero_add,Nat.mul_one,wd_isI,wd_asI,wd_isB,wd_asB,wd_nn,cI_tlen,cB_tlen,cII_tlen,decide_true,cond_true,wd_not_t,wd_not_f,wd_and_t,wd_and_f,c0,c1,c2,c3,c4,ins_n,hm,i1]
       (refine zR ?_)
       exact⟨rfl,⟨i+1,hlt,hn⟩,by simp only; omega,[.id 0,.id 1],by(exact zC)⟩
  ·obtain rfl:i=L.length:=by omega
   have hok:okP L:=⟨h40,fun x hx=>by
    obtain⟨j,h1,rfl⟩:=List.mem_iff_getElem.1 hx
    exact hj j h1 h1⟩
   (refine zR ?_)
   exact⟨rfl,⟨(),hok⟩,[.id 0,.id 1],by(exact zC)⟩
 have hT:prW (encL insE L)=true:=(prW_enc L).2 hok
 refine SSp.last cxR_ok (n:=40) (mkS_le (Nat.le_of_ble_eq_true rfl)) ?_
 rw [pr_z]
 exact⟨trivial,rfl,.bool true,_,[.id 0],⟨by rw [hT],rfl⟩,by(exact zC)⟩
theorem okI5_noids {n:Nat} {cs:List LV} (h:okI5 n cs=true):noIds cs=true:=by
 obtain⟨L,rfl,_⟩:=okI5_iff.1 h; exact ins_noids L
theorem pr_c (n:Nat) (cs:List LV) (h:okI5 n cs=true):SFun prog 23 [.agg [.slo 0 0 n 0]] (mkS [.ro cs] gt4) fun l s=>l=.bool (prW cs)∧s=mkS [.ro cs] gt4:=by
 obtain⟨L,rfl,rfl,_⟩:=okI5_iff.1 h; exact pr_f L
def prG:Gc:=fun args s=>match args,s.g with
 | [.agg [.slo q 0 n 0]],[(g0,F0),(g1,F1),(g2,F2),(g3,[.fact F])]=>cond (Nat.beq g0 0 && eqbs F0 formsL && (Nat.beq g1 2 && eqbs F1 callsL) && (Nat.beq g2 2 && eqbs F2 callsL) && Nat.beq g3 1000) (match s.h.get q with
   | some (.ro cs)=>(match s.lay [q] [.ro cs] [] with
     | some s'=>some ([isFt F,okI5 n cs],.bool (prW cs),s')
     | none=>none)
   | _=>none) none
 | _,_=>none
theorem prG_ok:GOk prog 23 prG:=by
 intro args s bs l s' hg hb hfr
 unfold prG at hg
 split at hg
 ·rename_i q n g0 F0 g1 F1 g2 F2 g3 F hgl
  cases hc:(Nat.beq g0 0 && eqbs F0 formsL && (Nat.beq g1 2 && eqbs F1 callsL) && (Nat.beq g2 2 && eqbs F2 callsL) && Nat.beq g3 1000) with
  | false=>rw [hc] at hg; cases hg
  | true =>
    rw [hc] at hg
    simp only [cond_true] at hg
    simp only [Bool.and_eq_true] at hc
    replace hgl:s.g=gtF F:=by rw [hgl,Nat.eq_of_beq_eq_true hc.1.1.1.1,eqbs_eq hc.1.1.1.2,Nat.eq_of_beq_eq_true hc.1.1.2.1,eqbs_eq hc.1.1.2.2,Nat.eq_of_beq_eq_true hc.1.2.1,eqbs_eq hc.1.2.2,Nat.eq_of_beq_eq_true hc.2]
    split at hg
    ·rename_i cs hb0
     split at hg
     ·rename_i s1 hs1
      simp only [Option.some.injEq,Prod.mk.injEq] at hg
      obtain⟨rfl,rfl,rfl⟩:=hg
      simp only [allT_cons] at hb
      obtain⟨k1,k2,_⟩:=hb
      have eF:=isFt_eq k1
      subst eF
      have no:=okI5_noids k2
      refine SFun.lay (bs:=[.ro cs]) (args0:=[.agg [.slo 0 0 n 0]]) (bs':=[.ro cs]) (v0:=.bool (prW cs)) hfr hs1 (by simp)
       ⟨⟨there hfr hb0,_,hb0,lb_ro (by(exact zId)),fun κ hκ=>lb_ro (by(exact zId))⟩,trivial⟩ (by((repeat refine lws_cons (by(first | exact lw_any | exact lw_int | exact lw_bool | exact lw_ptr rfl | exact lw_slo rfl | exact lw_nilp | exact lw_nils | exact lw_str | exact lw_slo_nils | exact lw_slo_sle | exact lw_sl rfl | exact lw_unb | exact lw_gptr | exact lw_noid rfl | exact lw_cap rfl (Nat.le_refl _) | exact lw_cap rfl (by omega) | assumption | exact lw_tup (by((repeat refine lws_cons (by(first | exact lw_any | exact lw_int | exact lw_bool | exact lw_ptr rfl | exact lw_slo rfl | exact lw_nilp | exact lw_nils | exact lw_str | exact lw_slo_nils | exact lw_slo_sle | exact lw_sl rfl | exact lw_unb | exact lw_gptr | exact lw_noid rfl | exact lw_cap rfl (Nat.le_refl _) | exact lw_cap rfl (by omega) | assumption)) ?_); exact lws_nil)) | exact lw_agg (by((repeat refine lws_cons (by(first | exact lw_any | exact lw_int | exact lw_bool | exact lw_ptr rfl | exact lw_slo rfl | exact lw_nilp | exact lw_nils | exact lw_str | exact lw_slo_nils | exact lw_slo_sle | exact lw_sl rfl | exact lw_unb | exact lw_gptr | exact lw_noid rfl | exact lw_cap rfl (Nat.le_refl _) | exact lw_cap rfl (by omega) | assumption | exact lw_tup (by((repeat refine lws_cons (by(first | exact lw_any | exact lw_int | exact lw_bool | exact lw_ptr rfl | exact lw_slo rfl | exact lw_nilp | exact lw_nils | exact lw_str | exact lw_slo_nils | exact lw_slo_sle | exact lw_sl rfl | exact lw_unb | exact lw_gptr | exact lw_noid rfl | exact lw_cap rfl (Nat.le_refl _) | exact lw_cap rfl (by omega) | assumption)) ?_); exact lws_nil)))) ?_); exact lws_nil)) | exact lw_fn (by((repeat refine lws_cons (by(first | exact lw_any | exact lw_int | exact lw_bool | exact lw_ptr rfl | exact lw_slo rfl | exact lw_nilp | exact lw_nils | exact lw_str | exact lw_slo_nils | exact lw_slo_sle | exact lw_sl rfl | exact lw_unb | exact lw_gptr | exact lw_noid rfl | exact lw_cap rfl (Nat.le_refl _) | exact lw_cap rfl (by omega) | assumption | exact lw_tup (by((repeat refine lws_cons (by(first | exact lw_any | exact lw_int | exact lw_bool | exact lw_ptr rfl | exact lw_slo rfl | exact lw_nilp | exact lw_nils | exact lw_str | exact lw_slo_nils | exact lw_slo_sle | exact lw_sl rfl | exact lw_unb | exact lw_gptr | exact lw_noid rfl | exact lw_cap rfl (Nat.le_refl _) | exact lw_cap rfl (by omega) | assumption)) ?_); exact lws_nil)))) ?_); exact lws_nil)))) ?_); exact lws_nil)) ?_
       fun κ h1 h2=>⟨⟨lb_ro (by(exact zId)),trivial⟩,lw_bool⟩
      rw [hgl]; exact(pr_c n cs k2)
     ·cases hg
    ·cases hg
 ·cases hg
def piG:Gc:=fun args s=>match args,s.g with
 | [.agg [.int .i64 op,.int .i64 a,.int .i64 b,.int .i64 c,.int .u64 n]],[(g0,F0),(g1,F1),(g2,F2),(g3,[.fact F])]=>cond (Nat.beq g0 0 && eqbs F0 formsL && (Nat.beq g1 2 && eqbs F1 callsL) && (Nat.beq g2 2 && eqbs F2 callsL) && Nat.beq g3 1000) (some ([isFt F,mayW op a b c n,xcm .leq 0 n,xcm .leq n 18446744073709551615],.str (lineW op a b c n),s)) none
 | _,_=>none
theorem piG_any {f:Nat} (H:∀ op a b c n,mayW op a b c n=true→0≤n∧n≤18446744073709551615→SFun prog f [insA op a b c n] (mkS [] gt4) fun l s=>l=.str (lineW op a b c n)∧s=mkS [] gt4):GOk prog f piG:=by
 intro args s bs l s' hg hb hfr
 unfold piG at hg
 split at hg
 ·rename_i op a b c n g0 F0 g1 F1 g2 F2 g3 F hgl
  cases hc:(Nat.beq g0 0 && eqbs F0 formsL && (Nat.beq g1 2 && eqbs F1 callsL) && (Nat.beq g2 2 && eqbs F2 callsL) && Nat.beq g3 1000) with
  | false=>rw [hc] at hg; cases hg
  | true =>
    rw [hc] at hg
    simp only [cond_true,Option.some.injEq,Prod.mk.injEq] at hg
    obtain⟨rfl,rfl,rfl⟩:=hg
    simp only [Bool.and_eq_true] at hc
    obtain⟨k1,k2⟩:=allT_cons.1 hb
    obtain⟨k2,k3⟩:=allT_cons.1 k2
    obtain⟨k3,k4⟩:=allT_cons.1 k3
    obtain⟨k4,_⟩:=allT_cons.1 k4
    rw [xcm_leq,decide_eq_true_eq] at k3 k4
    have eF:=isFt_eq k1
    subst eF
    have e:s.g=gt4:=by rw [hgl,Nat.eq_of_beq_eq_true hc.1.1.1.1,eqbs_eq hc.1.1.1.2,Nat.eq_of_beq_eq_true hc.1.1.2.1,eqbs_eq hc.1.1.2.2,Nat.eq_of_beq_eq_true hc.1.2.1,eqbs_eq hc.1.2.2,Nat.eq_of_beq_eq_true hc.2]
    exact SFun.pure2 hfr rfl rfl (by rw [e]; exact H op a b c n k2 ⟨k3,k4⟩)
 ·cases hg
theorem piG_ok:GOk prog 27 piG:=piG_any pi_f
end
end Go.Lev
