/- text: aim, readLine, split as contracts; trees of read -/
import Derived.Test.YtnkkkihgljbllaaDoorCV4
import Derived.Test.YtnkkkihgljbllaaDoorCPA
import Derived.Test.YtnkkkihgljbllaaDoorLc
import Derived.Test.YtnkkkihgljbllaaDoorChecked
import Derived.KernelRfl
namespace Go.Lev
set_option linter.unusedSimpArgs false
set_option linter.unusedVariables false
open Go.RowKit
open Go.Proofs.Tryd (prog)
set_option maxRecDepth 100000
noncomputable section
set_option maxHeartbeats 4000000 in
theorem ai_ok (I:List InX) (B J:List MkX) (ln:Int) (rest:Glb) (hI:I.length≤100000) (hB:B.length≤100000) (hJ:J.length≤100000) (hP:JOk I J) :
  SFun prog 48 [.ptr 0 0] (mkS (psH I.length B.length J.length ln (encL inC I) (encL mkC B) (encL mkC J)) (tab2 rest)) fun l st=>l=flt (aimF B J I).1∧st=mkS (psH I.length B.length J.length ln (encL inC (aimF B J I).2) (encL mkC B) (encL mkC J)) (tab2 rest):=by
 obtain⟨z,hz⟩:∃ z,z=aimF B J I:=⟨_,rfl⟩
 rw [← hz]
 refine SFun.mono (SFun.piecesC (Q:=fun l b=>l=flt z.1∧b=psH I.length B.length J.length ln (encL inC z.2) (encL mkC B) (encL mkC J)) 41 4 2 77 aiL (by kernel_rfl) rfl rfl rfl ?_) fun l s' ⟨b0,⟨h1,h2⟩,h3⟩=>⟨h1,by rw [h3,h2]⟩
 have k2:okMk B.length (encL mkC B)=true:=okMk_enc hB
 have k3:okMk J.length (encL mkC J)=true:=okMk_enc hJ
 have nb:=noids_mk B; have nc:=noids_mk J; have na:=noids_in I; have lc:=mk_n J
 have g0:=fun {i:Nat} (h:i < J.length)=>mk_0 h
 have g1:=fun {i:Nat} (h:i < J.length)=>mk_1 h
 have g2:=fun {i:Nat} (h:i < J.length)=>mk_2 h
 have g3:=fun {i:Nat} (h:i < J.length)=>mk_3 h
 have fe:∀ x,fndN (encL mkC B) x=(fndF B x).getD 0∧fndB (encL mkC B) x=(fndF B x).isSome:=fun x=>by unfold fndN fndB; rw [mkD_enc]; exact⟨rfl,rfl⟩
 generalize encL mkC J=cx at *
 generalize encL mkC B=bx at *
 refine SSp.to cxAi_ok (n:=40) (g:=tab2 rest) 2 2 rfl (σ:=Unit) (fun _=>aiT J.length 0) (fun _=>aiH I.length B.length J.length ln (encL inC I) bx cx) (mkS_le (Nat.le_of_ble_eq_true rfl)) (by kernel_rfl) ?_ fun _=>?_
 ·rw [ai_0]; exact⟨rfl,(),[.id 0,.id 1,.id 2,.id 3,.id 4],by(exact zC)⟩
 refine SSp.code_to (g:=tab2 rest) 3 rfl (σ:={X:List InX // ((0,0,0),X)=z}) (fun _=>aiT J.length J.length) (fun X=>aiH I.length B.length J.length ln (encL inC X.1) bx cx) (by kernel_rfl) ?_ fun⟨X,hX⟩=>?_
 ·refine SCode.loop_vc cxAi_ok (n:=40) (n0:=4) 0 (by kernel_rfl) (σ:={p:Nat×List InX // p.1≤J.length∧p.2.length=I.length∧aimF B (J.drop p.1) p.2=z}) (fun p=>aiT J.length p.1.1) (fun p=>aiH I.length B.length J.length ln (encL inC p.1.2) bx cx) (fun p=>J.length - p.1.1) (fun _=>Nat.le_of_ble_eq_true rfl) (fun⟨⟨i,X⟩,hi,hx,hR⟩=>?_) ⟨(0,I),Nat.zero_le _,rfl,hz.symm⟩
  dsimp only at hi hx hR ⊢
  rw [ai_l]
  have nx:=noids_in X; have lx:=in_n X
  have k1:okIn I.length (encL inC X)=true:=okIn_iff.2 ⟨X,rfl,hx,hI⟩
  by_cases h:i < J.length
  ·have wS:∀ y,asS (.str y)=y:=fun _=>rfl
   have wB:∀ y,isS (.str y)=true:=fun _=>rfl
   have v0:=g0 h; have v1:=g1 h; have v2:=g2 h; have v3:=g3 h
   have hM:=hR
   rw [aimF_drop h] at hM
   obtain⟨p0,p1⟩:=hP J[i] (List.getElem_mem h)
   have x0:xle (i+1) J.length=true:=t_le (by omega)
   have x1:xle (i * 4+4) (J.length * 4)=true:=t_le (by omega)
   have e3:xar .add .i64 (i:Int) 1=((i+1:Nat):Int):=inc_i64 h (by omega)
   have q1:i * 4+1+1=i * 4+2:=by omega
   have q2:i * 4+2+1=i * 4+3:=by omega
   obtain⟨f1,f2⟩:=fe J[i].nm
   have pn:xnat J[i].pl=J[i].pl.toNat:=rfl
   have pl:J[i].pl.toNat < X.length:=by omega
   simp only [show xcm .lss ((i:Nat):Int) ((J.length:Nat):Int)=true from t_lss (by omega),wd_nat,wd_ix,wd_add,wd_mul,wd_ln,Nat.zero_add,lc,lx,q1,q2,x0,x1,v0,v1,v2,v3,e3,wd_asI,wd_isI,wS,wB,f1,f2,k1,k2,k3,pn,show xnn J[i].pl=true from xnn_iff.2 p0,show xle (J[i].pl.toNat+1) I.length=true from t_le (by omega),show xle (J[i].pl.toNat * 5+3+1) (X.length * 5)=true from t_le (by omega),decide_true,cond_true]
   cases hf:fndF B J[i].nm with
   | none =>
     rw [hf] at hM
     dsimp only at hM
     simp only [Option.isSome_none,show xnot false=true from rfl,cond_true]
     refine⟨trivial,rfl,4,_,_,flt (J[i].ln,J[i].cl,12),flt (J[i].ln,J[i].cl,12),psH I.length B.length J.length ln (encL inC X) bx cx,[.id 0,.id 1,.id 2,.id 3],rfl,rfl,by kernel_rfl,⟨by rw [← hM],by rw [← hM]⟩,by(exact zC)⟩
   | some pp =>
     rw [hf] at hM
     dsimp only at hM
     have ec:=setC_enc (pl:=pp) pl
     have ns:=noids_in (setC X J[i].pl.toNat pp)
     simp only [Option.isSome_some,Option.getD_some,show xnot true=false from rfl,ec,cond_false]
     exact⟨rfl,⟨(i+1,setC X J[i].pl.toNat pp),by omega,by rw [setC_len]; exact hx,hM⟩,by dsimp only; omega,[.id 0,.id 1,.id 2,.id 3,.id 4],by(exact zC)⟩
  ·simp only [show xcm .lss ((i:Nat):Int) ((J.length:Nat):Int)=false from f_lss (by omega),cond_false]
   have ei:i=J.length:=by omega
   have hM:=hR
   rw [ei,List.drop_length] at hM
   subst ei
   exact⟨rfl,⟨X,hM⟩,[.id 0,.id 1,.id 2,.id 3,.id 4],by(exact zC)⟩
 dsimp only at hX ⊢
 have nx:=noids_in X
 refine SSp.last cxAi_ok (n:=40) (mkS_le (Nat.le_of_ble_eq_true rfl)) ?_
 rw [ai_z]
 exact⟨trivial,rfl,4,_,_,flt (0,0,0),flt (0,0,0),psH I.length B.length J.length ln (encL inC X) bx cx,[.id 0,.id 1,.id 2,.id 3],rfl,rfl,by kernel_rfl,⟨by rw [← hX],by rw [← hX]⟩,by(exact zC)⟩
def okJ (ax cx:List LV):Bool:=@decide (JOk (inD ax) (mkD cx)) (Classical.propDecidable _)
def aiL1 (ax bx cx:List LV):Int:=(aimF (mkD bx) (mkD cx) (inD ax)).1.1
def aiC1 (ax bx cx:List LV):Int:=(aimF (mkD bx) (mkD cx) (inD ax)).1.2.1
def aiE1 (ax bx cx:List LV):Int:=(aimF (mkD bx) (mkD cx) (inD ax)).1.2.2
def aiAx (ax bx cx:List LV):List LV:=encL inC (aimF (mkD bx) (mkD cx) (inD ax)).2
theorem ai_c (ni nl nj:Nat) (ln:Int) (ax bx cx:List LV) (rest:Glb) (k1:okIn ni ax=true) (k2:okMk nl bx=true) (k3:okMk nj cx=true) (k4:okJ ax cx=true) :
  SFun prog 48 [.ptr 0 0] (mkS (psH ni nl nj ln ax bx cx) (tab2 rest)) fun l st=>l=.agg [.int .i64 (aiL1 ax bx cx),.int .i64 (aiC1 ax bx cx),.int .i64 (aiE1 ax bx cx)]∧st=mkS (psH ni nl nj ln (aiAx ax bx cx) bx cx) (tab2 rest):=by
 obtain⟨I,rfl,rfl,hI⟩:=okIn_iff.1 k1
 obtain⟨B,rfl,rfl,hB⟩:=okMk_iff.1 k2
 obtain⟨J,rfl,rfl,hJ⟩:=okMk_iff.1 k3
 simp only [okJ,decide_eq_true_eq,inD_enc,mkD_enc] at k4
 simp only [aiL1,aiC1,aiE1,aiAx,inD_enc,mkD_enc]
 exact ai_ok I B J ln rest hI hB hJ k4
def aiG:Gc:=fun args s=>match args,s.g with
 | [.ptr p 0],(g0,F0)::(g1,F1)::rest=>cond (Nat.beq g0 0 && eqbs F0 formsL && (Nat.beq g1 2 && eqbs F1 callsL)) (match s.h.get p with
   | some (.cells [.slo a 0 ni 0,.slo b 0 nl 0,.slo c 0 nj 0,.int .i64 ln] none)=>(match s.h.get a with
     | some (.cells ax (some 5))=>(match s.h.get b with
       | some (.cells bx (some 4))=>(match s.h.get c with
         | some (.cells cx (some 4))=>cond (nodupB [p,a,b,c]) (match s.lay [p,a,b,c] [.cells [.slo a 0 ni 0,.slo b 0 nl 0,.slo c 0 nj 0,.int .i64 ln] none,.cells (aiAx ax bx cx) (some 5),.cells bx (some 4),.cells cx (some 4)] [] with
           | some s'=>some ([okIn ni ax,okMk nl bx,okMk nj cx,okJ ax cx],.agg [.int .i64 (aiL1 ax bx cx),.int .i64 (aiC1 ax bx cx),.int .i64 (aiE1 ax bx cx)],s')
           | none=>none) none
         | _=>none)
       | _=>none)
     | _=>none)
   | _=>none) none
 | _,_=>none
theorem aiG_ok:GOk prog 48 aiG:=by
 intro args s bs l s' hg hb hfr
 unfold aiG at hg
 split at hg
 ·rename_i p g0 F0 g1 F1 rest hgl
  cases hc:(Nat.beq g0 0 && eqbs F0 formsL && (Nat.beq g1 2 && eqbs F1 callsL)) with
  | false=>rw [hc] at hg; cases hg
  | true =>
    rw [hc] at hg
    simp only [cond_true] at hg
    rw [Bool.and_eq_true] at hc
    replace hgl:s.g=tab2 rest:=by(have c1:=Bool.and_eq_true_iff.1 hc.1; have c2:=Bool.and_eq_true_iff.1 hc.2; rw [hgl,Nat.eq_of_beq_eq_true c1.1,eqbs_eq c1.2,Nat.eq_of_beq_eq_true c2.1,eqbs_eq c2.2] <;> rfl)
    split at hg
    ·rename_i a ni b nl c nj ln hb0
     split at hg
     ·rename_i ax hb1
      split at hg
      ·rename_i bx hb2
       split at hg
       ·rename_i cx hb3
        cases hbc:nodupB [p,a,b,c] with
        | false=>rw [hbc] at hg; cases hg
        | true =>
          rw [hbc] at hg
          simp only [cond_true] at hg
          split at hg
          ·rename_i s1 hs1
           simp only [Option.some.injEq,Prod.mk.injEq] at hg
           obtain⟨rfl,rfl,rfl⟩:=hg
           simp only [allT_cons] at hb
           obtain⟨k1,k2,k3,k4,_⟩:=hb
           have n1:=okIn_nd k1; have n2:=okMk_nd k2; have n3:=okMk_nd k3; have n4:=noids_in (aimF (mkD bx) (mkD cx) (inD ax)).2
           refine SFun.lay (bs:=[.cells [.slo 1 0 ni 0,.slo 2 0 nl 0,.slo 3 0 nj 0,.int .i64 ln] none,.cells ax (some 5),.cells bx (some 4),.cells cx (some 4)]) (args0:=[.ptr 0 0]) (bs':=[.cells [.slo 1 0 ni 0,.slo 2 0 nl 0,.slo 3 0 nj 0,.int .i64 ln] none,.cells (aiAx ax bx cx) (some 5),.cells bx (some 4),.cells cx (some 4)]) (v0:=.agg [.int .i64 (aiL1 ax bx cx),.int .i64 (aiC1 ax bx cx),.int .i64 (aiE1 ax bx cx)]) hfr hs1 (nodupB_nd hbc)
            ⟨⟨there hfr hb0,_,hb0,by first | exact lb_same rfl | exact lb_cells (lws_cons (lw_slo rfl) (lws_cons (lw_slo rfl) (lws_cons (lw_slo rfl) (lws_cons (lw_int) lws_nil)))) (by simp),fun κ hκ=>lb_cells (lws_cons (lw_slo (hκ 1 a rfl)) (lws_cons (lw_slo (hκ 2 b rfl)) (lws_cons (lw_slo (hκ 3 c rfl)) (lws_cons (lw_int) lws_nil)))) (by simp)⟩,⟨there hfr hb1,_,hb1,lb_same (by(exact zId)),fun κ hκ=>lb_same (by(exact zId))⟩,⟨there hfr hb2,_,hb2,lb_same (by(exact zId)),fun κ hκ=>lb_same (by(exact zId))⟩,⟨there hfr hb3,_,hb3,lb_same (by(exact zId)),fun κ hκ=>lb_same (by(exact zId))⟩,trivial⟩ (by(exact zTl)) ?_
            fun κ h1 h2=>⟨⟨lb_cells (lws_cons (lw_slo (h1 1 a rfl)) (lws_cons (lw_slo (h1 2 b rfl)) (lws_cons (lw_slo (h1 3 c rfl)) (lws_cons (lw_int) lws_nil)))) (by simp),lb_same (n4),lb_same (by(exact zId)),lb_same (by(exact zId)),trivial⟩,lw_noid rfl⟩
           rw [hgl]; exact(ai_c ni nl nj ln ax bx cx rest k1 k2 k3 k4)
          ·cases hg
       ·cases hg
      ·cases hg
     ·cases hg
    ·cases hg
 ·cases hg
def rnV (F:World→Prop) (v:Value) (e ln:Int) (ax bx cx:List LV):(Int×Int×Int)×List InX×List MkX×List MkX:=rnZ ⟨wsOf F v,e⟩ ln (inD ax) (mkD bx) (mkD cx)
def rnL1 (F:World→Prop) (v:Value) (e ln:Int) (ax bx cx:List LV):Int:=(rnV F v e ln ax bx cx).1.1
def rnC1 (F:World→Prop) (v:Value) (e ln:Int) (ax bx cx:List LV):Int:=(rnV F v e ln ax bx cx).1.2.1
def rnE1 (F:World→Prop) (v:Value) (e ln:Int) (ax bx cx:List LV):Int:=(rnV F v e ln ax bx cx).1.2.2
def rnNi (F:World→Prop) (v:Value) (e ln:Int) (ax bx cx:List LV):Nat:=(rnV F v e ln ax bx cx).2.1.length
def rnNl (F:World→Prop) (v:Value) (e ln:Int) (ax bx cx:List LV):Nat:=(rnV F v e ln ax bx cx).2.2.1.length
def rnNj (F:World→Prop) (v:Value) (e ln:Int) (ax bx cx:List LV):Nat:=(rnV F v e ln ax bx cx).2.2.2.length
def rnAx (F:World→Prop) (v:Value) (e ln:Int) (ax bx cx:List LV):List LV:=encL inC (rnV F v e ln ax bx cx).2.1
def rnBx (F:World→Prop) (v:Value) (e ln:Int) (ax bx cx:List LV):List LV:=encL mkC (rnV F v e ln ax bx cx).2.2.1
def rnCx (F:World→Prop) (v:Value) (e ln:Int) (ax bx cx:List LV):List LV:=encL mkC (rnV F v e ln ax bx cx).2.2.2
theorem rn_c (F:World→Prop) (v:Value) (e:Int) (ni nl nj:Nat) (ln:Int) (ax bx cx:List LV) (rest:Glb) (k1:okIn ni ax=true) (k2:okMk nl bx=true) (k3:okMk nj cx=true) (k4:okWs F v=true) (k5:ni≤99980) (k6:nl≤99980) (k7:nj≤99980) :
  SFun prog 47 [.ptr 0 0,.agg [.val v,.int .i64 e]] (mkS (psH ni nl nj ln ax bx cx++[.obj stF [.fact F] 5,.dead]) (tab2 rest)) fun l st=>l=.agg [.int .i64 (rnL1 F v e ln ax bx cx),.int .i64 (rnC1 F v e ln ax bx cx),.int .i64 (rnE1 F v e ln ax bx cx)]∧st=mkS (rnO (rnNi F v e ln ax bx cx) (rnNl F v e ln ax bx cx) (rnNj F v e ln ax bx cx) ln (rnAx F v e ln ax bx cx) (rnBx F v e ln ax bx cx) (rnCx F v e ln ax bx cx) F) (tab2 rest):=by
 obtain⟨I,rfl,rfl,hI⟩:=okIn_iff.1 k1
 obtain⟨B,rfl,rfl,hB⟩:=okMk_iff.1 k2
 obtain⟨J,rfl,rfl,hJ⟩:=okMk_iff.1 k3
 obtain⟨ws,hw⟩:=okWs_iff.1 k4
 simp only [rnL1,rnC1,rnE1,rnNi,rnNl,rnNj,rnAx,rnBx,rnCx,rnV,wsOf_eq hw,inD_enc,mkD_enc]
 exact rn_ok F v ⟨ws,e⟩ ln I B J rest hw k5 k6 k7
def rnG:Gc:=fun args s=>match args,s.g with
 | [.ptr p 0,.agg [.val v,.int .i64 e]],(g0,F0)::(g1,F1)::rest=>cond (Nat.beq g0 0 && eqbs F0 formsL && (Nat.beq g1 2 && eqbs F1 callsL)) (match storeAt s with
   | some d=>(match s.h.get p with
     | some (.cells [.slo a 0 ni 0,.slo b 0 nl 0,.slo c 0 nj 0,.int .i64 ln] none)=>(match s.h.get a with
       | some (.cells ax (some 5))=>(match s.h.get b with
         | some (.cells bx (some 4))=>(match s.h.get c with
           | some (.cells cx (some 4))=>(match s.h.get d with
             | some (.obj F_d [.fact F] z9)=>(match s.h.get z9 with
               | some (.dead)=>cond (nodupB [p,a,b,c,d,z9]) (match s.lay [p,a,b,c,d,z9] [.cells [.slo s.n 0 (rnNi F v e ln ax bx cx) 0,.slo (Nat.succ s.n) 0 (rnNl F v e ln ax bx cx) 0,.slo (Nat.succ (Nat.succ s.n)) 0 (rnNj F v e ln ax bx cx) 0,.int .i64 ln] none,.dead,.dead,.dead,.obj stF [.fact F] z9,.dead] [.cells (rnAx F v e ln ax bx cx) (some 5),.cells (rnBx F v e ln ax bx cx) (some 4),.cells (rnCx F v e ln ax bx cx) (some 4)] with
                 | some s'=>some ([okIn ni ax,okMk nl bx,okMk nj cx,okWs F v,xle ni 99980,xle nl 99980,xle nj 99980,isF F_d stF],.agg [.int .i64 (rnL1 F v e ln ax bx cx),.int .i64 (rnC1 F v e ln ax bx cx),.int .i64 (rnE1 F v e ln ax bx cx)],s')
                 | none=>none) none
               | _=>none)
             | _=>none)
           | _=>none)
         | _=>none)
       | _=>none)
     | _=>none)
   | none=>none) none
 | _,_=>none
theorem rnG_ok:GOk prog 47 rnG:=by
 intro args s bs l s' hg hb hfr
 unfold rnG at hg
 split at hg
 ·rename_i p v e g0 F0 g1 F1 rest hgl
  cases hc:(Nat.beq g0 0 && eqbs F0 formsL && (Nat.beq g1 2 && eqbs F1 callsL)) with
  | false=>rw [hc] at hg; cases hg
  | true =>
    rw [hc] at hg
    simp only [cond_true] at hg
    rw [Bool.and_eq_true] at hc
    replace hgl:s.g=tab2 rest:=by(have c1:=Bool.and_eq_true_iff.1 hc.1; have c2:=Bool.and_eq_true_iff.1 hc.2; rw [hgl,Nat.eq_of_beq_eq_true c1.1,eqbs_eq c1.2,Nat.eq_of_beq_eq_true c2.1,eqbs_eq c2.2] <;> rfl)
    split at hg
    ·rename_i d hfd
     split at hg
     ·rename_i a ni b nl c nj ln hb0
      split at hg
      ·rename_i ax hb1
       split at hg
       ·rename_i bx hb2
        split at hg
        ·rename_i cx hb3
         split at hg
         ·rename_i F_d F z9 hb4
          split at hg
          ·rename_i  hb5
           cases hbc:nodupB [p,a,b,c,d,z9] with
           | false=>rw [hbc] at hg; cases hg
           | true =>
             rw [hbc] at hg
             simp only [cond_true] at hg
             split at hg
             ·rename_i s1 hs1
              simp only [Option.some.injEq,Prod.mk.injEq] at hg
              obtain⟨rfl,rfl,rfl⟩:=hg
              simp only [allT_cons] at hb
              obtain⟨k1,k2,k3,k4,k5,k6,k7,k8,_⟩:=hb
              have e_d:=isF_eq k8
              subst e_d
              have n1:=okIn_nd k1; have n2:=okMk_nd k2; have n3:=okMk_nd k3; have n4:=noids_in (rnV F v e ln ax bx cx).2.1; have n5:=noids_mk (rnV F v e ln ax bx cx).2.2.1; have n6:=noids_mk (rnV F v e ln ax bx cx).2.2.2
              refine SFun.lay (bs:=[.cells [.slo 1 0 ni 0,.slo 2 0 nl 0,.slo 3 0 nj 0,.int .i64 ln] none,.cells ax (some 5),.cells bx (some 4),.cells cx (some 4),.obj stF [.fact F] 5,.dead]) (args0:=[.ptr 0 0,.agg [.val v,.int .i64 e]]) (bs':=[.cells [.slo 6 0 (rnNi F v e ln ax bx cx) 0,.slo 7 0 (rnNl F v e ln ax bx cx) 0,.slo 8 0 (rnNj F v e ln ax bx cx) 0,.int .i64 ln] none,.dead,.dead,.dead,.obj stF [.fact F] 5,.dead,.cells (rnAx F v e ln ax bx cx) (some 5),.cells (rnBx F v e ln ax bx cx) (some 4),.cells (rnCx F v e ln ax bx cx) (some 4)]) (v0:=.agg [.int .i64 (rnL1 F v e ln ax bx cx),.int .i64 (rnC1 F v e ln ax bx cx),.int .i64 (rnE1 F v e ln ax bx cx)]) hfr hs1 (nodupB_nd hbc)
               ⟨⟨there hfr hb0,_,hb0,by first | exact lb_same rfl | exact lb_cells (lws_cons (lw_slo rfl) (lws_cons (lw_slo rfl) (lws_cons (lw_slo rfl) (lws_cons (lw_int) lws_nil)))) (by simp),fun κ hκ=>lb_cells (lws_cons (lw_slo (hκ 1 a rfl)) (lws_cons (lw_slo (hκ 2 b rfl)) (lws_cons (lw_slo (hκ 3 c rfl)) (lws_cons (lw_int) lws_nil)))) (by simp)⟩,⟨there hfr hb1,_,hb1,lb_same (by(exact zId)),fun κ hκ=>lb_same (by(exact zId))⟩,⟨there hfr hb2,_,hb2,lb_same (by(exact zId)),fun κ hκ=>lb_same (by(exact zId))⟩,⟨there hfr hb3,_,hb3,lb_same (by(exact zId)),fun κ hκ=>lb_same (by(exact zId))⟩,⟨there hfr hb4,_,hb4,lb_obj rfl,fun κ hκ=>lb_obj (hκ 5 z9 rfl)⟩,⟨there hfr hb5,_,hb5,lb_dead,fun κ hκ=>lb_dead⟩,trivial⟩ (by(exact zTl)) ?_
               fun κ h1 h2=>⟨⟨lb_cells (lws_cons (lw_slo (h2 0 (by simp))) (lws_cons (lw_slo (h2 1 (by simp))) (lws_cons (lw_slo (h2 2 (by simp))) (lws_cons (lw_int) lws_nil)))) (by simp),lb_dead,lb_dead,lb_dead,lb_obj (h1 5 z9 rfl),lb_dead,lb_same (n4),lb_same (n5),lb_same (n6),trivial⟩,lw_noid rfl⟩
              rw [hgl]; exact(rn_c F v e ni nl nj ln ax bx cx rest k1 k2 k3 k4 (xle_iff.1 k5) (xle_iff.1 k6) (xle_iff.1 k7))
             ·cases hg
          ·cases hg
         ·cases hg
        ·cases hg
       ·cases hg
      ·cases hg
     ·cases hg
    ·cases hg
 ·cases hg
def lnK (t:List UInt8):Kd:={ σ:={p:SQ×List LnV // StL p.1 p.2∧p.2.map LnV.s=spA t∧spA t≠[]},enc:=fun _=>[],sh:=fun p _ k=>(.cells (encL lnC p.1.2) (some 2),[stB p.1.1 (k+1),.dead]) }
theorem lnK_ok (t:List UInt8):(lnK t).Ok:=by
 refine⟨fun v b k b' k' ρ hb hρ=>?_,fun v b k=>?_⟩
 ·have h1:=hρ 1 (by show 1 < 2; omega)
  obtain⟨⟨⟨F,e,h⟩,ls⟩,hS,hn⟩:=v
  refine bk_cons (lb_same (noids_ln ls)) (bk_cons ?_ (bk_cons lb_dead bk_nil))
  cases e
  ·exact lb_obj h1
  ·exact lb_dead
 ·obtain⟨⟨q,ls⟩,hS,hn,hne⟩:=v
  cases ls with
  | nil=>exact absurd hn.symm hne
  | cons x r=>exact⟨_,_,_,rfl⟩
def lnO (t:List UInt8):OP:=(lnK t).F
def okT (t:List UInt8):Bool:=decide (1≤t.length) && decide (t.length≤4000)
def spn (t:List UInt8):Nat:=(spA t).length
theorem okT_iff {t:List UInt8}:okT t=true↔1≤t.length∧t.length≤4000:=by simp [okT]
theorem spG_ne (t:List UInt8):∀ (n p:Nat) (S:SpS),t.length - p=n→(1≤S.c)→(p < t.length∨1 < S.c)→spG t p S≠[]:=by
 intro n
 induction n using Nat.strongRecOn with
 | _ n ih =>
   intro p S hn hc h
   rw [spG]
   split
   ·rename_i hp
    have hw:=rn_w hp
    split
    ·simp
    ·refine ih (t.length - (p+xrw t p)) (by omega) _ _ rfl ?_ (.inr ?_)
     ·unfold spR; split <;> (try split) <;> (try split) <;> (try split) <;> simp only <;> omega
     ·unfold spR; split <;> (try split) <;> (try split) <;> (try split) <;> simp only <;> omega
   ·rw [if_pos (by omega)]; simp
theorem spA_ne {t:List UInt8} (h:1≤t.length):spA t≠[]:=spG_ne t _ 0 spZ rfl (by simp [spZ]) (.inl (by omega))
theorem spl_c (t:List UInt8) (k1:okT t=true):SFun prog 46 [.str t] (mkS [] []) fun l s=>l=.slo 0 0 (spn t) 0∧s=mkS [.obj (lnO t) [] 1,.dead] []:=by
 obtain⟨h1,h2⟩:=okT_iff.1 k1
 refine SFun.shut (K:=lnK t) (bs:=[]) (B:=[.dead]) (cs:=[]) (l:=.slo 0 0 (spn t) 0) (g:=[]) (lnK_ok t) 0 (by simp) (by simp) (fun ρ h=>⟨bk_cons lb_dead bk_nil,lw_slo (h 0 (by simp))⟩) ?_
 refine SFun.mono (split_ok t h2) fun l s ⟨q,ls,hS,hn,e1,e2⟩=>?_
 refine⟨_,⟨by rw [e1,spn,← hn,List.length_map],⟨(q,ls),hS,hn,spA_ne h1⟩,rfl,rfl⟩,e2⟩
def splG:Gc:=fun args s=>match args,s.g with
 | [.str t],[]=>(match s.lay [] [] [.obj (lnO t) [] (Nat.succ s.n),.dead] with
   | some s'=>some ([okT t],.slo s.n 0 (spn t) 0,s')
   | none=>none)
 | _,_=>none
theorem splG_ok:GOk prog 46 splG:=by
 intro args s bs l s' hg hb hfr
 unfold splG at hg
 split at hg
 ·rename_i t hgl
  split at hg
  ·rename_i s1 hs1
   simp only [Option.some.injEq,Prod.mk.injEq] at hg
   obtain⟨rfl,rfl,rfl⟩:=hg
   simp only [allT_cons] at hb
   obtain⟨k1,_⟩:=hb
   refine SFun.lay (bs:=[]) (args0:=[.str t]) (bs':=[.obj (lnO t) [] 1,.dead]) (v0:=.slo 0 0 (spn t) 0) hfr hs1 (by simp)
    trivial (by(exact zTl)) ?_
    fun κ h1 h2=>⟨⟨lb_obj (h2 1 (by simp)),lb_dead,trivial⟩,lw_slo (h2 0 (by simp))⟩
   rw [hgl]; exact(spl_c t k1)
  ·cases hg
 ·cases hg
def cxRd:Cx:=cxl [(46,wrapG splG),(47,rnG),(48,aiG)]
abbrev rdL:List Nat:=[0,4,9,10,11]
abbrev rdT (v:Value) (n i:Nat):List (Nat×LV):=[(0,.ptr 0 0),(4,.ptr 1 0),(9,.val v),(10,.int .i64 n),(11,.int .i64 i)]
abbrev rdH (ni nl nj:Nat) (ln:Int) (ax bx cx:List LV) (F:World→Prop):List LB:=[.cells [.slo 4 0 ni 0,.slo 5 0 nl 0,.slo 6 0 nj 0,.int .i64 ln] none,.cells [.int .i64 0,.int .i64 0,.int .i64 0] none,.obj stF [.fact F] 3,.dead,.cells ax (some 5),.cells bx (some 4),.cells cx (some 4)]
theorem cxRd_ok:CtrOk prog (ctrOf cxRd):=cxl_ok ⟨wrapG_ok splG_ok,rnG_ok,aiG_ok,trivial⟩
theorem rd_0 (t:List UInt8) (rest:Glb) (K:Pk):(xsp prog cxRd 40 31 (seg (sp prog 31) 0 2) (tm0 [.ptr 0 0,.str t]) (mkS [.cells [.nils,.nils,.nils,.int .i64 0] none] (tab2 rest)) (vK rdL K))=(
 ck (okT t) <|
 K .normal [.ptr 0 0,.ptr 1 0,.slo 2 0 (spn t) 0,.int .i64 ↑(spn t),.int .i64 0] [sN [.nils,.nils,.nils,.int .i64 0],sN [.int .i64 0,.int .i64 0,.int .i64 0],some (.obj (lnO t) [] 3),sD] (tab2 rest)):=by kernel_rfl
theorem rd_y (t:List UInt8) (v:Value) (n:Nat) (F:World→Prop) (rest:Glb) (K:Pk):(xsp prog cxRd 40 31 (seg (sp prog 31) 2 0) (mkTm 31 [(9,.val v),(0,.ptr 0 0),(4,.ptr 1 0),(9,.slo 2 0 n 0),(10,.int .i64 n),(11,.int .i64 0)]) (mkS [.cells [.nils,.nils,.nils,.int .i64 0] none,.cells [.int .i64 0,.int .i64 0,.int .i64 0] none,.dead,.dead,.dead,.dead,.obj stF [.fact F] 7,.dead] (tab2 rest)) (vK rdL K))=(
 K .normal [.ptr 0 0,.ptr 1 0,.val v,.int .i64 ↑n,.int .i64 0] [sN [.nils,.nils,.nils,.int .i64 0],sN [.int .i64 0,.int .i64 0,.int .i64 0],sD,sD,sD,sD,some (.obj stF [.fact F] 7),sD] (tab2 rest)):=by kernel_rfl
theorem rd_l (ni nl nj n i:Nat) (ln:Int) (ax bx cx:List LV) (F:World→Prop) (v:Value) (rest:Glb) (K:Pk):(xcode prog cxRd 40 31 (loopOf (nthC (sp prog 31) 2)) (mkTm 31 (rdT v n i)) (mkS (rdH ni nl nj ln ax bx cx F) (tab2 rest)) (vK rdL K))=(
 bif xcm .lss ↑i ↑n then(
 ck (xvix v (xnat ↑i)) <|
 ck (xvrok F v (xmul (xnat ↑i) 2) 2) <|
 ck (xle 2 (xln (xvrow F v (xmul (xnat ↑i) 2) 2))) <|
 ck (isV (nthD (xvrow F v (xmul (xnat ↑i) 2) 2) 0)) <|
 ck (isI .i64 (nthD (xvrow F v (xmul (xnat ↑i) 2) 2) 1)) <|
 ck (okIn ni ax) <|
 ck (okMk nl bx) <|
 ck (okMk nj cx) <|
 ck (okWs F (asV (nthD (xvrow F v (xmul (xnat ↑i) 2) 2) 0))) <|
 ck (xle ni 99980) <|
 ck (xle nl 99980) <|
 ck (xle nj 99980) <|
 ck (isF stF stF) <|
 bif xcm .neq (rnE1 F (asV (nthD (xvrow F v (xmul (xnat ↑i) 2) 2) 0)) (asI (nthD (xvrow F v (xmul (xnat ↑i) 2) 2) 1)) (xar .add .i64 (↑i) 1) ax bx cx) 0 then(
 K .ret [.ptr 0 0,.ptr 1 0,.val v,.int .i64 ↑n,.int .i64 ↑i] [sN [.slo 8 0 (rnNi F (asV (nthD (xvrow F v (xmul (xnat ↑i) 2) 2) 0)) (asI (nthD (xvrow F v (xmul (xnat ↑i) 2) 2) 1)) (xar .add .i64 (↑i) 1) ax bx cx) 0,.slo 9 0 (rnNl F (asV (nthD (xvrow F v (xmul (xnat ↑i) 2) 2) 0)) (asI (nthD (xvrow F v (xmul (xnat ↑i) 2) 2) 1)) (xar .add .i64 (↑i) 1) ax bx cx) 0,.slo 10 0 (rnNj F (asV (nthD (xvrow F v (xmul (xnat ↑i) 2) 2) 0)) (asI (nthD (xvrow F v (xmul (xnat ↑i) 2) 2) 1)) (xar .add .i64 (↑i) 1) ax bx cx) 0,.int .i64 (xar .add .i64 (↑i) 1)],sN [.int .i64 (rnL1 F (asV (nthD (xvrow F v (xmul (xnat ↑i) 2) 2) 0)) (asI (nthD (xvrow F v (xmul (xnat ↑i) 2) 2) 1)) (xar .add .i64 (↑i) 1) ax bx cx),.int .i64 (rnC1 F (asV (nthD (xvrow F v (xmul (xnat ↑i) 2) 2) 0)) (asI (nthD (xvrow F v (xmul (xnat ↑i) 2) 2) 1)) (xar .add .i64 (↑i) 1) ax bx cx),.int .i64 (rnE1 F (asV (nthD (xvrow F v (xmul (xnat ↑i) 2) 2) 0)) (asI (nthD (xvrow F v (xmul (xnat ↑i) 2) 2) 1)) (xar .add .i64 (↑i) 1) ax bx cx)],some (.obj stF [.fact F] 3),sD,sD,sD,sD,sN [.val (asV (nthD (xvrow F v (xmul (xnat ↑i) 2) 2) 0)),.int .i64 (asI (nthD (xvrow F v (xmul (xnat ↑i) 2) 2) 1))],sC (rnAx F (asV (nthD (xvrow F v (xmul (xnat ↑i) 2) 2) 0)) (asI (nthD (xvrow F v (xmul (xnat ↑i) 2) 2) 1)) (xar .add .i64 (↑i) 1) ax bx cx) 5,sC (rnBx F (asV (nthD (xvrow F v (xmul (xnat ↑i) 2) 2) 0)) (asI (nthD (xvrow F v (xmul (xnat ↑i) 2) 2) 1)) (xar .add .i64 (↑i) 1) ax bx cx) 4,sC (rnCx F (asV (nthD (xvrow F v (xmul (xnat ↑i) 2) 2) 0)) (asI (nthD (xvrow F v (xmul (xnat ↑i) 2) 2) 1)) (xar .add .i64 (↑i) 1) ax bx cx) 4,sN [.int .i64 (rnL1 F (asV (nthD (xvrow F v (xmul (xnat ↑i) 2) 2) 0)) (asI (nthD (xvrow F v (xmul (xnat ↑i) 2) 2) 1)) (xar .add .i64 (↑i) 1) ax bx cx),.int .i64 (rnC1 F (asV (nthD (xvrow F v (xmul (xnat ↑i) 2) 2) 0)) (asI (nthD (xvrow F v (xmul (xnat ↑i) 2) 2) 1)) (xar .add .i64 (↑i) 1) ax bx cx),.int .i64 (rnE1 F (asV (nthD (xvrow F v (xmul (xnat ↑i) 2) 2) 0)) (asI (nthD (xvrow F v (xmul (xnat ↑i) 2) 2) 1)) (xar .add .i64 (↑i) 1) ax bx cx)]] (tab2 rest))
 else(
 K .normal [.ptr 0 0,.ptr 1 0,.val v,.int .i64 ↑n,.int .i64 (xar .add .i64 (↑i) 1)] [sN [.slo 8 0 (rnNi F (asV (nthD (xvrow F v (xmul (xnat ↑i) 2) 2) 0)) (asI (nthD (xvrow F v (xmul (xnat ↑i) 2) 2) 1)) (xar .add .i64 (↑i) 1) ax bx cx) 0,.slo 9 0 (rnNl F (asV (nthD (xvrow F v (xmul (xnat ↑i) 2) 2) 0)) (asI (nthD (xvrow F v (xmul (xnat ↑i) 2) 2) 1)) (xar .add .i64 (↑i) 1) ax bx cx) 0,.slo 10 0 (rnNj F (asV (nthD (xvrow F v (xmul (xnat ↑i) 2) 2) 0)) (asI (nthD (xvrow F v (xmul (xnat ↑i) 2) 2) 1)) (xar .add .i64 (↑i) 1) ax bx cx) 0,.int .i64 (xar .add .i64 (↑i) 1)],sN [.int .i64 0,.int .i64 0,.int .i64 0],some (.obj stF [.fact F] 3),sD,sD,sD,sD,sN [.val (asV (nthD (xvrow F v (xmul (xnat ↑i) 2) 2) 0)),.int .i64 (asI (nthD (xvrow F v (xmul (xnat ↑i) 2) 2) 1))],sC (rnAx F (asV (nthD (xvrow F v (xmul (xnat ↑i) 2) 2) 0)) (asI (nthD (xvrow F v (xmul (xnat ↑i) 2) 2) 1)) (xar .add .i64 (↑i) 1) ax bx cx) 5,sC (rnBx F (asV (nthD (xvrow F v (xmul (xnat ↑i) 2) 2) 0)) (asI (nthD (xvrow F v (xmul (xnat ↑i) 2) 2) 1)) (xar .add .i64 (↑i) 1) ax bx cx) 4,sC (rnCx F (asV (nthD (xvrow F v (xmul (xnat ↑i) 2) 2) 0)) (asI (nthD (xvrow F v (xmul (xnat ↑i) 2) 2) 1)) (xar .add .i64 (↑i) 1) ax bx cx) 4,sN [.int .i64 (rnL1 F (asV (nthD (xvrow F v (xmul (xnat ↑i) 2) 2) 0)) (asI (nthD (xvrow F v (xmul (xnat ↑i) 2) 2) 1)) (xar .add .i64 (↑i) 1) ax bx cx),.int .i64 (rnC1 F (asV (nthD (xvrow F v (xmul (xnat ↑i) 2) 2) 0)) (asI (nthD (xvrow F v (xmul (xnat ↑i) 2) 2) 1)) (xar .add .i64 (↑i) 1) ax bx cx),.int .i64 (rnE1 F (asV (nthD (xvrow F v (xmul (xnat ↑i) 2) 2) 0)) (asI (nthD (xvrow F v (xmul (xnat ↑i) 2) 2) 1)) (xar .add .i64 (↑i) 1) ax bx cx)]] (tab2 rest)))
 else(
 K (.exit 0) [.ptr 0 0,.ptr 1 0,.val v,.int .i64 ↑n,.int .i64 ↑i] [sN [.slo 4 0 ni 0,.slo 5 0 nl 0,.slo 6 0 nj 0,.int .i64 ln],sN [.int .i64 0,.int .i64 0,.int .i64 0],some (.obj stF [.fact F] 3),sD,sC ax 5,sC bx 4,sC cx 4] (tab2 rest))):=by kernel_rfl
theorem rd_z (ni nl nj n i:Nat) (ln:Int) (ax bx cx:List LV) (F:World→Prop) (v:Value) (rest:Glb) (K:Pk):(xsp prog cxRd 40 31 ((sp prog 31).drop 3) (mkTm 31 (rdT v n i)) (mkS (rdH ni nl nj ln ax bx cx F) (tab2 rest)) (vK rdL K))=(
 ck (okIn ni ax) <|
 ck (okMk nl bx) <|
 ck (okMk nj cx) <|
 ck (okJ ax cx) <|
 K .ret [.ptr 0 0,.ptr 1 0,.val v,.int .i64 ↑n,.int .i64 ↑i] [sN [.slo 4 0 ni 0,.slo 5 0 nl 0,.slo 6 0 nj 0,.int .i64 ln],sN [.int .i64 (aiL1 ax bx cx),.int .i64 (aiC1 ax bx cx),.int .i64 (aiE1 ax bx cx)],some (.obj stF [.fact F] 3),sD,sC (aiAx ax bx cx) 5,sC bx 4,sC cx 4] (tab2 rest)):=by kernel_rfl
end
end Go.Lev
