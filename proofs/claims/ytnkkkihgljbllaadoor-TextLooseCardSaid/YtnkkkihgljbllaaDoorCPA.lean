import Derived.Test.YtnkkkihgljbllaaDoorCP7
import Derived.Test.YtnkkkihgljbllaaDoorLc
import Derived.Test.YtnkkkihgljbllaaDoorChecked
import Derived.KernelRfl
/- text: readIns as a contract; trees of readLine -/
namespace Go.Lev
set_option linter.unusedSimpArgs false
set_option linter.unusedVariables false
open Go.RowKit
open Go.Proofs.Tryd (prog)
set_option maxRecDepth 100000
noncomputable section
def isF (F G:OP):Bool:=@decide (F=G) (Classical.propDecidable _)
theorem isF_eq {F G:OP} (h:isF F G=true):F=G:=by simpa [isF] using h
theorem isF_self {F:OP}:isF F F=true:=by simp [isF]
structure WsP (F:World→Prop) (u:Value) (ws:List Wd):Prop where
 f:FcW F u ws
 n:ws.length≤5000
 b:∀ x∈ws,1≤x.1.length∧x.1.length≤100000
theorem FcW.uniq {F:World→Prop}:∀ {ws ws':List Wd} {u:Value},FcW F u ws→FcW F u ws'→ws=ws'
 | [],[],u,h,h'=>rfl
 | [],x::r,u,h,h'=>by have:=h.len.symm.trans h'.len; simp at this
 | x::r,[],u,h,h'=>by have:=h.len.symm.trans h'.len; simp at this
 | x::r,y::t,u,h,h'=>by
   have a:=h.head.2.2.1.symm.trans h'.head.2.2.1
   simp only [List.cons.injEq,LV.str.injEq,LV.int.injEq,true_and,and_true] at a
   rw [show x=y from Prod.ext a.1 a.2,FcW.uniq h.rest.2 h'.rest.2]
def okWs (F:World→Prop) (u:Value):Bool:=@decide (∃ ws,WsP F u ws) (Classical.propDecidable _)
def wsOf (F:World→Prop) (u:Value):List Wd:=@dite _ (∃ ws,WsP F u ws) (Classical.propDecidable _) (fun h=>h.choose) fun _=>[]
theorem okWs_iff {F:World→Prop} {u:Value}:okWs F u=true↔∃ ws,WsP F u ws:=by simp only [okWs,decide_eq_true_eq]
theorem wsOf_eq {F:World→Prop} {u:Value} {ws:List Wd} (h:WsP F u ws):wsOf F u=ws:=by
 have e:∃ ws,WsP F u ws:=⟨ws,h⟩
 unfold wsOf
 rw [dif_pos e]
 exact FcW.uniq e.choose_spec.f h.f
def riV (F:World→Prop) (u:Value) (x:List UInt8) (w e ln:Int) (ax cx:List LV):(Int×Int×Int)×List InX×List MkX:=riZ x w (wsOf F u) e ln (inD ax) (mkD cx)
def riL1 (F:World→Prop) (u:Value) (x:List UInt8) (w e ln:Int) (ax cx:List LV):Int:=(riV F u x w e ln ax cx).1.1
def riC1 (F:World→Prop) (u:Value) (x:List UInt8) (w e ln:Int) (ax cx:List LV):Int:=(riV F u x w e ln ax cx).1.2.1
def riE1 (F:World→Prop) (u:Value) (x:List UInt8) (w e ln:Int) (ax cx:List LV):Int:=(riV F u x w e ln ax cx).1.2.2
def riNi (F:World→Prop) (u:Value) (x:List UInt8) (w e ln:Int) (ax cx:List LV):Nat:=(riV F u x w e ln ax cx).2.1.length
def riAx (F:World→Prop) (u:Value) (x:List UInt8) (w e ln:Int) (ax cx:List LV):List LV:=encL inC (riV F u x w e ln ax cx).2.1
def riNj (F:World→Prop) (u:Value) (x:List UInt8) (w e ln:Int) (ax cx:List LV):Nat:=(riV F u x w e ln ax cx).2.2.length
def riCx (F:World→Prop) (u:Value) (x:List UInt8) (w e ln:Int) (ax cx:List LV):List LV:=encL mkC (riV F u x w e ln ax cx).2.2
theorem ri_c (x:List UInt8) (w e:Int) (u:Value) (F:World→Prop) (ni nl nj:Nat) (ln:Int) (ax bx cx:List LV) (rest:Glb) (k1:okIn ni ax=true) (k2:okMk nl bx=true) (k3:okMk nj cx=true) (k4:okWs F u=true) (k5:ni≤99990) (k6:nj≤99990) :
  SFun prog 61 [.ptr 0 0,.agg [.str x,.int .i64 w],.val u,.int .i64 e] (mkS (psH ni nl nj ln ax bx cx++[.obj stF [.fact F] 5,.dead]) (tab2 rest)) fun l st=>l=.agg [.int .i64 (riL1 F u x w e ln ax cx),.int .i64 (riC1 F u x w e ln ax cx),.int .i64 (riE1 F u x w e ln ax cx)]∧st=mkS (riO (riNi F u x w e ln ax cx) nl (riNj F u x w e ln ax cx) ln (riAx F u x w e ln ax cx) bx (riCx F u x w e ln ax cx) F) (tab2 rest):=by
 obtain⟨I,rfl,rfl,hI⟩:=okIn_iff.1 k1
 obtain⟨J,rfl,rfl,hJ⟩:=okMk_iff.1 k3
 obtain⟨ws,hw⟩:=okWs_iff.1 k4
 simp only [riL1,riC1,riE1,riNi,riAx,riNj,riCx,riV,wsOf_eq hw,inD_enc,mkD_enc]
 exact ri_ok x w e u ws F nl ln bx I J rest hw.f (fun y hy=>(hw.b y hy).2) k5 k6 k2
def riG:Gc:=fun args s=>match args,s.g with
 | [.ptr p 0,.agg [.str x,.int .i64 w],.val u,.int .i64 e],(g0,F0)::(g1,F1)::rest=>cond (Nat.beq g0 0 && eqbs F0 formsL && (Nat.beq g1 2 && eqbs F1 callsL)) (match storeAt s with
   | some d=>(match s.h.get p with
     | some (.cells [.slo a 0 ni 0,.slo b 0 nl 0,.slo c 0 nj 0,.int .i64 ln] none)=>(match s.h.get a with
       | some (.cells ax (some 5))=>(match s.h.get b with
         | some (.cells bx (some 4))=>(match s.h.get c with
           | some (.cells cx (some 4))=>(match s.h.get d with
             | some (.obj F_d [.fact F] z9)=>(match s.h.get z9 with
               | some (.dead)=>cond (nodupB [p,a,b,c,d,z9]) (match s.lay [p,a,b,c,d,z9] [.cells [.slo s.n 0 (riNi F u x w e ln ax cx) 0,.slo b 0 nl 0,.slo (Nat.succ s.n) 0 (riNj F u x w e ln ax cx) 0,.int .i64 ln] none,.dead,.cells bx (some 4),.dead,.obj stF [.fact F] z9,.dead] [.cells (riAx F u x w e ln ax cx) (some 5),.cells (riCx F u x w e ln ax cx) (some 4)] with
                 | some s'=>some ([okIn ni ax,okMk nl bx,okMk nj cx,okWs F u,xle ni 99990,xle nj 99990,isF F_d stF],.agg [.int .i64 (riL1 F u x w e ln ax cx),.int .i64 (riC1 F u x w e ln ax cx),.int .i64 (riE1 F u x w e ln ax cx)],s')
                 | none=>none) none
               | _=>none)
             | _=>none)
           | _=>none)
         | _=>none)
       | _=>none)
     | _=>none)
   | none=>none) none
 | _,_=>none
theorem riG_ok:GOk prog 61 riG:=by
 intro args s bs l s' hg hb hfr
 unfold riG at hg
 split at hg
 ·rename_i p x w u e g0 F0 g1 F1 rest hgl
  cases hc:(Nat.beq g0 0 && eqbs F0 formsL && (Nat.beq g1 2 && eqbs F1 callsL)) with
  | false=>rw [hc] at hg; cases hg
  | true =>
    rw [hc] at hg
    simp only [cond_true] at hg
    rw [Bool.and_eq_true] at hc
    replace hgl:s.g=tab2 rest:=by(have c1:=Bool.and_eq_true_iff.1 hc.1; have c2:=Bool.and_eq_true_iff.1 hc.2; rw [hgl,Nat.eq_of_beq_eq_true c1.1,eqbs_eq c1.2,Nat.eq_of_beq_eq_true c2.1,eqbs_eq c2.2] <;> rfl)
    split at hg
    ·rename_i d hfd
     split at hg
     ·rename_i a ni b nl c nj ln hb0
      split at hg
      ·rename_i ax hb1
       split at hg
       ·rename_i bx hb2
        split at hg
        ·rename_i cx hb3
         split at hg
         ·rename_i F_d F z9 hb4
          split at hg
          ·rename_i  hb5
           cases hbc:nodupB [p,a,b,c,d,z9] with
           | false=>rw [hbc] at hg; cases hg
           | true =>
             rw [hbc] at hg
             simp only [cond_true] at hg
             split at hg
             ·rename_i s1 hs1
              simp only [Option.some.injEq,Prod.mk.injEq] at hg
              obtain⟨rfl,rfl,rfl⟩:=hg
              simp only [allT_cons] at hb
              obtain⟨k1,k2,k3,k4,k5,k6,k7,_⟩:=hb
              have e_d:=isF_eq k7
              subst e_d
              have n1:=okIn_nd k1; have n2:=okMk_nd k2; have n3:=okMk_nd k3; have n4:=noids_in (riV F u x w e ln ax cx).2.1; have n5:=noids_mk (riV F u x w e ln ax cx).2.2
              refine SFun.lay (bs:=[.cells [.slo 1 0 ni 0,.slo 2 0 nl 0,.slo 3 0 nj 0,.int .i64 ln] none,.cells ax (some 5),.cells bx (some 4),.cells cx (some 4),.obj stF [.fact F] 5,.dead]) (args0:=[.ptr 0 0,.agg [.str x,.int .i64 w],.val u,.int .i64 e]) (bs':=[.cells [.slo 6 0 (riNi F u x w e ln ax cx) 0,.slo 2 0 nl 0,.slo 7 0 (riNj F u x w e ln ax cx) 0,.int .i64 ln] none,.dead,.cells bx (some 4),.dead,.obj stF [.fact F] 5,.dead,.cells (riAx F u x w e ln ax cx) (some 5),.cells (riCx F u x w e ln ax cx) (some 4)]) (v0:=.agg [.int .i64 (riL1 F u x w e ln ax cx),.int .i64 (riC1 F u x w e ln ax cx),.int .i64 (riE1 F u x w e ln ax cx)]) hfr hs1 (nodupB_nd hbc)
               ⟨⟨there hfr hb0,_,hb0,by first | exact lb_same rfl | exact lb_cells (lws_cons (lw_slo rfl) (lws_cons (lw_slo rfl) (lws_cons (lw_slo rfl) (lws_cons (lw_int) lws_nil)))) (by simp),fun κ hκ=>lb_cells (lws_cons (lw_slo (hκ 1 a rfl)) (lws_cons (lw_slo (hκ 2 b rfl)) (lws_cons (lw_slo (hκ 3 c rfl)) (lws_cons (lw_int) lws_nil)))) (by simp)⟩,⟨there hfr hb1,_,hb1,lb_same (by(exact zId)),fun κ hκ=>lb_same (by(exact zId))⟩,⟨there hfr hb2,_,hb2,lb_same (by(exact zId)),fun κ hκ=>lb_same (by(exact zId))⟩,⟨there hfr hb3,_,hb3,lb_same (by(exact zId)),fun κ hκ=>lb_same (by(exact zId))⟩,⟨there hfr hb4,_,hb4,lb_obj rfl,fun κ hκ=>lb_obj (hκ 5 z9 rfl)⟩,⟨there hfr hb5,_,hb5,lb_dead,fun κ hκ=>lb_dead⟩,trivial⟩ (by(exact zTl)) ?_
               fun κ h1 h2=>⟨⟨lb_cells (lws_cons (lw_slo (h2 0 (by simp))) (lws_cons (lw_slo (h1 2 b rfl)) (lws_cons (lw_slo (h2 1 (by simp))) (lws_cons (lw_int) lws_nil)))) (by simp),lb_dead,lb_same (by(exact zId)),lb_dead,lb_obj (h1 5 z9 rfl),lb_dead,lb_same (n4),lb_same (n5),trivial⟩,lw_noid rfl⟩
              rw [hgl]; exact(ri_c x w e u F ni nl nj ln ax bx cx rest k1 k2 k3 k4 (xle_iff.1 k5) (xle_iff.1 k6))
             ·cases hg
          ·cases hg
         ·cases hg
        ·cases hg
       ·cases hg
      ·cases hg
     ·cases hg
    ·cases hg
 ·cases hg
def cxRn:Cx:=cxl [(59,rlG),(61,riG)]
abbrev rnL:List Nat:=[4]
theorem cxRn_ok:CtrOk prog (ctrOf cxRn):=cxl_ok ⟨rlG_ok,riG_ok,trivial⟩
abbrev rn_x_b1 (nl:Nat) (ln:Int) (ax:List LV) (bx:List LV) (cx:List LV) (F:World→Prop) (v:Value) (e:Int):List (Option LB):=[sN [.slo 8 0 (riNi F (xvsub v 2 1) (asS (nthD (xvrow F v 0 2) 0)) (asI (nthD (xvrow F v 0 2) 1)) e ln ax cx) 0,.slo 2 0 nl 0,.slo 9 0 (riNj F (xvsub v 2 1) (asS (nthD (xvrow F v 0 2) 0)) (asI (nthD (xvrow F v 0 2) 1)) e ln ax cx) 0,.int .i64 ln],sD,sC bx 4,sD,some (.obj stF [.fact F] 5),sD,sN [.val v,.int .i64 e],sN [.int .i64 (riL1 F (xvsub v 2 1) (asS (nthD (xvrow F v 0 2) 0)) (asI (nthD (xvrow F v 0 2) 1)) e ln ax cx),.int .i64 (riC1 F (xvsub v 2 1) (asS (nthD (xvrow F v 0 2) 0)) (asI (nthD (xvrow F v 0 2) 1)) e ln ax cx),.int .i64 (riE1 F (xvsub v 2 1) (asS (nthD (xvrow F v 0 2) 0)) (asI (nthD (xvrow F v 0 2) 1)) e ln ax cx)],sC (riAx F (xvsub v 2 1) (asS (nthD (xvrow F v 0 2) 0)) (asI (nthD (xvrow F v 0 2) 1)) e ln ax cx) 5,sC (riCx F (xvsub v 2 1) (asS (nthD (xvrow F v 0 2) 0)) (asI (nthD (xvrow F v 0 2) 1)) e ln ax cx) 4]
abbrev rn_x_b2 (ni:Nat) (nl:Nat) (nj:Nat) (ln:Int) (ax:List LV) (bx:List LV) (cx:List LV) (F:World→Prop) (v:Value) (e:Int):List (Option LB):=[sN [.slo 1 0 ni 0,.slo 2 0 nl 0,.slo 3 0 nj 0,.int .i64 ln],sC ax 5,sC bx 4,sC cx 4,some (.obj stF [.fact F] 5),sD,sN [.val v,.int .i64 e],sN [.int .i64 0,.int .i64 0,.int .i64 0]]
theorem rn_x (ni nl nj:Nat) (ln:Int) (ax bx cx:List LV) (F:World→Prop) (v:Value) (e:Int) (rest:Glb) (K:Pk):(xsp prog cxRn 40 45 ((sp prog 47).drop 0) (tm0 [.ptr 0 0,.agg [.val v,.int .i64 e]]) (mkS (psH ni nl nj ln ax bx cx++[.obj stF [.fact F] 5,.dead]) (tab2 rest)) (vK rnL K))=(
 bif xcm .gtr (↑(xvl v)) 0 then(
 ck (xvix v 0) <|
 ck (xvrok F v 0 1) <|
 ck (xle 1 (xln (xvrow F v 0 1))) <|
 ck (isS (nthD (xvrow F v 0 1) 0)) <|
 ck (xnn (xar .sub .i64 (↑(xsln (asS (nthD (xvrow F v 0 1) 0)))) 1)) <|
 ck (xle (xadd (xnat (xar .sub .i64 (↑(xsln (asS (nthD (xvrow F v 0 1) 0)))) 1)) 1) (xsln (asS (nthD (xvrow F v 0 1) 0)))) <|
 bif xcm .eql (xbyte (asS (nthD (xvrow F v 0 1) 0)) (xnat (xar .sub .i64 (↑(xsln (asS (nthD (xvrow F v 0 1) 0)))) 1))) 58 then(
 ck (xvix v 0) <|
 ck (xvrok F v 0 2) <|
 ck (xle 2 (xln (xvrow F v 0 2))) <|
 ck (isS (nthD (xvrow F v 0 2) 0)) <|
 ck (isI .i64 (nthD (xvrow F v 0 2) 1)) <|
 ck (okIn ni ax) <|
 ck (okMk nl bx) <|
 ck (okMk nj cx) <|
 ck (xle 1 (xsln (asS (nthD (xvrow F v 0 2) 0)))) <|
 ck (xle (xsln (asS (nthD (xvrow F v 0 2) 0))) 100000) <|
 bif xnot (rlB bx (asS (nthD (xvrow F v 0 2) 0))) then(
 ck (xvix v 0) <|
 ck (xvrok F v 1 1) <|
 ck (xle 1 (xln (xvrow F v 1 1))) <|
 ck (isI .i64 (nthD (xvrow F v 1 1) 0)) <|
 K .ret [.ptr 7 0] [sN [.slo 1 0 ni 0,.slo 8 0 (rlM nl bx (asS (nthD (xvrow F v 0 2) 0))) 0,.slo 3 0 nj 0,.int .i64 ln],sC ax 5,sD,sC cx 4,some (.obj stF [.fact F] 5),sD,sN [.val v,.int .i64 e],sN [.int .i64 ln,.int .i64 (asI (nthD (xvrow F v 1 1) 0)),.int .i64 12],sC (rlW bx (asS (nthD (xvrow F v 0 2) 0)) ni) 4,sN [.int .i64 ln,.int .i64 (asI (nthD (xvrow F v 1 1) 0)),.int .i64 12]] (tab2 rest))
 else(
 ck (xvso v 1) <|
 bif xcm .eql (↑(xvl (xvsub v 2 1))) 0 then(
 K .ret [.ptr 7 0] [sN [.slo 1 0 ni 0,.slo 8 0 (rlM nl bx (asS (nthD (xvrow F v 0 2) 0))) 0,.slo 3 0 nj 0,.int .i64 ln],sC ax 5,sD,sC cx 4,some (.obj stF [.fact F] 5),sD,sN [.val v,.int .i64 e],sN [.int .i64 0,.int .i64 0,.int .i64 0],sC (rlW bx (asS (nthD (xvrow F v 0 2) 0)) ni) 4] (tab2 rest))
 else(
 ck (xvix (xvsub v 2 1) 0) <|
 ck (xvrok F (xvsub v 2 1) 0 2) <|
 ck (xle 2 (xln (xvrow F (xvsub v 2 1) 0 2))) <|
 ck (isS (nthD (xvrow F (xvsub v 2 1) 0 2) 0)) <|
 ck (isI .i64 (nthD (xvrow F (xvsub v 2 1) 0 2) 1)) <|
 ck (xvso (xvsub v 2 1) 1) <|
 ck (okIn ni ax) <|
 ck (okMk (rlM nl bx (asS (nthD (xvrow F v 0 2) 0))) (rlW bx (asS (nthD (xvrow F v 0 2) 0)) ni)) <|
 ck (okMk nj cx) <|
 ck (okWs F (xvsub (xvsub v 2 1) 2 1)) <|
 ck (xle ni 99990) <|
 ck (xle nj 99990) <|
 ck (isF stF stF) <|
 K .ret [.ptr 7 0] [sN [.slo 9 0 (riNi F (xvsub (xvsub v 2 1) 2 1) (asS (nthD (xvrow F (xvsub v 2 1) 0 2) 0)) (asI (nthD (xvrow F (xvsub v 2 1) 0 2) 1)) e ln ax cx) 0,.slo 8 0 (rlM nl bx (asS (nthD (xvrow F v 0 2) 0))) 0,.slo 10 0 (riNj F (xvsub (xvsub v 2 1) 2 1) (asS (nthD (xvrow F (xvsub v 2 1) 0 2) 0)) (asI (nthD (xvrow F (xvsub v 2 1) 0 2) 1)) e ln ax cx) 0,.int .i64 ln],sD,sD,sD,some (.obj stF [.fact F] 5),sD,sN [.val v,.int .i64 e],sN [.int .i64 (riL1 F (xvsub (xvsub v 2 1) 2 1) (asS (nthD (xvrow F (xvsub v 2 1) 0 2) 0)) (asI (nthD (xvrow F (xvsub v 2 1) 0 2) 1)) e ln ax cx),.int .i64 (riC1 F (xvsub (xvsub v 2 1) 2 1) (asS (nthD (xvrow F (xvsub v 2 1) 0 2) 0)) (asI (nthD (xvrow F (xvsub v 2 1) 0 2) 1)) e ln ax cx),.int .i64 (riE1 F (xvsub (xvsub v 2 1) 2 1) (asS (nthD (xvrow F (xvsub v 2 1) 0 2) 0)) (asI (nthD (xvrow F (xvsub v 2 1) 0 2) 1)) e ln ax cx)],sC (rlW bx (asS (nthD (xvrow F v 0 2) 0)) ni) 4,sC (riAx F (xvsub (xvsub v 2 1) 2 1) (asS (nthD (xvrow F (xvsub v 2 1) 0 2) 0)) (asI (nthD (xvrow F (xvsub v 2 1) 0 2) 1)) e ln ax cx) 5,sC (riCx F (xvsub (xvsub v 2 1) 2 1) (asS (nthD (xvrow F (xvsub v 2 1) 0 2) 0)) (asI (nthD (xvrow F (xvsub v 2 1) 0 2) 1)) e ln ax cx) 4] (tab2 rest))))
 else(
 bif xcm .eql (↑(xvl v)) 0 then(
 K .ret [.ptr 7 0] (rn_x_b2 ni nl nj ln ax bx cx F v e) (tab2 rest))
 else(
 ck (xvix v 0) <|
 ck (xvrok F v 0 2) <|
 ck (xle 2 (xln (xvrow F v 0 2))) <|
 ck (isS (nthD (xvrow F v 0 2) 0)) <|
 ck (isI .i64 (nthD (xvrow F v 0 2) 1)) <|
 ck (xvso v 1) <|
 ck (okIn ni ax) <|
 ck (okMk nl bx) <|
 ck (okMk nj cx) <|
 ck (okWs F (xvsub v 2 1)) <|
 ck (xle ni 99990) <|
 ck (xle nj 99990) <|
 ck (isF stF stF) <|
 K .ret [.ptr 7 0] (rn_x_b1 nl ln ax bx cx F v e) (tab2 rest))))
 else(
 bif xcm .eql (↑(xvl v)) 0 then(
 K .ret [.ptr 7 0] (rn_x_b2 ni nl nj ln ax bx cx F v e) (tab2 rest))
 else(
 ck (xvix v 0) <|
 ck (xvrok F v 0 2) <|
 ck (xle 2 (xln (xvrow F v 0 2))) <|
 ck (isS (nthD (xvrow F v 0 2) 0)) <|
 ck (isI .i64 (nthD (xvrow F v 0 2) 1)) <|
 ck (xvso v 1) <|
 ck (okIn ni ax) <|
 ck (okMk nl bx) <|
 ck (okMk nj cx) <|
 ck (okWs F (xvsub v 2 1)) <|
 ck (xle ni 99990) <|
 ck (xle nj 99990) <|
 ck (isF stF stF) <|
 K .ret [.ptr 7 0] (rn_x_b1 nl ln ax bx cx F v e) (tab2 rest)))):=by kernel_rfl
end
end Go.Lev
/- text: readLine -/
namespace Go.Lev
set_option linter.unusedSimpArgs false
set_option linter.unusedVariables false
open Go.RowKit
open Go.Proofs.Tryd (prog)
set_option maxRecDepth 100000
noncomputable section
def isL (x:List UInt8):Bool:=xcm .eql (xbyte x (x.length - 1)) 58
def rnZ (L:LnS) (ln:Int) (I:List InX) (B J:List MkX):(Int×Int×Int)×List InX×List MkX×List MkX :=
 match L.ws with
 | []=>((0,0,0),I,B,J)
 | v::ws=>if isL v.1 then
    if rlB (encL mkC B) v.1=false then((ln,v.2,12),I,B,J)
    else match ws with
     | []=>((0,0,0),I,B++[⟨rlS v.1,I.length,0,0⟩],J)
     | v2::ws2=>((riZ v2.1 v2.2 ws2 L.e ln I J).1,(riZ v2.1 v2.2 ws2 L.e ln I J).2.1,B++[⟨rlS v.1,I.length,0,0⟩],(riZ v2.1 v2.2 ws2 L.e ln I J).2.2)
   else((riZ v.1 v.2 ws L.e ln I J).1,(riZ v.1 v.2 ws L.e ln I J).2.1,B,(riZ v.1 v.2 ws L.e ln I J).2.2)
abbrev rnO (ni nl nj:Nat) (ln:Int) (ax bx cx:List LV) (F:World→Prop):List LB:=[.cells [.slo 6 0 ni 0,.slo 7 0 nl 0,.slo 8 0 nj 0,.int .i64 ln] none,.dead,.dead,.dead,.obj stF [.fact F] 5,.dead,.cells ax (some 5),.cells bx (some 4),.cells cx (some 4)]
theorem rl_enc (B:List MkX) (x:List UInt8) (ni:Nat) (h:rlB (encL mkC B) x=true):rlW (encL mkC B) x ni=encL mkC (B++[⟨rlS x,ni,0,0⟩])∧rlM B.length (encL mkC B) x=(B++[(⟨rlS x,ni,0,0⟩:MkX)]).length:=by
 unfold rlW rlM
 rw [h,encL_append]
 exact⟨rfl,by simp⟩
theorem rl_enc0 (B:List MkX) (x:List UInt8) (ni:Nat) (h:rlB (encL mkC B) x=false):rlW (encL mkC B) x ni=encL mkC B∧rlM B.length (encL mkC B) x=B.length:=by
 unfold rlW rlM
 rw [h]
 exact⟨rfl,rfl⟩
set_option maxHeartbeats 8000000 in
theorem rn_ok (F:World→Prop) (v:Value) (L:LnS) (ln:Int) (I:List InX) (B J:List MkX) (rest:Glb) (hf:WsP F v L.ws) (hI:I.length≤99980) (hB:B.length≤99980) (hJ:J.length≤99980) :
  SFun prog 47 [.ptr 0 0,.agg [.val v,.int .i64 L.e]] (mkS (psH I.length B.length J.length ln (encL inC I) (encL mkC B) (encL mkC J)++[.obj stF [.fact F] 5,.dead]) (tab2 rest)) fun l st=>l=flt (rnZ L ln I B J).1∧st=mkS (rnO (rnZ L ln I B J).2.1.length (rnZ L ln I B J).2.2.1.length (rnZ L ln I B J).2.2.2.length ln (encL inC (rnZ L ln I B J).2.1) (encL mkC (rnZ L ln I B J).2.2.1) (encL mkC (rnZ L ln I B J).2.2.2) F) (tab2 rest):=by
 obtain⟨z,hz⟩:∃ z,z=rnZ L ln I B J:=⟨_,rfl⟩
 rw [← hz]
 refine SFun.mono (SFun.piecesC (Q:=fun l b=>l=flt z.1∧b=rnO z.2.1.length z.2.2.1.length z.2.2.2.length ln (encL inC z.2.1) (encL mkC z.2.2.1) (encL mkC z.2.2.2) F) 45 6 4 77 rnL (by kernel_rfl) rfl rfl rfl ?_) fun l s' ⟨b0,⟨h1,h2⟩,h3⟩=>⟨h1,by rw [h3,h2]⟩
 refine SSp.vc cxRn_ok (n:=40) (Nat.le_of_ble_eq_true rfl) ?_
 rw [rn_x]; simp only [rn_x_b1]
 have na:=noids_in I; have nb:=noids_mk B; have nc:=noids_mk J
 have k1:okIn I.length (encL inC I)=true:=okIn_enc (by omega)
 have k2:okMk B.length (encL mkC B)=true:=okMk_enc (by omega)
 have k3:okMk J.length (encL mkC J)=true:=okMk_enc (by omega)
 have wS:∀ y,asS (.str y)=y:=fun _=>rfl
 have wB:∀ y,isS (.str y)=true:=fun _=>rfl
 have w0:∀ (a b:LV),nthD [a,b] 0=a:=fun _ _=>rfl
 have w1:∀ (a b:LV),nthD [a,b] 1=b:=fun _ _=>rfl
 have w2:∀ (a:LV),nthD [a] 0=a:=fun _=>rfl
 have l2:∀ (a b:LV),xln [a,b]=2:=fun _ _=>rfl
 have l1:∀ (a:LV),xln [a]=1:=fun _=>rfl
 have z1:xle 1 1=true:=rfl
 have z2:xle 2 2=true:=rfl
 have i9:xle I.length 99990=true:=t_le (by omega)
 have j9:xle J.length 99990=true:=t_le (by omega)
 have fs:isF stF stF=true:=isF_self
 obtain⟨ws,le⟩:=L
 obtain⟨hfc,hn,hb⟩:=hf
 dsimp only at hfc hn hb hz ⊢
 have ins:∀ (u:Value) (y:Wd) (t:List Wd),FcW F u (y::t)→(∀ a∈(y::t),1≤a.1.length∧a.1.length≤100000)→(y::t).length≤5000→okWs F (xvsub u 2 1)=true∧riV F (xvsub u 2 1) y.1 y.2 le ln (encL inC I) (encL mkC J)=riZ y.1 y.2 t le ln I J:=fun u y t h1 h2 h3=>by
  have hw:WsP F (xvsub u 2 1) t:=⟨h1.rest.2,by simp at h3; omega,fun a ha=>h2 a (by simp [ha])⟩
  exact⟨okWs_iff.2 ⟨t,hw⟩,by rw [riV,wsOf_eq hw,inD_enc,mkD_enc]⟩
 cases ws with
 | nil =>
   have hl:=hfc.len
   simp only [rnZ] at hz
   subst hz
   simp only [hl,List.length_nil,show xcm .gtr ((0:Nat):Int) 0=false from f_gtr (Int.le_refl _),show xcm .eql ((0:Nat):Int) 0=true from t_eql rfl,cond_true,cond_false]
   exact⟨trivial,rfl,7,_,_,flt (0,0,0),flt (0,0,0),rnO I.length B.length J.length ln (encL inC I) (encL mkC B) (encL mkC J) F,[.id 0,.id 1,.id 2,.id 3,.id 4,.id 5,.id 1,.id 2,.id 3],rfl,rfl,by kernel_rfl,⟨rfl,rfl⟩,by(exact zC)⟩
 | cons x ws =>
   have hl:=hfc.len
   obtain⟨c1,c2,c3,c4,c5,c6,c7⟩:=hfc.head
   obtain⟨r1,r2⟩:=hfc.rest
   obtain⟨hx1,hx2⟩:=hb x (by simp)
   have e1:xar .sub .i64 ((xsln x.1:Nat):Int) 1=((x.1.length - 1:Nat):Int):=by
    show xar .sub .i64 ((x.1.length:Nat):Int) 1=_
    rw [sub_i64 (show _≤((x.1.length:Nat):Int) - 1 by omega) (show((x.1.length:Nat):Int) - 1≤_ by omega)]; omega
   have b1:xle (x.1.length - 1+1) (xsln x.1)=true:=t_le (show x.1.length - 1+1≤x.1.length by omega)
   have b2:xle 1 (xsln x.1)=true:=t_le hx1
   have b3:xle (xsln x.1) 100000=true:=t_le hx2
   simp only [hl,c1,c6,c7,w2,l1,z1,wS,wB,e1,wd_nat,wd_nn,wd_add,b1,show xcm .gtr (((x::ws).length:Nat):Int) 0=true from t_gtr (by first | (simp; done) | (simp; omega)),show xcm .eql (((x::ws).length:Nat):Int) 0=false from f_eql (by simp; omega),cond_true,cond_false]
   cases hi:isL x.1 with
   | true =>
     simp only [show xcm .eql (xbyte x.1 (x.1.length - 1)) 58=true from hi,cond_true]
     simp only [rnZ,hi,if_true] at hz
     simp only [c2,c3,c4,c5,r1,w0,w1,w2,l1,l2,z1,z2,wS,wB,wd_asI,wd_isI,decide_true,k1,k2,k3,b2,b3,cond_true]
     cases hq:rlB (encL mkC B) x.1 with
     | false =>
       rw [if_pos hq] at hz
       obtain⟨q1,q2⟩:=rl_enc0 B x.1 I.length hq
       simp only [show xnot false=true from rfl,q1,q2,cond_true]
       subst hz
       exact⟨trivial,rfl,7,_,_,flt (ln,x.2,12),flt (ln,x.2,12),rnO I.length B.length J.length ln (encL inC I) (encL mkC B) (encL mkC J) F,[.id 0,.id 1,.id 2,.id 3,.id 4,.id 5,.id 1,.id 8,.id 3],rfl,rfl,by kernel_rfl,⟨rfl,rfl⟩,by(exact zC)⟩
     | true =>
       rw [if_neg (by rw [hq]; simp)] at hz
       obtain⟨q1,q2⟩:=rl_enc B x.1 I.length hq
       have nb2:=noids_mk (B++[⟨rlS x.1,I.length,0,0⟩])
       have k4:okMk (B++[(⟨rlS x.1,I.length,0,0⟩:MkX)]).length (encL mkC (B++[⟨rlS x.1,I.length,0,0⟩]))=true:=okMk_enc (by simp; omega)
       simp only [show xnot true=false from rfl,q1,q2,cond_false]
       have hl2:=r2.len
       cases ws with
       | nil =>
         simp only [hl2,List.length_nil,show xcm .eql ((0:Nat):Int) 0=true from t_eql rfl,cond_true]
         dsimp only at hz
         subst hz
         exact⟨trivial,rfl,7,_,_,flt (0,0,0),flt (0,0,0),rnO I.length (B++[(⟨rlS x.1,I.length,0,0⟩:MkX)]).length J.length ln (encL inC I) (encL mkC (B++[⟨rlS x.1,I.length,0,0⟩])) (encL mkC J) F,[.id 0,.id 1,.id 2,.id 3,.id 4,.id 5,.id 1,.id 8,.id 3],rfl,rfl,by kernel_rfl,⟨rfl,rfl⟩,by(exact zC)⟩
       | cons y t =>
         obtain⟨d1,d2,d3,d4,d5,d6,d7⟩:=r2.head
         obtain⟨s1,s2⟩:=r2.rest
         obtain⟨i1,i2⟩:=ins (xvsub v 2 1) y t r2 (fun a ha=>hb a (by simp at ha ⊢; right; exact ha)) (by simp at hn ⊢; omega)
         have n4:=noids_in (riZ y.1 y.2 t le ln I J).2.1; have n5:=noids_mk (riZ y.1 y.2 t le ln I J).2.2
         simp only [hl2,show xcm .eql (((y::t).length:Nat):Int) 0=false from f_eql (by simp; omega),d1,d2,d3,s1,w0,w1,l2,z2,wS,wB,wd_asI,wd_isI,decide_true,k1,k3,k4,i1,i9,j9,fs,riL1,riC1,riE1,riNi,riAx,riNj,riCx,i2,cond_true,cond_false]
         dsimp only at hz
         subst hz
         exact⟨trivial,rfl,7,_,_,flt (riZ y.1 y.2 t le ln I J).1,flt (riZ y.1 y.2 t le ln I J).1,rnO (riZ y.1 y.2 t le ln I J).2.1.length (B++[(⟨rlS x.1,I.length,0,0⟩:MkX)]).length (riZ y.1 y.2 t le ln I J).2.2.length ln (encL inC (riZ y.1 y.2 t le ln I J).2.1) (encL mkC (B++[⟨rlS x.1,I.length,0,0⟩])) (encL mkC (riZ y.1 y.2 t le ln I J).2.2) F,[.id 0,.id 1,.id 2,.id 3,.id 4,.id 5,.id 9,.id 8,.id 10],rfl,rfl,by kernel_rfl,⟨rfl,rfl⟩,by(exact zC)⟩
   | false =>
     simp only [show xcm .eql (xbyte x.1 (x.1.length - 1)) 58=false from hi,cond_false]
     simp only [rnZ,hi,Bool.false_eq_true,if_false] at hz
     obtain⟨i1,i2⟩:=ins v x ws hfc hb hn
     have n4:=noids_in (riZ x.1 x.2 ws le ln I J).2.1; have n5:=noids_mk (riZ x.1 x.2 ws le ln I J).2.2
     simp only [c2,c3,r1,w0,w1,l2,z2,wS,wB,wd_asI,wd_isI,decide_true,k1,k2,k3,i1,i9,j9,fs,riL1,riC1,riE1,riNi,riAx,riNj,riCx,i2,cond_true,cond_false]
     subst hz
     exact⟨trivial,rfl,7,_,_,flt (riZ x.1 x.2 ws le ln I J).1,flt (riZ x.1 x.2 ws le ln I J).1,rnO (riZ x.1 x.2 ws le ln I J).2.1.length B.length (riZ x.1 x.2 ws le ln I J).2.2.length ln (encL inC (riZ x.1 x.2 ws le ln I J).2.1) (encL mkC B) (encL mkC (riZ x.1 x.2 ws le ln I J).2.2) F,[.id 0,.id 1,.id 2,.id 3,.id 4,.id 5,.id 8,.id 2,.id 9],rfl,rfl,by kernel_rfl,⟨rfl,rfl⟩,by(exact zC)⟩
end
end Go.Lev
/- text: aim; readLine as a contract -/
namespace Go.Lev
set_option linter.unusedSimpArgs false
set_option linter.unusedVariables false
open Go.RowKit
open Go.Proofs.Tryd (prog)
set_option maxRecDepth 100000
noncomputable section
def setC (I:List InX) (n:Nat) (pl:Int):List InX:=match I[n]? with
 | some x=>I.set n { x with c:=pl }
 | none=>I
theorem setC_len (I:List InX) (n:Nat) (pl:Int):(setC I n pl).length=I.length:=by unfold setC; split <;> simp
theorem setC_enc {I:List InX} {n:Nat} {pl:Int} (h:n < I.length):xlay (encL inC I) (n * 5+3) [.int .i64 pl]=encL inC (setC I n pl):=by
 unfold setC
 rw [List.getElem?_eq_getElem h]
 exact encL_set1 inC_len (y:={ I[n] with c:=pl }) h (j:=3) (by omega) rfl
def aimF (B:List MkX):List MkX→List InX→(Int×Int×Int)×List InX
 | [],I=>((0,0,0),I)
 | j::r,I=>match fndF B j.nm with
   | none=>((j.ln,j.cl,12),I)
   | some pl=>aimF B r (setC I j.pl.toNat pl)
def JOk (I:List InX) (J:List MkX):Prop:=∀ j∈J,0≤j.pl∧j.pl < (I.length:Int)
theorem aimF_drop {B L:List MkX} {I:List InX} {i:Nat} (h:i < L.length):aimF B (L.drop i) I=match fndF B L[i].nm with
  | none=>((L[i].ln,L[i].cl,12),I)
  | some pl=>aimF B (L.drop (i+1)) (setC I L[i].pl.toNat pl):=by
 rw [List.drop_eq_getElem_cons h]; rfl
def cxAi:Cx:=cxl [(62,fndG2)]
abbrev aiL:List Nat:=[0,2,10,11,12]
abbrev aiT (nj i:Nat):List (Nat×LV):=[(0,.ptr 0 0),(2,.ptr 4 0),(10,.slo 3 0 nj 0),(11,.int .i64 nj),(12,.int .i64 i)]
abbrev aiH (ni nl nj:Nat) (ln:Int) (ax bx cx:List LV):List LB:=psH ni nl nj ln ax bx cx++[.cells [.int .i64 0,.int .i64 0,.int .i64 0] none]
theorem cxAi_ok:CtrOk prog (ctrOf cxAi):=cxl_ok ⟨fndG2_ok,trivial⟩
theorem ai_0 (ni nl nj:Nat) (ln:Int) (ax bx cx:List LV) (rest:Glb) (K:Pk):(xsp prog cxAi 40 41 (seg (sp prog 48) 0 2) (tm0 [.ptr 0 0]) (mkS (psH ni nl nj ln ax bx cx) (tab2 rest)) (vK aiL K))=(
 K .normal [.ptr 0 0,.ptr 4 0,.slo 3 0 nj 0,.int .i64 ↑nj,.int .i64 0] [sN [.slo 1 0 ni 0,.slo 2 0 nl 0,.slo 3 0 nj 0,.int .i64 ln],sC ax 5,sC bx 4,sC cx 4,sN [.int .i64 0,.int .i64 0,.int .i64 0]] (tab2 rest)):=by kernel_rfl
theorem ai_l (ni nl nj i:Nat) (ln:Int) (ax bx cx:List LV) (rest:Glb) (K:Pk):(xcode prog cxAi 40 41 (loopOf (nthC (sp prog 48) 2)) (mkTm 41 (aiT nj i)) (mkS (aiH ni nl nj ln ax bx cx) (tab2 rest)) (vK aiL K))=(
 bif xcm .lss ↑i ↑nj then(
 ck (xle (xadd (xnat ↑i) 1) nj) <|
 ck (xle (xadd (xix 0 (xnat ↑i) 4) 4) (xln cx)) <|
 ck (isS (nthD cx (xix 0 (xnat ↑i) 4))) <|
 ck (isI .i64 (nthD cx (xadd (xix 0 (xnat ↑i) 4) 1))) <|
 ck (isI .i64 (nthD cx (xadd (xadd (xix 0 (xnat ↑i) 4) 1) 1))) <|
 ck (isI .i64 (nthD cx (xadd (xadd (xadd (xix 0 (xnat ↑i) 4) 1) 1) 1))) <|
 ck (okIn ni ax) <|
 ck (okMk nl bx) <|
 ck (okMk nj cx) <|
 bif xnot (fndB bx (asS (nthD cx (xix 0 (xnat ↑i) 4)))) then(
 K .ret [.ptr 0 0,.ptr 4 0,.slo 3 0 nj 0,.int .i64 ↑nj,.int .i64 ↑i] [sN [.slo 1 0 ni 0,.slo 2 0 nl 0,.slo 3 0 nj 0,.int .i64 ln],sC ax 5,sC bx 4,sC cx 4,sN [.int .i64 (asI (nthD cx (xadd (xadd (xix 0 (xnat ↑i) 4) 1) 1))),.int .i64 (asI (nthD cx (xadd (xadd (xadd (xix 0 (xnat ↑i) 4) 1) 1) 1))),.int .i64 12],sN [.str (asS (nthD cx (xix 0 (xnat ↑i) 4))),.int .i64 (asI (nthD cx (xadd (xix 0 (xnat ↑i) 4) 1))),.int .i64 (asI (nthD cx (xadd (xadd (xix 0 (xnat ↑i) 4) 1) 1))),.int .i64 (asI (nthD cx (xadd (xadd (xadd (xix 0 (xnat ↑i) 4) 1) 1) 1)))]] (tab2 rest))
 else(
 ck (xnn (asI (nthD cx (xadd (xix 0 (xnat ↑i) 4) 1)))) <|
 ck (xle (xadd (xnat (asI (nthD cx (xadd (xix 0 (xnat ↑i) 4) 1)))) 1) ni) <|
 ck (xle (xadd (xadd (xix 0 (xnat (asI (nthD cx (xadd (xix 0 (xnat ↑i) 4) 1)))) 5) 3) 1) (xln ax)) <|
 K .normal [.ptr 0 0,.ptr 4 0,.slo 3 0 nj 0,.int .i64 ↑nj,.int .i64 (xar .add .i64 (↑i) 1)] [sN [.slo 1 0 ni 0,.slo 2 0 nl 0,.slo 3 0 nj 0,.int .i64 ln],sC (xlay ax (xadd (xix 0 (xnat (asI (nthD cx (xadd (xix 0 (xnat ↑i) 4) 1)))) 5) 3) [.int .i64 (fndN bx (asS (nthD cx (xix 0 (xnat ↑i) 4))))]) 5,sC bx 4,sC cx 4,sN [.int .i64 0,.int .i64 0,.int .i64 0],sN [.str (asS (nthD cx (xix 0 (xnat ↑i) 4))),.int .i64 (asI (nthD cx (xadd (xix 0 (xnat ↑i) 4) 1))),.int .i64 (asI (nthD cx (xadd (xadd (xix 0 (xnat ↑i) 4) 1) 1))),.int .i64 (asI (nthD cx (xadd (xadd (xadd (xix 0 (xnat ↑i) 4) 1) 1) 1)))]] (tab2 rest)))
 else(
 K (.exit 0) [.ptr 0 0,.ptr 4 0,.slo 3 0 nj 0,.int .i64 ↑nj,.int .i64 ↑i] [sN [.slo 1 0 ni 0,.slo 2 0 nl 0,.slo 3 0 nj 0,.int .i64 ln],sC ax 5,sC bx 4,sC cx 4,sN [.int .i64 0,.int .i64 0,.int .i64 0]] (tab2 rest))):=by kernel_rfl
theorem ai_z (ni nl nj i:Nat) (ln:Int) (ax bx cx:List LV) (rest:Glb) (K:Pk):(xsp prog cxAi 40 41 ((sp prog 48).drop 3) (mkTm 41 (aiT nj i)) (mkS (aiH ni nl nj ln ax bx cx) (tab2 rest)) (vK aiL K))=(
 K .ret [.ptr 0 0,.ptr 4 0,.slo 3 0 nj 0,.int .i64 ↑nj,.int .i64 ↑i] [sN [.slo 1 0 ni 0,.slo 2 0 nl 0,.slo 3 0 nj 0,.int .i64 ln],sC ax 5,sC bx 4,sC cx 4,sN [.int .i64 0,.int .i64 0,.int .i64 0]] (tab2 rest)):=by kernel_rfl
end
end Go.Lev
