import Derived.Test.YtnkkkihgljbllaaDoorCP7
/- text: readIns as a contract; trees of readLine -/
namespace Go.Lev
set_option linter.unusedSimpArgs false
set_option linter.unusedVariables false
open Go.RowKit
open Go.Proofs.Tryd (prog)
set_option maxRecDepth 100000
noncomputable section
def nL (F G:OP):Bool:=@decide (F=G) (Classical.propDecidable _)
theorem Ij {F G:OP} (h:nL F G=true):F=G:=by simpa [nL] using h
theorem Ke {F:OP}:nL F F=true:=by simp [nL]
structure so (F:World→Prop) (u:Value) (ws:List Wd):Prop where
 f:FcW F u ws
 n:ws.length≤5000
 b:∀ x∈ws,1≤x.1.length∧x.1.length≤100000
theorem FcW.i3f {F:World→Prop}:∀ {ws ws':List Wd} {u:Value},FcW F u ws→FcW F u ws'→ws=ws'
 | [],[],u,h,h'=>rfl
 | [],x::r,u,h,h'=>by have:=h.len.symm.trans h'.len; simp at this
 | x::r,[],u,h,h'=>by have:=h.len.symm.trans h'.len; simp at this
 | x::r,y::t,u,h,h'=>by
   have a:=h.head.2.2.1.symm.trans h'.head.2.2.1;simp only [iJ,LV.str.injEq,LV.int.injEq,true_and,kG] at a;rw [show x=y from Prod.ext a.1 a.2,FcW.i3f h.rest.2 h'.rest.2]
def nY (F:World→Prop) (u:Value):Bool:=@decide (∃ ws,so F u ws) (Classical.propDecidable _)
def zJ (F:World→Prop) (u:Value):List Wd:=@dite _ (∃ ws,so F u ws) (Classical.propDecidable _) (fun h=>h.choose) fun _=>[]
theorem AU {F:World→Prop} {u:Value}:nY F u=true↔∃ ws,so F u ws:=by simp only [nY,cu]
theorem AH {F:World→Prop} {u:Value} {ws:List Wd} (h:so F u ws):zJ F u=ws:=by
 have e:∃ ws,so F u ws:=⟨ws,h⟩;unfold zJ;rw [dif_pos e];exact FcW.i3f e.choose_spec.f h.f
def mA (F:World→Prop) (u:Value) (x:ap) (w e ln:Int) (ax cx:al):(Int×Int×Int)×List bL×List bq:=cL x w (zJ F u) e ln (nM ax) (iQ cx)
def rq (F:World→Prop) (u:Value) (x:ap) (w e ln:Int) (ax cx:al):Int:=(mA F u x w e ln ax cx).1.1
def rm (F:World→Prop) (u:Value) (x:ap) (w e ln:Int) (ax cx:al):Int:=(mA F u x w e ln ax cx).1.2.1
def rp (F:World→Prop) (u:Value) (x:ap) (w e ln:Int) (ax cx:al):Int:=(mA F u x w e ln ax cx).1.2.2
def rr (F:World→Prop) (u:Value) (x:ap) (w e ln:Int) (ax cx:al):Nat:=(mA F u x w e ln ax cx).2.1.length
def rl (F:World→Prop) (u:Value) (x:ap) (w e ln:Int) (ax cx:al):al:=aj bI (mA F u x w e ln ax cx).2.1
def rt (F:World→Prop) (u:Value) (x:ap) (w e ln:Int) (ax cx:al):Nat:=(mA F u x w e ln ax cx).2.2.length
def rn (F:World→Prop) (u:Value) (x:ap) (w e ln:Int) (ax cx:al):al:=aj a_ (mA F u x w e ln ax cx).2.2
theorem Pu (x:ap) (w e:Int) (u:Value) (F:World→Prop) (ni nl nj:Nat) (ln:Int) (ax bx cx:al) (rest:aL) (k1:fg ni ax=true) (k2:cr nl bx=true) (k3:cr nj cx=true) (k4:nY F u=true) (k5:ni≤99990) (k6:nj≤99990) :
  a0j prog 61 [.ptr 0 0,.agg [.str x,.z w],.val u,.z e] (ai (dT ni nl nj ln ax bx cx++[.obj bG [.fact F] 5,.dead]) (aN rest)) fun l st=>l=.agg [.z (rq F u x w e ln ax cx),.z (rm F u x w e ln ax cx),.z (rp F u x w e ln ax cx)]∧st=ai (jK (rr F u x w e ln ax cx) nl (rt F u x w e ln ax cx) ln (rl F u x w e ln ax cx) bx (rn F u x w e ln ax cx) F) (aN rest):=by
 obtain⟨I,rfl,rfl,hI⟩:=vQ.1 k1;obtain⟨J,rfl,rfl,hJ⟩:=mR.1 k3;obtain⟨ws,hw⟩:=AU.1 k4;simp only [rq,rm,rp,rr,rl,rt,rn,mA,AH hw,qv,me];exact RM x w e u ws F nl ln bx I J rest hw.f (fun y hy=>(hw.b y hy).2) k5 k6 k2
def B9:Gc:=fun args s=>match args,s.g with
 | [.ptr p 0,.agg [.str x,.int .i64 w],.val u,.int .i64 e],(g0,F0)::(g1,F1)::rest=>cond (Nat.beq g0 0 && aU F0 cj && (Nat.beq g1 2 && aU F1 cK)) (match storeAt s with
   | some d=>(match s.h.get p with
     | some (.cells [.slo a 0 ni 0,.slo b 0 nl 0,.slo c 0 nj 0,.int .i64 ln] none)=>(match s.h.get a with
       | some (.cells ax (some 5))=>(match s.h.get b with
         | some (.cells bx (some 4))=>(match s.h.get c with
           | some (.cells cx (some 4))=>(match s.h.get d with
             | some (.obj F_d [.fact F] z9)=>(match s.h.get z9 with
               | some (.dead)=>cond (gj [p,a,b,c,d,z9]) (match s.lay [p,a,b,c,d,z9] [.cells [.slo s.n 0 (rr F u x w e ln ax cx) 0,.slo b 0 nl 0,.slo (Nat.succ s.n) 0 (rt F u x w e ln ax cx) 0,.int .i64 ln] none,.dead,.cells bx (some 4),.dead,.obj bG [.fact F] z9,.dead] [.cells (rl F u x w e ln ax cx) (some 5),.cells (rn F u x w e ln ax cx) (some 4)] with
                 | some s'=>some ([fg ni ax,cr nl bx,cr nj cx,nY F u,ag ni 99990,ag nj 99990,nL F_d bG],.agg [.z (rq F u x w e ln ax cx),.z (rm F u x w e ln ax cx),.z (rp F u x w e ln ax cx)],s')
                 | none=>none) none
               | _=>none)
             | _=>none)
           | _=>none)
         | _=>none)
       | _=>none)
     | _=>none)
   | none=>none) none
 | _,_=>none
theorem TV:bX prog 61 B9:=by
 intro args s bs l s' hg hb hfr;unfold B9 at hg;split at hg
 ·rename_i p x w u e g0 F0 g1 F1 rest hgl;cases hc:(Nat.beq g0 0 && aU F0 cj && (Nat.beq g1 2 && aU F1 cK)) with
  | false=>exact eZ
  | true =>
    rw [hc] at hg;simp only [aw] at hg;rw [bg] at hc;replace hgl:s.g=aN rest:=by(have c1:=ig.1 hc.1; have c2:=ig.1 hc.2; rw [hgl,bt c1.1,bQ c1.2,bt c2.1,bQ c2.2] <;> rfl)
    split at hg
    ·rename_i d hfd;split at hg
     ·rename_i a ni b nl c nj ln hb0;split at hg
      ·rename_i ax hb1;split at hg
       ·rename_i bx hb2;split at hg
        ·rename_i cx hb3;split at hg
         ·rename_i F_d F z9 hb4;split at hg
          ·rename_i  hb5;cases hbc:gj [p,a,b,c,d,z9] with
           | false=>exact qT
           | true =>
             rw [hbc] at hg;simp only [aw] at hg;split at hg
             ·rename_i s1 hs1;simp only [a8,bn] at hg;obtain⟨rfl,rfl,rfl⟩:=hg;simp only [bv] at hb;obtain⟨k1,k2,k3,k4,k5,k6,k7,_⟩:=hb;have e_d:=Ij k7;subst e_d;have n1:=qy k1; have n2:=jn k2; have n3:=jn k3; have n4:=fW (mA F u x w e ln ax cx).2.1; have n5:=eQ (mA F u x w e ln ax cx).2.2;refine a0j.lay (bs:=[.cells [.slo 1 0 ni 0,.slo 2 0 nl 0,.slo 3 0 nj 0,.z ln] none,.cells ax (some 5),.cells bx (some 4),.cells cx (some 4),.obj bG [.fact F] 5,.dead]) (args0:=[.ptr 0 0,.agg [.str x,.z w],.val u,.z e]) (bs':=[.cells [.slo 6 0 (rr F u x w e ln ax cx) 0,.slo 2 0 nl 0,.slo 7 0 (rt F u x w e ln ax cx) 0,.z ln] none,.dead,.cells bx (some 4),.dead,.obj bG [.fact F] 5,.dead,.cells (rl F u x w e ln ax cx) (some 5),.cells (rn F u x w e ln ax cx) (some 4)]) (v0:=.agg [.z (rq F u x w e ln ax cx),.z (rm F u x w e ln ax cx),.z (rp F u x w e ln ax cx)]) hfr hs1 (pC hbc)
               ⟨⟨df hfr hb0,_,hb0,by first | exact be rfl | exact dF (aV (bC rfl) (aV (bC rfl) (aV (bC rfl) (aV (cH) cA)))) aC,fun κ hκ=>dF (aV (bC (hκ 1 a rfl)) (aV (bC (hκ 2 b rfl)) (aV (bC (hκ 3 c rfl)) (aV (cH) cA)))) aC⟩,⟨df hfr hb1,_,hb1,be bF,fun κ hκ=>be bF⟩,⟨df hfr hb2,_,hb2,be bF,fun κ hκ=>be bF⟩,⟨df hfr hb3,_,hb3,be bF,fun κ hκ=>be bF⟩,⟨df hfr hb4,_,hb4,gx rfl,fun κ hκ=>gx (hκ 5 z9 rfl)⟩,⟨df hfr hb5,_,hb5,eD,fun κ hκ=>eD⟩,trivial⟩ fv ?_
               fun κ h1 h2=>⟨⟨dF (aV (bC (h2 0 aC)) (aV (bC (h1 2 b rfl)) (aV (bC (h2 1 aC)) (aV (cH) cA)))) aC,eD,be bF,eD,gx (h1 5 z9 rfl),eD,be (n4),be (n5),trivial⟩,cY rfl⟩
              rw [hgl]; exact(Pu x w e u F ni nl nj ln ax bx cx rest k1 k2 k3 k4 (eC.1 k5) (eC.1 k6))
             ·cases hg
          ·cases hg
         ·cases hg
        ·cases hg
       ·cases hg
      ·cases hg
     ·cases hg
    ·cases hg
 ·cases hg
def Ha:Cx:=eP [(59,B8),(61,B9)]
abbrev GU:List Nat:=[4]
theorem UZ:cT prog (cv Ha):=fQ ⟨TW,TV,trivial⟩
abbrev EK (nl:Nat) (ln:Int) (ax:al) (bx:al) (cx:al) (F:World→Prop) (v:Value) (e:Int):bE:=[sN [.slo 8 0 (rr F (ci v 2 1) (aK (af (aH F v 0 2) 0)) (ar (af (aH F v 0 2) 1)) e ln ax cx) 0,.slo 2 0 nl 0,.slo 9 0 (rt F (ci v 2 1) (aK (af (aH F v 0 2) 0)) (ar (af (aH F v 0 2) 1)) e ln ax cx) 0,.z ln],sD,sC bx 4,sD,some (.obj bG [.fact F] 5),sD,sN [.val v,.z e],sN [.z (rq F (ci v 2 1) (aK (af (aH F v 0 2) 0)) (ar (af (aH F v 0 2) 1)) e ln ax cx),.z (rm F (ci v 2 1) (aK (af (aH F v 0 2) 0)) (ar (af (aH F v 0 2) 1)) e ln ax cx),.z (rp F (ci v 2 1) (aK (af (aH F v 0 2) 0)) (ar (af (aH F v 0 2) 1)) e ln ax cx)],sC (rl F (ci v 2 1) (aK (af (aH F v 0 2) 0)) (ar (af (aH F v 0 2) 1)) e ln ax cx) 5,sC (rn F (ci v 2 1) (aK (af (aH F v 0 2) 0)) (ar (af (aH F v 0 2) 1)) e ln ax cx) 4]
abbrev Jw (ni:Nat) (nl:Nat) (nj:Nat) (ln:Int) (ax:al) (bx:al) (cx:al) (F:World→Prop) (v:Value) (e:Int):bE:=[sN [.slo 1 0 ni 0,.slo 2 0 nl 0,.slo 3 0 nj 0,.z ln],sC ax 5,sC bx 4,sC cx 4,some (.obj bG [.fact F] 5),sD,sN [.val v,.z e],sN [.z 0,.z 0,.z 0]]
theorem Pz (ni nl nj:Nat) (ln:Int) (ax bx cx:al) (F:World→Prop) (v:Value) (e:Int) (rest:aL) (K:Pk):(bc prog Ha 40 45 ((sp prog 47).drop 0) (cO [.ptr 0 0,.agg [.val v,.z e]]) (ai (dT ni nl nj ln ax bx cx++[.obj bG [.fact F] 5,.dead]) (aN rest)) (vK GU K))=(
 cond (ad .gtr (↑(mw v)) 0) (ck (iE v 0) <|
 ck (ip F v 0 1) <|
 ck (ag 1 (aG (aH F v 0 1))) <|
 ck (cW (af (aH F v 0 1) 0)) <|
 ck (b9 (au .sub .i64 (↑(am (aK (af (aH F v 0 1) 0)))) 1)) <|
 ck (ag (aa (ae (au .sub .i64 (↑(am (aK (af (aH F v 0 1) 0)))) 1)) 1) (am (aK (af (aH F v 0 1) 0)))) <|
 cond (ad .eql (bz (aK (af (aH F v 0 1) 0)) (ae (au .sub .i64 (↑(am (aK (af (aH F v 0 1) 0)))) 1))) 58) (ck (iE v 0) <|
 ck (ip F v 0 2) <|
 ck (ag 2 (aG (aH F v 0 2))) <|
 ck (cW (af (aH F v 0 2) 0)) <|
 ck (a7 .i64 (af (aH F v 0 2) 1)) <|
 ck (fg ni ax) <|
 ck (cr nl bx) <|
 ck (cr nj cx) <|
 ck (ag 1 (am (aK (af (aH F v 0 2) 0)))) <|
 ck (ag (am (aK (af (aH F v 0 2) 0))) 100000) <|
 cond (bu (gD bx (aK (af (aH F v 0 2) 0)))) (ck (iE v 0) <|
 ck (ip F v 1 1) <|
 ck (ag 1 (aG (aH F v 1 1))) <|
 ck (a7 .i64 (af (aH F v 1 1) 0)) <|
 K .ret [.ptr 7 0] [sN [.slo 1 0 ni 0,.slo 8 0 (kM nl bx (aK (af (aH F v 0 2) 0))) 0,.slo 3 0 nj 0,.z ln],sC ax 5,sD,sC cx 4,some (.obj bG [.fact F] 5),sD,sN [.val v,.z e],sN [.z ln,.z (ar (af (aH F v 1 1) 0)),.z 12],sC (jJ bx (aK (af (aH F v 0 2) 0)) ni) 4,sN [.z ln,.z (ar (af (aH F v 1 1) 0)),.z 12]] (aN rest)) (ck (mG v 1) <|
 cond (ad .eql (↑(mw (ci v 2 1))) 0) (K .ret [.ptr 7 0] [sN [.slo 1 0 ni 0,.slo 8 0 (kM nl bx (aK (af (aH F v 0 2) 0))) 0,.slo 3 0 nj 0,.z ln],sC ax 5,sD,sC cx 4,some (.obj bG [.fact F] 5),sD,sN [.val v,.z e],sN [.z 0,.z 0,.z 0],sC (jJ bx (aK (af (aH F v 0 2) 0)) ni) 4] (aN rest)) (ck (iE (ci v 2 1) 0) <|
 ck (ip F (ci v 2 1) 0 2) <|
 ck (ag 2 (aG (aH F (ci v 2 1) 0 2))) <|
 ck (cW (af (aH F (ci v 2 1) 0 2) 0)) <|
 ck (a7 .i64 (af (aH F (ci v 2 1) 0 2) 1)) <|
 ck (mG (ci v 2 1) 1) <|
 ck (fg ni ax) <|
 ck (cr (kM nl bx (aK (af (aH F v 0 2) 0))) (jJ bx (aK (af (aH F v 0 2) 0)) ni)) <|
 ck (cr nj cx) <|
 ck (nY F (ci (ci v 2 1) 2 1)) <|
 ck (ag ni 99990) <|
 ck (ag nj 99990) <|
 ck (nL bG bG) <|
 K .ret [.ptr 7 0] [sN [.slo 9 0 (rr F (ci (ci v 2 1) 2 1) (aK (af (aH F (ci v 2 1) 0 2) 0)) (ar (af (aH F (ci v 2 1) 0 2) 1)) e ln ax cx) 0,.slo 8 0 (kM nl bx (aK (af (aH F v 0 2) 0))) 0,.slo 10 0 (rt F (ci (ci v 2 1) 2 1) (aK (af (aH F (ci v 2 1) 0 2) 0)) (ar (af (aH F (ci v 2 1) 0 2) 1)) e ln ax cx) 0,.z ln],sD,sD,sD,some (.obj bG [.fact F] 5),sD,sN [.val v,.z e],sN [.z (rq F (ci (ci v 2 1) 2 1) (aK (af (aH F (ci v 2 1) 0 2) 0)) (ar (af (aH F (ci v 2 1) 0 2) 1)) e ln ax cx),.z (rm F (ci (ci v 2 1) 2 1) (aK (af (aH F (ci v 2 1) 0 2) 0)) (ar (af (aH F (ci v 2 1) 0 2) 1)) e ln ax cx),.z (rp F (ci (ci v 2 1) 2 1) (aK (af (aH F (ci v 2 1) 0 2) 0)) (ar (af (aH F (ci v 2 1) 0 2) 1)) e ln ax cx)],sC (jJ bx (aK (af (aH F v 0 2) 0)) ni) 4,sC (rl F (ci (ci v 2 1) 2 1) (aK (af (aH F (ci v 2 1) 0 2) 0)) (ar (af (aH F (ci v 2 1) 0 2) 1)) e ln ax cx) 5,sC (rn F (ci (ci v 2 1) 2 1) (aK (af (aH F (ci v 2 1) 0 2) 0)) (ar (af (aH F (ci v 2 1) 0 2) 1)) e ln ax cx) 4] (aN rest)))) (cond (ad .eql (↑(mw v)) 0) (K .ret [.ptr 7 0] (Jw ni nl nj ln ax bx cx F v e) (aN rest)) (ck (iE v 0) <|
 ck (ip F v 0 2) <|
 ck (ag 2 (aG (aH F v 0 2))) <|
 ck (cW (af (aH F v 0 2) 0)) <|
 ck (a7 .i64 (af (aH F v 0 2) 1)) <|
 ck (mG v 1) <|
 ck (fg ni ax) <|
 ck (cr nl bx) <|
 ck (cr nj cx) <|
 ck (nY F (ci v 2 1)) <|
 ck (ag ni 99990) <|
 ck (ag nj 99990) <|
 ck (nL bG bG) <|
 K .ret [.ptr 7 0] (EK nl ln ax bx cx F v e) (aN rest)))) (cond (ad .eql (↑(mw v)) 0) (K .ret [.ptr 7 0] (Jw ni nl nj ln ax bx cx F v e) (aN rest)) (ck (iE v 0) <|
 ck (ip F v 0 2) <|
 ck (ag 2 (aG (aH F v 0 2))) <|
 ck (cW (af (aH F v 0 2) 0)) <|
 ck (a7 .i64 (af (aH F v 0 2) 1)) <|
 ck (mG v 1) <|
 ck (fg ni ax) <|
 ck (cr nl bx) <|
 ck (cr nj cx) <|
 ck (nY F (ci v 2 1)) <|
 ck (ag ni 99990) <|
 ck (ag nj 99990) <|
 ck (nL bG bG) <|
 K .ret [.ptr 7 0] (EK nl ln ax bx cx F v e) (aN rest)))):=ak
def nH (x:ap):Bool:=ad .eql (bz x (x.length - 1)) 58
def cQ (L:ic) (ln:Int) (I:List bL) (B J:List bq):(Int×Int×Int)×List bL×List bq×List bq :=
 match L.ws with
 | []=>((0,0,0),I,B,J)
 | v::ws=>if nH v.1 then
    if gD (aj a_ B) v.1=false then((ln,v.2,12),I,B,J)
    else match ws with
     | []=>((0,0,0),I,B++[⟨cP v.1,I.length,0,0⟩],J)
     | v2::ws2=>((cL v2.1 v2.2 ws2 L.e ln I J).1,(cL v2.1 v2.2 ws2 L.e ln I J).2.1,B++[⟨cP v.1,I.length,0,0⟩],(cL v2.1 v2.2 ws2 L.e ln I J).2.2)
   else((cL v.1 v.2 ws L.e ln I J).1,(cL v.1 v.2 ws L.e ln I J).2.1,B,(cL v.1 v.2 ws L.e ln I J).2.2)
abbrev qV (ni nl nj:Nat) (ln:Int) (ax bx cx:al) (F:World→Prop):a9:=[.cells [.slo 6 0 ni 0,.slo 7 0 nl 0,.slo 8 0 nj 0,.z ln] none,.dead,.dead,.dead,.obj bG [.fact F] 5,.dead,.cells ax (some 5),.cells bx (some 4),.cells cx (some 4)]
theorem TY (B:List bq) (x:ap) (ni:Nat) (h:gD (aj a_ B) x=true):jJ (aj a_ B) x ni=aj a_ (B++[⟨cP x,ni,0,0⟩])∧kM B.length (aj a_ B) x=(B++[(⟨cP x,ni,0,0⟩:bq)]).length:=by
 unfold jJ kM;rw [h,g9];exact⟨rfl,aC⟩
theorem Vv (B:List bq) (x:ap) (ni:Nat) (h:gD (aj a_ B) x=false):jJ (aj a_ B) x ni=aj a_ B∧kM B.length (aj a_ B) x=B.length:=by
 unfold jJ kM;rw [h];exact⟨rfl,rfl⟩
set_option maxHeartbeats 8000000 in
theorem RP (F:World→Prop) (v:Value) (L:ic) (ln:Int) (I:List bL) (B J:List bq) (rest:aL) (hf:so F v L.ws) (hI:I.length≤99980) (hB:B.length≤99980) (hJ:J.length≤99980) :
  a0j prog 47 [.ptr 0 0,.agg [.val v,.z L.e]] (ai (dT I.length B.length J.length ln (aj bI I) (aj a_ B) (aj a_ J)++[.obj bG [.fact F] 5,.dead]) (aN rest)) fun l st=>l=dB (cQ L ln I B J).1∧st=ai (qV (cQ L ln I B J).2.1.length (cQ L ln I B J).2.2.1.length (cQ L ln I B J).2.2.2.length ln (aj bI (cQ L ln I B J).2.1) (aj a_ (cQ L ln I B J).2.2.1) (aj a_ (cQ L ln I B J).2.2.2) F) (aN rest):=by
 obtain⟨z,hz⟩:∃ z,z=cQ L ln I B J:=⟨_,rfl⟩;rw [← hz];refine a0j.mono (a0j.i4e (Q:=fun l b=>l=dB z.1∧b=qV z.2.1.length z.2.2.1.length z.2.2.2.length ln (aj bI z.2.1) (aj a_ z.2.2.1) (aj a_ z.2.2.2) F) 45 6 4 77 GU ak rfl rfl rfl ?_) fun l s' ⟨b0,⟨h1,h2⟩,h3⟩=>⟨h1,by rw [h3,h2]⟩
 refine SSp.vc UZ (n:=40) (aS rfl) ?_;rw [Pz]; simp only [EK];have na:=fW I; have nb:=eQ B; have nc:=eQ J;have k1:fg I.length (aj bI I)=true:=AQ ab;have k2:cr B.length (aj a_ B)=true:=pw ab;have k3:cr J.length (aj a_ J)=true:=pw ab;have wS:∀ y,aK (.str y)=y:=fun _=>rfl
 have wB:∀ y,cW (.str y)=true:=fun _=>rfl
 have w0:∀ (a b:LV),af [a,b] 0=a:=fun _ _=>rfl
 have w1:∀ (a b:LV),af [a,b] 1=b:=fun _ _=>rfl
 have w2:∀ (a:LV),af [a] 0=a:=fun _=>rfl
 have l2:∀ (a b:LV),aG [a,b]=2:=fun _ _=>rfl
 have l1:∀ (a:LV),aG [a]=1:=fun _=>rfl
 have z1:ag 1 1=true:=rfl;have z2:ag 2 2=true:=rfl;have i9:ag I.length 99990=true:=aO ab;have j9:ag J.length 99990=true:=aO ab;have fs:nL bG bG=true:=Ke;obtain⟨ws,le⟩:=L;obtain⟨hfc,hn,hb⟩:=hf;dsimp only at hfc hn hb hz ⊢;have ins:∀ (u:Value) (y:Wd) (t:List Wd),FcW F u (y::t)→(∀ a∈(y::t),1≤a.1.length∧a.1.length≤100000)→(y::t).length≤5000→nY F (ci u 2 1)=true∧mA F (ci u 2 1) y.1 y.2 le ln (aj bI I) (aj a_ J)=cL y.1 y.2 t le ln I J:=fun u y t h1 h2 h3=>by
  have hw:so F (ci u 2 1) t:=⟨h1.rest.2,by simp at h3; omega,fun a ha=>h2 a (by simp [ha])⟩;exact⟨AU.2 ⟨t,hw⟩,by rw [mA,AH hw,qv,me]⟩
 cases ws with
 | nil =>
   have hl:=hfc.len;simp only [cQ] at hz;subst hz;simp only [hl,eU,show ad .gtr ((0:Nat):Int) 0=false from ia (Int.le_refl _),show ad .eql ((0:Nat):Int) 0=true from cD rfl,aw,aD];exact⟨trivial,rfl,7,_,_,dB (0,0,0),dB (0,0,0),qV I.length B.length J.length ln (aj bI I) (aj a_ B) (aj a_ J) F,[.id 0,.id 1,.id 2,.id 3,.id 4,.id 5,.id 1,.id 2,.id 3],rfl,rfl,ak,⟨rfl,rfl⟩,by(exact zC)⟩
 | cons x ws =>
   have hl:=hfc.len;obtain⟨c1,c2,c3,c4,c5,c6,c7⟩:=hfc.head;obtain⟨r1,r2⟩:=hfc.rest;obtain⟨hx1,hx2⟩:=hb x aC;have e1:au .sub .i64 ((am x.1:Nat):Int) 1=((x.1.length - 1:Nat):Int):=by
    show au .sub .i64 ((x.1.length:Nat):Int) 1=_;rw [rV (show _≤((x.1.length:Nat):Int) - 1 by omega) (show((x.1.length:Nat):Int) - 1≤_ by omega)]; omega
   have b1:ag (x.1.length - 1+1) (am x.1)=true:=aO (show x.1.length - 1+1≤x.1.length by omega);have b2:ag 1 (am x.1)=true:=aO hx1;have b3:ag (am x.1) 100000=true:=aO hx2;simp only [hl,c1,c6,c7,w2,l1,z1,wS,wB,e1,ct,eA,bP,b1,show ad .gtr (((x::ws).length:Nat):Int) 0=true from iR (by first | (simp; done) | (simp; omega)),show ad .eql (((x::ws).length:Nat):Int) 0=false from cF ke,aw,aD];cases hi:nH x.1 with
   | true =>
     simp only [show ad .eql (bz x.1 (x.1.length - 1)) 58=true from hi,aw];simp only [cQ,hi,eR] at hz;simp only [c2,c3,c4,c5,r1,w0,w1,w2,l1,l2,z1,z2,wS,wB,cf,cz,bD,k1,k2,k3,b2,b3,aw];cases hq:gD (aj a_ B) x.1 with
     | false =>
       rw [aB hq] at hz;obtain⟨q1,q2⟩:=Vv B x.1 I.length hq;simp only [show bu false=true from rfl,q1,q2,aw];subst hz;exact⟨trivial,rfl,7,_,_,dB (ln,x.2,12),dB (ln,x.2,12),qV I.length B.length J.length ln (aj bI I) (aj a_ B) (aj a_ J) F,[.id 0,.id 1,.id 2,.id 3,.id 4,.id 5,.id 1,.id 8,.id 3],rfl,rfl,ak,⟨rfl,rfl⟩,by(exact zC)⟩
     | true =>
       rw [av (by rw [hq]; simp)] at hz;obtain⟨q1,q2⟩:=TY B x.1 I.length hq;have nb2:=eQ (B++[⟨cP x.1,I.length,0,0⟩]);have k4:cr (B++[(⟨cP x.1,I.length,0,0⟩:bq)]).length (aj a_ (B++[⟨cP x.1,I.length,0,0⟩]))=true:=pw ke;simp only [show bu true=false from rfl,q1,q2,aD];have hl2:=r2.len;cases ws with
       | nil =>
         simp only [hl2,eU,show ad .eql ((0:Nat):Int) 0=true from cD rfl,aw];dsimp only at hz;subst hz;exact⟨trivial,rfl,7,_,_,dB (0,0,0),dB (0,0,0),qV I.length (B++[(⟨cP x.1,I.length,0,0⟩:bq)]).length J.length ln (aj bI I) (aj a_ (B++[⟨cP x.1,I.length,0,0⟩])) (aj a_ J) F,[.id 0,.id 1,.id 2,.id 3,.id 4,.id 5,.id 1,.id 8,.id 3],rfl,rfl,ak,⟨rfl,rfl⟩,by(exact zC)⟩
       | cons y t =>
         obtain⟨d1,d2,d3,d4,d5,d6,d7⟩:=r2.head;obtain⟨s1,s2⟩:=r2.rest;obtain⟨i1,i2⟩:=ins (ci v 2 1) y t r2 (fun a ha=>hb a (by simp at ha ⊢; right; exact ha)) (by simp at hn ⊢; omega);have n4:=fW (cL y.1 y.2 t le ln I J).2.1; have n5:=eQ (cL y.1 y.2 t le ln I J).2.2;simp only [hl2,show ad .eql (((y::t).length:Nat):Int) 0=false from cF ke,d1,d2,d3,s1,w0,w1,l2,z2,wS,wB,cf,cz,bD,k1,k3,k4,i1,i9,j9,fs,rq,rm,rp,rr,rl,rt,rn,i2,aw,aD];dsimp only at hz;subst hz;exact⟨trivial,rfl,7,_,_,dB (cL y.1 y.2 t le ln I J).1,dB (cL y.1 y.2 t le ln I J).1,qV (cL y.1 y.2 t le ln I J).2.1.length (B++[(⟨cP x.1,I.length,0,0⟩:bq)]).length (cL y.1 y.2 t le ln I J).2.2.length ln (aj bI (cL y.1 y.2 t le ln I J).2.1) (aj a_ (B++[⟨cP x.1,I.length,0,0⟩])) (aj a_ (cL y.1 y.2 t le ln I J).2.2) F,[.id 0,.id 1,.id 2,.id 3,.id 4,.id 5,.id 9,.id 8,.id 10],rfl,rfl,ak,⟨rfl,rfl⟩,by(exact zC)⟩
   | false =>
     simp only [show ad .eql (bz x.1 (x.1.length - 1)) 58=false from hi,aD];simp only [cQ,hi,gd,dn] at hz;obtain⟨i1,i2⟩:=ins v x ws hfc hb hn;have n4:=fW (cL x.1 x.2 ws le ln I J).2.1; have n5:=eQ (cL x.1 x.2 ws le ln I J).2.2;simp only [c2,c3,r1,w0,w1,l2,z2,wS,wB,cf,cz,bD,k1,k2,k3,i1,i9,j9,fs,rq,rm,rp,rr,rl,rt,rn,i2,aw,aD];subst hz;exact⟨trivial,rfl,7,_,_,dB (cL x.1 x.2 ws le ln I J).1,dB (cL x.1 x.2 ws le ln I J).1,qV (cL x.1 x.2 ws le ln I J).2.1.length B.length (cL x.1 x.2 ws le ln I J).2.2.length ln (aj bI (cL x.1 x.2 ws le ln I J).2.1) (aj a_ B) (aj a_ (cL x.1 x.2 ws le ln I J).2.2) F,[.id 0,.id 1,.id 2,.id 3,.id 4,.id 5,.id 8,.id 2,.id 9],rfl,rfl,ak,⟨rfl,rfl⟩,by(exact zC)⟩
def o7 (I:List bL) (n:Nat) (pl:Int):List bL:=match I[n]? with
 | some x=>I.set n { x with c:=pl }
 | none=>I
theorem Fj (I:List bL) (n:Nat) (pl:Int):(o7 I n pl).length=I.length:=by unfold o7; split <;> simp
theorem Kt {I:List bL} {n:Nat} {pl:Int} (h:n < I.length):gt (aj bI I) (n * 5+3) [.z pl]=aj bI (o7 I n pl):=by
 unfold o7;rw [cq h];exact Wq I6 (y:={ I[n] with c:=pl }) h (j:=3) ab rfl
def gg (B:List bq):List bq→List bL→(Int×Int×Int)×List bL
 | [],I=>((0,0,0),I)
 | j::r,I=>match eY B j.nm with
   | none=>((j.ln,j.cl,12),I)
   | some pl=>gg B r (o7 I j.pl.toNat pl)
def pE (I:List bL) (J:List bq):Prop:=∀ j∈J,0≤j.pl∧j.pl < (I.length:Int)
theorem KH {B L:List bq} {I:List bL} {i:Nat} (h:i < L.length):gg B (L.drop i) I=match eY B L[i].nm with
  | none=>((L[i].ln,L[i].cl,12),I)
  | some pl=>gg B (L.drop (i+1)) (o7 I L[i].pl.toNat pl):=by
 rw [jG h]; rfl
def zn:Cx:=eP [(62,zU)]
abbrev Bd:List Nat:=[0,2,10,11,12]
abbrev yB (nj i:Nat):List (Nat×LV):=[(0,.ptr 0 0),(2,.ptr 4 0),(10,.slo 3 0 nj 0),(11,.z nj),(12,.z i)]
abbrev yC (ni nl nj:Nat) (ln:Int) (ax bx cx:al):a9:=dT ni nl nj ln ax bx cx++[.cells [.z 0,.z 0,.z 0] none]
theorem Eo:cT prog (cv zn):=fQ ⟨Ka,trivial⟩
theorem M3 (ni nl nj:Nat) (ln:Int) (ax bx cx:al) (rest:aL) (K:Pk):(bc prog zn 40 41 (bS (sp prog 48) 0 2) (cO [.ptr 0 0]) (ai (dT ni nl nj ln ax bx cx) (aN rest)) (vK Bd K))=(
 K .normal [.ptr 0 0,.ptr 4 0,.slo 3 0 nj 0,.z ↑nj,.z 0] [sN [.slo 1 0 ni 0,.slo 2 0 nl 0,.slo 3 0 nj 0,.z ln],sC ax 5,sC bx 4,sC cx 4,sN [.z 0,.z 0,.z 0]] (aN rest)):=ak
theorem M5 (ni nl nj i:Nat) (ln:Int) (ax bx cx:al) (rest:aL) (K:Pk):(aX prog zn 40 41 (ce (bi (sp prog 48) 2)) (aF 41 (yB nj i)) (ai (yC ni nl nj ln ax bx cx) (aN rest)) (vK Bd K))=(
 cond (ad .lss ↑i ↑nj) (ck (ag (aa (ae ↑i) 1) nj) <|
 ck (ag (aa (ah 0 (ae ↑i) 4) 4) (aG cx)) <|
 ck (cW (af cx (ah 0 (ae ↑i) 4))) <|
 ck (a7 .i64 (af cx (aa (ah 0 (ae ↑i) 4) 1))) <|
 ck (a7 .i64 (af cx (aa (aa (ah 0 (ae ↑i) 4) 1) 1))) <|
 ck (a7 .i64 (af cx (aa (aa (aa (ah 0 (ae ↑i) 4) 1) 1) 1))) <|
 ck (fg ni ax) <|
 ck (cr nl bx) <|
 ck (cr nj cx) <|
 cond (bu (nS bx (aK (af cx (ah 0 (ae ↑i) 4))))) (K .ret [.ptr 0 0,.ptr 4 0,.slo 3 0 nj 0,.z ↑nj,.z ↑i] [sN [.slo 1 0 ni 0,.slo 2 0 nl 0,.slo 3 0 nj 0,.z ln],sC ax 5,sC bx 4,sC cx 4,sN [.z (ar (af cx (aa (aa (ah 0 (ae ↑i) 4) 1) 1))),.z (ar (af cx (aa (aa (aa (ah 0 (ae ↑i) 4) 1) 1) 1))),.z 12],sN [.str (aK (af cx (ah 0 (ae ↑i) 4))),.z (ar (af cx (aa (ah 0 (ae ↑i) 4) 1))),.z (ar (af cx (aa (aa (ah 0 (ae ↑i) 4) 1) 1))),.z (ar (af cx (aa (aa (aa (ah 0 (ae ↑i) 4) 1) 1) 1)))]] (aN rest)) (ck (b9 (ar (af cx (aa (ah 0 (ae ↑i) 4) 1)))) <|
 ck (ag (aa (ae (ar (af cx (aa (ah 0 (ae ↑i) 4) 1)))) 1) ni) <|
 ck (ag (aa (aa (ah 0 (ae (ar (af cx (aa (ah 0 (ae ↑i) 4) 1)))) 5) 3) 1) (aG ax)) <|
 K .normal [.ptr 0 0,.ptr 4 0,.slo 3 0 nj 0,.z ↑nj,.z (au .add .i64 (↑i) 1)] [sN [.slo 1 0 ni 0,.slo 2 0 nl 0,.slo 3 0 nj 0,.z ln],sC (gt ax (aa (ah 0 (ae (ar (af cx (aa (ah 0 (ae ↑i) 4) 1)))) 5) 3) [.z (sV bx (aK (af cx (ah 0 (ae ↑i) 4))))]) 5,sC bx 4,sC cx 4,sN [.z 0,.z 0,.z 0],sN [.str (aK (af cx (ah 0 (ae ↑i) 4))),.z (ar (af cx (aa (ah 0 (ae ↑i) 4) 1))),.z (ar (af cx (aa (aa (ah 0 (ae ↑i) 4) 1) 1))),.z (ar (af cx (aa (aa (aa (ah 0 (ae ↑i) 4) 1) 1) 1)))]] (aN rest))) (K (.exit 0) [.ptr 0 0,.ptr 4 0,.slo 3 0 nj 0,.z ↑nj,.z ↑i] [sN [.slo 1 0 ni 0,.slo 2 0 nl 0,.slo 3 0 nj 0,.z ln],sC ax 5,sC bx 4,sC cx 4,sN [.z 0,.z 0,.z 0]] (aN rest))):=ak
theorem M6 (ni nl nj i:Nat) (ln:Int) (ax bx cx:al) (rest:aL) (K:Pk):(bc prog zn 40 41 ((sp prog 48).drop 3) (aF 41 (yB nj i)) (ai (yC ni nl nj ln ax bx cx) (aN rest)) (vK Bd K))=(
 K .ret [.ptr 0 0,.ptr 4 0,.slo 3 0 nj 0,.z ↑nj,.z ↑i] [sN [.slo 1 0 ni 0,.slo 2 0 nl 0,.slo 3 0 nj 0,.z ln],sC ax 5,sC bx 4,sC cx 4,sN [.z 0,.z 0,.z 0]] (aN rest)):=ak
end
end Go.Lev
