import Derived.Test.YtnkkkihgljbllaaDoorCV4
import Derived.Test.YtnkkkihgljbllaaDoorCPA
/- text: aim, readLine, split as contracts; trees of read -/
namespace Go.Lev
set_option linter.unusedSimpArgs false
set_option linter.unusedVariables false
open Go.RowKit
open Go.Proofs.Tryd (prog)
set_option maxRecDepth 100000
noncomputable section
set_option maxHeartbeats 4000000 in
theorem P7 (I:List bL) (B J:List bq) (ln:Int) (rest:aL) (hI:I.length≤100000) (hB:B.length≤100000) (hJ:J.length≤100000) (hP:pE I J) :
  a0j prog 48 [.ptr 0 0] (ai (dT I.length B.length J.length ln (aj bI I) (aj a_ B) (aj a_ J)) (aN rest)) fun l st=>l=dB (gg B J I).1∧st=ai (dT I.length B.length J.length ln (aj bI (gg B J I).2) (aj a_ B) (aj a_ J)) (aN rest):=by
 obtain⟨z,hz⟩:∃ z,z=gg B J I:=⟨_,rfl⟩;rw [← hz];refine a0j.mono (a0j.i4e (Q:=fun l b=>l=dB z.1∧b=dT I.length B.length J.length ln (aj bI z.2) (aj a_ B) (aj a_ J)) 41 4 2 77 Bd ak rfl rfl rfl ?_) fun l s' ⟨b0,⟨h1,h2⟩,h3⟩=>⟨h1,by rw [h3,h2]⟩
 have k2:cr B.length (aj a_ B)=true:=pw hB;have k3:cr J.length (aj a_ J)=true:=pw hJ;have nb:=eQ B; have nc:=eQ J; have na:=fW I; have lc:=zu J;have g0:=fun {i:Nat} (h:i < J.length)=>Hl h
 have g1:=fun {i:Nat} (h:i < J.length)=>Hm h
 have g2:=fun {i:Nat} (h:i < J.length)=>Hn h
 have g3:=fun {i:Nat} (h:i < J.length)=>Ho h
 have fe:∀ x,sV (aj a_ B) x=(eY B x).getD 0∧nS (aj a_ B) x=(eY B x).isSome:=fun x=>by unfold sV nS; rw [me]; exact⟨rfl,rfl⟩
 generalize aj a_ J=cx at *;generalize aj a_ B=bx at *;refine SSp.to Eo (n:=40) (g:=aN rest) 2 2 rfl (σ:=Unit) (fun _=>yB J.length 0) (fun _=>yC I.length B.length J.length ln (aj bI I) bx cx) (bh (aS rfl)) ak ?_ fun _=>?_
 ·rw [M3]; exact⟨rfl,(),[.id 0,.id 1,.id 2,.id 3,.id 4],by(exact zC)⟩
 refine SSp.code_to (g:=aN rest) 3 rfl (σ:={X:List bL // ((0,0,0),X)=z}) (fun _=>yB J.length J.length) (fun X=>yC I.length B.length J.length ln (aj bI X.1) bx cx) ak ?_ fun⟨X,hX⟩=>?_
 ·refine a0n.i3g Eo (n:=40) (n0:=4) 0 ak (σ:={p:Nat×List bL // p.1≤J.length∧p.2.length=I.length∧gg B (J.drop p.1) p.2=z}) (fun p=>yB J.length p.1.1) (fun p=>yC I.length B.length J.length ln (aj bI p.1.2) bx cx) (fun p=>J.length - p.1.1) (fun _=>aS rfl) (fun⟨⟨i,X⟩,hi,hx,hR⟩=>?_) ⟨(0,I),bk _,rfl,hz.symm⟩;dsimp only at hi hx hR ⊢;rw [M5];have nx:=fW X; have lx:=w6 X;have k1:fg I.length (aj bI X)=true:=vQ.2 ⟨X,rfl,hx,hI⟩;by_cases h:i < J.length
  ·have wS:∀ y,aK (.str y)=y:=fun _=>rfl
   have wB:∀ y,cW (.str y)=true:=fun _=>rfl
   have v0:=g0 h; have v1:=g1 h; have v2:=g2 h; have v3:=g3 h;have hM:=hR;rw [KH h] at hM;obtain⟨p0,p1⟩:=hP J[i] (iw h);have x0:ag (i+1) J.length=true:=aO ab;have x1:ag (i * 4+4) (J.length * 4)=true:=aO ab;have e3:au .add .i64 (i:Int) 1=((i+1:Nat):Int):=kE h ab;have q1:i * 4+1+1=i * 4+2:=ab;have q2:i * 4+2+1=i * 4+3:=ab;obtain⟨f1,f2⟩:=fe J[i].nm;have pn:ae J[i].pl=J[i].pl.toNat:=rfl;have pl:J[i].pl.toNat < X.length:=ab;simp only [show ad .lss ((i:Nat):Int) ((J.length:Nat):Int)=true from ga ab,ct,cC,bP,cm,b_,bV,lc,lx,q1,q2,x0,x1,v0,v1,v2,v3,e3,cf,cz,wS,wB,f1,f2,k1,k2,k3,pn,show b9 J[i].pl=true from qH.2 p0,show ag (J[i].pl.toNat+1) I.length=true from aO ab,show ag (J[i].pl.toNat * 5+3+1) (X.length * 5)=true from aO ab,bD,aw];cases hf:eY B J[i].nm with
   | none =>
     rw [hf] at hM;dsimp only at hM;simp only [Option.isSome_none,show bu false=true from rfl,aw];refine⟨trivial,rfl,4,_,_,dB (J[i].ln,J[i].cl,12),dB (J[i].ln,J[i].cl,12),dT I.length B.length J.length ln (aj bI X) bx cx,[.id 0,.id 1,.id 2,.id 3],rfl,rfl,ak,⟨by rw [← hM],by rw [← hM]⟩,by(exact zC)⟩
   | some pp =>
     rw [hf] at hM;dsimp only at hM;have ec:=Kt (pl:=pp) pl;have ns:=fW (o7 X J[i].pl.toNat pp);simp only [Option.isSome_some,Option.getD_some,show bu true=false from rfl,ec,aD];exact⟨rfl,⟨(i+1,o7 X J[i].pl.toNat pp),ab,by rw [Fj]; exact hx,hM⟩,by dsimp only; omega,[.id 0,.id 1,.id 2,.id 3,.id 4],by(exact zC)⟩
  ·simp only [show ad .lss ((i:Nat):Int) ((J.length:Nat):Int)=false from f_ ab,aD];have ei:i=J.length:=ab;have hM:=hR;rw [ei,List.drop_length] at hM;subst ei;exact⟨rfl,⟨X,hM⟩,[.id 0,.id 1,.id 2,.id 3,.id 4],by(exact zC)⟩
 dsimp only at hX ⊢;have nx:=fW X;refine SSp.last Eo (n:=40) (bh (aS rfl)) ?_;rw [M6];exact⟨trivial,rfl,4,_,_,dB (0,0,0),dB (0,0,0),dT I.length B.length J.length ln (aj bI X) bx cx,[.id 0,.id 1,.id 2,.id 3],rfl,rfl,ak,⟨by rw [← hX],by rw [← hX]⟩,by(exact zC)⟩
def um (ax cx:al):Bool:=@decide (pE (nM ax) (iQ cx)) (Classical.propDecidable _)
def uA (ax bx cx:al):Int:=(gg (iQ bx) (iQ cx) (nM ax)).1.1
def uy (ax bx cx:al):Int:=(gg (iQ bx) (iQ cx) (nM ax)).1.2.1
def uz (ax bx cx:al):Int:=(gg (iQ bx) (iQ cx) (nM ax)).1.2.2
def ux (ax bx cx:al):al:=aj bI (gg (iQ bx) (iQ cx) (nM ax)).2
theorem M4 (ni nl nj:Nat) (ln:Int) (ax bx cx:al) (rest:aL) (k1:fg ni ax=true) (k2:cr nl bx=true) (k3:cr nj cx=true) (k4:um ax cx=true) :
  a0j prog 48 [.ptr 0 0] (ai (dT ni nl nj ln ax bx cx) (aN rest)) fun l st=>l=.agg [.z (uA ax bx cx),.z (uy ax bx cx),.z (uz ax bx cx)]∧st=ai (dT ni nl nj ln (ux ax bx cx) bx cx) (aN rest):=by
 obtain⟨I,rfl,rfl,hI⟩:=vQ.1 k1;obtain⟨B,rfl,rfl,hB⟩:=mR.1 k2;obtain⟨J,rfl,rfl,hJ⟩:=mR.1 k3;simp only [um,cu,qv,me] at k4;simp only [uA,uy,uz,ux,qv,me];exact P7 I B J ln rest hI hB hJ k4
def F6:Gc:=fun args s=>match args,s.g with
 | [.ptr p 0],(g0,F0)::(g1,F1)::rest=>cond (Nat.beq g0 0 && aU F0 cj && (Nat.beq g1 2 && aU F1 cK)) (match s.h.get p with
   | some (.cells [.slo a 0 ni 0,.slo b 0 nl 0,.slo c 0 nj 0,.int .i64 ln] none)=>(match s.h.get a with
     | some (.cells ax (some 5))=>(match s.h.get b with
       | some (.cells bx (some 4))=>(match s.h.get c with
         | some (.cells cx (some 4))=>cond (gj [p,a,b,c]) (match s.lay [p,a,b,c] [.cells [.slo a 0 ni 0,.slo b 0 nl 0,.slo c 0 nj 0,.int .i64 ln] none,.cells (ux ax bx cx) (some 5),.cells bx (some 4),.cells cx (some 4)] [] with
           | some s'=>some ([fg ni ax,cr nl bx,cr nj cx,um ax cx],.agg [.z (uA ax bx cx),.z (uy ax bx cx),.z (uz ax bx cx)],s')
           | none=>none) none
         | _=>none)
       | _=>none)
     | _=>none)
   | _=>none) none
 | _,_=>none
theorem R9:bX prog 48 F6:=by
 intro args s bs l s' hg hb hfr;unfold F6 at hg;split at hg
 ·rename_i p g0 F0 g1 F1 rest hgl;cases hc:(Nat.beq g0 0 && aU F0 cj && (Nat.beq g1 2 && aU F1 cK)) with
  | false=>exact eZ
  | true =>
    rw [hc] at hg;simp only [aw] at hg;rw [bg] at hc;replace hgl:s.g=aN rest:=by(have c1:=ig.1 hc.1; have c2:=ig.1 hc.2; rw [hgl,bt c1.1,bQ c1.2,bt c2.1,bQ c2.2] <;> rfl)
    split at hg
    ·rename_i a ni b nl c nj ln hb0;split at hg
     ·rename_i ax hb1;split at hg
      ·rename_i bx hb2;split at hg
       ·rename_i cx hb3;cases hbc:gj [p,a,b,c] with
        | false=>exact qT
        | true =>
          rw [hbc] at hg;simp only [aw] at hg;split at hg
          ·rename_i s1 hs1;simp only [a8,bn] at hg;obtain⟨rfl,rfl,rfl⟩:=hg;simp only [bv] at hb;obtain⟨k1,k2,k3,k4,_⟩:=hb;have n1:=qy k1; have n2:=jn k2; have n3:=jn k3; have n4:=fW (gg (iQ bx) (iQ cx) (nM ax)).2;refine a0j.lay (bs:=[.cells [.slo 1 0 ni 0,.slo 2 0 nl 0,.slo 3 0 nj 0,.z ln] none,.cells ax (some 5),.cells bx (some 4),.cells cx (some 4)]) (args0:=[.ptr 0 0]) (bs':=[.cells [.slo 1 0 ni 0,.slo 2 0 nl 0,.slo 3 0 nj 0,.z ln] none,.cells (ux ax bx cx) (some 5),.cells bx (some 4),.cells cx (some 4)]) (v0:=.agg [.z (uA ax bx cx),.z (uy ax bx cx),.z (uz ax bx cx)]) hfr hs1 (pC hbc)
            ⟨⟨df hfr hb0,_,hb0,by first | exact be rfl | exact dF (aV (bC rfl) (aV (bC rfl) (aV (bC rfl) (aV (cH) cA)))) aC,fun κ hκ=>dF (aV (bC (hκ 1 a rfl)) (aV (bC (hκ 2 b rfl)) (aV (bC (hκ 3 c rfl)) (aV (cH) cA)))) aC⟩,⟨df hfr hb1,_,hb1,be bF,fun κ hκ=>be bF⟩,⟨df hfr hb2,_,hb2,be bF,fun κ hκ=>be bF⟩,⟨df hfr hb3,_,hb3,be bF,fun κ hκ=>be bF⟩,trivial⟩ fv ?_
            fun κ h1 h2=>⟨⟨dF (aV (bC (h1 1 a rfl)) (aV (bC (h1 2 b rfl)) (aV (bC (h1 3 c rfl)) (aV (cH) cA)))) aC,be (n4),be bF,be bF,trivial⟩,cY rfl⟩
           rw [hgl]; exact(M4 ni nl nj ln ax bx cx rest k1 k2 k3 k4)
          ·cases hg
       ·cases hg
      ·cases hg
     ·cases hg
    ·cases hg
 ·cases hg
def kL (F:World→Prop) (v:Value) (e ln:Int) (ax bx cx:al):(Int×Int×Int)×List bL×List bq×List bq:=cQ ⟨zJ F v,e⟩ ln (nM ax) (iQ bx) (iQ cx)
def ry (F:World→Prop) (v:Value) (e ln:Int) (ax bx cx:al):Int:=(kL F v e ln ax bx cx).1.1
def ru (F:World→Prop) (v:Value) (e ln:Int) (ax bx cx:al):Int:=(kL F v e ln ax bx cx).1.2.1
def qb (F:World→Prop) (v:Value) (e ln:Int) (ax bx cx:al):Int:=(kL F v e ln ax bx cx).1.2.2
def s_ (F:World→Prop) (v:Value) (e ln:Int) (ax bx cx:al):Nat:=(kL F v e ln ax bx cx).2.1.length
def tb (F:World→Prop) (v:Value) (e ln:Int) (ax bx cx:al):Nat:=(kL F v e ln ax bx cx).2.2.1.length
def ta (F:World→Prop) (v:Value) (e ln:Int) (ax bx cx:al):Nat:=(kL F v e ln ax bx cx).2.2.2.length
def s7 (F:World→Prop) (v:Value) (e ln:Int) (ax bx cx:al):al:=aj bI (kL F v e ln ax bx cx).2.1
def s8 (F:World→Prop) (v:Value) (e ln:Int) (ax bx cx:al):al:=aj a_ (kL F v e ln ax bx cx).2.2.1
def s9 (F:World→Prop) (v:Value) (e ln:Int) (ax bx cx:al):al:=aj a_ (kL F v e ln ax bx cx).2.2.2
theorem Py (F:World→Prop) (v:Value) (e:Int) (ni nl nj:Nat) (ln:Int) (ax bx cx:al) (rest:aL) (k1:fg ni ax=true) (k2:cr nl bx=true) (k3:cr nj cx=true) (k4:nY F v=true) (k5:ni≤99980) (k6:nl≤99980) (k7:nj≤99980) :
  a0j prog 47 [.ptr 0 0,.agg [.val v,.z e]] (ai (dT ni nl nj ln ax bx cx++[.obj bG [.fact F] 5,.dead]) (aN rest)) fun l st=>l=.agg [.z (ry F v e ln ax bx cx),.z (ru F v e ln ax bx cx),.z (qb F v e ln ax bx cx)]∧st=ai (qV (s_ F v e ln ax bx cx) (tb F v e ln ax bx cx) (ta F v e ln ax bx cx) ln (s7 F v e ln ax bx cx) (s8 F v e ln ax bx cx) (s9 F v e ln ax bx cx) F) (aN rest):=by
 obtain⟨I,rfl,rfl,hI⟩:=vQ.1 k1;obtain⟨B,rfl,rfl,hB⟩:=mR.1 k2;obtain⟨J,rfl,rfl,hJ⟩:=mR.1 k3;obtain⟨ws,hw⟩:=AU.1 k4;simp only [ry,ru,qb,s_,tb,ta,s7,s8,s9,kL,AH hw,qv,me];exact RP F v ⟨ws,e⟩ ln I B J rest hw k5 k6 k7
def B7:Gc:=fun args s=>match args,s.g with
 | [.ptr p 0,.agg [.val v,.int .i64 e]],(g0,F0)::(g1,F1)::rest=>cond (Nat.beq g0 0 && aU F0 cj && (Nat.beq g1 2 && aU F1 cK)) (match storeAt s with
   | some d=>(match s.h.get p with
     | some (.cells [.slo a 0 ni 0,.slo b 0 nl 0,.slo c 0 nj 0,.int .i64 ln] none)=>(match s.h.get a with
       | some (.cells ax (some 5))=>(match s.h.get b with
         | some (.cells bx (some 4))=>(match s.h.get c with
           | some (.cells cx (some 4))=>(match s.h.get d with
             | some (.obj F_d [.fact F] z9)=>(match s.h.get z9 with
               | some (.dead)=>cond (gj [p,a,b,c,d,z9]) (match s.lay [p,a,b,c,d,z9] [.cells [.slo s.n 0 (s_ F v e ln ax bx cx) 0,.slo (Nat.succ s.n) 0 (tb F v e ln ax bx cx) 0,.slo (Nat.succ (Nat.succ s.n)) 0 (ta F v e ln ax bx cx) 0,.int .i64 ln] none,.dead,.dead,.dead,.obj bG [.fact F] z9,.dead] [.cells (s7 F v e ln ax bx cx) (some 5),.cells (s8 F v e ln ax bx cx) (some 4),.cells (s9 F v e ln ax bx cx) (some 4)] with
                 | some s'=>some ([fg ni ax,cr nl bx,cr nj cx,nY F v,ag ni 99980,ag nl 99980,ag nj 99980,nL F_d bG],.agg [.z (ry F v e ln ax bx cx),.z (ru F v e ln ax bx cx),.z (qb F v e ln ax bx cx)],s')
                 | none=>none) none
               | _=>none)
             | _=>none)
           | _=>none)
         | _=>none)
       | _=>none)
     | _=>none)
   | none=>none) none
 | _,_=>none
theorem TZ:bX prog 47 B7:=by
 intro args s bs l s' hg hb hfr;unfold B7 at hg;split at hg
 ·rename_i p v e g0 F0 g1 F1 rest hgl;cases hc:(Nat.beq g0 0 && aU F0 cj && (Nat.beq g1 2 && aU F1 cK)) with
  | false=>exact eZ
  | true =>
    rw [hc] at hg;simp only [aw] at hg;rw [bg] at hc;replace hgl:s.g=aN rest:=by(have c1:=ig.1 hc.1; have c2:=ig.1 hc.2; rw [hgl,bt c1.1,bQ c1.2,bt c2.1,bQ c2.2] <;> rfl)
    split at hg
    ·rename_i d hfd;split at hg
     ·rename_i a ni b nl c nj ln hb0;split at hg
      ·rename_i ax hb1;split at hg
       ·rename_i bx hb2;split at hg
        ·rename_i cx hb3;split at hg
         ·rename_i F_d F z9 hb4;split at hg
          ·rename_i  hb5;cases hbc:gj [p,a,b,c,d,z9] with
           | false=>exact qT
           | true =>
             rw [hbc] at hg;simp only [aw] at hg;split at hg
             ·rename_i s1 hs1;simp only [a8,bn] at hg;obtain⟨rfl,rfl,rfl⟩:=hg;simp only [bv] at hb;obtain⟨k1,k2,k3,k4,k5,k6,k7,k8,_⟩:=hb;have e_d:=Ij k8;subst e_d;have n1:=qy k1; have n2:=jn k2; have n3:=jn k3; have n4:=fW (kL F v e ln ax bx cx).2.1; have n5:=eQ (kL F v e ln ax bx cx).2.2.1; have n6:=eQ (kL F v e ln ax bx cx).2.2.2;refine a0j.lay (bs:=[.cells [.slo 1 0 ni 0,.slo 2 0 nl 0,.slo 3 0 nj 0,.z ln] none,.cells ax (some 5),.cells bx (some 4),.cells cx (some 4),.obj bG [.fact F] 5,.dead]) (args0:=[.ptr 0 0,.agg [.val v,.z e]]) (bs':=[.cells [.slo 6 0 (s_ F v e ln ax bx cx) 0,.slo 7 0 (tb F v e ln ax bx cx) 0,.slo 8 0 (ta F v e ln ax bx cx) 0,.z ln] none,.dead,.dead,.dead,.obj bG [.fact F] 5,.dead,.cells (s7 F v e ln ax bx cx) (some 5),.cells (s8 F v e ln ax bx cx) (some 4),.cells (s9 F v e ln ax bx cx) (some 4)]) (v0:=.agg [.z (ry F v e ln ax bx cx),.z (ru F v e ln ax bx cx),.z (qb F v e ln ax bx cx)]) hfr hs1 (pC hbc)
               ⟨⟨df hfr hb0,_,hb0,by first | exact be rfl | exact dF (aV (bC rfl) (aV (bC rfl) (aV (bC rfl) (aV (cH) cA)))) aC,fun κ hκ=>dF (aV (bC (hκ 1 a rfl)) (aV (bC (hκ 2 b rfl)) (aV (bC (hκ 3 c rfl)) (aV (cH) cA)))) aC⟩,⟨df hfr hb1,_,hb1,be bF,fun κ hκ=>be bF⟩,⟨df hfr hb2,_,hb2,be bF,fun κ hκ=>be bF⟩,⟨df hfr hb3,_,hb3,be bF,fun κ hκ=>be bF⟩,⟨df hfr hb4,_,hb4,gx rfl,fun κ hκ=>gx (hκ 5 z9 rfl)⟩,⟨df hfr hb5,_,hb5,eD,fun κ hκ=>eD⟩,trivial⟩ fv ?_
               fun κ h1 h2=>⟨⟨dF (aV (bC (h2 0 aC)) (aV (bC (h2 1 aC)) (aV (bC (h2 2 aC)) (aV (cH) cA)))) aC,eD,eD,eD,gx (h1 5 z9 rfl),eD,be (n4),be (n5),be (n6),trivial⟩,cY rfl⟩
              rw [hgl]; exact(Py F v e ni nl nj ln ax bx cx rest k1 k2 k3 k4 (eC.1 k5) (eC.1 k6) (eC.1 k7))
             ·cases hg
          ·cases hg
         ·cases hg
        ·cases hg
       ·cases hg
      ·cases hg
     ·cases hg
    ·cases hg
 ·cases hg
def Cv (t:ap):Kd:={ σ:={p:SQ×List LnV // StL p.1 p.2∧p.2.map LnV.s=gp t∧gp t≠[]},enc:=fun _=>[],sh:=fun p _ k=>(.cells (aj ik p.1.2) (some 2),[e_ p.1.1 (k+1),.dead]) }
theorem Im (t:ap):(Cv t).Ok:=by
 refine⟨fun v b k b' k' ρ hb hρ=>?_,fun v b k=>?_⟩
 ·have h1:=hρ 1 (by show 1 < 2; omega);obtain⟨⟨⟨F,e,h⟩,ls⟩,hS,hn⟩:=v;refine Ao (be (pv ls)) (Ao ?_ (Ao eD H6));cases e
  ·exact gx h1
  ·exact eD
 ·obtain⟨⟨q,ls⟩,hS,hn,hne⟩:=v;cases ls with
  | nil=>exact absurd hn.symm hne
  | cons x r=>exact⟨_,_,_,rfl⟩
def wO (t:ap):OP:=(Cv t).F
def kg (t:ap):Bool:=decide (1≤t.length) && decide (t.length≤4000)
def m_ (t:ap):Nat:=(gp t).length
theorem x9 {t:ap}:kg t=true↔1≤t.length∧t.length≤4000:=by simp [kg]
theorem T9 (t:ap):∀ (n p:Nat) (S:eE),t.length - p=n→(1≤S.c)→(p < t.length∨1 < S.c)→fx t p S≠[]:=by
 intro n
 induction n using Nat.strongRecOn with
 | _ n ih =>
   intro p S hn hc h;rw [fx];split
   ·rename_i hp;have hw:=fF hp;split
    ·simp
    ·refine ih (t.length - (p+aP t p)) ab _ _ rfl ?_ (.inr ?_)
     iterate 2
      ·unfold eW; split <;> (try split) <;> (try split) <;> (try split) <;> simp only <;> omega
   ·rw [aB ab]; simp
theorem T8 {t:ap} (h:1≤t.length):gp t≠[]:=T9 t _ 0 i4 rfl (by simp [i4]) (.inl ab)
theorem R2 (t:ap) (k1:kg t=true):a0j prog 46 [.str t] (ai [] []) fun l s=>l=.slo 0 0 (m_ t) 0∧s=ai [.obj (wO t) [] 1,.dead] []:=by
 obtain⟨h1,h2⟩:=x9.1 k1;refine a0j.shut (K:=Cv t) (bs:=[]) (B:=[.dead]) (cs:=[]) (l:=.slo 0 0 (m_ t) 0) (g:=[]) (Im t) 0 aC aC (fun ρ h=>⟨Ao eD H6,bC (h 0 aC)⟩) ?_;refine a0j.mono (Wa t h2) fun l s ⟨q,ls,hS,hn,e1,e2⟩=>?_
 refine⟨_,⟨by rw [e1,m_,← hn,ii],⟨(q,ls),hS,hn,T8 h1⟩,rfl,rfl⟩,e2⟩
def Dh:Gc:=fun args s=>match args,s.g with
 | [.str t],[]=>(match s.lay [] [] [.obj (wO t) [] (Nat.succ s.n),.dead] with
   | some s'=>some ([kg t],.slo s.n 0 (m_ t) 0,s')
   | none=>none)
 | _,_=>none
theorem VB:bX prog 46 Dh:=by
 intro args s bs l s' hg hb hfr;unfold Dh at hg;split at hg
 ·rename_i t hgl;split at hg
  ·rename_i s1 hs1;simp only [a8,bn] at hg;obtain⟨rfl,rfl,rfl⟩:=hg;simp only [bv] at hb;obtain⟨k1,_⟩:=hb;refine a0j.lay (bs:=[]) (args0:=[.str t]) (bs':=[.obj (wO t) [] 1,.dead]) (v0:=.slo 0 0 (m_ t) 0) hfr hs1 aC
    trivial fv ?_
    fun κ h1 h2=>⟨⟨gx (h2 1 aC),eD,trivial⟩,bC (h2 0 aC)⟩
   rw [hgl]; exact(R2 t k1)
  ·cases hg
 ·cases hg
def wX:Cx:=eP [(46,jm Dh),(47,B7),(48,F6)]
abbrev wE:List Nat:=[0,4,9,10,11]
abbrev wD (v:Value) (n i:Nat):List (Nat×LV):=[(0,.ptr 0 0),(4,.ptr 1 0),(9,.val v),(10,.z n),(11,.z i)]
abbrev wF (ni nl nj:Nat) (ln:Int) (ax bx cx:al) (F:World→Prop):a9:=[.cells [.slo 4 0 ni 0,.slo 5 0 nl 0,.slo 6 0 nj 0,.z ln] none,.cells [.z 0,.z 0,.z 0] none,.obj bG [.fact F] 3,.dead,.cells ax (some 5),.cells bx (some 4),.cells cx (some 4)]
theorem Ar:cT prog (cv wX):=fQ ⟨ju VB,TZ,R9,trivial⟩
theorem Pj (t:ap) (rest:aL) (K:Pk):(bc prog wX 40 31 (bS (sp prog 31) 0 2) (cO [.ptr 0 0,.str t]) (ai [.cells [.nils,.nils,.nils,.z 0] none] (aN rest)) (vK wE K))=(
 ck (kg t) <|
 K .normal [.ptr 0 0,.ptr 1 0,.slo 2 0 (m_ t) 0,.z ↑(m_ t),.z 0] [sN [.nils,.nils,.nils,.z 0],sN [.z 0,.z 0,.z 0],some (.obj (wO t) [] 3),sD] (aN rest)):=ak
theorem Po (t:ap) (v:Value) (n:Nat) (F:World→Prop) (rest:aL) (K:Pk):(bc prog wX 40 31 (bS (sp prog 31) 2 0) (aF 31 [(9,.val v),(0,.ptr 0 0),(4,.ptr 1 0),(9,.slo 2 0 n 0),(10,.z n),(11,.z 0)]) (ai [.cells [.nils,.nils,.nils,.z 0] none,.cells [.z 0,.z 0,.z 0] none,.dead,.dead,.dead,.dead,.obj bG [.fact F] 7,.dead] (aN rest)) (vK wE K))=(
 K .normal [.ptr 0 0,.ptr 1 0,.val v,.z ↑n,.z 0] [sN [.nils,.nils,.nils,.z 0],sN [.z 0,.z 0,.z 0],sD,sD,sD,sD,some (.obj bG [.fact F] 7),sD] (aN rest)):=ak
theorem Pn (ni nl nj n i:Nat) (ln:Int) (ax bx cx:al) (F:World→Prop) (v:Value) (rest:aL) (K:Pk):(aX prog wX 40 31 (ce (bi (sp prog 31) 2)) (aF 31 (wD v n i)) (ai (wF ni nl nj ln ax bx cx F) (aN rest)) (vK wE K))=(
 cond (ad .lss ↑i ↑n) (ck (iE v (ae ↑i)) <|
 ck (ip F v (aJ (ae ↑i) 2) 2) <|
 ck (ag 2 (aG (aH F v (aJ (ae ↑i) 2) 2))) <|
 ck (uo (af (aH F v (aJ (ae ↑i) 2) 2) 0)) <|
 ck (a7 .i64 (af (aH F v (aJ (ae ↑i) 2) 2) 1)) <|
 ck (fg ni ax) <|
 ck (cr nl bx) <|
 ck (cr nj cx) <|
 ck (nY F (fO (af (aH F v (aJ (ae ↑i) 2) 2) 0))) <|
 ck (ag ni 99980) <|
 ck (ag nl 99980) <|
 ck (ag nj 99980) <|
 ck (nL bG bG) <|
 cond (ad .neq (qb F (fO (af (aH F v (aJ (ae ↑i) 2) 2) 0)) (ar (af (aH F v (aJ (ae ↑i) 2) 2) 1)) (au .add .i64 (↑i) 1) ax bx cx) 0) (K .ret [.ptr 0 0,.ptr 1 0,.val v,.z ↑n,.z ↑i] [sN [.slo 8 0 (s_ F (fO (af (aH F v (aJ (ae ↑i) 2) 2) 0)) (ar (af (aH F v (aJ (ae ↑i) 2) 2) 1)) (au .add .i64 (↑i) 1) ax bx cx) 0,.slo 9 0 (tb F (fO (af (aH F v (aJ (ae ↑i) 2) 2) 0)) (ar (af (aH F v (aJ (ae ↑i) 2) 2) 1)) (au .add .i64 (↑i) 1) ax bx cx) 0,.slo 10 0 (ta F (fO (af (aH F v (aJ (ae ↑i) 2) 2) 0)) (ar (af (aH F v (aJ (ae ↑i) 2) 2) 1)) (au .add .i64 (↑i) 1) ax bx cx) 0,.z (au .add .i64 (↑i) 1)],sN [.z (ry F (fO (af (aH F v (aJ (ae ↑i) 2) 2) 0)) (ar (af (aH F v (aJ (ae ↑i) 2) 2) 1)) (au .add .i64 (↑i) 1) ax bx cx),.z (ru F (fO (af (aH F v (aJ (ae ↑i) 2) 2) 0)) (ar (af (aH F v (aJ (ae ↑i) 2) 2) 1)) (au .add .i64 (↑i) 1) ax bx cx),.z (qb F (fO (af (aH F v (aJ (ae ↑i) 2) 2) 0)) (ar (af (aH F v (aJ (ae ↑i) 2) 2) 1)) (au .add .i64 (↑i) 1) ax bx cx)],some (.obj bG [.fact F] 3),sD,sD,sD,sD,sN [.val (fO (af (aH F v (aJ (ae ↑i) 2) 2) 0)),.z (ar (af (aH F v (aJ (ae ↑i) 2) 2) 1))],sC (s7 F (fO (af (aH F v (aJ (ae ↑i) 2) 2) 0)) (ar (af (aH F v (aJ (ae ↑i) 2) 2) 1)) (au .add .i64 (↑i) 1) ax bx cx) 5,sC (s8 F (fO (af (aH F v (aJ (ae ↑i) 2) 2) 0)) (ar (af (aH F v (aJ (ae ↑i) 2) 2) 1)) (au .add .i64 (↑i) 1) ax bx cx) 4,sC (s9 F (fO (af (aH F v (aJ (ae ↑i) 2) 2) 0)) (ar (af (aH F v (aJ (ae ↑i) 2) 2) 1)) (au .add .i64 (↑i) 1) ax bx cx) 4,sN [.z (ry F (fO (af (aH F v (aJ (ae ↑i) 2) 2) 0)) (ar (af (aH F v (aJ (ae ↑i) 2) 2) 1)) (au .add .i64 (↑i) 1) ax bx cx),.z (ru F (fO (af (aH F v (aJ (ae ↑i) 2) 2) 0)) (ar (af (aH F v (aJ (ae ↑i) 2) 2) 1)) (au .add .i64 (↑i) 1) ax bx cx),.z (qb F (fO (af (aH F v (aJ (ae ↑i) 2) 2) 0)) (ar (af (aH F v (aJ (ae ↑i) 2) 2) 1)) (au .add .i64 (↑i) 1) ax bx cx)]] (aN rest)) (K .normal [.ptr 0 0,.ptr 1 0,.val v,.z ↑n,.z (au .add .i64 (↑i) 1)] [sN [.slo 8 0 (s_ F (fO (af (aH F v (aJ (ae ↑i) 2) 2) 0)) (ar (af (aH F v (aJ (ae ↑i) 2) 2) 1)) (au .add .i64 (↑i) 1) ax bx cx) 0,.slo 9 0 (tb F (fO (af (aH F v (aJ (ae ↑i) 2) 2) 0)) (ar (af (aH F v (aJ (ae ↑i) 2) 2) 1)) (au .add .i64 (↑i) 1) ax bx cx) 0,.slo 10 0 (ta F (fO (af (aH F v (aJ (ae ↑i) 2) 2) 0)) (ar (af (aH F v (aJ (ae ↑i) 2) 2) 1)) (au .add .i64 (↑i) 1) ax bx cx) 0,.z (au .add .i64 (↑i) 1)],sN [.z 0,.z 0,.z 0],some (.obj bG [.fact F] 3),sD,sD,sD,sD,sN [.val (fO (af (aH F v (aJ (ae ↑i) 2) 2) 0)),.z (ar (af (aH F v (aJ (ae ↑i) 2) 2) 1))],sC (s7 F (fO (af (aH F v (aJ (ae ↑i) 2) 2) 0)) (ar (af (aH F v (aJ (ae ↑i) 2) 2) 1)) (au .add .i64 (↑i) 1) ax bx cx) 5,sC (s8 F (fO (af (aH F v (aJ (ae ↑i) 2) 2) 0)) (ar (af (aH F v (aJ (ae ↑i) 2) 2) 1)) (au .add .i64 (↑i) 1) ax bx cx) 4,sC (s9 F (fO (af (aH F v (aJ (ae ↑i) 2) 2) 0)) (ar (af (aH F v (aJ (ae ↑i) 2) 2) 1)) (au .add .i64 (↑i) 1) ax bx cx) 4,sN [.z (ry F (fO (af (aH F v (aJ (ae ↑i) 2) 2) 0)) (ar (af (aH F v (aJ (ae ↑i) 2) 2) 1)) (au .add .i64 (↑i) 1) ax bx cx),.z (ru F (fO (af (aH F v (aJ (ae ↑i) 2) 2) 0)) (ar (af (aH F v (aJ (ae ↑i) 2) 2) 1)) (au .add .i64 (↑i) 1) ax bx cx),.z (qb F (fO (af (aH F v (aJ (ae ↑i) 2) 2) 0)) (ar (af (aH F v (aJ (ae ↑i) 2) 2) 1)) (au .add .i64 (↑i) 1) ax bx cx)]] (aN rest))) (K (.exit 0) [.ptr 0 0,.ptr 1 0,.val v,.z ↑n,.z ↑i] [sN [.slo 4 0 ni 0,.slo 5 0 nl 0,.slo 6 0 nj 0,.z ln],sN [.z 0,.z 0,.z 0],some (.obj bG [.fact F] 3),sD,sC ax 5,sC bx 4,sC cx 4] (aN rest))):=ak
theorem Pp (ni nl nj n i:Nat) (ln:Int) (ax bx cx:al) (F:World→Prop) (v:Value) (rest:aL) (K:Pk):(bc prog wX 40 31 ((sp prog 31).drop 3) (aF 31 (wD v n i)) (ai (wF ni nl nj ln ax bx cx F) (aN rest)) (vK wE K))=(
 ck (fg ni ax) <|
 ck (cr nl bx) <|
 ck (cr nj cx) <|
 ck (um ax cx) <|
 K .ret [.ptr 0 0,.ptr 1 0,.val v,.z ↑n,.z ↑i] [sN [.slo 4 0 ni 0,.slo 5 0 nl 0,.slo 6 0 nj 0,.z ln],sN [.z (uA ax bx cx),.z (uy ax bx cx),.z (uz ax bx cx)],some (.obj bG [.fact F] 3),sD,sC (ux ax bx cx) 5,sC bx 4,sC cx 4] (aN rest)):=ak
def jL:List ic→Nat→List bL→List bq→List bq→(Int×Int×Int)×List bL×List bq×List bq×Int
 | [],i,I,B,J=>((gg B J I).1,(gg B J I).2,B,J,i)
 | L::r,i,I,B,J=>if(cQ L ((i+1:Nat):Int) I B J).1.2.2≠0 then((cQ L ((i+1:Nat):Int) I B J).1,(cQ L ((i+1:Nat):Int) I B J).2.1,(cQ L ((i+1:Nat):Int) I B J).2.2.1,(cQ L ((i+1:Nat):Int) I B J).2.2.2,((i+1:Nat):Int))
   else jL r (i+1) (cQ L ((i+1:Nat):Int) I B J).2.1 (cQ L ((i+1:Nat):Int) I B J).2.2.1 (cQ L ((i+1:Nat):Int) I B J).2.2.2
def dz (t:ap):(Int×Int×Int)×List bL×List bq×List bq×Int:=jL (gp t) 0 [] [] []
theorem EW (B:List bq):∀ (J:List bq) (I:List bL),(gg B J I).2.length=I.length
 | [],I=>rfl
 | j::r,I=>by
   unfold gg;split
   ·rfl
   ·rw [EW B r,Fj]
theorem JA {k:Int} {w:Wd} {ni:Nat} {ln:Int} {J:List bq} {j:bq} (h:j∈fb k w ni ln J):j∈J∨j.pl=ni:=by
 unfold fb at h;split at h
 ·rcases gz.1 h with h | h
  ·exact .inl h
  ·rw [k_.1 h]; exact .inr rfl
 ·exact .inl h
theorem DB {e ln:Int} {ni:Nat}:∀ (L:List (Int×Int)) (ws:List Wd) (x:bL) (J:List bq),(gq e ln ni L ws x J).2.2.2.length≤J.length+L.length∧∀ j∈(gq e ln ni L ws x J).2.2.2,j∈J∨j.pl=ni
 | [],ws,x,J=>by simp [gq]; exact fun j h=>.inl h
 | (i,k)::r,ws,x,J=>by
   by_cases h:k=0
   ·rw [u3 h];have:=DB (e:=e) (ln:=ln) (ni:=ni) r ws x J;exact⟨by simp; omega,this.2⟩
   ·cases ws with
    | nil=>rw [u5 h]; exact⟨aC,fun j h=>.inl h⟩
    | cons w ws =>
      rw [u4 h];have hl:=x_ k w ni ln J;split
      ·have:=DB (e:=e) (ln:=ln) (ni:=ni) r ws (kK i k w x) (fb k w ni ln J);refine⟨by simp; omega,fun j hj=>?_⟩;rcases this.2 j hj with h1 | h1
       ·exact JA h1
       ·exact .inr h1
      ·exact⟨by simp; omega,fun j hj=>JA hj⟩
theorem HZ {s:ap} {w e ln:Int} {ws:List Wd} {I:List bL} {J:List bq} (hP:pE I J):(cL s w ws e ln I J).2.1.length≤I.length+1∧(cL s w ws e ln I J).2.2.length≤J.length+4∧((cL s w ws e ln I J).1.2.2=0→pE (cL s w ws e ln I J).2.1 (cL s w ws e ln I J).2.2):=by
 unfold cL;split
 ·exact⟨aC,aC,fun h=>by simp at h⟩
 ·split
  ·exact⟨aC,aC,fun h=>by simp at h⟩
  ·obtain⟨k1,k2⟩:=DB (e:=e) (ln:=ln) (ni:=I.length) (nv (dV s)) ws ⟨dV s,0,0,0,0⟩ J;generalize gq e ln I.length (nv (dV s)) ws ⟨dV s,0,0,0,0⟩ J=R at *;obtain⟨c,w',x,J'⟩:=R;cases c with
   | some c=>exact⟨aC,by simpa using k1,fun h=>by simp at h⟩
   | none =>
     cases w' with
     | nil =>
       refine⟨aC,by simpa using k1,fun _ j hj=>?_⟩;rcases k2 j hj with h | h
       ·have:=hP j h;simp; omega
       ·rw [h]; simp; omega
     | cons v t=>exact⟨aC,by simpa using k1,fun h=>by simp at h⟩
theorem DD {L:ic} {ln:Int} {I:List bL} {B J:List bq} (hP:pE I J):(cQ L ln I B J).2.1.length≤I.length+1∧(cQ L ln I B J).2.2.1.length≤B.length+1∧(cQ L ln I B J).2.2.2.length≤J.length+4∧((cQ L ln I B J).1.2.2=0→pE (cQ L ln I B J).2.1 (cQ L ln I B J).2.2.2):=by
 unfold cQ;split
 ·exact⟨aC,aC,aC,fun _=>hP⟩
 ·rename_i v ws _;split
  ·split
   ·exact⟨aC,aC,aC,fun h=>by simp at h⟩
   ·split
    ·exact⟨aC,aC,aC,fun _=>hP⟩
    ·rename_i v2 ws2 _;have:=HZ (s:=v2.1) (w:=v2.2) (e:=L.e) (ln:=ln) (ws:=ws2) hP;exact⟨this.1,aC,this.2.1,this.2.2⟩
  ·have:=HZ (s:=v.1) (w:=v.2) (e:=L.e) (ln:=ln) (ws:=ws) hP;exact⟨this.1,aC,this.2.1,this.2.2⟩
theorem WO {t:ap} {a b:Nat} (h:a < b) (hb:b≤t.length):1≤(aY t a b).length∧(aY t a b).length≤t.length:=by
 simp [aY]; omega
structure SpB (t:ap) (p:Nat) (S:eE):Prop where
 s:S.s = -1∨(0≤S.s∧S.s < p)
 w:S.ws.length≤p
 b:∀ x∈S.ws,1≤x.1.length∧x.1.length≤t.length
theorem H1 {t:ap} {S:eE} {p:Nat} (h:SpB t p S) (hp:p≤t.length):∀ x∈g_ t S p,1≤x.1.length∧x.1.length≤t.length:=by
 unfold g_;split
 ·exact h.b
 ·rename_i hs;intro x hx;rcases gz.1 hx with hx | hx
  ·exact h.b x hx
  ·rw [k_.1 hx];have:=h.s;exact WO (by unfold ae; omega) hp
theorem H0 {t:ap} {S:eE} {p:Nat} (h:SpB t p S) (hp:p≤t.length):(fZ t S p).ws.length≤p+1∧∀ x∈(fZ t S p).ws,1≤x.1.length∧x.1.length≤t.length:=by
 have hl:=EO (t:=t) (S:=S) (i:=p);have hw:=h.w;unfold fZ;split
 ·exact⟨by simp only; omega,h.b⟩
 ·exact⟨by simp only; omega,H1 h hp⟩
theorem SpB.next {t:ap} {p:Nat} {S:eE} (h:SpB t p S) (hp:p < t.length) (r:Int):SpB t (p+aP t p) (eW t S p r):=by
 have hw:=fF hp;have hl:=EO (t:=t) (S:=S) (i:=p);have hb:=H1 h ab;obtain⟨h1,h2,h3⟩:=h;unfold eW;split
 ·exact⟨by simp only; omega,by simp only; omega,h3⟩
 ·split
  ·exact⟨.inl rfl,by simp only; omega,hb⟩
  ·split
   ·exact⟨.inl rfl,by simp only; omega,hb⟩
   ·split
    iterate 2
     ·exact⟨by simp only; omega,by simp only; omega,h3⟩
theorem R1 (t:ap):∀ (n p:Nat) (S:eE),t.length - p=n→p≤t.length→SpB t p S→(fx t p S).length≤t.length - p+1∧∀ L∈fx t p S,L.ws.length≤t.length+1∧∀ x∈L.ws,1≤x.1.length∧x.1.length≤t.length:=by
 intro n
 induction n using Nat.strongRecOn with
 | _ n ih =>
   intro p S hn hp hS;rw [fx];split
   ·rename_i hlt;have hw:=fF hlt;split
    ·obtain⟨k1,k2⟩:=ih (t.length - (p+aP t p)) ab (p+aP t p) (iK S) rfl hw.2 ⟨.inl rfl,by simp [iK],by simp [iK]⟩;refine⟨by simp; omega,fun L hL=>?_⟩;rcases eT.1 hL with rfl | hL
     ·have:=H0 hS hp;exact⟨ab,this.2⟩
     ·exact k2 L hL
    ·obtain⟨k1,k2⟩:=ih (t.length - (p+aP t p)) ab (p+aP t p) _ rfl hw.2 (hS.next hlt (aM t p));exact⟨ab,k2⟩
   ·split
    ·refine⟨aC,fun L hL=>?_⟩;rw [k_.1 hL];obtain rfl:p=t.length:=ab;have:=H0 hS (aR _);exact⟨ab,this.2⟩
    ·exact⟨aC,fun L hL=>by simp at hL⟩
theorem R0 (t:ap):(gp t).length≤t.length+1∧∀ L∈gp t,L.ws.length≤t.length+1∧∀ x∈L.ws,1≤x.1.length∧x.1.length≤t.length:=by
 have:=R1 t _ 0 i4 rfl (bk _) ⟨.inl rfl,by simp [i4],by simp [i4]⟩;exact⟨by have:=this.1; unfold gp; omega,this.2⟩
theorem Ve {ls:List LnV} {i:Nat} (h:i < ls.length):((aj ik ls).drop (i * 2)).take 2=[.val ls[i].v,.z ls[i].s.e]:=by
 have l:=p8 ls;have e0:af (aj ik ls) (i * 2)=.val ls[i].v:=gc EB (j:=0) h ab;have e1:af (aj ik ls) (i * 2+1)=.z ls[i].s.e:=gc EB (j:=1) h ab;unfold af at e0 e1;rw [pt,cq ab] at e0 e1;dsimp only at e0 e1;rw [jG ab,List.take_succ_cons,jG ab,List.take_succ_cons,e0,e1];simp
structure F8 where
 I:List bL
 B:List bq
 J:List bq
structure G2 (z:(Int×Int×Int)×List bL×List bq×List bq×Int) (LS:List ic) (i:Nat) (X:F8):Prop where
 le:i≤LS.length
 hI:X.I.length≤i
 hB:X.B.length≤i
 hJ:X.J.length≤4 * i
 hP:pE X.I X.J
 hR:jL (LS.drop i) i X.I X.B X.J=z
set_option maxHeartbeats 8000000 in
theorem RE (t:ap) (rest:aL) (ht:kg t=true):a0j prog 31 [.ptr 0 0,.str t] (ai [.cells [.nils,.nils,.nils,.z 0] none] (aN rest)) fun l st=>l=dB (dz t).1∧st=ai (dT (dz t).2.1.length (dz t).2.2.1.length (dz t).2.2.2.1.length (dz t).2.2.2.2 (aj bI (dz t).2.1) (aj a_ (dz t).2.2.1) (aj a_ (dz t).2.2.2.1)) (aN rest):=by
 obtain⟨z,hz⟩:∃ z,z=dz t:=⟨_,rfl⟩;rw [← hz];refine a0j.mono (a0j.i4e (Q:=fun l b=>l=dB z.1∧b=dT z.2.1.length z.2.2.1.length z.2.2.2.1.length z.2.2.2.2 (aj bI z.2.1) (aj a_ z.2.2.1) (aj a_ z.2.2.2.1)) 31 1 4 77 wE ak rfl rfl rfl ?_) fun l s' ⟨b0,⟨h1,h2⟩,h3⟩=>⟨h1,by rw [h3,h2]⟩
 obtain⟨t1,t2⟩:=x9.1 ht;obtain⟨sb1,sb2⟩:=R0 t;refine SSp.to Ar (n:=40) (g:=aN rest) 2 2 rfl (σ:=Unit) (fun _=>[(0,.ptr 0 0),(4,.ptr 1 0),(9,.slo 2 0 (m_ t) 0),(10,.z (m_ t:Nat)),(11,.z 0)]) (fun _=>[.cells [.nils,.nils,.nils,.z 0] none,.cells [.z 0,.z 0,.z 0] none,.obj (wO t) [] 3,.dead]) (bh (aS rfl)) ak ?_ fun _=>?_
 ·rw [Pj];simp only [ht,aw];exact⟨rfl,(),[.id 0,.id 1,.id 2,.id 3],by(exact zC)⟩
 refine SSp.unpack (Im t) 2 ak (aS rfl) rfl fun⟨⟨q,ls⟩,hS,hn,hne⟩ _=>?_
 have hsp:m_ t=ls.length:=by rw [m_,← hn,ii]
 rw [hsp];refine SSp.absorb 9 2 4 (γ:=5) (n:=ls.length) (cs:=aj ik ls) (op:=some 2) (q:=q) ak (aS rfl) ab rfl rfl rfl (pv ls) (fun h=>by rw [fY.1 h]; rfl) fun v q1 hq1=>?_
 refine SSp.known 6 (γ:=7) (q:=q1) ak rfl fun hW=>?_
 have hpos:1≤ls.length:=by
  rw [← hn] at hne;cases ls with
  | nil=>simp at hne
  | cons x r=>simp
 obtain⟨F,e,he⟩:=q1;dsimp only at hq1 hW;cases e with
 | true =>
   obtain⟨W,_⟩:=hW;have h0:=he rfl { W with heap:=#[] };rw [hq1] at h0;rcases h0.2 with⟨_,h,_⟩ | ⟨B,o,cap,c,e,f,_,_,h,_⟩
   ·omega
   ·simp at h
 | false =>
 have hF:∀ W,F W→a4n W v ls.length (aj ik ls):=fun W h=>by rw [hq1] at h; exact h.2
 have hL:∀ x∈ls,FcW F x.v x.s.ws:=fun x hx=>⟨hW,fun W h=>by rw [hq1] at h; exact hS.c W h.1 x hx⟩
 have hmap:∀ (i:Nat) (h:i < ls.length),(gp t).drop i=ls[i].s::(gp t).drop (i+1):=fun i h=>by
  have h2:i < (gp t).length:=by rw [← hn]; simpa using h
  rw [jG h2]
  congr 1
  simp only [← hn,List.getElem_map]
 have hlen:(gp t).length=ls.length:=by rw [← hn,ii]
 change SSp _ _ _ _ (aF 31 [(9,.val v),(0,.ptr 0 0),(4,.ptr 1 0),(9,.slo 2 0 ls.length 0),(10,.z (ls.length:Nat)),(11,.z 0)]) (ai [.cells [.nils,.nils,.nils,.z 0] none,.cells [.z 0,.z 0,.z 0] none,.dead,.dead,.dead,.dead,.obj bG [.fact F] 7,.dead] (aN rest)) _;refine SSp.to Ar (n:=40) (g:=aN rest) 0 2 rfl (σ:=Unit) (fun _=>wD v ls.length 0) (fun _=>wF 0 0 0 0 [] [] [] F) (bh (aS rfl)) ak ?_ fun _=>?_
 ·rw [Po t];exact⟨rfl,(),[.id 0,.id 1,.id 6,.id 7,.none,.none,.none],by(exact zC)⟩
 refine SSp.code_to (g:=aN rest) 3 rfl (σ:={X:F8 // G2 z (gp t) ls.length X}) (fun _=>wD v ls.length ls.length) (fun X=>wF X.1.I.length X.1.B.length X.1.J.length (ls.length:Nat) (aj bI X.1.I) (aj a_ X.1.B) (aj a_ X.1.J) F) ak ?_ fun⟨X,hX⟩=>?_
 ·refine a0n.i3g Ar (n:=40) (n0:=1) 0 ak (σ:={p:Nat×F8 // G2 z (gp t) p.1 p.2}) (fun p=>wD v ls.length p.1.1) (fun p=>wF p.1.2.I.length p.1.2.B.length p.1.2.J.length (p.1.1:Nat) (aj bI p.1.2.I) (aj a_ p.1.2.B) (aj a_ p.1.2.J) F) (fun p=>ls.length - p.1.1) (fun _=>aS rfl) (fun⟨⟨i,⟨I,B,J⟩⟩,hX⟩=>?_) ⟨(0,⟨[],[],[]⟩),bk _,aR _,aR _,aR _,fun j hj=>by simp at hj,hz.symm⟩;have hi:=hX.le; have hI:=hX.hI; have hB:=hX.hB; have hJ:=hX.hJ; have hP:=hX.hP; have hR:=hX.hR;dsimp only at hi hI hB hJ hP hR ⊢;have na:=fW I; have nb:=eQ B; have nc:=eQ J;rw [Pn];by_cases h:i < ls.length
  ·have hM:=hR;rw [hmap i h,jL] at hM;have hx:=iw h;have hsb:=sb2 ls[i].s (by rw [← hn]; exact List.mem_map_of_mem hx);have hw:so F ls[i].v ls[i].s.ws:=⟨hL _ hx,ab,fun y hy=>⟨(hsb.2 y hy).1,by have:=(hsb.2 y hy).2; omega⟩⟩;obtain⟨k1,k2⟩:=AF hW hF (Sk ls) (k:=i * 2) (m:=2) (by rw [p8]; omega) ab;rw [Ve h] at k2;obtain⟨W,hWW⟩:=hW;have kx:=Ky (hF W hWW) h;have wV:∀ y,fO (.val y)=y:=fun _=>rfl
   have wU:∀ y,uo (.val y)=true:=fun _=>rfl
   have w0:∀ (a b:LV),af [a,b] 0=a:=fun _ _=>rfl
   have w1:∀ (a b:LV),af [a,b] 1=b:=fun _ _=>rfl
   have l2:∀ (a b:LV),aG [a,b]=2:=fun _ _=>rfl
   have e3:au .add .i64 (i:Int) 1=((i+1:Nat):Int):=kE h ab;have ev:kL F ls[i].v ls[i].s.e ((i+1:Nat):Int) (aj bI I) (aj a_ B) (aj a_ J)=cQ ls[i].s ((i+1:Nat):Int) I B J:=by rw [kL,AH hw,qv,me,me]
   obtain⟨p1,p2,p3,p4⟩:=DD (L:=ls[i].s) (ln:=((i+1:Nat):Int)) (B:=B) hP;generalize cQ ls[i].s ((i+1:Nat):Int) I B J=R at *;have nR1:=fW R.2.1; have nR2:=eQ R.2.2.1; have nR3:=eQ R.2.2.2;simp only [show ad .lss ((i:Nat):Int) ((ls.length:Nat):Int)=true from ga ab,ct,cm,kx,k1,k2,l2,show ag 2 2=true from rfl,w0,w1,wV,wU,cf,cz,bD,AQ (show I.length≤100000 by omega),pw (show B.length≤100000 by omega),pw (show J.length≤100000 by omega),AU.2 ⟨_,hw⟩,show ag I.length 99980=true from aO ab,show ag B.length 99980=true from aO ab,show ag J.length 99980=true from aO ab,Ke,e3,ry,ru,qb,s_,tb,ta,s7,s8,s9,ev,aw];by_cases hE:R.1.2.2=0
   ·rw [av (by rw [hE]; simp)] at hM;simp only [show ad .neq R.1.2.2 0=false from lN hE,aD];exact⟨rfl,⟨(i+1,⟨R.2.1,R.2.2.1,R.2.2.2⟩),⟨by dsimp only; omega,by dsimp only; omega,by dsimp only; omega,by dsimp only; omega,p4 hE,hM⟩⟩,by dsimp only; omega,[.id 0,.id 1,.id 2,.id 3,.id 8,.id 9,.id 10],by(exact zC)⟩
   ·rw [aB hE] at hM;simp only [show ad .neq R.1.2.2 0=true from kA hE,aw];refine⟨trivial,rfl,1,_,_,dB R.1,dB R.1,dT R.2.1.length R.2.2.1.length R.2.2.2.length ((i+1:Nat):Int) (aj bI R.2.1) (aj a_ R.2.2.1) (aj a_ R.2.2.2),[.id 0,.id 8,.id 9,.id 10],rfl,rfl,ak,⟨by rw [← hM],by rw [← hM]⟩,by(exact zC)⟩
  ·simp only [show ad .lss ((i:Nat):Int) ((ls.length:Nat):Int)=false from f_ ab,aD];have ei:i=ls.length:=ab;have hM:=hX;subst ei;exact⟨rfl,⟨⟨I,B,J⟩,hM⟩,[.id 0,.id 1,.id 2,.id 3,.id 4,.id 5,.id 6],by(exact zC)⟩
 obtain⟨I,B,J⟩:=X;have hi:=hX.le; have hI:=hX.hI; have hB:=hX.hB; have hJ:=hX.hJ; have hP:=hX.hP; have hR:=hX.hR;dsimp only at hi hI hB hJ hP hR ⊢;have na:=fW I; have nb:=eQ B; have nc:=eQ J;refine SSp.last Ar (n:=40) (bh (aS rfl)) ?_;rw [Pp];rw [mo ab,jL] at hR;have n5:=fW (gg B J I).2;have kj:um (aj bI I) (aj a_ J)=true:=by simp only [um,cu,qv,me]; exact hP
 have hlI:(gg B J I).2.length=I.length:=EW B J I;simp only [AQ (show I.length≤100000 by omega),pw (show B.length≤100000 by omega),pw (show J.length≤100000 by omega),kj,uA,uy,uz,ux,qv,me,aw];refine⟨trivial,rfl,1,_,_,dB (gg B J I).1,dB (gg B J I).1,dT I.length B.length J.length (ls.length:Nat) (aj bI (gg B J I).2) (aj a_ B) (aj a_ J),[.id 0,.id 4,.id 5,.id 6],rfl,rfl,ak,⟨by rw [← hR],by rw [← hR]; dsimp only; rw [hlI]⟩,by(exact zC)⟩
def gR (t:ap):Int:=(dz t).1.1
def gS (t:ap):Int:=(dz t).1.2.1
def dU (t:ap):Int:=(dz t).1.2.2
def fL (t:ap):Nat:=(dz t).2.1.length
def xf (t:ap):Nat:=(dz t).2.2.1.length
def xe (t:ap):Nat:=(dz t).2.2.2.1.length
def xd (t:ap):Int:=(dz t).2.2.2.2
def fE (t:ap):al:=aj bI (dz t).2.1
def uO (t:ap):al:=aj a_ (dz t).2.2.1
def uP (t:ap):al:=aj a_ (dz t).2.2.2.1
theorem Pm (t:ap) (rest:aL) (k1:kg t=true):a0j prog 31 [.ptr 0 0,.str t] (ai [.cells [.nils,.nils,.nils,.z 0] none] (aN rest)) fun l st=>l=.agg [.z (gR t),.z (gS t),.z (dU t)]∧st=ai (dT (fL t) (xf t) (xe t) (xd t) (fE t) (uO t) (uP t)) (aN rest):=RE t rest k1
def Ca:Gc:=fun args s=>match args,s.g with
 | [.ptr p 0,.str t],(g0,F0)::(g1,F1)::rest=>cond (Nat.beq g0 0 && aU F0 cj && (Nat.beq g1 2 && aU F1 cK)) (match s.h.get p with
   | some (.cells [.nils,.nils,.nils,.int .i64 0] none)=>(match s.lay [p] [.cells [.slo s.n 0 (fL t) 0,.slo (Nat.succ s.n) 0 (xf t) 0,.slo (Nat.succ (Nat.succ s.n)) 0 (xe t) 0,.int .i64 (xd t)] none] [.cells (fE t) (some 5),.cells (uO t) (some 4),.cells (uP t) (some 4)] with
     | some s'=>some ([kg t],.agg [.z (gR t),.z (gS t),.z (dU t)],s')
     | none=>none)
   | _=>none) none
 | _,_=>none
theorem TN:bX prog 31 Ca:=by
 intro args s bs l s' hg hb hfr;unfold Ca at hg;split at hg
 ·rename_i p t g0 F0 g1 F1 rest hgl;cases hc:(Nat.beq g0 0 && aU F0 cj && (Nat.beq g1 2 && aU F1 cK)) with
  | false=>exact eZ
  | true =>
    rw [hc] at hg;simp only [aw] at hg;rw [bg] at hc;replace hgl:s.g=aN rest:=by(have c1:=ig.1 hc.1; have c2:=ig.1 hc.2; rw [hgl,bt c1.1,bQ c1.2,bt c2.1,bQ c2.2] <;> rfl)
    split at hg
    ·rename_i  hb0;split at hg
     ·rename_i s1 hs1;simp only [a8,bn] at hg;obtain⟨rfl,rfl,rfl⟩:=hg;simp only [bv] at hb;obtain⟨k1,_⟩:=hb;have n1:a1u (fE t)=true:=fW _; have n2:a1u (uO t)=true:=eQ _; have n3:a1u (uP t)=true:=eQ _;refine a0j.lay (bs:=[.cells [.nils,.nils,.nils,.z 0] none]) (args0:=[.ptr 0 0,.str t]) (bs':=[.cells [.slo 1 0 (fL t) 0,.slo 2 0 (xf t) 0,.slo 3 0 (xe t) 0,.z (xd t)] none,.cells (fE t) (some 5),.cells (uO t) (some 4),.cells (uP t) (some 4)]) (v0:=.agg [.z (gR t),.z (gS t),.z (dU t)]) hfr hs1 aC
       ⟨⟨df hfr hb0,_,hb0,by first | exact be rfl | exact dF (aV (cY rfl) (aV (cY rfl) (aV (cY rfl) (aV (cH) cA)))) aC,fun κ hκ=>dF (aV (cY rfl) (aV (cY rfl) (aV (cY rfl) (aV (cH) cA)))) aC⟩,trivial⟩ fv ?_
       fun κ h1 h2=>⟨⟨dF (aV (bC (h2 0 aC)) (aV (bC (h2 1 aC)) (aV (bC (h2 2 aC)) (aV (cH) cA)))) aC,be bF,be bF,be bF,trivial⟩,cY rfl⟩
      rw [hgl]; exact(Pm t rest k1)
     ·cases hg
    ·cases hg
 ·cases hg
def G8:Cx:=eP [(31,Ca)]
abbrev C2:List Nat:=[2,3,4,5]
theorem IU:cT prog (cv G8):=fQ ⟨TN,trivial⟩
theorem Ht (t:ap) (rest:aL) (K:Pk):(bc prog G8 40 32 ((sp prog 14).drop 0) (cO [.str t]) (ai [] (aN rest)) (vK C2 K))=(
 cond (ad .gtr (↑(am t)) 4000) (K .ret [.ptr 0 0,.z 1,.z 1,.z 4] [sN [.nils]] (aN rest)) (ck (kg t) <|
 cond (ad .neq (dU t) 0) (ck (ad .eql (gR t) (gR t)) <|
 ck (ad .eql (gR t) (gR t)) <|
 ck (ad .eql (gS t) (gS t)) <|
 ck (ad .eql (gS t) (gS t)) <|
 ck (ad .eql (dU t) (dU t)) <|
 ck (ad .eql (dU t) (dU t)) <|
 K .ret [.ptr 0 0,.z (gR t),.z (gS t),.z (dU t)] [sN [.nils],sN [.slo 2 0 (fL t) 0,.slo 3 0 (xf t) 0,.slo 4 0 (xe t) 0,.z (xd t)],sC (fE t) 5,sC (uO t) 4,sC (uP t) 4,sN [.z (gR t),.z (gS t),.z (dU t)]] (aN rest)) (K .ret [.ptr 0 0,.z 0,.z 0,.z 0] [sN [.slo 2 0 (fL t) 0],sN [.slo 2 0 (fL t) 0,.slo 3 0 (xf t) 0,.slo 4 0 (xe t) 0,.z (xd t)],sC (fE t) 5,sC (uO t) 4,sC (uP t) 4,sN [.z (gR t),.z (gS t),.z (dU t)]] (aN rest)))):=ak
def oS (t:ap):Bool:=decide ((dz t).1.2.2≠0)
def oR (t:ap):Bool:=decide ((dz t).1.2.2=0)
theorem TH (t:ap) (rest:aL) (k1:kg t=true) (k2:oS t=true):a0j prog 14 [.str t] (ai [] (aN rest)) fun l st=>l=.tup [.agg [.nils],.z (gR t),.z (gS t),.z (dU t)]∧st=ai [] (aN rest):=by
 refine a0j.mono (a0j.i4j (Q:=fun l b=>l=.tup [.agg [.nils],.z (gR t),.z (gS t),.z (dU t)]∧b=[]) 32 0 [.cell 2 33,.tmp 3,.tmp 4,.tmp 5] C2 ak rfl rfl ak ?_) fun l s' ⟨b0,⟨h1,h2⟩,h3⟩=>⟨h1,by rw [h3,h2]⟩
 refine SSp.vc IU (n:=40) (bk _) ?_;rw [Ht];obtain⟨t1,t2⟩:=x9.1 k1;have ne:dU t≠0:=by simpa [oS,dU] using k2
 have er:∀ x:Int,ad .eql x x=true:=fun x=>cD rfl
 simp only [show ad .gtr ((am t:Nat):Int) 4000=false from ia (show((t.length:Nat):Int)≤4000 by omega),k1,show ad .neq (dU t) 0=true from kA ne,er,aw,aD];exact⟨trivial,rfl,[.agg [.nils],.z (gR t),.z (gS t),.z (dU t)],_,[],[],ak,⟨rfl,rfl⟩,by(exact zC)⟩
theorem Vp (t:ap) (rest:aL) (k1:kg t=true) (k2:oR t=true):a0j prog 14 [.str t] (ai [] (aN rest)) fun l st=>l=.tup [.agg [.slo 0 0 (fL t) 0],.z 0,.z 0,.z 0]∧st=ai [.cells (fE t) (some 5)] (aN rest):=by
 refine a0j.mono (a0j.i4j (Q:=fun l b=>l=.tup [.agg [.slo 0 0 (fL t) 0],.z 0,.z 0,.z 0]∧b=[.cells (fE t) (some 5)]) 32 0 [.cell 2 33,.tmp 3,.tmp 4,.tmp 5] C2 ak rfl rfl ak ?_) fun l s' ⟨b0,⟨h1,h2⟩,h3⟩=>⟨h1,by rw [h3,h2]⟩
 refine SSp.vc IU (n:=40) (bk _) ?_;rw [Ht];obtain⟨t1,t2⟩:=x9.1 k1;have ne:dU t=0:=by simpa [oR,dU] using k2
 have n1:a1u (fE t)=true:=fW _;simp only [show ad .gtr ((am t:Nat):Int) 4000=false from ia (show((t.length:Nat):Int)≤4000 by omega),k1,show ad .neq (dU t) 0=false from lN ne,aw,aD];exact⟨trivial,rfl,[.agg [.slo 2 0 (fL t) 0],.z 0,.z 0,.z 0],.tup [.agg [.slo 0 0 (fL t) 0],.z 0,.z 0,.z 0],[.cells (fE t) (some 5)],[.id 2],ak,⟨rfl,rfl⟩,by(exact zC)⟩
def Cj:Gc:=fun args s=>match args,s.g with
 | [.str t],(g0,F0)::(g1,F1)::rest=>cond (Nat.beq g0 0 && aU F0 cj && (Nat.beq g1 2 && aU F1 cK)) (match s.lay [] [] [] with
   | some s'=>some ([kg t,oS t],.tup [.agg [.nils],.z (gR t),.z (gS t),.z (dU t)],s')
   | none=>none) none
 | _,_=>none
theorem TA:bX prog 14 Cj:=by
 intro args s bs l s' hg hb hfr;unfold Cj at hg;split at hg
 ·rename_i t g0 F0 g1 F1 rest hgl;cases hc:(Nat.beq g0 0 && aU F0 cj && (Nat.beq g1 2 && aU F1 cK)) with
  | false=>exact eZ
  | true =>
    rw [hc] at hg;simp only [aw] at hg;rw [bg] at hc;replace hgl:s.g=aN rest:=by(have c1:=ig.1 hc.1; have c2:=ig.1 hc.2; rw [hgl,bt c1.1,bQ c1.2,bt c2.1,bQ c2.2] <;> rfl)
    split at hg
    ·rename_i s1 hs1;simp only [a8,bn] at hg;obtain⟨rfl,rfl,rfl⟩:=hg;simp only [bv] at hb;obtain⟨k1,k2,_⟩:=hb;refine a0j.lay (bs:=[]) (args0:=[.str t]) (bs':=[]) (v0:=.tup [.agg [.nils],.z (gR t),.z (gS t),.z (dU t)]) hfr hs1 aC
      trivial fv ?_
      fun κ h1 h2=>⟨trivial,cY rfl⟩
     rw [hgl]; exact(TH t rest k1 k2)
    ·cases hg
 ·cases hg
def Ci:Gc:=fun args s=>match args,s.g with
 | [.str t],(g0,F0)::(g1,F1)::rest=>cond (Nat.beq g0 0 && aU F0 cj && (Nat.beq g1 2 && aU F1 cK)) (match s.lay [] [] [.cells (fE t) (some 5)] with
   | some s'=>some ([kg t,oR t],.tup [.agg [.slo s.n 0 (fL t) 0],.z 0,.z 0,.z 0],s')
   | none=>none) none
 | _,_=>none
theorem TB:bX prog 14 Ci:=by
 intro args s bs l s' hg hb hfr;unfold Ci at hg;split at hg
 ·rename_i t g0 F0 g1 F1 rest hgl;cases hc:(Nat.beq g0 0 && aU F0 cj && (Nat.beq g1 2 && aU F1 cK)) with
  | false=>exact eZ
  | true =>
    rw [hc] at hg;simp only [aw] at hg;rw [bg] at hc;replace hgl:s.g=aN rest:=by(have c1:=ig.1 hc.1; have c2:=ig.1 hc.2; rw [hgl,bt c1.1,bQ c1.2,bt c2.1,bQ c2.2] <;> rfl)
    split at hg
    ·rename_i s1 hs1;simp only [a8,bn] at hg;obtain⟨rfl,rfl,rfl⟩:=hg;simp only [bv] at hb;obtain⟨k1,k2,_⟩:=hb;have n1:a1u (fE t)=true:=fW _;refine a0j.lay (bs:=[]) (args0:=[.str t]) (bs':=[.cells (fE t) (some 5)]) (v0:=.tup [.agg [.slo 0 0 (fL t) 0],.z 0,.z 0,.z 0]) hfr hs1 aC
      trivial fv ?_
      fun κ h1 h2=>⟨⟨be bF,trivial⟩,(pu (aV ((tJ (aV (bC (h2 0 aC)) cA))) (aV (cH) (aV (cH) (aV (cH) cA)))))⟩
     rw [hgl]; exact(Vp t rest k1 k2)
    ·cases hg
 ·cases hg
end
end Go.Lev
