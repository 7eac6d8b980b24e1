import Derived.Test.YtnkkkihgljbllaaDoorCV4
import Derived.Test.YtnkkkihgljbllaaDoorCPA
import Derived.Test.YtnkkkihgljbllaaDoorLc
import Derived.Test.YtnkkkihgljbllaaDoorChecked
import Derived.KernelRfl
/- text: aim, readLine, split as contracts; trees of read -/
namespace Go.Lev
set_option linter.unusedSimpArgs false
set_option linter.unusedVariables false
open Go.RowKit
open Go.Proofs.Tryd (prog)
set_option maxRecDepth 100000
noncomputable section
set_option maxHeartbeats 4000000 in
theorem g1s (I:List InX) (B J:List MkX) (ln:Int) (rest:Glb) (hI:I.length≤100000) (hB:B.length≤100000) (hJ:J.length≤100000) (hP:JOk I J) :
  a0k prog 48 [.ptr 0 0] (mkS (psH I.length B.length J.length ln (a0f inC I) (a0f mkC B) (a0f mkC J)) (a1x rest)) fun l st=>l=flt (b4f B J I).1∧st=mkS (psH I.length B.length J.length ln (a0f inC (b4f B J I).2) (a0f mkC B) (a0f mkC J)) (a1x rest):=by
 obtain⟨z,hz⟩:∃ z,z=b4f B J I:=⟨_,rfl⟩
 rw [← hz]
 refine a0k.mono (a0k.h0d (Q:=fun l b=>l=flt z.1∧b=psH I.length B.length J.length ln (a0f inC z.2) (a0f mkC B) (a0f mkC J)) 41 4 2 77 aiL (by kernel_rfl) rfl rfl rfl ?_) fun l s' ⟨b0,⟨h1,h2⟩,h3⟩=>⟨h1,by rw [h3,h2]⟩
 have k2:a5h B.length (a0f mkC B)=true:=a5y hB
 have k3:a5h J.length (a0f mkC J)=true:=a5y hJ
 have nb:=a1l B; have nc:=a1l J; have na:=a1z I; have lc:=f6o J
 have g0:=fun {i:Nat} (h:i < J.length)=>g2i h
 have g1:=fun {i:Nat} (h:i < J.length)=>g2h h
 have g2:=fun {i:Nat} (h:i < J.length)=>g2g h
 have g3:=fun {i:Nat} (h:i < J.length)=>g2f h
 have fe:∀ x,d9g (a0f mkC B) x=(b0v B x).getD 0∧d2m (a0f mkC B) x=(b0v B x).isSome:=fun x=>by unfold d9g d2m; rw [a5q]; exact⟨rfl,rfl⟩
 generalize a0f mkC J=cx at *
 generalize a0f mkC B=bx at *
 refine SSp.to c5f (n:=40) (g:=a1x rest) 2 2 rfl (σ:=Unit) (fun _=>aiT J.length 0) (fun _=>aiH I.length B.length J.length ln (a0f inC I) bx cx) (a0y (Nat.le_of_ble_eq_true rfl)) (by kernel_rfl) ?_ fun _=>?_
 ·rw [g9d]; exact⟨rfl,(),[.id 0,.id 1,.id 2,.id 3,.id 4],by(exact zC)⟩
 refine SSp.code_to (g:=a1x rest) 3 rfl (σ:={X:List InX // ((0,0,0),X)=z}) (fun _=>aiT J.length J.length) (fun X=>aiH I.length B.length J.length ln (a0f inC X.1) bx cx) (by kernel_rfl) ?_ fun⟨X,hX⟩=>?_
 ·refine a0p.g9s c5f (n:=40) (n0:=4) 0 (by kernel_rfl) (σ:={p:Nat×List InX // p.1≤J.length∧p.2.length=I.length∧b4f B (J.drop p.1) p.2=z}) (fun p=>aiT J.length p.1.1) (fun p=>aiH I.length B.length J.length ln (a0f inC p.1.2) bx cx) (fun p=>J.length - p.1.1) (fun _=>Nat.le_of_ble_eq_true rfl) (fun⟨⟨i,X⟩,hi,hx,hR⟩=>?_) ⟨(0,I),Nat.zero_le _,rfl,hz.symm⟩
  dsimp only at hi hx hR ⊢
  rw [g9b]
  have nx:=a1z X; have lx:=f4i X
  have k1:b1f I.length (a0f inC X)=true:=b0e.2 ⟨X,rfl,hx,hI⟩
  by_cases h:i < J.length
  ·have wS:∀ y,asS (.str y)=y:=fun _=>rfl
   have wB:∀ y,isS (.str y)=true:=fun _=>rfl
   have v0:=g0 h; have v1:=g1 h; have v2:=g2 h; have v3:=g3 h
   have hM:=hR
   rw [c2w h] at hM
   obtain⟨p0,p1⟩:=hP J[i] (List.getElem_mem h)
   have x0:xle (i+1) J.length=true:=a1n (by omega)
   have x1:xle (i * 4+4) (J.length * 4)=true:=a1n (by omega)
   have e3:xar .add .i64 (i:Int) 1=((i+1:Nat):Int):=a7t h (by omega)
   have q1:i * 4+1+1=i * 4+2:=by omega
   have q2:i * 4+2+1=i * 4+3:=by omega
   obtain⟨f1,f2⟩:=fe J[i].nm
   have pn:a0c J[i].pl=J[i].pl.toNat:=rfl
   have pl:J[i].pl.toNat < X.length:=by omega
   simp only [show xcm .lss ((i:Nat):Int) ((J.length:Nat):Int)=true from a6j (by omega),a2w,a5j,a1o,a2g,a3e,Nat.zero_add,lc,lx,q1,q2,x0,x1,v0,v1,v2,v3,e3,a2q,a3d,wS,wB,f1,f2,k1,k2,k3,pn,show xnn J[i].pl=true from a4z.2 p0,show xle (J[i].pl.toNat+1) I.length=true from a1n (by omega),show xle (J[i].pl.toNat * 5+3+1) (X.length * 5)=true from a1n (by omega),decide_true,cond_true]
   cases hf:b0v B J[i].nm with
   | none =>
     rw [hf] at hM
     dsimp only at hM
     simp only [Option.isSome_none,show a3i false=true from rfl,cond_true]
     refine⟨trivial,rfl,4,_,_,flt (J[i].ln,J[i].cl,12),flt (J[i].ln,J[i].cl,12),psH I.length B.length J.length ln (a0f inC X) bx cx,[.id 0,.id 1,.id 2,.id 3],rfl,rfl,by kernel_rfl,⟨by rw [← hM],by rw [← hM]⟩,by(exact zC)⟩
   | some pp =>
     rw [hf] at hM
     dsimp only at hM
     have ec:=c5y (pl:=pp) pl
     have ns:=a1z (d3n X J[i].pl.toNat pp)
     simp only [Option.isSome_some,Option.getD_some,show a3i true=false from rfl,ec,cond_false]
     exact⟨rfl,⟨(i+1,d3n X J[i].pl.toNat pp),by omega,by rw [b8n]; exact hx,hM⟩,by dsimp only; omega,[.id 0,.id 1,.id 2,.id 3,.id 4],by(exact zC)⟩
  ·simp only [show xcm .lss ((i:Nat):Int) ((J.length:Nat):Int)=false from a6h (by omega),cond_false]
   have ei:i=J.length:=by omega
   have hM:=hR
   rw [ei,List.drop_length] at hM
   subst ei
   exact⟨rfl,⟨X,hM⟩,[.id 0,.id 1,.id 2,.id 3,.id 4],by(exact zC)⟩
 dsimp only at hX ⊢
 have nx:=a1z X
 refine SSp.last c5f (n:=40) (a0y (Nat.le_of_ble_eq_true rfl)) ?_
 rw [g9a]
 exact⟨trivial,rfl,4,_,_,flt (0,0,0),flt (0,0,0),psH I.length B.length J.length ln (a0f inC X) bx cx,[.id 0,.id 1,.id 2,.id 3],rfl,rfl,by kernel_rfl,⟨by rw [← hX],by rw [← hX]⟩,by(exact zC)⟩
def okJ (ax cx:List LV):Bool:=@decide (JOk (inD ax) (mkD cx)) (Classical.propDecidable _)
def f1a (ax bx cx:List LV):Int:=(b4f (mkD bx) (mkD cx) (inD ax)).1.1
def f1c (ax bx cx:List LV):Int:=(b4f (mkD bx) (mkD cx) (inD ax)).1.2.1
def f1b (ax bx cx:List LV):Int:=(b4f (mkD bx) (mkD cx) (inD ax)).1.2.2
def f1d (ax bx cx:List LV):List LV:=a0f inC (b4f (mkD bx) (mkD cx) (inD ax)).2
theorem g9c (ni nl nj:Nat) (ln:Int) (ax bx cx:List LV) (rest:Glb) (k1:b1f ni ax=true) (k2:a5h nl bx=true) (k3:a5h nj cx=true) (k4:okJ ax cx=true) :
  a0k prog 48 [.ptr 0 0] (mkS (psH ni nl nj ln ax bx cx) (a1x rest)) fun l st=>l=.agg [.int .i64 (f1a ax bx cx),.int .i64 (f1c ax bx cx),.int .i64 (f1b ax bx cx)]∧st=mkS (psH ni nl nj ln (f1d ax bx cx) bx cx) (a1x rest):=by
 obtain⟨I,rfl,rfl,hI⟩:=b0e.1 k1
 obtain⟨B,rfl,rfl,hB⟩:=a4y.1 k2
 obtain⟨J,rfl,rfl,hJ⟩:=a4y.1 k3
 simp only [okJ,decide_eq_true_eq,a9a,a5q] at k4
 simp only [f1a,f1c,f1b,f1d,a9a,a5q]
 exact g1s I B J ln rest hI hB hJ k4
def aiG:Gc:=fun args s=>match args,s.g with
 | [.ptr p 0],(g0,F0)::(g1,F1)::rest=>cond (Nat.beq g0 0 && a2x F0 a2h && (Nat.beq g1 2 && a2x F1 a2n)) (match s.h.get p with
   | some (.cells [.slo a 0 ni 0,.slo b 0 nl 0,.slo c 0 nj 0,.int .i64 ln] none)=>(match s.h.get a with
     | some (.cells ax (some 5))=>(match s.h.get b with
       | some (.cells bx (some 4))=>(match s.h.get c with
         | some (.cells cx (some 4))=>cond (a3q [p,a,b,c]) (match s.lay [p,a,b,c] [.cells [.slo a 0 ni 0,.slo b 0 nl 0,.slo c 0 nj 0,.int .i64 ln] none,.cells (f1d ax bx cx) (some 5),.cells bx (some 4),.cells cx (some 4)] [] with
           | some s'=>some ([b1f ni ax,a5h nl bx,a5h nj cx,okJ ax cx],.agg [.int .i64 (f1a ax bx cx),.int .i64 (f1c ax bx cx),.int .i64 (f1b ax bx cx)],s')
           | none=>none) none
         | _=>none)
       | _=>none)
     | _=>none)
   | _=>none) none
 | _,_=>none
theorem f5y:GOk prog 48 aiG:=by
 intro args s bs l s' hg hb hfr
 unfold aiG at hg
 split at hg
 ·rename_i p g0 F0 g1 F1 rest hgl
  cases hc:(Nat.beq g0 0 && a2x F0 a2h && (Nat.beq g1 2 && a2x F1 a2n)) with
  | false=>rw [hc] at hg; cases hg
  | true =>
    rw [hc] at hg
    simp only [cond_true] at hg
    rw [Bool.and_eq_true] at hc
    replace hgl:s.g=a1x rest:=by(have c1:=Bool.and_eq_true_iff.1 hc.1; have c2:=Bool.and_eq_true_iff.1 hc.2; rw [hgl,Nat.eq_of_beq_eq_true c1.1,a1f c1.2,Nat.eq_of_beq_eq_true c2.1,a1f c2.2] <;> rfl)
    split at hg
    ·rename_i a ni b nl c nj ln hb0
     split at hg
     ·rename_i ax hb1
      split at hg
      ·rename_i bx hb2
       split at hg
       ·rename_i cx hb3
        cases hbc:a3q [p,a,b,c] with
        | false=>rw [hbc] at hg; cases hg
        | true =>
          rw [hbc] at hg
          simp only [cond_true] at hg
          split at hg
          ·rename_i s1 hs1
           simp only [Option.some.injEq,Prod.mk.injEq] at hg
           obtain⟨rfl,rfl,rfl⟩:=hg
           simp only [a0g] at hb
           obtain⟨k1,k2,k3,k4,_⟩:=hb
           have n1:=a8r k1; have n2:=a3u k2; have n3:=a3u k3; have n4:=a1z (b4f (mkD bx) (mkD cx) (inD ax)).2
           refine a0k.lay (bs:=[.cells [.slo 1 0 ni 0,.slo 2 0 nl 0,.slo 3 0 nj 0,.int .i64 ln] none,.cells ax (some 5),.cells bx (some 4),.cells cx (some 4)]) (args0:=[.ptr 0 0]) (bs':=[.cells [.slo 1 0 ni 0,.slo 2 0 nl 0,.slo 3 0 nj 0,.int .i64 ln] none,.cells (f1d ax bx cx) (some 5),.cells bx (some 4),.cells cx (some 4)]) (v0:=.agg [.int .i64 (f1a ax bx cx),.int .i64 (f1c ax bx cx),.int .i64 (f1b ax bx cx)]) hfr hs1 (a4t hbc)
            ⟨⟨a3j hfr hb0,_,hb0,by first | exact a0e rfl | exact a0o (a0d (a0n rfl) (a0d (a0n rfl) (a0d (a0n rfl) (a0d (a1u) a0u)))) (by simp),fun κ hκ=>a0o (a0d (a0n (hκ 1 a rfl)) (a0d (a0n (hκ 2 b rfl)) (a0d (a0n (hκ 3 c rfl)) (a0d (a1u) a0u)))) (by simp)⟩,⟨a3j hfr hb1,_,hb1,a0e (by(exact zId)),fun κ hκ=>a0e (by(exact zId))⟩,⟨a3j hfr hb2,_,hb2,a0e (by(exact zId)),fun κ hκ=>a0e (by(exact zId))⟩,⟨a3j hfr hb3,_,hb3,a0e (by(exact zId)),fun κ hκ=>a0e (by(exact zId))⟩,trivial⟩ (by(exact zTl)) ?_
            fun κ h1 h2=>⟨⟨a0o (a0d (a0n (h1 1 a rfl)) (a0d (a0n (h1 2 b rfl)) (a0d (a0n (h1 3 c rfl)) (a0d (a1u) a0u)))) (by simp),a0e (n4),a0e (by(exact zId)),a0e (by(exact zId)),trivial⟩,a1b rfl⟩
           rw [hgl]; exact(g9c ni nl nj ln ax bx cx rest k1 k2 k3 k4)
          ·cases hg
       ·cases hg
      ·cases hg
     ·cases hg
    ·cases hg
 ·cases hg
def rnV (F:World→Prop) (v:Value) (e ln:Int) (ax bx cx:List LV):(Int×Int×Int)×List InX×List MkX×List MkX:=rnZ ⟨f6f F v,e⟩ ln (inD ax) (mkD bx) (mkD cx)
def d5r (F:World→Prop) (v:Value) (e ln:Int) (ax bx cx:List LV):Int:=(rnV F v e ln ax bx cx).1.1
def d5s (F:World→Prop) (v:Value) (e ln:Int) (ax bx cx:List LV):Int:=(rnV F v e ln ax bx cx).1.2.1
def d4j (F:World→Prop) (v:Value) (e ln:Int) (ax bx cx:List LV):Int:=(rnV F v e ln ax bx cx).1.2.2
def d7y (F:World→Prop) (v:Value) (e ln:Int) (ax bx cx:List LV):Nat:=(rnV F v e ln ax bx cx).2.1.length
def d7w (F:World→Prop) (v:Value) (e ln:Int) (ax bx cx:List LV):Nat:=(rnV F v e ln ax bx cx).2.2.1.length
def d7x (F:World→Prop) (v:Value) (e ln:Int) (ax bx cx:List LV):Nat:=(rnV F v e ln ax bx cx).2.2.2.length
def d8b (F:World→Prop) (v:Value) (e ln:Int) (ax bx cx:List LV):List LV:=a0f inC (rnV F v e ln ax bx cx).2.1
def d8a (F:World→Prop) (v:Value) (e ln:Int) (ax bx cx:List LV):List LV:=a0f mkC (rnV F v e ln ax bx cx).2.2.1
def d7z (F:World→Prop) (v:Value) (e ln:Int) (ax bx cx:List LV):List LV:=a0f mkC (rnV F v e ln ax bx cx).2.2.2
theorem g5h (F:World→Prop) (v:Value) (e:Int) (ni nl nj:Nat) (ln:Int) (ax bx cx:List LV) (rest:Glb) (k1:b1f ni ax=true) (k2:a5h nl bx=true) (k3:a5h nj cx=true) (k4:d1b F v=true) (k5:ni≤99980) (k6:nl≤99980) (k7:nj≤99980) :
  a0k prog 47 [.ptr 0 0,.agg [.val v,.int .i64 e]] (mkS (psH ni nl nj ln ax bx cx++[.obj stF [.fact F] 5,.dead]) (a1x rest)) fun l st=>l=.agg [.int .i64 (d5r F v e ln ax bx cx),.int .i64 (d5s F v e ln ax bx cx),.int .i64 (d4j F v e ln ax bx cx)]∧st=mkS (rnO (d7y F v e ln ax bx cx) (d7w F v e ln ax bx cx) (d7x F v e ln ax bx cx) ln (d8b F v e ln ax bx cx) (d8a F v e ln ax bx cx) (d7z F v e ln ax bx cx) F) (a1x rest):=by
 obtain⟨I,rfl,rfl,hI⟩:=b0e.1 k1
 obtain⟨B,rfl,rfl,hB⟩:=a4y.1 k2
 obtain⟨J,rfl,rfl,hJ⟩:=a4y.1 k3
 obtain⟨ws,hw⟩:=b4r.1 k4
 simp only [d5r,d5s,d4j,d7y,d7w,d7x,d8b,d8a,d7z,rnV,b8g hw,a9a,a5q]
 exact f8j F v ⟨ws,e⟩ ln I B J rest hw k5 k6 k7
def rnG:Gc:=fun args s=>match args,s.g with
 | [.ptr p 0,.agg [.val v,.int .i64 e]],(g0,F0)::(g1,F1)::rest=>cond (Nat.beq g0 0 && a2x F0 a2h && (Nat.beq g1 2 && a2x F1 a2n)) (match storeAt s with
   | some d=>(match s.h.get p with
     | some (.cells [.slo a 0 ni 0,.slo b 0 nl 0,.slo c 0 nj 0,.int .i64 ln] none)=>(match s.h.get a with
       | some (.cells ax (some 5))=>(match s.h.get b with
         | some (.cells bx (some 4))=>(match s.h.get c with
           | some (.cells cx (some 4))=>(match s.h.get d with
             | some (.obj F_d [.fact F] z9)=>(match s.h.get z9 with
               | some (.dead)=>cond (a3q [p,a,b,c,d,z9]) (match s.lay [p,a,b,c,d,z9] [.cells [.slo s.n 0 (d7y F v e ln ax bx cx) 0,.slo (Nat.succ s.n) 0 (d7w F v e ln ax bx cx) 0,.slo (Nat.succ (Nat.succ s.n)) 0 (d7x F v e ln ax bx cx) 0,.int .i64 ln] none,.dead,.dead,.dead,.obj stF [.fact F] z9,.dead] [.cells (d8b F v e ln ax bx cx) (some 5),.cells (d8a F v e ln ax bx cx) (some 4),.cells (d7z F v e ln ax bx cx) (some 4)] with
                 | some s'=>some ([b1f ni ax,a5h nl bx,a5h nj cx,d1b F v,xle ni 99980,xle nl 99980,xle nj 99980,isF F_d stF],.agg [.int .i64 (d5r F v e ln ax bx cx),.int .i64 (d5s F v e ln ax bx cx),.int .i64 (d4j F v e ln ax bx cx)],s')
                 | none=>none) none
               | _=>none)
             | _=>none)
           | _=>none)
         | _=>none)
       | _=>none)
     | _=>none)
   | none=>none) none
 | _,_=>none
theorem f2k:GOk prog 47 rnG:=by
 intro args s bs l s' hg hb hfr
 unfold rnG at hg
 split at hg
 ·rename_i p v e g0 F0 g1 F1 rest hgl
  cases hc:(Nat.beq g0 0 && a2x F0 a2h && (Nat.beq g1 2 && a2x F1 a2n)) with
  | false=>rw [hc] at hg; cases hg
  | true =>
    rw [hc] at hg
    simp only [cond_true] at hg
    rw [Bool.and_eq_true] at hc
    replace hgl:s.g=a1x rest:=by(have c1:=Bool.and_eq_true_iff.1 hc.1; have c2:=Bool.and_eq_true_iff.1 hc.2; rw [hgl,Nat.eq_of_beq_eq_true c1.1,a1f c1.2,Nat.eq_of_beq_eq_true c2.1,a1f c2.2] <;> rfl)
    split at hg
    ·rename_i d hfd
     split at hg
     ·rename_i a ni b nl c nj ln hb0
      split at hg
      ·rename_i ax hb1
       split at hg
       ·rename_i bx hb2
        split at hg
        ·rename_i cx hb3
         split at hg
         ·rename_i F_d F z9 hb4
          split at hg
          ·rename_i  hb5
           cases hbc:a3q [p,a,b,c,d,z9] with
           | false=>rw [hbc] at hg; cases hg
           | true =>
             rw [hbc] at hg
             simp only [cond_true] at hg
             split at hg
             ·rename_i s1 hs1
              simp only [Option.some.injEq,Prod.mk.injEq] at hg
              obtain⟨rfl,rfl,rfl⟩:=hg
              simp only [a0g] at hb
              obtain⟨k1,k2,k3,k4,k5,k6,k7,k8,_⟩:=hb
              have e_d:=d6q k8
              subst e_d
              have n1:=a8r k1; have n2:=a3u k2; have n3:=a3u k3; have n4:=a1z (rnV F v e ln ax bx cx).2.1; have n5:=a1l (rnV F v e ln ax bx cx).2.2.1; have n6:=a1l (rnV F v e ln ax bx cx).2.2.2
              refine a0k.lay (bs:=[.cells [.slo 1 0 ni 0,.slo 2 0 nl 0,.slo 3 0 nj 0,.int .i64 ln] none,.cells ax (some 5),.cells bx (some 4),.cells cx (some 4),.obj stF [.fact F] 5,.dead]) (args0:=[.ptr 0 0,.agg [.val v,.int .i64 e]]) (bs':=[.cells [.slo 6 0 (d7y F v e ln ax bx cx) 0,.slo 7 0 (d7w F v e ln ax bx cx) 0,.slo 8 0 (d7x F v e ln ax bx cx) 0,.int .i64 ln] none,.dead,.dead,.dead,.obj stF [.fact F] 5,.dead,.cells (d8b F v e ln ax bx cx) (some 5),.cells (d8a F v e ln ax bx cx) (some 4),.cells (d7z F v e ln ax bx cx) (some 4)]) (v0:=.agg [.int .i64 (d5r F v e ln ax bx cx),.int .i64 (d5s F v e ln ax bx cx),.int .i64 (d4j F v e ln ax bx cx)]) hfr hs1 (a4t hbc)
               ⟨⟨a3j hfr hb0,_,hb0,by first | exact a0e rfl | exact a0o (a0d (a0n rfl) (a0d (a0n rfl) (a0d (a0n rfl) (a0d (a1u) a0u)))) (by simp),fun κ hκ=>a0o (a0d (a0n (hκ 1 a rfl)) (a0d (a0n (hκ 2 b rfl)) (a0d (a0n (hκ 3 c rfl)) (a0d (a1u) a0u)))) (by simp)⟩,⟨a3j hfr hb1,_,hb1,a0e (by(exact zId)),fun κ hκ=>a0e (by(exact zId))⟩,⟨a3j hfr hb2,_,hb2,a0e (by(exact zId)),fun κ hκ=>a0e (by(exact zId))⟩,⟨a3j hfr hb3,_,hb3,a0e (by(exact zId)),fun κ hκ=>a0e (by(exact zId))⟩,⟨a3j hfr hb4,_,hb4,a2m rfl,fun κ hκ=>a2m (hκ 5 z9 rfl)⟩,⟨a3j hfr hb5,_,hb5,a1e,fun κ hκ=>a1e⟩,trivial⟩ (by(exact zTl)) ?_
               fun κ h1 h2=>⟨⟨a0o (a0d (a0n (h2 0 (by simp))) (a0d (a0n (h2 1 (by simp))) (a0d (a0n (h2 2 (by simp))) (a0d (a1u) a0u)))) (by simp),a1e,a1e,a1e,a2m (h1 5 z9 rfl),a1e,a0e (n4),a0e (n5),a0e (n6),trivial⟩,a1b rfl⟩
              rw [hgl]; exact(g5h F v e ni nl nj ln ax bx cx rest k1 k2 k3 k4 (a2a.1 k5) (a2a.1 k6) (a2a.1 k7))
             ·cases hg
          ·cases hg
         ·cases hg
        ·cases hg
       ·cases hg
      ·cases hg
     ·cases hg
    ·cases hg
 ·cases hg
def lnK (t:List UInt8):Kd:={ σ:={p:SQ×List LnV // StL p.1 p.2∧p.2.map LnV.s=spA t∧spA t≠[]},enc:=fun _=>[],sh:=fun p _ k=>(.cells (a0f lnC p.1.2) (some 2),[stB p.1.1 (k+1),.dead]) }
theorem d6m (t:List UInt8):(lnK t).Ok:=by
 refine⟨fun v b k b' k' ρ hb hρ=>?_,fun v b k=>?_⟩
 ·have h1:=hρ 1 (by show 1 < 2; omega)
  obtain⟨⟨⟨F,e,h⟩,ls⟩,hS,hn⟩:=v
  refine b9u (a0e (a5z ls)) (b9u ?_ (b9u a1e d6z))
  cases e
  ·exact a2m h1
  ·exact a1e
 ·obtain⟨⟨q,ls⟩,hS,hn,hne⟩:=v
  cases ls with
  | nil=>exact absurd hn.symm hne
  | cons x r=>exact⟨_,_,_,rfl⟩
def lnO (t:List UInt8):OP:=(lnK t).F
def okT (t:List UInt8):Bool:=decide (1≤t.length) && decide (t.length≤4000)
def spn (t:List UInt8):Nat:=(spA t).length
theorem b5v {t:List UInt8}:okT t=true↔1≤t.length∧t.length≤4000:=by simp [okT]
theorem f2c (t:List UInt8):∀ (n p:Nat) (S:SpS),t.length - p=n→(1≤S.c)→(p < t.length∨1 < S.c)→spG t p S≠[]:=by
 intro n
 induction n using Nat.strongRecOn with
 | _ n ih =>
   intro p S hn hc h
   rw [spG]
   split
   ·rename_i hp
    have hw:=b1o hp
    split
    ·simp
    ·refine ih (t.length - (p+xrw t p)) (by omega) _ _ rfl ?_ (.inr ?_)
     ·unfold spR; split <;> (try split) <;> (try split) <;> (try split) <;> simp only <;> omega
     ·unfold spR; split <;> (try split) <;> (try split) <;> (try split) <;> simp only <;> omega
   ·rw [if_pos (by omega)]; simp
theorem f2d {t:List UInt8} (h:1≤t.length):spA t≠[]:=f2c t _ 0 spZ rfl (by simp [spZ]) (.inl (by omega))
theorem f7g (t:List UInt8) (k1:okT t=true):a0k prog 46 [.str t] (mkS [] []) fun l s=>l=.slo 0 0 (spn t) 0∧s=mkS [.obj (lnO t) [] 1,.dead] []:=by
 obtain⟨h1,h2⟩:=b5v.1 k1
 refine a0k.h0a (K:=lnK t) (bs:=[]) (B:=[.dead]) (cs:=[]) (l:=.slo 0 0 (spn t) 0) (g:=[]) (d6m t) 0 (by simp) (by simp) (fun ρ h=>⟨b9u a1e d6z,a0n (h 0 (by simp))⟩) ?_
 refine a0k.mono (d4e t h2) fun l s ⟨q,ls,hS,hn,e1,e2⟩=>?_
 refine⟨_,⟨by rw [e1,spn,← hn,List.length_map],⟨(q,ls),hS,hn,f2d h1⟩,rfl,rfl⟩,e2⟩
def f7h:Gc:=fun args s=>match args,s.g with
 | [.str t],[]=>(match s.lay [] [] [.obj (lnO t) [] (Nat.succ s.n),.dead] with
   | some s'=>some ([okT t],.slo s.n 0 (spn t) 0,s')
   | none=>none)
 | _,_=>none
theorem d7o:GOk prog 46 f7h:=by
 intro args s bs l s' hg hb hfr
 unfold f7h at hg
 split at hg
 ·rename_i t hgl
  split at hg
  ·rename_i s1 hs1
   simp only [Option.some.injEq,Prod.mk.injEq] at hg
   obtain⟨rfl,rfl,rfl⟩:=hg
   simp only [a0g] at hb
   obtain⟨k1,_⟩:=hb
   refine a0k.lay (bs:=[]) (args0:=[.str t]) (bs':=[.obj (lnO t) [] 1,.dead]) (v0:=.slo 0 0 (spn t) 0) hfr hs1 (by simp)
    trivial (by(exact zTl)) ?_
    fun κ h1 h2=>⟨⟨a2m (h2 1 (by simp)),a1e,trivial⟩,a0n (h2 0 (by simp))⟩
   rw [hgl]; exact(f7g t k1)
  ·cases hg
 ·cases hg
def f5h:Cx:=cxl [(46,b1a f7h),(47,rnG),(48,aiG)]
abbrev rdL:List Nat:=[0,4,9,10,11]
abbrev rdT (v:Value) (n i:Nat):List (Nat×LV):=[(0,.ptr 0 0),(4,.ptr 1 0),(9,.val v),(10,.int .i64 n),(11,.int .i64 i)]
abbrev rdH (ni nl nj:Nat) (ln:Int) (ax bx cx:List LV) (F:World→Prop):List LB:=[.cells [.slo 4 0 ni 0,.slo 5 0 nl 0,.slo 6 0 nj 0,.int .i64 ln] none,.cells [.int .i64 0,.int .i64 0,.int .i64 0] none,.obj stF [.fact F] 3,.dead,.cells ax (some 5),.cells bx (some 4),.cells cx (some 4)]
theorem b9p:a3w prog (a2z f5h):=a6i ⟨a4j d7o,f2k,f5y,trivial⟩
theorem g5t (t:List UInt8) (rest:Glb) (K:Pk):(xsp prog f5h 40 31 (seg (sp prog 31) 0 2) (tm0 [.ptr 0 0,.str t]) (mkS [.cells [.nils,.nils,.nils,.int .i64 0] none] (a1x rest)) (vK rdL K))=(
 ck (okT t) <|
 K .normal [.ptr 0 0,.ptr 1 0,.slo 2 0 (spn t) 0,.int .i64 ↑(spn t),.int .i64 0] [sN [.nils,.nils,.nils,.int .i64 0],sN [.int .i64 0,.int .i64 0,.int .i64 0],some (.obj (lnO t) [] 3),sD] (a1x rest)):=by kernel_rfl
theorem g5q (t:List UInt8) (v:Value) (n:Nat) (F:World→Prop) (rest:Glb) (K:Pk):(xsp prog f5h 40 31 (seg (sp prog 31) 2 0) (a1p 31 [(9,.val v),(0,.ptr 0 0),(4,.ptr 1 0),(9,.slo 2 0 n 0),(10,.int .i64 n),(11,.int .i64 0)]) (mkS [.cells [.nils,.nils,.nils,.int .i64 0] none,.cells [.int .i64 0,.int .i64 0,.int .i64 0] none,.dead,.dead,.dead,.dead,.obj stF [.fact F] 7,.dead] (a1x rest)) (vK rdL K))=(
 K .normal [.ptr 0 0,.ptr 1 0,.val v,.int .i64 ↑n,.int .i64 0] [sN [.nils,.nils,.nils,.int .i64 0],sN [.int .i64 0,.int .i64 0,.int .i64 0],sD,sD,sD,sD,some (.obj stF [.fact F] 7),sD] (a1x rest)):=by kernel_rfl
theorem g5r (ni nl nj n i:Nat) (ln:Int) (ax bx cx:List LV) (F:World→Prop) (v:Value) (rest:Glb) (K:Pk):(a1h prog f5h 40 31 (a1w (a4i (sp prog 31) 2)) (a1p 31 (rdT v n i)) (mkS (rdH ni nl nj ln ax bx cx F) (a1x rest)) (vK rdL K))=(
 bif xcm .lss ↑i ↑n then(
 ck (b7a v (a0c ↑i)) <|
 ck (a7o F v (a1t (a0c ↑i) 2) 2) <|
 ck (xle 2 (xln (a0i F v (a1t (a0c ↑i) 2) 2))) <|
 ck (isV (a0b (a0i F v (a1t (a0c ↑i) 2) 2) 0)) <|
 ck (isI .i64 (a0b (a0i F v (a1t (a0c ↑i) 2) 2) 1)) <|
 ck (b1f ni ax) <|
 ck (a5h nl bx) <|
 ck (a5h nj cx) <|
 ck (d1b F (asV (a0b (a0i F v (a1t (a0c ↑i) 2) 2) 0))) <|
 ck (xle ni 99980) <|
 ck (xle nl 99980) <|
 ck (xle nj 99980) <|
 ck (isF stF stF) <|
 bif xcm .neq (d4j F (asV (a0b (a0i F v (a1t (a0c ↑i) 2) 2) 0)) (asI (a0b (a0i F v (a1t (a0c ↑i) 2) 2) 1)) (xar .add .i64 (↑i) 1) ax bx cx) 0 then(
 K .ret [.ptr 0 0,.ptr 1 0,.val v,.int .i64 ↑n,.int .i64 ↑i] [sN [.slo 8 0 (d7y F (asV (a0b (a0i F v (a1t (a0c ↑i) 2) 2) 0)) (asI (a0b (a0i F v (a1t (a0c ↑i) 2) 2) 1)) (xar .add .i64 (↑i) 1) ax bx cx) 0,.slo 9 0 (d7w F (asV (a0b (a0i F v (a1t (a0c ↑i) 2) 2) 0)) (asI (a0b (a0i F v (a1t (a0c ↑i) 2) 2) 1)) (xar .add .i64 (↑i) 1) ax bx cx) 0,.slo 10 0 (d7x F (asV (a0b (a0i F v (a1t (a0c ↑i) 2) 2) 0)) (asI (a0b (a0i F v (a1t (a0c ↑i) 2) 2) 1)) (xar .add .i64 (↑i) 1) ax bx cx) 0,.int .i64 (xar .add .i64 (↑i) 1)],sN [.int .i64 (d5r F (asV (a0b (a0i F v (a1t (a0c ↑i) 2) 2) 0)) (asI (a0b (a0i F v (a1t (a0c ↑i) 2) 2) 1)) (xar .add .i64 (↑i) 1) ax bx cx),.int .i64 (d5s F (asV (a0b (a0i F v (a1t (a0c ↑i) 2) 2) 0)) (asI (a0b (a0i F v (a1t (a0c ↑i) 2) 2) 1)) (xar .add .i64 (↑i) 1) ax bx cx),.int .i64 (d4j F (asV (a0b (a0i F v (a1t (a0c ↑i) 2) 2) 0)) (asI (a0b (a0i F v (a1t (a0c ↑i) 2) 2) 1)) (xar .add .i64 (↑i) 1) ax bx cx)],some (.obj stF [.fact F] 3),sD,sD,sD,sD,sN [.val (asV (a0b (a0i F v (a1t (a0c ↑i) 2) 2) 0)),.int .i64 (asI (a0b (a0i F v (a1t (a0c ↑i) 2) 2) 1))],sC (d8b F (asV (a0b (a0i F v (a1t (a0c ↑i) 2) 2) 0)) (asI (a0b (a0i F v (a1t (a0c ↑i) 2) 2) 1)) (xar .add .i64 (↑i) 1) ax bx cx) 5,sC (d8a F (asV (a0b (a0i F v (a1t (a0c ↑i) 2) 2) 0)) (asI (a0b (a0i F v (a1t (a0c ↑i) 2) 2) 1)) (xar .add .i64 (↑i) 1) ax bx cx) 4,sC (d7z F (asV (a0b (a0i F v (a1t (a0c ↑i) 2) 2) 0)) (asI (a0b (a0i F v (a1t (a0c ↑i) 2) 2) 1)) (xar .add .i64 (↑i) 1) ax bx cx) 4,sN [.int .i64 (d5r F (asV (a0b (a0i F v (a1t (a0c ↑i) 2) 2) 0)) (asI (a0b (a0i F v (a1t (a0c ↑i) 2) 2) 1)) (xar .add .i64 (↑i) 1) ax bx cx),.int .i64 (d5s F (asV (a0b (a0i F v (a1t (a0c ↑i) 2) 2) 0)) (asI (a0b (a0i F v (a1t (a0c ↑i) 2) 2) 1)) (xar .add .i64 (↑i) 1) ax bx cx),.int .i64 (d4j F (asV (a0b (a0i F v (a1t (a0c ↑i) 2) 2) 0)) (asI (a0b (a0i F v (a1t (a0c ↑i) 2) 2) 1)) (xar .add .i64 (↑i) 1) ax bx cx)]] (a1x rest))
 else(
 K .normal [.ptr 0 0,.ptr 1 0,.val v,.int .i64 ↑n,.int .i64 (xar .add .i64 (↑i) 1)] [sN [.slo 8 0 (d7y F (asV (a0b (a0i F v (a1t (a0c ↑i) 2) 2) 0)) (asI (a0b (a0i F v (a1t (a0c ↑i) 2) 2) 1)) (xar .add .i64 (↑i) 1) ax bx cx) 0,.slo 9 0 (d7w F (asV (a0b (a0i F v (a1t (a0c ↑i) 2) 2) 0)) (asI (a0b (a0i F v (a1t (a0c ↑i) 2) 2) 1)) (xar .add .i64 (↑i) 1) ax bx cx) 0,.slo 10 0 (d7x F (asV (a0b (a0i F v (a1t (a0c ↑i) 2) 2) 0)) (asI (a0b (a0i F v (a1t (a0c ↑i) 2) 2) 1)) (xar .add .i64 (↑i) 1) ax bx cx) 0,.int .i64 (xar .add .i64 (↑i) 1)],sN [.int .i64 0,.int .i64 0,.int .i64 0],some (.obj stF [.fact F] 3),sD,sD,sD,sD,sN [.val (asV (a0b (a0i F v (a1t (a0c ↑i) 2) 2) 0)),.int .i64 (asI (a0b (a0i F v (a1t (a0c ↑i) 2) 2) 1))],sC (d8b F (asV (a0b (a0i F v (a1t (a0c ↑i) 2) 2) 0)) (asI (a0b (a0i F v (a1t (a0c ↑i) 2) 2) 1)) (xar .add .i64 (↑i) 1) ax bx cx) 5,sC (d8a F (asV (a0b (a0i F v (a1t (a0c ↑i) 2) 2) 0)) (asI (a0b (a0i F v (a1t (a0c ↑i) 2) 2) 1)) (xar .add .i64 (↑i) 1) ax bx cx) 4,sC (d7z F (asV (a0b (a0i F v (a1t (a0c ↑i) 2) 2) 0)) (asI (a0b (a0i F v (a1t (a0c ↑i) 2) 2) 1)) (xar .add .i64 (↑i) 1) ax bx cx) 4,sN [.int .i64 (d5r F (asV (a0b (a0i F v (a1t (a0c ↑i) 2) 2) 0)) (asI (a0b (a0i F v (a1t (a0c ↑i) 2) 2) 1)) (xar .add .i64 (↑i) 1) ax bx cx),.int .i64 (d5s F (asV (a0b (a0i F v (a1t (a0c ↑i) 2) 2) 0)) (asI (a0b (a0i F v (a1t (a0c ↑i) 2) 2) 1)) (xar .add .i64 (↑i) 1) ax bx cx),.int .i64 (d4j F (asV (a0b (a0i F v (a1t (a0c ↑i) 2) 2) 0)) (asI (a0b (a0i F v (a1t (a0c ↑i) 2) 2) 1)) (xar .add .i64 (↑i) 1) ax bx cx)]] (a1x rest)))
 else(
 K (.exit 0) [.ptr 0 0,.ptr 1 0,.val v,.int .i64 ↑n,.int .i64 ↑i] [sN [.slo 4 0 ni 0,.slo 5 0 nl 0,.slo 6 0 nj 0,.int .i64 ln],sN [.int .i64 0,.int .i64 0,.int .i64 0],some (.obj stF [.fact F] 3),sD,sC ax 5,sC bx 4,sC cx 4] (a1x rest))):=by kernel_rfl
theorem g5p (ni nl nj n i:Nat) (ln:Int) (ax bx cx:List LV) (F:World→Prop) (v:Value) (rest:Glb) (K:Pk):(xsp prog f5h 40 31 ((sp prog 31).drop 3) (a1p 31 (rdT v n i)) (mkS (rdH ni nl nj ln ax bx cx F) (a1x rest)) (vK rdL K))=(
 ck (b1f ni ax) <|
 ck (a5h nl bx) <|
 ck (a5h nj cx) <|
 ck (okJ ax cx) <|
 K .ret [.ptr 0 0,.ptr 1 0,.val v,.int .i64 ↑n,.int .i64 ↑i] [sN [.slo 4 0 ni 0,.slo 5 0 nl 0,.slo 6 0 nj 0,.int .i64 ln],sN [.int .i64 (f1a ax bx cx),.int .i64 (f1c ax bx cx),.int .i64 (f1b ax bx cx)],some (.obj stF [.fact F] 3),sD,sC (f1d ax bx cx) 5,sC bx 4,sC cx 4] (a1x rest)):=by kernel_rfl
end
end Go.Lev
/- text: read -/
namespace Go.Lev
set_option linter.unusedSimpArgs false
set_option linter.unusedVariables false
open Go.RowKit
open Go.Proofs.Tryd (prog)
set_option maxRecDepth 100000
noncomputable section
def rdF:List LnS→Nat→List InX→List MkX→List MkX→(Int×Int×Int)×List InX×List MkX×List MkX×Int
 | [],i,I,B,J=>((b4f B J I).1,(b4f B J I).2,B,J,i)
 | L::r,i,I,B,J=>if(rnZ L ((i+1:Nat):Int) I B J).1.2.2≠0 then((rnZ L ((i+1:Nat):Int) I B J).1,(rnZ L ((i+1:Nat):Int) I B J).2.1,(rnZ L ((i+1:Nat):Int) I B J).2.2.1,(rnZ L ((i+1:Nat):Int) I B J).2.2.2,((i+1:Nat):Int))
   else rdF r (i+1) (rnZ L ((i+1:Nat):Int) I B J).2.1 (rnZ L ((i+1:Nat):Int) I B J).2.2.1 (rnZ L ((i+1:Nat):Int) I B J).2.2.2
def rdZ (t:List UInt8):(Int×Int×Int)×List InX×List MkX×List MkX×Int:=rdF (spA t) 0 [] [] []
theorem b9x (B:List MkX):∀ (J:List MkX) (I:List InX),(b4f B J I).2.length=I.length
 | [],I=>rfl
 | j::r,I=>by
   unfold b4f
   split
   ·rfl
   ·rw [b9x B r,b8n]
theorem d0d {k:Int} {w:Wd} {ni:Nat} {ln:Int} {J:List MkX} {j:MkX} (h:j∈rsJ k w ni ln J):j∈J∨j.pl=ni:=by
 unfold rsJ at h
 split at h
 ·rcases List.mem_append.1 h with h | h
  ·exact .inl h
  ·rw [List.mem_singleton.1 h]; exact .inr rfl
 ·exact .inl h
theorem d8d {e ln:Int} {ni:Nat}:∀ (L:List (Int×Int)) (ws:List Wd) (x:InX) (J:List MkX),(riS e ln ni L ws x J).2.2.2.length≤J.length+L.length∧∀ j∈(riS e ln ni L ws x J).2.2.2,j∈J∨j.pl=ni
 | [],ws,x,J=>by simp [riS]; exact fun j h=>.inl h
 | (i,k)::r,ws,x,J=>by
   by_cases h:k=0
   ·rw [c7y h]
    have:=d8d (e:=e) (ln:=ln) (ni:=ni) r ws x J
    exact⟨by simp; omega,this.2⟩
   ·cases ws with
    | nil=>rw [c7w h]; exact⟨by simp,fun j h=>.inl h⟩
    | cons w ws =>
      rw [c7x h]
      have hl:=b5r k w ni ln J
      split
      ·have:=d8d (e:=e) (ln:=ln) (ni:=ni) r ws (rsX i k w x) (rsJ k w ni ln J)
       refine⟨by simp; omega,fun j hj=>?_⟩
       rcases this.2 j hj with h1 | h1
       ·exact d0d h1
       ·exact .inr h1
      ·exact⟨by simp; omega,fun j hj=>d0d hj⟩
theorem f2o {s:List UInt8} {w e ln:Int} {ws:List Wd} {I:List InX} {J:List MkX} (hP:JOk I J):(riZ s w ws e ln I J).2.1.length≤I.length+1∧(riZ s w ws e ln I J).2.2.length≤J.length+4∧((riZ s w ws e ln I J).1.2.2=0→JOk (riZ s w ws e ln I J).2.1 (riZ s w ws e ln I J).2.2):=by
 unfold riZ
 split
 ·exact⟨by simp,by simp,fun h=>by simp at h⟩
 ·split
  ·exact⟨by simp,by simp,fun h=>by simp at h⟩
  ·obtain⟨k1,k2⟩:=d8d (e:=e) (ln:=ln) (ni:=I.length) (riK (opW s)) ws ⟨opW s,0,0,0,0⟩ J
   generalize riS e ln I.length (riK (opW s)) ws ⟨opW s,0,0,0,0⟩ J=R at *
   obtain⟨c,w',x,J'⟩:=R
   cases c with
   | some c=>exact⟨by simp,by simpa using k1,fun h=>by simp at h⟩
   | none =>
     cases w' with
     | nil =>
       refine⟨by simp,by simpa using k1,fun _ j hj=>?_⟩
       rcases k2 j hj with h | h
       ·have:=hP j h
        simp; omega
       ·rw [h]; simp; omega
     | cons v t=>exact⟨by simp,by simpa using k1,fun h=>by simp at h⟩
theorem d7v {L:LnS} {ln:Int} {I:List InX} {B J:List MkX} (hP:JOk I J):(rnZ L ln I B J).2.1.length≤I.length+1∧(rnZ L ln I B J).2.2.1.length≤B.length+1∧(rnZ L ln I B J).2.2.2.length≤J.length+4∧((rnZ L ln I B J).1.2.2=0→JOk (rnZ L ln I B J).2.1 (rnZ L ln I B J).2.2.2):=by
 unfold rnZ
 split
 ·exact⟨by simp,by simp,by simp,fun _=>hP⟩
 ·rename_i v ws _
  split
  ·split
   ·exact⟨by simp,by simp,by simp,fun h=>by simp at h⟩
   ·split
    ·exact⟨by simp,by simp,by simp,fun _=>hP⟩
    ·rename_i v2 ws2 _
     have:=f2o (s:=v2.1) (w:=v2.2) (e:=L.e) (ln:=ln) (ws:=ws2) hP
     exact⟨this.1,by simp,this.2.1,this.2.2⟩
  ·have:=f2o (s:=v.1) (w:=v.2) (e:=L.e) (ln:=ln) (ws:=ws) hP
   exact⟨this.1,by simp,this.2.1,this.2.2⟩
theorem c8y {t:List UInt8} {a b:Nat} (h:a < b) (hb:b≤t.length):1≤(a0v t a b).length∧(a0v t a b).length≤t.length:=by
 simp [a0v]; omega
structure SpB (t:List UInt8) (p:Nat) (S:SpS):Prop where
 s:S.s = -1∨(0≤S.s∧S.s < p)
 w:S.ws.length≤p
 b:∀ x∈S.ws,1≤x.1.length∧x.1.length≤t.length
theorem f2a {t:List UInt8} {S:SpS} {p:Nat} (h:SpB t p S) (hp:p≤t.length):∀ x∈spW t S p,1≤x.1.length∧x.1.length≤t.length:=by
 unfold spW
 split
 ·exact h.b
 ·rename_i hs
  intro x hx
  rcases List.mem_append.1 hx with hx | hx
  ·exact h.b x hx
  ·rw [List.mem_singleton.1 hx]
   have:=h.s
   exact c8y (by unfold a0c; omega) hp
theorem f2b {t:List UInt8} {S:SpS} {p:Nat} (h:SpB t p S) (hp:p≤t.length):(spL t S p).ws.length≤p+1∧∀ x∈(spL t S p).ws,1≤x.1.length∧x.1.length≤t.length:=by
 have hl:=c3w (t:=t) (S:=S) (i:=p)
 have hw:=h.w
 unfold spL
 split
 ·exact⟨by simp only; omega,h.b⟩
 ·exact⟨by simp only; omega,f2a h hp⟩
theorem SpB.next {t:List UInt8} {p:Nat} {S:SpS} (h:SpB t p S) (hp:p < t.length) (r:Int):SpB t (p+xrw t p) (spR t S p r):=by
 have hw:=b1o hp
 have hl:=c3w (t:=t) (S:=S) (i:=p)
 have hb:=f2a h (by omega)
 obtain⟨h1,h2,h3⟩:=h
 unfold spR
 split
 ·exact⟨by simp only; omega,by simp only; omega,h3⟩
 ·split
  ·exact⟨.inl rfl,by simp only; omega,hb⟩
  ·split
   ·exact⟨.inl rfl,by simp only; omega,hb⟩
   ·split
    ·exact⟨by simp only; omega,by simp only; omega,h3⟩
    ·exact⟨by simp only; omega,by simp only; omega,h3⟩
theorem f7i (t:List UInt8):∀ (n p:Nat) (S:SpS),t.length - p=n→p≤t.length→SpB t p S→(spG t p S).length≤t.length - p+1∧∀ L∈spG t p S,L.ws.length≤t.length+1∧∀ x∈L.ws,1≤x.1.length∧x.1.length≤t.length:=by
 intro n
 induction n using Nat.strongRecOn with
 | _ n ih =>
   intro p S hn hp hS
   rw [spG]
   split
   ·rename_i hlt
    have hw:=b1o hlt
    split
    ·obtain⟨k1,k2⟩:=ih (t.length - (p+xrw t p)) (by omega) (p+xrw t p) (spN S) rfl hw.2 ⟨.inl rfl,by simp [spN],by simp [spN]⟩
     refine⟨by simp; omega,fun L hL=>?_⟩
     rcases List.mem_cons.1 hL with rfl | hL
     ·have:=f2b hS hp
      exact⟨by omega,this.2⟩
     ·exact k2 L hL
    ·obtain⟨k1,k2⟩:=ih (t.length - (p+xrw t p)) (by omega) (p+xrw t p) _ rfl hw.2 (hS.next hlt (xrn t p))
     exact⟨by omega,k2⟩
   ·split
    ·refine⟨by simp,fun L hL=>?_⟩
     rw [List.mem_singleton.1 hL]
     obtain rfl:p=t.length:=by omega
     have:=f2b hS (Nat.le_refl _)
     exact⟨by omega,this.2⟩
    ·exact⟨by simp,fun L hL=>by simp at hL⟩
theorem f7j (t:List UInt8):(spA t).length≤t.length+1∧∀ L∈spA t,L.ws.length≤t.length+1∧∀ x∈L.ws,1≤x.1.length∧x.1.length≤t.length:=by
 have:=f7i t _ 0 spZ rfl (Nat.zero_le _) ⟨.inl rfl,by simp [spZ],by simp [spZ]⟩
 exact⟨by have:=this.1; unfold spA; omega,this.2⟩
theorem d8v {ls:List LnV} {i:Nat} (h:i < ls.length):((a0f lnC ls).drop (i * 2)).take 2=[.val ls[i].v,.int .i64 ls[i].s.e]:=by
 have l:=d4p ls
 have e0:a0b (a0f lnC ls) (i * 2)=.val ls[i].v:=a2s c4r (j:=0) h (by omega)
 have e1:a0b (a0f lnC ls) (i * 2+1)=.int .i64 ls[i].s.e:=a2s c4r (j:=1) h (by omega)
 unfold a0b at e0 e1
 rw [b0s,List.getElem?_eq_getElem (by omega)] at e0 e1
 dsimp only at e0 e1
 rw [List.drop_eq_getElem_cons (by omega),List.take_succ_cons,List.drop_eq_getElem_cons (by omega),List.take_succ_cons,e0,e1]
 simp
structure RdX where
 I:List InX
 B:List MkX
 J:List MkX
structure g2y (z:(Int×Int×Int)×List InX×List MkX×List MkX×Int) (LS:List LnS) (i:Nat) (X:RdX):Prop where
 le:i≤LS.length
 hI:X.I.length≤i
 hB:X.B.length≤i
 hJ:X.J.length≤4 * i
 hP:JOk X.I X.J
 hR:rdF (LS.drop i) i X.I X.B X.J=z
set_option maxHeartbeats 8000000 in
theorem f8t (t:List UInt8) (rest:Glb) (ht:okT t=true):a0k prog 31 [.ptr 0 0,.str t] (mkS [.cells [.nils,.nils,.nils,.int .i64 0] none] (a1x rest)) fun l st=>l=flt (rdZ t).1∧st=mkS (psH (rdZ t).2.1.length (rdZ t).2.2.1.length (rdZ t).2.2.2.1.length (rdZ t).2.2.2.2 (a0f inC (rdZ t).2.1) (a0f mkC (rdZ t).2.2.1) (a0f mkC (rdZ t).2.2.2.1)) (a1x rest):=by
 obtain⟨z,hz⟩:∃ z,z=rdZ t:=⟨_,rfl⟩
 rw [← hz]
 refine a0k.mono (a0k.h0d (Q:=fun l b=>l=flt z.1∧b=psH z.2.1.length z.2.2.1.length z.2.2.2.1.length z.2.2.2.2 (a0f inC z.2.1) (a0f mkC z.2.2.1) (a0f mkC z.2.2.2.1)) 31 1 4 77 rdL (by kernel_rfl) rfl rfl rfl ?_) fun l s' ⟨b0,⟨h1,h2⟩,h3⟩=>⟨h1,by rw [h3,h2]⟩
 obtain⟨t1,t2⟩:=b5v.1 ht
 obtain⟨sb1,sb2⟩:=f7j t
 refine SSp.to b9p (n:=40) (g:=a1x rest) 2 2 rfl (σ:=Unit) (fun _=>[(0,.ptr 0 0),(4,.ptr 1 0),(9,.slo 2 0 (spn t) 0),(10,.int .i64 (spn t:Nat)),(11,.int .i64 0)]) (fun _=>[.cells [.nils,.nils,.nils,.int .i64 0] none,.cells [.int .i64 0,.int .i64 0,.int .i64 0] none,.obj (lnO t) [] 3,.dead]) (a0y (Nat.le_of_ble_eq_true rfl)) (by kernel_rfl) ?_ fun _=>?_
 ·rw [g5t]
  simp only [ht,cond_true]
  exact⟨rfl,(),[.id 0,.id 1,.id 2,.id 3],by(exact zC)⟩
 refine SSp.unpack (d6m t) 2 (by kernel_rfl) (Nat.le_of_ble_eq_true rfl) rfl fun⟨⟨q,ls⟩,hS,hn,hne⟩ _=>?_
 have hsp:spn t=ls.length:=by rw [spn,← hn,List.length_map]
 rw [hsp]
 refine SSp.absorb 9 2 4 (γ:=5) (n:=ls.length) (cs:=a0f lnC ls) (op:=some 2) (q:=q) (by kernel_rfl) (Nat.le_of_ble_eq_true rfl) (by omega) rfl rfl rfl (a5z ls) (fun h=>by rw [List.length_eq_zero_iff.1 h]; rfl) fun v q1 hq1=>?_
 refine SSp.known 6 (γ:=7) (q:=q1) (by kernel_rfl) rfl fun hW=>?_
 have hpos:1≤ls.length:=by
  rw [← hn] at hne
  cases ls with
  | nil=>simp at hne
  | cons x r=>simp
 obtain⟨F,e,he⟩:=q1
 dsimp only at hq1 hW
 cases e with
 | true =>
   obtain⟨W,_⟩:=hW
   have h0:=he rfl { W with heap:=#[] }
   rw [hq1] at h0
   rcases h0.2 with⟨_,h,_⟩ | ⟨B,o,cap,c,e,f,_,_,h,_⟩
   ·omega
   ·simp at h
 | false =>
 have hF:∀ W,F W→a3b W v ls.length (a0f lnC ls):=fun W h=>by rw [hq1] at h; exact h.2
 have hL:∀ x∈ls,FcW F x.v x.s.ws:=fun x hx=>⟨hW,fun W h=>by rw [hq1] at h; exact hS.c W h.1 x hx⟩
 have hmap:∀ (i:Nat) (h:i < ls.length),(spA t).drop i=ls[i].s::(spA t).drop (i+1):=fun i h=>by
  have h2:i < (spA t).length:=by rw [← hn]; simpa using h
  rw [List.drop_eq_getElem_cons h2]
  congr 1
  simp only [← hn,List.getElem_map]
 have hlen:(spA t).length=ls.length:=by rw [← hn,List.length_map]
 change SSp _ _ _ _ (a1p 31 [(9,.val v),(0,.ptr 0 0),(4,.ptr 1 0),(9,.slo 2 0 ls.length 0),(10,.int .i64 (ls.length:Nat)),(11,.int .i64 0)]) (mkS [.cells [.nils,.nils,.nils,.int .i64 0] none,.cells [.int .i64 0,.int .i64 0,.int .i64 0] none,.dead,.dead,.dead,.dead,.obj stF [.fact F] 7,.dead] (a1x rest)) _
 refine SSp.to b9p (n:=40) (g:=a1x rest) 0 2 rfl (σ:=Unit) (fun _=>rdT v ls.length 0) (fun _=>rdH 0 0 0 0 [] [] [] F) (a0y (Nat.le_of_ble_eq_true rfl)) (by kernel_rfl) ?_ fun _=>?_
 ·rw [g5q t]
  exact⟨rfl,(),[.id 0,.id 1,.id 6,.id 7,.none,.none,.none],by(exact zC)⟩
 refine SSp.code_to (g:=a1x rest) 3 rfl (σ:={X:RdX // g2y z (spA t) ls.length X}) (fun _=>rdT v ls.length ls.length) (fun X=>rdH X.1.I.length X.1.B.length X.1.J.length (ls.length:Nat) (a0f inC X.1.I) (a0f mkC X.1.B) (a0f mkC X.1.J) F) (by kernel_rfl) ?_ fun⟨X,hX⟩=>?_
 ·refine a0p.g9s b9p (n:=40) (n0:=1) 0 (by kernel_rfl) (σ:={p:Nat×RdX // g2y z (spA t) p.1 p.2}) (fun p=>rdT v ls.length p.1.1) (fun p=>rdH p.1.2.I.length p.1.2.B.length p.1.2.J.length (p.1.1:Nat) (a0f inC p.1.2.I) (a0f mkC p.1.2.B) (a0f mkC p.1.2.J) F) (fun p=>ls.length - p.1.1) (fun _=>Nat.le_of_ble_eq_true rfl) (fun⟨⟨i,⟨I,B,J⟩⟩,hX⟩=>?_) ⟨(0,⟨[],[],[]⟩),Nat.zero_le _,Nat.le_refl _,Nat.le_refl _,Nat.le_refl _,fun j hj=>by simp at hj,hz.symm⟩
  have hi:=hX.le; have hI:=hX.hI; have hB:=hX.hB; have hJ:=hX.hJ; have hP:=hX.hP; have hR:=hX.hR
  dsimp only at hi hI hB hJ hP hR ⊢
  have na:=a1z I; have nb:=a1l B; have nc:=a1l J
  rw [g5r]
  by_cases h:i < ls.length
  ·have hM:=hR
   rw [hmap i h,rdF] at hM
   have hx:=List.getElem_mem h
   have hsb:=sb2 ls[i].s (by rw [← hn]; exact List.mem_map_of_mem hx)
   have hw:WsP F ls[i].v ls[i].s.ws:=⟨hL _ hx,by omega,fun y hy=>⟨(hsb.2 y hy).1,by have:=(hsb.2 y hy).2; omega⟩⟩
   obtain⟨k1,k2⟩:=b8j hW hF (f5n ls) (k:=i * 2) (m:=2) (by rw [d4p]; omega) (by omega)
   rw [d8v h] at k2
   obtain⟨W,hWW⟩:=hW
   have kx:=c5u (hF W hWW) h
   have wV:∀ y,asV (.val y)=y:=fun _=>rfl
   have wU:∀ y,isV (.val y)=true:=fun _=>rfl
   have w0:∀ (a b:LV),a0b [a,b] 0=a:=fun _ _=>rfl
   have w1:∀ (a b:LV),a0b [a,b] 1=b:=fun _ _=>rfl
   have l2:∀ (a b:LV),xln [a,b]=2:=fun _ _=>rfl
   have e3:xar .add .i64 (i:Int) 1=((i+1:Nat):Int):=a7t h (by omega)
   have ev:rnV F ls[i].v ls[i].s.e ((i+1:Nat):Int) (a0f inC I) (a0f mkC B) (a0f mkC J)=rnZ ls[i].s ((i+1:Nat):Int) I B J:=by rw [rnV,b8g hw,a9a,a5q,a5q]
   obtain⟨p1,p2,p3,p4⟩:=d7v (L:=ls[i].s) (ln:=((i+1:Nat):Int)) (B:=B) hP
   generalize rnZ ls[i].s ((i+1:Nat):Int) I B J=R at *
   have nR1:=a1z R.2.1; have nR2:=a1l R.2.2.1; have nR3:=a1l R.2.2.2
   simp only [show xcm .lss ((i:Nat):Int) ((ls.length:Nat):Int)=true from a6j (by omega),a2w,a2g,kx,k1,k2,l2,show xle 2 2=true from rfl,w0,w1,wV,wU,a2q,a3d,decide_true,b4t (show I.length≤100000 by omega),a5y (show B.length≤100000 by omega),a5y (show J.length≤100000 by omega),b4r.2 ⟨_,hw⟩,show xle I.length 99980=true from a1n (by omega),show xle B.length 99980=true from a1n (by omega),show xle J.length 99980=true from a1n (by omega),c6j,e3,d5r,d5s,d4j,d7y,d7w,d7x,d8b,d8a,d7z,ev,cond_true]
   by_cases hE:R.1.2.2=0
   ·rw [if_neg (by rw [hE]; simp)] at hM
    simp only [show xcm .neq R.1.2.2 0=false from a9b hE,cond_false]
    exact⟨rfl,⟨(i+1,⟨R.2.1,R.2.2.1,R.2.2.2⟩),⟨by dsimp only; omega,by dsimp only; omega,by dsimp only; omega,by dsimp only; omega,p4 hE,hM⟩⟩,by dsimp only; omega,[.id 0,.id 1,.id 2,.id 3,.id 8,.id 9,.id 10],by(exact zC)⟩
   ·rw [if_pos hE] at hM
    simp only [show xcm .neq R.1.2.2 0=true from a8n hE,cond_true]
    refine⟨trivial,rfl,1,_,_,flt R.1,flt R.1,psH R.2.1.length R.2.2.1.length R.2.2.2.length ((i+1:Nat):Int) (a0f inC R.2.1) (a0f mkC R.2.2.1) (a0f mkC R.2.2.2),[.id 0,.id 8,.id 9,.id 10],rfl,rfl,by kernel_rfl,⟨by rw [← hM],by rw [← hM]⟩,by(exact zC)⟩
  ·simp only [show xcm .lss ((i:Nat):Int) ((ls.length:Nat):Int)=false from a6h (by omega),cond_false]
   have ei:i=ls.length:=by omega
   have hM:=hX
   subst ei
   exact⟨rfl,⟨⟨I,B,J⟩,hM⟩,[.id 0,.id 1,.id 2,.id 3,.id 4,.id 5,.id 6],by(exact zC)⟩
 obtain⟨I,B,J⟩:=X
 have hi:=hX.le; have hI:=hX.hI; have hB:=hX.hB; have hJ:=hX.hJ; have hP:=hX.hP; have hR:=hX.hR
 dsimp only at hi hI hB hJ hP hR ⊢
 have na:=a1z I; have nb:=a1l B; have nc:=a1l J
 refine SSp.last b9p (n:=40) (a0y (Nat.le_of_ble_eq_true rfl)) ?_
 rw [g5p]
 rw [List.drop_of_length_le (by omega),rdF] at hR
 have n5:=a1z (b4f B J I).2
 have kj:okJ (a0f inC I) (a0f mkC J)=true:=by simp only [okJ,decide_eq_true_eq,a9a,a5q]; exact hP
 have hlI:(b4f B J I).2.length=I.length:=b9x B J I
 simp only [b4t (show I.length≤100000 by omega),a5y (show B.length≤100000 by omega),a5y (show J.length≤100000 by omega),kj,f1a,f1c,f1b,f1d,a9a,a5q,cond_true]
 refine⟨trivial,rfl,1,_,_,flt (b4f B J I).1,flt (b4f B J I).1,psH I.length B.length J.length (ls.length:Nat) (a0f inC (b4f B J I).2) (a0f mkC B) (a0f mkC J),[.id 0,.id 4,.id 5,.id 6],rfl,rfl,by kernel_rfl,⟨by rw [← hR],by rw [← hR]; dsimp only; rw [hlI]⟩,by(exact zC)⟩
end
end Go.Lev
/- text: read as a contract; the tree of Parse -/
namespace Go.Lev
set_option linter.unusedSimpArgs false
set_option linter.unusedVariables false
open Go.RowKit
open Go.Proofs.Tryd (prog)
set_option maxRecDepth 100000
noncomputable section
def pZl (t:List UInt8):Int:=(rdZ t).1.1
def pZc (t:List UInt8):Int:=(rdZ t).1.2.1
def pZe (t:List UInt8):Int:=(rdZ t).1.2.2
def b2c (t:List UInt8):Nat:=(rdZ t).2.1.length
def f2t (t:List UInt8):Nat:=(rdZ t).2.2.1.length
def f2u (t:List UInt8):Nat:=(rdZ t).2.2.2.1.length
def f2v (t:List UInt8):Int:=(rdZ t).2.2.2.2
def b1p (t:List UInt8):List LV:=a0f inC (rdZ t).2.1
def f0q (t:List UInt8):List LV:=a0f mkC (rdZ t).2.2.1
def f0p (t:List UInt8):List LV:=a0f mkC (rdZ t).2.2.2.1
theorem g5s (t:List UInt8) (rest:Glb) (k1:okT t=true):a0k prog 31 [.ptr 0 0,.str t] (mkS [.cells [.nils,.nils,.nils,.int .i64 0] none] (a1x rest)) fun l st=>l=.agg [.int .i64 (pZl t),.int .i64 (pZc t),.int .i64 (pZe t)]∧st=mkS (psH (b2c t) (f2t t) (f2u t) (f2v t) (b1p t) (f0q t) (f0p t)) (a1x rest):=f8t t rest k1
def rdG:Gc:=fun args s=>match args,s.g with
 | [.ptr p 0,.str t],(g0,F0)::(g1,F1)::rest=>cond (Nat.beq g0 0 && a2x F0 a2h && (Nat.beq g1 2 && a2x F1 a2n)) (match s.h.get p with
   | some (.cells [.nils,.nils,.nils,.int .i64 0] none)=>(match s.lay [p] [.cells [.slo s.n 0 (b2c t) 0,.slo (Nat.succ s.n) 0 (f2t t) 0,.slo (Nat.succ (Nat.succ s.n)) 0 (f2u t) 0,.int .i64 (f2v t)] none] [.cells (b1p t) (some 5),.cells (f0q t) (some 4),.cells (f0p t) (some 4)] with
     | some s'=>some ([okT t],.agg [.int .i64 (pZl t),.int .i64 (pZc t),.int .i64 (pZe t)],s')
     | none=>none)
   | _=>none) none
 | _,_=>none
theorem f2w:GOk prog 31 rdG:=by
 intro args s bs l s' hg hb hfr
 unfold rdG at hg
 split at hg
 ·rename_i p t g0 F0 g1 F1 rest hgl
  cases hc:(Nat.beq g0 0 && a2x F0 a2h && (Nat.beq g1 2 && a2x F1 a2n)) with
  | false=>rw [hc] at hg; cases hg
  | true =>
    rw [hc] at hg
    simp only [cond_true] at hg
    rw [Bool.and_eq_true] at hc
    replace hgl:s.g=a1x rest:=by(have c1:=Bool.and_eq_true_iff.1 hc.1; have c2:=Bool.and_eq_true_iff.1 hc.2; rw [hgl,Nat.eq_of_beq_eq_true c1.1,a1f c1.2,Nat.eq_of_beq_eq_true c2.1,a1f c2.2] <;> rfl)
    split at hg
    ·rename_i  hb0
     split at hg
     ·rename_i s1 hs1
      simp only [Option.some.injEq,Prod.mk.injEq] at hg
      obtain⟨rfl,rfl,rfl⟩:=hg
      simp only [a0g] at hb
      obtain⟨k1,_⟩:=hb
      have n1:a1q (b1p t)=true:=a1z _; have n2:a1q (f0q t)=true:=a1l _; have n3:a1q (f0p t)=true:=a1l _
      refine a0k.lay (bs:=[.cells [.nils,.nils,.nils,.int .i64 0] none]) (args0:=[.ptr 0 0,.str t]) (bs':=[.cells [.slo 1 0 (b2c t) 0,.slo 2 0 (f2t t) 0,.slo 3 0 (f2u t) 0,.int .i64 (f2v t)] none,.cells (b1p t) (some 5),.cells (f0q t) (some 4),.cells (f0p t) (some 4)]) (v0:=.agg [.int .i64 (pZl t),.int .i64 (pZc t),.int .i64 (pZe t)]) hfr hs1 (by simp)
       ⟨⟨a3j hfr hb0,_,hb0,by first | exact a0e rfl | exact a0o (a0d (a1b rfl) (a0d (a1b rfl) (a0d (a1b rfl) (a0d (a1u) a0u)))) (by simp),fun κ hκ=>a0o (a0d (a1b rfl) (a0d (a1b rfl) (a0d (a1b rfl) (a0d (a1u) a0u)))) (by simp)⟩,trivial⟩ (by(exact zTl)) ?_
       fun κ h1 h2=>⟨⟨a0o (a0d (a0n (h2 0 (by simp))) (a0d (a0n (h2 1 (by simp))) (a0d (a0n (h2 2 (by simp))) (a0d (a1u) a0u)))) (by simp),a0e (by(exact zId)),a0e (by(exact zId)),a0e (by(exact zId)),trivial⟩,a1b rfl⟩
      rw [hgl]; exact(g5s t rest k1)
     ·cases hg
    ·cases hg
 ·cases hg
def g2u:Cx:=cxl [(31,rdG)]
abbrev f8v:List Nat:=[2,3,4,5]
theorem d2v:a3w prog (a2z g2u):=a6i ⟨f2w,trivial⟩
theorem g2c (t:List UInt8) (rest:Glb) (K:Pk):(xsp prog g2u 40 32 ((sp prog 14).drop 0) (tm0 [.str t]) (mkS [] (a1x rest)) (vK f8v K))=(
 bif xcm .gtr (↑(a0z t)) 4000 then(
 K .ret [.ptr 0 0,.int .i64 1,.int .i64 1,.int .i64 4] [sN [.nils]] (a1x rest))
 else(
 ck (okT t) <|
 bif xcm .neq (pZe t) 0 then(
 ck (xcm .eql (pZl t) (pZl t)) <|
 ck (xcm .eql (pZl t) (pZl t)) <|
 ck (xcm .eql (pZc t) (pZc t)) <|
 ck (xcm .eql (pZc t) (pZc t)) <|
 ck (xcm .eql (pZe t) (pZe t)) <|
 ck (xcm .eql (pZe t) (pZe t)) <|
 K .ret [.ptr 0 0,.int .i64 (pZl t),.int .i64 (pZc t),.int .i64 (pZe t)] [sN [.nils],sN [.slo 2 0 (b2c t) 0,.slo 3 0 (f2t t) 0,.slo 4 0 (f2u t) 0,.int .i64 (f2v t)],sC (b1p t) 5,sC (f0q t) 4,sC (f0p t) 4,sN [.int .i64 (pZl t),.int .i64 (pZc t),.int .i64 (pZe t)]] (a1x rest))
 else(
 K .ret [.ptr 0 0,.int .i64 0,.int .i64 0,.int .i64 0] [sN [.slo 2 0 (b2c t) 0],sN [.slo 2 0 (b2c t) 0,.slo 3 0 (f2t t) 0,.slo 4 0 (f2u t) 0,.int .i64 (f2v t)],sC (b1p t) 5,sC (f0q t) 4,sC (f0p t) 4,sN [.int .i64 (pZl t),.int .i64 (pZc t),.int .i64 (pZe t)]] (a1x rest)))):=by kernel_rfl
def pzB (t:List UInt8):Bool:=decide ((rdZ t).1.2.2≠0)
def pzG (t:List UInt8):Bool:=decide ((rdZ t).1.2.2=0)
theorem f3a (t:List UInt8) (rest:Glb) (k1:okT t=true) (k2:pzB t=true):a0k prog 14 [.str t] (mkS [] (a1x rest)) fun l st=>l=.tup [.agg [.nils],.int .i64 (pZl t),.int .i64 (pZc t),.int .i64 (pZe t)]∧st=mkS [] (a1x rest):=by
 refine a0k.mono (a0k.h0o (Q:=fun l b=>l=.tup [.agg [.nils],.int .i64 (pZl t),.int .i64 (pZc t),.int .i64 (pZe t)]∧b=[]) 32 0 [.cell 2 33,.tmp 3,.tmp 4,.tmp 5] f8v (by kernel_rfl) rfl rfl (by kernel_rfl) ?_) fun l s' ⟨b0,⟨h1,h2⟩,h3⟩=>⟨h1,by rw [h3,h2]⟩
 refine SSp.vc d2v (n:=40) (Nat.zero_le _) ?_
 rw [g2c]
 obtain⟨t1,t2⟩:=b5v.1 k1
 have ne:pZe t≠0:=by simpa [pzB,pZe] using k2
 have er:∀ x:Int,xcm .eql x x=true:=fun x=>a2i rfl
 simp only [show xcm .gtr ((a0z t:Nat):Int) 4000=false from a7e (show((t.length:Nat):Int)≤4000 by omega),k1,show xcm .neq (pZe t) 0=true from a8n ne,er,cond_true,cond_false]
 exact⟨trivial,rfl,[.agg [.nils],.int .i64 (pZl t),.int .i64 (pZc t),.int .i64 (pZe t)],_,[],[],by kernel_rfl,⟨rfl,rfl⟩,by(exact zC)⟩
theorem d8k (t:List UInt8) (rest:Glb) (k1:okT t=true) (k2:pzG t=true):a0k prog 14 [.str t] (mkS [] (a1x rest)) fun l st=>l=.tup [.agg [.slo 0 0 (b2c t) 0],.int .i64 0,.int .i64 0,.int .i64 0]∧st=mkS [.cells (b1p t) (some 5)] (a1x rest):=by
 refine a0k.mono (a0k.h0o (Q:=fun l b=>l=.tup [.agg [.slo 0 0 (b2c t) 0],.int .i64 0,.int .i64 0,.int .i64 0]∧b=[.cells (b1p t) (some 5)]) 32 0 [.cell 2 33,.tmp 3,.tmp 4,.tmp 5] f8v (by kernel_rfl) rfl rfl (by kernel_rfl) ?_) fun l s' ⟨b0,⟨h1,h2⟩,h3⟩=>⟨h1,by rw [h3,h2]⟩
 refine SSp.vc d2v (n:=40) (Nat.zero_le _) ?_
 rw [g2c]
 obtain⟨t1,t2⟩:=b5v.1 k1
 have ne:pZe t=0:=by simpa [pzG,pZe] using k2
 have n1:a1q (b1p t)=true:=a1z _
 simp only [show xcm .gtr ((a0z t:Nat):Int) 4000=false from a7e (show((t.length:Nat):Int)≤4000 by omega),k1,show xcm .neq (pZe t) 0=false from a9b ne,cond_true,cond_false]
 exact⟨trivial,rfl,[.agg [.slo 2 0 (b2c t) 0],.int .i64 0,.int .i64 0,.int .i64 0],.tup [.agg [.slo 0 0 (b2c t) 0],.int .i64 0,.int .i64 0,.int .i64 0],[.cells (b1p t) (some 5)],[.id 2],by kernel_rfl,⟨rfl,rfl⟩,by(exact zC)⟩
def pbG:Gc:=fun args s=>match args,s.g with
 | [.str t],(g0,F0)::(g1,F1)::rest=>cond (Nat.beq g0 0 && a2x F0 a2h && (Nat.beq g1 2 && a2x F1 a2n)) (match s.lay [] [] [] with
   | some s'=>some ([okT t,pzB t],.tup [.agg [.nils],.int .i64 (pZl t),.int .i64 (pZc t),.int .i64 (pZe t)],s')
   | none=>none) none
 | _,_=>none
theorem f3d:GOk prog 14 pbG:=by
 intro args s bs l s' hg hb hfr
 unfold pbG at hg
 split at hg
 ·rename_i t g0 F0 g1 F1 rest hgl
  cases hc:(Nat.beq g0 0 && a2x F0 a2h && (Nat.beq g1 2 && a2x F1 a2n)) with
  | false=>rw [hc] at hg; cases hg
  | true =>
    rw [hc] at hg
    simp only [cond_true] at hg
    rw [Bool.and_eq_true] at hc
    replace hgl:s.g=a1x rest:=by(have c1:=Bool.and_eq_true_iff.1 hc.1; have c2:=Bool.and_eq_true_iff.1 hc.2; rw [hgl,Nat.eq_of_beq_eq_true c1.1,a1f c1.2,Nat.eq_of_beq_eq_true c2.1,a1f c2.2] <;> rfl)
    split at hg
    ·rename_i s1 hs1
     simp only [Option.some.injEq,Prod.mk.injEq] at hg
     obtain⟨rfl,rfl,rfl⟩:=hg
     simp only [a0g] at hb
     obtain⟨k1,k2,_⟩:=hb
     refine a0k.lay (bs:=[]) (args0:=[.str t]) (bs':=[]) (v0:=.tup [.agg [.nils],.int .i64 (pZl t),.int .i64 (pZc t),.int .i64 (pZe t)]) hfr hs1 (by simp)
      trivial (by(exact zTl)) ?_
      fun κ h1 h2=>⟨trivial,a1b rfl⟩
     rw [hgl]; exact(f3a t rest k1 k2)
    ·cases hg
 ·cases hg
def pgG:Gc:=fun args s=>match args,s.g with
 | [.str t],(g0,F0)::(g1,F1)::rest=>cond (Nat.beq g0 0 && a2x F0 a2h && (Nat.beq g1 2 && a2x F1 a2n)) (match s.lay [] [] [.cells (b1p t) (some 5)] with
   | some s'=>some ([okT t,pzG t],.tup [.agg [.slo s.n 0 (b2c t) 0],.int .i64 0,.int .i64 0,.int .i64 0],s')
   | none=>none) none
 | _,_=>none
theorem f3c:GOk prog 14 pgG:=by
 intro args s bs l s' hg hb hfr
 unfold pgG at hg
 split at hg
 ·rename_i t g0 F0 g1 F1 rest hgl
  cases hc:(Nat.beq g0 0 && a2x F0 a2h && (Nat.beq g1 2 && a2x F1 a2n)) with
  | false=>rw [hc] at hg; cases hg
  | true =>
    rw [hc] at hg
    simp only [cond_true] at hg
    rw [Bool.and_eq_true] at hc
    replace hgl:s.g=a1x rest:=by(have c1:=Bool.and_eq_true_iff.1 hc.1; have c2:=Bool.and_eq_true_iff.1 hc.2; rw [hgl,Nat.eq_of_beq_eq_true c1.1,a1f c1.2,Nat.eq_of_beq_eq_true c2.1,a1f c2.2] <;> rfl)
    split at hg
    ·rename_i s1 hs1
     simp only [Option.some.injEq,Prod.mk.injEq] at hg
     obtain⟨rfl,rfl,rfl⟩:=hg
     simp only [a0g] at hb
     obtain⟨k1,k2,_⟩:=hb
     have n1:a1q (b1p t)=true:=a1z _
     refine a0k.lay (bs:=[]) (args0:=[.str t]) (bs':=[.cells (b1p t) (some 5)]) (v0:=.tup [.agg [.slo 0 0 (b2c t) 0],.int .i64 0,.int .i64 0,.int .i64 0]) hfr hs1 (by simp)
      trivial (by(exact zTl)) ?_
      fun κ h1 h2=>⟨⟨a0e (by(exact zId)),trivial⟩,(b6a (a0d ((c1e (a0d (a0n (h2 0 (by simp))) a0u))) (a0d (a1u) (a0d (a1u) (a0d (a1u) a0u)))))⟩
     rw [hgl]; exact(d8k t rest k1 k2)
    ·cases hg
 ·cases hg
end
end Go.Lev
