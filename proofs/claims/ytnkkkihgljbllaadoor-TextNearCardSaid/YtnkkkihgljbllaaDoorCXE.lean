import Derived.Test.YtnkkkihgljbllaaDoorCXD
namespace Go.Lev
set_option linter.unusedSimpArgs false
set_option linter.unusedVariables false
open Go.RowKit
open Go.Proofs.Tryd (prog)
set_option maxRecDepth 100000
noncomputable section
abbrev eK (s:ap):Nat:=(dg s 0).length
abbrev kw (B:List bq):al:=aj kN (B.map nG)
abbrev kk (J:List bq):al:=aj cV (J.map lB)
abbrev y_ (x:bq):al:=[.z x.pl]
abbrev kO (J:List bq):al:=aj y_ J
theorem Jk (x:bq):(y_ x).length=1:=rfl
theorem Db (xs:List bq):(kO xs).length=xs.length:=by rw [iW Jk]; omega
theorem yn (xs:List bq):a1u (kO xs)=true:=iu (fun _=>rfl) xs
theorem TD {xs:List bq} {i:Nat} (h:i < xs.length):af (kO xs) i=.z xs[i].pl:=by
 have:=gc (f:=y_) Jk (j:=0) h ab;rw [show i * 1+0=i by omega] at this; exact this
theorem Wf (xs:List Tk) (x:Tk):bM (bf (aj di xs) 0 (aJ xs.length 1)) [.int .i32 x.1]=aj di (xs++[x]):=by
 rw [j0 (by rw [zY]; show xs.length≤xs.length * 1; omega),g9]; rfl
theorem We (xs:List Tk) (x:Tk):bM (bf (aj dN xs) 0 (aJ xs.length 1)) [.b x.2]=aj dN (xs++[x]):=by
 rw [j0 (by rw [zX]; show xs.length≤xs.length * 1; omega),g9]; rfl
theorem Uw (B:List bq) (x:bq):bM (bf (kw B) 0 (aJ B.length 2)) [.str x.nm,.z x.pl]=kw (B++[x]):=by
 rw [j0 (by rw [CJ,ii]; show B.length * 2≤B.length * 2; omega)]; show _=aj kN ((B++[x]).map nG); rw [List.map_append,g9]; rfl
theorem U8 (J:List bq) (x:bq):bM (bf (kk J) 0 (aJ J.length 4)) [.str x.nm,.z x.ln,.z x.cl,.b false]=kk (J++[x]):=by
 rw [j0 (by rw [o6,ii]; show J.length * 4≤J.length * 4; omega)]; show _=aj cV ((J++[x]).map lB); rw [List.map_append,g9]; rfl
theorem U9 (J:List bq) (x:bq):bM (bf (kO J) 0 (aJ J.length 1)) [.z x.pl]=kO (J++[x]):=by
 rw [j0 (by rw [Db]; show J.length≤J.length * 1; omega)]; show _=aj y_ (J++[x]); rw [g9]; rfl
theorem U7 (I:List bL) (x:bL):bM (bf (aj bI I) 0 (aJ I.length 5)) [.z x.op,.z x.a,.z x.b,.z x.c,.int .u64 x.n]=aj bI (I++[x]):=I7 I x.op x.a x.b x.c x.n
structure qO where
 i:Nat
 p:Nat
 cur:List Tk
 S:eE
 I:List bL
 B:List bq
 J:List bq
 ln:Nat
structure F_ (s:ap) (X:qO):Prop where
 hI:X.I.length≤X.ln
 hB:X.B.length≤X.ln
 hJ:X.J.length≤4 * X.ln
 hl:X.ln≤X.i
 hc:X.cur.length≤X.i
 hi:X.i≤eK s+1
 jo:pE X.I X.J
 bp:∀ b∈X.B,0≤b.pl
def Bm (s:ap) (X:qO):Prop:=F_ s X∧((X.i≤eK s∧(dg s 0).drop X.i=dg s X.p∧Sim s ((X.ln+1:Nat):Int) X.p X.cur X.S∧jL (fx s X.p X.S) X.ln X.I X.B X.J=dz s)∨(X.i=eK s+1∧X.cur=[]∧jL [] X.ln X.I X.B X.J=dz s))
structure F9 (s:ap) (X:qO):Prop where
 hI:X.I.length≤4001
 hB:X.B.length≤4001
 hJ:X.J.length≤16004
 jo:pE X.I X.J
 bp:∀ b∈X.B,0≤b.pl
 fin:∃ k,jL [] k X.I X.B X.J=dz s
abbrev rk (s:ap) (X:qO):List (Nat×LV):=pT s X.B.length X.J.length X.J.length X.cur.length (eK s) X.ln X.i
abbrev rj (s:ap) (X:qO):a9:=pU X.I.length (aj bI X.I) (kw X.B) (kk X.J) (kO X.J) (aj di (dg s 0)) (aj dN (dg s 0)) (aj di X.cur) (aj dN X.cur)
def wN (s:ap) (l:LV) (b:a9):Prop:=(dU s≠0∧l=.tup [.agg [.nils],.z (gR s),.z (gS s),.z (dU s)]∧b=[])∨(dU s=0∧l=.tup [.agg [.slo 0 0 (fL s) 0],.z 0,.z 0,.z 0]∧b=[.cells (fE s) (some 5)])
theorem ED {s:ap} {l c e:Int} (h:(dz s).1=(l,c,e)) (he:e≠0):wN s (.tup [.agg [.nils],.z l,.z c,.z e]) []:=by
 have e1:gR s=l:=by rw [gR,h]
 have e2:gS s=c:=by rw [gS,h]
 have e3:dU s=e:=by rw [dU,h]
 exact .inl ⟨by rw [e3]; exact he,by rw [e1,e2,e3],rfl⟩
theorem Ec {t:ap} {p:Nat} {S:eE} (h:p < t.length):fx t p S=if aM t p=10 then fZ t S p::fx t (p+aP t p) (iK S) else fx t (p+aP t p) (eW t S p (aM t p)):=by rw [fx,dif_pos h]
theorem Aj {t:ap} {p:Nat} {S:eE} (h:t.length≤p):fx t p S=if 1 < S.c then [fZ t S t.length] else []:=by rw [fx,dif_neg ab]
theorem VJ (s:ap):xk s=aj di (dg s 0)∧zK s=eK s∧od s=aj dN (dg s 0)∧ql s=eK s:=by
 refine⟨?_,?_,?_,?_⟩
 ·rw [xk,K9,vG,List.map_map]; rfl
 ·rw [zK,K9,ii]
 ·rw [od,kT];generalize dg s 0=l
  induction l with
  | nil=>rfl
  | cons a r ih=>simp only [lp,aj]; rw [ih]
 ·rw [ql,kT,ii]
theorem Vl {s:ap} {X:qO} (hB:F_ s X) (hi:X.i≤eK s) {L:ic} {R:List ic} (h:jL (L::R) X.ln X.I X.B X.J=dz s) :
  ((cQ L ((X.ln+1:Nat):Int) X.I X.B X.J).1.2.2≠0→(dz s).1=(cQ L ((X.ln+1:Nat):Int) X.I X.B X.J).1) ∧
  ((cQ L ((X.ln+1:Nat):Int) X.I X.B X.J).1.2.2=0→jL R (X.ln+1) (cQ L ((X.ln+1:Nat):Int) X.I X.B X.J).2.1 (cQ L ((X.ln+1:Nat):Int) X.I X.B X.J).2.2.1 (cQ L ((X.ln+1:Nat):Int) X.I X.B X.J).2.2.2=dz s):=by
 rw [jL] at h;refine⟨fun hz=>?_,fun hz=>?_⟩
 ·rw [aB hz] at h; rw [← h]
 ·rw [av (by simpa using hz)] at h; exact h
set_option maxHeartbeats 16000000 in
theorem HX (s:ap) (hs:s.length≤4000):a0j prog 18 [.str s] (ai [] aq) fun l st=>∃ b,wN s l b∧st=ai b aq:=by
 refine a0j.mono (a0j.i4j (Q:=wN s) 228 0 [.cell 2 33,.tmp 3,.tmp 4,.tmp 5] i_ ak rfl rfl ak ?_) fun l s' ⟨b0,h1,h3⟩=>⟨b0,h1,h3⟩
 obtain⟨x1,x2,x3,x4⟩:=VJ s;have hn:eK s≤s.length:=JH s 0;have nrx:=r9 (dg s 0); have nwx:=r8 (dg s 0);have lrx:=zY (dg s 0); have lwx:=zX (dg s 0);have wS:∀ x,aK (.str x)=x:=fun _=>rfl
 have wiS:∀ x,cW (.str x)=true:=fun _=>rfl
 have wB:∀ x,ba (.b x)=x:=fun _=>rfl
 have wiB:∀ x,eM (.b x)=true:=fun _=>rfl
 have er:∀ x:Int,ad .eql x x=true:=fun x=>cD rfl
 have es:∀ x:ap,bA .eql x x=true:=fun x=>by show(x == x)=true; simp
 have eb:∀ x:Bool,ge x x=true:=fun x=>by cases x <;> rfl
 have ee:∀ x:Nat,bR x x=true:=fun x=>by simp [bR]
 have pF:dm dZ=true:=qG;refine SSp.to jX (n:=60) (g:=aq) 13 13 rfl (σ:=Unit) (fun _=>rk s ⟨0,0,[],i4,[],[],[],0⟩) (fun _=>rj s ⟨0,0,[],i4,[],[],[],0⟩) (bh (bk _)) ak ?_ fun _=>?_
 ·rw [OB];simp only [show ad .gtr ((am s:Nat):Int) 4000=false from ia (show((s.length:Nat):Int)≤4000 by omega),show ag (am s) 1000000=true from aO (show s.length≤1000000 by omega),show ag (am s) 900000=true from aO (show s.length≤900000 by omega),x1,x2,x3,x4,aw,aD];exact⟨rfl,(),[.id 0,.id 1,.none,.none,.none,.none,.id 2,.id 3,.none,.none],by(exact zC)⟩
 refine SSp.code_to (g:=aq) 14 rfl (σ:={X:qO // F9 s X}) (fun X=>rk s X.1) (fun X=>rj s X.1) ak ?_ fun⟨X,hX⟩=>?_
 ·refine a0n.i4d 0 ak (n0:=0) (σ:={X:qO // Bm s X}) (fun X=>rk s X.1) (fun X=>rj s X.1) (fun X=>eK s+2 - X.1.i) (fun _=>bk _) (fun⟨X,hX⟩=>?_) ⟨⟨0,0,[],i4,[],[],[],0⟩,⟨aR _,aR _,aR _,aR _,aR _,aC,fun j hj=>(by cases hj),fun b hb=>(by cases hb)⟩,.inl ⟨bk _,rfl,Sim.fresh (bk _),rfl⟩⟩;obtain⟨hB,hX⟩:=hX;have hJ1:=hB.hJ; have hI1:=hB.hI; have hB1:=hB.hB; have hl1:=hB.hl; have hi1:=hB.hi; have hc1:=hB.hc;have nI:=fW X.I; have nB:=tV (X.B.map nG); have nJ:=kF (X.J.map lB); have nK:=yn X.J; have nC:=r9 X.cur; have nD:=r8 X.cur;refine SSp.to jX (n:=60) (g:=aq) 2 2 rfl (σ:={_u:Unit // X.i≤eK s}) (fun _=>rk s X) (fun _=>rj s X) (bh (bk _)) ak ?_ fun⟨_,hin⟩=>?_
  ·rw [OG];by_cases h:X.i≤eK s
   ·simp only [show ad .leq ((X.i:Nat):Int) ((eK s:Nat):Int)=true from dX ab,aw];exact⟨rfl,⟨(),h⟩,[.id 0,.id 1,.id 2,.id 3,.id 4,.id 5,.id 6,.id 7,.id 8,.id 9],by(exact zC)⟩
   ·simp only [show ad .leq ((X.i:Nat):Int) ((eK s:Nat):Int)=false from tn ab,aD];have hf:F9 s X:=by
     rcases hX with⟨q,_⟩ | ⟨_,_,q⟩
     ·exact absurd q h
     ·exact⟨ab,ab,ab,hB.jo,hB.bp,_,q⟩
    exact⟨rfl,⟨X,hf⟩,[.id 0,.id 1,.id 2,.id 3,.id 4,.id 5,.id 6,.id 7,.id 8,.id 9],by(exact zC)⟩
  obtain⟨hdr,hsim,hrd⟩:(dg s 0).drop X.i=dg s X.p∧Sim s ((X.ln+1:Nat):Int) X.p X.cur X.S∧jL (fx s X.p X.S) X.ln X.I X.B X.J=dz s:=by
   rcases hX with⟨_,q⟩ | ⟨q,_⟩
   ·exact q
   ·omega
  have htok:∀ h:X.i < eK s,X.p < s.length∧(dg s 0)[X.i]=(aM s X.p,fw s X.p)∧(dg s 0).drop (X.i+1)=dg s (X.p+aP s X.p):=fun h=>by
   rw [jG h] at hdr;have hp:X.p < s.length:=by
    rcases jH X.p s.length with q | q
    ·exact q
    ·rw [vr q] at hdr; cases hdr
   rw [xT hp] at hdr;simp only [iJ] at hdr;exact⟨hp,hdr.1,hdr.2⟩
  have hend:X.i=eK s→s.length≤X.p:=fun h=>by
   rw [h,List.drop_length] at hdr;rcases jH X.p s.length with q | q
   ·rw [xT q] at hdr; cases hdr
   ·exact q
  refine SSp.code_to (g:=aq) 3 rfl (σ:={Y:qO // Bm s { Y with i:=Y.i+1 }∧Y.i=X.i}) (fun Y=>rk s Y.1) (fun Y=>rj s Y.1) ak ?_ fun⟨Y,hY,hYi⟩=>?_
  ·refine a0n.i3v 1 ak ?_;refine SSp.to jX (n:=60) (g:=aq) 1 1 rfl (σ:={q:Bool // (q=true→∃ h:X.i < eK s,(dg s 0)[X.i].1≠10)∧(q=false→X.i < eK s→aM s X.p=10)}) (fun q=>rk s X++[(49,.b q.1)]) (fun _=>rj s X) (bh (bk _)) ak ?_ fun⟨q,hq1,hq2⟩=>?_
   ·rw [OC];by_cases h:X.i < eK s
    ·obtain⟨g1,g2,g3⟩:=htok h;have v0:=yh h;have b1:ag (X.i+1) (eK s)=true:=aO ab;have b2:ag (X.i+1) (aj di (dg s 0)).length=true:=aO (by rw [lrx]; exact h);simp only [show ad .lss ((X.i:Nat):Int) ((eK s:Nat):Int)=true from ga ab,ct,cC,bP,b_,bV,cU,b1,b2,v0,cz,cf,bD,aw];by_cases h10:(dg s 0)[X.i].1=10
     ·rw [show ad .neq (dg s 0)[X.i].1 10=false from lN h10];exact⟨rfl,⟨false,fun e=>(by cases e),fun _ _=>by rw [g2] at h10; exact h10⟩,[.id 0,.id 1,.id 2,.id 3,.id 4,.id 5,.id 6,.id 7,.id 8,.id 9],by(exact zC)⟩
     ·rw [show ad .neq (dg s 0)[X.i].1 10=true from kA h10];exact⟨rfl,⟨true,fun _=>⟨h,h10⟩,fun e=>(by cases e)⟩,[.id 0,.id 1,.id 2,.id 3,.id 4,.id 5,.id 6,.id 7,.id 8,.id 9],by(exact zC)⟩
    ·simp only [show ad .lss ((X.i:Nat):Int) ((eK s:Nat):Int)=false from f_ ab,aD];exact⟨rfl,⟨false,fun e=>(by cases e),fun _ q=>absurd q h⟩,[.id 0,.id 1,.id 2,.id 3,.id 4,.id 5,.id 6,.id 7,.id 8,.id 9],by(exact zC)⟩
   refine SSp.code_to (g:=aq) 2 rfl (σ:={_u:Unit // q=false}) (fun _=>rk s X) (fun _=>rj s X) ak ?_ fun⟨_,hqf⟩=>?_
   ·refine a0n.ways (t:=49) (q:=q) ak rfl (fun h1=>?_) (fun h1=>?_)
    ·subst h1;obtain⟨h,h10⟩:=hq1 rfl;obtain⟨g1,g2,g3⟩:=htok h;rw [g2] at h10;have hw:=fF g1;refine a0n.i3x ?_;refine SSp.code_to (g:=aq) 1 rfl (σ:=Unit) (fun _=>rk s { X with cur:=X.cur++[(aM s X.p,fw s X.p)] }) (fun _=>rj s { X with cur:=X.cur++[(aM s X.p,fw s X.p)] }) ak ?_ fun _=>?_
     ·refine a0n.i4c jX (n:=60) (bh (bk _)) ?_;have v0:=yh h; have v1:=JG h;rw [g2] at v0 v1;have b1:ag (X.i+1) (eK s)=true:=aO ab;have b2:ag (X.i+1) (aj di (dg s 0)).length=true:=aO (by rw [lrx]; exact h);have b3:ag (X.i+1) (aj dN (dg s 0)).length=true:=aO (by rw [lwx]; exact h);have b4:ag (X.cur.length+1) 1000000=true:=aO ab;have b5:ag (X.cur.length) (aj di X.cur).length=true:=aO (by rw [zY]; omega);have b6:ag (X.cur.length) (aj dN X.cur).length=true:=aO (by rw [zX]; omega);have p1:=Wf X.cur (aM s X.p,fw s X.p); have p2:=We X.cur (aM s X.p,fw s X.p);rw [cm,cU] at p1 p2;have nC2:=r9 (X.cur++[(aM s X.p,fw s X.p)]); have nD2:=r8 (X.cur++[(aM s X.p,fw s X.p)]);have lC:X.cur.length+1=(X.cur++[(aM s X.p,fw s X.p)]).length:=aC;rw [OM];simp only [ct,cC,bP,cm,b_,bV,cU,b1,b2,b3,b4,b5,b6,v0,v1,p1,p2,er,eb,wB,wiB,cz,cf,bD,aw];rw [lC];refine⟨?_,?_,?_⟩
      ·exact⟨rfl,(),[.id 0,.id 1,.id 2,.id 3,.id 4,.id 5,.id 6,.id 7,.id 11,.id 13],by(exact zC)⟩
      iterate 2
       ·exact⟨rfl,(),[.id 0,.id 1,.id 2,.id 3,.id 4,.id 5,.id 6,.id 7,.id 12,.id 13],by(exact zC)⟩
     refine SSp.last jX (n:=60) (bh (bk _)) ?_;have nC2:=r9 (X.cur++[(aM s X.p,fw s X.p)]); have nD2:=r8 (X.cur++[(aM s X.p,fw s X.p)]);rw [ON];refine⟨rfl,⟨⟨X.i,X.p+aP s X.p,X.cur++[(aM s X.p,fw s X.p)],eW s X.S X.p (aM s X.p),X.I,X.B,X.J,X.ln⟩,⟨⟨hI1,hB1,hJ1,by dsimp only; omega,by(dsimp only; simp; omega),by dsimp only; omega,hB.jo,hB.bp⟩,.inl ⟨by dsimp only; omega,g3,hsim.next g1,?_⟩⟩,rfl⟩,[.id 0,.id 1,.id 2,.id 3,.id 4,.id 5,.id 6,.id 7,.id 8,.id 9],by(exact zC)⟩;rw [Ec g1,av h10] at hrd;exact hrd
    ·subst h1;refine a0n.vc jX (n:=60) (bh (bk _)) ?_;rw [OO];exact⟨rfl,⟨(),rfl⟩,[.id 0,.id 1,.id 2,.id 3,.id 4,.id 5,.id 6,.id 7,.id 8,.id 9],by(exact zC)⟩
   subst hqf;obtain⟨sl,se⟩:=hsim.line;have scl:=hsim.c;have el1:au .add .i64 ((X.ln:Nat):Int) 1=((X.ln+1:Nat):Int):=by rw [gb ab ab]; rfl
   obtain⟨cfl,cfn⟩:=UQ ((X.ln+1:Nat):Int) X.cur;generalize hW:gU ((X.ln+1:Nat):Int) X.cur=W at *;generalize hE:((fy X.cur).length:Int)+1=E at *;refine SSp.to jX (n:=60) (g:=aq) 5 7 rfl (σ:={_u:Unit // X.i < eK s∨X.cur≠[]}) (fun _=>nz s X.B.length X.J.length X.J.length (eK s) ((X.ln+1:Nat):Int) X.i 0 W.length E) (fun _=>nA X.I.length (aj bI X.I) (kw X.B) (kk X.J) (kO X.J) (aj di (dg s 0)) (aj dN (dg s 0)) (aj cV W)) (bh (bk _)) ak ?_ fun⟨_,hgo⟩=>?_
   ·rw [OD];have k1:sZ X.cur.length X.cur.length (aj di X.cur) (aj dN X.cur)=true:=Fd.2 ⟨X.cur,rfl,rfl,rfl,rfl,ab⟩;have c1:rI ((X.ln+1:Nat):Int) (aj di X.cur) (aj dN X.cur)=W.length:=by rw [rI,yg,hW]
    have c2:qd ((X.ln+1:Nat):Int) (aj di X.cur) (aj dN X.cur)=aj cV W:=by rw [qd,yg,hW]
    have c3:rH (aj di X.cur) (aj dN X.cur)=E:=by rw [rH,yg,hE]
    have nW:=kF W;simp only [el1,k1,c1,c2,c3,aw];by_cases h:X.i=eK s
    ·simp only [show ad .eql ((X.i:Nat):Int) ((eK s:Nat):Int)=true from cD ab,aw];by_cases h0:X.cur.length=0
     ·simp only [show ad .eql ((X.cur.length:Nat):Int) 0=true from cD ab,aw];have hf:F9 s { X with ln:=X.ln+1 }:=by
       refine⟨by dsimp only; omega,by dsimp only; omega,by dsimp only; omega,hB.jo,hB.bp,X.ln,?_⟩;rw [Aj (hend h),av ab] at hrd;exact hrd
      exact⟨rfl,⟨{ X with ln:=X.ln+1 },hf⟩,[.id 0,.id 1,.id 2,.id 3,.id 4,.id 5,.id 6,.id 7,.id 8,.id 9],by(exact zC)⟩
     ·simp only [show ad .eql ((X.cur.length:Nat):Int) 0=false from cF ab,aD];exact⟨rfl,⟨(),.inr fun e=>h0 (by rw [e]; rfl)⟩,[.id 0,.id 1,.id 2,.id 3,.id 4,.id 5,.id 6,.id 7,.id 10],by(exact zC)⟩
    ·simp only [show ad .eql ((X.i:Nat):Int) ((eK s:Nat):Int)=false from cF ab,aD];exact⟨rfl,⟨(),.inl ab⟩,[.id 0,.id 1,.id 2,.id 3,.id 4,.id 5,.id 6,.id 7,.id 10],by(exact zC)⟩
   obtain⟨R,p2,hR1,hR2⟩:∃ (R:List ic) (p2:Nat),jL (fZ s X.S X.p::R) X.ln X.I X.B X.J=dz s∧∀ (I2:List bL) (B2 J2:List bq),jL R (X.ln+1) I2 B2 J2=dz s→F_ s ⟨X.i+1,p2,[],iK X.S,I2,B2,J2,X.ln+1⟩→Bm s ⟨X.i+1,p2,[],iK X.S,I2,B2,J2,X.ln+1⟩:=by
    by_cases h:X.i < eK s
    ·obtain⟨g1,g2,g3⟩:=htok h;have hw:=fF g1;rw [Ec g1,aB (hq2 rfl h)] at hrd;exact⟨_,X.p+aP s X.p,hrd,fun I2 B2 J2 hr hb=>⟨hb,.inl ⟨by dsimp only; omega,g3,Sim.fresh hw.2,hr⟩⟩⟩
    ·have hx:X.i=eK s:=ab;have hpl:=hend hx;have hpp:X.p=s.length:=by have:=hsim.hp; omega
     have hc0:X.cur≠[]:=hgo.resolve_left h;have hc1:1≤X.cur.length:=by rcases hc:X.cur with _ | ⟨a,b⟩; exact absurd hc hc0; simp
     rw [Aj hpl,aB ab,← hpp] at hrd;exact⟨[],X.p,hrd,fun I2 B2 J2 hr hb=>⟨hb,.inr ⟨by dsimp only; omega,rfl,hr⟩⟩⟩
   obtain⟨pl1,pl2⟩:=Vl hB hin hR1;have pj:=DD (L:=fZ s X.S X.p) (ln:=((X.ln+1:Nat):Int)) (B:=X.B) hB.jo;generalize hL:fZ s X.S X.p=L at *;generalize hz:cQ L ((X.ln+1:Nat):Int) X.I X.B X.J=z at *;have nxt:∀ (B2:List bq),z.2.2.1=B2→(∀ b∈B2,0≤b.pl)→z.1.2.2=0→Bm s ⟨X.i+1,p2,[],iK X.S,z.2.1,B2,z.2.2.2,X.ln+1⟩:=fun B2 h1 h2 h3=>by
    subst h1;exact hR2 _ _ _ (pl2 h3) ⟨by dsimp only; omega,by dsimp only; omega,by dsimp only; omega,by dsimp only; omega,bk _,by dsimp only; omega,pj.2.2.2 h3,h2⟩
   have bad:∀ (c:Int),z.1=(((X.ln+1:Nat):Int),c,12)→wN s (.tup [.agg [.nils],.z ((X.ln+1:Nat):Int),.z c,.z 12]) []:=fun c h=>ED (by rw [pl1 (by rw [h]; simp),h]) iZ
   refine SSp.to jX (n:=60) (g:=aq) 2 9 rfl (σ:={q:List bq×List RW // Bn z E ((X.ln+1:Nat):Int) X.I X.J q.1 q.2∧q.1.length≤X.ln+1∧(∀ b∈q.1,0≤b.pl)∧q.2.length≤4000∧∀ w∈q.2,w.s.length≤16000}) (fun q=>nz s q.1.1.length X.J.length X.J.length (eK s) ((X.ln+1:Nat):Int) X.i 0 q.1.2.length E) (fun q=>nA X.I.length (aj bI X.I) (kw q.1.1) (kk X.J) (kO X.J) (aj di (dg s 0)) (aj dN (dg s 0)) (aj cV q.1.2)) (bh (bk _)) ak ?_ fun⟨⟨B2,W2⟩,hLab,hB2,hbp,hW2,hws⟩=>?_
   ·rw [OE];have nW:=kF W;have lW:=o6 W;rcases W with _ | ⟨v,ws⟩
    ·simp only [show ad .gtr (((([]:List RW).length:Nat)):Int) 0=false from ia aC,aD];refine⟨rfl,⟨(X.B,[]),.inl ⟨rfl,?_⟩,by dsimp only; omega,hB.bp,aC,aC⟩,[.id 0,.id 1,.id 2,.id 3,.id 4,.id 5,.id 6,.id 7,.id 8],by(exact zC)⟩;have:L.ws=[]:=by
      generalize L.ws=lw at sl;cases sl; rfl
     rw [← hz,cQ,this]
    ·have n0:af (aj cV (v::ws)) 0=.str v.s:=rfl;have n2:af (aj cV (v::ws)) 2=.z v.cl:=rfl;have n3:af (aj cV (v::ws)) 3=.b v.bd:=rfl;have lW':(aj cV (v::ws)).length=(ws.length+1) * 4:=by rw [lW,cZ]
     have y1:ag 1 (v::ws).length=true:=aO aC;have y2:ag 1 ((ws.length+1) * 4)=true:=aO ab;have y3:ag 3 ((ws.length+1) * 4)=true:=aO ab;have y4:ag 4 ((ws.length+1) * 4)=true:=aO ab;have y5:ag (v::ws).length (v::ws).length=true:=aO (aR _);have hvs:v.s.length≤16000:=by have:=cfl v aC; omega
     simp only [show ad .gtr ((((v::ws).length:Nat)):Int) 0=true from iR qU,b_,lW',y1,y2,n0,wS,wiS,aw];by_cases h0:v.s.length=0
     ·simp only [show ad .gtr ((am v.s:Nat):Int) 0=false from ia (show((v.s.length:Nat):Int)≤0 by omega),aD];have hlb:o4 v=false:=by simp [o4,h0]
      have:=Ik sl se X.I X.B X.J hlb;rw [hz] at this;exact⟨rfl,⟨(X.B,v::ws),this,by dsimp only; omega,hB.bp,by dsimp only; omega,fun w hw=>by have:=cfl w hw; omega⟩,[.id 0,.id 1,.id 2,.id 3,.id 4,.id 5,.id 6,.id 7,.id 8],by(exact zC)⟩
     have e1:au .sub .i64 ((am v.s:Nat):Int) 1=((v.s.length - 1:Nat):Int):=by
      show au .sub .i64 ((v.s.length:Nat):Int) 1=_;rw [rV ab ab];omega
     have y6:b9 ((v.s.length - 1:Nat):Int)=true:=eA _;have y7:ag (v.s.length - 1+1) (am v.s)=true:=aO (show v.s.length - 1+1≤v.s.length by omega);have y8:ag (v.s.length - 1) (am v.s)=true:=aO (show v.s.length - 1≤v.s.length by omega);simp only [show ad .gtr ((am v.s:Nat):Int) 0=true from iR (show(0:Int) < ((v.s.length:Nat):Int) by omega),e1,y6,ct,bP,y7,y8,aw];by_cases h58:bz v.s (v.s.length - 1)=58
     ·have hlb:o4 v=true:=by simp [o4,h58]; omega
      obtain⟨L1,L2⟩:=Va sl se X.I X.B X.J hlb;rw [hz] at L1 L2;simp only [show ad .eql (bz v.s (v.s.length - 1)) 58=true from cD h58,y3,y4,n2,n3,wB,wiB,cz,cf,er,bD,aw];cases hb:v.bd with
      | true =>
        simp only [aw];exact⟨trivial,rfl,[.agg [.nils],.z ((X.ln+1:Nat):Int),.z v.cl,.z 12],.tup [.agg [.nils],.z ((X.ln+1:Nat):Int),.z v.cl,.z 12],[],[],ak,bad _ (L1 hb),by(exact zC)⟩
      | false =>
        obtain⟨L2,L3,L4⟩:=L2 hb;have hrl:aY v.s 0 (v.s.length - 1)=cP v.s:=rfl;have y9:ag (am (cP v.s)) 1000000000=true:=aO (by
         show(cP v.s).length≤_;rw [cP,Aq ab]; omega)
        simp only [hrl,y9,aw,aD];cases hN:dW (cP v.s) with
        | false =>
          simp only [show bu false=true from rfl,aw];exact⟨trivial,rfl,[.agg [.nils],.z ((X.ln+1:Nat):Int),.z v.cl,.z 12],.tup [.agg [.nils],.z ((X.ln+1:Nat):Int),.z v.cl,.z 12],[],[],ak,bad _ (L2 hN),by(exact zC)⟩
        | true =>
          have k1:qa X.B.length (kw X.B)=true:=AS.2 ⟨X.B.map nG,rfl,aC,ab⟩;have hxf:mZ (kw X.B) (cP v.s)=(eY X.B (cP v.s)).getD (-1):=by rw [mZ,Au,IJ]; cases eY X.B (cP v.s) <;> rfl
          simp only [show bu true=false from rfl,k1,hxf,aw,aD];cases hF:eY X.B (cP v.s) with
          | some pl =>
            have hpl:0≤pl:=by
             obtain⟨b,h1,h2⟩:=I3 hF;rw [← h2]; exact hB.bp b h1
            simp only [Option.getD_some,show ad .geq pl 0=true from qn hpl,aw];exact⟨trivial,rfl,[.agg [.nils],.z ((X.ln+1:Nat):Int),.z v.cl,.z 12],.tup [.agg [.nils],.z ((X.ln+1:Nat):Int),.z v.cl,.z 12],[],[],ak,bad _ (L3 hN (by rw [hF]; simp)),by(exact zC)⟩
          | none =>
            have ya:ag (X.B.length+1) 1000000=true:=aO ab;have yb:ag (X.B.length * 2) (kw X.B).length=true:=aO (by rw [CJ,ii]; omega);have pb:=Uw X.B ⟨cP v.s,X.I.length,0,0⟩;rw [cm] at pb;dsimp only at pb;have nB2:=tV ((X.B++[(⟨cP v.s,X.I.length,0,0⟩:bq)]).map nG);have nw:=kF ws;simp only [Option.getD_none,show ad .geq (-1) 0=false from rfl,cm,bP,bV,ya,yb,y5,pb,aw,aD];have hlen:X.B.length+1=(X.B++[(⟨cP v.s,X.I.length,0,0⟩:bq)]).length:=aC;rw [hlen,show dR (v::ws).length 1=ws.length from rfl];refine⟨rfl,⟨(X.B++[⟨cP v.s,X.I.length,0,0⟩],ws),L4 hN hF,by(dsimp only; simp; omega),?_,by(dsimp only; simp at cfn; omega),fun w hw=>by have:=cfl w (by simp [hw]); omega⟩,[.id 0,.id 1,.id 2,.id 10,.id 4,.id 5,.id 6,.id 7,.drop 8 4 1],?_⟩
            ·intro b hb;rcases gz.1 hb with hb | hb
             ·exact hB.bp b hb
             ·rw [k_.1 hb]; show(0:Int)≤((X.I.length:Nat):Int); omega
            ·have hd:∀ ρ,LBW ρ (.drop 8 4 1) (.cells (aj cV ws) (some 4)) (some (.cells (aj cV (v::ws)) (some 4))):=fun ρ=>by
              refine Vc (by rw [lW',o6]; omega) ?_ nw;show _=((cV v++aj cV ws).drop (cV v).length).take _;rw [List.drop_left,List.take_length]
             exact(by refine⟨ak,?_,?_⟩ <;> repeat first | exact jC | refine jE ?_ ?_ | exact jD | refine jF ?_ ?_ | exact cA | refine aV ?_ ?_ | exact hd _ | exact WA rfl | exact eD | exact Bx | exact Bw | exact EA | exact jB | exact Bo | refine Bv ?_ | exact Bu | exact oG | exact cH | exact ir | exact Bt | exact Bs | exact oH | exact xy | exact oJ | exact Br | exact Bq | exact Bp | refine pu ?_ | refine tJ ?_ | refine z7 ?_ | assumption)
     ·simp only [show ad .eql (bz v.s (v.s.length - 1)) 58=false from cF h58,aD];have hlb:o4 v=false:=by simp [o4,h58]
      have:=Ik sl se X.I X.B X.J hlb;rw [hz] at this;exact⟨rfl,⟨(X.B,v::ws),this,by dsimp only; omega,hB.bp,by dsimp only; omega,fun w hw=>by have:=cfl w hw; omega⟩,[.id 0,.id 1,.id 2,.id 3,.id 4,.id 5,.id 6,.id 7,.id 8],by(exact zC)⟩
   dsimp only at hLab hB2 hbp hW2 hws ⊢;have nB2:=tV (B2.map nG); have nW2:=kF W2;refine SSp.to jX (n:=60) (g:=aq) 2 11 rfl (σ:={_u:Unit // W2≠[]}) (fun _=>nz s B2.length X.J.length X.J.length (eK s) ((X.ln+1:Nat):Int) X.i 0 W2.length E) (fun _=>nA X.I.length (aj bI X.I) (kw B2) (kk X.J) (kO X.J) (aj di (dg s 0)) (aj dN (dg s 0)) (aj cV W2)) (bh (bk _)) ak ?_ fun⟨_,hne⟩=>?_
   ·rw [OH];rcases W2 with _ | ⟨v,ws⟩
    ·simp only [show ad .eql (((([]:List RW).length:Nat)):Int) 0=true from cD rfl,aw];have hz2:z=((0,0,0),X.I,B2,X.J):=by
      rcases hLab with⟨_,q⟩ | ⟨_,_,_,_,q,_⟩
      ·exact q
      ·cases q
     have:=nxt B2 (by rw [hz2]) hbp (by rw [hz2]);rw [hz2] at this;exact⟨rfl,⟨⟨X.i,p2,[],iK X.S,X.I,B2,X.J,X.ln+1⟩,this,rfl⟩,[.id 0,.id 1,.id 2,.id 3,.id 4,.id 5,.id 6,.id 7,.none,.none],by(exact zC)⟩
    ·simp only [show ad .eql ((((v::ws).length:Nat)):Int) 0=false from cF ke,aD];exact⟨rfl,⟨(),aC⟩,[.id 0,.id 1,.id 2,.id 3,.id 4,.id 5,.id 6,.id 7,.id 8],by(exact zC)⟩
   obtain⟨v,ws,y,ys,rfl,hv,hA2,hz2⟩:∃ v ws y ys,W2=v::ws∧Wr ((X.ln+1:Nat):Int) v y∧Al ((X.ln+1:Nat):Int) ws ys∧z=((cL y.1 y.2 ys E ((X.ln+1:Nat):Int) X.I X.J).1,(cL y.1 y.2 ys E ((X.ln+1:Nat):Int) X.I X.J).2.1,B2,(cL y.1 y.2 ys E ((X.ln+1:Nat):Int) X.I X.J).2.2):=by
    rcases hLab with⟨q,_⟩ | ⟨v,ws,y,ys,q1,q2,q3,q4⟩
    ·exact absurd q hne
    ·exact⟨v,ws,y,ys,q1,q2,q3,q4⟩
   obtain⟨i1,i2⟩:=S8 (e:=E) hv hA2 X.I X.J;have hz1:z.1=(cL y.1 y.2 ys E ((X.ln+1:Nat):Int) X.I X.J).1:=by rw [hz2]
   have hzI:z.2.1=(cL y.1 y.2 ys E ((X.ln+1:Nat):Int) X.I X.J).2.1:=by rw [hz2]
   have hzB:z.2.2.1=B2:=by rw [hz2]
   have hzJ:z.2.2.2=(cL y.1 y.2 ys E ((X.ln+1:Nat):Int) X.I X.J).2.2:=by rw [hz2]
   rw [← hz1] at i1 i2;rw [← hzI,← hzJ] at i2;generalize hq:ma E ((X.ln+1:Nat):Int) ((X.I.length:Nat):Int) (v::ws)=q at *;obtain⟨qx,qj,qf⟩:=q;dsimp only at i1 i2;have iV:kP 0 (aj cV (v::ws)) E ((X.ln+1:Nat):Int) ((X.I.length:Nat):Int)=(qx,qj,qf):=by
    rw [kP,List.drop_zero,EL,hq]
   have k1:uL 0 (v::ws).length (aj cV (v::ws))=true:=Fc.2 ⟨[],v::ws,rfl,rfl,rfl,aC,ab,fun w hw=>by have:=hws w hw; omega⟩;refine SSp.to jX (n:=60) (g:=aq) 4 15 rfl (σ:={b:Bool // b=decide (qj.s≠[])∧z.1.2.2=0}) (fun b=>nz s B2.length X.J.length X.J.length (eK s) ((X.ln+1:Nat):Int) X.i 0 (v::ws).length E++[(19,.ptr 9 0),(20,.ptr 10 0),(175,.b b.1)]) (fun _=>nA X.I.length (aj bI X.I) (kw B2) (kk X.J) (kO X.J) (aj di (dg s 0)) (aj dN (dg s 0)) (aj cV (v::ws))++[.cells [.z qx.op,.z qx.a,.z qx.b,.z qx.c,.int .u64 qx.n] none,.cells [.str qj.s,.z qj.ln,.z qj.cl,.b qj.bd] none]) (bh (bk _)) ak ?_ fun⟨bj,hbj,hz0⟩=>?_
   ·rw [OI];dsimp only [EG];simp only [uH,uw,uv,uu,ut,sW,uG,uE,uD,nU,nT,mE,iV,k1,pF,er,aw];by_cases hf:qf.2.2=0
    ·simp only [show ad .neq qf.2.2 0=false from lN hf,aD];refine⟨rfl,⟨bA .neq qj.s [],?_,by rw [← i1]; exact hf⟩,[.id 0,.id 1,.id 2,.id 3,.id 4,.id 5,.id 6,.id 7,.id 8,.id 9,.id 10],by(exact zC)⟩;show(qj.s != [])=decide (qj.s≠[]);cases qj.s <;> rfl
    ·simp only [show ad .neq qf.2.2 0=true from kA hf,aw];have hb:wN s (.tup [.agg [.nils],.z qf.1,.z qf.2.1,.z qf.2.2]) []:=ED (by rw [pl1 (by rw [← i1]; exact hf),← i1]) hf;exact⟨trivial,rfl,[.agg [.nils],.z qf.1,.z qf.2.1,.z qf.2.2],.tup [.agg [.nils],.z qf.1,.z qf.2.1,.z qf.2.2],[],[],ak,hb,by(exact zC)⟩
   obtain⟨iI,pp,hJR⟩:=i2 hz0;have lJ:=pj.2.2.1;refine SSp.code_to (g:=aq) 16 rfl (σ:={J2:List bq // J2=z.2.2.2}) (fun J2=>nz s B2.length J2.1.length J2.1.length (eK s) ((X.ln+1:Nat):Int) X.i 0 (v::ws).length E++[(19,.ptr 9 0),(20,.ptr 10 0)]) (fun J2=>nA X.I.length (aj bI X.I) (kw B2) (kk J2.1) (kO J2.1) (aj di (dg s 0)) (aj dN (dg s 0)) (aj cV (v::ws))++[.cells [.z qx.op,.z qx.a,.z qx.b,.z qx.c,.int .u64 qx.n] none,.cells [.str qj.s,.z qj.ln,.z qj.cl,.b qj.bd] none]) ak ?_ fun⟨J2,hJ2⟩=>?_
   ·refine a0n.ways (t:=175) (q:=bj) ak rfl (fun h1=>?_) (fun h1=>?_)
    ·have hnil:qj.s≠[]:=by subst h1; simpa using hbj.symm
     obtain⟨mk,m1,m2,m3,m4⟩:∃ m:bq,z.2.2.2=X.J++[m]∧qj=lB m∧m.nm≠[]∧m.pl=((X.I.length:Nat):Int):=by
      cases pp with
      | true=>exact hJR
      | false=>obtain⟨_,e⟩:=hJR; rw [e] at hnil; exact absurd rfl hnil
     subst h1;refine a0n.i3x ?_;refine SSp.i3o ak ?_;refine a0n.i4c jX (n:=60) (bh (bk _)) ?_;subst m2;have b4:ag (X.J.length+1) 1000000=true:=aO ab;have b5:ag (X.J.length * 4) (kk X.J).length=true:=aO (by rw [o6,ii]; omega);have b6:ag X.J.length (kO X.J).length=true:=aO (by rw [Db]; omega);have q1:=U8 X.J mk; have q2:=U9 X.J mk;rw [cm] at q1 q2;rw [cU,m4] at q2;have nJ2:=kF ((X.J++[mk]).map lB); have nK2:=yn (X.J++[mk]);have lC:X.J.length+1=(X.J++[mk]).length:=aC;rw [OQ];simp only [lB,ct,cC,bP,cm,b_,bV,cU,b4,b5,b6,q1,q2,er,eb,es,ee,bD,aw];rw [lC];refine⟨?_,?_,?_⟩
     ·exact⟨rfl,⟨X.J++[mk],m1.symm⟩,[.id 0,.id 1,.id 2,.id 3,.id 12,.id 14,.id 6,.id 7,.id 8,.id 9,.id 10],by(exact zC)⟩
     iterate 2
      ·exact⟨rfl,⟨X.J++[mk],m1.symm⟩,[.id 0,.id 1,.id 2,.id 3,.id 13,.id 14,.id 6,.id 7,.id 8,.id 9,.id 10],by(exact zC)⟩
    ·have hnil:qj.s=[]:=by subst h1; simpa using hbj.symm
     have m1:z.2.2.2=X.J:=by
      cases pp with
      | true=>obtain⟨m,_,e,h,_⟩:=hJR; rw [e] at hnil; exact absurd hnil h
      | false=>exact hJR.1
     subst h1;refine a0n.vc jX (n:=60) (bh (bk _)) ?_;rw [OS];exact⟨rfl,⟨X.J,m1.symm⟩,[.id 0,.id 1,.id 2,.id 3,.id 4,.id 5,.id 6,.id 7,.id 8,.id 9,.id 10],by(exact zC)⟩
   dsimp only;refine SSp.last jX (n:=60) (bh (bk _)) ?_;have nJ2:=kF (J2.map lB); have nK2:=yn J2;have q1:=U7 X.I qx;rw [cm] at q1;have nI2:=fW (X.I++[qx]);have b4:ag (X.I.length+1) 1000000=true:=aO ab;have b5:ag (X.I.length * 5) (aj bI X.I).length=true:=aO (by rw [w6]; omega);have lC:X.I.length+1=(X.I++[qx]).length:=aC;have hY:=nxt B2 hzB hbp hz0;rw [iI,← hJ2] at hY;rw [OT];simp only [ct,cC,bP,cm,b_,bV,cU,b4,b5,q1,aw];rw [lC];exact⟨rfl,⟨⟨X.i,p2,[],iK X.S,X.I++[qx],B2,J2,X.ln+1⟩,hY,rfl⟩,[.id 0,.id 1,.id 12,.id 3,.id 4,.id 5,.id 6,.id 7,.none,.none],by(exact zC)⟩
  have nI2:=fW Y.I; have nB2:=tV (Y.B.map nG); have nJ2:=kF (Y.J.map lB); have nK2:=yn Y.J; have nC2:=r9 Y.cur; have nD2:=r8 Y.cur;refine SSp.last jX (n:=60) (bh (bk _)) ?_;rw [OJ];have e3:au .add .i64 ((Y.i:Nat):Int) 1=((Y.i+1:Nat):Int):=by rw [gb ab ab]; rfl
  rw [e3];exact⟨rfl,⟨{ Y with i:=Y.i+1 },hY⟩,by dsimp only; omega,[.id 0,.id 1,.id 2,.id 3,.id 4,.id 5,.id 6,.id 7,.id 8,.id 9],by(exact zC)⟩
 obtain⟨fI,fB,fJ,fjo,fbp,k,fin⟩:=hX;have nI:=fW X.I; have nB:=tV (X.B.map nG); have nJ:=kF (X.J.map lB); have nK:=yn X.J; have nC:=r9 X.cur; have nD:=r8 X.cur;refine SSp.to jX (n:=60) (g:=aq) 1 15 rfl (σ:=Unit) (fun _=>wK s X.B.length X.J.length X.J.length 0) (fun _=>wL X.I.length (aj bI X.I) (kw X.B) (kk X.J) (kO X.J)) (bh (bk _)) ak ?_ fun _=>?_
 ·rw [OK];exact⟨rfl,(),[.id 0,.id 1,.id 2,.id 3,.id 4,.id 5],by(exact zC)⟩
 have hfin:(gg X.B X.J X.I).1=(dz s).1∧(gg X.B X.J X.I).2=(dz s).2.1:=by rw [← fin]; exact⟨rfl,rfl⟩
 refine SSp.code_to (g:=aq) 16 rfl (σ:={I2:List bL // (dz s).1=(0,0,0)∧I2=(dz s).2.1∧I2.length=X.I.length}) (fun _=>wK s X.B.length X.J.length X.J.length X.J.length) (fun I2=>wL X.I.length (aj bI I2.1) (kw X.B) (kk X.J) (kO X.J)) ak ?_ fun⟨I2,g1,g2,g3⟩=>?_
 ·refine a0n.i3g jX (n:=60) (n0:=0) 2 ak (σ:={p:Nat×List bL // p.1≤X.J.length∧p.2.length=X.I.length∧(gg X.B (X.J.drop p.1) p.2).1=(dz s).1∧(gg X.B (X.J.drop p.1) p.2).2=(dz s).2.1}) (fun p=>wK s X.B.length X.J.length X.J.length p.1.1) (fun p=>wL X.I.length (aj bI p.1.2) (kw X.B) (kk X.J) (kO X.J)) (fun p=>X.J.length - p.1.1) (fun _=>bk _) (fun⟨⟨i,I2⟩,hi,hl,hr⟩=>?_) ⟨(0,X.I),bk _,rfl,hfin⟩;dsimp only at hi hl hr ⊢;have nI2:=fW I2;rw [OL];by_cases h:i < X.J.length
  ·rw [KH h] at hr;have hm:i < (X.J.map lB).length:=by rw [ii]; exact h
   have g0:=gc (f:=cV) yd (xs:=X.J.map lB) (j:=0) hm ab;have g1:=gc (f:=cV) yd (xs:=X.J.map lB) (j:=1) hm ab;have g2:=gc (f:=cV) yd (xs:=X.J.map lB) (j:=2) hm ab;rw [List.getElem_map] at g0 g1 g2;have gk:=TD h;obtain⟨j1,j2⟩:=fjo _ (iw h);generalize X.J[i]=jj at *;rw [gA] at g0;have g0':af (kk X.J) (i * 4)=.str jj.nm:=g0;have g1':af (kk X.J) (i * 4+1)=.z jj.ln:=g1;have g2':af (kk X.J) (i * 4+2)=.z jj.cl:=g2;have lj:(kk X.J).length=X.J.length * 4:=by rw [o6,ii]
   have lk:=Db X.J;have b1:ag (i+1) X.J.length=true:=aO ab;have b2:ag (i * 4+1) (X.J.length * 4)=true:=aO ab;have b3:ag (i * 4+1+1) (X.J.length * 4)=true:=aO ab;have b3':ag (i * 4+2+1) (X.J.length * 4)=true:=aO ab;have k1:qa X.B.length (kw X.B)=true:=AS.2 ⟨X.B.map nG,rfl,aC,ab⟩;have hxf:mZ (kw X.B) jj.nm=(eY X.B jj.nm).getD (-1):=by rw [mZ,Au,IJ]; cases eY X.B jj.nm <;> rfl
   have e3:au .add .i64 (i:Int) 1=((i+1:Nat):Int):=kE h ab;simp only [show ad .lss ((i:Nat):Int) ((X.J.length:Nat):Int)=true from ga ab,ct,cC,bP,cm,b_,bV,cU,lj,lk,b1,b2,b3,b3',g0',g1',g2',k1,hxf,wS,wiS,cz,cf,er,bD,aw];cases hF:eY X.B jj.nm with
   | none =>
     rw [hF] at hr;simp only [Option.getD_none,show ad .lss (-1) 0=true from rfl,aw];exact⟨trivial,rfl,[.agg [.nils],.z jj.ln,.z jj.cl,.z 12],.tup [.agg [.nils],.z jj.ln,.z jj.cl,.z 12],[],[],ak,ED hr.1.symm iZ,by(exact zC)⟩
   | some pl =>
     rw [hF] at hr;have hpl:0≤pl:=by
      obtain⟨b,h1,h2⟩:=I3 hF;rw [← h2]; exact fbp b h1
     have c1:b9 jj.pl=true:=by rw [IC]; exact decide_eq_true j1
     have c2:ae jj.pl=jj.pl.toNat:=rfl;have c3:ag (jj.pl.toNat+1) X.I.length=true:=aO ab;have c4:ag (jj.pl.toNat * 5+3+1) (aj bI I2).length=true:=aO (by rw [w6]; omega);have c5:=Kt (I:=I2) (n:=jj.pl.toNat) (pl:=pl) ab;have nI3:=fW (o7 I2 jj.pl.toNat pl);simp only [Option.getD_some,show ad .lss pl 0=false from f_ hpl,gk,c1,c2,c3,c4,c5,cz,cf,bD,aw,aD,e3];exact⟨rfl,⟨(i+1,o7 I2 jj.pl.toNat pl),h,by dsimp only; rw [Fj]; exact hl,hr⟩,by dsimp only; omega,[.id 0,.id 1,.id 2,.id 3,.id 4,.id 5],by(exact zC)⟩
  ·simp only [show ad .lss ((i:Nat):Int) ((X.J.length:Nat):Int)=false from f_ ab,aD];have hi':i=X.J.length:=ab;have hM:=hr;rw [hi',List.drop_length] at hM;subst hi';exact⟨rfl,⟨I2,(by rw [← hM.1]; rfl),(by rw [← hM.2]; rfl),hl⟩,[.id 0,.id 1,.id 2,.id 3,.id 4,.id 5],by(exact zC)⟩
 dsimp only at g1 g2 g3 ⊢;refine SSp.last jX (n:=60) (bh (bk _)) ?_;rw [OU];have r1:fE s=aj bI I2:=by rw [fE,← g2]
 have r2:fL s=X.I.length:=by rw [fL,← g2,g3]
 have nI2:=fW I2;exact⟨trivial,rfl,[.agg [.slo 2 0 X.I.length 0],.z 0,.z 0,.z 0],.tup [.agg [.slo 0 0 X.I.length 0],.z 0,.z 0,.z 0],[.cells (aj bI I2) (some 5)],[.id 2],ak,.inr ⟨by rw [dU,g1],by rw [r2],by rw [r1]⟩,by(exact zC)⟩
end
end Go.Lev
