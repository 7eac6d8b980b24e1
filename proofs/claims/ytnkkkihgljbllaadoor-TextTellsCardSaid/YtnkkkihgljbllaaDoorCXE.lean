/- text: the reference's Parse -/
import Derived.Test.YtnkkkihgljbllaaDoorCXD
import Derived.Test.YtnkkkihgljbllaaDoorLc
import Derived.Test.YtnkkkihgljbllaaDoorChecked
import Derived.KernelRfl
import Derived.Test.YtnkkkihgljbllaaDoorLc
namespace Go.Lev
set_option linter.unusedSimpArgs false
set_option linter.unusedVariables false
open Go.RowKit
open Go.Proofs.Tryd (prog)
set_option maxRecDepth 100000
noncomputable section
abbrev paN (s:List UInt8):Nat:=(tkF s 0).length
abbrev bxE (B:List MkX):List LV:=a0f lbC (B.map lbX)
abbrev jxE (J:List MkX):List LV:=a0f rwC (J.map jrX)
abbrev plC (x:MkX):List LV:=[.int .i64 x.pl]
abbrev kxE (J:List MkX):List LV:=a0f plC J
theorem d0x (x:MkX):(plC x).length=1:=rfl
theorem f8u (xs:List MkX):(kxE xs).length=xs.length:=by rw [a1v d0x]; omega
theorem b2g (xs:List MkX):a1q (kxE xs)=true:=a1y (fun _=>rfl) xs
theorem f3b {xs:List MkX} {i:Nat} (h:i < xs.length):a0b (kxE xs) i=.int .i64 xs[i].pl:=by
 have:=a2s (f:=plC) d0x (j:=0) h (by omega)
 rw [show i * 1+0=i by omega] at this; exact this
theorem d4a (xs:List Tk) (x:Tk):a6n (a3o (a0f tkR xs) 0 (a1t xs.length 1)) [.int .i32 x.1]=a0f tkR (xs++[x]):=by
 rw [a3r (by rw [d4b]; show xs.length≤xs.length * 1; omega),a1r]; rfl
theorem d4c (xs:List Tk) (x:Tk):a6n (a3o (a0f tkB xs) 0 (a1t xs.length 1)) [.bool x.2]=a0f tkB (xs++[x]):=by
 rw [a3r (by rw [d4d]; show xs.length≤xs.length * 1; omega),a1r]; rfl
theorem f0e (B:List MkX) (x:MkX):a6n (a3o (bxE B) 0 (a1t B.length 2)) [.str x.nm,.int .i64 x.pl]=bxE (B++[x]):=by
 rw [a3r (by rw [f9a,List.length_map]; show B.length * 2≤B.length * 2; omega)]; show _=a0f lbC ((B++[x]).map lbX); rw [List.map_append,a1r]; rfl
theorem d9c (J:List MkX) (x:MkX):a6n (a3o (jxE J) 0 (a1t J.length 4)) [.str x.nm,.int .i64 x.ln,.int .i64 x.cl,.bool false]=jxE (J++[x]):=by
 rw [a3r (by rw [d3o,List.length_map]; show J.length * 4≤J.length * 4; omega)]; show _=a0f rwC ((J++[x]).map jrX); rw [List.map_append,a1r]; rfl
theorem d9b (J:List MkX) (x:MkX):a6n (a3o (kxE J) 0 (a1t J.length 1)) [.int .i64 x.pl]=kxE (J++[x]):=by
 rw [a3r (by rw [f8u]; show J.length≤J.length * 1; omega)]; show _=a0f plC (J++[x]); rw [a1r]; rfl
theorem d9d (I:List InX) (x:InX):a6n (a3o (a0f inC I) 0 (a1t I.length 5)) [.int .i64 x.op,.int .i64 x.a,.int .i64 x.b,.int .i64 x.c,.int .u64 x.n]=a0f inC (I++[x]):=d2c I x.op x.a x.b x.c x.n
structure PaX where
 i:Nat
 p:Nat
 cur:List Tk
 S:SpS
 I:List InX
 B:List MkX
 J:List MkX
 ln:Nat
structure PaB (s:List UInt8) (X:PaX):Prop where
 hI:X.I.length≤X.ln
 hB:X.B.length≤X.ln
 hJ:X.J.length≤4 * X.ln
 hl:X.ln≤X.i
 hc:X.cur.length≤X.i
 hi:X.i≤paN s+1
 jo:JOk X.I X.J
 bp:∀ b∈X.B,0≤b.pl
def PaI (s:List UInt8) (X:PaX):Prop:=PaB s X∧((X.i≤paN s∧(tkF s 0).drop X.i=tkF s X.p∧Sim s ((X.ln+1:Nat):Int) X.p X.cur X.S∧rdF (spG s X.p X.S) X.ln X.I X.B X.J=rdZ s)∨(X.i=paN s+1∧X.cur=[]∧rdF [] X.ln X.I X.B X.J=rdZ s))
structure PaF (s:List UInt8) (X:PaX):Prop where
 hI:X.I.length≤4001
 hB:X.B.length≤4001
 hJ:X.J.length≤16004
 jo:JOk X.I X.J
 bp:∀ b∈X.B,0≤b.pl
 fin:∃ k,rdF [] k X.I X.B X.J=rdZ s
abbrev d6b (s:List UInt8) (X:PaX):List (Nat×LV):=pmT s X.B.length X.J.length X.J.length X.cur.length (paN s) X.ln X.i
abbrev d6c (s:List UInt8) (X:PaX):List LB:=pmH X.I.length (a0f inC X.I) (bxE X.B) (jxE X.J) (kxE X.J) (a0f tkR (tkF s 0)) (a0f tkB (tkF s 0)) (a0f tkR X.cur) (a0f tkB X.cur)
def paQ (s:List UInt8) (l:LV) (b:List LB):Prop:=(pZe s≠0∧l=.tup [.agg [.nils],.int .i64 (pZl s),.int .i64 (pZc s),.int .i64 (pZe s)]∧b=[])∨(pZe s=0∧l=.tup [.agg [.slo 0 0 (b2c s) 0],.int .i64 0,.int .i64 0,.int .i64 0]∧b=[.cells (b1p s) (some 5)])
theorem c4j {s:List UInt8} {l c e:Int} (h:(rdZ s).1=(l,c,e)) (he:e≠0):paQ s (.tup [.agg [.nils],.int .i64 l,.int .i64 c,.int .i64 e]) []:=by
 have e1:pZl s=l:=by rw [pZl,h]
 have e2:pZc s=c:=by rw [pZc,h]
 have e3:pZe s=e:=by rw [pZe,h]
 exact .inl ⟨by rw [e3]; exact he,by rw [e1,e2,e3],rfl⟩
theorem d0b {t:List UInt8} {p:Nat} {S:SpS} (h:p < t.length):spG t p S=if xrn t p=10 then spL t S p::spG t (p+xrw t p) (spN S) else spG t (p+xrw t p) (spR t S p (xrn t p)):=by rw [spG,dif_pos h]
theorem c5w {t:List UInt8} {p:Nat} {S:SpS} (h:t.length≤p):spG t p S=if 1 < S.c then [spL t S t.length] else []:=by rw [spG,dif_neg (by omega)]
theorem d7e (s:List UInt8):f1g s=a0f tkR (tkF s 0)∧f6e s=paN s∧bdW s=a0f tkB (tkF s 0)∧bdN s=paN s:=by
 refine⟨?_,?_,?_,?_⟩
 ·rw [f1g,c0r,b2z,List.map_map]; rfl
 ·rw [f6e,c0r,List.length_map]
 ·rw [bdW,bdL]
  generalize tkF s 0=l
  induction l with
  | nil=>rfl
  | cons a r ih=>simp only [List.map_cons,a0f]; rw [ih]
 ·rw [bdN,bdL,List.length_map]
theorem d8l {s:List UInt8} {X:PaX} (hB:PaB s X) (hi:X.i≤paN s) {L:LnS} {R:List LnS} (h:rdF (L::R) X.ln X.I X.B X.J=rdZ s) :
  ((rnZ L ((X.ln+1:Nat):Int) X.I X.B X.J).1.2.2≠0→(rdZ s).1=(rnZ L ((X.ln+1:Nat):Int) X.I X.B X.J).1) ∧
  ((rnZ L ((X.ln+1:Nat):Int) X.I X.B X.J).1.2.2=0→rdF R (X.ln+1) (rnZ L ((X.ln+1:Nat):Int) X.I X.B X.J).2.1 (rnZ L ((X.ln+1:Nat):Int) X.I X.B X.J).2.2.1 (rnZ L ((X.ln+1:Nat):Int) X.I X.B X.J).2.2.2=rdZ s):=by
 rw [rdF] at h
 refine⟨fun hz=>?_,fun hz=>?_⟩
 ·rw [if_pos hz] at h; rw [← h]
 ·rw [if_neg (by simpa using hz)] at h; exact h
set_option maxHeartbeats 16000000 in
theorem f3e (s:List UInt8) (hs:s.length≤4000):a0k prog 18 [.str s] (mkS [] gt4) fun l st=>∃ b,paQ s l b∧st=mkS b gt4:=by
 refine a0k.mono (a0k.h0o (Q:=paQ s) 228 0 [.cell 2 33,.tmp 3,.tmp 4,.tmp 5] paX (by kernel_rfl) rfl rfl (by kernel_rfl) ?_) fun l s' ⟨b0,h1,h3⟩=>⟨b0,h1,h3⟩
 obtain⟨x1,x2,x3,x4⟩:=d7e s
 have hn:paN s≤s.length:=c9t s 0
 have nrx:=a6e (tkF s 0); have nwx:=a6f (tkF s 0)
 have lrx:=d4b (tkF s 0); have lwx:=d4d (tkF s 0)
 have wS:∀ x,asS (.str x)=x:=fun _=>rfl
 have wiS:∀ x,isS (.str x)=true:=fun _=>rfl
 have wB:∀ x,asB (.bool x)=x:=fun _=>rfl
 have wiB:∀ x,isB (.bool x)=true:=fun _=>rfl
 have er:∀ x:Int,xcm .eql x x=true:=fun x=>a2i rfl
 have es:∀ x:List UInt8,a3h .eql x x=true:=fun x=>by show(x == x)=true; simp
 have eb:∀ x:Bool,xbq x x=true:=fun x=>by cases x <;> rfl
 have ee:∀ x:Nat,xeq x x=true:=fun x=>by simp [xeq]
 have pF:b6j b8t=true:=a8d
 refine SSp.to a4d (n:=60) (g:=gt4) 13 13 rfl (σ:=Unit) (fun _=>d6b s ⟨0,0,[],spZ,[],[],[],0⟩) (fun _=>d6c s ⟨0,0,[],spZ,[],[],[],0⟩) (a0y (Nat.zero_le _)) (by kernel_rfl) ?_ fun _=>?_
 ·rw [g6k]
  simp only [show xcm .gtr ((a0z s:Nat):Int) 4000=false from a7e (show((s.length:Nat):Int)≤4000 by omega),show xle (a0z s) 1000000=true from a1n (show s.length≤1000000 by omega),show xle (a0z s) 900000=true from a1n (show s.length≤900000 by omega),x1,x2,x3,x4,cond_true,cond_false]
  exact⟨rfl,(),[.id 0,.id 1,.none,.none,.none,.none,.id 2,.id 3,.none,.none],by(exact zC)⟩
 refine SSp.code_to (g:=gt4) 14 rfl (σ:={X:PaX // PaF s X}) (fun X=>d6b s X.1) (fun X=>d6c s X.1) (by kernel_rfl) ?_ fun⟨X,hX⟩=>?_
 ·refine a0p.g9t 0 (by kernel_rfl) (n0:=0) (σ:={X:PaX // PaI s X}) (fun X=>d6b s X.1) (fun X=>d6c s X.1) (fun X=>paN s+2 - X.1.i) (fun _=>Nat.zero_le _) (fun⟨X,hX⟩=>?_) ⟨⟨0,0,[],spZ,[],[],[],0⟩,⟨Nat.le_refl _,Nat.le_refl _,Nat.le_refl _,Nat.le_refl _,Nat.le_refl _,by simp,fun j hj=>(by cases hj),fun b hb=>(by cases hb)⟩,.inl ⟨Nat.zero_le _,rfl,Sim.fresh (Nat.zero_le _),rfl⟩⟩
  obtain⟨hB,hX⟩:=hX
  have hJ1:=hB.hJ; have hI1:=hB.hI; have hB1:=hB.hB; have hl1:=hB.hl; have hi1:=hB.hi; have hc1:=hB.hc
  have nI:=a1z X.I; have nB:=a8s (X.B.map lbX); have nJ:=a3k (X.J.map jrX); have nK:=b2g X.J; have nC:=a6e X.cur; have nD:=a6f X.cur
  refine SSp.to a4d (n:=60) (g:=gt4) 2 2 rfl (σ:={_u:Unit // X.i≤paN s}) (fun _=>d6b s X) (fun _=>d6c s X) (a0y (Nat.zero_le _)) (by kernel_rfl) ?_ fun⟨_,hin⟩=>?_
  ·rw [g6g]
   by_cases h:X.i≤paN s
   ·simp only [show xcm .leq ((X.i:Nat):Int) ((paN s:Nat):Int)=true from a9k (by omega),cond_true]
    exact⟨rfl,⟨(),h⟩,[.id 0,.id 1,.id 2,.id 3,.id 4,.id 5,.id 6,.id 7,.id 8,.id 9],by(exact zC)⟩
   ·simp only [show xcm .leq ((X.i:Nat):Int) ((paN s:Nat):Int)=false from c5a (by omega),cond_false]
    have hf:PaF s X:=by
     rcases hX with⟨q,_⟩ | ⟨_,_,q⟩
     ·exact absurd q h
     ·exact⟨by omega,by omega,by omega,hB.jo,hB.bp,_,q⟩
    exact⟨rfl,⟨X,hf⟩,[.id 0,.id 1,.id 2,.id 3,.id 4,.id 5,.id 6,.id 7,.id 8,.id 9],by(exact zC)⟩
  obtain⟨hdr,hsim,hrd⟩:(tkF s 0).drop X.i=tkF s X.p∧Sim s ((X.ln+1:Nat):Int) X.p X.cur X.S∧rdF (spG s X.p X.S) X.ln X.I X.B X.J=rdZ s:=by
   rcases hX with⟨_,q⟩ | ⟨q,_⟩
   ·exact q
   ·omega
  have htok:∀ h:X.i < paN s,X.p < s.length∧(tkF s 0)[X.i]=(xrn s X.p,wrB s X.p)∧(tkF s 0).drop (X.i+1)=tkF s (X.p+xrw s X.p):=fun h=>by
   rw [List.drop_eq_getElem_cons h] at hdr
   have hp:X.p < s.length:=by
    rcases Nat.lt_or_ge X.p s.length with q | q
    ·exact q
    ·rw [b7g q] at hdr; cases hdr
   rw [c0l hp] at hdr
   simp only [List.cons.injEq] at hdr
   exact⟨hp,hdr.1,hdr.2⟩
  have hend:X.i=paN s→s.length≤X.p:=fun h=>by
   rw [h,List.drop_length] at hdr
   rcases Nat.lt_or_ge X.p s.length with q | q
   ·rw [c0l q] at hdr; cases hdr
   ·exact q
  refine SSp.code_to (g:=gt4) 3 rfl (σ:={Y:PaX // PaI s { Y with i:=Y.i+1 }∧Y.i=X.i}) (fun Y=>d6b s Y.1) (fun Y=>d6c s Y.1) (by kernel_rfl) ?_ fun⟨Y,hY,hYi⟩=>?_
  ·refine a0p.h0p 1 (by kernel_rfl) ?_
   refine SSp.to a4d (n:=60) (g:=gt4) 1 1 rfl (σ:={q:Bool // (q=true→∃ h:X.i < paN s,(tkF s 0)[X.i].1≠10)∧(q=false→X.i < paN s→xrn s X.p=10)}) (fun q=>d6b s X++[(49,.bool q.1)]) (fun _=>d6c s X) (a0y (Nat.zero_le _)) (by kernel_rfl) ?_ fun⟨q,hq1,hq2⟩=>?_
   ·rw [g6j]
    by_cases h:X.i < paN s
    ·obtain⟨g1,g2,g3⟩:=htok h
     have v0:=b5i h
     have b1:xle (X.i+1) (paN s)=true:=a1n (by omega)
     have b2:xle (X.i+1) (a0f tkR (tkF s 0)).length=true:=a1n (by rw [lrx]; exact h)
     simp only [show xcm .lss ((X.i:Nat):Int) ((paN s:Nat):Int)=true from a6j (by omega),a2w,a5j,a1o,a3e,Nat.zero_add,Nat.mul_one,b1,b2,v0,a3d,a2q,decide_true,cond_true]
     by_cases h10:(tkF s 0)[X.i].1=10
     ·rw [show xcm .neq (tkF s 0)[X.i].1 10=false from a9b h10]
      exact⟨rfl,⟨false,fun e=>(by cases e),fun _ _=>by rw [g2] at h10; exact h10⟩,[.id 0,.id 1,.id 2,.id 3,.id 4,.id 5,.id 6,.id 7,.id 8,.id 9],by(exact zC)⟩
     ·rw [show xcm .neq (tkF s 0)[X.i].1 10=true from a8n h10]
      exact⟨rfl,⟨true,fun _=>⟨h,h10⟩,fun e=>(by cases e)⟩,[.id 0,.id 1,.id 2,.id 3,.id 4,.id 5,.id 6,.id 7,.id 8,.id 9],by(exact zC)⟩
    ·simp only [show xcm .lss ((X.i:Nat):Int) ((paN s:Nat):Int)=false from a6h (by omega),cond_false]
     exact⟨rfl,⟨false,fun e=>(by cases e),fun _ q=>absurd q h⟩,[.id 0,.id 1,.id 2,.id 3,.id 4,.id 5,.id 6,.id 7,.id 8,.id 9],by(exact zC)⟩
   refine SSp.code_to (g:=gt4) 2 rfl (σ:={_u:Unit // q=false}) (fun _=>d6b s X) (fun _=>d6c s X) (by kernel_rfl) ?_ fun⟨_,hqf⟩=>?_
   ·refine a0p.ways (t:=49) (q:=q) (by kernel_rfl) rfl (fun h1=>?_) (fun h1=>?_)
    ·subst h1
     obtain⟨h,h10⟩:=hq1 rfl
     obtain⟨g1,g2,g3⟩:=htok h
     rw [g2] at h10
     have hw:=b1o g1
     refine a0p.h0c ?_
     refine SSp.code_to (g:=gt4) 1 rfl (σ:=Unit) (fun _=>d6b s { X with cur:=X.cur++[(xrn s X.p,wrB s X.p)] }) (fun _=>d6c s { X with cur:=X.cur++[(xrn s X.p,wrB s X.p)] }) (by kernel_rfl) ?_ fun _=>?_
     ·refine a0p.g9u a4d (n:=60) (a0y (Nat.zero_le _)) ?_
      have v0:=b5i h; have v1:=c9u h
      rw [g2] at v0 v1
      have b1:xle (X.i+1) (paN s)=true:=a1n (by omega)
      have b2:xle (X.i+1) (a0f tkR (tkF s 0)).length=true:=a1n (by rw [lrx]; exact h)
      have b3:xle (X.i+1) (a0f tkB (tkF s 0)).length=true:=a1n (by rw [lwx]; exact h)
      have b4:xle (X.cur.length+1) 1000000=true:=a1n (by omega)
      have b5:xle (X.cur.length) (a0f tkR X.cur).length=true:=a1n (by rw [d4b]; omega)
      have b6:xle (X.cur.length) (a0f tkB X.cur).length=true:=a1n (by rw [d4d]; omega)
      have p1:=d4a X.cur (xrn s X.p,wrB s X.p); have p2:=d4c X.cur (xrn s X.p,wrB s X.p)
      rw [a2g,Nat.mul_one] at p1 p2
      have nC2:=a6e (X.cur++[(xrn s X.p,wrB s X.p)]); have nD2:=a6f (X.cur++[(xrn s X.p,wrB s X.p)])
      have lC:X.cur.length+1=(X.cur++[(xrn s X.p,wrB s X.p)]).length:=by simp
      rw [g6a]
      simp only [a2w,a5j,a1o,a2g,a3e,Nat.zero_add,Nat.mul_one,b1,b2,b3,b4,b5,b6,v0,v1,p1,p2,er,eb,wB,wiB,a3d,a2q,decide_true,cond_true]
      rw [lC]
      refine⟨?_,?_,?_⟩
      ·exact⟨rfl,(),[.id 0,.id 1,.id 2,.id 3,.id 4,.id 5,.id 6,.id 7,.id 11,.id 13],by(exact zC)⟩
      ·exact⟨rfl,(),[.id 0,.id 1,.id 2,.id 3,.id 4,.id 5,.id 6,.id 7,.id 12,.id 13],by(exact zC)⟩
      ·exact⟨rfl,(),[.id 0,.id 1,.id 2,.id 3,.id 4,.id 5,.id 6,.id 7,.id 12,.id 13],by(exact zC)⟩
     refine SSp.last a4d (n:=60) (a0y (Nat.zero_le _)) ?_
     have nC2:=a6e (X.cur++[(xrn s X.p,wrB s X.p)]); have nD2:=a6f (X.cur++[(xrn s X.p,wrB s X.p)])
     rw [g5z]
     refine⟨rfl,⟨⟨X.i,X.p+xrw s X.p,X.cur++[(xrn s X.p,wrB s X.p)],spR s X.S X.p (xrn s X.p),X.I,X.B,X.J,X.ln⟩,⟨⟨hI1,hB1,hJ1,by dsimp only; omega,by(dsimp only; simp; omega),by dsimp only; omega,hB.jo,hB.bp⟩,.inl ⟨by dsimp only; omega,g3,hsim.next g1,?_⟩⟩,rfl⟩,[.id 0,.id 1,.id 2,.id 3,.id 4,.id 5,.id 6,.id 7,.id 8,.id 9],by(exact zC)⟩
     rw [d0b g1,if_neg h10] at hrd
     exact hrd
    ·subst h1
     refine a0p.vc a4d (n:=60) (a0y (Nat.zero_le _)) ?_
     rw [g5y]
     exact⟨rfl,⟨(),rfl⟩,[.id 0,.id 1,.id 2,.id 3,.id 4,.id 5,.id 6,.id 7,.id 8,.id 9],by(exact zC)⟩
   subst hqf
   obtain⟨sl,se⟩:=hsim.line
   have scl:=hsim.c
   have el1:xar .add .i64 ((X.ln:Nat):Int) 1=((X.ln+1:Nat):Int):=by rw [a5c (by omega) (by omega)]; rfl
   obtain⟨cfl,cfn⟩:=d9z ((X.ln+1:Nat):Int) X.cur
   generalize hW:cuF ((X.ln+1:Nat):Int) X.cur=W at *
   generalize hE:((cuE X.cur).length:Int)+1=E at *
   refine SSp.to a4d (n:=60) (g:=gt4) 5 7 rfl (σ:={_u:Unit // X.i < paN s∨X.cur≠[]}) (fun _=>pmU s X.B.length X.J.length X.J.length (paN s) ((X.ln+1:Nat):Int) X.i 0 W.length E) (fun _=>pmK X.I.length (a0f inC X.I) (bxE X.B) (jxE X.J) (kxE X.J) (a0f tkR (tkF s 0)) (a0f tkB (tkF s 0)) (a0f rwC W)) (a0y (Nat.zero_le _)) (by kernel_rfl) ?_ fun⟨_,hgo⟩=>?_
   ·rw [g6i]
    have k1:d8o X.cur.length X.cur.length (a0f tkR X.cur) (a0f tkB X.cur)=true:=b8v.2 ⟨X.cur,rfl,rfl,rfl,rfl,by omega⟩
    have c1:cuN ((X.ln+1:Nat):Int) (a0f tkR X.cur) (a0f tkB X.cur)=W.length:=by rw [cuN,b5j,hW]
    have c2:cuX ((X.ln+1:Nat):Int) (a0f tkR X.cur) (a0f tkB X.cur)=a0f rwC W:=by rw [cuX,b5j,hW]
    have c3:cuZ (a0f tkR X.cur) (a0f tkB X.cur)=E:=by rw [cuZ,b5j,hE]
    have nW:=a3k W
    simp only [el1,k1,c1,c2,c3,cond_true]
    by_cases h:X.i=paN s
    ·simp only [show xcm .eql ((X.i:Nat):Int) ((paN s:Nat):Int)=true from a2i (by omega),cond_true]
     by_cases h0:X.cur.length=0
     ·simp only [show xcm .eql ((X.cur.length:Nat):Int) 0=true from a2i (by omega),cond_true]
      have hf:PaF s { X with ln:=X.ln+1 }:=by
       refine⟨by dsimp only; omega,by dsimp only; omega,by dsimp only; omega,hB.jo,hB.bp,X.ln,?_⟩
       rw [c5w (hend h),if_neg (by omega)] at hrd
       exact hrd
      exact⟨rfl,⟨{ X with ln:=X.ln+1 },hf⟩,[.id 0,.id 1,.id 2,.id 3,.id 4,.id 5,.id 6,.id 7,.id 8,.id 9],by(exact zC)⟩
     ·simp only [show xcm .eql ((X.cur.length:Nat):Int) 0=false from a2c (by omega),cond_false]
      exact⟨rfl,⟨(),.inr fun e=>h0 (by rw [e]; rfl)⟩,[.id 0,.id 1,.id 2,.id 3,.id 4,.id 5,.id 6,.id 7,.id 10],by(exact zC)⟩
    ·simp only [show xcm .eql ((X.i:Nat):Int) ((paN s:Nat):Int)=false from a2c (by omega),cond_false]
     exact⟨rfl,⟨(),.inl (by omega)⟩,[.id 0,.id 1,.id 2,.id 3,.id 4,.id 5,.id 6,.id 7,.id 10],by(exact zC)⟩
   obtain⟨R,p2,hR1,hR2⟩:∃ (R:List LnS) (p2:Nat),rdF (spL s X.S X.p::R) X.ln X.I X.B X.J=rdZ s∧∀ (I2:List InX) (B2 J2:List MkX),rdF R (X.ln+1) I2 B2 J2=rdZ s→PaB s ⟨X.i+1,p2,[],spN X.S,I2,B2,J2,X.ln+1⟩→PaI s ⟨X.i+1,p2,[],spN X.S,I2,B2,J2,X.ln+1⟩:=by
    by_cases h:X.i < paN s
    ·obtain⟨g1,g2,g3⟩:=htok h
     have hw:=b1o g1
     rw [d0b g1,if_pos (hq2 rfl h)] at hrd
     exact⟨_,X.p+xrw s X.p,hrd,fun I2 B2 J2 hr hb=>⟨hb,.inl ⟨by dsimp only; omega,g3,Sim.fresh hw.2,hr⟩⟩⟩
    ·have hx:X.i=paN s:=by omega
     have hpl:=hend hx
     have hpp:X.p=s.length:=by have:=hsim.hp; omega
     have hc0:X.cur≠[]:=hgo.resolve_left h
     have hc1:1≤X.cur.length:=by rcases hc:X.cur with _ | ⟨a,b⟩; exact absurd hc hc0; simp
     rw [c5w hpl,if_pos (by omega),← hpp] at hrd
     exact⟨[],X.p,hrd,fun I2 B2 J2 hr hb=>⟨hb,.inr ⟨by dsimp only; omega,rfl,hr⟩⟩⟩
   obtain⟨pl1,pl2⟩:=d8l hB hin hR1
   have pj:=d7v (L:=spL s X.S X.p) (ln:=((X.ln+1:Nat):Int)) (B:=X.B) hB.jo
   generalize hL:spL s X.S X.p=L at *
   generalize hz:rnZ L ((X.ln+1:Nat):Int) X.I X.B X.J=z at *
   have nxt:∀ (B2:List MkX),z.2.2.1=B2→(∀ b∈B2,0≤b.pl)→z.1.2.2=0→PaI s ⟨X.i+1,p2,[],spN X.S,z.2.1,B2,z.2.2.2,X.ln+1⟩:=fun B2 h1 h2 h3=>by
    subst h1
    exact hR2 _ _ _ (pl2 h3) ⟨by dsimp only; omega,by dsimp only; omega,by dsimp only; omega,by dsimp only; omega,Nat.zero_le _,by dsimp only; omega,pj.2.2.2 h3,h2⟩
   have bad:∀ (c:Int),z.1=(((X.ln+1:Nat):Int),c,12)→paQ s (.tup [.agg [.nils],.int .i64 ((X.ln+1:Nat):Int),.int .i64 c,.int .i64 12]) []:=fun c h=>c4j (by rw [pl1 (by rw [h]; simp),h]) (by decide)
   refine SSp.to a4d (n:=60) (g:=gt4) 2 9 rfl (σ:={q:List MkX×List RW // Lab z E ((X.ln+1:Nat):Int) X.I X.J q.1 q.2∧q.1.length≤X.ln+1∧(∀ b∈q.1,0≤b.pl)∧q.2.length≤4000∧∀ w∈q.2,w.s.length≤16000}) (fun q=>pmU s q.1.1.length X.J.length X.J.length (paN s) ((X.ln+1:Nat):Int) X.i 0 q.1.2.length E) (fun q=>pmK X.I.length (a0f inC X.I) (bxE q.1.1) (jxE X.J) (kxE X.J) (a0f tkR (tkF s 0)) (a0f tkB (tkF s 0)) (a0f rwC q.1.2)) (a0y (Nat.zero_le _)) (by kernel_rfl) ?_ fun⟨⟨B2,W2⟩,hLab,hB2,hbp,hW2,hws⟩=>?_
   ·rw [g6h]
    have nW:=a3k W
    have lW:=d3o W
    rcases W with _ | ⟨v,ws⟩
    ·simp only [show xcm .gtr (((([]:List RW).length:Nat)):Int) 0=false from a7e (by simp),cond_false]
     refine⟨rfl,⟨(X.B,[]),.inl ⟨rfl,?_⟩,by dsimp only; omega,hB.bp,by simp,by simp⟩,[.id 0,.id 1,.id 2,.id 3,.id 4,.id 5,.id 6,.id 7,.id 8],by(exact zC)⟩
     have:L.ws=[]:=by
      generalize L.ws=lw at sl
      cases sl; rfl
     rw [← hz,rnZ,this]
    ·have n0:a0b (a0f rwC (v::ws)) 0=.str v.s:=rfl
     have n2:a0b (a0f rwC (v::ws)) 2=.int .i64 v.cl:=rfl
     have n3:a0b (a0f rwC (v::ws)) 3=.bool v.bd:=rfl
     have lW':(a0f rwC (v::ws)).length=(ws.length+1) * 4:=by rw [lW,List.length_cons]
     have y1:xle 1 (v::ws).length=true:=a1n (by simp)
     have y2:xle 1 ((ws.length+1) * 4)=true:=a1n (by omega)
     have y3:xle 3 ((ws.length+1) * 4)=true:=a1n (by omega)
     have y4:xle 4 ((ws.length+1) * 4)=true:=a1n (by omega)
     have y5:xle (v::ws).length (v::ws).length=true:=a1n (Nat.le_refl _)
     have hvs:v.s.length≤16000:=by have:=cfl v (by simp); omega
     simp only [show xcm .gtr ((((v::ws).length:Nat)):Int) 0=true from a7w (by simp only [List.length_cons]; omega),a3e,lW',y1,y2,n0,wS,wiS,cond_true]
     by_cases h0:v.s.length=0
     ·simp only [show xcm .gtr ((a0z v.s:Nat):Int) 0=false from a7e (show((v.s.length:Nat):Int)≤0 by omega),cond_false]
      have hlb:d3q v=false:=by simp [d3q,h0]
      have:=d6p sl se X.I X.B X.J hlb
      rw [hz] at this
      exact⟨rfl,⟨(X.B,v::ws),this,by dsimp only; omega,hB.bp,by dsimp only; omega,fun w hw=>by have:=cfl w hw; omega⟩,[.id 0,.id 1,.id 2,.id 3,.id 4,.id 5,.id 6,.id 7,.id 8],by(exact zC)⟩
     have e1:xar .sub .i64 ((a0z v.s:Nat):Int) 1=((v.s.length - 1:Nat):Int):=by
      show xar .sub .i64 ((v.s.length:Nat):Int) 1=_
      rw [c3u (by omega) (by omega)]
      omega
     have y6:xnn ((v.s.length - 1:Nat):Int)=true:=c9p _
     have y7:xle (v.s.length - 1+1) (a0z v.s)=true:=a1n (show v.s.length - 1+1≤v.s.length by omega)
     have y8:xle (v.s.length - 1) (a0z v.s)=true:=a1n (show v.s.length - 1≤v.s.length by omega)
     simp only [show xcm .gtr ((a0z v.s:Nat):Int) 0=true from a7w (show(0:Int) < ((v.s.length:Nat):Int) by omega),e1,y6,a2w,a1o,y7,y8,cond_true]
     by_cases h58:a1i v.s (v.s.length - 1)=58
     ·have hlb:d3q v=true:=by simp [d3q,h58]; omega
      obtain⟨L1,L2⟩:=d9a sl se X.I X.B X.J hlb
      rw [hz] at L1 L2
      simp only [show xcm .eql (a1i v.s (v.s.length - 1)) 58=true from a2i h58,y3,y4,n2,n3,wB,wiB,a3d,a2q,er,decide_true,cond_true]
      cases hb:v.bd with
      | true =>
        simp only [cond_true]
        exact⟨trivial,rfl,[.agg [.nils],.int .i64 ((X.ln+1:Nat):Int),.int .i64 v.cl,.int .i64 12],.tup [.agg [.nils],.int .i64 ((X.ln+1:Nat):Int),.int .i64 v.cl,.int .i64 12],[],[],by kernel_rfl,bad _ (L1 hb),by(exact zC)⟩
      | false =>
        obtain⟨L2,L3,L4⟩:=L2 hb
        have hrl:a0v v.s 0 (v.s.length - 1)=rlS v.s:=rfl
        have y9:xle (a0z (rlS v.s)) 1000000000=true:=a1n (by
         show(rlS v.s).length≤_
         rw [rlS,b9q (by omega)]; omega)
        simp only [hrl,y9,cond_true,cond_false]
        cases hN:a9l (rlS v.s) with
        | false =>
          simp only [show a3i false=true from rfl,cond_true]
          exact⟨trivial,rfl,[.agg [.nils],.int .i64 ((X.ln+1:Nat):Int),.int .i64 v.cl,.int .i64 12],.tup [.agg [.nils],.int .i64 ((X.ln+1:Nat):Int),.int .i64 v.cl,.int .i64 12],[],[],by kernel_rfl,bad _ (L2 hN),by(exact zC)⟩
        | true =>
          have k1:d4l X.B.length (bxE X.B)=true:=b4s.2 ⟨X.B.map lbX,rfl,by simp,by omega⟩
          have hxf:xfW (bxE X.B) (rlS v.s)=(b0v X.B (rlS v.s)).getD (-1):=by rw [xfW,b9d,d5h]; cases b0v X.B (rlS v.s) <;> rfl
          simp only [show a3i true=false from rfl,k1,hxf,cond_true,cond_false]
          cases hF:b0v X.B (rlS v.s) with
          | some pl =>
            have hpl:0≤pl:=by
             obtain⟨b,h1,h2⟩:=d2k hF
             rw [← h2]; exact hB.bp b h1
            simp only [Option.getD_some,show xcm .geq pl 0=true from b3a hpl,cond_true]
            exact⟨trivial,rfl,[.agg [.nils],.int .i64 ((X.ln+1:Nat):Int),.int .i64 v.cl,.int .i64 12],.tup [.agg [.nils],.int .i64 ((X.ln+1:Nat):Int),.int .i64 v.cl,.int .i64 12],[],[],by kernel_rfl,bad _ (L3 hN (by rw [hF]; simp)),by(exact zC)⟩
          | none =>
            have ya:xle (X.B.length+1) 1000000=true:=a1n (by omega)
            have yb:xle (X.B.length * 2) (bxE X.B).length=true:=a1n (by rw [f9a,List.length_map]; omega)
            have pb:=f0e X.B ⟨rlS v.s,X.I.length,0,0⟩
            rw [a2g] at pb
            dsimp only at pb
            have nB2:=a8s ((X.B++[(⟨rlS v.s,X.I.length,0,0⟩:MkX)]).map lbX)
            have nw:=a3k ws
            simp only [Option.getD_none,show xcm .geq (-1) 0=false from rfl,a2g,a1o,Nat.zero_add,ya,yb,y5,pb,cond_true,cond_false]
            have hlen:X.B.length+1=(X.B++[(⟨rlS v.s,X.I.length,0,0⟩:MkX)]).length:=by simp
            rw [hlen,show c3g (v::ws).length 1=ws.length from rfl]
            refine⟨rfl,⟨(X.B++[⟨rlS v.s,X.I.length,0,0⟩],ws),L4 hN hF,by(dsimp only; simp; omega),?_,by(dsimp only; simp at cfn; omega),fun w hw=>by have:=cfl w (by simp [hw]); omega⟩,[.id 0,.id 1,.id 2,.id 10,.id 4,.id 5,.id 6,.id 7,.drop 8 4 1],?_⟩
            ·intro b hb
             rcases List.mem_append.1 hb with hb | hb
             ·exact hB.bp b hb
             ·rw [List.mem_singleton.1 hb]; show(0:Int)≤((X.I.length:Nat):Int); omega
            ·have hd:∀ ρ,LBW ρ (.drop 8 4 1) (.cells (a0f rwC ws) (some 4)) (some (.cells (a0f rwC (v::ws)) (some 4))):=fun ρ=>by
              refine d8x (by rw [lW',d3o]; omega) ?_ nw
              show _=((rwC v++a0f rwC ws).drop (rwC v).length).take _
              rw [List.drop_left,List.take_length]
             exact(by refine⟨by kernel_rfl,?_,?_⟩ <;> repeat first | exact a1d | refine a0w ?_ ?_ | exact a0x | refine a0r ?_ ?_ | exact a0u | refine a0d ?_ ?_ | exact hd _ | exact d1i rfl | exact a1e | exact zy1 | exact zy2 | exact c4u | exact a2e | exact zya | refine zy3 ?_ | exact zy4 | exact c1d | exact a1u | exact a5r | exact zy5 | exact zy6 | exact b6b | exact d1h | exact a6y | exact zy7 | exact zy8 | exact zy9 | refine b6a ?_ | refine c1e ?_ | refine d8t ?_ | assumption)
     ·simp only [show xcm .eql (a1i v.s (v.s.length - 1)) 58=false from a2c h58,cond_false]
      have hlb:d3q v=false:=by simp [d3q,h58]
      have:=d6p sl se X.I X.B X.J hlb
      rw [hz] at this
      exact⟨rfl,⟨(X.B,v::ws),this,by dsimp only; omega,hB.bp,by dsimp only; omega,fun w hw=>by have:=cfl w hw; omega⟩,[.id 0,.id 1,.id 2,.id 3,.id 4,.id 5,.id 6,.id 7,.id 8],by(exact zC)⟩
   dsimp only at hLab hB2 hbp hW2 hws ⊢
   have nB2:=a8s (B2.map lbX); have nW2:=a3k W2
   refine SSp.to a4d (n:=60) (g:=gt4) 2 11 rfl (σ:={_u:Unit // W2≠[]}) (fun _=>pmU s B2.length X.J.length X.J.length (paN s) ((X.ln+1:Nat):Int) X.i 0 W2.length E) (fun _=>pmK X.I.length (a0f inC X.I) (bxE B2) (jxE X.J) (kxE X.J) (a0f tkR (tkF s 0)) (a0f tkB (tkF s 0)) (a0f rwC W2)) (a0y (Nat.zero_le _)) (by kernel_rfl) ?_ fun⟨_,hne⟩=>?_
   ·rw [g6f]
    rcases W2 with _ | ⟨v,ws⟩
    ·simp only [show xcm .eql (((([]:List RW).length:Nat)):Int) 0=true from a2i rfl,cond_true]
     have hz2:z=((0,0,0),X.I,B2,X.J):=by
      rcases hLab with⟨_,q⟩ | ⟨_,_,_,_,q,_⟩
      ·exact q
      ·cases q
     have:=nxt B2 (by rw [hz2]) hbp (by rw [hz2])
     rw [hz2] at this
     exact⟨rfl,⟨⟨X.i,p2,[],spN X.S,X.I,B2,X.J,X.ln+1⟩,this,rfl⟩,[.id 0,.id 1,.id 2,.id 3,.id 4,.id 5,.id 6,.id 7,.none,.none],by(exact zC)⟩
    ·simp only [show xcm .eql ((((v::ws).length:Nat)):Int) 0=false from a2c (by simp; omega),cond_false]
     exact⟨rfl,⟨(),by simp⟩,[.id 0,.id 1,.id 2,.id 3,.id 4,.id 5,.id 6,.id 7,.id 8],by(exact zC)⟩
   obtain⟨v,ws,y,ys,rfl,hv,hA2,hz2⟩:∃ v ws y ys,W2=v::ws∧Wr ((X.ln+1:Nat):Int) v y∧Al ((X.ln+1:Nat):Int) ws ys∧z=((riZ y.1 y.2 ys E ((X.ln+1:Nat):Int) X.I X.J).1,(riZ y.1 y.2 ys E ((X.ln+1:Nat):Int) X.I X.J).2.1,B2,(riZ y.1 y.2 ys E ((X.ln+1:Nat):Int) X.I X.J).2.2):=by
    rcases hLab with⟨q,_⟩ | ⟨v,ws,y,ys,q1,q2,q3,q4⟩
    ·exact absurd q hne
    ·exact⟨v,ws,y,ys,q1,q2,q3,q4⟩
   obtain⟨i1,i2⟩:=f4b (e:=E) hv hA2 X.I X.J
   have hz1:z.1=(riZ y.1 y.2 ys E ((X.ln+1:Nat):Int) X.I X.J).1:=by rw [hz2]
   have hzI:z.2.1=(riZ y.1 y.2 ys E ((X.ln+1:Nat):Int) X.I X.J).2.1:=by rw [hz2]
   have hzB:z.2.2.1=B2:=by rw [hz2]
   have hzJ:z.2.2.2=(riZ y.1 y.2 ys E ((X.ln+1:Nat):Int) X.I X.J).2.2:=by rw [hz2]
   rw [← hz1] at i1 i2
   rw [← hzI,← hzJ] at i2
   generalize hq:c8h E ((X.ln+1:Nat):Int) ((X.I.length:Nat):Int) (v::ws)=q at *
   obtain⟨qx,qj,qf⟩:=q
   dsimp only at i1 i2
   have iV:iiV 0 (a0f rwC (v::ws)) E ((X.ln+1:Nat):Int) ((X.I.length:Nat):Int)=(qx,qj,qf):=by
    rw [iiV,List.drop_zero,c4a,hq]
   have k1:f0s 0 (v::ws).length (a0f rwC (v::ws))=true:=b8w.2 ⟨[],v::ws,rfl,rfl,rfl,by simp,by omega,fun w hw=>by have:=hws w hw; omega⟩
   refine SSp.to a4d (n:=60) (g:=gt4) 4 15 rfl (σ:={b:Bool // b=decide (qj.s≠[])∧z.1.2.2=0}) (fun b=>pmU s B2.length X.J.length X.J.length (paN s) ((X.ln+1:Nat):Int) X.i 0 (v::ws).length E++[(19,.ptr 9 0),(20,.ptr 10 0),(175,.bool b.1)]) (fun _=>pmK X.I.length (a0f inC X.I) (bxE B2) (jxE X.J) (kxE X.J) (a0f tkR (tkF s 0)) (a0f tkB (tkF s 0)) (a0f rwC (v::ws))++[.cells [.int .i64 qx.op,.int .i64 qx.a,.int .i64 qx.b,.int .i64 qx.c,.int .u64 qx.n] none,.cells [.str qj.s,.int .i64 qj.ln,.int .i64 qj.cl,.bool qj.bd] none]) (a0y (Nat.zero_le _)) (by kernel_rfl) ?_ fun⟨bj,hbj,hz0⟩=>?_
   ·rw [g6e]
    dsimp only [c4g]
    simp only [f0v,iiA,iiB,iiC,iiN,d9f,f0w,f0x,f0y,d2f,d2g,c8t,iV,k1,pF,er,cond_true]
    by_cases hf:qf.2.2=0
    ·simp only [show xcm .neq qf.2.2 0=false from a9b hf,cond_false]
     refine⟨rfl,⟨a3h .neq qj.s [],?_,by rw [← i1]; exact hf⟩,[.id 0,.id 1,.id 2,.id 3,.id 4,.id 5,.id 6,.id 7,.id 8,.id 9,.id 10],by(exact zC)⟩
     show(qj.s != [])=decide (qj.s≠[])
     cases qj.s <;> rfl
    ·simp only [show xcm .neq qf.2.2 0=true from a8n hf,cond_true]
     have hb:paQ s (.tup [.agg [.nils],.int .i64 qf.1,.int .i64 qf.2.1,.int .i64 qf.2.2]) []:=c4j (by rw [pl1 (by rw [← i1]; exact hf),← i1]) hf
     exact⟨trivial,rfl,[.agg [.nils],.int .i64 qf.1,.int .i64 qf.2.1,.int .i64 qf.2.2],.tup [.agg [.nils],.int .i64 qf.1,.int .i64 qf.2.1,.int .i64 qf.2.2],[],[],by kernel_rfl,hb,by(exact zC)⟩
   obtain⟨iI,pp,hJR⟩:=i2 hz0
   have lJ:=pj.2.2.1
   refine SSp.code_to (g:=gt4) 16 rfl (σ:={J2:List MkX // J2=z.2.2.2}) (fun J2=>pmU s B2.length J2.1.length J2.1.length (paN s) ((X.ln+1:Nat):Int) X.i 0 (v::ws).length E++[(19,.ptr 9 0),(20,.ptr 10 0)]) (fun J2=>pmK X.I.length (a0f inC X.I) (bxE B2) (jxE J2.1) (kxE J2.1) (a0f tkR (tkF s 0)) (a0f tkB (tkF s 0)) (a0f rwC (v::ws))++[.cells [.int .i64 qx.op,.int .i64 qx.a,.int .i64 qx.b,.int .i64 qx.c,.int .u64 qx.n] none,.cells [.str qj.s,.int .i64 qj.ln,.int .i64 qj.cl,.bool qj.bd] none]) (by kernel_rfl) ?_ fun⟨J2,hJ2⟩=>?_
   ·refine a0p.ways (t:=175) (q:=bj) (by kernel_rfl) rfl (fun h1=>?_) (fun h1=>?_)
    ·have hnil:qj.s≠[]:=by subst h1; simpa using hbj.symm
     obtain⟨mk,m1,m2,m3,m4⟩:∃ m:MkX,z.2.2.2=X.J++[m]∧qj=jrX m∧m.nm≠[]∧m.pl=((X.I.length:Nat):Int):=by
      cases pp with
      | true=>exact hJR
      | false=>obtain⟨_,e⟩:=hJR; rw [e] at hnil; exact absurd rfl hnil
     subst h1
     refine a0p.h0c ?_
     refine SSp.h0j (by kernel_rfl) ?_
     refine a0p.g9u a4d (n:=60) (a0y (Nat.zero_le _)) ?_
     subst m2
     have b4:xle (X.J.length+1) 1000000=true:=a1n (by omega)
     have b5:xle (X.J.length * 4) (jxE X.J).length=true:=a1n (by rw [d3o,List.length_map]; omega)
     have b6:xle X.J.length (kxE X.J).length=true:=a1n (by rw [f8u]; omega)
     have q1:=d9c X.J mk; have q2:=d9b X.J mk
     rw [a2g] at q1 q2
     rw [Nat.mul_one,m4] at q2
     have nJ2:=a3k ((X.J++[mk]).map jrX); have nK2:=b2g (X.J++[mk])
     have lC:X.J.length+1=(X.J++[mk]).length:=by simp
     rw [g5x]
     simp only [jrX,a2w,a5j,a1o,a2g,a3e,Nat.zero_add,Nat.mul_one,b4,b5,b6,q1,q2,er,eb,es,ee,decide_true,cond_true]
     rw [lC]
     refine⟨?_,?_,?_⟩
     ·exact⟨rfl,⟨X.J++[mk],m1.symm⟩,[.id 0,.id 1,.id 2,.id 3,.id 12,.id 14,.id 6,.id 7,.id 8,.id 9,.id 10],by(exact zC)⟩
     ·exact⟨rfl,⟨X.J++[mk],m1.symm⟩,[.id 0,.id 1,.id 2,.id 3,.id 13,.id 14,.id 6,.id 7,.id 8,.id 9,.id 10],by(exact zC)⟩
     ·exact⟨rfl,⟨X.J++[mk],m1.symm⟩,[.id 0,.id 1,.id 2,.id 3,.id 13,.id 14,.id 6,.id 7,.id 8,.id 9,.id 10],by(exact zC)⟩
    ·have hnil:qj.s=[]:=by subst h1; simpa using hbj.symm
     have m1:z.2.2.2=X.J:=by
      cases pp with
      | true=>obtain⟨m,_,e,h,_⟩:=hJR; rw [e] at hnil; exact absurd hnil h
      | false=>exact hJR.1
     subst h1
     refine a0p.vc a4d (n:=60) (a0y (Nat.zero_le _)) ?_
     rw [g5w]
     exact⟨rfl,⟨X.J,m1.symm⟩,[.id 0,.id 1,.id 2,.id 3,.id 4,.id 5,.id 6,.id 7,.id 8,.id 9,.id 10],by(exact zC)⟩
   dsimp only
   refine SSp.last a4d (n:=60) (a0y (Nat.zero_le _)) ?_
   have nJ2:=a3k (J2.map jrX); have nK2:=b2g J2
   have q1:=d9d X.I qx
   rw [a2g] at q1
   have nI2:=a1z (X.I++[qx])
   have b4:xle (X.I.length+1) 1000000=true:=a1n (by omega)
   have b5:xle (X.I.length * 5) (a0f inC X.I).length=true:=a1n (by rw [f4i]; omega)
   have lC:X.I.length+1=(X.I++[qx]).length:=by simp
   have hY:=nxt B2 hzB hbp hz0
   rw [iI,← hJ2] at hY
   rw [g5v]
   simp only [a2w,a5j,a1o,a2g,a3e,Nat.zero_add,Nat.mul_one,b4,b5,q1,cond_true]
   rw [lC]
   exact⟨rfl,⟨⟨X.i,p2,[],spN X.S,X.I++[qx],B2,J2,X.ln+1⟩,hY,rfl⟩,[.id 0,.id 1,.id 12,.id 3,.id 4,.id 5,.id 6,.id 7,.none,.none],by(exact zC)⟩
  have nI2:=a1z Y.I; have nB2:=a8s (Y.B.map lbX); have nJ2:=a3k (Y.J.map jrX); have nK2:=b2g Y.J; have nC2:=a6e Y.cur; have nD2:=a6f Y.cur
  refine SSp.last a4d (n:=60) (a0y (Nat.zero_le _)) ?_
  rw [g6d]
  have e3:xar .add .i64 ((Y.i:Nat):Int) 1=((Y.i+1:Nat):Int):=by rw [a5c (by omega) (by omega)]; rfl
  rw [e3]
  exact⟨rfl,⟨{ Y with i:=Y.i+1 },hY⟩,by dsimp only; omega,[.id 0,.id 1,.id 2,.id 3,.id 4,.id 5,.id 6,.id 7,.id 8,.id 9],by(exact zC)⟩
 obtain⟨fI,fB,fJ,fjo,fbp,k,fin⟩:=hX
 have nI:=a1z X.I; have nB:=a8s (X.B.map lbX); have nJ:=a3k (X.J.map jrX); have nK:=b2g X.J; have nC:=a6e X.cur; have nD:=a6f X.cur
 refine SSp.to a4d (n:=60) (g:=gt4) 1 15 rfl (σ:=Unit) (fun _=>pmZ s X.B.length X.J.length X.J.length 0) (fun _=>pmY X.I.length (a0f inC X.I) (bxE X.B) (jxE X.J) (kxE X.J)) (a0y (Nat.zero_le _)) (by kernel_rfl) ?_ fun _=>?_
 ·rw [g6c]
  exact⟨rfl,(),[.id 0,.id 1,.id 2,.id 3,.id 4,.id 5],by(exact zC)⟩
 have hfin:(b4f X.B X.J X.I).1=(rdZ s).1∧(b4f X.B X.J X.I).2=(rdZ s).2.1:=by rw [← fin]; exact⟨rfl,rfl⟩
 refine SSp.code_to (g:=gt4) 16 rfl (σ:={I2:List InX // (rdZ s).1=(0,0,0)∧I2=(rdZ s).2.1∧I2.length=X.I.length}) (fun _=>pmZ s X.B.length X.J.length X.J.length X.J.length) (fun I2=>pmY X.I.length (a0f inC I2.1) (bxE X.B) (jxE X.J) (kxE X.J)) (by kernel_rfl) ?_ fun⟨I2,g1,g2,g3⟩=>?_
 ·refine a0p.g9s a4d (n:=60) (n0:=0) 2 (by kernel_rfl) (σ:={p:Nat×List InX // p.1≤X.J.length∧p.2.length=X.I.length∧(b4f X.B (X.J.drop p.1) p.2).1=(rdZ s).1∧(b4f X.B (X.J.drop p.1) p.2).2=(rdZ s).2.1}) (fun p=>pmZ s X.B.length X.J.length X.J.length p.1.1) (fun p=>pmY X.I.length (a0f inC p.1.2) (bxE X.B) (jxE X.J) (kxE X.J)) (fun p=>X.J.length - p.1.1) (fun _=>Nat.zero_le _) (fun⟨⟨i,I2⟩,hi,hl,hr⟩=>?_) ⟨(0,X.I),Nat.zero_le _,rfl,hfin⟩
  dsimp only at hi hl hr ⊢
  have nI2:=a1z I2
  rw [g6b]
  by_cases h:i < X.J.length
  ·rw [c2w h] at hr
   have hm:i < (X.J.map jrX).length:=by rw [List.length_map]; exact h
   have g0:=a2s (f:=rwC) b5p (xs:=X.J.map jrX) (j:=0) hm (by omega)
   have g1:=a2s (f:=rwC) b5p (xs:=X.J.map jrX) (j:=1) hm (by omega)
   have g2:=a2s (f:=rwC) b5p (xs:=X.J.map jrX) (j:=2) hm (by omega)
   rw [List.getElem_map] at g0 g1 g2
   have gk:=f3b h
   obtain⟨j1,j2⟩:=fjo _ (List.getElem_mem h)
   generalize X.J[i]=jj at *
   rw [Nat.add_zero] at g0
   have g0':a0b (jxE X.J) (i * 4)=.str jj.nm:=g0
   have g1':a0b (jxE X.J) (i * 4+1)=.int .i64 jj.ln:=g1
   have g2':a0b (jxE X.J) (i * 4+2)=.int .i64 jj.cl:=g2
   have lj:(jxE X.J).length=X.J.length * 4:=by rw [d3o,List.length_map]
   have lk:=f8u X.J
   have b1:xle (i+1) X.J.length=true:=a1n (by omega)
   have b2:xle (i * 4+1) (X.J.length * 4)=true:=a1n (by omega)
   have b3:xle (i * 4+1+1) (X.J.length * 4)=true:=a1n (by omega)
   have b3':xle (i * 4+2+1) (X.J.length * 4)=true:=a1n (by omega)
   have k1:d4l X.B.length (bxE X.B)=true:=b4s.2 ⟨X.B.map lbX,rfl,by simp,by omega⟩
   have hxf:xfW (bxE X.B) jj.nm=(b0v X.B jj.nm).getD (-1):=by rw [xfW,b9d,d5h]; cases b0v X.B jj.nm <;> rfl
   have e3:xar .add .i64 (i:Int) 1=((i+1:Nat):Int):=a7t h (by omega)
   simp only [show xcm .lss ((i:Nat):Int) ((X.J.length:Nat):Int)=true from a6j (by omega),a2w,a5j,a1o,a2g,a3e,Nat.zero_add,Nat.mul_one,lj,lk,b1,b2,b3,b3',g0',g1',g2',k1,hxf,wS,wiS,a3d,a2q,er,decide_true,cond_true]
   cases hF:b0v X.B jj.nm with
   | none =>
     rw [hF] at hr
     simp only [Option.getD_none,show xcm .lss (-1) 0=true from rfl,cond_true]
     exact⟨trivial,rfl,[.agg [.nils],.int .i64 jj.ln,.int .i64 jj.cl,.int .i64 12],.tup [.agg [.nils],.int .i64 jj.ln,.int .i64 jj.cl,.int .i64 12],[],[],by kernel_rfl,c4j hr.1.symm (by decide),by(exact zC)⟩
   | some pl =>
     rw [hF] at hr
     have hpl:0≤pl:=by
      obtain⟨b,h1,h2⟩:=d2k hF
      rw [← h2]; exact fbp b h1
     have c1:xnn jj.pl=true:=by rw [d5j]; exact decide_eq_true j1
     have c2:a0c jj.pl=jj.pl.toNat:=rfl
     have c3:xle (jj.pl.toNat+1) X.I.length=true:=a1n (by omega)
     have c4:xle (jj.pl.toNat * 5+3+1) (a0f inC I2).length=true:=a1n (by rw [f4i]; omega)
     have c5:=c5y (I:=I2) (n:=jj.pl.toNat) (pl:=pl) (by omega)
     have nI3:=a1z (d3n I2 jj.pl.toNat pl)
     simp only [Option.getD_some,show xcm .lss pl 0=false from a6h hpl,gk,c1,c2,c3,c4,c5,a3d,a2q,decide_true,cond_true,cond_false,e3]
     exact⟨rfl,⟨(i+1,d3n I2 jj.pl.toNat pl),h,by dsimp only; rw [b8n]; exact hl,hr⟩,by dsimp only; omega,[.id 0,.id 1,.id 2,.id 3,.id 4,.id 5],by(exact zC)⟩
  ·simp only [show xcm .lss ((i:Nat):Int) ((X.J.length:Nat):Int)=false from a6h (by omega),cond_false]
   have hi':i=X.J.length:=by omega
   have hM:=hr
   rw [hi',List.drop_length] at hM
   subst hi'
   exact⟨rfl,⟨I2,(by rw [← hM.1]; rfl),(by rw [← hM.2]; rfl),hl⟩,[.id 0,.id 1,.id 2,.id 3,.id 4,.id 5],by(exact zC)⟩
 dsimp only at g1 g2 g3 ⊢
 refine SSp.last a4d (n:=60) (a0y (Nat.zero_le _)) ?_
 rw [g5u]
 have r1:b1p s=a0f inC I2:=by rw [b1p,← g2]
 have r2:b2c s=X.I.length:=by rw [b2c,← g2,g3]
 have nI2:=a1z I2
 exact⟨trivial,rfl,[.agg [.slo 2 0 X.I.length 0],.int .i64 0,.int .i64 0,.int .i64 0],.tup [.agg [.slo 0 0 X.I.length 0],.int .i64 0,.int .i64 0,.int .i64 0],[.cells (a0f inC I2) (some 5)],[.id 2],by kernel_rfl,.inr ⟨by rw [pZe,g1],by rw [r2],by rw [r1]⟩,by(exact zC)⟩
end
end Go.Lev
