import Derived.Test.YtnkkkihgljbllaaDoorCY2
/- the draws of programs: a program, shown -/
namespace Go.Lev
set_option linter.unusedSimpArgs false
set_option linter.unusedVariables false
open Go.RowKit
open Go.Proofs.Tryd (prog)
set_option maxRecDepth 100000
noncomputable section
structure dQ where
 w:Int
 a:Int
 b:Int
 c:Int
 n:Int
abbrev cR (x:dQ):al:=[.z x.w,.z x.a,.z x.b,.z x.c,.int .u64 x.n]
theorem tT (x:dQ):(cR x).length=5:=rfl
theorem Ri {xs:List dQ} {i:Nat} (h:i < xs.length):af (aj cR xs) (i * 5)=.z xs[i].w:=gc tT (j:=0) h ab
theorem Rj {xs:List dQ} {i:Nat} (h:i < xs.length):af (aj cR xs) (i * 5+1)=.z xs[i].a:=gc tT (j:=1) h ab
theorem Rk {xs:List dQ} {i:Nat} (h:i < xs.length):af (aj cR xs) (i * 5+2)=.z xs[i].b:=gc tT (j:=2) h ab
theorem Rl {xs:List dQ} {i:Nat} (h:i < xs.length):af (aj cR xs) (i * 5+3)=.z xs[i].c:=gc tT (j:=3) h ab
theorem Rm {xs:List dQ} {i:Nat} (h:i < xs.length):af (aj cR xs) (i * 5+4)=.int .u64 xs[i].n:=gc tT (j:=4) h ab
theorem Rn (xs:List dQ):(aj cR xs).length=xs.length * 5:=iW tT xs
theorem A1 (xs:List dQ):a1u (aj cR xs)=true:=iu (fun _=>rfl) xs
def Ab (x:dQ):Prop:=(IntKind.i64.min≤x.w∧x.w≤IntKind.i64.max)∧(IntKind.i64.min≤x.a∧x.a≤IntKind.i64.max)∧(IntKind.i64.min≤x.b∧x.b≤IntKind.i64.max)∧(IntKind.i64.min≤x.c∧x.c≤IntKind.i64.max)∧(IntKind.u64.min≤x.n∧x.n≤IntKind.u64.max)
def I1 (op:Int):bo:=⟨op,0,0,0,0⟩
def gP (l:List bo) (o:List Int):List bo×List Int :=
 if sO o=14 then(l++[I1 15],o.dropLast) else if sO o=17 then(l++[I1 18],o.dropLast++[18]) else(l++[I1 19],o.dropLast)
def eN (calm:Bool) (x:dQ) (l:List bo) (o:List Int):List bo×List Int :=
 if az x.w 0 40=20∧o.length < 5 then(l++[I1 14],o++[14])
 else if(az x.w 0 40=21∨az x.w 0 40=22)∧o.length < 5 then(l++[I1 17],o++[17])
 else if(az x.w 0 40=23∨az x.w 0 40=24)∧0 < o.length then gP l o
 else if az x.w 0 40=25∧0 < o.length∧sO o=14 then(l++[I1 16],o)
 else if(az x.w 0 40=26∨az x.w 0 40=27)∧calm=false∧0 < o.length then(l++[⟨13,az x.a 0 6,0,((l.length+2:Nat):Int),0⟩,I1 20],o)
 else if az x.w 0 40=28∧calm=false then(l++[⟨13,az x.a 0 6,0,((l.length+2:Nat):Int),0⟩,I1 20],o)
 else if az x.w 0 40=29∧calm=false then(l++[⟨13,az x.a 0 6,0,((l.length+2:Nat):Int),0⟩,I1 22],o)
 else if az x.w 0 40=30∨az x.w 0 40=31 then(l++[⟨13,az x.b 0 6,0,((l.length+2:Nat):Int),0⟩,gX x.w x.a x.b x.c x.n],o)
 else if az x.w 0 40=32∧calm=false then(l++[gX x.w x.a x.b x.c x.n,⟨13,az x.b 0 6,0,(l.length:Int),0⟩],o)
 else(l++[gX x.w x.a x.b x.c x.n],o)
def gL (m:Int) (calm:Bool):List dQ→List bo→List Int→List bo×List Int
 | [],l,o=>(l,o)
 | x::r,l,o=>if m < (l.length:Int)+2 * (o.length:Int)+5 then(l,o) else gL m calm r (eN calm x l o).1 (eN calm x l o).2
def gC:Nat→List bo→List Int→List bo
 | 0,l,o=>l
 | f+1,l,o=>if o=[] then l else gC f (gP l o).1 (gP l o).2
def gF (ks:List dQ) (m:Int) (calm:Bool):List bo :=
 if gC 20 (gL m calm ks [] []).1 (gL m calm ks [] []).2=[] then [⟨1,0,0,0,1⟩] else gC 20 (gL m calm ks [] []).1 (gL m calm ks [] []).2
def il:List Int→Nat
 | []=>0
 | x::r=>(if x=17 then 2 else 1)+il r
theorem Ew:∀ a b:List Int,il (a++b)=il a+il b
 | [],b=>by simp [il]
 | x::r,b=>by rw [lq,il,il,Ew r b]; omega
theorem DX:∀ a:List Int,a.length≤il a∧il a≤2 * a.length
 | []=>by simp [il]
 | x::r=>by
   have:=DX r;rw [il,cZ]; split <;> omega
theorem AO (o:List Int):o=[]∨∃ (o2:List Int) (y:Int),o=o2++[y]:=by
 rcases List.eq_nil_or_concat o with h | ⟨a,b,h⟩
 ·exact .inl h
 ·exact .inr ⟨a,b,by rw [h,List.concat_eq_append]⟩
theorem DE {l:List bo} {o':List Int} {x:Int}:(gP l (o'++[x])).1.length=l.length+1∧il (gP l (o'++[x])).2+1=il (o'++[x])∧(gP l (o'++[x])).2.length≤o'.length+1:=by
 unfold gP;rw [tS,List.dropLast_concat,Ew];split
 ·rename_i h; subst h; simp [il]
 ·split
  ·rename_i h; subst h; simp [il,Ew]
  ·rename_i h; simp [il,h]
theorem DW {calm:Bool} {x:dQ} {l:List bo} {o:List Int} {n:Nat} (h5:o.length≤5) (h:l.length+2 * o.length+5≤n):(eN calm x l o).2.length≤5∧(eN calm x l o).1.length+2 * (eN calm x l o).2.length≤n∧(eN calm x l o).1.length≤l.length+2:=by
 unfold eN;split
 ·simp; omega
 split
 ·simp; omega
 split
 ·rename_i hh;rcases List.eq_nil_or_concat o with rfl | ⟨o',y,rfl⟩
  ·simp at hh
  ·rw [List.concat_eq_append] at *;have:=DE (l:=l) (o':=o') (x:=y);simp only [cg,kH] at h5 h;omega
 repeat (split; · simp; omega)
 simp; omega
theorem oF (P:List bo) (a b c d e:Int):bM (bf (aj aW P) 0 (P.length * 5)) [.z a,.z b,.z c,.z d,.int .u64 e]=aj aW (P++[⟨a,b,c,d,e⟩]):=by
 rw [j0 (by rw [ey]; omega),g9]; rfl
theorem yq (P:List bo) (a b c d e a' b' c' d' e':Int):bM (bf (aj aW P) 0 (P.length * 5)) [.z a,.z b,.z c,.z d,.int .u64 e,.z a',.z b',.z c',.z d',.int .u64 e']=aj aW (P++[⟨a,b,c,d,e⟩,⟨a',b',c',d',e'⟩]):=by
 rw [j0 (by rw [ey]; omega),g9]; rfl
theorem CF (a b:List Int):bf (aj (cI .i64) (a++b)) 0 a.length=aj (cI .i64) a:=by
 rw [g9,bf,List.drop_zero,List.take_append_of_le_length (by rw [t4]; omega),List.take_of_length_le (by rw [t4]; omega)]
theorem zV (a b:List Int) (y:Int):bM (bf (aj (cI .i64) (a++b)) 0 a.length) [.z y]=aj (cI .i64) (a++[y]):=by
 rw [CF,g9]; rfl
theorem C1 (o:List Int) (x:Int) (b:List Int):af (aj (cI .i64) (o++[x]++b)) o.length=.z x:=by
 rw [Xd (show o.length < (o++[x]++b).length by simp)];simp
abbrev jM (ks:List dQ) (l:List bo) (o junk:List Int):a9:=qX (aj cR ks) (aj aW l) (aj (cI .i64) (o++junk))
abbrev mB (ks:List dQ) (x:dQ) (l:List bo) (o junk:List Int):a9:=dK (aj cR ks) (aj aW l) (aj (cI .i64) (o++junk)) x.w x.a x.b x.c x.n
abbrev X9 (ks:List dQ) (m:Int) (calm:Bool):={p:Nat×List bo×List Int×List Int // p.1≤ks.length∧p.2.2.1.length≤5∧p.2.1.length+2 * p.2.2.1.length≤1000∧gL m calm (ks.drop p.1) p.2.1 p.2.2.1=gL m calm ks [] []}
abbrev X8 (ks:List dQ) (m:Int) (calm:Bool):={p:List bo×List Int×List Int // p.2.1.length≤5∧p.1.length+2 * p.2.1.length≤1000∧(p.1,p.2.1)=gL m calm ks [] []}
theorem Eb (w a b c n:Int):(⟨ng w a b c n,nu w a b c n,nr w a b c n,nq w a b c n,nh w a b c n⟩:bo)=gX w a b c n:=rfl
set_option maxHeartbeats 8000000 in
theorem WC (ks:List dQ) (m:Int) (calm:Bool) (np i:Nat) (x:dQ) (l:List bo) (o junk:List Int) (h5:o.length≤5) (hl:l.length+2 * o.length≤995) {Φ : Pk} :
  a0n prog 226 (bi za 5) 1 (aF 226 (ff np m calm l.length o.length i (az x.w 0 40))) (ai (mB ks x l o junk)) (vK dY (CE 1 (oO (σ:=List Int) 1 226 dY [] (fun _=>oU np m calm (eN calm x l o).1.length (eN calm x l o).2.length i) (fun j=>jM ks (eN calm x l o).1 (eN calm x l o).2 j) Φ))):=by
 refine a0n.i3v 2 ak ?_;have nk:a1u (aj cR ks)=true:=A1 ks;have nI:∀ P:List bo,a1u (aj aW P)=true:=oE;have nO:∀ q:List Int,a1u (aj (cI .i64) q)=true:=fun q=>Lu q
 have n1:=nI l;have n2:=nO (o++junk);obtain⟨G,hG⟩:∃ G,eN calm x l o=G:=⟨_,rfl⟩;rw [hG];have hg:=hG;unfold eN at hg;generalize hw:az x.w 0 40=w at *;have el2:(l.length:Int)+2=((l.length+2:Nat):Int):=ab;have ea:au .add .i64 (l.length:Int) 2=((l.length+2:Nat):Int):=by rw [gb ab ab]; omega
 refine SSp.to gv (n:=60) (g:=[]) 1 1 rfl (σ:={q:Bool // q=true↔w=20∧o.length < 5}) (fun q=>(41,.b q.1)::ff np m calm l.length o.length i w) (fun _=>mB ks x l o junk) (bh (aS rfl)) ak ?_ fun⟨q0,h0⟩=>?_
 ·clear hg hG;show bc _ _ _ _ _ _ (ai (dK (aj cR ks) (aj aW l) (aj (cI .i64) (o++junk)) x.w x.a x.b x.c x.n)) _;rw [O1];by_cases a:w=20
  ·by_cases b:o.length < 5
   ·simp only [show ad .lss (o.length:Int) 5=true from ga ab]
    (refine zR ?_)
    exact mv
   ·simp only [show ad .lss (o.length:Int) 5=false from f_ ab]
    (refine zR ?_)
    exact iz
  ·(refine zR ?_)
   exact iz
 refine SSp.i3o ak ?_;refine a0n.ways (t:=41) (q:=q0) ak rfl (fun e0=>?_) (fun e0=>?_)
 ·have c0:=h0.1 e0;refine a0n.vc gv (n:=60) (bh (aS rfl)) ?_;show aX _ _ _ _ _ _ (ai (dK (aj cR ks) (aj aW l) (aj (cI .i64) (o++junk)) x.w x.a x.b x.c x.n)) _;rw [N9];rw [aB c0] at hg;subst hg;have p1:=oF l 14 0 0 0 0;have p2:=zV o junk 14;have n3:=nI (l++[⟨14,0,0,0,0⟩]);have n4:=nO (o++[14]++[]);rw [fR] at n4;simp only [ct,fj,fm,cC,bP,cm,b_,bV,cU,cz,cf,fk,fi,eA,fo,dS,fp,bD,aw,ej,eh,fr,fq,p1,p2,ey,t4,cg]
  (refine zR ?_)
  exact Ge
 have m0:¬ (w=20∧o.length < 5):=fun c=>by rw [h0.2 c] at e0; cases e0
 refine a0n.i3x ?_;refine SSp.to gv (n:=60) (g:=[]) 1 1 rfl (σ:={q:Bool // q=true↔(w=21∨w=22)∧o.length < 5}) (fun q=>(55,.b q.1)::ff np m calm l.length o.length i w) (fun _=>mB ks x l o junk) (bh (aS rfl)) ak ?_ fun⟨q1,h1⟩=>?_
 ·clear hg hG;show bc _ _ _ _ _ _ (ai (dK (aj cR ks) (aj aW l) (aj (cI .i64) (o++junk)) x.w x.a x.b x.c x.n)) _;rw [O2];by_cases b:o.length < 5
  ·simp only [show ad .lss (o.length:Int) 5=true from ga ab];by_cases a:w=21
   ·(refine zR ?_)
    exact mv
   ·by_cases a2:w=22
    ·(refine zR ?_)
     exact mv
    ·(refine zR ?_)
     exact iz
  ·simp only [show ad .lss (o.length:Int) 5=false from f_ ab];by_cases a:w=21
   ·(refine zR ?_)
    exact iz
   ·by_cases a2:w=22
    iterate 2
     ·(refine zR ?_)
      exact iz
 refine SSp.i3o ak ?_;refine a0n.ways (t:=55) (q:=q1) ak rfl (fun e1=>?_) (fun e1=>?_)
 ·have c1:=h1.1 e1;refine a0n.vc gv (n:=60) (bh (aS rfl)) ?_;show aX _ _ _ _ _ _ (ai (dK (aj cR ks) (aj aW l) (aj (cI .i64) (o++junk)) x.w x.a x.b x.c x.n)) _;rw [N_];rw [av m0,aB c1] at hg;subst hg;have p1:=oF l 17 0 0 0 0;have p2:=zV o junk 17;have n3:=nI (l++[⟨17,0,0,0,0⟩]);have n4:=nO (o++[17]++[]);rw [fR] at n4;simp only [ct,fj,fm,cC,bP,cm,b_,bV,cU,cz,cf,fk,fi,eA,fo,dS,fp,bD,aw,ej,eh,fr,fq,p1,p2,ey,t4,cg]
  (refine zR ?_)
  exact Ge
 have m1:¬ ((w=21∨w=22)∧o.length < 5):=fun c=>by rw [h1.2 c] at e1; cases e1
 refine a0n.i3x ?_;refine SSp.to gv (n:=60) (g:=[]) 1 1 rfl (σ:={q:Bool // q=true↔(w=23∨w=24)∧0 < o.length}) (fun q=>(73,.b q.1)::ff np m calm l.length o.length i w) (fun _=>mB ks x l o junk) (bh (aS rfl)) ak ?_ fun⟨q2,h2⟩=>?_
 ·clear hg hG;show bc _ _ _ _ _ _ (ai (dK (aj cR ks) (aj aW l) (aj (cI .i64) (o++junk)) x.w x.a x.b x.c x.n)) _;rw [O3];by_cases b:0 < o.length
  ·simp only [show ad .gtr (o.length:Int) 0=true from iR ab];by_cases a:w=23
   ·(refine zR ?_)
    exact mv
   ·by_cases a2:w=24
    ·(refine zR ?_)
     exact mv
    ·(refine zR ?_)
     exact iz
  ·simp only [show ad .gtr (o.length:Int) 0=false from ia ab];by_cases a:w=23
   ·(refine zR ?_)
    exact iz
   ·by_cases a2:w=24
    iterate 2
     ·(refine zR ?_)
      exact iz
 refine SSp.i3o ak ?_;refine a0n.ways (t:=73) (q:=q2) ak rfl (fun e2=>?_) (fun e2=>?_)
 ·have c2:=h2.1 e2;refine a0n.vc gv (n:=60) (bh (aS rfl)) ?_;show aX _ _ _ _ _ _ (ai (dK (aj cR ks) (aj aW l) (aj (cI .i64) (o++junk)) x.w x.a x.b x.c x.n)) _;rw [Oa];rw [av m0,av m1,aB c2] at hg;rcases AO o with rfl | ⟨o2,y,rfl⟩
  ·simp at c2
  have le:(o2++[y]).length=o2.length+1:=aC;have sb:au .sub .i64 ((o2.length+1:Nat):Int) 1=((o2.length:Nat):Int):=by rw [rV ab ab]; omega
  have cl:=C1 o2 y junk;have ln:(o2++[y]++junk).length=o2.length+1+junk.length:=by simp; omega
  have hj:o2++[y]++junk=o2++(y::junk):=aC;have cc:bf (aj (cI .i64) (o2++[y]++junk)) 0 o2.length=aj (cI .i64) o2:=by rw [hj]; exact CF o2 _
  have pp:bM (bf (aj (cI .i64) o2) 0 o2.length) [.z 18]=aj (cI .i64) (o2++[18]):=by have:=zV o2 [] 18; rwa [fR] at this
  have p15:=oF l 15 0 0 0 0;have p18:=oF l 18 0 0 0 0;have p19:=oF l 19 0 0 0 0;have n15:=nI (l++[⟨15,0,0,0,0⟩]);have n18:=nI (l++[⟨18,0,0,0,0⟩]);have n19:=nI (l++[⟨19,0,0,0,0⟩]);have n4:=nO (o2++[18]);have n5:=nO (o2++(y::junk));unfold gP at hg;rw [tS,List.dropLast_concat] at hg;simp only [ct,fj,fm,cC,bP,cm,b_,bV,cU,cz,cf,fk,fi,eA,fo,dS,fp,bD,aw,ej,eh,fr,fq,le,sb,cl,t4,ln,p15,p18,p19,cc,pp,ey,IE,Nat.sub_zero];by_cases y1:y=14
  ·rw [aB y1] at hg;subst hg;rw [hj]
   (refine zR ?_)
   exact Gd
  rw [av y1] at hg;by_cases y2:y=17
  ·rw [aB y2] at hg;subst hg;by_cases z:o2.length=0
   ·have e2:o2=[]:=fY.1 z;subst e2
    (refine zR ?_)
    exact Gt
   ·(refine zR ?_)
    exact Gt
  rw [av y2] at hg;subst hg;rw [hj]
  (refine zR ?_)
  exact Gd
 have m2:¬ ((w=23∨w=24)∧0 < o.length):=fun c=>by rw [h2.2 c] at e2; cases e2
 refine a0n.i3x ?_;refine SSp.to gv (n:=60) (g:=[]) 1 1 rfl (σ:={q:Bool // q=true↔w=25∧0 < o.length∧sO o=14}) (fun q=>(90,.b q.1)::ff np m calm l.length o.length i w) (fun _=>mB ks x l o junk) (bh (aS rfl)) ak ?_ fun⟨q3,h3⟩=>?_
 ·clear hg hG;show bc _ _ _ _ _ _ (ai (dK (aj cR ks) (aj aW l) (aj (cI .i64) (o++junk)) x.w x.a x.b x.c x.n)) _;rw [O4];by_cases a:w=25
  ·rcases AO o with rfl | ⟨o2,y,rfl⟩
   ·simp only [eU]
    (refine zR ?_)
    exact⟨rfl,⟨false,aC⟩,[.id 0,.id 1,.id 2,.id 3,.id 4],by(exact zC)⟩
   ·have le:(o2++[y]).length=o2.length+1:=aC;have sb:au .sub .i64 ((o2.length+1:Nat):Int) 1=((o2.length:Nat):Int):=by rw [rV ab ab]; omega
    have cl:=C1 o2 y junk;have ln:(o2++[y]++junk).length=o2.length+1+junk.length:=by simp; omega
    (refine MR @le @sb @cl @t4 @ln ?_)
    by_cases b:y=14
    ·simp only [show ad .eql y 14=true from cD b]
     (refine zR ?_)
     exact⟨rfl,⟨true,(by rw [tS]; simp [a,b])⟩,[.id 0,.id 1,.id 2,.id 3,.id 4],by(exact zC)⟩
    ·simp only [show ad .eql y 14=false from cF b]
     (refine zR ?_)
     exact⟨rfl,⟨false,(by rw [tS]; simp [b])⟩,[.id 0,.id 1,.id 2,.id 3,.id 4],by(exact zC)⟩
  ·(refine zR ?_)
   exact⟨rfl,⟨false,(by simp [a])⟩,[.id 0,.id 1,.id 2,.id 3,.id 4],by(exact zC)⟩
 refine SSp.i3o ak ?_;refine a0n.ways (t:=90) (q:=q3) ak rfl (fun e3=>?_) (fun e3=>?_)
 ·have c3:=h3.1 e3;refine a0n.vc gv (n:=60) (bh (aS rfl)) ?_;show aX _ _ _ _ _ _ (ai (dK (aj cR ks) (aj aW l) (aj (cI .i64) (o++junk)) x.w x.a x.b x.c x.n)) _;rw [Ob];rw [av m0,av m1,av m2,aB c3] at hg;subst hg;have p1:=oF l 16 0 0 0 0;have n3:=nI (l++[⟨16,0,0,0,0⟩])
  (refine v9 @p1 @ey ?_)
  (refine zR ?_)
  exact yL
 have m3:¬ (w=25∧0 < o.length∧sO o=14):=fun c=>by rw [h3.2 c] at e3; cases e3
 refine a0n.i3x ?_;refine SSp.to gv (n:=60) (g:=[]) 1 1 rfl (σ:={q:Bool // q=true↔(w=26∨w=27)∧calm=false∧0 < o.length}) (fun q=>(109,.b q.1)::ff np m calm l.length o.length i w) (fun _=>mB ks x l o junk) (bh (aS rfl)) ak ?_ fun⟨q4,h4⟩=>?_
 ·clear hg hG;show bc _ _ _ _ _ _ (ai (dK (aj cR ks) (aj aW l) (aj (cI .i64) (o++junk)) x.w x.a x.b x.c x.n)) _;rw [O5]; simp only [vD];cases calm
  ·simp only [eh];by_cases b:0 < o.length
   ·simp only [show ad .gtr (o.length:Int) 0=true from iR ab];by_cases a:w=26
    ·(refine zR ?_)
     exact mv
    ·by_cases a2:w=27
     ·(refine zR ?_)
      exact mv
     ·(refine zR ?_)
      exact iz
   ·simp only [show ad .gtr (o.length:Int) 0=false from ia ab];by_cases a:w=26
    ·(refine zR ?_)
     exact iz
    ·by_cases a2:w=27
     iterate 2
      ·(refine zR ?_)
       exact iz
  ·simp only [ej];by_cases a:w=26
   ·(refine zR ?_)
    exact iz
   ·by_cases a2:w=27
    iterate 2
     ·(refine zR ?_)
      exact iz
 refine SSp.i3o ak ?_;refine a0n.ways (t:=109) (q:=q4) ak rfl (fun e4=>?_) (fun e4=>?_)
 ·have c4:=h4.1 e4;refine a0n.vc gv (n:=60) (bh (aS rfl)) ?_;show aX _ _ _ _ _ _ (ai (dK (aj cR ks) (aj aW l) (aj (cI .i64) (o++junk)) x.w x.a x.b x.c x.n)) _;rw [Oc];rw [av m0,av m1,av m2,av m3,aB c4] at hg;subst hg;have p1:=yq l 13 (az x.a 0 6) 0 ((l.length+2:Nat):Int) 0 20 0 0 0 0;have n3:=nI (l++[⟨13,az x.a 0 6,0,((l.length+2:Nat):Int),0⟩,⟨20,0,0,0,0⟩])
  (refine v8 @ea @p1 @ey ?_)
  (refine zR ?_)
  exact yL
 have m4:¬ ((w=26∨w=27)∧calm=false∧0 < o.length):=fun c=>by rw [h4.2 c] at e4; cases e4
 refine a0n.i3x ?_;refine SSp.to gv (n:=60) (g:=[]) 1 1 rfl (σ:={q:Bool // q=true↔w=28∧calm=false}) (fun q=>(135,.b q.1)::ff np m calm l.length o.length i w) (fun _=>mB ks x l o junk) (bh (aS rfl)) ak ?_ fun⟨q5,h5⟩=>?_
 ·clear hg hG;show bc _ _ _ _ _ _ (ai (dK (aj cR ks) (aj aW l) (aj (cI .i64) (o++junk)) x.w x.a x.b x.c x.n)) _;rw [O6];cases calm
  ·simp only [eh];by_cases a:w=28
   ·(refine zR ?_)
    exact mv
   ·(refine zR ?_)
    exact iz
  ·simp only [ej];by_cases a:w=28
   iterate 2
    ·(refine zR ?_)
     exact iz
 refine SSp.i3o ak ?_;refine a0n.ways (t:=135) (q:=q5) ak rfl (fun e5=>?_) (fun e5=>?_)
 ·have c5:=h5.1 e5;refine a0n.vc gv (n:=60) (bh (aS rfl)) ?_;show aX _ _ _ _ _ _ (ai (dK (aj cR ks) (aj aW l) (aj (cI .i64) (o++junk)) x.w x.a x.b x.c x.n)) _;rw [Od];rw [av m0,av m1,av m2,av m3,av m4,aB c5] at hg;subst hg;have p1:=yq l 13 (az x.a 0 6) 0 ((l.length+2:Nat):Int) 0 20 0 0 0 0;have n3:=nI (l++[⟨13,az x.a 0 6,0,((l.length+2:Nat):Int),0⟩,⟨20,0,0,0,0⟩])
  (refine v8 @ea @p1 @ey ?_)
  (refine zR ?_)
  exact yL
 have m5:¬ (w=28∧calm=false):=fun c=>by rw [h5.2 c] at e5; cases e5
 refine a0n.i3x ?_;refine SSp.to gv (n:=60) (g:=[]) 1 1 rfl (σ:={q:Bool // q=true↔w=29∧calm=false}) (fun q=>(153,.b q.1)::ff np m calm l.length o.length i w) (fun _=>mB ks x l o junk) (bh (aS rfl)) ak ?_ fun⟨q6,h6⟩=>?_
 ·clear hg hG;show bc _ _ _ _ _ _ (ai (dK (aj cR ks) (aj aW l) (aj (cI .i64) (o++junk)) x.w x.a x.b x.c x.n)) _;rw [O7];cases calm
  ·simp only [eh];by_cases a:w=29
   ·(refine zR ?_)
    exact mv
   ·(refine zR ?_)
    exact iz
  ·simp only [ej];by_cases a:w=29
   iterate 2
    ·(refine zR ?_)
     exact iz
 refine SSp.i3o ak ?_;refine a0n.ways (t:=153) (q:=q6) ak rfl (fun e6=>?_) (fun e6=>?_)
 ·have c6:=h6.1 e6;refine a0n.vc gv (n:=60) (bh (aS rfl)) ?_;show aX _ _ _ _ _ _ (ai (dK (aj cR ks) (aj aW l) (aj (cI .i64) (o++junk)) x.w x.a x.b x.c x.n)) _;rw [Oe];rw [av m0,av m1,av m2,av m3,av m4,av m5,aB c6] at hg;subst hg;have p1:=yq l 13 (az x.a 0 6) 0 ((l.length+2:Nat):Int) 0 22 0 0 0 0;have n3:=nI (l++[⟨13,az x.a 0 6,0,((l.length+2:Nat):Int),0⟩,⟨22,0,0,0,0⟩])
  (refine v8 @ea @p1 @ey ?_)
  (refine zR ?_)
  exact yL
 have m6:¬ (w=29∧calm=false):=fun c=>by rw [h6.2 c] at e6; cases e6
 refine a0n.i3x ?_;refine SSp.to gv (n:=60) (g:=[]) 1 1 rfl (σ:={q:Bool // q=true↔w=30∨w=31}) (fun q=>(171,.b q.1)::ff np m calm l.length o.length i w) (fun _=>mB ks x l o junk) (bh (aS rfl)) ak ?_ fun⟨q7,h7⟩=>?_
 ·clear hg hG;show bc _ _ _ _ _ _ (ai (dK (aj cR ks) (aj aW l) (aj (cI .i64) (o++junk)) x.w x.a x.b x.c x.n)) _;rw [O8];by_cases a:w=30
  ·(refine zR ?_)
   exact mv
  ·by_cases a2:w=31
   ·simp only [show ad .eql w 31=true from cD a2]
    (refine zR ?_)
    exact mv
   ·simp only [show ad .eql w 31=false from cF a2]
    (refine zR ?_)
    exact iz
 refine SSp.i3o ak ?_;refine a0n.ways (t:=171) (q:=q7) ak rfl (fun e7=>?_) (fun e7=>?_)
 ·have c7:=h7.1 e7;refine a0n.vc gv (n:=60) (bh (aS rfl)) ?_;show aX _ _ _ _ _ _ (ai (dK (aj cR ks) (aj aW l) (aj (cI .i64) (o++junk)) x.w x.a x.b x.c x.n)) _;rw [Of];rw [av m0,av m1,av m2,av m3,av m4,av m5,av m6,aB c7] at hg;subst hg;have p1:=yq l 13 (az x.b 0 6) 0 ((l.length+2:Nat):Int) 0 (ng x.w x.a x.b x.c x.n) (nu x.w x.a x.b x.c x.n) (nr x.w x.a x.b x.c x.n) (nq x.w x.a x.b x.c x.n) (nh x.w x.a x.b x.c x.n);have n3:=nI (l++[⟨13,az x.b 0 6,0,((l.length+2:Nat):Int),0⟩,gX x.w x.a x.b x.c x.n]);rw [Eb] at p1
  (refine v8 @ea @p1 @ey ?_)
  (refine zR ?_)
  exact BF
 have m7:¬ (w=30∨w=31):=fun c=>by rw [h7.2 c] at e7; cases e7
 refine a0n.i3x ?_;refine SSp.to gv (n:=60) (g:=[]) 1 1 rfl (σ:={q:Bool // q=true↔w=32∧calm=false}) (fun q=>(190,.b q.1)::ff np m calm l.length o.length i w) (fun _=>mB ks x l o junk) (bh (aS rfl)) ak ?_ fun⟨q8,h8⟩=>?_
 ·clear hg hG;show bc _ _ _ _ _ _ (ai (dK (aj cR ks) (aj aW l) (aj (cI .i64) (o++junk)) x.w x.a x.b x.c x.n)) _;rw [O9];cases calm
  ·simp only [eh];by_cases a:w=32
   ·(refine zR ?_)
    exact mv
   ·(refine zR ?_)
    exact iz
  ·simp only [ej];by_cases a:w=32
   iterate 2
    ·(refine zR ?_)
     exact iz
 refine SSp.i3o ak ?_;refine a0n.ways (t:=190) (q:=q8) ak rfl (fun e8=>?_) (fun e8=>?_)
 ·have c8:=h8.1 e8;refine a0n.vc gv (n:=60) (bh (aS rfl)) ?_;show aX _ _ _ _ _ _ (ai (dK (aj cR ks) (aj aW l) (aj (cI .i64) (o++junk)) x.w x.a x.b x.c x.n)) _;rw [Og];rw [av m0,av m1,av m2,av m3,av m4,av m5,av m6,av m7,aB c8] at hg;subst hg;have p1:=yq l (ng x.w x.a x.b x.c x.n) (nu x.w x.a x.b x.c x.n) (nr x.w x.a x.b x.c x.n) (nq x.w x.a x.b x.c x.n) (nh x.w x.a x.b x.c x.n) 13 (az x.b 0 6) 0 (l.length:Int) 0;have n3:=nI (l++[gX x.w x.a x.b x.c x.n,⟨13,az x.b 0 6,0,(l.length:Int),0⟩]);rw [Eb] at p1
  (refine v9 @p1 @ey ?_)
  (refine zR ?_)
  exact BF
 have m8:¬ (w=32∧calm=false):=fun c=>by rw [h8.2 c] at e8; cases e8
 refine a0n.vc gv (n:=60) (bh (aS rfl)) ?_;show aX _ _ _ _ _ _ (ai (dK (aj cR ks) (aj aW l) (aj (cI .i64) (o++junk)) x.w x.a x.b x.c x.n)) _;rw [Oh];rw [av m0,av m1,av m2,av m3,av m4,av m5,av m6,av m7,av m8] at hg;subst hg;have p1:=oF l (ng x.w x.a x.b x.c x.n) (nu x.w x.a x.b x.c x.n) (nr x.w x.a x.b x.c x.n) (nq x.w x.a x.b x.c x.n) (nh x.w x.a x.b x.c x.n);have n3:=nI (l++[gX x.w x.a x.b x.c x.n]);rw [Eb] at p1
 (refine v9 @p1 @ey ?_)
 (refine zR ?_)
 exact BF
theorem S1 (l:List bo):∀ f,gC f l []=l
 | 0=>rfl
 | f+1=>by rw [gC,aB rfl]
theorem WZ (ks:List dQ) (m:Int) (calm:Bool) (np i:Nat) (x:dQ) (l:List bo) (o junk:List Int) (h5:o.length≤5) (hl:l.length+2 * o.length≤995) {σ : Type} (T2 : σ→List (Nat×LV)) (H2 : σ→a9) (el:List Int→σ)
  (hT:∀ j,T2 (el j)=oU np m calm (eN calm x l o).1.length (eN calm x l o).2.length i) (hH:∀ j,H2 (el j)=jM ks (eN calm x l o).1 (eN calm x l o).2 j) {Φ : Pk} :
  a0n prog 226 (bi za 5) 1 (aF 226 (ff np m calm l.length o.length i (az x.w 0 40))) (ai (mB ks x l o junk)) (vK dY (CE 1 (oO (σ:=σ) 1 226 dY [] T2 H2 Φ))):=by
 refine a0n.mono (WC ks m calm np i x l o junk h5 hl (Φ:=Φ)) fun x tm s h=>?_
 cases x with
 | normal=>obtain⟨h1,j,ρ,h2⟩:=h; exact⟨h1,el j,ρ,by rw [hT,hH]; exact h2⟩
 | exit k =>
   have h':cond (Nat.beq k 1) (oO (σ:=List Int) 1 226 dY [] (fun _=>oU np m calm (eN calm x l o).1.length (eN calm x l o).2.length i) (fun j=>jM ks (eN calm x l o).1 (eN calm x l o).2 j) Φ .normal (iU dY tm) (fK s) s.g) (Φ (.exit k) (iU dY tm) (fK s) s.g):=h;show cond (Nat.beq k 1) (oO (σ:=σ) 1 226 dY [] T2 H2 Φ .normal (iU dY tm) (fK s) s.g) (Φ (.exit k) (iU dY tm) (fK s) s.g);cases hk:Nat.beq k 1 with
   | true=>rw [hk] at h'; obtain⟨h1,j,ρ,h2⟩:=h'; exact⟨h1,el j,ρ,by rw [hT,hH]; exact h2⟩
   | false=>rw [hk] at h'; exact h'
 | ret=>exact h
def HY (ks:List dQ) (m:Int) (calm:Bool) (l:LV) (b:a9):Prop:=(gF ks m calm).length≤1001∧l=.agg [.slo 1 0 (gF ks m calm).length 0]∧b=[.ro (aj cR ks),.cells (aj aW (gF ks m calm)) (some 5)]
set_option maxHeartbeats 8000000 in
theorem V5 (ks:List dQ) (m:Int) (calm:Bool) (hm:m≤1000) (hk:ks.length≤9223372036854775807):a0j prog 11 [.slo 0 0 ks.length 0,.z m,.b calm] (ai [.ro (aj cR ks)]) fun l s=>∃ b,HY ks m calm l b∧s=ai b:=by
 refine a0j.i4e (Q:=HY ks m calm) 226 1 6 33 dY ak rfl rfl rfl ?_;have nk:a1u (aj cR ks)=true:=A1 ks;have nI:∀ P:List bo,a1u (aj aW P)=true:=oE;have nO:∀ q:List Int,a1u (aj (cI .i64) q)=true:=fun q=>Lu q
 refine SSp.to gv (n:=60) (g:=[]) 4 4 rfl (σ:=Unit) (fun _=>oU ks.length m calm 0 0 0) (fun _=>qX (aj cR ks) [] []) (bh (aR _)) ak ?_ fun _=>?_
 ·rw [Oq];exact⟨rfl,(),[.id 0,.id 1,.none,.none],by(exact zC)⟩
 refine SSp.code_to (g:=[]) 5 rfl (σ:=X8 ks m calm) (fun p=>Ch p.1.1.length p.1.2.1.length) (fun p=>jM ks p.1.1 p.1.2.1 p.1.2.2) ak ?_ fun⟨⟨l0,o0,junk0⟩,h5,hl0,hR⟩=>?_
 ·refine a0n.i4d 0 ak (σ:=X9 ks m calm) (fun p=>oU ks.length m calm p.1.2.1.length p.1.2.2.1.length p.1.1) (fun p=>jM ks p.1.2.1 p.1.2.2.1 p.1.2.2.2) (fun p=>ks.length - p.1.1) (fun _=>aS rfl) (fun⟨⟨i,l,o,junk⟩,hi,h5,hl,hR⟩=>?_) ⟨(0,[],[],[]),bk _,aC,aC,aC⟩;dsimp only at hi h5 hl hR ⊢;have n1:=nI l;have n2:=nO (o++junk);refine SSp.to gv (n:=60) (g:=[]) 2 2 rfl (σ:={_k:Unit // i < ks.length}) (fun _=>oU ks.length m calm l.length o.length i) (fun _=>jM ks l o junk) (bh (aS rfl)) ak ?_ fun⟨_,hlt⟩=>?_
  ·rw [Ov];by_cases hlt:i < ks.length
   ·(refine zR ?_)
    exact⟨rfl,⟨(),hlt⟩,[.id 0,.id 1,.id 2,.id 3],by(exact zC)⟩
   ·(refine zR ?_)
    have e:(l,o)=gL m calm ks [] []:=by rw [← hR,mo ab]; rfl
    exact⟨rfl,⟨(l,o,junk),h5,hl,e⟩,[.id 0,.id 1,.id 2,.id 3],by(exact zC)⟩
  have hd:=jG hlt;rw [hd,gL] at hR;refine SSp.code_to (g:=[]) 3 rfl (σ:={j:List Int // ¬ (m < (l.length:Int)+2 * (o.length:Int)+5)}) (fun _=>oU ks.length m calm (eN calm ks[i] l o).1.length (eN calm ks[i] l o).2.length i) (fun j=>jM ks (eN calm ks[i] l o).1 (eN calm ks[i] l o).2 j.1) ak ?_ fun⟨j2,hb⟩=>?_
  ·refine a0n.i3v 1 ak ?_;refine SSp.to gv (n:=60) (g:=[]) 5 5 rfl (σ:={_k:Unit // ¬ (m < (l.length:Int)+2 * (o.length:Int)+5)}) (fun _=>ff ks.length m calm l.length o.length i (az ks[i].w 0 40)) (fun _=>mB ks ks[i] l o junk) (bh (aS rfl)) ak ?_ fun⟨_,hb⟩=>?_
   ·have c0:=Ri hlt;have c1:=Rj hlt;have c2:af (aj cR ks) (i * 5+1+1)=.z ks[i].b:=Rk hlt;have c3:af (aj cR ks) (i * 5+1+1+1)=.z ks[i].c:=Rl hlt;have c4:af (aj cR ks) (i * 5+1+1+1+1)=.int .u64 ks[i].n:=Rm hlt;have ee:au .add .i64 (au .add .i64 (l.length:Int) (au .mul .i64 2 (o.length:Int))) 5=(l.length:Int)+2 * (o.length:Int)+5:=by
     rw [Vh ab ab,gb (x:=(l.length:Int)) ab ab,gb ab ab]
    rw [Ot]; simp only [EF];simp only [ct,fj,fm,cC,bP,cm,b_,bV,cU,cz,cf,fk,fi,eA,fo,dS,fp,bD,aw,ej,eh,fr,fq,c0,c1,c2,c3,c4,Rn,ee];by_cases hb:m < (l.length:Int)+2 * (o.length:Int)+5
    ·rw [aB hb] at hR
     (refine zR ?_)
     exact⟨rfl,⟨(l,o,junk),h5,hl,hR⟩,[.id 0,.id 1,.id 2,.id 3],by(exact zC)⟩
    ·(refine zR ?_)
     exact⟨rfl,⟨(),hb⟩,[.id 0,.id 1,.id 2,.id 3,.id 4],by(exact zC)⟩
   refine SSp.i3o ak ?_;exact WZ ks m calm ks.length i ks[i] l o junk h5 ab _ _ (fun j=>⟨j,hb⟩) (fun _=>rfl) (fun _=>rfl)
  refine zE gv ?_;rw [av hb] at hR;have hG:=DW (calm:=calm) (x:=ks[i]) (l:=l) (o:=o) (n:=1000) h5 ab;have n3:=nI (eN calm ks[i] l o).1;have n4:=nO ((eN calm ks[i] l o).2++j2);rw [Ow,kE hlt hk];exact⟨rfl,⟨(i+1,(eN calm ks[i] l o).1,(eN calm ks[i] l o).2,j2),hlt,hG.1,hG.2.1,hR⟩,by simp only; omega,[.id 0,.id 1,.id 2,.id 3],by(exact zC)⟩
 dsimp only at h5 hl0 hR ⊢;have hF:gF ks m calm=if gC 20 l0 o0=[] then [⟨1,0,0,0,1⟩] else gC 20 l0 o0:=by rw [gF,← hR]
 have hw0:=DX o0;refine SSp.code_to (g:=[]) 6 rfl (σ:={j:List Int // (gC 20 l0 o0).length≤1000}) (fun _=>GX (gC 20 l0 o0).length) (fun j=>qX (aj cR ks) (aj aW (gC 20 l0 o0)) (aj (cI .i64) j.1)) ak ?_ fun⟨j3,h3⟩=>?_
 ·refine a0n.i3g gv (n:=60) 3 ak (σ:={p:Nat×List bo×List Int×List Int // il p.2.2.1≤p.1∧p.2.2.1.length≤5∧p.2.1.length+il p.2.2.1≤1000∧gC p.1 p.2.1 p.2.2.1=gC 20 l0 o0}) (fun p=>Ch p.1.2.1.length p.1.2.2.1.length) (fun p=>jM ks p.1.2.1 p.1.2.2.1 p.1.2.2.2) (fun p=>p.1.1) (fun _=>aS rfl) (fun⟨⟨f,l,o,junk⟩,hf,h5,hl,hC⟩=>?_) ⟨(20,l0,o0,junk0),by simp only; omega,h5,by simp only; omega,rfl⟩;dsimp only at hf h5 hl hC ⊢;have n1:=nI l;have n2:=nO (o++junk);rw [Ou];rcases AO o with rfl | ⟨o2,y,rfl⟩
  ·rw [S1] at hC;have h1000:(gC 20 l0 o0).length≤1000:=by rw [← hC]; omega
   simp only [eU]
   (refine zR ?_)
   exact⟨rfl,⟨junk,h1000⟩,[.id 0,.id 1,.id 2,.id 3],by simp only [← hC]; (exact zC)⟩
  ·have hs:=DE (l:=l) (o':=o2) (x:=y);have le:(o2++[y]).length=o2.length+1:=aC;rw [le] at h5;obtain⟨f,rfl⟩:∃ g,f=g+1:=⟨f - 1,ab⟩;rw [gC,av aC] at hC;have sb:au .sub .i64 ((o2.length+1:Nat):Int) 1=((o2.length:Nat):Int):=by rw [rV ab ab]; omega
   have cl:=C1 o2 y junk;have ln:(o2++[y]++junk).length=o2.length+1+junk.length:=by simp; omega
   have hj:o2++[y]++junk=o2++(y::junk):=aC;have cc:bf (aj (cI .i64) (o2++[y]++junk)) 0 o2.length=aj (cI .i64) o2:=by rw [hj]; exact CF o2 _
   have pp:bM (bf (aj (cI .i64) o2) 0 o2.length) [.z 18]=aj (cI .i64) (o2++[18]):=by have:=zV o2 [] 18; rwa [fR] at this
   have p15:=oF l 15 0 0 0 0;have p18:=oF l 18 0 0 0 0;have p19:=oF l 19 0 0 0 0;have n15:=nI (l++[⟨15,0,0,0,0⟩]);have n18:=nI (l++[⟨18,0,0,0,0⟩]);have n19:=nI (l++[⟨19,0,0,0,0⟩]);have n4:=nO (o2++[18]);have n5:=nO (o2++(y::junk));have hg:gP l (o2++[y])=gP l (o2++[y]):=rfl;have hsu:∀ G,gP l (o2++[y])=G→il G.2≤f∧G.2.length≤5∧G.1.length+il G.2≤1000∧gC f G.1 G.2=gC 20 l0 o0:=fun G e=>by
    subst e; exact⟨ab,ab,ab,hC⟩
   have e15:y=14→gP l (o2++[y])=(l++[⟨15,0,0,0,0⟩],o2):=fun e=>by unfold gP; rw [tS,List.dropLast_concat,aB e]; rfl
   have e18:¬ y=14→y=17→gP l (o2++[y])=(l++[⟨18,0,0,0,0⟩],o2++[18]):=fun e e'=>by unfold gP; rw [tS,List.dropLast_concat,av e,aB e']; rfl
   have e19:¬ y=14→¬ y=17→gP l (o2++[y])=(l++[⟨19,0,0,0,0⟩],o2):=fun e e'=>by unfold gP; rw [tS,List.dropLast_concat,av e,av e']; rfl
   simp only [ct,fj,fm,cC,bP,cm,b_,bV,cU,cz,cf,fk,fi,eA,fo,dS,fp,bD,aw,ej,eh,fr,fq,le,sb,cl,t4,ln,p15,p18,p19,cc,pp,ey,IE,Nat.sub_zero];by_cases y1:y=14
   ·have hu:=hsu _ (e15 y1);rw [hj]
    (refine zR ?_)
    exact⟨rfl,⟨(f,l++[⟨15,0,0,0,0⟩],o2,y::junk),hu⟩,by simp only; omega,[.id 0,.id 1,.id 5,.id 3],by simp only [jM,cg,kH]; (exact zC)⟩
   by_cases y2:y=17
   ·have hu:=hsu _ (e18 y1 y2);by_cases z:o2.length=0
    ·have e2:o2=[]:=fY.1 z;subst e2
     (refine zR ?_)
     exact⟨rfl,⟨(f,l++[⟨18,0,0,0,0⟩],[]++[18],[]),hu⟩,by simp only; omega,[.id 0,.id 1,.id 8,.id 6],by simp only [jM,cg,kH,fR]; (exact zC)⟩
    ·(refine zR ?_)
     exact⟨rfl,⟨(f,l++[⟨18,0,0,0,0⟩],o2++[18],[]),hu⟩,by simp only; omega,[.id 0,.id 1,.id 8,.id 6],by simp only [jM,cg,kH,fR]; (exact zC)⟩
   have hu:=hsu _ (e19 y1 y2);rw [hj]
   (refine zR ?_)
   exact⟨rfl,⟨(f,l++[⟨19,0,0,0,0⟩],o2,y::junk),hu⟩,by simp only; omega,[.id 0,.id 1,.id 5,.id 3],by simp only [jM,cg,kH]; (exact zC)⟩
 refine zE gv ?_;rw [Ox];generalize gC 20 l0 o0=R at *;have n1:=nI R;have n2:=nO j3;have n3:=nI (gF ks m calm);by_cases hz:R.length=0
 ·have e:R=[]:=fY.1 hz;rw [aB e] at hF;have p1:bM (bf (aj aW R) 0 (R.length * 5)) [.z 1,.z 0,.z 0,.z 0,.int .u64 1]=aj aW (gF ks m calm):=by rw [oF,hF,e]; rfl
  have hq:(gF ks m calm).length=R.length+1:=by rw [hF,hz]; rfl
  (refine v9 @p1 @ey ?_)
  (refine zR ?_)
  exact⟨trivial,rfl,1,[.slo 5 0 (R.length+1) 0],none,.agg [.slo 5 0 (R.length+1) 0],.agg [.slo 1 0 (gF ks m calm).length 0],[.ro _,.cells (aj aW (gF ks m calm)) (some 5)],[.id 0,.id 5],rfl,rfl,ak,⟨ab,rfl,rfl⟩,by rw [hq]; (exact zC)⟩
 ·have hne:¬ R=[]:=fun e=>hz (by rw [e]; rfl)
  rw [av hne] at hF
  (refine zR ?_)
  exact⟨trivial,rfl,1,[.slo 2 0 R.length 0],none,.agg [.slo 2 0 R.length 0],.agg [.slo 1 0 (gF ks m calm).length 0],[.ro _,.cells (aj aW (gF ks m calm)) (some 5)],[.id 0,.id 2],rfl,rfl,ak,⟨by rw [hF]; omega,rfl,rfl⟩,by rw [hF]; (exact zC)⟩
def xI:al→List dQ
 | .int _ a::.int _ b::.int _ c::.int _ d::.int _ e::r=>⟨a,b,c,d,e⟩::xI r
 | _=>[]
theorem vZ:∀ xs,xI (aj cR xs)=xs
 | []=>rfl
 | x::r=>by simp [aj,cR,xI,vZ r]
def tA (n:Nat) (ks:al) (m:Int):Bool:=@decide (∃ K,ks=aj cR K∧K.length=n∧n≤9223372036854775807∧m≤1000) (Classical.propDecidable _)
def gN (ks:al) (m:Int) (calm:Bool):Nat:=(gF (xI ks) m calm).length
def gW (ks:al) (m:Int) (calm:Bool):al:=aj aW (gF (xI ks) m calm)
theorem Fo {n:Nat} {ks:al} {m:Int}:tA n ks m=true↔∃ K,ks=aj cR K∧K.length=n∧n≤9223372036854775807∧m≤1000:=by simp only [tA,cu]
theorem V3 {n:Nat} {ks:al} {m:Int} (h:tA n ks m=true):a1u ks=true:=by obtain⟨K,rfl,_⟩:=Fo.1 h; exact A1 K
theorem Vn {n:Nat} {ks:al} {m:Int} (calm:Bool) (h:tA n ks m=true):a0j prog 11 [.slo 0 0 n 0,.z m,.b calm] (ai [.ro ks]) fun l s=>l=.agg [.slo 1 0 (gN ks m calm) 0]∧s=ai [.ro ks,.cells (gW ks m calm) (some 5)]:=by
 obtain⟨K,rfl,rfl,h1,h2⟩:=Fo.1 h;refine a0j.mono (V5 K m calm h2 h1) fun l s ⟨b,hb,hs⟩=>?_
 rw [gN,gW,vZ]; exact⟨hb.2.1,by rw [hs,hb.2.2]⟩
def DA:Gc:=fun args s=>match args,s.g with
 | [.slo a 0 n 0,.int .i64 m,.bool calm],[]=>(match s.h.get a with
   | some (.ro ks)=>(match s.lay [a] [.ro ks] [.cells (gW ks m calm) (some 5)] with
     | some s'=>some ([tA n ks m],.agg [.slo s.n 0 (gN ks m calm) 0],s')
     | none=>none)
   | _=>none)
 | _,_=>none
theorem V4:bX prog 11 DA:=by
 intro args s bs l s' hg hb hfr;unfold DA at hg;split at hg
 ·rename_i a n m calm hgl;split at hg
  ·rename_i ks hb0;split at hg
   ·rename_i s1 hs1;simp only [a8,bn] at hg;obtain⟨rfl,rfl,rfl⟩:=hg;simp only [bv] at hb;obtain⟨k1,_⟩:=hb;have no:=V3 k1;refine a0j.lay (bs:=[.ro ks]) (args0:=[.slo 0 0 n 0,.z m,.b calm]) (bs':=[.ro ks,.cells (gW ks m calm) (some 5)]) (v0:=.agg [.slo 1 0 (gN ks m calm) 0]) hfr hs1 aC
     ⟨⟨df hfr hb0,_,hb0,pm bF,fun κ hκ=>pm bF⟩,trivial⟩ fv ?_
     fun κ h1 h2=>⟨⟨pm bF,be (oE _),trivial⟩,(tJ (aV (bC (h2 0 aC)) cA))⟩
    rw [hgl]; exact Vn calm k1
   ·cases hg
  ·cases hg
 ·cases hg
end
end Go.Lev
