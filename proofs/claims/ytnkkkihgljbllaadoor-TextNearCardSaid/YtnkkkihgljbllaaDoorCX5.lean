import Derived.Test.YtnkkkihgljbllaaDoorCX3
/- text: the reference's cut: its trees -/
namespace Go.Lev
set_option linter.unusedSimpArgs false
set_option linter.unusedVariables false
open Go.RowKit
open Go.Proofs.Tryd (prog)
set_option maxRecDepth 100000
noncomputable section
abbrev pi:List Nat:=[0,1,2,6,7,8,9,10,11,12,13]
abbrev wT (n:Nat) (ln:Int) (e i:Nat):List (Nat×LV):=[(0,.slo 0 0 n 0),(1,.slo 1 0 n 0),(2,.z ln),(6,.nils),(7,.z 0),(8,.z e),(9,.z i)]
abbrev pZ (n:Nat) (ln:Int) (e m i:Nat):List (Nat×LV):=[(0,.slo 0 0 n 0),(1,.slo 1 0 n 0),(2,.z ln),(6,.nils),(7,.z 0),(8,.z e),(10,.slo 2 0 m 0),(11,.z i)]
abbrev wW (n:Nat) (ln:Int) (e m i k:Nat):List (Nat×LV):=[(0,.slo 0 0 n 0),(1,.slo 1 0 n 0),(2,.z ln),(6,.nils),(7,.z 0),(8,.z e),(10,.slo 2 0 m 0),(11,.z i),(12,.ptr 3 0),(13,.z k)]
abbrev sR (lx bx:al):a9:=[.cells lx (some 1),.cells bx (some 1)]
abbrev nR (lx bx wx:al):a9:=[.cells lx (some 1),.cells bx (some 1),.cells wx (some 4)]
abbrev wR (lx bx wx:al) (ln f:Int) (b:Bool):a9:=[.cells lx (some 1),.cells bx (some 1),.cells wx (some 4),.cells [.str [],.z ln,.z f,.b b] none]
abbrev cuB:List Code:=cG (ce (bi (sp prog 34) 6))
abbrev cuC:List Code:=cG (vu (bi cuB 2))
theorem M8 (n:Nat) (ln:Int) (lx bx:al) (K:Pk):(bc prog (fun _=>none) 40 92 (bS (sp prog 34) 0 3) (cO [.slo 0 0 n 0,.slo 1 0 n 0,.z ln]) (ai (sR lx bx) []) (vK pi K))=(
 K .normal [.slo 0 0 n 0,.slo 1 0 n 0,.z ln,.nils,.z 0,.z ↑n,.z 0,.tup [],.tup [],.tup [],.tup []] [sC lx 1,sC bx 1] []):=ak
theorem Ng (n:Nat) (ln:Int) (i:Nat) (lx bx:al) (K:Pk):(aX prog (fun _=>none) 40 92 (ce (bi (sp prog 34) 3)) (aF 92 (wT n ln n i)) (ai (sR lx bx) []) (vK pi K))=(
 cond (ad .lss ↑i ↑n) (ck (ag (aa (ae ↑i) 1) n) <|
 ck (ag (aa (ah 0 (ae ↑i) 1) 1) (aG lx)) <|
 ck (a7 .i32 (af lx (ah 0 (ae ↑i) 1))) <|
 cond (ad .eql (ar (af lx (ah 0 (ae ↑i) 1))) 59) (K (.exit 0) [.slo 0 0 n 0,.slo 1 0 n 0,.z ln,.nils,.z 0,.z ↑i,.z ↑i,.any,.any,.any,.any] [sC lx 1,sC bx 1] []) (K .normal [.slo 0 0 n 0,.slo 1 0 n 0,.z ln,.nils,.z 0,.z ↑n,.z (au .add .i64 (↑i) 1),.any,.any,.any,.any] [sC lx 1,sC bx 1] [])) (K (.exit 0) [.slo 0 0 n 0,.slo 1 0 n 0,.z ln,.nils,.z 0,.z ↑n,.z ↑i,.any,.any,.any,.any] [sC lx 1,sC bx 1] [])):=ak
theorem M9 (n:Nat) (ln:Int) (e i:Nat) (lx bx:al) (K:Pk):(bc prog (fun _=>none) 40 92 (bS (sp prog 34) 4 2) (aF 92 (wT n ln e i)) (ai (sR lx bx) []) (vK pi K))=(
 K .normal [.slo 0 0 n 0,.slo 1 0 n 0,.z ln,.nils,.z 0,.z ↑e,.z ↑i,.nils,.z 0,.any,.any] [sC lx 1,sC bx 1] []):=ak
theorem Na (n:Nat) (ln:Int) (e m i:Nat) (lx bx wx:al) (K:Pk):(bc prog (fun _=>none) 40 92 (bS cuB 0 2) (aF 92 (pZ n ln e m i)) (ai (nR lx bx wx) []) (vK pi K))=(
 cond (ad .lss ↑i ↑e) (K .normal [.slo 0 0 n 0,.slo 1 0 n 0,.z ln,.nils,.z 0,.z ↑e,.any,.slo 2 0 m 0,.z ↑i,.any,.any] [sC lx 1,sC bx 1,sC wx 4] []) (K (.exit 2) [.slo 0 0 n 0,.slo 1 0 n 0,.z ln,.nils,.z 0,.z ↑e,.any,.slo 2 0 m 0,.z ↑i,.any,.any] [sC lx 1,sC bx 1,sC wx 4] [])):=ak
theorem Nb (n:Nat) (ln:Int) (e m i:Nat) (lx bx wx:al) (K:Pk):(bc prog (fun _=>none) 40 92 (bS cuC 0 4) (aF 92 (pZ n ln e m i)) (ai (nR lx bx wx) []) (vK pi K))=(
 ck (ag (aa (ae ↑i) 1) n) <|
 ck (ag (aa (ah 0 (ae ↑i) 1) 1) (aG lx)) <|
 ck (a7 .i32 (af lx (ah 0 (ae ↑i) 1))) <|
 cond (ad .eql (ar (af lx (ah 0 (ae ↑i) 1))) 32) (K (.exit 3) [.slo 0 0 n 0,.slo 1 0 n 0,.z ln,.nils,.z 0,.z ↑e,.any,.slo 2 0 m 0,.z ↑i,.any,.any] [sC lx 1,sC bx 1,sC wx 4] []) (ck (ag (aa (ae ↑i) 1) n) <|
 ck (ag (aa (ah 0 (ae ↑i) 1) 1) (aG lx)) <|
 ck (a7 .i32 (af lx (ah 0 (ae ↑i) 1))) <|
 cond (ad .eql (ar (af lx (ah 0 (ae ↑i) 1))) 9) (K (.exit 3) [.slo 0 0 n 0,.slo 1 0 n 0,.z ln,.nils,.z 0,.z ↑e,.any,.slo 2 0 m 0,.z ↑i,.any,.any] [sC lx 1,sC bx 1,sC wx 4] []) (K .normal [.slo 0 0 n 0,.slo 1 0 n 0,.z ln,.nils,.z 0,.z ↑e,.any,.slo 2 0 m 0,.z ↑i,.ptr 3 0,.z ↑i] [sC lx 1,sC bx 1,sC wx 4,sN [.str [],.z ln,.z (au .add .i64 (↑i) 1),.b false]] []))):=ak
abbrev En (ln:Int) (f:Int) (b:Bool) (lx:al) (bx:al) (wx:al):bE:=[sC lx 1,sC bx 1,sC wx 4,sN [.str [],.z ln,.z f,.b b]]
theorem Nc (n:Nat) (ln f:Int) (e m i k:Nat) (b:Bool) (lx bx wx:al) (K:Pk):(aX prog (fun _=>none) 40 92 (ce (bi cuC 4)) (aF 92 (wW n ln e m i k)) (ai (wR lx bx wx ln f b) []) (vK pi K))=(
 cond (ad .lss ↑k ↑e) (ck (ag (aa (ae ↑k) 1) n) <|
 ck (ag (aa (ah 0 (ae ↑k) 1) 1) (aG lx)) <|
 ck (a7 .i32 (af lx (ah 0 (ae ↑k) 1))) <|
 cond (ad .neq (ar (af lx (ah 0 (ae ↑k) 1))) 32) (ck (ag (aa (ae ↑k) 1) n) <|
 ck (ag (aa (ah 0 (ae ↑k) 1) 1) (aG lx)) <|
 ck (a7 .i32 (af lx (ah 0 (ae ↑k) 1))) <|
 cond (ad .neq (ar (af lx (ah 0 (ae ↑k) 1))) 9) (cond b (K .normal [.slo 0 0 n 0,.slo 1 0 n 0,.z ln,.nils,.z 0,.z ↑e,.any,.slo 2 0 m 0,.z ↑i,.ptr 3 0,.z (au .add .i64 (↑k) 1)] [sC lx 1,sC bx 1,sC wx 4,sN [.str [],.z ln,.z f,.b true]] []) (ck (ag (aa (ae ↑k) 1) n) <|
 ck (ag (aa (ah 0 (ae ↑k) 1) 1) (aG bx)) <|
 ck (eM (af bx (ah 0 (ae ↑k) 1))) <|
 K .normal [.slo 0 0 n 0,.slo 1 0 n 0,.z ln,.nils,.z 0,.z ↑e,.any,.slo 2 0 m 0,.z ↑i,.ptr 3 0,.z (au .add .i64 (↑k) 1)] [sC lx 1,sC bx 1,sC wx 4,sN [.str [],.z ln,.z f,.b (ba (af bx (ah 0 (ae ↑k) 1)))]] [])) (K (.exit 4) [.slo 0 0 n 0,.slo 1 0 n 0,.z ln,.nils,.z 0,.z ↑e,.any,.slo 2 0 m 0,.z ↑i,.ptr 3 0,.z ↑k] (En ln f b lx bx wx) [])) (K (.exit 4) [.slo 0 0 n 0,.slo 1 0 n 0,.z ln,.nils,.z 0,.z ↑e,.any,.slo 2 0 m 0,.z ↑i,.ptr 3 0,.z ↑k] (En ln f b lx bx wx) [])) (K (.exit 4) [.slo 0 0 n 0,.slo 1 0 n 0,.z ln,.nils,.z 0,.z ↑e,.any,.slo 2 0 m 0,.z ↑i,.ptr 3 0,.z ↑k] (En ln f b lx bx wx) [])):=ak
theorem Nd (n:Nat) (ln f:Int) (e m i k:Nat) (b:Bool) (lx bx wx:al) (K:Pk):(bc prog (fun _=>none) 40 92 (cuC.drop 5) (aF 92 (wW n ln e m i k)) (ai (wR lx bx wx ln f b) []) (vK pi K))=(
 ck (ag (ae ↑i) (ae ↑k)) <|
 ck (ag (ae ↑k) n) <|
 ck (ag (aa (ah 0 (ae ↑i) 1) (aJ (dR (ae ↑k) (ae ↑i)) 1)) (aG lx)) <|
 ck (u7 (bf lx (ah 0 (ae ↑i) 1) (aJ (dR (ae ↑k) (ae ↑i)) 1))) <|
 ck (ag (aa m 1) 1000000) <|
 ck (ag (aa 0 (aJ m 4)) (aG wx)) <|
 K .normal [.slo 0 0 n 0,.slo 1 0 n 0,.z ln,.nils,.z 0,.z ↑e,.any,.slo 5 0 (aa m 1) 0,.z ↑k,.ptr 3 0,.z ↑k] [sC lx 1,sC bx 1,sD,sN [.str (u6 (bf lx (ah 0 (ae ↑i) 1) (aJ (dR (ae ↑k) (ae ↑i)) 1))),.z ln,.z f,.b b],sN [.str (u6 (bf lx (ah 0 (ae ↑i) 1) (aJ (dR (ae ↑k) (ae ↑i)) 1))),.z ln,.z f,.b b],sC (bM (bf wx 0 (aJ m 4)) [.str (u6 (bf lx (ah 0 (ae ↑i) 1) (aJ (dR (ae ↑k) (ae ↑i)) 1))),.z ln,.z f,.b b]) 4] []):=ak
theorem Nf (n:Nat) (ln:Int) (e m i:Nat) (lx bx wx:al) (K:Pk):(bc prog (fun _=>none) 40 92 (cuB.drop 3) (aF 92 (pZ n ln e m i)) (ai (nR lx bx wx) []) (vK pi K))=(
 K .normal [.slo 0 0 n 0,.slo 1 0 n 0,.z ln,.nils,.z 0,.z ↑e,.any,.slo 2 0 m 0,.z (au .add .i64 (↑i) 1),.any,.any] [sC lx 1,sC bx 1,sC wx 4] []):=ak
theorem Nh (n:Nat) (ln:Int) (e m i:Nat) (lx bx wx:al) (K:Pk):(bc prog (fun _=>none) 40 92 ((sp prog 34).drop 7) (aF 92 (pZ n ln e m i)) (ai (nR lx bx wx) []) (vK pi K))=(
 K .ret [.slo 0 0 n 0,.slo 1 0 n 0,.z ln,.slo 2 0 m 0,.z (au .add .i64 (↑e) 1),.z ↑e,.any,.slo 2 0 m 0,.z ↑i,.any,.any] [sC lx 1,sC bx 1,sC wx 4] []):=ak
structure RW where
 s:ap
 ln:Int
 cl:Int
 bd:Bool
abbrev cV (x:RW):al:=[.str x.s,.z x.ln,.z x.cl,.b x.bd]
theorem yd (x:RW):(cV x).length=4:=rfl
theorem o6 (xs:List RW):(aj cV xs).length=xs.length * 4:=iW yd xs
theorem kF (xs:List RW):a1u (aj cV xs)=true:=iu (fun _=>rfl) xs
theorem Vy (xs:List RW) (x:RW):bM (bf (aj cV xs) 0 (aJ xs.length 4)) [.str x.s,.z x.ln,.z x.cl,.b x.bd]=aj cV (xs++[x]):=by
 rw [j0 (by rw [o6]; show xs.length * 4≤xs.length * 4; omega),g9]; rfl
abbrev di (x:Tk):al:=[.int .i32 x.1]
abbrev dN (x:Tk):al:=[.b x.2]
theorem JI (x:Tk):(di x).length=1:=rfl
theorem JF (x:Tk):(dN x).length=1:=rfl
theorem zY (xs:List Tk):(aj di xs).length=xs.length:=by rw [iW JI]; omega
theorem zX (xs:List Tk):(aj dN xs).length=xs.length:=by rw [iW JF]; omega
theorem r9 (xs:List Tk):a1u (aj di xs)=true:=iu (fun _=>rfl) xs
theorem r8 (xs:List Tk):a1u (aj dN xs)=true:=iu (fun _=>rfl) xs
theorem yh {xs:List Tk} {i:Nat} (h:i < xs.length):af (aj di xs) i=.int .i32 xs[i].1:=by
 have:=gc (f:=di) JI (j:=0) h ab;rw [show i * 1+0=i by omega] at this; exact this
theorem JG {xs:List Tk} {i:Nat} (h:i < xs.length):af (aj dN xs) i=.b xs[i].2:=by
 have:=gc (f:=dN) JF (j:=0) h ab;rw [show i * 1+0=i by omega] at this; exact this
theorem vG:∀ xs:List Tk,aj di xs=xs.map fun x=>LV.int .i32 x.1
 | []=>rfl
 | x::r=>by simp [aj,vG r]
def jg (r:Int):Bool:=decide (r=32) || decide (r=9)
structure CS where
 ws:List RW
 l:List Tk
 c:Int
 f:Int
def tc (l:List Tk) (ln f:Int):RW:=⟨gY (l.map (·.1)),ln,f,l.any (·.2)⟩
def mH (ln:Int) (S:CS):List RW:=if S.l=[] then S.ws else S.ws++[tc S.l ln S.f]
def je (ln:Int) (S:CS) (x:Tk):CS:=if jg x.1=true then⟨mH ln S,[],S.c+1,S.f⟩ else⟨S.ws,S.l++[x],S.c+1,if S.l=[] then S.c else S.f⟩
def fy (l:List Tk):List Tk:=l.takeWhile fun x=>decide (x.1≠59)
def jf (ln:Int) (l:List Tk):CS:=l.foldl (je ln) ⟨[],[],1,0⟩
def gU (ln:Int) (l:List Tk):List RW:=mH ln (jf ln (fy l))
theorem IQ (l:List Tk):(fy l).length≤l.length:=by
 unfold fy
 induction l with
 | nil=>simp
 | cons x r ih=>rw [List.takeWhile_cons]; split <;> simp only [cZ,eU] <;> omega
theorem Lg {α} {l:List α} {k:Nat} (h:k < l.length):l.take (k+1)=l.take k++[l[k]]:=by
 rw [List.take_add_one,cq h]; rfl
theorem LA {α} {l:List α} {i k:Nat} (h:k < l.length) (hi:i≤k):(l.drop i).take (k+1 - i)=(l.drop i).take (k - i)++[l[k]]:=by
 rw [show k+1 - i=(k - i)+1 by omega,List.take_add_one,sB,show i+(k - i)=k by omega,cq h]; rfl
theorem EY {ln:Int} {l:List Tk} {k:Nat} (h:k < l.length):jf ln (l.take (k+1))=je ln (jf ln (l.take k)) l[k]:=by
 unfold jf;rw [Lg h,List.foldl_append]; rfl
def Ga (ln:Int) (l:List Tk) (e:Nat) (ws:List RW) (i:Nat):Prop :=
 ws.length≤i∧((i≤e∧∃ f,jf ln (l.take i)=⟨ws,[],(i:Int)+1,f⟩)∨(i=e+1∧ws=gU ln l))
structure Mo where
 ws:List RW
 i:Nat
theorem P_ (ln:Int) (l:List Tk) (hl:l.length≤100000):a0j prog 34 [.slo 0 0 l.length 0,.slo 1 0 l.length 0,.z ln] (ai (sR (aj di l) (aj dN l)) []) fun v st=>v=.tup [.slo 2 0 (gU ln l).length 0,.z (((fy l).length:Int)+1)]∧st=ai (nR (aj di l) (aj dN l) (aj cV (gU ln l))) []:=by
 refine a0j.mono (a0j.i3y (Q:=fun v b=>v=.tup [.slo 2 0 (gU ln l).length 0,.z (((fy l).length:Int)+1)]∧b=nR (aj di l) (aj dN l) (aj cV (gU ln l))) 92 2 pi [6,7] ak rfl rfl rfl ?_) fun l s' ⟨b0,⟨h1,h2⟩,h3⟩=>⟨h1,by rw [h3,h2]⟩
 have nl:=r9 l; have nb:=r8 l;have ll:=zY l; have lb:=zX l;refine SSp.to cJ (n:=40) (g:=[]) 3 3 rfl (σ:=Unit) (fun _=>wT l.length ln l.length 0) (fun _=>sR (aj di l) (aj dN l)) (bh (aS rfl)) ak ?_ fun _=>?_
 ·rw [M8]; exact⟨rfl,(),[.id 0,.id 1],by(exact zC)⟩
 refine SSp.code_to (g:=[]) 4 rfl (σ:={p:Nat×Nat // p.1≤l.length∧fy l=l.take p.1}) (fun p=>wT l.length ln p.1.1 p.1.2) (fun _=>sR (aj di l) (aj dN l)) ak ?_ fun⟨⟨e,ei⟩,he,hE⟩=>?_
 ·refine a0n.i3g cJ (n:=40) (n0:=2) 0 ak (σ:={i:Nat // i≤l.length∧fy l=l.take i++fy (l.drop i)}) (fun i=>wT l.length ln l.length i.1) (fun _=>sR (aj di l) (aj dN l)) (fun i=>l.length - i.1) (fun _=>aS rfl) (fun⟨i,hi,hN⟩=>?_) ⟨0,bk _,rfl⟩;dsimp only at hi hN ⊢;rw [Ng];by_cases h:i < l.length
  ·have v0:=yh h;have x0:ag (i+1) l.length=true:=aO ab;have e3:au .add .i64 (i:Int) 1=((i+1:Nat):Int):=kE h ab;have hD:l.drop i=l[i]::l.drop (i+1):=jG h;simp only [show ad .lss ((i:Nat):Int) ((l.length:Nat):Int)=true from ga ab,ct,cC,bP,cm,b_,bV,cU,ll,x0,v0,e3,cf,cz,bD,aw];by_cases hr:l[i].1=59
   ·simp only [show ad .eql l[i].1 59=true from cD hr,aw];have hz:fy (l.drop i)=[]:=by rw [hD,fy,List.takeWhile_cons,av (by simp [hr])]
    rw [hz,fR] at hN;exact⟨rfl,⟨(i,i),hi,hN⟩,[.id 0,.id 1],by(exact zC)⟩
   ·simp only [show ad .eql l[i].1 59=false from cF hr,aD];have hz:fy (l.drop i)=l[i]::fy (l.drop (i+1)):=by rw [hD,fy,List.takeWhile_cons,aB (by simp [hr])]; rfl
    refine⟨rfl,⟨i+1,ab,?_⟩,by dsimp only; omega,[.id 0,.id 1],by(exact zC)⟩;rw [hN,hz,Lg h,mW]; rfl
  ·simp only [show ad .lss ((i:Nat):Int) ((l.length:Nat):Int)=false from f_ ab,aD];have hM:=hN;obtain rfl:i=l.length:=ab;rw [List.drop_length] at hM;exact⟨rfl,⟨(l.length,l.length),aR _,by rw [hM]; simp [fy]⟩,[.id 0,.id 1],by(exact zC)⟩
 dsimp only at he hE ⊢;have eL:(fy l).length=e:=by rw [hE,sr]; omega
 refine SSp.to cJ (n:=40) (g:=[]) 2 6 rfl (σ:=Unit) (fun _=>pZ l.length ln e 0 0) (fun _=>nR (aj di l) (aj dN l) []) (bh (aS rfl)) ak ?_ fun _=>?_
 ·rw [M9]; exact⟨rfl,(),[.id 0,.id 1,.none],by(exact zC)⟩
 refine SSp.code_to (g:=[]) 7 rfl (σ:=Nat) (fun i=>pZ l.length ln e (gU ln l).length i) (fun _=>nR (aj di l) (aj dN l) (aj cV (gU ln l))) ak ?_ fun i=>?_
 ·refine a0n.i4d 2 ak (n0:=2) (σ:={p:Mo // Ga ln l e p.ws p.i}) (fun p=>pZ l.length ln e p.1.ws.length p.1.i) (fun p=>nR (aj di l) (aj dN l) (aj cV p.1.ws)) (fun p=>e+1 - p.1.i) (fun _=>aS rfl) (fun⟨⟨ws,i⟩,hI⟩=>?_) ⟨⟨[],0⟩,aC,.inl ⟨bk _,0,rfl⟩⟩;dsimp only at hI ⊢;have nw:=kF ws;have lw:=o6 ws;refine SSp.to cJ (n:=40) (g:=[]) 2 2 rfl (σ:={_u:Unit // i < e}) (fun _=>pZ l.length ln e ws.length i) (fun _=>nR (aj di l) (aj dN l) (aj cV ws)) (bh (aS rfl)) ak ?_ fun⟨_,hie⟩=>?_
  ·rw [Na];by_cases h:i < e
   ·simp only [show ad .lss ((i:Nat):Int) ((e:Nat):Int)=true from ga ab,aw];exact⟨rfl,⟨(),h⟩,[.id 0,.id 1,.id 2],by(exact zC)⟩
   ·simp only [show ad .lss ((i:Nat):Int) ((e:Nat):Int)=false from f_ ab,aD];have hF:ws=gU ln l:=by
     rcases hI.2 with⟨h1,f,h2⟩ | ⟨h1,h2⟩
     ·obtain rfl:i=e:=ab;unfold gU; rw [hE,h2]; rfl
     ·exact h2
    subst hF;exact⟨rfl,i,[.id 0,.id 1,.id 2],by(exact zC)⟩
  obtain⟨hwl,f,hC⟩:ws.length≤i∧∃ f,jf ln (l.take i)=⟨ws,[],(i:Int)+1,f⟩:=by
   refine⟨hI.1,?_⟩;rcases hI.2 with⟨h1,h2⟩ | ⟨h1,h2⟩
   ·exact h2
   ·omega
  have hil:i < l.length:=ab;refine SSp.code_to (g:=[]) 3 rfl (σ:={p:Mo // Ga ln l e p.ws (p.i+1)∧i≤p.i∧p.i≤e}) (fun p=>pZ l.length ln e p.1.ws.length p.1.i) (fun p=>nR (aj di l) (aj dN l) (aj cV p.1.ws)) ak ?_ fun⟨⟨ws1,i1⟩,hI1,hi1,hi2⟩=>?_
  ·refine a0n.i3v 3 ak ?_;refine SSp.to cJ (n:=40) (g:=[]) 4 4 rfl (σ:={_u:Unit // jg l[i].1=false}) (fun _=>wW l.length ln e ws.length i i) (fun _=>wR (aj di l) (aj dN l) (aj cV ws) ln ((i:Int)+1) false) (bh (aS rfl)) ak ?_ fun⟨_,hb⟩=>?_
   ·rw [Nb];have v0:=yh hil;have x0:ag (i+1) l.length=true:=aO ab;have e3:au .add .i64 (i:Int) 1=(i:Int)+1:=gb ab ab;have fin:jg l[i].1=true→Ga ln l e ws (i+1):=fun hz=>⟨ab,.inl ⟨ab,f,by rw [EY hil,hC,je,aB hz]; simp [mH]⟩⟩
    simp only [ct,cC,bP,cm,b_,bV,cU,ll,x0,v0,e3,cf,cz,bD,aw];by_cases h1:l[i].1=32
    ·simp only [show ad .eql l[i].1 32=true from cD h1,aw];exact⟨rfl,⟨⟨ws,i⟩,fin (by simp [jg,h1]),aC,by dsimp only; omega⟩,[.id 0,.id 1,.id 2],by(exact zC)⟩
    simp only [show ad .eql l[i].1 32=false from cF h1,aD];by_cases h2:l[i].1=9
    ·simp only [show ad .eql l[i].1 9=true from cD h2,aw];exact⟨rfl,⟨⟨ws,i⟩,fin (by simp [jg,h2]),aC,by dsimp only; omega⟩,[.id 0,.id 1,.id 2],by(exact zC)⟩
    ·simp only [show ad .eql l[i].1 9=false from cF h2,aD];exact⟨rfl,⟨(),by simp [jg,h1,h2]⟩,[.id 0,.id 1,.id 2,.id 3],by(exact zC)⟩
   refine SSp.code_to (g:=[]) 5 rfl (σ:={p:Nat×Bool // i < p.1∧p.1≤e∧jf ln (l.take p.1)=⟨ws,(l.drop i).take (p.1 - i),(p.1:Int)+1,(i:Int)+1⟩∧p.2=((l.drop i).take (p.1 - i)).any (·.2)∧(p.1=e∨∃ h:p.1 < l.length,jg l[p.1].1=true)}) (fun p=>wW l.length ln e ws.length i p.1.1) (fun p=>wR (aj di l) (aj dN l) (aj cV ws) ln ((i:Int)+1) p.1.2) ak ?_ fun⟨⟨k,b⟩,hk1,hk2,hk3,hk4,hk5⟩=>?_
   ·refine a0n.i3g cJ (n:=40) (n0:=2) 4 ak (σ:={p:Nat×Bool // i≤p.1∧p.1≤e∧(∃ f',jf ln (l.take p.1)=⟨ws,(l.drop i).take (p.1 - i),(p.1:Int)+1,f'⟩∧(i < p.1→f'=(i:Int)+1))∧p.2=((l.drop i).take (p.1 - i)).any (·.2)}) (fun p=>wW l.length ln e ws.length i p.1.1) (fun p=>wR (aj di l) (aj dN l) (aj cV ws) ln ((i:Int)+1) p.1.2) (fun p=>e - p.1.1) (fun _=>aS rfl) (fun⟨⟨k,b⟩,hk1,hk2,hk3,hk4⟩=>?_) ⟨(i,false),aR _,by dsimp only; omega,⟨f,by rw [hC]; simp,fun h=>absurd h (Nat.lt_irrefl _)⟩,aC⟩;dsimp only at hk1 hk2 hk3 hk4 ⊢;obtain⟨f',hk3,hf⟩:=hk3;rw [Nc];have fin:(k=e∨∃ h:k < l.length,jg l[k].1=true)→i < k∧k≤e∧jf ln (l.take k)=⟨ws,(l.drop i).take (k - i),(k:Int)+1,(i:Int)+1⟩∧b=((l.drop i).take (k - i)).any (·.2)∧(k=e∨∃ h:k < l.length,jg l[k].1=true):=fun hz=>by
     have:i < k:=by
      rcases hz with hz | ⟨hz1,hz2⟩
      ·omega
      ·rcases jH i k with q | q
       ·exact q
       ·obtain rfl:i=k:=ab;rw [hb] at hz2; cases hz2
     exact⟨this,hk2,by rw [hk3,hf this],hk4,hz⟩
    by_cases h:k < e
    ·have hkl:k < l.length:=ab;have v0:=yh hkl; have v1:=JG hkl;have x0:ag (k+1) l.length=true:=aO ab;have e3:au .add .i64 (k:Int) 1=((k+1:Nat):Int):=kE hkl ab;have wB:∀ x,eM (.b x)=true:=fun _=>rfl
     have wA:∀ x,ba (.b x)=x:=fun _=>rfl
     simp only [show ad .lss ((k:Nat):Int) ((e:Nat):Int)=true from ga ab,ct,cC,bP,cm,b_,bV,cU,ll,lb,x0,v0,v1,e3,wB,wA,cf,cz,bD,aw];by_cases h1:l[k].1=32
     ·simp only [show ad .neq l[k].1 32=false from lN h1,aD];exact⟨rfl,⟨(k,b),fin (.inr ⟨hkl,by simp [jg,h1]⟩)⟩,[.id 0,.id 1,.id 2,.id 3],by(exact zC)⟩
     simp only [show ad .neq l[k].1 32=true from kA h1,aw];by_cases h2:l[k].1=9
     ·simp only [show ad .neq l[k].1 9=false from lN h2,aD];exact⟨rfl,⟨(k,b),fin (.inr ⟨hkl,by simp [jg,h2]⟩)⟩,[.id 0,.id 1,.id 2,.id 3],by(exact zC)⟩
     simp only [show ad .neq l[k].1 9=true from kA h2,aw];have hn:jg l[k].1=false:=by simp [jg,h1,h2]
     have nxt:∀ b',b'=(b || l[k].2)→i≤k+1∧k+1≤e∧(∃ f',jf ln (l.take (k+1))=⟨ws,(l.drop i).take (k+1 - i),((k+1:Nat):Int)+1,f'⟩∧(i < k+1→f'=(i:Int)+1))∧b'=((l.drop i).take (k+1 - i)).any (·.2):=fun b' hb'=>by
      refine⟨ab,ab,?_,?_⟩
      ·rw [EY hkl,hk3,je,av (by rw [hn]; simp),LA hkl hk1];refine⟨_,rfl,fun _=>?_⟩;dsimp only;by_cases q:i=k
       ·subst q; rw [aB aC]
       ·rw [av]
        ·exact hf ab
        ·intro z;have:=congrArg List.length z;rw [sr,List.length_drop,eU] at this;omega
      ·rw [hb',LA hkl hk1,List.any_append,← hk4]; simp
     cases b with
     | true =>
       simp only [aw];exact⟨rfl,⟨(k+1,true),nxt true aC⟩,by dsimp only; omega,[.id 0,.id 1,.id 2,.id 3],by(exact zC)⟩
     | false =>
       simp only [aD];exact⟨rfl,⟨(k+1,l[k].2),nxt _ aC⟩,by dsimp only; omega,[.id 0,.id 1,.id 2,.id 3],by(exact zC)⟩
    ·simp only [show ad .lss ((k:Nat):Int) ((e:Nat):Int)=false from f_ ab,aD];exact⟨rfl,⟨(k,b),fin (.inl ab)⟩,[.id 0,.id 1,.id 2,.id 3],by(exact zC)⟩
   dsimp only at hk1 hk2 hk3 hk4 hk5 ⊢;refine SSp.last cJ (n:=40) (bh (aS rfl)) ?_;rw [Nd];have hsl:bf (aj di l) i (k - i)=aj di ((l.drop i).take (k - i)):=by
    rw [vG,vG,List.map_take,List.map_drop]; rfl
   have hen:u6 (aj di ((l.drop i).take (k - i)))=gY (((l.drop i).take (k - i)).map (·.1)):=by
    rw [vG,u6,List.map_map]; rfl
   have hi3:u7 (aj di ((l.drop i).take (k - i)))=true:=by
    rw [vG,u7,List.all_map,j_]; intro x _; rfl
   have hsne:(l.drop i).take (k - i)≠[]:=by
    intro z;have:=congrArg List.length z;rw [sr,List.length_drop,eU] at this;omega
   have y1:ag i k=true:=aO ab;have y2:ag k l.length=true:=aO ab;have y3:ag (i+(k - i)) l.length=true:=aO ab;have y4:ag (ws.length+1) 1000000=true:=aO ab;have y5:ag (ws.length * 4) (ws.length * 4)=true:=aO (aR _);have hp:=Vy ws (tc ((l.drop i).take (k - i)) ln ((i:Int)+1));rw [cm] at hp;have hp':bM (bf (aj cV ws) 0 (ws.length * 4)) [.str (gY (((l.drop i).take (k - i)).map (·.1))),.z ln,.z ((i:Int)+1),.b b]=aj cV (ws++[tc ((l.drop i).take (k - i)) ln ((i:Int)+1)]):=by rw [← hp,hk4]; rfl
   have nw2:=kF (ws++[tc ((l.drop i).take (k - i)) ln ((i:Int)+1)]);have wsub:∀ a b:Nat,dR a b=a - b:=fun _ _=>rfl
   simp only [ct,cC,bP,cm,b_,wsub,bV,cU,ll,lw,hsl,hen,hi3,y1,y2,y3,y4,y5,hp',aw];rw [show ws.length+1=(ws++[tc ((l.drop i).take (k - i)) ln ((i:Int)+1)]).length by simp];refine⟨rfl,⟨⟨ws++[tc ((l.drop i).take (k - i)) ln ((i:Int)+1)],k⟩,⟨?_,?_⟩,by dsimp only; omega,hk2⟩,[.id 0,.id 1,.id 5],by(exact zC)⟩
   ·dsimp only; rw [cg]; simp; omega
   ·dsimp only;have hW:mH ln (jf ln (l.take k))=ws++[tc ((l.drop i).take (k - i)) ln ((i:Int)+1)]:=by
     rw [hk3,mH,av hsne]
    by_cases q:k=e
    ·subst q;exact .inr ⟨rfl,by rw [gU,hE,hW]⟩
    ·rcases hk5 with h5 | ⟨h5,h6⟩
     ·exact absurd h5 q
     ·refine .inl ⟨ab,(i:Int)+1,?_⟩;rw [EY h5,je,aB h6,hW,hk3]; simp
  dsimp only at hI1 hi1 hi2 ⊢;have nw1:=kF ws1;refine SSp.last cJ (n:=40) (bh (aS rfl)) ?_;rw [Nf];have e3:au .add .i64 (i1:Int) 1=((i1+1:Nat):Int):=by rw [gb ab ab]; rfl
  rw [e3];exact⟨rfl,⟨⟨ws1,i1+1⟩,hI1⟩,by dsimp only; omega,[.id 0,.id 1,.id 2],by(exact zC)⟩
 refine SSp.last cJ (n:=40) (bh (aS rfl)) ?_;have nF:=kF (gU ln l);rw [Nh];have e3:au .add .i64 (e:Int) 1=((fy l).length:Int)+1:=by rw [eL]; exact gb ab ab
 rw [e3];exact⟨trivial,rfl,.tup [.slo 2 0 (gU ln l).length 0,.z (((fy l).length:Int)+1)],_,[.id 0,.id 1,.id 2],⟨rfl,rfl⟩,by(exact zC)⟩
def ug:al→al→List Tk
 | .int _ r::a,.bool b::c=>(r,b)::ug a c
 | _,_=>[]
theorem yg:∀ l:List Tk,ug (aj di l) (aj dN l)=l
 | []=>rfl
 | x::r=>by simp [aj,ug,yg r]
def sZ (n m:Nat) (lx bx:al):Bool:=@decide (∃ l:List Tk,lx=aj di l∧bx=aj dN l∧l.length=n∧m=n∧n≤100000) (Classical.propDecidable _)
def qd (ln:Int) (lx bx:al):al:=aj cV (gU ln (ug lx bx))
def rI (ln:Int) (lx bx:al):Nat:=(gU ln (ug lx bx)).length
def rH (lx bx:al):Int:=((fy (ug lx bx)).length:Int)+1
theorem Fd {n m:Nat} {lx bx:al}:sZ n m lx bx=true↔∃ l:List Tk,lx=aj di l∧bx=aj dN l∧l.length=n∧m=n∧n≤100000:=by simp only [sZ,cu]
theorem M_ (n m:Nat) (ln:Int) (lx bx:al) (k1:sZ n m lx bx=true):a0j prog 34 [.slo 0 0 n 0,.slo 1 0 m 0,.z ln] (ai [.cells lx (some 1),.cells bx (some 1)] []) fun v st=>v=.tup [.slo 2 0 (rI ln lx bx) 0,.z (rH lx bx)]∧st=ai [.cells lx (some 1),.cells bx (some 1),.cells (qd ln lx bx) (some 4)] []:=by
 obtain⟨l,rfl,rfl,rfl,rfl,hl⟩:=Fd.1 k1;rw [rI,rH,qd,yg];exact P_ ln l hl
def Es:Gc:=fun args s=>match args,s.g with
 | [.slo a 0 n 0,.slo b 0 m 0,.int .i64 ln],[]=>(match s.h.get a with
   | some (.cells lx (some 1))=>(match s.h.get b with
     | some (.cells bx (some 1))=>cond (gj [a,b]) (match s.lay [a,b] [.cells lx (some 1),.cells bx (some 1)] [.cells (qd ln lx bx) (some 4)] with
       | some s'=>some ([sZ n m lx bx],.tup [.slo s.n 0 (rI ln lx bx) 0,.z (rH lx bx)],s')
       | none=>none) none
     | _=>none)
   | _=>none)
 | _,_=>none
theorem SF:bX prog 34 Es:=by
 intro args s bs l s' hg hb hfr;unfold Es at hg;split at hg
 ·rename_i a n b m ln hgl;split at hg
  ·rename_i lx hb0;split at hg
   ·rename_i bx hb1;cases hbc:gj [a,b] with
    | false=>exact qT
    | true =>
      rw [hbc] at hg;simp only [aw] at hg;split at hg
      ·rename_i s1 hs1;simp only [a8,bn] at hg;obtain⟨rfl,rfl,rfl⟩:=hg;simp only [bv] at hb;obtain⟨k1,_⟩:=hb;obtain⟨zl,ze,zf,_,_,_⟩:=Fd.1 k1; have n1:a1u lx=true:=ze▸r9 zl; have n2:a1u bx=true:=zf▸r8 zl; have n3:a1u (qd ln lx bx)=true:=kF _;refine a0j.lay (bs:=[.cells lx (some 1),.cells bx (some 1)]) (args0:=[.slo 0 0 n 0,.slo 1 0 m 0,.z ln]) (bs':=[.cells lx (some 1),.cells bx (some 1),.cells (qd ln lx bx) (some 4)]) (v0:=.tup [.slo 2 0 (rI ln lx bx) 0,.z (rH lx bx)]) hfr hs1 (pC hbc)
        ⟨⟨df hfr hb0,_,hb0,be bF,fun κ hκ=>be bF⟩,⟨df hfr hb1,_,hb1,be bF,fun κ hκ=>be bF⟩,trivial⟩ fv ?_
        fun κ h1 h2=>⟨⟨be bF,be bF,be bF,trivial⟩,(pu (aV (bC (h2 0 aC)) (aV (cH) cA)))⟩
       rw [hgl]; exact(M_ n m ln lx bx k1)
      ·cases hg
   ·cases hg
  ·cases hg
 ·cases hg
end
end Go.Lev
