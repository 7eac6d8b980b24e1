import Derived.Test.YtnkkkihgljbllaaDoorCQ9
namespace Go.Lev
set_option linter.unusedSimpArgs false
set_option linter.unusedVariables false
open Go.RowKit
open Go.Proofs.Tryd (prog)
set_option maxRecDepth 100000
noncomputable section
abbrev Dd (n m k:Nat):List (Nat×LV):=[(0,.slo 0 0 n 0),(1,.slo 1 0 m 0),(5,.z k)]
abbrev qc (cs ds:al):a9:=[.cells cs (some 5),.cells ds (some 5)]
abbrev zz:List Nat:=[0,1,4,5]
theorem RU (n m:Nat) (cs ds:al) (K:Pk):(bc prog (fun _=>none) 40 26 (bS (sp prog 15) 0 4) (cO [.slo 0 0 n 0,.slo 1 0 m 0]) (ai (qc cs ds)) (vK zz K))=(
 cond (ad .neq ↑n ↑m) (K .ret [.slo 0 0 n 0,.slo 1 0 m 0,.b false,.tup []] [sC cs 5,sC ds 5] []) (K .normal [.slo 0 0 n 0,.slo 1 0 m 0,.b false,.z 0] [sC cs 5,sC ds 5] [])):=ak
theorem RV (n m k:Nat) (cs ds:al) (K:Pk):(aX prog (fun _=>none) 40 26 (ce (bi (sp prog 15) 4)) (aF 26 (Dd n m k)) (ai (qc cs ds)) (vK zz K))=(
 cond (ad .lss ↑k ↑n) (ck (ag (aa (ae ↑k) 1) n) <|
 ck (ag (aa (ah 0 (ae ↑k) 5) 5) (aG cs)) <|
 ck (a7 .i64 (af cs (ah 0 (ae ↑k) 5))) <|
 ck (a7 .i64 (af cs (aa (ah 0 (ae ↑k) 5) 1))) <|
 ck (a7 .i64 (af cs (aa (aa (ah 0 (ae ↑k) 5) 1) 1))) <|
 ck (a7 .i64 (af cs (aa (aa (aa (ah 0 (ae ↑k) 5) 1) 1) 1))) <|
 ck (a7 .u64 (af cs (aa (aa (aa (aa (ah 0 (ae ↑k) 5) 1) 1) 1) 1))) <|
 ck (ag (aa (ae ↑k) 1) m) <|
 ck (ag (aa (ah 0 (ae ↑k) 5) 5) (aG ds)) <|
 ck (a7 .i64 (af ds (ah 0 (ae ↑k) 5))) <|
 ck (a7 .i64 (af ds (aa (ah 0 (ae ↑k) 5) 1))) <|
 ck (a7 .i64 (af ds (aa (aa (ah 0 (ae ↑k) 5) 1) 1))) <|
 ck (a7 .i64 (af ds (aa (aa (aa (ah 0 (ae ↑k) 5) 1) 1) 1))) <|
 ck (a7 .u64 (af ds (aa (aa (aa (aa (ah 0 (ae ↑k) 5) 1) 1) 1) 1))) <|
 cond (bu (lK (ad .eql (ar (af cs (ah 0 (ae ↑k) 5))) (ar (af ds (ah 0 (ae ↑k) 5)))) (lK (ad .eql (ar (af cs (aa (ah 0 (ae ↑k) 5) 1))) (ar (af ds (aa (ah 0 (ae ↑k) 5) 1)))) (lK (ad .eql (ar (af cs (aa (aa (ah 0 (ae ↑k) 5) 1) 1))) (ar (af ds (aa (aa (ah 0 (ae ↑k) 5) 1) 1)))) (lK (ad .eql (ar (af cs (aa (aa (aa (ah 0 (ae ↑k) 5) 1) 1) 1))) (ar (af ds (aa (aa (aa (ah 0 (ae ↑k) 5) 1) 1) 1)))) (lK (ad .eql (ar (af cs (aa (aa (aa (aa (ah 0 (ae ↑k) 5) 1) 1) 1) 1))) (ar (af ds (aa (aa (aa (aa (ah 0 (ae ↑k) 5) 1) 1) 1) 1)))) true)))))) (K .ret [.slo 0 0 n 0,.slo 1 0 m 0,.b false,.z ↑k] [sC cs 5,sC ds 5] []) (K .normal [.slo 0 0 n 0,.slo 1 0 m 0,.any,.z (au .add .i64 (↑k) 1)] [sC cs 5,sC ds 5] [])) (K (.exit 0) [.slo 0 0 n 0,.slo 1 0 m 0,.any,.z ↑k] [sC cs 5,sC ds 5] [])):=ak
theorem RX (cs ds:al) (K:Pk):(bc prog (fun _=>none) 40 26 ((sp prog 15).drop 5) (aF 26 []) (ai (qc cs ds)) (vK zz K))=(
 K .ret [.any,.any,.b true,.any] [sC cs 5,sC ds 5] []):=ak
def uI (x y:bo):Bool:=decide (x.op=y.op∧x.a=y.a∧x.b=y.b∧x.c=y.c∧x.n=y.n)
theorem Kc {x y:bo}:uI x y=true↔x=y:=by
 obtain⟨a,b,c,d,e⟩:=x;obtain⟨a',b',c',d',e'⟩:=y;simp [uI]
theorem Q6 (x y:bo):lK (ad .eql x.op y.op) (lK (ad .eql x.a y.a) (lK (ad .eql x.b y.b) (lK (ad .eql x.c y.c) (lK (ad .eql x.n y.n) true))))=uI x y:=by
 rw [mu,uI];simp [Ue,lQ]
theorem VY {a b:List bo} (h:aj aW a=aj aW b):a=b:=by rw [← vU a,h,vU]
def kX (n m:Nat) (cs ds:al):Bool:=@decide (n=m∧cs=ds) (Classical.propDecidable _)
theorem V_ (xs ys:List bo) (hn:xs.length≤1000000) (hm:ys.length≤1000000):a0j prog 15 [.slo 0 0 xs.length 0,.slo 1 0 ys.length 0] (ai (qc (aj aW xs) (aj aW ys)))
  fun l s=>l=.b (kX xs.length ys.length (aj aW xs) (aj aW ys))∧s=ai (qc (aj aW xs) (aj aW ys)):=by
 refine a0j.mono (a0j.i3y (Q:=fun l b=>l=.b (kX xs.length ys.length (aj aW xs) (aj aW ys))∧b=qc (aj aW xs) (aj aW ys)) 26 2 zz [4] ak rfl rfl rfl ?_) fun l s' ⟨b0,⟨h1,h2⟩,h3⟩=>⟨h1,by rw [h3,h2]⟩
 have nx:=oE xs;have ny:=oE ys;have lx:=ey xs; have ly:=ey ys;refine SSp.to cJ (n:=40) (g:=[]) 4 4 rfl (σ:={_k:Unit // xs.length=ys.length}) (fun _=>Dd xs.length ys.length 0) (fun _=>qc (aj aW xs) (aj aW ys)) (bh (aR _)) ak ?_ fun⟨_,hnm⟩=>?_
 ·rw [RU,Ug];by_cases e:xs.length=ys.length
  ·simp only [e,bD,oM,aD];exact⟨rfl,⟨(),e⟩,[.id 0,.id 1],by(exact zC)⟩
  ·simp only [e,fX,pH,aw];have hs:kX xs.length ys.length (aj aW xs) (aj aW ys)=false:=by simp only [kX,v_]; exact fun k=>e k.1
   exact GD
 refine SSp.code_to (g:=[]) 5 rfl (σ:={_k:Unit // xs=ys}) (fun _=>[]) (fun _=>qc (aj aW xs) (aj aW ys)) ak ?_ fun⟨_,hall⟩=>?_
 ·refine a0n.i3g cJ (n:=40) 0 ak (σ:={k:Nat // k≤xs.length∧∀ i (h:i < xs.length) (h':i < ys.length),i < k→xs[i]=ys[i]}) (fun k=>Dd xs.length ys.length k.1) (fun _=>qc (aj aW xs) (aj aW ys)) (fun k=>xs.length - k.1) (fun _=>aR _) (fun⟨k,hk,hall⟩=>?_) ⟨0,bk _,fun i _ _ hi=>absurd hi ab⟩;dsimp only;rw [RV,Uf];refine tK (fun h0=>?_) (fun h0=>⟨rfl,⟨(),List.ext_getElem hnm fun i h1 h2=>hall i h1 h2 ab⟩,[.id 0,.id 1],by(exact zC)⟩);have h1:k < ys.length:=ab;have e3:au .add .i64 (k:Int) 1=((k+1:Nat):Int):=kE h0 ab;have a0:=tq h0; have a1:=tr h0; have a2:=tt h0; have a3:=tv h0; have a4:=tw h0;have b0:=tq h1; have b1:=tr h1; have b2:=tt h1; have b3:=tv h1; have b4:=tw h1;have q1:k * 5+1+1=k * 5+2:=ab;have q2:k * 5+2+1=k * 5+3:=ab;have q3:k * 5+3+1=k * 5+4:=ab;simp only [ct,cC,bP,cm,b_,bV,lx,ly,q1,q2,q3,a0,a1,a2,a3,a4,b0,b1,b2,b3,b4,e3,cf,cz,Q6,show ag (k+1) xs.length=true from aO ab,show ag (k+1) ys.length=true from aO ab,show ag (k * 5+5) (xs.length * 5)=true from aO ab,show ag (k * 5+5) (ys.length * 5)=true from aO ab,aw];by_cases e:xs[k]=ys[k]
  ·simp only [Kc.2 e,ej,aD];exact⟨rfl,⟨k+1,h0,fun i h2 h3 hi=>by rcases t7.1 hi with hi | rfl; exact hall i h2 h3 hi; exact e⟩,by simp only; omega,[.id 0,.id 1],by(exact zC)⟩
  ·have hs:kX xs.length ys.length (aj aW xs) (aj aW ys)=false:=by
    simp only [kX,v_];intro q;have:=VY q.2;subst this;exact e rfl
   have ht:uI xs[k] ys[k]=false:=by
    cases q:uI xs[k] ys[k]
    ·rfl
    ·exact absurd (Kc.1 q) e
   simp only [ht,eh,aw];exact⟨trivial,rfl,_,_,[.id 0,.id 1],⟨rfl,rfl⟩,by rw [hs]; (exact zC)⟩
 refine SSp.last cJ (n:=40) (bh (aR _)) ?_;rw [RX];have hs:kX xs.length ys.length (aj aW xs) (aj aW ys)=true:=by
  simp only [kX,cu]; exact⟨hnm,by rw [hall]⟩
 exact GD
def oV (n:Nat) (cs:al):Bool:=@decide (∃ L:List bo,cs=aj aW L∧L.length=n∧n≤1000000) (Classical.propDecidable _)
theorem Ax {n:Nat} {cs:al}:oV n cs=true↔∃ L:List bo,cs=aj aW L∧L.length=n∧n≤1000000:=by simp only [oV,cu]
theorem It {n:Nat} {cs:al} (h:oV n cs=true):a1u cs=true:=by obtain⟨L,rfl,_⟩:=Ax.1 h; exact oE L
theorem Vz (n m:Nat) (cs ds:al) (h1:oV n cs=true) (h2:oV m ds=true):a0j prog 15 [.slo 0 0 n 0,.slo 1 0 m 0] (ai [.cells cs (some 5),.cells ds (some 5)]) fun l s=>l=.b (kX n m cs ds)∧s=ai [.cells cs (some 5),.cells ds (some 5)]:=by
 obtain⟨L,rfl,rfl,k1⟩:=Ax.1 h1;obtain⟨M,rfl,rfl,k2⟩:=Ax.1 h2;exact V_ L M k1 k2
def B3:Gc:=fun args s=>match args,s.g with
 | [.slo a 0 n 0,.slo b 0 m 0],[]=>(match s.h.get a with
   | some (.cells cs (some 5))=>(match s.h.get b with
     | some (.cells ds (some 5))=>cond (gj [a,b]) (match s.lay [a,b] [.cells cs (some 5),.cells ds (some 5)] [] with
       | some s'=>some ([oV n cs,oV m ds],.b (kX n m cs ds),s')
       | none=>none) none
     | _=>none)
   | _=>none)
 | _,_=>none
theorem T3:bX prog 15 B3:=by
 intro args s bs l s' hg hb hfr;unfold B3 at hg;split at hg
 ·rename_i a n b m hgl;split at hg
  ·rename_i cs hb0;split at hg
   ·rename_i ds hb1;cases hbc:gj [a,b] with
    | false=>exact qT
    | true =>
      rw [hbc] at hg;simp only [aw] at hg;split at hg
      ·rename_i s1 hs1;simp only [a8,bn] at hg;obtain⟨rfl,rfl,rfl⟩:=hg;simp only [bv] at hb;obtain⟨k1,k2,_⟩:=hb;have n1:=It k1; have n2:=It k2;refine a0j.lay (bs:=[.cells cs (some 5),.cells ds (some 5)]) (args0:=[.slo 0 0 n 0,.slo 1 0 m 0]) (bs':=[.cells cs (some 5),.cells ds (some 5)]) (v0:=.b (kX n m cs ds)) hfr hs1 (pC hbc)
        ⟨⟨df hfr hb0,_,hb0,be bF,fun κ hκ=>be bF⟩,⟨df hfr hb1,_,hb1,be bF,fun κ hκ=>be bF⟩,trivial⟩ fv ?_
        fun κ h1 h2=>⟨⟨be bF,be bF,trivial⟩,ir⟩
       rw [hgl]; exact(Vz n m cs ds k1 k2)
      ·cases hg
   ·cases hg
  ·cases hg
 ·cases hg
end
end Go.Lev
