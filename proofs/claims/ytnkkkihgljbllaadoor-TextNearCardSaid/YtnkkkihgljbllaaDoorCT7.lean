import Derived.Test.YtnkkkihgljbllaaDoorCQ9
import Derived.Test.YtnkkkihgljbllaaDoorCZ8
/- text: printable -/
namespace Go.Lev
set_option linter.unusedSimpArgs false
set_option linter.unusedVariables false
open Go.RowKit
open Go.Proofs.Tryd (prog)
set_option maxRecDepth 100000
noncomputable section
theorem DT:cT prog (cv Am):=fQ ⟨Vf,trivial⟩
theorem Iw {L:List bo} (h:¬ jd L):lY (aj aW L)=false:=qQ.2 fun e=>h ((Az L).1 e)
set_option maxHeartbeats 4000000 in
theorem OY (L:List bo):a0j prog 23 [.agg [.slo 0 0 L.length 0]] (ai [.ro (aj aW L)] aq) fun l s=>l=.b (lY (aj aW L))∧s=ai [.ro (aj aW L)] aq:=by
 refine a0j.mono (a0j.i3y (Q:=fun l b'=>l=.b (lY (aj aW L))∧b'=[.ro (aj aW L)]) 33 1 yZ [2] ak rfl rfl rfl ?_) fun l s' ⟨b0,⟨h1,h2⟩,h3⟩=>⟨h1,by rw [h3,h2]⟩
 have nls:a1u (aj aW L)=true:=oE L;refine SSp.to DT (n:=40) (g:=aq) 4 4 rfl (σ:={_u:Unit // L.length≤40}) (fun _=>wI L.length 0) (fun _=>wJ L.length (aj aW L)) (bh (aS rfl)) ak ?_ fun⟨_,h40⟩=>?_
 ·rw [OW];by_cases c:40 < L.length
  ·have hF:lY (aj aW L)=false:=Iw fun h=>by have:=h.1; omega
   (refine zR ?_)
   exact yP
  ·(refine zR ?_)
   exact⟨rfl,⟨(),ab⟩,[.id 0,.id 1],by(exact zC)⟩
 refine SSp.code_to (g:=aq) 5 rfl (σ:={_u:Unit // jd L}) (fun _=>wI L.length L.length) (fun _=>wJ L.length (aj aW L)) ak ?_ fun⟨_,hok⟩=>?_
 ·refine a0n.i3g DT (n:=40) 0 ak (σ:={i:Nat // i≤L.length∧∀ j (h:j < L.length),j < i→ja L.length L[j]}) (fun i=>wI L.length i.1) (fun _=>wJ L.length (aj aW L)) (fun i=>L.length - i.1) (fun _=>aS rfl) (fun⟨i,hi,hj⟩=>?_) ⟨0,ab,fun j _ h=>by omega⟩;dsimp only;rw [OZ]; simp only [tN];by_cases hlt:i < L.length
  ·have c0:=tq hlt;have c1:=tr hlt;have c2:af (aj aW L) (i * 5+1+1)=.z L[i].b:=tt hlt;have c3:af (aj aW L) (i * 5+1+1+1)=.z L[i].c:=tv hlt;have c4:af (aj aW L) (i * 5+1+1+1+1)=.int .u64 L[i].n:=tw hlt;have i1:au .add .i64 (i:Int) 1=((i+1:Nat):Int):=kE hlt ab;have nx:ja L.length L[i]→∀ j (h:j < L.length),j < i+1→ja L.length L[j]:=fun h j h1 h2=>by
    rcases t7.1 h2 with h2 | rfl
    ·exact hj j h1 h2
    ·exact h
   have bad:¬ ja L.length L[i]→lY (aj aW L)=false:=fun h=>Iw fun k=>h (k.2 _ (iw hlt))
   cases hm:cM L[i].op L[i].a L[i].b L[i].c L[i].n with
   | false =>
     have hF:=bad fun h=>by rw [h.1] at hm; cases hm
     simp only [ct,fj,fm,cC,bP,cm,b_,bV,cU,cz,cf,fk,fi,eA,fo,dS,fp,bD,aw,ej,eh,fr,fq,c0,c1,c2,c3,c4,ey,hm,i1]
     (refine zR ?_)
     exact yP
   | true =>
     by_cases y12:L[i].op=12
     ·by_cases yc:(L.length:Int) < L[i].c
      ·have hF:=bad fun h=>by have:=h.2 (.inl y12); omega
       simp only [ct,fj,fm,cC,bP,cm,b_,bV,cU,cz,cf,fk,fi,eA,fo,dS,fp,bD,aw,ej,eh,fr,fq,c0,c1,c2,c3,c4,ey,hm,i1]
       (refine zR ?_)
       exact yP
      ·have hn:=nx ⟨hm,fun _=>by omega⟩;simp only [ct,fj,fm,cC,bP,cm,b_,bV,cU,cz,cf,fk,fi,eA,fo,dS,fp,bD,aw,ej,eh,fr,fq,c0,c1,c2,c3,c4,ey,hm,i1]
       (refine zR ?_)
       exact BJ
     ·by_cases y13:L[i].op=13
      ·by_cases yc:(L.length:Int) < L[i].c
       ·have hF:=bad fun h=>by have:=h.2 (.inr y13); omega
        simp only [ct,fj,fm,cC,bP,cm,b_,bV,cU,cz,cf,fk,fi,eA,fo,dS,fp,bD,aw,ej,eh,fr,fq,c0,c1,c2,c3,c4,ey,hm,i1]
        (refine zR ?_)
        exact yP
       ·have hn:=nx ⟨hm,fun _=>by omega⟩;simp only [ct,fj,fm,cC,bP,cm,b_,bV,cU,cz,cf,fk,fi,eA,fo,dS,fp,bD,aw,ej,eh,fr,fq,c0,c1,c2,c3,c4,ey,hm,i1]
        (refine zR ?_)
        exact BJ
      ·have hn:=nx ⟨hm,fun h=>by omega⟩;simp only [ct,fj,fm,cC,bP,cm,b_,bV,cU,cz,cf,fk,fi,eA,fo,dS,fp,bD,aw,ej,eh,fr,fq,c0,c1,c2,c3,c4,ey,hm,i1]
       (refine zR ?_)
       exact BJ
  ·obtain rfl:i=L.length:=ab;have hok:jd L:=⟨h40,fun x hx=>by
    obtain⟨j,h1,rfl⟩:=List.mem_iff_getElem.1 hx;exact hj j h1 h1⟩
   (refine zR ?_)
   exact⟨rfl,⟨(),hok⟩,[.id 0,.id 1],by(exact zC)⟩
 have hT:lY (aj aW L)=true:=(Az L).2 hok;refine SSp.last DT (n:=40) (bh (aS rfl)) ?_;rw [O0];exact⟨trivial,rfl,.b true,_,[.id 0],⟨by rw [hT],rfl⟩,by(exact zC)⟩
theorem Fx {n:Nat} {cs:al} (h:ku n cs=true):a1u cs=true:=by
 obtain⟨L,rfl,_⟩:=vP.1 h; exact oE L
theorem OX (n:Nat) (cs:al) (h:ku n cs=true):a0j prog 23 [.agg [.slo 0 0 n 0]] (ai [.ro cs] aq) fun l s=>l=.b (lY cs)∧s=ai [.ro cs] aq:=by
 obtain⟨L,rfl,rfl,_⟩:=vP.1 h; exact OY L
def Cf:Gc:=fun args s=>match args,s.g with
 | [.agg [.slo q 0 n 0]],[(g0,F0),(g1,F1),(g2,F2),(g3,[.fact F])]=>cond (Nat.beq g0 0 && aU F0 cj && (Nat.beq g1 2 && aU F1 cK) && (Nat.beq g2 1 && aU F2 gi) && Nat.beq g3 1000) (match s.h.get q with
   | some (.ro cs)=>(match s.lay [q] [.ro cs] [] with
     | some s'=>some ([dm F,ku n cs],.b (lY cs),s')
     | none=>none)
   | _=>none) none
 | _,_=>none
theorem TF:bX prog 23 Cf:=by
 intro args s bs l s' hg hb hfr;unfold Cf at hg;split at hg
 ·rename_i q n g0 F0 g1 F1 g2 F2 g3 F hgl;cases hc:(Nat.beq g0 0 && aU F0 cj && (Nat.beq g1 2 && aU F1 cK) && (Nat.beq g2 1 && aU F2 gi) && Nat.beq g3 1000) with
  | false=>exact eZ
  | true =>
    rw [hc] at hg;simp only [aw] at hg;simp only [bg] at hc;replace hgl:s.g=pY F:=by rw [hgl,bt hc.1.1.1.1,bQ hc.1.1.1.2,bt hc.1.1.2.1,bQ hc.1.1.2.2,bt hc.1.2.1,bQ hc.1.2.2,bt hc.2]
    split at hg
    ·rename_i cs hb0;split at hg
     ·rename_i s1 hs1;simp only [a8,bn] at hg;obtain⟨rfl,rfl,rfl⟩:=hg;simp only [bv] at hb;obtain⟨k1,k2,_⟩:=hb;have eF:=mP k1;subst eF;have no:=Fx k2;refine a0j.lay (bs:=[.ro cs]) (args0:=[.agg [.slo 0 0 n 0]]) (bs':=[.ro cs]) (v0:=.b (lY cs)) hfr hs1 aC
       ⟨⟨df hfr hb0,_,hb0,pm bF,fun κ hκ=>pm bF⟩,trivial⟩ BN ?_
       fun κ h1 h2=>⟨⟨pm bF,trivial⟩,ir⟩
      rw [hgl]; exact(OX n cs k2)
     ·cases hg
    ·cases hg
 ·cases hg
def ul:Gc:=fun args s=>match args,s.g with
 | [.agg [.int .i64 op,.int .i64 a,.int .i64 b,.int .i64 c,.int .u64 n]],[(g0,F0),(g1,F1),(g2,F2),(g3,[.fact F])]=>cond (Nat.beq g0 0 && aU F0 cj && (Nat.beq g1 2 && aU F1 cK) && (Nat.beq g2 1 && aU F2 gi) && Nat.beq g3 1000) (some ([dm F,cM op a b c n,ad .leq 0 n,ad .leq n 18446744073709551615],.str (dM op a b c n),s)) none
 | _,_=>none
theorem Jj {f:Nat} (H:∀ op a b c n,cM op a b c n=true→0≤n∧n≤18446744073709551615→a0j prog f [CH op a b c n] (ai [] aq) fun l s=>l=.str (dM op a b c n)∧s=ai [] aq):bX prog f ul:=by
 intro args s bs l s' hg hb hfr;unfold ul at hg;split at hg
 ·rename_i op a b c n g0 F0 g1 F1 g2 F2 g3 F hgl;cases hc:(Nat.beq g0 0 && aU F0 cj && (Nat.beq g1 2 && aU F1 cK) && (Nat.beq g2 1 && aU F2 gi) && Nat.beq g3 1000) with
  | false=>exact eZ
  | true =>
    rw [hc] at hg;simp only [aw,a8,bn] at hg;obtain⟨rfl,rfl,rfl⟩:=hg;simp only [bg] at hc;obtain⟨k1,k2⟩:=bv.1 hb;obtain⟨k2,k3⟩:=bv.1 k2;obtain⟨k3,k4⟩:=bv.1 k3;obtain⟨k4,_⟩:=bv.1 k4;rw [iq,cu] at k3 k4;have eF:=mP k1;subst eF;have e:s.g=aq:=by rw [hgl,bt hc.1.1.1.1,bQ hc.1.1.1.2,bt hc.1.1.2.1,bQ hc.1.1.2.2,bt hc.1.2.1,bQ hc.1.2.2,bt hc.2]
    exact a0j.i3i hfr rfl rfl (by rw [e]; exact H op a b c n k2 ⟨k3,k4⟩)
 ·cases hg
theorem TC:bX prog 27 ul:=Jj Oz
theorem Ti:bX prog 30 ul:=Jj NZ
instance:Inhabited OP:=⟨⟨0,fun _ _ _ _ _=>True,fun h=>absurd h iZ,fun h=>absurd h iZ⟩⟩
def mI:OP:=uC
def qg (F:OP):Bool:=CI F
def HC (T e:Nat):Gc:=fun args s=>match args with
 | [.ptr b 0,.str t]=>(match s.h.get b with
   | some (.obj F [.str l,.int .i64 (.ofNat T'),.int .i64 (.ofNat e')] γ)=>cond (Nat.beq T' T && Nat.beq e' e) (match s.h.get γ with
     | some .dead=>(match s.put b (.obj F [.str (aA l t),.int .i64 (.ofNat T),.int .i64 (.ofNat e)] s.n) with
       | some s1=>(match s1.new .dead with
         | some s2=>some ([qg F,ag (aa (am l) (am t)) 1000000],.tup [.z (am t:Nat),.nilIface],s2)
         | none=>none)
       | none=>none)
     | _=>none) none
   | _=>none)
 | _=>none
def Hz (T e:Nat):Gc:=fun args s=>match args with
 | [.ptr b 0]=>(match s.h.get b with
   | some (.obj F [.str l,.int .i64 (.ofNat T'),.int .i64 (.ofNat e')] γ)=>cond (Nat.beq T' T && Nat.beq e' e) (match s.h.get γ with
     | some .dead=>(match s.put b .dead with
       | some s1=>some ([qg F,ag (am l) 1000000],.str l,s1)
       | none=>none)
     | _=>none) none
   | _=>none)
 | _=>none
def vf:Cx:=eP [(23,Cf),(26,zi),(27,ul),(25,HC 63 5),(28,Hz 63 5)]
def ve:Cx:=eP [(29,DC),(30,ul),(17,jm z6)]
abbrev pW:List Nat:=[1,2,3,6,13,14,15,27,28,29,50]
abbrev sK (n:Nat) (i:Nat):List (Nat×LV):=[(1,.ptr 1 0),(2,.str []),(3,.ptr 2 0),(13,.slo 0 0 n 0),(14,.z n),(15,.z i)]
abbrev qZ (n:Nat) (cs nm:al):a9:=[.ro cs,.cells [.slo 0 0 n 0] none,.cells nm none]
abbrev MZ (l:ap):al:=[.str l,.z (.ofNat 63),.z (.ofNat 5)]
abbrev wM (n:Nat) (i:Nat):List (Nat×LV):=[(1,.ptr 1 0),(2,.str []),(3,.ptr 2 0),(6,.ptr 3 0),(27,.slo 0 0 n 0),(28,.z n),(29,.z i)]
abbrev qY (n:Nat) (cs nm:al) (l:ap):a9:=[.ro cs,.cells [.slo 0 0 n 0] none,.cells nm none,.obj mI (MZ l) 4,.dead]
abbrev uk:List Nat:=[1,2,3,4,6,7,82]
abbrev wH (n:Nat) (i:Nat):List (Nat×LV):=[(1,.ptr 1 0),(2,.str []),(3,.slo 2 0 (n+1) 0),(4,.z i)]
abbrev wG (n:Nat) (t:ap) (i:Nat):List (Nat×LV):=[(1,.ptr 1 0),(2,.str []),(3,.slo 2 0 (n+1) 0),(6,.str t),(7,.z i)]
abbrev oQ (n:Nat) (cs nm:al):a9:=[.ro cs,.cells [.slo 0 0 n 0] none,.cells nm (some 1)]
theorem Oi (n:Nat) (cs:al) (K:Pk):(bc prog vf 40 58 (bS (sp prog 12) 0 5) (cO [.agg [.slo 0 0 n 0]]) (ai [.ro cs] aq) (vK pW K))=(
 ck (dm dZ) <|
 ck (ku n cs) <|
 cond (bu (lY cs)) (K .ret [.ptr 1 0,.str [],.tup [],.tup [],.tup [],.tup [],.tup [],.tup [],.tup [],.tup [],.tup []] [some (.ro cs),sN [.slo 0 0 n 0]] aq) (K .normal [.ptr 1 0,.str [],.ptr 2 0,.tup [],.slo 0 0 n 0,.z ↑n,.z 0,.tup [],.tup [],.tup [],.tup []] [some (.ro cs),sN [.slo 0 0 n 0],sN [.b false,.b false,.b false,.b false,.b false,.b false,.b false,.b false,.b false,.b false,.b false,.b false,.b false,.b false,.b false,.b false,.b false,.b false,.b false,.b false,.b false,.b false,.b false,.b false,.b false,.b false,.b false,.b false,.b false,.b false,.b false,.b false,.b false,.b false,.b false,.b false,.b false,.b false,.b false,.b false,.b false]] aq)):=ak
abbrev vB (n:Nat) (i:Nat) (cs:al) (nm:al):bE:=[some (.ro cs),sN [.slo 0 0 n 0],sN (gt nm (ah 0 (ae (ar (af cs (aa (aa (aa (ah 0 (ae ↑i) 5) 1) 1) 1)))) 1) [.b true]),sN [.z (ar (af cs (ah 0 (ae ↑i) 5))),.z (ar (af cs (aa (ah 0 (ae ↑i) 5) 1))),.z (ar (af cs (aa (aa (ah 0 (ae ↑i) 5) 1) 1))),.z (ar (af cs (aa (aa (aa (ah 0 (ae ↑i) 5) 1) 1) 1))),.int .u64 (ar (af cs (aa (aa (aa (aa (ah 0 (ae ↑i) 5) 1) 1) 1) 1)))]]
theorem Oj (n i:Nat) (cs nm:al) (K:Pk):(aX prog vf 40 58 (ce (bi (sp prog 12) 5)) (aF 58 (sK n i)) (ai (qZ n cs nm) aq) (vK pW K))=(
 cond (ad .lss ↑i ↑n) (ck (ag (aa (ae ↑i) 1) n) <|
 ck (ag (aa (ah 0 (ae ↑i) 5) 5) (aG cs)) <|
 ck (a7 .i64 (af cs (ah 0 (ae ↑i) 5))) <|
 ck (a7 .i64 (af cs (aa (ah 0 (ae ↑i) 5) 1))) <|
 ck (a7 .i64 (af cs (aa (aa (ah 0 (ae ↑i) 5) 1) 1))) <|
 ck (a7 .i64 (af cs (aa (aa (aa (ah 0 (ae ↑i) 5) 1) 1) 1))) <|
 ck (a7 .u64 (af cs (aa (aa (aa (aa (ah 0 (ae ↑i) 5) 1) 1) 1) 1))) <|
 cond (ad .eql (ar (af cs (ah 0 (ae ↑i) 5))) 12) (ck (b9 (ar (af cs (aa (aa (aa (ah 0 (ae ↑i) 5) 1) 1) 1)))) <|
 ck (ag (aa (ae (ar (af cs (aa (aa (aa (ah 0 (ae ↑i) 5) 1) 1) 1)))) 1) 41) <|
 ck (ag (aa (ah 0 (ae (ar (af cs (aa (aa (aa (ah 0 (ae ↑i) 5) 1) 1) 1)))) 1) 1) (aG nm)) <|
 K .normal [.ptr 1 0,.str [],.ptr 2 0,.any,.slo 0 0 n 0,.z ↑n,.z (au .add .i64 (↑i) 1),.any,.any,.any,.any] (vB n i cs nm) aq) (cond (ad .eql (ar (af cs (ah 0 (ae ↑i) 5))) 13) (ck (b9 (ar (af cs (aa (aa (aa (ah 0 (ae ↑i) 5) 1) 1) 1)))) <|
 ck (ag (aa (ae (ar (af cs (aa (aa (aa (ah 0 (ae ↑i) 5) 1) 1) 1)))) 1) 41) <|
 ck (ag (aa (ah 0 (ae (ar (af cs (aa (aa (aa (ah 0 (ae ↑i) 5) 1) 1) 1)))) 1) 1) (aG nm)) <|
 K .normal [.ptr 1 0,.str [],.ptr 2 0,.any,.slo 0 0 n 0,.z ↑n,.z (au .add .i64 (↑i) 1),.any,.any,.any,.any] (vB n i cs nm) aq) (K .normal [.ptr 1 0,.str [],.ptr 2 0,.any,.slo 0 0 n 0,.z ↑n,.z (au .add .i64 (↑i) 1),.any,.any,.any,.any] [some (.ro cs),sN [.slo 0 0 n 0],sN nm,sN [.z (ar (af cs (ah 0 (ae ↑i) 5))),.z (ar (af cs (aa (ah 0 (ae ↑i) 5) 1))),.z (ar (af cs (aa (aa (ah 0 (ae ↑i) 5) 1) 1))),.z (ar (af cs (aa (aa (aa (ah 0 (ae ↑i) 5) 1) 1) 1))),.int .u64 (ar (af cs (aa (aa (aa (aa (ah 0 (ae ↑i) 5) 1) 1) 1) 1)))]] aq))) (K (.exit 0) [.ptr 1 0,.str [],.ptr 2 0,.any,.slo 0 0 n 0,.z ↑n,.z ↑i,.any,.any,.any,.any] [some (.ro cs),sN [.slo 0 0 n 0],sN nm] aq)):=ak
theorem Ol (n:Nat) (cs nm:al) (K:Pk):(bc prog vf 40 58 (bS (sp prog 12) 7 1) (aF 58 [(1,.ptr 1 0),(2,.str []),(3,.ptr 2 0),(6,.ptr 3 0)]) (ai (qY n cs nm []) aq) (vK pW K))=(
 K .normal [.ptr 1 0,.str [],.ptr 2 0,.ptr 3 0,.any,.any,.any,.slo 0 0 n 0,.z ↑n,.z 0,.any] [some (.ro cs),sN [.slo 0 0 n 0],sN nm,some (.obj mI [.str [],.z 63,.z 5] 4),sD] aq):=ak
theorem Om (n i:Nat) (cs nm:al) (l:ap) (K:Pk):(aX prog vf 40 58 (ce (bi (sp prog 12) 8)) (aF 58 (wM n i)) (ai (qY n cs nm l) aq) (vK pW K))=(
 cond (ad .lss ↑i ↑n) (ck (ag (aa (ae ↑i) 1) n) <|
 ck (ag (aa (ah 0 (ae ↑i) 5) 5) (aG cs)) <|
 ck (a7 .i64 (af cs (ah 0 (ae ↑i) 5))) <|
 ck (a7 .i64 (af cs (aa (ah 0 (ae ↑i) 5) 1))) <|
 ck (a7 .i64 (af cs (aa (aa (ah 0 (ae ↑i) 5) 1) 1))) <|
 ck (a7 .i64 (af cs (aa (aa (aa (ah 0 (ae ↑i) 5) 1) 1) 1))) <|
 ck (a7 .u64 (af cs (aa (aa (aa (aa (ah 0 (ae ↑i) 5) 1) 1) 1) 1))) <|
 ck (ag (aa (ae ↑i) 1) 41) <|
 ck (ag (aa (ah 0 (ae ↑i) 1) 1) (aG nm)) <|
 ck (eM (af nm (ah 0 (ae ↑i) 1))) <|
 cond (ba (af nm (ah 0 (ae ↑i) 1))) (ck (ad .leq 0 ↑i) <|
 ck (ad .lss (↑i) 100) <|
 ck (ag (aa (am (108::aE ↑i)) 2) 1000000000) <|
 ck (qg mI) <|
 ck (ag (aa (am l) (am (aA (108::aE ↑i) [58,32]))) 1000000) <|
 ck (dm dZ) <|
 ck (cM (ar (af cs (ah 0 (ae ↑i) 5))) (ar (af cs (aa (ah 0 (ae ↑i) 5) 1))) (ar (af cs (aa (aa (ah 0 (ae ↑i) 5) 1) 1))) (ar (af cs (aa (aa (aa (ah 0 (ae ↑i) 5) 1) 1) 1))) (ar (af cs (aa (aa (aa (aa (ah 0 (ae ↑i) 5) 1) 1) 1) 1)))) <|
 ck (ad .leq 0 (ar (af cs (aa (aa (aa (aa (ah 0 (ae ↑i) 5) 1) 1) 1) 1)))) <|
 ck (ad .leq (ar (af cs (aa (aa (aa (aa (ah 0 (ae ↑i) 5) 1) 1) 1) 1))) 18446744073709551615) <|
 ck (ag (aa (am (dM (ar (af cs (ah 0 (ae ↑i) 5))) (ar (af cs (aa (ah 0 (ae ↑i) 5) 1))) (ar (af cs (aa (aa (ah 0 (ae ↑i) 5) 1) 1))) (ar (af cs (aa (aa (aa (ah 0 (ae ↑i) 5) 1) 1) 1))) (ar (af cs (aa (aa (aa (aa (ah 0 (ae ↑i) 5) 1) 1) 1) 1))))) 1) 1000000000) <|
 ck (qg mI) <|
 ck (ag (aa (am (aA l (aA (108::aE ↑i) [58,32]))) (am (aA (dM (ar (af cs (ah 0 (ae ↑i) 5))) (ar (af cs (aa (ah 0 (ae ↑i) 5) 1))) (ar (af cs (aa (aa (ah 0 (ae ↑i) 5) 1) 1))) (ar (af cs (aa (aa (aa (ah 0 (ae ↑i) 5) 1) 1) 1))) (ar (af cs (aa (aa (aa (aa (ah 0 (ae ↑i) 5) 1) 1) 1) 1)))) [10]))) 1000000) <|
 K .normal [.ptr 1 0,.str [],.ptr 2 0,.ptr 3 0,.any,.any,.any,.slo 0 0 n 0,.z ↑n,.z (au .add .i64 (↑i) 1),.any] [some (.ro cs),sN [.slo 0 0 n 0],sN nm,some (.obj mI [.str (aA (aA l (aA (108::aE ↑i) [58,32])) (aA (dM (ar (af cs (ah 0 (ae ↑i) 5))) (ar (af cs (aa (ah 0 (ae ↑i) 5) 1))) (ar (af cs (aa (aa (ah 0 (ae ↑i) 5) 1) 1))) (ar (af cs (aa (aa (aa (ah 0 (ae ↑i) 5) 1) 1) 1))) (ar (af cs (aa (aa (aa (aa (ah 0 (ae ↑i) 5) 1) 1) 1) 1)))) [10])),.z 63,.z 5] 7),sD,sN [.z (ar (af cs (ah 0 (ae ↑i) 5))),.z (ar (af cs (aa (ah 0 (ae ↑i) 5) 1))),.z (ar (af cs (aa (aa (ah 0 (ae ↑i) 5) 1) 1))),.z (ar (af cs (aa (aa (aa (ah 0 (ae ↑i) 5) 1) 1) 1))),.int .u64 (ar (af cs (aa (aa (aa (aa (ah 0 (ae ↑i) 5) 1) 1) 1) 1)))],sD,sD] aq) (ck (dm dZ) <|
 ck (cM (ar (af cs (ah 0 (ae ↑i) 5))) (ar (af cs (aa (ah 0 (ae ↑i) 5) 1))) (ar (af cs (aa (aa (ah 0 (ae ↑i) 5) 1) 1))) (ar (af cs (aa (aa (aa (ah 0 (ae ↑i) 5) 1) 1) 1))) (ar (af cs (aa (aa (aa (aa (ah 0 (ae ↑i) 5) 1) 1) 1) 1)))) <|
 ck (ad .leq 0 (ar (af cs (aa (aa (aa (aa (ah 0 (ae ↑i) 5) 1) 1) 1) 1)))) <|
 ck (ad .leq (ar (af cs (aa (aa (aa (aa (ah 0 (ae ↑i) 5) 1) 1) 1) 1))) 18446744073709551615) <|
 ck (ag (aa (am (dM (ar (af cs (ah 0 (ae ↑i) 5))) (ar (af cs (aa (ah 0 (ae ↑i) 5) 1))) (ar (af cs (aa (aa (ah 0 (ae ↑i) 5) 1) 1))) (ar (af cs (aa (aa (aa (ah 0 (ae ↑i) 5) 1) 1) 1))) (ar (af cs (aa (aa (aa (aa (ah 0 (ae ↑i) 5) 1) 1) 1) 1))))) 1) 1000000000) <|
 ck (qg mI) <|
 ck (ag (aa (am l) (am (aA (dM (ar (af cs (ah 0 (ae ↑i) 5))) (ar (af cs (aa (ah 0 (ae ↑i) 5) 1))) (ar (af cs (aa (aa (ah 0 (ae ↑i) 5) 1) 1))) (ar (af cs (aa (aa (aa (ah 0 (ae ↑i) 5) 1) 1) 1))) (ar (af cs (aa (aa (aa (aa (ah 0 (ae ↑i) 5) 1) 1) 1) 1)))) [10]))) 1000000) <|
 K .normal [.ptr 1 0,.str [],.ptr 2 0,.ptr 3 0,.any,.any,.any,.slo 0 0 n 0,.z ↑n,.z (au .add .i64 (↑i) 1),.any] [some (.ro cs),sN [.slo 0 0 n 0],sN nm,some (.obj mI [.str (aA l (aA (dM (ar (af cs (ah 0 (ae ↑i) 5))) (ar (af cs (aa (ah 0 (ae ↑i) 5) 1))) (ar (af cs (aa (aa (ah 0 (ae ↑i) 5) 1) 1))) (ar (af cs (aa (aa (aa (ah 0 (ae ↑i) 5) 1) 1) 1))) (ar (af cs (aa (aa (aa (aa (ah 0 (ae ↑i) 5) 1) 1) 1) 1)))) [10])),.z 63,.z 5] 6),sD,sN [.z (ar (af cs (ah 0 (ae ↑i) 5))),.z (ar (af cs (aa (ah 0 (ae ↑i) 5) 1))),.z (ar (af cs (aa (aa (ah 0 (ae ↑i) 5) 1) 1))),.z (ar (af cs (aa (aa (aa (ah 0 (ae ↑i) 5) 1) 1) 1))),.int .u64 (ar (af cs (aa (aa (aa (aa (ah 0 (ae ↑i) 5) 1) 1) 1) 1)))],sD] aq)) (K (.exit 2) [.ptr 1 0,.str [],.ptr 2 0,.ptr 3 0,.any,.any,.any,.slo 0 0 n 0,.z ↑n,.z ↑i,.any] [some (.ro cs),sN [.slo 0 0 n 0],sN nm,some (.obj mI [.str l,.z 63,.z 5] 4),sD] aq)):=ak
theorem On (n:Nat) (cs nm:al) (l:ap) (K:Pk):(bc prog vf 40 58 ((sp prog 12).drop 9) (aF 58 (wM n n)) (ai (qY n cs nm l) aq) (vK pW K))=(
 ck (ag (aa (ae ↑n) 1) 41) <|
 ck (ag (aa (ah 0 (ae ↑n) 1) 1) (aG nm)) <|
 ck (eM (af nm (ah 0 (ae ↑n) 1))) <|
 cond (ba (af nm (ah 0 (ae ↑n) 1))) (ck (ad .leq 0 ↑n) <|
 ck (ad .lss (↑n) 100) <|
 ck (ag (aa (am (108::aE ↑n)) 2) 1000000000) <|
 ck (qg mI) <|
 ck (ag (aa (am l) (am (aA (108::aE ↑n) [58,10]))) 1000000) <|
 ck (qg mI) <|
 ck (ag (am (aA l (aA (108::aE ↑n) [58,10]))) 1000000) <|
 K .ret [.ptr 1 0,.str (aA l (aA (108::aE ↑n) [58,10])),.ptr 2 0,.ptr 3 0,.any,.any,.any,.slo 0 0 n 0,.z ↑n,.z ↑n,.b (ba (af nm (ah 0 (ae ↑n) 1)))] [some (.ro cs),sN [.slo 0 0 n 0],sN nm,sD,sD,sD] aq) (ck (qg mI) <|
 ck (ag (am l) 1000000) <|
 K .ret [.ptr 1 0,.str l,.ptr 2 0,.ptr 3 0,.any,.any,.any,.slo 0 0 n 0,.z ↑n,.z ↑n,.b (ba (af nm (ah 0 (ae ↑n) 1)))] [some (.ro cs),sN [.slo 0 0 n 0],sN nm,sD,sD] aq)):=ak
theorem Pc (n:Nat) (cs:al) (K:Pk):(bc prog ve 40 93 (bS (sp prog 13) 0 5) (cO [.agg [.slo 0 0 n 0]]) (ai [.ro cs] aq) (vK uk K))=(
 cond (ad .gtr (↑n) 40) (K .ret [.ptr 1 0,.str [],.tup [],.tup [],.tup [],.tup [],.tup []] [some (.ro cs),sN [.slo 0 0 n 0]] aq) (ck (b9 (au .add .i64 (↑n) 1)) <|
 ck (b9 (au .add .i64 (↑n) 1)) <|
 ck (ag (ae (au .add .i64 (↑n) 1)) (ae (au .add .i64 (↑n) 1))) <|
 ck (ag (ae (au .add .i64 (↑n) 1)) 100000) <|
 K .normal [.ptr 1 0,.str [],.sl 2 0 (ae (au .add .i64 (↑n) 1)) (ae (au .add .i64 (↑n) 1)),.z 0,.tup [],.tup [],.tup []] [some (.ro cs),sN [.slo 0 0 n 0],sN (tg (ae (au .add .i64 (↑n) 1)) [.b false])] aq)):=ak
abbrev oy (n:Nat) (i:Nat) (cs:al) (nm:al):bE:=[some (.ro cs),sN [.slo 0 0 n 0],sC nm 1,sN [.z (ar (af cs (ah 0 (ae ↑i) 5))),.z (ar (af cs (aa (ah 0 (ae ↑i) 5) 1))),.z (ar (af cs (aa (aa (ah 0 (ae ↑i) 5) 1) 1))),.z (ar (af cs (aa (aa (aa (ah 0 (ae ↑i) 5) 1) 1) 1))),.int .u64 (ar (af cs (aa (aa (aa (aa (ah 0 (ae ↑i) 5) 1) 1) 1) 1)))]]
abbrev qz (n:Nat) (i:Nat) (cs:al) (nm:al):bE:=[some (.ro cs),sN [.slo 0 0 n 0],sC (gt nm (ah 0 (ae (ar (af cs (aa (aa (aa (ah 0 (ae ↑i) 5) 1) 1) 1)))) 1) [.b true]) 1,sN [.z (ar (af cs (ah 0 (ae ↑i) 5))),.z (ar (af cs (aa (ah 0 (ae ↑i) 5) 1))),.z (ar (af cs (aa (aa (ah 0 (ae ↑i) 5) 1) 1))),.z (ar (af cs (aa (aa (aa (ah 0 (ae ↑i) 5) 1) 1) 1))),.int .u64 (ar (af cs (aa (aa (aa (aa (ah 0 (ae ↑i) 5) 1) 1) 1) 1)))]]
theorem Pd (n i:Nat) (cs nm:al) (K:Pk):(aX prog ve 40 93 (ce (bi (sp prog 13) 5)) (aF 93 (wH n i)) (ai (oQ n cs nm) aq) (vK uk K))=(
 cond (ad .lss ↑i ↑n) (ck (ag (aa (ae ↑i) 1) n) <|
 ck (ag (aa (ah 0 (ae ↑i) 5) 5) (aG cs)) <|
 ck (a7 .i64 (af cs (ah 0 (ae ↑i) 5))) <|
 ck (a7 .i64 (af cs (aa (ah 0 (ae ↑i) 5) 1))) <|
 ck (a7 .i64 (af cs (aa (aa (ah 0 (ae ↑i) 5) 1) 1))) <|
 ck (a7 .i64 (af cs (aa (aa (aa (ah 0 (ae ↑i) 5) 1) 1) 1))) <|
 ck (a7 .u64 (af cs (aa (aa (aa (aa (ah 0 (ae ↑i) 5) 1) 1) 1) 1))) <|
 cond (bu (cM (ar (af cs (ah 0 (ae ↑i) 5))) (ar (af cs (aa (ah 0 (ae ↑i) 5) 1))) (ar (af cs (aa (aa (ah 0 (ae ↑i) 5) 1) 1))) (ar (af cs (aa (aa (aa (ah 0 (ae ↑i) 5) 1) 1) 1))) (ar (af cs (aa (aa (aa (aa (ah 0 (ae ↑i) 5) 1) 1) 1) 1))))) (K .ret [.ptr 1 0,.str [],.slo 2 0 (n+1) 0,.z ↑i,.any,.any,.any] (oy n i cs nm) aq) (cond (ad .eql (ar (af cs (ah 0 (ae ↑i) 5))) 12) (cond (ad .gtr (ar (af cs (aa (aa (aa (ah 0 (ae ↑i) 5) 1) 1) 1))) ↑n) (K .ret [.ptr 1 0,.str [],.slo 2 0 (n+1) 0,.z ↑i,.any,.any,.any] (oy n i cs nm) aq) (ck (b9 (ar (af cs (aa (aa (aa (ah 0 (ae ↑i) 5) 1) 1) 1)))) <|
 ck (ag (aa (ae (ar (af cs (aa (aa (aa (ah 0 (ae ↑i) 5) 1) 1) 1)))) 1) (n+1)) <|
 ck (ag (aa (ah 0 (ae (ar (af cs (aa (aa (aa (ah 0 (ae ↑i) 5) 1) 1) 1)))) 1) 1) (aG nm)) <|
 K .normal [.ptr 1 0,.str [],.slo 2 0 (n+1) 0,.z (au .add .i64 (↑i) 1),.any,.any,.any] (qz n i cs nm) aq)) (cond (ad .eql (ar (af cs (ah 0 (ae ↑i) 5))) 13) (cond (ad .gtr (ar (af cs (aa (aa (aa (ah 0 (ae ↑i) 5) 1) 1) 1))) ↑n) (K .ret [.ptr 1 0,.str [],.slo 2 0 (n+1) 0,.z ↑i,.any,.any,.any] (oy n i cs nm) aq) (ck (b9 (ar (af cs (aa (aa (aa (ah 0 (ae ↑i) 5) 1) 1) 1)))) <|
 ck (ag (aa (ae (ar (af cs (aa (aa (aa (ah 0 (ae ↑i) 5) 1) 1) 1)))) 1) (n+1)) <|
 ck (ag (aa (ah 0 (ae (ar (af cs (aa (aa (aa (ah 0 (ae ↑i) 5) 1) 1) 1)))) 1) 1) (aG nm)) <|
 K .normal [.ptr 1 0,.str [],.slo 2 0 (n+1) 0,.z (au .add .i64 (↑i) 1),.any,.any,.any] (qz n i cs nm) aq)) (K .normal [.ptr 1 0,.str [],.slo 2 0 (n+1) 0,.z (au .add .i64 (↑i) 1),.any,.any,.any] (oy n i cs nm) aq)))) (K (.exit 0) [.ptr 1 0,.str [],.slo 2 0 (n+1) 0,.z ↑i,.any,.any,.any] [some (.ro cs),sN [.slo 0 0 n 0],sC nm 1] aq)):=ak
theorem Pe (n:Nat) (cs nm:al) (K:Pk):(bc prog ve 40 93 (bS (sp prog 13) 6 2) (aF 93 (wH n n)) (ai (oQ n cs nm) aq) (vK uk K))=(
 K .normal [.ptr 1 0,.str [],.slo 2 0 (n+1) 0,.z ↑n,.str [],.z 0,.any] [some (.ro cs),sN [.slo 0 0 n 0],sC nm 1] aq):=ak
theorem Pf (n i:Nat) (cs nm:al) (t:ap) (K:Pk):(aX prog ve 40 93 (ce (bi (sp prog 13) 8)) (aF 93 (wG n t i)) (ai (oQ n cs nm) aq) (vK uk K))=(
 cond (ad .lss ↑i ↑n) (ck (ag (aa (ae ↑i) 1) (n+1)) <|
 ck (ag (aa (ah 0 (ae ↑i) 1) 1) (aG nm)) <|
 ck (eM (af nm (ah 0 (ae ↑i) 1))) <|
 cond (ba (af nm (ah 0 (ae ↑i) 1))) (ck (ag (aa (am t) 1) 1000000000) <|
 ck (ad .leq 0 (ay .u64 ↑i)) <|
 ck (ad .leq (ay .u64 ↑i) 18446744073709551615) <|
 ck (ag (aa (am (aA t [108])) (am (aE (ay .u64 ↑i)))) 1000000000) <|
 ck (ag (aa (am (aA (aA t [108]) (aE (ay .u64 ↑i)))) 2) 1000000000) <|
 ck (ag (aa (ae ↑i) 1) n) <|
 ck (ag (aa (ah 0 (ae ↑i) 5) 5) (aG cs)) <|
 ck (a7 .i64 (af cs (ah 0 (ae ↑i) 5))) <|
 ck (a7 .i64 (af cs (aa (ah 0 (ae ↑i) 5) 1))) <|
 ck (a7 .i64 (af cs (aa (aa (ah 0 (ae ↑i) 5) 1) 1))) <|
 ck (a7 .i64 (af cs (aa (aa (aa (ah 0 (ae ↑i) 5) 1) 1) 1))) <|
 ck (a7 .u64 (af cs (aa (aa (aa (aa (ah 0 (ae ↑i) 5) 1) 1) 1) 1))) <|
 ck (dm dZ) <|
 ck (cM (ar (af cs (ah 0 (ae ↑i) 5))) (ar (af cs (aa (ah 0 (ae ↑i) 5) 1))) (ar (af cs (aa (aa (ah 0 (ae ↑i) 5) 1) 1))) (ar (af cs (aa (aa (aa (ah 0 (ae ↑i) 5) 1) 1) 1))) (ar (af cs (aa (aa (aa (aa (ah 0 (ae ↑i) 5) 1) 1) 1) 1)))) <|
 ck (ad .leq 0 (ar (af cs (aa (aa (aa (aa (ah 0 (ae ↑i) 5) 1) 1) 1) 1)))) <|
 ck (ad .leq (ar (af cs (aa (aa (aa (aa (ah 0 (ae ↑i) 5) 1) 1) 1) 1))) 18446744073709551615) <|
 ck (ag (aa (am (aA (aA (aA t [108]) (aE (ay .u64 ↑i))) [58,32])) (am (dM (ar (af cs (ah 0 (ae ↑i) 5))) (ar (af cs (aa (ah 0 (ae ↑i) 5) 1))) (ar (af cs (aa (aa (ah 0 (ae ↑i) 5) 1) 1))) (ar (af cs (aa (aa (aa (ah 0 (ae ↑i) 5) 1) 1) 1))) (ar (af cs (aa (aa (aa (aa (ah 0 (ae ↑i) 5) 1) 1) 1) 1)))))) 1000000000) <|
 ck (ag (aa (am (aA (aA (aA (aA t [108]) (aE (ay .u64 ↑i))) [58,32]) (dM (ar (af cs (ah 0 (ae ↑i) 5))) (ar (af cs (aa (ah 0 (ae ↑i) 5) 1))) (ar (af cs (aa (aa (ah 0 (ae ↑i) 5) 1) 1))) (ar (af cs (aa (aa (aa (ah 0 (ae ↑i) 5) 1) 1) 1))) (ar (af cs (aa (aa (aa (aa (ah 0 (ae ↑i) 5) 1) 1) 1) 1)))))) 1) 1000000000) <|
 K .normal [.ptr 1 0,.str [],.slo 2 0 (n+1) 0,.any,.str (aA (aA (aA (aA (aA t [108]) (aE (ay .u64 ↑i))) [58,32]) (dM (ar (af cs (ah 0 (ae ↑i) 5))) (ar (af cs (aa (ah 0 (ae ↑i) 5) 1))) (ar (af cs (aa (aa (ah 0 (ae ↑i) 5) 1) 1))) (ar (af cs (aa (aa (aa (ah 0 (ae ↑i) 5) 1) 1) 1))) (ar (af cs (aa (aa (aa (aa (ah 0 (ae ↑i) 5) 1) 1) 1) 1))))) [10]),.z (au .add .i64 (↑i) 1),.any] [some (.ro cs),sN [.slo 0 0 n 0],sC nm 1] aq) (ck (ag (aa (ae ↑i) 1) n) <|
 ck (ag (aa (ah 0 (ae ↑i) 5) 5) (aG cs)) <|
 ck (a7 .i64 (af cs (ah 0 (ae ↑i) 5))) <|
 ck (a7 .i64 (af cs (aa (ah 0 (ae ↑i) 5) 1))) <|
 ck (a7 .i64 (af cs (aa (aa (ah 0 (ae ↑i) 5) 1) 1))) <|
 ck (a7 .i64 (af cs (aa (aa (aa (ah 0 (ae ↑i) 5) 1) 1) 1))) <|
 ck (a7 .u64 (af cs (aa (aa (aa (aa (ah 0 (ae ↑i) 5) 1) 1) 1) 1))) <|
 ck (dm dZ) <|
 ck (cM (ar (af cs (ah 0 (ae ↑i) 5))) (ar (af cs (aa (ah 0 (ae ↑i) 5) 1))) (ar (af cs (aa (aa (ah 0 (ae ↑i) 5) 1) 1))) (ar (af cs (aa (aa (aa (ah 0 (ae ↑i) 5) 1) 1) 1))) (ar (af cs (aa (aa (aa (aa (ah 0 (ae ↑i) 5) 1) 1) 1) 1)))) <|
 ck (ad .leq 0 (ar (af cs (aa (aa (aa (aa (ah 0 (ae ↑i) 5) 1) 1) 1) 1)))) <|
 ck (ad .leq (ar (af cs (aa (aa (aa (aa (ah 0 (ae ↑i) 5) 1) 1) 1) 1))) 18446744073709551615) <|
 ck (ag (aa (am t) (am (dM (ar (af cs (ah 0 (ae ↑i) 5))) (ar (af cs (aa (ah 0 (ae ↑i) 5) 1))) (ar (af cs (aa (aa (ah 0 (ae ↑i) 5) 1) 1))) (ar (af cs (aa (aa (aa (ah 0 (ae ↑i) 5) 1) 1) 1))) (ar (af cs (aa (aa (aa (aa (ah 0 (ae ↑i) 5) 1) 1) 1) 1)))))) 1000000000) <|
 ck (ag (aa (am (aA t (dM (ar (af cs (ah 0 (ae ↑i) 5))) (ar (af cs (aa (ah 0 (ae ↑i) 5) 1))) (ar (af cs (aa (aa (ah 0 (ae ↑i) 5) 1) 1))) (ar (af cs (aa (aa (aa (ah 0 (ae ↑i) 5) 1) 1) 1))) (ar (af cs (aa (aa (aa (aa (ah 0 (ae ↑i) 5) 1) 1) 1) 1)))))) 1) 1000000000) <|
 K .normal [.ptr 1 0,.str [],.slo 2 0 (n+1) 0,.any,.str (aA (aA t (dM (ar (af cs (ah 0 (ae ↑i) 5))) (ar (af cs (aa (ah 0 (ae ↑i) 5) 1))) (ar (af cs (aa (aa (ah 0 (ae ↑i) 5) 1) 1))) (ar (af cs (aa (aa (aa (ah 0 (ae ↑i) 5) 1) 1) 1))) (ar (af cs (aa (aa (aa (aa (ah 0 (ae ↑i) 5) 1) 1) 1) 1))))) [10]),.z (au .add .i64 (↑i) 1),.any] [some (.ro cs),sN [.slo 0 0 n 0],sC nm 1] aq)) (K (.exit 2) [.ptr 1 0,.str [],.slo 2 0 (n+1) 0,.any,.str t,.z ↑i,.any] [some (.ro cs),sN [.slo 0 0 n 0],sC nm 1] aq)):=ak
theorem Pg (n:Nat) (cs nm:al) (t:ap) (K:Pk):(bc prog ve 40 93 ((sp prog 13).drop 9) (aF 93 (wG n t n)) (ai (oQ n cs nm) aq) (vK uk K))=(
 ck (ag (aa (ae ↑n) 1) (n+1)) <|
 ck (ag (aa (ah 0 (ae ↑n) 1) 1) (aG nm)) <|
 ck (eM (af nm (ah 0 (ae ↑n) 1))) <|
 cond (ba (af nm (ah 0 (ae ↑n) 1))) (ck (ag (aa (am t) 1) 1000000000) <|
 ck (ad .leq 0 (ay .u64 ↑n)) <|
 ck (ad .leq (ay .u64 ↑n) 18446744073709551615) <|
 ck (ag (aa (am (aA t [108])) (am (aE (ay .u64 ↑n)))) 1000000000) <|
 ck (ag (aa (am (aA (aA t [108]) (aE (ay .u64 ↑n)))) 2) 1000000000) <|
 K .ret [.ptr 1 0,.str (aA (aA (aA t [108]) (aE (ay .u64 ↑n))) [58,10]),.slo 2 0 (n+1) 0,.any,.str (aA (aA (aA t [108]) (aE (ay .u64 ↑n))) [58,10]),.z ↑n,.b (ba (af nm (ah 0 (ae ↑n) 1)))] [some (.ro cs),sN [.slo 0 0 n 0],sC nm 1] aq) (K .ret [.ptr 1 0,.str t,.slo 2 0 (n+1) 0,.any,.str t,.z ↑n,.b (ba (af nm (ah 0 (ae ↑n) 1)))] [some (.ro cs),sN [.slo 0 0 n 0],sC nm 1] aq)):=ak
def dA (L:List bo) (j:Nat):Bool:=L.any fun x=>decide (x.op=12∨x.op=13) && decide (x.c=(j:Int))
abbrev gr (L:List bo) (i:Nat):Nat→Bool:=fun j=>dA (L.take i) j
theorem Kk (L:List bo) (j:Nat):gr L 0 j=false:=by simp [gr,dA]
theorem Ki (L:List bo):gr L L.length=dA L:=funext fun j=>by simp [gr]
theorem Kj {L:List bo} {i:Nat} (h:i < L.length) (j:Nat):gr L (i+1) j=(gr L i j || (decide (L[i].op=12∨L[i].op=13) && decide (L[i].c=(j:Int)))):=by
 show dA (L.take (i+1)) j=_;rw [List.take_add_one,cq h];simp only [Option.toList_some,dA,List.any_append,List.any_cons,List.any_nil,Bool.or_false]
theorem HW {L:List bo} {i:Nat} (h:i < L.length) (hn:¬ (L[i].op=12∨L[i].op=13)) (N:Nat):cS cB N (gr L (i+1))=cS cB N (gr L i) :=
 A3 fun j _=>by rw [Kj h,decide_eq_false hn,Bool.false_and,Bool.or_false]
theorem Ag {L:List bo} {i m N:Nat} (h:i < L.length) (hn:L[i].op=12∨L[i].op=13) (hc:L[i].c=(m:Int)) (hm:m < N):gt (cS cB N (gr L i)) m [.b true]=cS cB N (gr L (i+1)):=by
 rw [Sh _ _ hm];refine A3 fun j _=>?_
 rw [Kj h,decide_eq_true hn,li,hc];by_cases e:j=m
 ·subst e; rw [Wi,decide_eq_true rfl,Bool.or_true]
 ·rw [Ud _ _ e,decide_eq_false (fun k=>e ab),Bool.or_false]
abbrev zh (x:bo):ap:=dM x.op x.a x.b x.c x.n
def nX (b:Bool) (k:Nat) (s:ap):ap:=if b=true then(108::aE (k:Int))++s else []
def dD (L:List bo):Nat→ap
 | 0=>[]
 | k+1=>(dD L k++nX (dA L k) k [58,32])++(match L[k]? with
   | some x=>zh x++[10]
   | none=>[])
theorem vX {L:List bo} {k:Nat} (h:k < L.length):dD L (k+1)=(dD L k++nX (dA L k) k [58,32])++(zh L[k]++[10]):=by
 rw [dD,cq h]
def lH (L:List bo):ap:=dD L L.length++nX (dA L L.length) L.length [58,10]
def bJ (cs:al):ap:=@ite _ (jd (tj cs)) (Classical.propDecidable _) (lH (tj cs)) []
theorem AA {L:List bo} (h:jd L):bJ (aj aW L)=lH L:=by rw [bJ,vU,aB h]
theorem Fg {L:List bo} (h:¬ jd L):bJ (aj aW L)=[]:=by rw [bJ,vU,av h]
theorem E9 {op a b c n:Int} (h:cM op a b c n=true) (hn:0≤n∧n≤18446744073709551615):(dM op a b c n).length≤160:=by
 obtain⟨⟨o1,o2⟩,⟨a1,a2⟩,⟨b1,b2⟩,c1,c2⟩:=uZ h;have sa:=qt (s:=fA op) a1 ab; have sb:=qt (s:=fB op) b1 ab; have sc:=qt (s:=fC op) c1 ab; have sd:=qt (s:=fD op) hn.1 hn.2;have ln:=Fa op;unfold dM;simp only [cg];omega
theorem U_ (b:Bool) (k:Nat) (hk:k≤100) (x y:UInt8):(nX b k [x,y]).length≤30:=by
 have:=mg (n:=(k:Int)) ab ab;unfold nX; split <;> simp <;> omega
theorem DY {x:bo} (h:jU x):0≤x.n∧x.n≤18446744073709551615:=by
 simp only [jU] at h;have h1:=h.2.2.2.2;simpa [IntKind.min,IntKind.max,IntKind.signed,IntKind.bits] using h1
theorem yo {L:List bo} (h:jd L) (hb:∀ x∈L,jU x):∀ k,k≤L.length→(dD L k).length≤k * 250
 | 0,_=>by simp [dD]
 | k+1,hk=>by
   have ih:=yo h hb k ab;have h40:=h.1;have hm:=iw (l:=L) (n:=k) ab;have l1:(zh L[k]).length≤160:=E9 (h.2 _ hm).1 (DY (hb _ hm));have l2:=U_ (dA L k) k ab 58 32;rw [vX ab];simp only [cg,cZ,eU];omega
theorem IP:mO prog 63=some (.agg #[.pointer none,.slice none 0 0]):=ak
theorem AZ {s:St} {c:Nat} (h:c < s.n):ky (fK s) c=s.h.get c:=by
 unfold ky fK; rw [yF,aB h]; simp
theorem VI:bX prog 25 (HC 63 5):=IG
theorem VC:bX prog 28 (Hz 63 5):=IA
theorem xG:cT prog (cv vf):=fQ ⟨TF,Il,TC,VI,VC,trivial⟩
theorem xH:cT prog (cv ve):=fQ ⟨V7,Ti,ju H_,trivial⟩
theorem VK {n:Nat} {cs nm:al} (nc:a1u cs=true) (nn:a1u nm=true) {Φ : Pk} (h2:SSp prog 58 ((sp prog 12).drop 7) 1 (aF 58 [(1,.ptr 1 0),(2,.str []),(3,.ptr 2 0),(6,.ptr 3 0)]) (ai (qY n cs nm []) aq) (vK pW Φ)) :
  SSp prog 58 ((sp prog 12).drop 6) 1 (aF 58 (sK n n)) (ai (qZ n cs nm) aq) (vK pW Φ):=by
 rw [oA _ 6 (by decide +kernel)];obtain⟨⟨tm',s'⟩,ha⟩:∃ x,vg 63 5 58 6 (aF 58 (sK n n)) (ai (qZ n cs nm) aq)=some x:=Option.isSome_iff_exists.1 ak;refine Ll ak IP (bh (aS rfl)) ha ?_;have ha2:=ha;unfold vg at ha2;split at ha2
 case h_2=>cases ha2
 rename_i s1 e1;split at ha2
 case h_2=>cases ha2
 rename_i s2 e2;split at ha2
 case h_2=>cases ha2
 rename_i tm2 e3;simp only [a8,bn] at ha2;obtain⟨rfl,rfl⟩:=ha2;obtain⟨n1,g1⟩:=St.i4g e1;obtain⟨n2,g2⟩:=St.i4g e2;obtain⟨_,p2⟩:=pD e3;have hn0:(ai (qZ n cs nm) aq).n=3:=by rw [cN]; rfl
 have hn:s2.n=5:=ab;have hget:∀ m,s2.h.get m=if m=4 then some .dead else if m=3 then some (.obj uC (lF [] 63 5) 4) else(qZ n cs nm)[m]?:=fun m=>by
  rw [g2,g1,n1,hn0,b8]
 have ht:∀ t,t < 58→aQ tm2 t=if t=6 then .ptr 3 0 else kC (sK n n) t:=fun t h=>by
  rw [p2,oC,aB h,hn0];by_cases e:t=6
  ·subst e; rfl
  ·rw [av e,av (fun k=>e (by simpa using k.symm))]
 have k:=Ee (nt:=58) (n0:=1) (l:=(sp prog 12).drop 7) (L:=pW) (g:=aq) (T:=fun _:Unit=>[(1,.ptr 1 0),(2,.str []),(3,.ptr 2 0),(6,.ptr 3 0)]) (H:=fun _=>qY n cs nm []) (Φ:=Φ)
  (fun e=>by have h3:((sp prog 12).drop 7).isEmpty=true:=by rw [e]; rfl
             have h4:((sp prog 12).drop 7).isEmpty=false:=ak;rw [h3] at h4; cases h4) (fun _=>h2) (x:=.normal) (tm:=tm2) (s:=s2)
  ⟨by rw [St.i4a e2,St.i4a e1]; rfl,(),[.id 0,.id 1,.id 2,.id 3,.id 4],ak,?_,?_⟩
 ·exact k
 ·refine⟨?_,?_,?_,?_,trivial⟩
  ·show LVW _ _ (aQ tm2 1); rw [ht 1 ab,av ab]; show LVW _ (.ptr 1 0) (.ptr 1 0); simp [LVW,dt]
  ·show LVW _ _ (aQ tm2 2); rw [ht 2 ab,av ab]; show LVW _ (.str []) (.str []); simp only [LVW]
  ·show LVW _ _ (aQ tm2 3); rw [ht 3 ab,av ab]; show LVW _ (.ptr 2 0) (.ptr 2 0); simp [LVW,dt]
  ·show LVW _ _ (aQ tm2 6); rw [ht 6 ab]; simp [LVW,dt]
 ·refine⟨?_,?_,?_,?_,?_,trivial⟩
  ·show LBW _ _ _ (ky (fK s2) 0); rw [AZ ab,hget]; exact pm nc
  ·show LBW _ _ _ (ky (fK s2) 1); rw [AZ ab,hget]; show LBW _ _ _ (some (.cells [.slo 0 0 n 0] none)); simp [LBW,CW,a7h,LVW,dt]
  ·show LBW _ _ _ (ky (fK s2) 2); rw [AZ ab,hget]; exact be nn
  ·show LBW _ _ _ (ky (fK s2) 3); rw [AZ ab,hget]; exact gx rfl
  ·show LBW _ _ _ _; simp only [LBW]
theorem Ad {b:Bool} {k:Nat} {s:ap} (h:b=true):nX b k s=(108::aE (k:Int))++s:=by unfold nX; rw [aB h]
theorem Ac {b:Bool} {k:Nat} {s:ap} (h:b=false):nX b k s=[]:=by unfold nX; rw [av (by rw [h]; decide)]
theorem Ut:qg mI=true:=rfl
set_option maxHeartbeats 8000000 in
theorem Vm (L:List bo) (hb:∀ x∈L,jU x):a0j prog 12 [.agg [.slo 0 0 L.length 0]] (ai [.ro (aj aW L)] aq) fun l s=>l=.str (bJ (aj aW L))∧s=ai [.ro (aj aW L)] aq:=by
 refine a0j.mono (a0j.i3y (Q:=fun l b'=>l=.str (bJ (aj aW L))∧b'=[.ro (aj aW L)]) 58 1 pW [2] ak rfl rfl rfl ?_) fun l s' ⟨b0,⟨h1,h2⟩,h3⟩=>⟨h1,by rw [h3,h2]⟩
 have nls:a1u (aj aW L)=true:=oE L;have nnm:∀ g:Nat→Bool,a1u (cS cB 41 g)=true:=fun g=>Fb 41 g
 have f1:=qG;have k1:ku L.length (aj aW L)=true:=vP.2 ⟨L,rfl,rfl,hb⟩;have b1:=Ut;refine SSp.to xG (n:=40) (g:=aq) 5 5 rfl (σ:={_u:Unit // jd L}) (fun _=>sK L.length 0) (fun _=>qZ L.length (aj aW L) (cS cB 41 (gr L 0))) (bh (aS rfl)) ak ?_ fun⟨_,hok⟩=>?_
 ·have e0:cS cB 41 (gr L 0)=cS cB 41 fun _=>false:=A3 fun j _=>Kk L j
  have n0:a1u (cS cB 41 fun _=>false)=true:=Fb 41 _;rw [Oi,f1,k1];cases hp:lY (aj aW L) with
  | false =>
    have hno:¬ jd L:=fun h=>by rw [(Az L).2 h] at hp; cases hp
    exact GJ
  | true =>
    refine⟨rfl,⟨(),(Az L).1 hp⟩,[.id 0,.id 1,.id 2],?_⟩;dsimp only;rw [e0];exact⟨ak,⟨by show LVW _ (.ptr 1 0) (.ptr 1 0); simp [LVW,dt],by show LVW _ (.str []) (.str []); simp only [LVW],by show LVW _ (.ptr 2 0) (.ptr 2 0); simp [LVW,dt],by show LVW _ (.slo 0 0 L.length 0) (.slo 0 0 L.length 0); simp [LVW,dt],by show LVW _ (.z (L.length:Int)) (.z (L.length:Int)); simp only [LVW]; exact⟨trivial,trivial⟩,by show LVW _ (.z 0) (.z 0); simp only [LVW]; exact⟨trivial,trivial⟩,trivial⟩,pm nls,by simp [LBW,CW,a7h,LVW,dt,Src.under,ky],be n0,trivial⟩
 have h40:=hok.1;refine SSp.code_to (g:=aq) 6 rfl (σ:=Unit) (fun _=>sK L.length L.length) (fun _=>qZ L.length (aj aW L) (cS cB 41 (dA L))) ak ?_ fun _=>?_
 ·refine a0n.i3g xG (n:=40) 0 ak (σ:={i:Nat // i≤L.length}) (fun i=>sK L.length i.1) (fun i=>qZ L.length (aj aW L) (cS cB 41 (gr L i.1))) (fun i=>L.length - i.1) (fun _=>aS rfl) (fun⟨i,hi⟩=>?_) ⟨0,ab⟩;dsimp only;have n1:=nnm (gr L i);have n2:=nnm (gr L (i+1));have lt:=dS 41 (gr L i);rw [Oj]; simp only [vB];by_cases hlt:i < L.length
  ·have c0:=tq hlt;have c1:=tr hlt;have c2:af (aj aW L) (i * 5+1+1)=.z L[i].b:=tt hlt;have c3:af (aj aW L) (i * 5+1+1+1)=.z L[i].c:=tv hlt;have c4:af (aj aW L) (i * 5+1+1+1+1)=.int .u64 L[i].n:=tw hlt;have i1:au .add .i64 (i:Int) 1=((i+1:Nat):Int):=kE hlt ab;have hx:=hok.2 _ (iw hlt);obtain⟨_,_,_,q1,q2⟩:=uZ hx.1;obtain⟨m,hm⟩:∃ m:Nat,L[i].c=(m:Int):=⟨L[i].c.toNat,ab⟩;rw [hm] at c3;have m1:m < 41:=ab;by_cases y12:L[i].op=12
   ·have e:=Ag hlt (.inl y12) hm m1;simp only [ct,fj,fm,cC,bP,cm,b_,bV,cU,cz,cf,fk,fi,eA,fo,dS,fp,bD,aw,ej,eh,fr,fq,c0,c1,c2,c3,c4,ey,i1,lt,vB,e]
    (refine zR ?_)
    exact yO
   by_cases y13:L[i].op=13
   ·have e:=Ag hlt (.inr y13) hm m1;simp only [ct,fj,fm,cC,bP,cm,b_,bV,cU,cz,cf,fk,fi,eA,fo,dS,fp,bD,aw,ej,eh,fr,fq,c0,c1,c2,c3,c4,ey,i1,lt,vB,e]
    (refine zR ?_)
    exact yO
   ·have e:=HW hlt ab 41;simp only [ct,fj,fm,cC,bP,cm,b_,bV,cU,cz,cf,fk,fi,eA,fo,dS,fp,bD,aw,ej,eh,fr,fq,c0,c1,c2,c3,c4,ey,i1,lt,vB]
    (refine zR ?_)
    exact⟨rfl,⟨i+1,hlt⟩,by simp only; omega,[.id 0,.id 1,.id 2],by dsimp only; rw [e]; (exact zC)⟩
  ·obtain rfl:i=L.length:=ab;have e:=Ki L
   (refine zR ?_)
   exact⟨rfl,(),[.id 0,.id 1,.id 2],by rw [← e]; (exact zC)⟩
 have nb:=nnm (dA L);refine VK nls nb ?_;refine SSp.to xG (n:=40) (g:=aq) 1 8 rfl (σ:=Unit) (fun _=>wM L.length 0) (fun _=>qY L.length (aj aW L) (cS cB 41 (dA L)) []) (bh (aS rfl)) ak ?_ fun _=>?_
 ·rw [Ol];exact⟨rfl,(),[.id 0,.id 1,.id 2,.id 3,.id 4],by(exact zC)⟩
 refine SSp.code_to (g:=aq) 9 rfl (σ:=Unit) (fun _=>wM L.length L.length) (fun _=>qY L.length (aj aW L) (cS cB 41 (dA L)) (dD L L.length)) ak ?_ fun _=>?_
 ·refine a0n.i3g xG (n:=40) 2 ak (σ:={i:Nat // i≤L.length}) (fun i=>wM L.length i.1) (fun i=>qY L.length (aj aW L) (cS cB 41 (dA L)) (dD L i.1)) (fun i=>L.length - i.1) (fun _=>aS rfl) (fun⟨i,hi⟩=>?_) ⟨0,ab⟩;dsimp only;have lo:=yo hok hb i hi;rw [Om];by_cases hlt:i < L.length
  ·have c0:=tq hlt;have c1:=tr hlt;have c2:af (aj aW L) (i * 5+1+1)=.z L[i].b:=tt hlt;have c3:af (aj aW L) (i * 5+1+1+1)=.z L[i].c:=tv hlt;have c4:af (aj aW L) (i * 5+1+1+1+1)=.int .u64 L[i].n:=tw hlt;have cn:af (cS cB 41 (dA L)) i=.b (dA L i):=z_ _ ab;have ltb:=dS 41 (dA L);have i1:au .add .i64 (i:Int) 1=((i+1:Nat):Int):=kE hlt ab;have hx:=hok.2 _ (iw hlt);have hn:=DY (hb _ (iw hlt));have hm:=hx.1;have l0:=dX hn.1;have l1:=dX hn.2;have ll:=E9 hm hn;have ld:=mg (n:=(i:Int)) ab ab;have es:=vX hlt;have w1:ag ((am (dM L[i].op L[i].a L[i].b L[i].c L[i].n))+1) 1000000000=true:=aO (by show(dM _ _ _ _ _).length+1≤_; omega);cases hnm:dA L i with
   | true =>
     rw [Ad hnm] at es;rw [hnm] at cn;have w2:ag ((am (108::aE (i:Int)))+2) 1000000000=true:=aO (by show(108::aE (i:Int)).length+2≤_; simp only [cZ]; omega);have w3:ag ((am (dD L i))+(am (aA (108::aE (i:Int)) [58,32]))) 1000000=true:=aO (by show(dD L i).length+((108::aE (i:Int))++[58,32]).length≤_; simp only [cg,cZ,eU]; omega);have w4:ag ((am (aA (dD L i) (aA (108::aE (i:Int)) [58,32])))+(am (aA (dM L[i].op L[i].a L[i].b L[i].c L[i].n) [10]))) 1000000=true:=aO (by show(dD L i++((108::aE (i:Int))++[58,32])).length+(dM _ _ _ _ _++[10]).length≤_; simp only [cg,cZ,eU]; omega);simp only [ct,fj,fm,cC,bP,cm,b_,bV,cU,cz,cf,fk,fi,eA,fo,dS,fp,bD,aw,ej,eh,fr,fq,c0,c1,c2,c3,c4,ey,i1,cn,ltb,hm,f1,b1,l0,l1,w1,w2,w3,w4]
     (refine zR ?_)
     exact⟨rfl,⟨i+1,hlt⟩,by simp only; omega,[.id 0,.id 1,.id 2,.id 3,.id 7],by dsimp only; rw [es]; (exact zC)⟩
   | false =>
     rw [Ac hnm,fR] at es;rw [hnm] at cn;have w4:ag ((am (dD L i))+(am (aA (dM L[i].op L[i].a L[i].b L[i].c L[i].n) [10]))) 1000000=true:=aO (by show(dD L i).length+(dM _ _ _ _ _++[10]).length≤_; simp only [cg,cZ,eU]; omega);simp only [ct,fj,fm,cC,bP,cm,b_,bV,cU,cz,cf,fk,fi,eA,fo,dS,fp,bD,aw,ej,eh,fr,fq,c0,c1,c2,c3,c4,ey,i1,cn,ltb,hm,f1,b1,l0,l1,w1,w4]
     (refine zR ?_)
     exact⟨rfl,⟨i+1,hlt⟩,by simp only; omega,[.id 0,.id 1,.id 2,.id 3,.id 6],by dsimp only; rw [es]; (exact zC)⟩
  ·obtain rfl:i=L.length:=ab
   (refine zR ?_)
   exact⟨rfl,(),[.id 0,.id 1,.id 2,.id 3,.id 4],by(exact zC)⟩
 have lo:=yo hok hb L.length (aR _);have ld:=mg (n:=(L.length:Int)) ab ab;have cn:af (cS cB 41 (dA L)) L.length=.b (dA L L.length):=z_ _ ab;have ltb:=dS 41 (dA L);have ez:=AA hok;refine SSp.last xG (n:=40) (bh (aS rfl)) ?_;rw [On];unfold lH at ez;cases hnm:dA L L.length with
 | true =>
   rw [Ad hnm] at ez;rw [hnm] at cn;have w2:ag ((am (108::aE (L.length:Int)))+2) 1000000000=true:=aO (by show(108::aE (L.length:Int)).length+2≤_; simp only [cZ]; omega);have w3:ag ((am (dD L L.length))+(am (aA (108::aE (L.length:Int)) [58,10]))) 1000000=true:=aO (by show(dD L L.length).length+((108::aE (L.length:Int))++[58,10]).length≤_; simp only [cg,cZ,eU]; omega);have w4:ag (am (aA (dD L L.length) (aA (108::aE (L.length:Int)) [58,10]))) 1000000=true:=aO (by show(dD L L.length++((108::aE (L.length:Int))++[58,10])).length≤_; simp only [cg,cZ,eU]; omega)
   (refine MQ @cn @ltb @b1 @w2 @w3 @w4 ?_)
   (refine zR ?_)
   exact yN
 | false =>
   rw [Ac hnm,fR] at ez;rw [hnm] at cn;have w4:ag (am (dD L L.length)) 1000000=true:=aO (by show(dD L L.length).length≤_; omega)
   (refine Gb @cn @ltb @b1 @w4 ?_)
   (refine zR ?_)
   exact yN
theorem Tx {L:List bo} {k:Nat} (h:k < L.length) (hn:dA L k=true):aA (aA (aA (aA (aA (dD L k) [108]) (aE (k:Int))) [58,32]) (dM L[k].op L[k].a L[k].b L[k].c L[k].n)) [10]=dD L (k+1):=by
 rw [vX h,Ad hn];simp only [aA,mW,lq,lU]
theorem Tw {L:List bo} {k:Nat} (h:k < L.length) (hn:dA L k=false):aA (aA (dD L k) (dM L[k].op L[k].a L[k].b L[k].c L[k].n)) [10]=dD L (k+1):=by
 rw [vX h,Ac hn];simp only [aA,mW,fR]
theorem Tz {L:List bo} (hn:dA L L.length=true):aA (aA (aA (dD L L.length) [108]) (aE (L.length:Int))) [58,10]=lH L:=by
 unfold lH;rw [Ad hn];simp only [aA,mW,lq,lU]
theorem Ty {L:List bo} (hn:dA L L.length=false):dD L L.length=lH L:=by
 unfold lH;rw [Ac hn,fR]
set_option maxHeartbeats 8000000 in
theorem TP (L:List bo) (hb:∀ x∈L,jU x):a0j prog 13 [.agg [.slo 0 0 L.length 0]] (ai [.ro (aj aW L)] aq) fun l s=>l=.str (bJ (aj aW L))∧s=ai [.ro (aj aW L)] aq:=by
 refine a0j.mono (a0j.i3y (Q:=fun l b'=>l=.str (bJ (aj aW L))∧b'=[.ro (aj aW L)]) 93 1 uk [2] ak rfl rfl rfl ?_) fun l s' ⟨b0,⟨h1,h2⟩,h3⟩=>⟨h1,by rw [h3,h2]⟩
 have nls:a1u (aj aW L)=true:=oE L;have nnm:∀ g:Nat→Bool,a1u (cS cB (L.length+1) g)=true:=fun g=>Fb (L.length+1) g
 have f1:=qG;refine SSp.to xH (n:=40) (g:=aq) 5 5 rfl (σ:={_u:Unit // L.length≤40}) (fun _=>wH L.length 0) (fun _=>oQ L.length (aj aW L) (cS cB (L.length+1) (gr L 0))) (bh (aS rfl)) ak ?_ fun⟨_,h40⟩=>?_
 ·rw [Pc];by_cases c:40 < L.length
  ·have hno:¬ jd L:=fun h=>by have:=h.1; omega
   (refine zR ?_)
   exact GJ
  ·have i1:au .add .i64 (L.length:Int) 1=((L.length+1:Nat):Int):=kE (Nat.lt_succ_self L.length) ab;have er:tg (L.length+1) [.b false]=cS cB (L.length+1) (gr L 0):=(VE (f:=cB) false _).trans (A3 fun j _=>(Kk L j).symm);have n0:=nnm (gr L 0)
   (refine v9 @i1 @er ?_)
   (refine zR ?_)
   refine⟨rfl,⟨(),ab⟩,[.id 0,.id 1,.cap 2 0 (L.length+1)],?_⟩;dsimp only;have hc:LBW (dt [.id 0,.id 1,.cap 2 0 (L.length+1)]) (.cap 2 0 (L.length+1)) (.cells (cS cB (L.length+1) (gr L 0)) (some 1)) (some (.cells (cS cB (L.length+1) (gr L 0)) none)):=I_ (by rw [dS]; omega) n0;refine⟨ak,⟨by show LVW _ (.ptr 1 0) (.ptr 1 0); simp [LVW,dt],by show LVW _ (.str []) (.str []); simp only [LVW],by show LVW _ (.slo 2 0 (L.length+1) 0) (.sl 2 0 (L.length+1) (L.length+1)); exact jA rfl (aR _),by show LVW _ (.z 0) (.z 0); simp only [LVW]; exact⟨trivial,trivial⟩,trivial⟩,pm nls,by simp [LBW,CW,a7h,LVW,dt,Src.under,ky],hc,trivial⟩
 refine SSp.code_to (g:=aq) 6 rfl (σ:={_u:Unit // jd L}) (fun _=>wH L.length L.length) (fun _=>oQ L.length (aj aW L) (cS cB (L.length+1) (dA L))) ak ?_ fun⟨_,hok⟩=>?_
 ·refine a0n.i3g xH (n:=40) 0 ak (σ:={i:Nat // i≤L.length∧∀ j (h:j < L.length),j < i→ja L.length L[j]}) (fun i=>wH L.length i.1) (fun i=>oQ L.length (aj aW L) (cS cB (L.length+1) (gr L i.1))) (fun i=>L.length - i.1) (fun _=>aS rfl) (fun⟨i,hi,hj⟩=>?_) ⟨0,ab,fun j _ h=>by omega⟩;dsimp only;have n1:=nnm (gr L i);have n2:=nnm (gr L (i+1));have lt:=dS (L.length+1) (gr L i);rw [Pd]; simp only [oy,qz];by_cases hlt:i < L.length
  ·have c0:=tq hlt;have c1:=tr hlt;have c2:af (aj aW L) (i * 5+1+1)=.z L[i].b:=tt hlt;have c3:af (aj aW L) (i * 5+1+1+1)=.z L[i].c:=tv hlt;have c4:af (aj aW L) (i * 5+1+1+1+1)=.int .u64 L[i].n:=tw hlt;have i1:au .add .i64 (i:Int) 1=((i+1:Nat):Int):=kE hlt ab;have nx:ja L.length L[i]→∀ j (h:j < L.length),j < i+1→ja L.length L[j]:=fun h j h1 h2=>by
    rcases t7.1 h2 with h2 | rfl
    ·exact hj j h1 h2
    ·exact h
   have bad:¬ ja L.length L[i]→bJ (aj aW L)=[]:=fun h=>Fg fun k=>h (k.2 _ (iw hlt))
   cases hm:cM L[i].op L[i].a L[i].b L[i].c L[i].n with
   | false =>
     have hF:=bad fun h=>by rw [h.1] at hm; cases hm
     simp only [ct,fj,fm,cC,bP,cm,b_,bV,cU,cz,cf,fk,fi,eA,fo,dS,fp,bD,aw,ej,eh,fr,fq,c0,c1,c2,c3,c4,ey,hm,i1,lt,oy,qz]
     (refine zR ?_)
     exact BE
   | true =>
     obtain⟨_,_,_,q1,q2⟩:=uZ hm;by_cases y12:L[i].op=12
     ·by_cases yc:(L.length:Int) < L[i].c
      ·have hF:=bad fun h=>by have:=h.2 (.inl y12); omega
       simp only [ct,fj,fm,cC,bP,cm,b_,bV,cU,cz,cf,fk,fi,eA,fo,dS,fp,bD,aw,ej,eh,fr,fq,c0,c1,c2,c3,c4,ey,hm,i1,lt,oy,qz]
       (refine zR ?_)
       exact BE
      ·have hn:=nx ⟨hm,fun _=>by omega⟩;obtain⟨m,hmc⟩:∃ m:Nat,L[i].c=(m:Int):=⟨L[i].c.toNat,ab⟩;rw [hmc] at c3 hm yc;have m1:m < L.length+1:=ab;have e:=Ag hlt (.inl y12) hmc m1;simp only [ct,fj,fm,cC,bP,cm,b_,bV,cU,cz,cf,fk,fi,eA,fo,dS,fp,bD,aw,ej,eh,fr,fq,c0,c1,c2,c3,c4,ey,hm,i1,lt,oy,qz,e]
       (refine zR ?_)
       exact Gr
     ·by_cases y13:L[i].op=13
      ·by_cases yc:(L.length:Int) < L[i].c
       ·have hF:=bad fun h=>by have:=h.2 (.inr y13); omega
        simp only [ct,fj,fm,cC,bP,cm,b_,bV,cU,cz,cf,fk,fi,eA,fo,dS,fp,bD,aw,ej,eh,fr,fq,c0,c1,c2,c3,c4,ey,hm,i1,lt,oy,qz]
        (refine zR ?_)
        exact BE
       ·have hn:=nx ⟨hm,fun _=>by omega⟩;obtain⟨m,hmc⟩:∃ m:Nat,L[i].c=(m:Int):=⟨L[i].c.toNat,ab⟩;rw [hmc] at c3 hm yc;have m1:m < L.length+1:=ab;have e:=Ag hlt (.inr y13) hmc m1;simp only [ct,fj,fm,cC,bP,cm,b_,bV,cU,cz,cf,fk,fi,eA,fo,dS,fp,bD,aw,ej,eh,fr,fq,c0,c1,c2,c3,c4,ey,hm,i1,lt,oy,qz,e]
        (refine zR ?_)
        exact Gr
      ·have hn:=nx ⟨hm,fun h=>by omega⟩;have e:=HW hlt ab (L.length+1);simp only [ct,fj,fm,cC,bP,cm,b_,bV,cU,cz,cf,fk,fi,eA,fo,dS,fp,bD,aw,ej,eh,fr,fq,c0,c1,c2,c3,c4,ey,hm,i1,lt,oy,qz]
       (refine zR ?_)
       exact⟨rfl,⟨i+1,hlt,hn⟩,by simp only; omega,[.id 0,.id 1,.id 2],by dsimp only; rw [e]; (exact zC)⟩
  ·obtain rfl:i=L.length:=ab;have e:=Ki L;have hok:jd L:=⟨h40,fun x hx=>by
    obtain⟨j,h1,rfl⟩:=List.mem_iff_getElem.1 hx;exact hj j h1 h1⟩
   (refine zR ?_)
   exact⟨rfl,⟨(),hok⟩,[.id 0,.id 1,.id 2],by rw [← e]; (exact zC)⟩
 have nb:=nnm (dA L);refine SSp.to xH (n:=40) (g:=aq) 2 8 rfl (σ:=Unit) (fun _=>wG L.length [] 0) (fun _=>oQ L.length (aj aW L) (cS cB (L.length+1) (dA L))) (bh (aS rfl)) ak ?_ fun _=>?_
 ·rw [Pe];exact⟨rfl,(),[.id 0,.id 1,.id 2],by(exact zC)⟩
 refine SSp.code_to (g:=aq) 9 rfl (σ:=Unit) (fun _=>wG L.length (dD L L.length) L.length) (fun _=>oQ L.length (aj aW L) (cS cB (L.length+1) (dA L))) ak ?_ fun _=>?_
 ·refine a0n.i3g xH (n:=40) 2 ak (σ:={i:Nat // i≤L.length}) (fun i=>wG L.length (dD L i.1) i.1) (fun _=>oQ L.length (aj aW L) (cS cB (L.length+1) (dA L))) (fun i=>L.length - i.1) (fun _=>aS rfl) (fun⟨i,hi⟩=>?_) ⟨0,ab⟩;dsimp only;have lo:=yo hok hb i hi;rw [Pf];by_cases hlt:i < L.length
  ·have c0:=tq hlt;have c1:=tr hlt;have c2:af (aj aW L) (i * 5+1+1)=.z L[i].b:=tt hlt;have c3:af (aj aW L) (i * 5+1+1+1)=.z L[i].c:=tv hlt;have c4:af (aj aW L) (i * 5+1+1+1+1)=.int .u64 L[i].n:=tw hlt;have cn:af (cS cB (L.length+1) (dA L)) i=.b (dA L i):=z_ _ ab;have ltb:=dS (L.length+1) (dA L);have i1:au .add .i64 (i:Int) 1=((i+1:Nat):Int):=kE hlt ab;have hx:=hok.2 _ (iw hlt);have hn:=DY (hb _ (iw hlt));have hm:=hx.1;have l0:=dX hn.1;have l1:=dX hn.2;have ll:=E9 hm hn;have ld:=mg (n:=(i:Int)) ab ab;have wr:ay .u64 (i:Int)=(i:Int):=IH ab ab;have p0:ad .leq 0 (i:Int)=true:=dX ab;have p1:ad .leq (i:Int) 18446744073709551615=true:=dX ab;have h40:=hok.1;cases hnm:dA L i with
   | true =>
     have es:=Tx hlt hnm;rw [hnm] at cn;have w1:ag ((am (dD L i))+1) 1000000000=true:=aO (by simp only [am]; omega);have w2:ag ((am (aA (dD L i) [108]))+(am (aE (i:Int)))) 1000000000=true:=aO ub;have w3:ag ((am (aA (aA (dD L i) [108]) (aE (i:Int))))+2) 1000000000=true:=aO ub;have w4:ag ((am (aA (aA (aA (dD L i) [108]) (aE (i:Int))) [58,32]))+(am (dM L[i].op L[i].a L[i].b L[i].c L[i].n))) 1000000000=true:=aO ub;have w5:ag ((am (aA (aA (aA (aA (dD L i) [108]) (aE (i:Int))) [58,32]) (dM L[i].op L[i].a L[i].b L[i].c L[i].n)))+1) 1000000000=true:=aO ub;simp only [ct,fj,fm,cC,bP,cm,b_,bV,cU,cz,cf,fk,fi,eA,fo,dS,fp,bD,aw,ej,eh,fr,fq,c0,c1,c2,c3,c4,ey,i1,cn,ltb,hm,f1,wr,p0,p1,l0,l1,w1,w2,w3,w4,w5,es]
     (refine zR ?_)
     exact yO
   | false =>
     have es:=Tw hlt hnm;rw [hnm] at cn;have w4:ag ((am (dD L i))+(am (dM L[i].op L[i].a L[i].b L[i].c L[i].n))) 1000000000=true:=aO (by simp only [am]; omega);have w5:ag ((am (aA (dD L i) (dM L[i].op L[i].a L[i].b L[i].c L[i].n)))+1) 1000000000=true:=aO (by simp only [am,aA,cg]; omega);simp only [ct,fj,fm,cC,bP,cm,b_,bV,cU,cz,cf,fk,fi,eA,fo,dS,fp,bD,aw,ej,eh,fr,fq,c0,c1,c2,c3,c4,ey,i1,cn,ltb,hm,f1,l0,l1,w4,w5,es]
     (refine zR ?_)
     exact yO
  ·obtain rfl:i=L.length:=ab
   (refine zR ?_)
   exact⟨rfl,(),[.id 0,.id 1,.id 2],by(exact zC)⟩
 have h40:=hok.1;have lo:=yo hok hb L.length (aR _);have ld:=mg (n:=(L.length:Int)) ab ab;have cn:af (cS cB (L.length+1) (dA L)) L.length=.b (dA L L.length):=z_ _ ab;have ltb:=dS (L.length+1) (dA L);have ez:=AA hok;have wr:ay .u64 (L.length:Int)=(L.length:Int):=IH ab ab;have p0:ad .leq 0 (L.length:Int)=true:=dX ab;have p1:ad .leq (L.length:Int) 18446744073709551615=true:=dX ab;refine SSp.last xH (n:=40) (bh (aS rfl)) ?_;rw [Pg];cases hnm:dA L L.length with
 | true =>
   have es:=Tz hnm;rw [hnm] at cn;have w1:ag ((am (dD L L.length))+1) 1000000000=true:=aO (by simp only [am]; omega);have w2:ag ((am (aA (dD L L.length) [108]))+(am (aE (L.length:Int)))) 1000000000=true:=aO ub;have w3:ag ((am (aA (aA (dD L L.length) [108]) (aE (L.length:Int))))+2) 1000000000=true:=aO ub;simp only [ct,fj,fm,cC,bP,cm,b_,bV,cU,cz,cf,fk,fi,eA,fo,dS,fp,bD,aw,ej,eh,fr,fq,cn,ltb,wr,p0,p1,w1,w2,w3,es]
   (refine zR ?_)
   exact yN
 | false =>
   have es:=Ty hnm;rw [hnm] at cn
   (refine v8 @cn @ltb @es ?_)
   (refine zR ?_)
   exact yN
theorem Ih {W w:World} (h:Gl W aq) (hb:Below W.heap.size W w):Gl w aq:=fun x hx=>by
 rcases h x hx with⟨F,e,hF⟩ | ⟨c,e,f,h1,h2⟩
 ·refine .inl ⟨F,e,?_⟩;have:F=dZ:=by
   simp only [aq,eT,List.not_mem_nil,or_false] at hx;rcases hx with rfl | rfl | rfl | rfl
   iterate 3
    ·cases e
   ·simp only [iJ,LV.fact.injEq,kG] at e; exact e.symm
  subst this;exact Iv hF hb
 ·refine .inr ⟨c,e,f,?_,h2⟩;have:x.1 < W.heap.size:=(ft.1 h1).1;rw [hb.block _ this]; exact h1
theorem tQ {L M:LB} {g:aL} {b:Nat} (h:(ai [L] g).h.get b=some M):b=0∧M=L:=by
 rw [b8] at h;rcases Nat.eq_zero_or_pos b with rfl | hb
 ·simp at h; exact⟨rfl,h.symm⟩
 ·rw [gO (show [L].length≤b from hb)] at h; cases h
theorem a0j.i3l {P:Program} {f:Nat} {args:al} {cs:al} {op:Option Nat} {g:aL} {v:LV} (hv:b4m v=true) (hf:∀ {W w:World},Gl W g→Below W.heap.size W w→Gl w g)
  (h:a0j P f args (ai [.ro cs] g) fun l _=>l=v):a0j P f args (ai [.cells cs op] g) fun l s'=>l=v∧s'=ai [.cells cs op] g:=by
 intro W0 r w us hI hus;have hn:(ai [.ro cs] g).n=(ai [.cells cs op] g).n:=by rw [cN,cN]; rfl
 have nolive:∀ b,¬ (ai [.ro cs] g).lives b:=fun b ⟨L,h1,h2⟩=>by
  obtain⟨_,rfl⟩:=tQ h1; cases h2
 have hget:(ai [.cells cs op] g).h.get 0=some (.cells cs op):=by rw [b8]; rfl
 have no1:∀ b F cs' g',(ai [.ro cs] g).h.get b≠some (.obj F cs' g'):=fun b F cs' g' hb=>by have:=(tQ hb).2; cases this
 have no2:∀ b F cs' g',(ai [.cells cs op] g).h.get b≠some (.obj F cs' g'):=fun b F cs' g' hb=>by have:=(tQ hb).2; cases this
 have hI':Inv w r (ai [.ro cs] g) w:=by
  refine⟨Below.refl _ _,fun b x hx=>by rw [hn]; exact hI.dom b x hx,fun b x hl=>absurd hl (nolive b),fun b hb=>?_,fun b b' x x' hl=>absurd hl (nolive b),fun b ds o hb=>?_,fun b t p hb=>?_,hf hI.gl hI.below,fun b ds hb=>?_,c2d.none no1⟩
  ·rw [b8]; rw [cN] at hb; exact gO hb
  iterate 2
   ·have:=(tQ hb).2; cases this
  ·obtain⟨rfl,e⟩:=tQ hb;cases e;rcases hI.cells 0 cs op hget with h0 | ⟨x,h1,h2⟩
   ·exact .inl h0
   ·obtain⟨c,e,lo,hi,q1,q2,_⟩:=h2.ex;exact .inr ⟨x,h1,c,e,(lo,hi),q1,q2⟩
 refine(h w r w us hI' hus).mono fun e w' ⟨l,s',v',r',hl,he,hvv,hIw,hE⟩=>?_
 subst hl;have hb:=hIw.below;refine⟨l,_,v',r,⟨rfl,rfl⟩,he,b4m.sound hv hvv,?_,⟨r.le_refl,aR _,hb.size,fun B _ h=>h,fun B hB _=>hb.block B hB⟩⟩;refine⟨hI.below.trans (hb.mono hI.below.size),fun b x hx=>⟨(hI.dom b x hx).1,mt (hI.dom b x hx).2 hb.size⟩,hI.own,hI.fresh,hI.inj,fun b ds o hds=>?_,fun b t p ht=>?_,hI.gl,fun b ds hds=>?_,c2d.none no2⟩
 ·rcases hI.cells b ds o hds with h0 | ⟨x,h1,h2⟩
  ·exact .inl h0
  ·refine .inr ⟨x,h1,?_⟩;obtain⟨⟨c,e,lo,hi,q1,q2⟩,q3⟩:=h2;exact⟨⟨c,e,lo,hi,by rw [hb.block _ (hI.dom b x h1).2]; exact q1,q2⟩,q3⟩
 ·have:=(tQ ht).2; cases this
 ·have:=(tQ hds).2; cases this
theorem O_ (n:Nat) (cs:al) (h:ku n cs=true):a0j prog 12 [.agg [.slo 0 0 n 0]] (ai [.ro cs] aq) fun l s=>l=.str (bJ cs)∧s=ai [.ro cs] aq:=by
 obtain⟨L,rfl,rfl,hb⟩:=vP.1 h; exact Vm L hb
theorem Pi (n:Nat) (cs:al) (h:ku n cs=true):a0j prog 13 [.agg [.slo 0 0 n 0]] (ai [.ro cs] aq) fun l s=>l=.str (bJ cs)∧s=ai [.ro cs] aq:=by
 obtain⟨L,rfl,rfl,hb⟩:=vP.1 h; exact TP L hb
theorem OV (n:Nat) (cs:al) (h:ku n cs=true):a0j prog 12 [.agg [.slo 0 0 n 0]] (ai [.cells cs (some 5)] aq) fun l s=>l=.str (bJ cs)∧s=ai [.cells cs (some 5)] aq :=
 a0j.i3l rfl Ih (a0j.mono (O_ n cs h) fun l s h=>h.1)
theorem Ph (n:Nat) (cs:al) (h:ku n cs=true):a0j prog 13 [.agg [.slo 0 0 n 0]] (ai [.cells cs (some 5)] aq) fun l s=>l=.str (bJ cs)∧s=ai [.cells cs (some 5)] aq :=
 a0j.i3l rfl Ih (a0j.mono (Pi n cs h) fun l s h=>h.1)
def Cg:Gc:=fun args s=>match args,s.g with
 | [.agg [.slo q 0 n 0]],[(g0,F0),(g1,F1),(g2,F2),(g3,[.fact F])]=>cond (Nat.beq g0 0 && aU F0 cj && (Nat.beq g1 2 && aU F1 cK) && (Nat.beq g2 1 && aU F2 gi) && Nat.beq g3 1000) (match s.h.get q with
   | some (.cells cs (some 5))=>(match s.lay [q] [.cells cs (some 5)] [] with
     | some s'=>some ([dm F,ku n cs],.str (bJ cs),s')
     | none=>none)
   | _=>none) none
 | _,_=>none
theorem TE:bX prog 12 Cg:=by
 intro args s bs l s' hg hb hfr;unfold Cg at hg;split at hg
 ·rename_i q n g0 F0 g1 F1 g2 F2 g3 F hgl;cases hc:(Nat.beq g0 0 && aU F0 cj && (Nat.beq g1 2 && aU F1 cK) && (Nat.beq g2 1 && aU F2 gi) && Nat.beq g3 1000) with
  | false=>exact eZ
  | true =>
    rw [hc] at hg;simp only [aw] at hg;simp only [bg] at hc;replace hgl:s.g=pY F:=by rw [hgl,bt hc.1.1.1.1,bQ hc.1.1.1.2,bt hc.1.1.2.1,bQ hc.1.1.2.2,bt hc.1.2.1,bQ hc.1.2.2,bt hc.2]
    split at hg
    ·rename_i cs hb0;split at hg
     ·rename_i s1 hs1;simp only [a8,bn] at hg;obtain⟨rfl,rfl,rfl⟩:=hg;simp only [bv] at hb;obtain⟨k1,k2,_⟩:=hb;have eF:=mP k1;subst eF;have no:=Fx k2;refine a0j.lay (bs:=[.cells cs (some 5)]) (args0:=[.agg [.slo 0 0 n 0]]) (bs':=[.cells cs (some 5)]) (v0:=.str (bJ cs)) hfr hs1 aC
       ⟨⟨df hfr hb0,_,hb0,be bF,fun κ hκ=>be bF⟩,trivial⟩ BN ?_
       fun κ h1 h2=>⟨⟨be bF,trivial⟩,cY rfl⟩
      rw [hgl]; exact(OV n cs k2)
     ·cases hg
    ·cases hg
 ·cases hg
def Cb:Gc:=fun args s=>match args,s.g with
 | [.agg [.slo q 0 n 0]],[(g0,F0),(g1,F1),(g2,F2),(g3,[.fact F])]=>cond (Nat.beq g0 0 && aU F0 cj && (Nat.beq g1 2 && aU F1 cK) && (Nat.beq g2 1 && aU F2 gi) && Nat.beq g3 1000) (match s.h.get q with
   | some (.cells cs (some 5))=>(match s.lay [q] [.cells cs (some 5)] [] with
     | some s'=>some ([dm F,ku n cs],.str (bJ cs),s')
     | none=>none)
   | _=>none) none
 | _,_=>none
theorem TL:bX prog 13 Cb:=by
 intro args s bs l s' hg hb hfr;unfold Cb at hg;split at hg
 ·rename_i q n g0 F0 g1 F1 g2 F2 g3 F hgl;cases hc:(Nat.beq g0 0 && aU F0 cj && (Nat.beq g1 2 && aU F1 cK) && (Nat.beq g2 1 && aU F2 gi) && Nat.beq g3 1000) with
  | false=>exact eZ
  | true =>
    rw [hc] at hg;simp only [aw] at hg;simp only [bg] at hc;replace hgl:s.g=pY F:=by rw [hgl,bt hc.1.1.1.1,bQ hc.1.1.1.2,bt hc.1.1.2.1,bQ hc.1.1.2.2,bt hc.1.2.1,bQ hc.1.2.2,bt hc.2]
    split at hg
    ·rename_i cs hb0;split at hg
     ·rename_i s1 hs1;simp only [a8,bn] at hg;obtain⟨rfl,rfl,rfl⟩:=hg;simp only [bv] at hb;obtain⟨k1,k2,_⟩:=hb;have eF:=mP k1;subst eF;have no:=Fx k2;refine a0j.lay (bs:=[.cells cs (some 5)]) (args0:=[.agg [.slo 0 0 n 0]]) (bs':=[.cells cs (some 5)]) (v0:=.str (bJ cs)) hfr hs1 aC
       ⟨⟨df hfr hb0,_,hb0,be bF,fun κ hκ=>be bF⟩,trivial⟩ BN ?_
       fun κ h1 h2=>⟨⟨be bF,trivial⟩,cY rfl⟩
      rw [hgl]; exact(Ph n cs k2)
     ·cases hg
    ·cases hg
 ·cases hg
abbrev nP:aL:=[(0,cj),(2,cK)]
def rF:aL→aL→Bool
 | [],[]=>true
 | (a,x)::r,(b,y)::t=>Nat.beq a b && aU x y && rF r t
 | _,_=>false
theorem DU:∀ {a b:aL},rF a b=true→a=b
 | [],[],_=>rfl
 | (a,x)::r,(b,y)::t,h=>by
   simp only [rF,bg] at h;rw [bt h.1.1,bQ h.1.2,DU h.2]
 | [],_::_,h=>by simp [rF] at h
 | _::_,[],h=>by simp [rF] at h
abbrev lI:al:=[.z 20,.z 0,.z 0,.z 0,.int .u64 0]
abbrev s6:ap:=[114,101,116,114,121,10]
def xE:Cx:=eP [(25,BU 63 5),(28,BX 63 5)]
theorem H7:cT prog (cv xE):=fQ ⟨IG,IA,trivial⟩
def Hw (f nt k d:Nat) (tm:Tm) (s:St):Option (LX×Tm×St):=match q9 prog (cv xE) 20000 nt (bS (sp prog f) 0 k) tm s with
 | some (.normal,tm1,s1)=>(match vg 63 5 nt d tm1 s1 with
   | some (tm2,s2)=>cond (Nat.ble 1 s1.n && Nat.ble 1 s2.n) (q9 prog (cv xE) 20000 nt ((sp prog f).drop (k+1)) tm2 s2) none
   | none=>none)
 | _=>none
def Hg:Option (LX×Tm×St)→Bool
 | some (.ret,tm,s)=>rF s.g nP && aU [aQ tm 2] [.str s6] && Nat.ble 1 s.n && (match s.h.get 0 with
   | some (.cells cs none)=>aU cs lI
   | _=>false)
 | _=>false
theorem WF:Hg (Hw 12 58 6 6 (cO [.agg [.sl 0 0 1 1]]) (ai [.cells lI none] nP))=true:=ak
theorem WE:a0j prog 12 [.agg [.sl 0 0 1 1]] (ai [.cells lI none] nP) fun l s'=>l=.str s6∧s'=ai [.cells lI none] nP:=by
 refine a0j.mono (a0j.i3y (Q:=fun l bs=>l=.str s6∧bs=[.cells lI none]) 58 1 [2] [2] ak rfl ak rfl ?_) fun l s' ⟨b0,⟨h1,h2⟩,h3⟩=>⟨h1,by rw [h3,h2]⟩
 have hrun:=WF;unfold Hw at hrun;cases h1:q9 prog (cv xE) 20000 58 (bS (sp prog 12) 0 6) (cO [.agg [.sl 0 0 1 1]]) (ai [.cells lI none] nP) with
 | none=>rw [h1] at hrun; cases hrun
 | some p =>
   obtain⟨x,tm1,s1⟩:=p;rw [h1] at hrun;cases x with
   | exit k=>cases hrun
   | ret=>cases hrun
   | normal =>
     simp only at hrun;cases h2:vg 63 5 58 6 tm1 s1 with
     | none=>rw [h2] at hrun; cases hrun
     | some q =>
       obtain⟨tm2,s2⟩:=q;rw [h2] at hrun;simp only at hrun;cases hc:(Nat.ble 1 s1.n && Nat.ble 1 s2.n) with
       | false=>rw [hc] at hrun; cases hrun
       | true =>
       rw [hc] at hrun;simp only [aw] at hrun;simp only [bg] at hc;have hc1:=aS hc.1;have hc2:=aS hc.2;cases h3:q9 prog (cv xE) 20000 58 ((sp prog 12).drop (6+1)) tm2 s2 with
       | none=>rw [h3] at hrun; cases hrun
       | some r =>
         obtain⟨y,tm3,s3⟩:=r;rw [h3] at hrun;cases y with
         | exit k=>cases hrun
         | normal=>cases hrun
         | ret =>
           simp only [Hg,bg] at hrun;obtain⟨⟨⟨e1,e2⟩,e4⟩,e3⟩:=hrun;rw [EZ _ 0 6];have hn1:1≤(ai [.cells lI none] nP).n:=by rw [cN]; exact aR _
           refine SSp.join (SSp.lrun H7 hn1 h1 ?_);show SSp prog 58 ((sp prog 12).drop (0+6)) 1 tm1 s1 _;rw [oA _ _ (by decide +kernel)];refine Ll (T:=63) (e:=5) (d:=6) ak IP hc1 h2 ?_;refine SSp.lrun H7 hc2 h3 ⟨trivial,DU e1,.str s6,[.cells lI none],[.id 0],⟨rfl,rfl⟩,?_⟩;refine⟨rfl,⟨?_,trivial⟩,⟨?_,trivial⟩⟩
           ·show LVW _ (.str s6) (aQ tm3 2);have:=bQ e2;simp only [iJ,kG] at this;rw [this]; simp only [LVW]
           ·show LBW _ (.id 0) (.cells lI none) (ky (fK s3) 0);split at e3
            ·rename_i cs hcs;have hcs':=bQ e3;subst hcs';have hlt:0 < s3.n:=aS e4;have:ky (fK s3) 0=some (.cells lI none):=by
              unfold ky fK;rw [yF,aB hlt];simpa using hcs
             rw [this];exact be rfl
            ·cases e3
def D8:Gc:=fun args s=>match args with
 | [.agg [.sl b 0 1 1]]=>(match s.h.get b with
   | some (.cells cs none)=>cond (aU cs lI && rF s.g nP) (some ([],.str s6,s)) none
   | _=>none)
 | _=>none
theorem WD:bX prog 12 D8:=by
 intro args s bs l s' hg hb hfr;unfold D8 at hg;split at hg
 ·rename_i b;split at hg
  ·rename_i cs hb1;cases hc:(aU cs lI && rF s.g nP) with
   | false=>exact eZ
   | true =>
     rw [hc] at hg;simp only [aw,a8,bn] at hg;obtain⟨rfl,rfl,rfl⟩:=hg;simp only [bg] at hc;have e1:=bQ hc.1;have e2:=DU hc.2;subst e1;have hlt:=df hfr hb1;refine a0j.lift (ρ:=[b]) (bs:=[.cells lI none]) (bs':=[.cells lI none]) (args0:=[.agg [.sl 0 0 1 1]]) (v0:=.str s6) hfr aC ⟨⟨hlt,_,hb1,be rfl,fun κ hκ=>be rfl⟩,trivial⟩ ?_ (by rw [e2]; exact WE) aC ⟨?_,rfl,fun c hc hcb=>rfl,hfr,?_,?_⟩ ?_
     ·simp [a7h,LVW,dt]
     ·simp
     ·intro i c L' hi hL
      match i,hi with
      | 0,hi =>
        simp at hi; subst hi;rw [hb1] at hL; cases hL;exact be rfl
      | i+1,hi=>simp at hi
     ·intro j L' hj hL;simp at hj
     ·simp only [LVW]
  ·cases hg
 ·cases hg
def Ni:Cx:=eP [(12,D8)]
theorem UU:cT prog (cv Ni):=fQ ⟨WD,trivial⟩
theorem RR:a0j prog 8 [] (ai [] nP) fun l s'=>l=.b true∧s'=ai [] nP :=
 a0j.i4i UU (fuel:=20000) (fun b _=>by rw [b8]; rfl) ak
theorem GZ (g:aL) (b:Nat) (F:OP) (cs:al) (γ : Nat):(ai [] g).h.get b≠some (.obj F cs γ):=fun h=>by
 rw [b8] at h; cases h
theorem RS:a0j prog 8 [] (ai [] aq) fun l s'=>l=.b true∧s'=ai [] aq:=by
 intro W0 r w us hI hus;have hI2:Inv W0 r (ai [] nP) w:=⟨hI.below,hI.dom,hI.own,hI.fresh,hI.inj,hI.cells,hI.iter,fun x hx=>hI.gl x (by
  rcases eT.1 hx with h | h
  ·rw [h]; exact pL
  ·rcases eT.1 h with h | h
   ·rw [h]; exact qS _ pL
   ·cases h),hI.ro,c2d.none (GZ _)⟩
 refine(RR W0 r w us hI2 hus).mono fun e w' ⟨l,s',v',r',hl,he,hvv,hIw,hE⟩=>?_
 obtain⟨rfl,rfl⟩:=hl;exact⟨_,_,v',r',⟨rfl,rfl⟩,he,hvv,⟨hIw.below,hIw.dom,hIw.own,hIw.fresh,hIw.inj,hIw.cells,hIw.iter,hI.gl,hIw.ro,c2d.none (GZ _)⟩,⟨hE.le,hE.n,hE.size,hE.img,hE.keep⟩⟩
end
end Go.Lev
