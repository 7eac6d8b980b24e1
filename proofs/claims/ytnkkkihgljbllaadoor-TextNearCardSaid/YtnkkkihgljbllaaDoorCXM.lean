import Derived.Test.YtnkkkihgljbllaaDoorCY5
import Derived.Test.YtnkkkihgljbllaaDoorCXG
import Derived.Test.YtnkkkihgljbllaaDoorCQ9
import Derived.Test.YtnkkkihgljbllaaDoorCT7
import Derived.Test.YtnkkkihgljbllaaDoorRows
import Derived.Lib.LaidTab
/- TextNear: the law's tree -/
namespace Go.Lev
set_option linter.unusedSimpArgs false
set_option linter.unusedVariables false
open Go.RowKit
open Go.Proofs.Tryd (prog)
set_option maxRecDepth 100000
noncomputable section
def He:Cx:=eP [(8,BW),(12,Cg),(13,Cb),(11,jm DA),(10,BZ)]
abbrev GS:List Nat:=[8]
theorem PQ (nk:Nat) (at_ b h:Int) (ks:al) (K:Pk):(bc prog He 60 71 ((sp prog 4).drop 0) (cO [.slo 0 0 nk 0,.int .u16 at_,.int .u8 b,.int .u8 h]) (ai [.ro ks] aq) (vK GS K))=(
 ck (dm dZ) <|
 ck (tA nk ks 40) <|
 ck (dm dZ) <|
 ck (ku (gN ks 40 false) (gW ks 40 false)) <|
 ck (dm dZ) <|
 ck (ku (gN ks 40 false) (gW ks 40 false)) <|
 cond (bA .neq (bJ (gW ks 40 false)) (bJ (gW ks 40 false))) (K .ret [.b false] [some (.ro ks),sC (gW ks 40 false) 5,sN [.slo 1 0 (gN ks 40 false) 0]] aq) (cond (bA .eql (bJ (gW ks 40 false)) []) (K .ret [.b false] [some (.ro ks),sC (gW ks 40 false) 5,sN [.slo 1 0 (gN ks 40 false) 0]] aq) (ck (ad .neq (↑(am (bJ (gW ks 40 false)))) 0) <|
 ck (ph [.int .u8 b]) <|
 cond (ad .eql (au .rem .u8 h 3) 0) (ck (b9 (au .rem .i64 (ay .i64 at_) ↑(am (bJ (gW ks 40 false))))) <|
 ck (ag (ae (au .rem .i64 (ay .i64 at_) ↑(am (bJ (gW ks 40 false))))) (am (bJ (gW ks 40 false)))) <|
 ck (ag (aa (am (aY (bJ (gW ks 40 false)) 0 (ae (au .rem .i64 (ay .i64 at_) ↑(am (bJ (gW ks 40 false))))))) 1) 1000000000) <|
 ck (b9 (au .add .i64 (au .rem .i64 (ay .i64 at_) ↑(am (bJ (gW ks 40 false)))) 1)) <|
 ck (ag (ae (au .add .i64 (au .rem .i64 (ay .i64 at_) ↑(am (bJ (gW ks 40 false)))) 1)) (am (bJ (gW ks 40 false)))) <|
 ck (ag (am (bJ (gW ks 40 false))) (am (bJ (gW ks 40 false)))) <|
 ck (ag (aa (am (aA (aY (bJ (gW ks 40 false)) 0 (ae (au .rem .i64 (ay .i64 at_) ↑(am (bJ (gW ks 40 false)))))) (kD [.int .u8 b]))) (am (aY (bJ (gW ks 40 false)) (ae (au .add .i64 (au .rem .i64 (ay .i64 at_) ↑(am (bJ (gW ks 40 false)))) 1)) (am (bJ (gW ks 40 false)))))) 1000000000) <|
 ck (dm dZ) <|
 ck (ag (am (aA (aA (aY (bJ (gW ks 40 false)) 0 (ae (au .rem .i64 (ay .i64 at_) ↑(am (bJ (gW ks 40 false)))))) (kD [.int .u8 b])) (aY (bJ (gW ks 40 false)) (ae (au .add .i64 (au .rem .i64 (ay .i64 at_) ↑(am (bJ (gW ks 40 false)))) 1)) (am (bJ (gW ks 40 false)))))) 4000) <|
 K .ret [.b true] [some (.ro ks),sC (gW ks 40 false) 5,sN [.slo 1 0 (gN ks 40 false) 0],sN [.int .u8 b]] aq) (cond (ad .eql (au .rem .u8 h 3) 1) (ck (b9 (au .rem .i64 (ay .i64 at_) ↑(am (bJ (gW ks 40 false))))) <|
 ck (ag (ae (au .rem .i64 (ay .i64 at_) ↑(am (bJ (gW ks 40 false))))) (am (bJ (gW ks 40 false)))) <|
 ck (ag (aa (am (aY (bJ (gW ks 40 false)) 0 (ae (au .rem .i64 (ay .i64 at_) ↑(am (bJ (gW ks 40 false))))))) 1) 1000000000) <|
 ck (b9 (au .rem .i64 (ay .i64 at_) ↑(am (bJ (gW ks 40 false))))) <|
 ck (ag (ae (au .rem .i64 (ay .i64 at_) ↑(am (bJ (gW ks 40 false))))) (am (bJ (gW ks 40 false)))) <|
 ck (ag (am (bJ (gW ks 40 false))) (am (bJ (gW ks 40 false)))) <|
 ck (ag (aa (am (aA (aY (bJ (gW ks 40 false)) 0 (ae (au .rem .i64 (ay .i64 at_) ↑(am (bJ (gW ks 40 false)))))) (kD [.int .u8 b]))) (am (aY (bJ (gW ks 40 false)) (ae (au .rem .i64 (ay .i64 at_) ↑(am (bJ (gW ks 40 false))))) (am (bJ (gW ks 40 false)))))) 1000000000) <|
 ck (dm dZ) <|
 ck (ag (am (aA (aA (aY (bJ (gW ks 40 false)) 0 (ae (au .rem .i64 (ay .i64 at_) ↑(am (bJ (gW ks 40 false)))))) (kD [.int .u8 b])) (aY (bJ (gW ks 40 false)) (ae (au .rem .i64 (ay .i64 at_) ↑(am (bJ (gW ks 40 false))))) (am (bJ (gW ks 40 false)))))) 4000) <|
 K .ret [.b true] [some (.ro ks),sC (gW ks 40 false) 5,sN [.slo 1 0 (gN ks 40 false) 0],sN [.int .u8 b]] aq) (ck (b9 (au .rem .i64 (ay .i64 at_) ↑(am (bJ (gW ks 40 false))))) <|
 ck (ag (ae (au .rem .i64 (ay .i64 at_) ↑(am (bJ (gW ks 40 false))))) (am (bJ (gW ks 40 false)))) <|
 ck (b9 (au .add .i64 (au .rem .i64 (ay .i64 at_) ↑(am (bJ (gW ks 40 false)))) 1)) <|
 ck (ag (ae (au .add .i64 (au .rem .i64 (ay .i64 at_) ↑(am (bJ (gW ks 40 false)))) 1)) (am (bJ (gW ks 40 false)))) <|
 ck (ag (am (bJ (gW ks 40 false))) (am (bJ (gW ks 40 false)))) <|
 ck (ag (aa (am (aY (bJ (gW ks 40 false)) 0 (ae (au .rem .i64 (ay .i64 at_) ↑(am (bJ (gW ks 40 false))))))) (am (aY (bJ (gW ks 40 false)) (ae (au .add .i64 (au .rem .i64 (ay .i64 at_) ↑(am (bJ (gW ks 40 false)))) 1)) (am (bJ (gW ks 40 false)))))) 1000000000) <|
 ck (dm dZ) <|
 ck (ag (am (aA (aY (bJ (gW ks 40 false)) 0 (ae (au .rem .i64 (ay .i64 at_) ↑(am (bJ (gW ks 40 false)))))) (aY (bJ (gW ks 40 false)) (ae (au .add .i64 (au .rem .i64 (ay .i64 at_) ↑(am (bJ (gW ks 40 false)))) 1)) (am (bJ (gW ks 40 false)))))) 4000) <|
 K .ret [.b true] [some (.ro ks),sC (gW ks 40 false) 5,sN [.slo 1 0 (gN ks 40 false) 0],sN [.int .u8 b]] aq))))):=ak
theorem Hf {n:Int} (h0:0≤n) (h1:n≤40):(aE n).length≤2:=by
 rw [aE,Lib.decDigits_length];exact Dy 1 _ ab
theorem Sj (n:Int):(fP n).length≤10:=by
 have hc:∀ m:Nat,(dj m).length≤10:=fun m=>by
  unfold dj; split <;> simp
 exact hc _
theorem Rv (op:Int):(bB op).length≤6:=by
 have hc:∀ m:Nat,(jO m).length≤6:=fun m=>by
  unfold jO; split <;> simp
 exact hc _
theorem De {s n:Int} (h0:0≤n) (h1:n≤40):(eX s n).length≤11:=by
 have a:=Hf h0 h1; have b:=Sj n;unfold eX dp;split
 ·simp
 ·split
  ·simp; omega
  ·split
   ·simp; omega
   ·split <;> simp <;> omega
theorem Th {op a b c n:Int} (h:cM op a b c n=true) (hn:0≤n∧n≤18446744073709551615):(dM op a b c n).length≤70:=by
 obtain⟨⟨o1,o2⟩,⟨a1,a2⟩,⟨b1,b2⟩,c1,c2⟩:=uZ h;have sa:=De (s:=fA op) a1 a2; have sb:=De (s:=fB op) b1 b2; have sc:=De (s:=fC op) c1 c2; have sd:=qt (s:=fD op) hn.1 hn.2;have ln:=Rv op;unfold dM;simp only [cg];omega
theorem Hh (b:Bool) (k:Nat) (hk:k≤40) (x y:UInt8):(nX b k [x,y]).length≤5:=by
 have:=Hf (n:=(k:Int)) ab ab;unfold nX; split <;> simp <;> omega
theorem Jh {L:List bo} (h:jd L) (hb:∀ x∈L,jU x):∀ k,k≤L.length→(dD L k).length≤76 * k
 | 0,_=>by simp [dD]
 | k+1,hk=>by
   have i:=Jh h hb k ab;have hx:L[k]∈L:=iw ab;have l1:(zh L[k]).length≤70:=Th (h.2 _ hx).1 (by have:=(hb _ hx).2.2.2.2; exact this);have l2:=Hh (dA L k) k (by have:=h.1; omega) 58 32;rw [vX ab];simp only [cg,cZ,eU];omega
theorem Vo {L:List bo} (hb:∀ x∈L,jU x):(bJ (aj aW L)).length≤3100:=by
 by_cases h:jd L
 ·rw [AA h,lH];have i:=Jh h hb L.length (aR _);have l2:=Hh (dA L L.length) L.length h.1 58 10;have:=h.1;simp only [cg];omega
 ·rw [Fg h]; simp
theorem zQ {op a b c n:Int} (h1:0≤op∧op≤100) (h2:0≤a∧a≤2000) (h3:0≤b∧b≤2000) (h4:0≤c∧c≤2000) (h5:0≤n∧n≤18446744073709551615):jU ⟨op,a,b,c,n⟩:=by
 have e1:IntKind.min .i64 = -9223372036854775808:=rfl;have e2:IntKind.max .i64=9223372036854775807:=rfl;have e3:IntKind.min .u64=0:=rfl;have e4:IntKind.max .u64=18446744073709551615:=rfl;refine⟨⟨?_,?_⟩,⟨?_,?_⟩,⟨?_,?_⟩,⟨?_,?_⟩,?_,?_⟩ <;> simp only [e1,e2,e3,e4] <;> omega
theorem T4 {w a b c n:Int} (hn:0≤n∧n≤18446744073709551615):jU (gX w a b c n):=by
 have wa:=jY (a:=a) (lo:=0) (hi:=6) ab;have wb:=jY (a:=b) (lo:=0) (hi:=6) ab;have wc:=jY (a:=c) (lo:=0) (hi:=6) ab;have wd:=jY (a:=c) (lo:=6) (hi:=15) ab;have we:=jY (a:=c) (lo:=0) (hi:=3) ab;have wf:=jY (a:=ay .i64 (au .rem .u64 n 64)) (lo:=0) (hi:=4) ab;have hr:0≤au .rem .u64 n 20∧au .rem .u64 n 20≤18446744073709551615:=by
  rw [AI _ _ _ ab,Int.tmod_eq_emod_of_nonneg hn.1]; omega
 have ha:au .add .i64 3 (az (ay .i64 (au .rem .u64 n 64)) 0 4)=3+az (ay .i64 (au .rem .u64 n 64)) 0 4:=gb ab ab;unfold gX xg;rw [ha]
 repeat' (split)
 all_goals (refine zQ ?_ ?_ ?_ ?_ ?_ <;> omega)
theorem Lj {k:Int} (h:0≤k∧k≤100):jU (I1 k):=zQ h ab ab ab ab
def kU (l:List bo):Prop:=∀ x∈l,jU x
theorem yH {a b:List bo} (h:kU a) (k:kU b):kU (a++b):=fun x hx=>(gz.1 hx).elim (h x) (k x)
theorem FM {x:bo} (h:jU x):kU [x]:=fun y hy=>by rw [k_.1 hy]; exact h
theorem Fl {x y:bo} (h:jU x) (k:jU y):kU [x,y]:=fun z hz=>by
 rcases eT.1 hz with rfl | hz
 ·exact h
 ·rw [k_.1 hz]; exact k
theorem Iy {l:List bo} {o:List Int} (h:kU l):kU (gP l o).1:=by
 unfold gP;split
 ·exact wj
 ·split
  iterate 2
   ·exact wj
theorem Fu {v:Int} {n:Nat} (hv:0≤v∧v≤6) (hn:n≤1900):jU ⟨13,v,0,(n:Int),0⟩:=zQ ab ab ab ab ab
theorem S5 {calm:Bool} {x:dQ} {l:List bo} {o:List Int} (hx:0≤x.n∧x.n≤18446744073709551615) (hl:l.length≤1000) (h:kU l):kU (eN calm x l o).1:=by
 have wa:=jY (a:=x.a) (lo:=0) (hi:=6) ab;have wb:=jY (a:=x.b) (lo:=0) (hi:=6) ab;have hs:=T4 (w:=x.w) (a:=x.a) (b:=x.b) (c:=x.c) hx;unfold eN;split
 ·exact wj
 split
 ·exact wj
 split
 ·exact Iy h
 split
 ·exact wj
 split
 ·exact BA
 split
 ·exact BA
 split
 ·exact BA
 split
 ·exact yH h (Fl (Fu ab ab) hs)
 split
 ·exact yH h (Fl hs (Fu ab ab))
 ·exact yH h (FM hs)
theorem HP {m:Int} {calm:Bool} (hm:m≤1000):∀ (ks:List dQ) (l:List bo) (o:List Int),(∀ x∈ks,0≤x.n∧x.n≤18446744073709551615)→kU l→kU (gL m calm ks l o).1
 | [],l,o,_,h=>h
 | x::r,l,o,hk,h=>by
   unfold gL;split
   ·exact h
   ·exact HP hm r _ _ (fun y hy=>hk y (by simp [hy])) (S5 (hk x aC) ab h)
theorem HM:∀ (f:Nat) (l:List bo) (o:List Int),kU l→kU (gC f l o)
 | 0,l,o,h=>h
 | f+1,l,o,h=>by
   unfold gC;split
   ·exact h
   ·exact HM f _ _ (Iy h)
theorem QX {ks:List dQ} {m:Int} {calm:Bool} (hm:m≤1000) (hk:∀ x∈ks,0≤x.n∧x.n≤18446744073709551615):kU (gF ks m calm):=by
 unfold gF;split
 ·exact FM (zQ ab ab ab ab ab)
 ·exact HM _ _ _ (HP hm _ _ _ hk fun x hx=>by simp at hx)
abbrev rh (x:bo):Bool:=cM x.op x.a x.b x.c x.n
theorem HQ {m:Int} {calm:Bool} {n:Nat} (hm:m≤(n:Int)):∀ (ks:List dQ) (l:List bo) (o:List Int),o.length≤5→l.length+2 * o.length≤n→(gL m calm ks l o).2.length≤5∧(gL m calm ks l o).1.length+2 * (gL m calm ks l o).2.length≤n
 | [],l,o,h1,h2=>⟨h1,h2⟩
 | x::r,l,o,h1,h2=>by
   rw [gL];split
   ·exact⟨h1,h2⟩
   ·have:=DW (calm:=calm) (x:=x) (l:=l) (o:=o) (n:=n) h1 ab;exact HQ hm r _ _ this.1 this.2.1
theorem HN:∀ (f:Nat) (l:List bo) (o:List Int),(gC f l o).length≤l.length+il o
 | 0,l,o=>by rw [gC]; omega
 | f+1,l,o=>by
   rw [gC];split
   ·omega
   ·rename_i h;rcases AO o with rfl | ⟨o2,y,rfl⟩
    ·exact absurd rfl h
    ·have h1:=HN f (gP l (o2++[y])).1 (gP l (o2++[y])).2;have h2:=DE (l:=l) (o':=o2) (x:=y);omega
theorem QY {ks:List dQ} {m:Int} {calm:Bool} {n:Nat} (hm:m≤(n:Int)) (h1:1≤n):(gF ks m calm).length≤n:=by
 have h2:=HQ (calm:=calm) hm ks [] [] aC aC;have h3:=HN 20 (gL m calm ks [] []).1 (gL m calm ks [] []).2;have h4:=DX (gL m calm ks [] []).2;unfold gF;split
 ·simpa using h1
 ·omega
theorem L7 {k:Int} (h:k=14∨k=15∨k=16∨k=17∨k=18∨k=19∨k=20∨k=22):rh (I1 k)=true:=by
 rcases h with rfl | rfl | rfl | rfl | rfl | rfl | rfl | rfl
 ·exact(CP _ _ _ _).2 oN
 ·exact(CQ _ _ _ _).2 oN
 ·exact(CR _ _ _ _).2 oN
 ·exact(CU _ _ _ _).2 oN
 ·exact(CV _ _ _ _).2 oN
 ·exact(CX _ _ _ _).2 oN
 ·exact(CY _ _ _ _).2 oN
 ·exact(C0 _ _ _ _).2 oN
theorem Iz (w a b c n:Int):(gX w a b c n).op < 12∨19 < (gX w a b c n).op:=by
 have h4:=jY (a:=ay .i64 (au .rem .u64 n 64)) (lo:=0) (hi:=4) iZ;have e:au .add .i64 3 (az (ay .i64 (au .rem .u64 n 64)) 0 4)=3+az (ay .i64 (au .rem .u64 n 64)) 0 4:=gb ab ab;unfold gX xg
 repeat' split
 all_goals first | (left; dsimp only; omega) | (right; dsimp only; omega)
theorem JB (w a b c n:Int):rh (gX w a b c n)=true:=by
 have h4:=jY (a:=ay .i64 (au .rem .u64 n 64)) (lo:=0) (hi:=4) iZ;have e:au .add .i64 3 (az (ay .i64 (au .rem .u64 n 64)) 0 4)=3+az (ay .i64 (au .rem .u64 n 64)) 0 4:=gb ab ab;have ha:=jY (a:=a) (lo:=0) (hi:=6) iZ;have hb:=jY (a:=b) (lo:=0) (hi:=6) iZ;have hc:=jY (a:=c) (lo:=0) (hi:=6) iZ;have hc3:=jY (a:=c) (lo:=0) (hi:=3) iZ;have hc15:=jY (a:=c) (lo:=6) (hi:=15) iZ;unfold gX xg rh;split
 ·exact Gi
 split
 ·exact Gi
 split
 ·dsimp only; exact(Cs _ _ _ _).2 ⟨ab,ab,ab,ab,ab,ab,.inr rfl⟩
 split
 ·dsimp only; rw [e];generalize az (ay .i64 (au .rem .u64 n 64)) 0 4=v at *;rcases(show v=0∨v=1∨v=2∨v=3∨v=4 by omega) with rfl | rfl | rfl | rfl | rfl
  ·exact(Cr _ _ _ _).2 ⟨ab,ab,ab,ab,ab,ab,.inr rfl⟩
  ·exact(Cq _ _ _ _).2 ⟨ab,ab,ab,ab,ab,ab,.inr rfl⟩
  ·exact(Cp _ _ _ _).2 ⟨ab,ab,ab,ab,ab,ab,.inr rfl⟩
  ·exact(Co _ _ _ _).2 ⟨ab,ab,ab,ab,ab,ab,.inr rfl⟩
  ·exact(Cn _ _ _ _).2 ⟨ab,ab,ab,ab,ab,ab,.inr rfl⟩
 split
 ·exact Gh
 split
 ·exact Gg
 split
 ·exact Gh
 split
 ·exact Gg
 split
 ·dsimp only; exact(CM _ _ _ _).2 ⟨ab,ab,ab,ab,ab,ab,.inr rfl⟩
 split
 ·dsimp only; exact(CN _ _ _ _).2 ⟨ab,ab,ab,ab,ab,ab,.inr rfl⟩
 ·dsimp only; exact(CZ _ _ _ _).2 ⟨ab,ab,ab,ab,ab,ab,.inr rfl⟩
theorem Wn {a:Int} {c:Nat} (hc:c≤40):rh ⟨13,az a 0 6,0,(c:Int),0⟩=true:=by
 have ha:=jY (a:=a) (lo:=0) (hi:=6) iZ;unfold rh; dsimp only; exact(CO _ _ _ _).2 ⟨ab,ab,ab,ab,ab,ab,.inr rfl⟩
def GQ (l:List bo):Prop:=∀ x∈l,ja l.length x
theorem Tt {N M:Nat} {x:bo} (h:ja N x) (k:N≤M):ja M x:=⟨h.1,fun e=>by have:=h.2 e; omega⟩
theorem AK {N:Nat} {x:bo} (h:rh x=true) (k:¬ (x.op=12∨x.op=13)):ja N x:=⟨h,fun e=>absurd e k⟩
theorem GQ.app {l t:List bo} (h:GQ l) (k:∀ x∈t,ja (l++t).length x):GQ (l++t):=fun x hx=>by
 rcases gz.1 hx with hx | hx
 ·exact Tt (h x hx) aC
 ·exact k x hx
theorem GQ.one {l:List bo} {x:bo} (h:GQ l) (hm:rh x=true) (k:¬ (x.op=12∨x.op=13)):GQ (l++[x]):=h.app fun y hy=>by
 rw [k_.1 hy]; exact AK hm k
theorem GQ.two {l:List bo} {x y:bo} (h:GQ l) (hx:ja (l.length+2) x) (hy:ja (l.length+2) y):GQ (l++[x,y]):=h.app fun z hz=>by
 have e:(l++[x,y]).length=l.length+2:=aC;rw [e];rcases eT.1 hz with rfl | hz
 ·exact hx
 ·rw [k_.1 hz]; exact hy
theorem GQ.shut {l:List bo} {o:List Int} (h:GQ l):GQ (gP l o).1:=by
 unfold gP;split
 ·exact wi
 ·split
  iterate 2
   ·exact wi
theorem FE {a:Int} {c N:Nat} (hc:c≤40) (hn:c≤N):ja N ⟨13,az a 0 6,0,(c:Int),0⟩:=⟨Wn hc,fun _=>by dsimp only; omega⟩
theorem JC (N:Nat) (w a b c n:Int):ja N (gX w a b c n):=AK (JB ..) (by have:=Iz w a b c n; omega)
theorem S4 {calm:Bool} {x:dQ} {l:List bo} {o:List Int} (h:GQ l) (hl:l.length≤38):GQ (eN calm x l o).1:=by
 unfold eN;split
 ·exact wi
 split
 ·exact wi
 split
 ·exact h.shut
 split
 ·exact wi
 split
 ·exact Bz
 split
 ·exact Bz
 split
 ·exact Bz
 split
 ·exact h.two (FE ab ab) (JC ..)
 split
 ·exact h.two (JC ..) (FE ab ab)
 ·exact h.one (JB ..) (by have:=Iz x.w x.a x.b x.c x.n; omega)
theorem HO {m:Int} {calm:Bool} (hm:m≤40):∀ (ks:List dQ) (l:List bo) (o:List Int),GQ l→o.length≤5→l.length+2 * o.length≤40→GQ (gL m calm ks l o).1
 | [],l,o,h,_,_=>h
 | x::r,l,o,h,h1,h2=>by
   rw [gL];split
   ·exact h
   ·have:=DW (calm:=calm) (x:=x) (l:=l) (o:=o) (n:=40) h1 ab;exact HO hm r _ _ (S4 h ab) this.1 this.2.1
theorem HL:∀ (f:Nat) (l:List bo) (o:List Int),GQ l→GQ (gC f l o)
 | 0,l,o,h=>h
 | f+1,l,o,h=>by
   rw [gC];split
   ·exact h
   ·exact HL f _ _ h.shut
theorem S2 {ks:List dQ} {m:Int} {calm:Bool} (hm:m≤40):jd (gF ks m calm):=by
 refine⟨QY (n:=40) ab iZ,?_⟩;have h1:=HO (calm:=calm) hm ks [] [] (fun x hx=>by cases hx) aC aC;have h3:GQ _:=HL 20 (gL m calm ks [] []).1 (gL m calm ks [] []).2 h1;unfold gF;split
 ·intro x hx;rw [k_.1 hx];exact AK (by unfold rh; dsimp only; exact(zd _ _ _ _).2 ⟨ab,ab,ab,ab,ab,ab,.inl rfl⟩) iZ
 ·exact h3
theorem S3 {ks:List dQ} {m:Int} {calm:Bool}:1≤(gF ks m calm).length:=by
 unfold gF;split
 ·simp
 ·rename_i h; exact List.length_pos_iff.2 h
def gtab:aL:=[(4,tp Go.Proofs.YtnkkkihgljbllaaDoor.Rows.laid_math_bits_deBruijn32tab),(5,tp Go.Proofs.YtnkkkihgljbllaaDoor.Rows.laid_math_bits_deBruijn64tab),(3,tp Go.Proofs.YtnkkkihgljbllaaDoor.Rows.laid_internal_strconv_uint64pow10),(0,cj),(2,cK),(1,gi)]
theorem S6 {W:World} (hg:Gl W gtab) (hp:dZ W):Gl W aq:=fun x hx=>by
 rcases eT.1 hx with h | hx
 ·exact hg x (by rw [h]; exact .tail _ (.tail _ (.tail _ (.head _))))
 rcases eT.1 hx with h | hx
 ·exact hg x (by rw [h]; exact .tail _ (.tail _ (.tail _ (.tail _ (.head _)))))
 rcases eT.1 hx with h | hx
 ·exact hg x (by rw [h]; exact .tail _ (.tail _ (.tail _ (.tail _ (.tail _ (.head _))))))
 rcases eT.1 hx with h | hx
 ·exact .inl ⟨dZ,by rw [h],hp⟩
 ·cases hx
theorem WK {P:Program} {W:World} {ps:List MemPlace} {n0 n1 name:String} {d0 d1:DataW Unit} {k:IntKind} {zs:List Int} {rest:List (String×DataW Unit)} {g:Nat} {t e:TypeId} {n:Nat}
  (hg:P.globalNamed name=some g) (hty:(P.globals[g]?).map (·.type)=some t) (ht:P.underlying t=some (.array n e)) (he:P.underlying e=some (.int k)) (hce:P.cellsOf e=1) (hct:P.cellsOf t=n)
  (h:DataW.LaidVars P W ((n0,d0)::(n1,d1)::(name,Lib.tabData k zs)::rest) ps):Lib.TabIs P W name k zs:=by
 obtain⟨_,_,_,_,_,_,_,_,_,_,h,_⟩:=h;obtain⟨_,_,_,_,_,_,_,_,_,_,h,_⟩:=h;obtain⟨g',t',cs,fuel,p,q,hg',ht',hvar,hd,_,_⟩:=h;obtain rfl:=Option.some.inj (hg.symm.trans hg');obtain rfl:=Option.some.inj (hty.symm.trans ht');unfold Lib.TabIs;rw [hvar,← Lib.cells_of_tab ht he hce hct hd]
theorem U3:cT prog (cv He):=fQ ⟨Uc,TE,TL,ju V4,T6,trivial⟩
structure PN (ks:al) (n:Nat) (L:List bo):Prop where
 kin:tA n ks 40=true
 i5:ku (gN ks 40 false) (gW ks 40 false)=true
 gw:gW ks 40 false=aj aW L
 gn:gN ks 40 false=L.length
 px:bJ (aj aW L)=lH L
 l1:1≤(lH L).length
 l2:(lH L).length≤3100
theorem RC (K:List dQ) (hn:K.length≤9223372036854775807) (hk:∀ x∈K,Ab x):PN (aj cR K) K.length (gF K 40 false):=by
 have hbd:kU (gF K 40 false):=QX ab fun x hx=>by have:=(hk x hx).2.2.2.2; exact this
 have ok:jd (gF K 40 false):=S2 ab;have px:=AA ok;have pl:=Vo hbd;have h1:1≤(lH (gF K 40 false)).length:=by
  have:=S3 (ks:=K) (m:=40) (calm:=false);unfold lH;rw [cg];obtain⟨m,hm⟩:∃ m,(gF K 40 false).length=m+1:=⟨_,(Nat.sub_add_cancel this).symm⟩;have h2:=vX (L:=gF K 40 false) (k:=m) ab;rw [hm,h2];simp only [cg,cZ]; omega
 exact⟨Fo.2 ⟨K,rfl,rfl,hn,ab⟩,vP.2 ⟨gF K 40 false,by rw [gW,vZ],by rw [gN,vZ],hbd⟩,by rw [gW,vZ],by rw [gN,vZ],px,h1,by rw [← px]; exact pl⟩
theorem xF (s:ap) (a b:Nat):(aY s a b).length≤s.length:=by simp [aY]; omega
theorem IT (s:ap) (i j:Nat) (h:i≤j):(aY s 0 i).length+(aY s j s.length).length≤s.length:=by
 simp only [aY,sr,List.length_drop]; omega
theorem TS {a:Int} {n:Nat} (h:0≤a∧a≤65535) (hn:1≤n) (h2:n≤5000):∃ i:Nat,i < n∧au .rem .i64 (ay .i64 a) ((n:Nat):Int)=(i:Int):=by
 obtain⟨m,rfl⟩:=Int.eq_ofNat_of_zero_le h.1;refine⟨m % n,Nat.mod_lt _ ab,?_⟩;rw [show ay .i64 ((m:Nat):Int)=(m:Int) from pz ab ab,AI _ _ _ ab];have e:Int.tmod ((m:Nat):Int) ((n:Nat):Int)=((m % n:Nat):Int):=by
  rw [Int.tmod_eq_emod_of_nonneg ab]; omega
 rw [e]
set_option maxHeartbeats 8000000 in
theorem V2 (A:List dQ) (at_ b h:Int) (na:A.length≤9223372036854775807) (ha:∀ x∈A,Ab x) (h1:0≤at_∧at_≤65535) :
  a0j prog 4 [.slo 0 0 A.length 0,.int .u16 at_,.int .u8 b,.int .u8 h] (ai [.ro (aj cR A)] aq) fun l st=>l=.b true∧st=ai [.ro (aj cR A)] aq:=by
 refine a0j.mono (a0j.i3y (Q:=fun l b=>l=.b true∧b=[.ro (aj cR A)]) 71 1 GS [8] ak rfl rfl rfl ?_) fun l s' ⟨b0,⟨h1,h2⟩,h3⟩=>⟨h1,by rw [h3,h2]⟩
 have nka:=A1 A;have fa:=RC A na ha;generalize aj cR A=ka at *;generalize A.length=na at *;generalize gF A 40 false=L at *;have n1:=oE L;have i5a:=fa.i5;rw [fa.gw,fa.gn] at i5a;have l1:=fa.l1; have l2:=fa.l2;refine SSp.vc U3 (n:=60) (bh (aS rfl)) ?_;rw [PQ];simp only [qG,fa.kin,fa.gw,fa.gn,fa.px,i5a,aw];generalize lH L=s at *;have hs:bA .eql s []=false:=by
  cases s with
  | nil=>simp at l1
  | cons b r=>rfl
 have hq:bA .neq s s=false:=by show(s != s)=false; simp
 obtain⟨i,hi,hr⟩:=TS h1 l1 ab;have e1:au .add .i64 ((i:Nat):Int) 1=((i+1:Nat):Int):=by rw [gb ab ab]; rfl
 have c0:ad .neq ((am s:Nat):Int) 0=true:=kA (show((s.length:Nat):Int)≠0 by omega);have hb:ph [.int .u8 b]=true:=rfl;have lb:(kD [.int .u8 b]).length=1:=rfl;have k1:=xF s 0 i; have k2:=xF s (i+1) s.length; have k3:=xF s i s.length;have nn:∀ k:Nat,b9 ((k:Nat):Int)=true:=eA;have y1:ag i (am s)=true:=aO (show i≤s.length by omega);have y2:ag (i+1) (am s)=true:=aO (show i+1≤s.length by omega);have y3:ag (am s) (am s)=true:=aO (aR _);have y4:ag (aa (am (aY s 0 i)) 1) 1000000000=true:=aO (show(aY s 0 i).length+1≤_ by omega);have hr':au .rem .i64 (ay .i64 at_) ((am s:Nat):Int)=(i:Int):=hr;have es:am s=s.length:=rfl;have q1:∀ j,ag (aa (am (aA (aY s 0 i) (kD [.int .u8 b]))) (am (aY s j (am s)))) 1000000000=true:=fun j=>aO (show(aY s 0 i++kD [.int .u8 b]).length+(aY s j s.length).length≤_ by
  have:=xF s j s.length; rw [cg,lb]; omega)
 have q2:∀ j,i≤j→ag (am (aA (aA (aY s 0 i) (kD [.int .u8 b])) (aY s j (am s)))) 4000=true:=fun j hij=>aO (show((aY s 0 i++kD [.int .u8 b])++aY s j s.length).length≤_ by
  have k4:=IT s i j hij;rw [cg,cg,lb]; omega)
 have q3:∀ j,ag (aa (am (aY s 0 i)) (am (aY s j (am s)))) 1000000000=true:=fun j=>aO (show(aY s 0 i).length+(aY s j s.length).length≤_ by
  have:=xF s j s.length; omega)
 have q4:∀ j,i≤j→ag (am (aA (aY s 0 i) (aY s j (am s)))) 4000=true:=fun j hij=>aO (show(aY s 0 i++aY s j s.length).length≤_ by
  have k4:=IT s i j hij;rw [cg]; omega)
 simp only [hs,hq,c0,hb,hr',e1,nn,ct,y1,y2,y3,y4,q1,q2 i (aR _),q2 (i+1) ab,q3,q4 (i+1) ab,aw,aD];cases ad .eql (au .rem .u8 h 3) 0 with
 | true=>exact Gf
 | false =>
   simp only [aD];cases ad .eql (au .rem .u8 h 3) 1 with
   | true=>exact Gf
   | false=>simp only [aD]; exact⟨trivial,rfl,.b true,[.ro _],[.id 0],⟨rfl,rfl⟩,by(exact zC)⟩
theorem VZ {H:Type} {enc:TypeId×Value→H} {W:World} {a:Option Addr} {len cap:Nat} {d:DataW H} {ps:List MemPlace} (h:DataW.Trod enc prog W 0 (fun _=>true) true 29 (.slice a len cap) d ps) :
  ∃ xs:List dQ,xs.length=len∧len≤9223372036854775807∧(∀ x∈xs,Ab x)∧a4n W (.slice a len cap) len (aj cR xs):=by
 obtain⟨xs,q1,q2,q3,q4⟩:=Vw (f:=cR) (ok:=Ab) tT ab Go.Proofs.Tryd.underlying29 ak h fun cs n x hl hx=>by
  have hf:=HI 8 (l:=[(0,.int .i64),(1,.int .i64),(2,.int .i64),(3,.int .i64),(4,.int .u64)]) ak hx;obtain⟨_,e0,z0,rfl,b0⟩:=hf (0,.int .i64) aC;obtain⟨_,e1,z1,rfl,b1⟩:=hf (1,.int .i64) aC;obtain⟨_,e2,z2,rfl,b2⟩:=hf (2,.int .i64) aC;obtain⟨_,e3,z3,rfl,b3⟩:=hf (3,.int .i64) aC;obtain⟨_,e4,z4,rfl,b4⟩:=hf (4,.int .u64) aC;refine⟨⟨z0,z1,z2,z3,z4⟩,⟨b0,b1,b2,b3,b4⟩,fun i l hi=>?_⟩
  match i with
  | 0=>simp at hi; subst hi; exact⟨rfl,_,e0,by simp only [VR]⟩
  | 1=>simp at hi; subst hi; exact⟨rfl,_,e1,by simp only [VR]⟩
  | 2=>simp at hi; subst hi; exact⟨rfl,_,e2,by simp only [VR]⟩
  | 3=>simp at hi; subst hi; exact⟨rfl,_,e3,by simp only [VR]⟩
  | 4=>simp at hi; subst hi; exact⟨rfl,_,e4,by simp only [VR]⟩
  | i+5=>simp at hi
 exact⟨xs,q1,q2,q3,q4⟩
theorem near_any {H:Type} {enc:TypeId×Value→H} {W:World} (hg:Gl W gtab) (hp:Lib.TabIs prog W "internal/strconv.uint64pow10" .u64 Lib.pow10Tab) (at_ b h:Int) (h1:IntKind.u16.min≤at_∧at_≤IntKind.u16.max) {a0:Option Addr} {len0 cap0:Nat} {d0:DataW H} {p0:List MemPlace} (h0:DataW.Trod enc prog W 0 (fun _=>true) true 29 (.slice a0 len0 cap0) d0 p0) :
  Calls prog 4 #[.slice a0 len0 cap0,.int .u16 at_,.int .u8 b,.int .u8 h] W fun e W'=>e=.returned (.b true)∧Below W.heap.size W W':=by
 obtain⟨A,ea,na,ka,ra⟩:=VZ h0;subst ea;refine a0j.top (rows:=[(.slice a0 A.length cap0,A.length,aj cR A)]) (g:=aq) (us:=[.slice a0 A.length cap0,.int .u16 at_,.int .u8 b,.int .u8 h]) ⟨ra,trivial⟩ (S6 hg hp) (fun r h=>?_) (a0j.mono (V2 A at_ b h na ka h1) fun l s h=>h.1);simp only [VRs,VR];exact⟨_,_,rfl,h 0 _ _ _ rfl,_,_,rfl,rfl,_,_,rfl,rfl,_,_,rfl,rfl,rfl⟩
theorem pow_tabN {W:World} {ps:List MemPlace} (hl:DataW.LaidVars prog W Go.Proofs.YtnkkkihgljbllaaDoor.Rows.textNearRow.laid ps):Lib.TabIs prog W "internal/strconv.uint64pow10" .u64 Lib.pow10Tab:=by
 refine WK (P:=prog) (ps:=ps) (n0 := "math/bits.deBruijn32tab") (n1 := "math/bits.deBruijn64tab") (d0:=Go.Proofs.YtnkkkihgljbllaaDoor.Rows.laid_math_bits_deBruijn32tab) (d1:=Go.Proofs.YtnkkkihgljbllaaDoor.Rows.laid_math_bits_deBruijn64tab) (rest:=[("quietus/code.forms",Go.Proofs.YtnkkkihgljbllaaDoor.Rows.laid_quietus_code_forms),("quietus/code.calls",Go.Proofs.YtnkkkihgljbllaaDoor.Rows.laid_quietus_code_calls),("quietus/quietusref13.names",Go.Proofs.YtnkkkihgljbllaaDoor.Rows.laid_quietus_quietusref13_names)]) (g:=3) (t:=150) (e:=23) (n:=20) ak ak ak ak ak ak ?_;have e:Go.Proofs.YtnkkkihgljbllaaDoor.Rows.textNearRow.laid=[("math/bits.deBruijn32tab",Go.Proofs.YtnkkkihgljbllaaDoor.Rows.laid_math_bits_deBruijn32tab),("math/bits.deBruijn64tab",Go.Proofs.YtnkkkihgljbllaaDoor.Rows.laid_math_bits_deBruijn64tab),("internal/strconv.uint64pow10",Lib.tabData .u64 Lib.pow10Tab),("quietus/code.forms",Go.Proofs.YtnkkkihgljbllaaDoor.Rows.laid_quietus_code_forms),("quietus/code.calls",Go.Proofs.YtnkkkihgljbllaaDoor.Rows.laid_quietus_code_calls),("quietus/quietusref13.names",Go.Proofs.YtnkkkihgljbllaaDoor.Rows.laid_quietus_quietusref13_names)]:=ak;rw [e] at hl;exact hl
end
end Go.Lev
