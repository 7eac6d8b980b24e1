import Derived.Test.YtnkkkihgljbllaaDoorCK7
import Derived.Test.YtnkkkihgljbllaaDoorCQ3
import Derived.Test.YtnkkkihgljbllaaDoorRows
/- text: label, printValue, printIns and the reference's Line: their trees -/
namespace Go.Lev
set_option linter.unusedSimpArgs false
set_option linter.unusedVariables false
open Go.RowKit
open Go.Proofs.Tryd (prog)
set_option maxRecDepth 100000
noncomputable section
abbrev aq:aL:=[(0,cj),(2,cK),(1,gi),(1000,[.fact dZ])]
abbrev nN (g2:Nat) (F2:al) (g3:Nat):aL:=[(0,cj),(2,cK),(g2,F2),(g3,[.fact dZ])]
def zO:Nat→Int×Int×Int×Int
 | 1=>(1,0,0,7)
 | 2=>(1,1,0,0)
 | 3=>(1,1,1,0)
 | 4=>(1,1,1,0)
 | 5=>(1,1,1,0)
 | 6=>(1,1,1,0)
 | 7=>(1,1,1,0)
 | 8=>(1,1,3,0)
 | 9=>(1,1,3,0)
 | 10=>(1,1,0,0)
 | 11=>(1,0,0,0)
 | 12=>(0,0,4,0)
 | 13=>(1,0,4,0)
 | 21=>(1,0,0,0)
 | 23=>(6,5,2,0)
 | _=>(0,0,0,0)
def fA (op:Int):Int:=(zO op.toNat).1
def fB (op:Int):Int:=(zO op.toNat).2.1
def fC (op:Int):Int:=(zO op.toNat).2.2.1
def fD (op:Int):Int:=(zO op.toNat).2.2.2
def zP:Gc:=fun args s=>match args,s.g with
 | [.int .i64 op],(g0,F0)::_=>cond (Nat.beq g0 0 && aU F0 cj) (some ([ad .leq 1 op,ad .leq op 23],.agg [.z (fA op),.z (fB op),.z (fC op),.z (fD op)],s)) none
 | _,_=>none
def zi:Gc:=fun args s=>match args with
 | [.int .i64 n]=>some ([ad .leq 0 n,ad .lss n 100],.str (108::aE n),s)
 | _=>none
def DG (k:Nat) (g:Gc):Gc:=fun args s=>match g args ⟨s.h,s.n,s.g.take k⟩ with
 | some (bs,l,s')=>some (bs,l,⟨s'.h,s'.n,s.g⟩)
 | none=>none
def KF:Cx:=eP [(40,Cw)]
def KE:Cx:=eP [(53,Dm),(26,zi),(54,Dt)]
def dp (s n:Int):ap:=if s=1∨s=2 then 114::aE n else if s=6 then fP n else if s=4 then 108::aE n else aE n
def oT (s n:Int):Bool:=@decide (0≤n∧n≤18446744073709551615∧(s=4→n < 100)∧(s=6→n < 100)) (Classical.propDecidable _)
def Ce:Gc:=fun args s=>match args,s.g with
 | [.int .i64 k,.int .u64 n],[(g0,F0),(g1,F1),(g2,F2),(g3,[.fact F])]=>cond (Nat.beq g0 0 && aU F0 cj && (Nat.beq g1 2 && aU F1 cK)) (some ([dm F,oT k n],.str (dp k n),s)) none
 | _,_=>none
def rG:Cx:=eP [(16,Dx),(41,zP),(42,Ce)]
def tk:Cx:=eP [(43,zx),(45,DG 3 D9),(17,jm z6)]
theorem NX (n:Int) (g:aL) (K:Fk):(fG prog KF 40 26 [.z n] (ai [] g) (vF K))=(
 ck (ad .leq 0 n) <|
 ck (ad .lss n 100) <|
 ck (ag (aa 1 (am (aE n))) 1000000000) <|
 K (.str (aA [108] (aE n))) [] g):=ak
theorem Pb (k n:Int) (g2:Nat) (F2:al) (g3:Nat) (K:Fk):(fG prog KE 40 42 [.z k,.int .u64 n] (ai [] (nN g2 F2 g3)) (vF K))=(
 cond (ad .eql k 1) (cond (ad .eql k 1) (ck (dm dZ) <|
 ck (ad .leq 0 n) <|
 ck (ad .leq n 18446744073709551615) <|
 ck (ag (aa 1 (am (aE n))) 1000000000) <|
 K (.str (aA [114] (aE n))) [] (nN g2 F2 g3)) (cond (ad .eql k 6) (K (.str (fP (ay .i64 n))) [] (nN g2 F2 g3)) (cond (ad .eql k 4) (ck (ad .leq 0 (ay .i64 n)) <|
 ck (ad .lss (ay .i64 n) 100) <|
 K (.str (108::aE (ay .i64 n))) [] (nN g2 F2 g3)) (ck (dm dZ) <|
 ck (ad .leq 0 n) <|
 ck (ad .leq n 18446744073709551615) <|
 K (.str (aE n)) [] (nN g2 F2 g3))))) (cond (ad .eql k 2) (ck (dm dZ) <|
 ck (ad .leq 0 n) <|
 ck (ad .leq n 18446744073709551615) <|
 ck (ag (aa 1 (am (aE n))) 1000000000) <|
 K (.str (aA [114] (aE n))) [] (nN g2 F2 g3)) (cond (ad .eql k 6) (K (.str (fP (ay .i64 n))) [] (nN g2 F2 g3)) (cond (ad .eql k 4) (ck (ad .leq 0 (ay .i64 n)) <|
 ck (ad .lss (ay .i64 n) 100) <|
 K (.str (108::aE (ay .i64 n))) [] (nN g2 F2 g3)) (ck (dm dZ) <|
 ck (ad .leq 0 n) <|
 ck (ad .leq n 18446744073709551615) <|
 K (.str (aE n)) [] (nN g2 F2 g3)))))):=ak
abbrev qW:List Nat:=[2,3,4,24,25]
abbrev GW (op:Int):LV:=.agg [.z (fA op),.z (fB op),.z (fC op),.z (fD op)]
abbrev pV (op a b c n:Int):a9:=[.cells [.z op,.z a,.z b,.z c,.int .u64 n] none,.cells [.int .u64 a,.int .u64 b,.int .u64 c,.int .u64 n] none]
abbrev lA (op:Int) (t:ap) (k:Int):List (Nat×LV):=[(2,.str []),(3,.str t),(4,.ptr 1 0),(24,GW op),(25,.z k)]
theorem Oy (op a b c n:Int) (K:Pk):(bc prog rG 40 41 (bS (sp prog 27) 0 4) (cO [.agg [.z op,.z a,.z b,.z c,.int .u64 n]]) (ai [] aq) (vK qW K))=(
 ck (ad .leq 1 op) <|
 ck (ad .leq op 23) <|
 K .normal [.str [],.str (bB op),.ptr 1 0,.agg [.z (fA op),.z (fB op),.z (fC op),.z (fD op)],.z 0] [sN [.z op,.z a,.z b,.z c,.int .u64 n],sN [.int .u64 (ay .u64 a),.int .u64 (ay .u64 b),.int .u64 (ay .u64 c),.int .u64 n]] aq):=ak
abbrev Kn (op:Int) (a:Int) (b:Int) (c:Int) (n:Int):bE:=[sN [.z op,.z a,.z b,.z c,.int .u64 n],sN [.int .u64 a,.int .u64 b,.int .u64 c,.int .u64 n]]
theorem Rx (op a b c n:Int) (t:ap) (K:Pk):(aX prog rG 40 41 (ce (bi (sp prog 27) 4)) (aF 41 (lA op t 0)) (ai (pV op a b c n) aq) (vK qW K))=(
 cond (ad .neq (fA op) 0) (ck (dm dZ) <|
 ck (oT (fA op) a) <|
 ck (ag (aa 1 (am (dp (fA op) a))) 1000000000) <|
 ck (ag (aa (am t) (am (aA [32] (dp (fA op) a)))) 1000000000) <|
 K .normal [.str [],.str (aA t (aA [32] (dp (fA op) a))),.ptr 1 0,.agg [.z (fA op),.z (fB op),.z (fC op),.z (fD op)],.z 1] (Kn op a b c n) aq) (K .normal [.str [],.str t,.ptr 1 0,.agg [.z (fA op),.z (fB op),.z (fC op),.z (fD op)],.z 1] (Kn op a b c n) aq)):=ak
abbrev Ko (op:Int) (a:Int) (b:Int) (c:Int) (n:Int):bE:=[sN [.z op,.z a,.z b,.z c,.int .u64 n],sN [.int .u64 a,.int .u64 b,.int .u64 c,.int .u64 n]]
theorem Ry (op a b c n:Int) (t:ap) (K:Pk):(aX prog rG 40 41 (ce (bi (sp prog 27) 4)) (aF 41 (lA op t 1)) (ai (pV op a b c n) aq) (vK qW K))=(
 cond (ad .neq (fB op) 0) (ck (dm dZ) <|
 ck (oT (fB op) b) <|
 ck (ag (aa 1 (am (dp (fB op) b))) 1000000000) <|
 ck (ag (aa (am t) (am (aA [32] (dp (fB op) b)))) 1000000000) <|
 K .normal [.str [],.str (aA t (aA [32] (dp (fB op) b))),.ptr 1 0,.agg [.z (fA op),.z (fB op),.z (fC op),.z (fD op)],.z 2] (Ko op a b c n) aq) (K .normal [.str [],.str t,.ptr 1 0,.agg [.z (fA op),.z (fB op),.z (fC op),.z (fD op)],.z 2] (Ko op a b c n) aq)):=ak
abbrev Kp (op:Int) (a:Int) (b:Int) (c:Int) (n:Int):bE:=[sN [.z op,.z a,.z b,.z c,.int .u64 n],sN [.int .u64 a,.int .u64 b,.int .u64 c,.int .u64 n]]
theorem Rz (op a b c n:Int) (t:ap) (K:Pk):(aX prog rG 40 41 (ce (bi (sp prog 27) 4)) (aF 41 (lA op t 2)) (ai (pV op a b c n) aq) (vK qW K))=(
 cond (ad .neq (fC op) 0) (ck (dm dZ) <|
 ck (oT (fC op) c) <|
 ck (ag (aa 1 (am (dp (fC op) c))) 1000000000) <|
 ck (ag (aa (am t) (am (aA [32] (dp (fC op) c)))) 1000000000) <|
 K .normal [.str [],.str (aA t (aA [32] (dp (fC op) c))),.ptr 1 0,.agg [.z (fA op),.z (fB op),.z (fC op),.z (fD op)],.z 3] (Kp op a b c n) aq) (K .normal [.str [],.str t,.ptr 1 0,.agg [.z (fA op),.z (fB op),.z (fC op),.z (fD op)],.z 3] (Kp op a b c n) aq)):=ak
abbrev Kq (op:Int) (a:Int) (b:Int) (c:Int) (n:Int):bE:=[sN [.z op,.z a,.z b,.z c,.int .u64 n],sN [.int .u64 a,.int .u64 b,.int .u64 c,.int .u64 n]]
theorem RA (op a b c n:Int) (t:ap) (K:Pk):(aX prog rG 40 41 (ce (bi (sp prog 27) 4)) (aF 41 (lA op t 3)) (ai (pV op a b c n) aq) (vK qW K))=(
 cond (ad .neq (fD op) 0) (ck (dm dZ) <|
 ck (oT (fD op) n) <|
 ck (ag (aa 1 (am (dp (fD op) n))) 1000000000) <|
 ck (ag (aa (am t) (am (aA [32] (dp (fD op) n)))) 1000000000) <|
 K .normal [.str [],.str (aA t (aA [32] (dp (fD op) n))),.ptr 1 0,.agg [.z (fA op),.z (fB op),.z (fC op),.z (fD op)],.z 4] (Kq op a b c n) aq) (K .normal [.str [],.str t,.ptr 1 0,.agg [.z (fA op),.z (fB op),.z (fC op),.z (fD op)],.z 4] (Kq op a b c n) aq)):=ak
theorem RB (op a b c n:Int) (t:ap) (K:Pk):(aX prog rG 40 41 (ce (bi (sp prog 27) 4)) (aF 41 (lA op t 4)) (ai (pV op a b c n) aq) (vK qW K))=(
 K (.exit 0) [.str [],.str t,.ptr 1 0,.agg [.z (fA op),.z (fB op),.z (fC op),.z (fD op)],.z 4] [sN [.z op,.z a,.z b,.z c,.int .u64 n],sN [.int .u64 a,.int .u64 b,.int .u64 c,.int .u64 n]] aq):=ak
theorem OA (op a b c n:Int) (t:ap) (K:Pk):(bc prog rG 40 41 ((sp prog 27).drop 5) (aF 41 (lA op t 4)) (ai (pV op a b c n) aq) (vK qW K))=(
 K .ret [.str t,.str t,.ptr 1 0,.agg [.z (fA op),.z (fB op),.z (fC op),.z (fD op)],.z 4] [sN [.z op,.z a,.z b,.z c,.int .u64 n],sN [.int .u64 a,.int .u64 b,.int .u64 c,.int .u64 n]] aq):=ak
abbrev gG (op:Int):LV:=.agg [.z (fA op),.z (fB op),.z (fC op),.z (fD op)]
theorem Nu (rest:aL):a0j prog 41 [.z 1] (ai [] (aZ rest)) fun l s=>l=gG 1∧s=ai [] (aZ rest):=a0j.lf (fuel:=300) rfl rfl ak
theorem Nv (rest:aL):a0j prog 41 [.z 2] (ai [] (aZ rest)) fun l s=>l=gG 2∧s=ai [] (aZ rest):=a0j.lf (fuel:=300) rfl rfl ak
theorem Nw (rest:aL):a0j prog 41 [.z 3] (ai [] (aZ rest)) fun l s=>l=gG 3∧s=ai [] (aZ rest):=a0j.lf (fuel:=300) rfl rfl ak
theorem Nx (rest:aL):a0j prog 41 [.z 4] (ai [] (aZ rest)) fun l s=>l=gG 4∧s=ai [] (aZ rest):=a0j.lf (fuel:=300) rfl rfl ak
theorem Ny (rest:aL):a0j prog 41 [.z 5] (ai [] (aZ rest)) fun l s=>l=gG 5∧s=ai [] (aZ rest):=a0j.lf (fuel:=300) rfl rfl ak
theorem Nz (rest:aL):a0j prog 41 [.z 6] (ai [] (aZ rest)) fun l s=>l=gG 6∧s=ai [] (aZ rest):=a0j.lf (fuel:=300) rfl rfl ak
theorem NA (rest:aL):a0j prog 41 [.z 7] (ai [] (aZ rest)) fun l s=>l=gG 7∧s=ai [] (aZ rest):=a0j.lf (fuel:=300) rfl rfl ak
theorem NB (rest:aL):a0j prog 41 [.z 8] (ai [] (aZ rest)) fun l s=>l=gG 8∧s=ai [] (aZ rest):=a0j.lf (fuel:=300) rfl rfl ak
theorem NC (rest:aL):a0j prog 41 [.z 9] (ai [] (aZ rest)) fun l s=>l=gG 9∧s=ai [] (aZ rest):=a0j.lf (fuel:=300) rfl rfl ak
theorem Qe (rest:aL):a0j prog 41 [.z 10] (ai [] (aZ rest)) fun l s=>l=gG 10∧s=ai [] (aZ rest):=a0j.lf (fuel:=300) rfl rfl ak
theorem Qf (rest:aL):a0j prog 41 [.z 11] (ai [] (aZ rest)) fun l s=>l=gG 11∧s=ai [] (aZ rest):=a0j.lf (fuel:=300) rfl rfl ak
theorem Qg (rest:aL):a0j prog 41 [.z 12] (ai [] (aZ rest)) fun l s=>l=gG 12∧s=ai [] (aZ rest):=a0j.lf (fuel:=300) rfl rfl ak
theorem Qh (rest:aL):a0j prog 41 [.z 13] (ai [] (aZ rest)) fun l s=>l=gG 13∧s=ai [] (aZ rest):=a0j.lf (fuel:=300) rfl rfl ak
theorem Qi (rest:aL):a0j prog 41 [.z 14] (ai [] (aZ rest)) fun l s=>l=gG 14∧s=ai [] (aZ rest):=a0j.lf (fuel:=300) rfl rfl ak
theorem Qj (rest:aL):a0j prog 41 [.z 15] (ai [] (aZ rest)) fun l s=>l=gG 15∧s=ai [] (aZ rest):=a0j.lf (fuel:=300) rfl rfl ak
theorem Qk (rest:aL):a0j prog 41 [.z 16] (ai [] (aZ rest)) fun l s=>l=gG 16∧s=ai [] (aZ rest):=a0j.lf (fuel:=300) rfl rfl ak
theorem Ql (rest:aL):a0j prog 41 [.z 17] (ai [] (aZ rest)) fun l s=>l=gG 17∧s=ai [] (aZ rest):=a0j.lf (fuel:=300) rfl rfl ak
theorem Qm (rest:aL):a0j prog 41 [.z 18] (ai [] (aZ rest)) fun l s=>l=gG 18∧s=ai [] (aZ rest):=a0j.lf (fuel:=300) rfl rfl ak
theorem Qn (rest:aL):a0j prog 41 [.z 19] (ai [] (aZ rest)) fun l s=>l=gG 19∧s=ai [] (aZ rest):=a0j.lf (fuel:=300) rfl rfl ak
theorem Qo (rest:aL):a0j prog 41 [.z 20] (ai [] (aZ rest)) fun l s=>l=gG 20∧s=ai [] (aZ rest):=a0j.lf (fuel:=300) rfl rfl ak
theorem Qp (rest:aL):a0j prog 41 [.z 21] (ai [] (aZ rest)) fun l s=>l=gG 21∧s=ai [] (aZ rest):=a0j.lf (fuel:=300) rfl rfl ak
theorem Qq (rest:aL):a0j prog 41 [.z 22] (ai [] (aZ rest)) fun l s=>l=gG 22∧s=ai [] (aZ rest):=a0j.lf (fuel:=300) rfl rfl ak
theorem Qr (rest:aL):a0j prog 41 [.z 23] (ai [] (aZ rest)) fun l s=>l=gG 23∧s=ai [] (aZ rest):=a0j.lf (fuel:=300) rfl rfl ak
theorem SO (op:Int) (h1:1≤op) (h2:op≤23) (rest:aL):a0j prog 41 [.z op] (ai [] (aZ rest)) fun l s=>l=gG op∧s=ai [] (aZ rest):=by
 have:op=1∨op=2∨op=3∨op=4∨op=5∨op=6∨op=7∨op=8∨op=9∨op=10∨op=11∨op=12∨op=13∨op=14∨op=15∨op=16∨op=17∨op=18∨op=19∨op=20∨op=21∨op=22∨op=23:=ab;rcases this with rfl | rfl | rfl | rfl | rfl | rfl | rfl | rfl | rfl | rfl | rfl | rfl | rfl | rfl | rfl | rfl | rfl | rfl | rfl | rfl | rfl | rfl | rfl
 ·exact Nu rest
 ·exact Nv rest
 ·exact Nw rest
 ·exact Nx rest
 ·exact Ny rest
 ·exact Nz rest
 ·exact NA rest
 ·exact NB rest
 ·exact NC rest
 ·exact Qe rest
 ·exact Qf rest
 ·exact Qg rest
 ·exact Qh rest
 ·exact Qi rest
 ·exact Qj rest
 ·exact Qk rest
 ·exact Ql rest
 ·exact Qm rest
 ·exact Qn rest
 ·exact Qo rest
 ·exact Qp rest
 ·exact Qq rest
 ·exact Qr rest
theorem Ie:bX prog 41 zP:=by
 intro args s bs l s' hg hb hfr;unfold zP at hg;split at hg
 ·rename_i op g0 F0 rest hgl;cases hc:(Nat.beq g0 0 && aU F0 cj) with
  | false=>exact eZ
  | true =>
    rw [hc] at hg;simp only [aw,a8,bn] at hg;obtain⟨rfl,rfl,rfl⟩:=hg;simp only [bg] at hc;obtain⟨k1,k2⟩:=bv.1 hb;obtain⟨k2,_⟩:=bv.1 k2;rw [iq,cu] at k1 k2;have e:s.g=aZ rest:=by rw [hgl,bt hc.1,bQ hc.2]; rfl
    exact a0j.i3i hfr rfl rfl (by rw [e]; exact SO op k1 k2 rest)
 ·cases hg
theorem Wc {f k:Nat} {g:Gc} (h:bX prog f g):bX prog f (DG k g):=by
 intro args s bs l s' hg hb hfr;unfold DG at hg;split at hg
 ·rename_i bs1 l1 t hg1;simp only [a8,bn] at hg;obtain⟨rfl,rfl,rfl⟩:=hg;have H:=h args ⟨s.h,s.n,s.g.take k⟩ _ _ _ hg1 hb hfr;intro W0 r w us hI ha;have hI0:Inv W0 r ⟨s.h,s.n,s.g.take k⟩ w:=⟨hI.below,hI.dom,hI.own,hI.fresh,hI.inj,hI.cells,hI.iter,fun x hx=>hI.gl x (List.mem_of_mem_take hx),hI.ro,hI.ob.step (Ren.le_refl r) (fun _ _ _ _ k=>k) (fun _ _ k1 k2=>.inl ⟨k1,k2⟩) (aR _) fun _ _=>rfl⟩;refine(H W0 r w us hI0 ha).mono ?_
  rintro e w' ⟨l2,s2,v,r',⟨rfl,rfl⟩,he,hv,hi,hE⟩
  exact GF
 ·cases hg
theorem SG:cT prog (cv KF):=fQ ⟨S_,trivial⟩
theorem HG {n:Int} (h0:0≤n) (h1:n≤18446744073709551615):ag (aa 1 (am (aE n))) 1000000000=true:=by
 have:=mg h0 h1;show ag (1+(aE n).length) 1000000000=true;exact aO ab
theorem NW (n:Int) (h0:0≤n) (h1:n < 100) (g:aL):a0j prog 26 [.z n] (ai [] g) fun l s=>l=.str (108::aE n)∧s=ai [] g:=by
 refine a0j.mono (a0j.vc (Q:=fun l b=>l=.str (108::aE n)∧b=[]) SG (n:=40) 0 rfl ?_) fun l s' ⟨b0,⟨h1,h2⟩,h3⟩=>⟨h1,by rw [h3,h2]⟩
 rw [NX,dX h0,ga h1,HG h0 ab];exact⟨rfl,_,[],[],⟨rfl,rfl⟩,by(exact zC)⟩
theorem Il:bX prog 26 zi:=by
 intro args s bs l s' hg hb hfr;unfold zi at hg;split at hg
 ·rename_i n;simp only [a8,bn] at hg;obtain⟨rfl,rfl,rfl⟩:=hg;obtain⟨k1,k2⟩:=bv.1 hb;obtain⟨k2,_⟩:=bv.1 k2;rw [iq,cu] at k1;rw [oz,cu] at k2;exact a0j.i3i hfr rfl rfl (NW n k1 k2 s.g)
 ·cases hg
theorem SH:cT prog (cv KE):=fQ ⟨SZ,Il,VN,trivial⟩
theorem EH {s n:Int}:oT s n=true↔0≤n∧n≤18446744073709551615∧(s=4→n < 100)∧(s=6→n < 100):=by simp only [oT,cu]
theorem Pa (k n:Int) (h:oT k n=true) (g2:Nat) (F2:al) (g3:Nat):a0j prog 42 [.z k,.int .u64 n] (ai [] (nN g2 F2 g3)) fun l s=>l=.str (dp k n)∧s=ai [] (nN g2 F2 g3):=by
 refine a0j.mono (a0j.vc (Q:=fun l b=>l=.str (dp k n)∧b=[]) SH (n:=40) 0 rfl ?_) fun l s' ⟨b0,⟨h1,h2⟩,h3⟩=>⟨h1,by rw [h3,h2]⟩
 obtain⟨h0,h1,h4,h6⟩:=EH.1 h;have d:=HG h0 h1;have f1:=qG; have l0:=dX h0; have l1:=dX h1;rw [Pb];by_cases c1:k=1
 ·subst c1;rw [show dp 1 n=114::aE n from aB (.inl rfl)];simp only [d,f1,l0,l1]
  (refine zR ?_)
  exact wk
 by_cases c2:k=2
 ·subst c2;rw [show dp 2 n=114::aE n from aB (.inr rfl)];simp only [d,f1,l0,l1]
  (refine zR ?_)
  exact wk
 by_cases c6:k=6
 ·subst c6;have hw:ay .i64 n=n:=pz ab (by have:=h6 rfl; omega);rw [show dp 6 n=fP n by rw [dp,av ab,aB rfl]];simp only [d,f1,l0,l1,hw]
  (refine zR ?_)
  exact wk
 by_cases c4:k=4
 ·subst c4;have h4:=h4 rfl;have hw:ay .i64 n=n:=pz ab ab;have l2:=ga h4;rw [show dp 4 n=108::aE n by rw [dp,av ab,av ab,aB rfl]];simp only [d,f1,l0,l1,hw,l2]
  (refine zR ?_)
  exact wk
 ·rw [show dp k n=aE n by rw [dp,av ab,av ab,av ab]];simp only [d,f1,l0,l1]
  (refine zR ?_)
  exact wk
theorem TG:bX prog 42 Ce:=by
 intro args s bs l s' hg hb hfr;unfold Ce at hg;split at hg
 ·rename_i k n g0 F0 g1 F1 g2 F2 g3 F hgl;cases hc:(Nat.beq g0 0 && aU F0 cj && (Nat.beq g1 2 && aU F1 cK)) with
  | false=>exact eZ
  | true =>
    rw [hc] at hg;simp only [aw,a8,bn] at hg;obtain⟨rfl,rfl,rfl⟩:=hg;simp only [bg] at hc;obtain⟨k1,k2⟩:=bv.1 hb;obtain⟨k2,_⟩:=bv.1 k2;have hF:=mP k1;subst hF;have e0:=bt hc.1.1;have e1:=bQ hc.1.2;have e2:=bt hc.2.1;have e3:=bQ hc.2.2;subst e0 e1 e2 e3;exact a0j.i3i hfr rfl rfl (by rw [hgl]; exact Pa k n k2 g2 F2 g3)
 ·cases hg
abbrev sM:List Nat:=[1,2,3,5,6,7]
abbrev q_ (op a b c n:Int):a9:=[.cells [.z op,.z a,.z b,.z c,.int .u64 n] none,.cells [.str (bB op),.z (rA op),.z (rB op),.z (rC op),.b (rD op)] none,.cells [.z a,.z b,.z c] none]
abbrev mC (t:ap) (k:Int):List (Nat×LV):=[(1,.ptr 0 0),(2,.str []),(3,.ptr 1 0),(5,.str t),(6,.ptr 2 0),(7,.z k)]
theorem NY (op a b c n:Int) (K:Pk):(bc prog tk 40 119 (bS (sp prog 30) 0 5) (cO [.agg [.z op,.z a,.z b,.z c,.int .u64 n]]) (ai [] aq) (vK sM K))=(
 K .normal [.ptr 0 0,.str [],.ptr 1 0,.str (bB op),.ptr 2 0,.z 0] [sN [.z op,.z a,.z b,.z c,.int .u64 n],sN [.str (bB op),.z (rA op),.z (rB op),.z (rC op),.b (rD op)],sN [.z a,.z b,.z c]] aq):=ak
abbrev iH (op:Int) (a:Int) (b:Int) (c:Int) (n:Int):bE:=[sN [.z op,.z a,.z b,.z c,.int .u64 n],sN [.str (bB op),.z (rA op),.z (rB op),.z (rC op),.b (rD op)],sN [.z a,.z b,.z c]]
theorem Rp (op a b c n:Int) (t:ap) (K:Pk):(aX prog tk 40 119 (ce (bi (sp prog 30) 5)) (aF 119 (mC t 0)) (ai (q_ op a b c n) aq) (vK sM K))=(
 cond (ad .lss (rA op) 0) (K .normal [.ptr 0 0,.str [],.ptr 1 0,.str t,.ptr 2 0,.z 1] (iH op a b c n) aq) (cond (ad .eql op 23) (ck (ag (aa (am t) 1) 1000000000) <|
 ck (ag (aa (am (aA t [32])) (am (fP a))) 1000000000) <|
 K .normal [.ptr 0 0,.str [],.ptr 1 0,.str (aA (aA t [32]) (fP a)),.ptr 2 0,.z 1] (iH op a b c n) aq) (cond (ad .eql op 8) (cond (ad .eql op 23) (cond (ad .eql op 12) (ck (ag (aa (am t) 2) 1000000000) <|
 ck (ad .leq 0 (ay .u64 a)) <|
 ck (ad .leq (ay .u64 a) 18446744073709551615) <|
 ck (ag (aa (am (aA t [32,114])) (am (aE (ay .u64 a)))) 1000000000) <|
 K .normal [.ptr 0 0,.str [],.ptr 1 0,.str (aA (aA t [32,114]) (aE (ay .u64 a))),.ptr 2 0,.z 1] (iH op a b c n) aq) (cond (ad .eql op 13) (ck (ag (aa (am t) 2) 1000000000) <|
 ck (ad .leq 0 (ay .u64 a)) <|
 ck (ad .leq (ay .u64 a) 18446744073709551615) <|
 ck (ag (aa (am (aA t [32,114])) (am (aE (ay .u64 a)))) 1000000000) <|
 K .normal [.ptr 0 0,.str [],.ptr 1 0,.str (aA (aA t [32,114]) (aE (ay .u64 a))),.ptr 2 0,.z 1] (iH op a b c n) aq) (ck (ag (aa (am t) 2) 1000000000) <|
 ck (ad .leq 0 (ay .u64 a)) <|
 ck (ad .leq (ay .u64 a) 18446744073709551615) <|
 ck (ag (aa (am (aA t [32,114])) (am (aE (ay .u64 a)))) 1000000000) <|
 K .normal [.ptr 0 0,.str [],.ptr 1 0,.str (aA (aA t [32,114]) (aE (ay .u64 a))),.ptr 2 0,.z 1] (iH op a b c n) aq))) (cond (ad .eql op 12) (ck (ag (aa (am t) 2) 1000000000) <|
 ck (ad .leq 0 (ay .u64 a)) <|
 ck (ad .leq (ay .u64 a) 18446744073709551615) <|
 ck (ag (aa (am (aA t [32,114])) (am (aE (ay .u64 a)))) 1000000000) <|
 K .normal [.ptr 0 0,.str [],.ptr 1 0,.str (aA (aA t [32,114]) (aE (ay .u64 a))),.ptr 2 0,.z 1] (iH op a b c n) aq) (cond (ad .eql op 13) (ck (ag (aa (am t) 2) 1000000000) <|
 ck (ad .leq 0 (ay .u64 a)) <|
 ck (ad .leq (ay .u64 a) 18446744073709551615) <|
 ck (ag (aa (am (aA t [32,114])) (am (aE (ay .u64 a)))) 1000000000) <|
 K .normal [.ptr 0 0,.str [],.ptr 1 0,.str (aA (aA t [32,114]) (aE (ay .u64 a))),.ptr 2 0,.z 1] (iH op a b c n) aq) (ck (ag (aa (am t) 2) 1000000000) <|
 ck (ad .leq 0 (ay .u64 a)) <|
 ck (ad .leq (ay .u64 a) 18446744073709551615) <|
 ck (ag (aa (am (aA t [32,114])) (am (aE (ay .u64 a)))) 1000000000) <|
 K .normal [.ptr 0 0,.str [],.ptr 1 0,.str (aA (aA t [32,114]) (aE (ay .u64 a))),.ptr 2 0,.z 1] (iH op a b c n) aq)))) (cond (ad .eql op 9) (cond (ad .eql op 23) (cond (ad .eql op 12) (ck (ag (aa (am t) 2) 1000000000) <|
 ck (ad .leq 0 (ay .u64 a)) <|
 ck (ad .leq (ay .u64 a) 18446744073709551615) <|
 ck (ag (aa (am (aA t [32,114])) (am (aE (ay .u64 a)))) 1000000000) <|
 K .normal [.ptr 0 0,.str [],.ptr 1 0,.str (aA (aA t [32,114]) (aE (ay .u64 a))),.ptr 2 0,.z 1] (iH op a b c n) aq) (cond (ad .eql op 13) (ck (ag (aa (am t) 2) 1000000000) <|
 ck (ad .leq 0 (ay .u64 a)) <|
 ck (ad .leq (ay .u64 a) 18446744073709551615) <|
 ck (ag (aa (am (aA t [32,114])) (am (aE (ay .u64 a)))) 1000000000) <|
 K .normal [.ptr 0 0,.str [],.ptr 1 0,.str (aA (aA t [32,114]) (aE (ay .u64 a))),.ptr 2 0,.z 1] (iH op a b c n) aq) (ck (ag (aa (am t) 2) 1000000000) <|
 ck (ad .leq 0 (ay .u64 a)) <|
 ck (ad .leq (ay .u64 a) 18446744073709551615) <|
 ck (ag (aa (am (aA t [32,114])) (am (aE (ay .u64 a)))) 1000000000) <|
 K .normal [.ptr 0 0,.str [],.ptr 1 0,.str (aA (aA t [32,114]) (aE (ay .u64 a))),.ptr 2 0,.z 1] (iH op a b c n) aq))) (cond (ad .eql op 12) (ck (ag (aa (am t) 2) 1000000000) <|
 ck (ad .leq 0 (ay .u64 a)) <|
 ck (ad .leq (ay .u64 a) 18446744073709551615) <|
 ck (ag (aa (am (aA t [32,114])) (am (aE (ay .u64 a)))) 1000000000) <|
 K .normal [.ptr 0 0,.str [],.ptr 1 0,.str (aA (aA t [32,114]) (aE (ay .u64 a))),.ptr 2 0,.z 1] (iH op a b c n) aq) (cond (ad .eql op 13) (ck (ag (aa (am t) 2) 1000000000) <|
 ck (ad .leq 0 (ay .u64 a)) <|
 ck (ad .leq (ay .u64 a) 18446744073709551615) <|
 ck (ag (aa (am (aA t [32,114])) (am (aE (ay .u64 a)))) 1000000000) <|
 K .normal [.ptr 0 0,.str [],.ptr 1 0,.str (aA (aA t [32,114]) (aE (ay .u64 a))),.ptr 2 0,.z 1] (iH op a b c n) aq) (ck (ag (aa (am t) 2) 1000000000) <|
 ck (ad .leq 0 (ay .u64 a)) <|
 ck (ad .leq (ay .u64 a) 18446744073709551615) <|
 ck (ag (aa (am (aA t [32,114])) (am (aE (ay .u64 a)))) 1000000000) <|
 K .normal [.ptr 0 0,.str [],.ptr 1 0,.str (aA (aA t [32,114]) (aE (ay .u64 a))),.ptr 2 0,.z 1] (iH op a b c n) aq)))) (cond (ad .eql op 23) (cond (ad .eql op 12) (ck (ag (aa (am t) 2) 1000000000) <|
 ck (ad .leq 0 (ay .u64 a)) <|
 ck (ad .leq (ay .u64 a) 18446744073709551615) <|
 ck (ag (aa (am (aA t [32,114])) (am (aE (ay .u64 a)))) 1000000000) <|
 K .normal [.ptr 0 0,.str [],.ptr 1 0,.str (aA (aA t [32,114]) (aE (ay .u64 a))),.ptr 2 0,.z 1] (iH op a b c n) aq) (cond (ad .eql op 13) (ck (ag (aa (am t) 2) 1000000000) <|
 ck (ad .leq 0 (ay .u64 a)) <|
 ck (ad .leq (ay .u64 a) 18446744073709551615) <|
 ck (ag (aa (am (aA t [32,114])) (am (aE (ay .u64 a)))) 1000000000) <|
 K .normal [.ptr 0 0,.str [],.ptr 1 0,.str (aA (aA t [32,114]) (aE (ay .u64 a))),.ptr 2 0,.z 1] (iH op a b c n) aq) (ck (ag (aa (am t) 2) 1000000000) <|
 ck (ad .leq 0 (ay .u64 a)) <|
 ck (ad .leq (ay .u64 a) 18446744073709551615) <|
 ck (ag (aa (am (aA t [32,114])) (am (aE (ay .u64 a)))) 1000000000) <|
 K .normal [.ptr 0 0,.str [],.ptr 1 0,.str (aA (aA t [32,114]) (aE (ay .u64 a))),.ptr 2 0,.z 1] (iH op a b c n) aq))) (cond (ad .eql op 12) (ck (ag (aa (am t) 2) 1000000000) <|
 ck (ad .leq 0 (ay .u64 a)) <|
 ck (ad .leq (ay .u64 a) 18446744073709551615) <|
 ck (ag (aa (am (aA t [32,114])) (am (aE (ay .u64 a)))) 1000000000) <|
 K .normal [.ptr 0 0,.str [],.ptr 1 0,.str (aA (aA t [32,114]) (aE (ay .u64 a))),.ptr 2 0,.z 1] (iH op a b c n) aq) (cond (ad .eql op 13) (ck (ag (aa (am t) 2) 1000000000) <|
 ck (ad .leq 0 (ay .u64 a)) <|
 ck (ad .leq (ay .u64 a) 18446744073709551615) <|
 ck (ag (aa (am (aA t [32,114])) (am (aE (ay .u64 a)))) 1000000000) <|
 K .normal [.ptr 0 0,.str [],.ptr 1 0,.str (aA (aA t [32,114]) (aE (ay .u64 a))),.ptr 2 0,.z 1] (iH op a b c n) aq) (ck (ag (aa (am t) 2) 1000000000) <|
 ck (ad .leq 0 (ay .u64 a)) <|
 ck (ad .leq (ay .u64 a) 18446744073709551615) <|
 ck (ag (aa (am (aA t [32,114])) (am (aE (ay .u64 a)))) 1000000000) <|
 K .normal [.ptr 0 0,.str [],.ptr 1 0,.str (aA (aA t [32,114]) (aE (ay .u64 a))),.ptr 2 0,.z 1] (iH op a b c n) aq)))))))):=ak
abbrev gy (op:Int) (a:Int) (b:Int) (c:Int) (n:Int):bE:=[sN [.z op,.z a,.z b,.z c,.int .u64 n],sN [.str (bB op),.z (rA op),.z (rB op),.z (rC op),.b (rD op)],sN [.z a,.z b,.z c]]
theorem Rq (op a b c n:Int) (t:ap) (K:Pk):(aX prog tk 40 119 (ce (bi (sp prog 30) 5)) (aF 119 (mC t 1)) (ai (q_ op a b c n) aq) (vK sM K))=(
 cond (ad .lss (rB op) 0) (K .normal [.ptr 0 0,.str [],.ptr 1 0,.str t,.ptr 2 0,.z 2] (gy op a b c n) aq) (cond (ad .eql op 23) (cond (ad .eql op 8) (cond (ad .eql op 23) (ck (ag (aa (am t) 1) 1000000000) <|
 ck (ad .leq 0 (ay .u64 b)) <|
 ck (ad .leq (ay .u64 b) 18446744073709551615) <|
 ck (ag (aa (am (aA t [32])) (am (aE (ay .u64 b)))) 1000000000) <|
 K .normal [.ptr 0 0,.str [],.ptr 1 0,.str (aA (aA t [32]) (aE (ay .u64 b))),.ptr 2 0,.z 2] (gy op a b c n) aq) (cond (ad .eql op 12) (ck (ag (aa (am t) 2) 1000000000) <|
 ck (ad .leq 0 (ay .u64 b)) <|
 ck (ad .leq (ay .u64 b) 18446744073709551615) <|
 ck (ag (aa (am (aA t [32,114])) (am (aE (ay .u64 b)))) 1000000000) <|
 K .normal [.ptr 0 0,.str [],.ptr 1 0,.str (aA (aA t [32,114]) (aE (ay .u64 b))),.ptr 2 0,.z 2] (gy op a b c n) aq) (cond (ad .eql op 13) (ck (ag (aa (am t) 2) 1000000000) <|
 ck (ad .leq 0 (ay .u64 b)) <|
 ck (ad .leq (ay .u64 b) 18446744073709551615) <|
 ck (ag (aa (am (aA t [32,114])) (am (aE (ay .u64 b)))) 1000000000) <|
 K .normal [.ptr 0 0,.str [],.ptr 1 0,.str (aA (aA t [32,114]) (aE (ay .u64 b))),.ptr 2 0,.z 2] (gy op a b c n) aq) (ck (ag (aa (am t) 2) 1000000000) <|
 ck (ad .leq 0 (ay .u64 b)) <|
 ck (ad .leq (ay .u64 b) 18446744073709551615) <|
 ck (ag (aa (am (aA t [32,114])) (am (aE (ay .u64 b)))) 1000000000) <|
 K .normal [.ptr 0 0,.str [],.ptr 1 0,.str (aA (aA t [32,114]) (aE (ay .u64 b))),.ptr 2 0,.z 2] (gy op a b c n) aq)))) (cond (ad .eql op 9) (cond (ad .eql op 23) (ck (ag (aa (am t) 1) 1000000000) <|
 ck (ad .leq 0 (ay .u64 b)) <|
 ck (ad .leq (ay .u64 b) 18446744073709551615) <|
 ck (ag (aa (am (aA t [32])) (am (aE (ay .u64 b)))) 1000000000) <|
 K .normal [.ptr 0 0,.str [],.ptr 1 0,.str (aA (aA t [32]) (aE (ay .u64 b))),.ptr 2 0,.z 2] (gy op a b c n) aq) (cond (ad .eql op 12) (ck (ag (aa (am t) 2) 1000000000) <|
 ck (ad .leq 0 (ay .u64 b)) <|
 ck (ad .leq (ay .u64 b) 18446744073709551615) <|
 ck (ag (aa (am (aA t [32,114])) (am (aE (ay .u64 b)))) 1000000000) <|
 K .normal [.ptr 0 0,.str [],.ptr 1 0,.str (aA (aA t [32,114]) (aE (ay .u64 b))),.ptr 2 0,.z 2] (gy op a b c n) aq) (cond (ad .eql op 13) (ck (ag (aa (am t) 2) 1000000000) <|
 ck (ad .leq 0 (ay .u64 b)) <|
 ck (ad .leq (ay .u64 b) 18446744073709551615) <|
 ck (ag (aa (am (aA t [32,114])) (am (aE (ay .u64 b)))) 1000000000) <|
 K .normal [.ptr 0 0,.str [],.ptr 1 0,.str (aA (aA t [32,114]) (aE (ay .u64 b))),.ptr 2 0,.z 2] (gy op a b c n) aq) (ck (ag (aa (am t) 2) 1000000000) <|
 ck (ad .leq 0 (ay .u64 b)) <|
 ck (ad .leq (ay .u64 b) 18446744073709551615) <|
 ck (ag (aa (am (aA t [32,114])) (am (aE (ay .u64 b)))) 1000000000) <|
 K .normal [.ptr 0 0,.str [],.ptr 1 0,.str (aA (aA t [32,114]) (aE (ay .u64 b))),.ptr 2 0,.z 2] (gy op a b c n) aq)))) (cond (ad .eql op 23) (ck (ag (aa (am t) 1) 1000000000) <|
 ck (ad .leq 0 (ay .u64 b)) <|
 ck (ad .leq (ay .u64 b) 18446744073709551615) <|
 ck (ag (aa (am (aA t [32])) (am (aE (ay .u64 b)))) 1000000000) <|
 K .normal [.ptr 0 0,.str [],.ptr 1 0,.str (aA (aA t [32]) (aE (ay .u64 b))),.ptr 2 0,.z 2] (gy op a b c n) aq) (cond (ad .eql op 12) (ck (ag (aa (am t) 2) 1000000000) <|
 ck (ad .leq 0 (ay .u64 b)) <|
 ck (ad .leq (ay .u64 b) 18446744073709551615) <|
 ck (ag (aa (am (aA t [32,114])) (am (aE (ay .u64 b)))) 1000000000) <|
 K .normal [.ptr 0 0,.str [],.ptr 1 0,.str (aA (aA t [32,114]) (aE (ay .u64 b))),.ptr 2 0,.z 2] (gy op a b c n) aq) (cond (ad .eql op 13) (ck (ag (aa (am t) 2) 1000000000) <|
 ck (ad .leq 0 (ay .u64 b)) <|
 ck (ad .leq (ay .u64 b) 18446744073709551615) <|
 ck (ag (aa (am (aA t [32,114])) (am (aE (ay .u64 b)))) 1000000000) <|
 K .normal [.ptr 0 0,.str [],.ptr 1 0,.str (aA (aA t [32,114]) (aE (ay .u64 b))),.ptr 2 0,.z 2] (gy op a b c n) aq) (ck (ag (aa (am t) 2) 1000000000) <|
 ck (ad .leq 0 (ay .u64 b)) <|
 ck (ad .leq (ay .u64 b) 18446744073709551615) <|
 ck (ag (aa (am (aA t [32,114])) (am (aE (ay .u64 b)))) 1000000000) <|
 K .normal [.ptr 0 0,.str [],.ptr 1 0,.str (aA (aA t [32,114]) (aE (ay .u64 b))),.ptr 2 0,.z 2] (gy op a b c n) aq)))))) (cond (ad .eql op 8) (cond (ad .eql op 23) (ck (ag (aa (am t) 1) 1000000000) <|
 ck (ad .leq 0 (ay .u64 b)) <|
 ck (ad .leq (ay .u64 b) 18446744073709551615) <|
 ck (ag (aa (am (aA t [32])) (am (aE (ay .u64 b)))) 1000000000) <|
 K .normal [.ptr 0 0,.str [],.ptr 1 0,.str (aA (aA t [32]) (aE (ay .u64 b))),.ptr 2 0,.z 2] (gy op a b c n) aq) (cond (ad .eql op 12) (ck (ag (aa (am t) 2) 1000000000) <|
 ck (ad .leq 0 (ay .u64 b)) <|
 ck (ad .leq (ay .u64 b) 18446744073709551615) <|
 ck (ag (aa (am (aA t [32,114])) (am (aE (ay .u64 b)))) 1000000000) <|
 K .normal [.ptr 0 0,.str [],.ptr 1 0,.str (aA (aA t [32,114]) (aE (ay .u64 b))),.ptr 2 0,.z 2] (gy op a b c n) aq) (cond (ad .eql op 13) (ck (ag (aa (am t) 2) 1000000000) <|
 ck (ad .leq 0 (ay .u64 b)) <|
 ck (ad .leq (ay .u64 b) 18446744073709551615) <|
 ck (ag (aa (am (aA t [32,114])) (am (aE (ay .u64 b)))) 1000000000) <|
 K .normal [.ptr 0 0,.str [],.ptr 1 0,.str (aA (aA t [32,114]) (aE (ay .u64 b))),.ptr 2 0,.z 2] (gy op a b c n) aq) (ck (ag (aa (am t) 2) 1000000000) <|
 ck (ad .leq 0 (ay .u64 b)) <|
 ck (ad .leq (ay .u64 b) 18446744073709551615) <|
 ck (ag (aa (am (aA t [32,114])) (am (aE (ay .u64 b)))) 1000000000) <|
 K .normal [.ptr 0 0,.str [],.ptr 1 0,.str (aA (aA t [32,114]) (aE (ay .u64 b))),.ptr 2 0,.z 2] (gy op a b c n) aq)))) (cond (ad .eql op 9) (cond (ad .eql op 23) (ck (ag (aa (am t) 1) 1000000000) <|
 ck (ad .leq 0 (ay .u64 b)) <|
 ck (ad .leq (ay .u64 b) 18446744073709551615) <|
 ck (ag (aa (am (aA t [32])) (am (aE (ay .u64 b)))) 1000000000) <|
 K .normal [.ptr 0 0,.str [],.ptr 1 0,.str (aA (aA t [32]) (aE (ay .u64 b))),.ptr 2 0,.z 2] (gy op a b c n) aq) (cond (ad .eql op 12) (ck (ag (aa (am t) 2) 1000000000) <|
 ck (ad .leq 0 (ay .u64 b)) <|
 ck (ad .leq (ay .u64 b) 18446744073709551615) <|
 ck (ag (aa (am (aA t [32,114])) (am (aE (ay .u64 b)))) 1000000000) <|
 K .normal [.ptr 0 0,.str [],.ptr 1 0,.str (aA (aA t [32,114]) (aE (ay .u64 b))),.ptr 2 0,.z 2] (gy op a b c n) aq) (cond (ad .eql op 13) (ck (ag (aa (am t) 2) 1000000000) <|
 ck (ad .leq 0 (ay .u64 b)) <|
 ck (ad .leq (ay .u64 b) 18446744073709551615) <|
 ck (ag (aa (am (aA t [32,114])) (am (aE (ay .u64 b)))) 1000000000) <|
 K .normal [.ptr 0 0,.str [],.ptr 1 0,.str (aA (aA t [32,114]) (aE (ay .u64 b))),.ptr 2 0,.z 2] (gy op a b c n) aq) (ck (ag (aa (am t) 2) 1000000000) <|
 ck (ad .leq 0 (ay .u64 b)) <|
 ck (ad .leq (ay .u64 b) 18446744073709551615) <|
 ck (ag (aa (am (aA t [32,114])) (am (aE (ay .u64 b)))) 1000000000) <|
 K .normal [.ptr 0 0,.str [],.ptr 1 0,.str (aA (aA t [32,114]) (aE (ay .u64 b))),.ptr 2 0,.z 2] (gy op a b c n) aq)))) (cond (ad .eql op 23) (ck (ag (aa (am t) 1) 1000000000) <|
 ck (ad .leq 0 (ay .u64 b)) <|
 ck (ad .leq (ay .u64 b) 18446744073709551615) <|
 ck (ag (aa (am (aA t [32])) (am (aE (ay .u64 b)))) 1000000000) <|
 K .normal [.ptr 0 0,.str [],.ptr 1 0,.str (aA (aA t [32]) (aE (ay .u64 b))),.ptr 2 0,.z 2] (gy op a b c n) aq) (cond (ad .eql op 12) (ck (ag (aa (am t) 2) 1000000000) <|
 ck (ad .leq 0 (ay .u64 b)) <|
 ck (ad .leq (ay .u64 b) 18446744073709551615) <|
 ck (ag (aa (am (aA t [32,114])) (am (aE (ay .u64 b)))) 1000000000) <|
 K .normal [.ptr 0 0,.str [],.ptr 1 0,.str (aA (aA t [32,114]) (aE (ay .u64 b))),.ptr 2 0,.z 2] (gy op a b c n) aq) (cond (ad .eql op 13) (ck (ag (aa (am t) 2) 1000000000) <|
 ck (ad .leq 0 (ay .u64 b)) <|
 ck (ad .leq (ay .u64 b) 18446744073709551615) <|
 ck (ag (aa (am (aA t [32,114])) (am (aE (ay .u64 b)))) 1000000000) <|
 K .normal [.ptr 0 0,.str [],.ptr 1 0,.str (aA (aA t [32,114]) (aE (ay .u64 b))),.ptr 2 0,.z 2] (gy op a b c n) aq) (ck (ag (aa (am t) 2) 1000000000) <|
 ck (ad .leq 0 (ay .u64 b)) <|
 ck (ad .leq (ay .u64 b) 18446744073709551615) <|
 ck (ag (aa (am (aA t [32,114])) (am (aE (ay .u64 b)))) 1000000000) <|
 K .normal [.ptr 0 0,.str [],.ptr 1 0,.str (aA (aA t [32,114]) (aE (ay .u64 b))),.ptr 2 0,.z 2] (gy op a b c n) aq)))))))):=ak
abbrev jZ (op:Int) (a:Int) (b:Int) (c:Int) (n:Int):bE:=[sN [.z op,.z a,.z b,.z c,.int .u64 n],sN [.str (bB op),.z (rA op),.z (rB op),.z (rC op),.b (rD op)],sN [.z a,.z b,.z c]]
theorem Rr (op a b c n:Int) (t:ap) (K:Pk):(aX prog tk 40 119 (ce (bi (sp prog 30) 5)) (aF 119 (mC t 2)) (ai (q_ op a b c n) aq) (vK sM K))=(
 cond (ad .lss (rC op) 0) (K .normal [.ptr 0 0,.str [],.ptr 1 0,.str t,.ptr 2 0,.z 3] (jZ op a b c n) aq) (cond (ad .eql op 23) (cond (ad .eql op 8) (ck (ag (aa (am t) 1) 1000000000) <|
 ck (ad .leq 0 (ay .u64 c)) <|
 ck (ad .leq (ay .u64 c) 18446744073709551615) <|
 ck (ag (aa (am (aA t [32])) (am (aE (ay .u64 c)))) 1000000000) <|
 K .normal [.ptr 0 0,.str [],.ptr 1 0,.str (aA (aA t [32]) (aE (ay .u64 c))),.ptr 2 0,.z 3] (jZ op a b c n) aq) (cond (ad .eql op 9) (ck (ag (aa (am t) 1) 1000000000) <|
 ck (ad .leq 0 (ay .u64 c)) <|
 ck (ad .leq (ay .u64 c) 18446744073709551615) <|
 ck (ag (aa (am (aA t [32])) (am (aE (ay .u64 c)))) 1000000000) <|
 K .normal [.ptr 0 0,.str [],.ptr 1 0,.str (aA (aA t [32]) (aE (ay .u64 c))),.ptr 2 0,.z 3] (jZ op a b c n) aq) (cond (ad .eql op 23) (cond (ad .eql op 12) (ck (ag (aa (am t) 2) 1000000000) <|
 ck (ad .leq 0 (ay .u64 c)) <|
 ck (ad .leq (ay .u64 c) 18446744073709551615) <|
 ck (ag (aa (am (aA t [32,108])) (am (aE (ay .u64 c)))) 1000000000) <|
 K .normal [.ptr 0 0,.str [],.ptr 1 0,.str (aA (aA t [32,108]) (aE (ay .u64 c))),.ptr 2 0,.z 3] (jZ op a b c n) aq) (cond (ad .eql op 13) (ck (ag (aa (am t) 2) 1000000000) <|
 ck (ad .leq 0 (ay .u64 c)) <|
 ck (ad .leq (ay .u64 c) 18446744073709551615) <|
 ck (ag (aa (am (aA t [32,108])) (am (aE (ay .u64 c)))) 1000000000) <|
 K .normal [.ptr 0 0,.str [],.ptr 1 0,.str (aA (aA t [32,108]) (aE (ay .u64 c))),.ptr 2 0,.z 3] (jZ op a b c n) aq) (ck (ag (aa (am t) 2) 1000000000) <|
 ck (ad .leq 0 (ay .u64 c)) <|
 ck (ad .leq (ay .u64 c) 18446744073709551615) <|
 ck (ag (aa (am (aA t [32,114])) (am (aE (ay .u64 c)))) 1000000000) <|
 K .normal [.ptr 0 0,.str [],.ptr 1 0,.str (aA (aA t [32,114]) (aE (ay .u64 c))),.ptr 2 0,.z 3] (jZ op a b c n) aq))) (cond (ad .eql op 12) (ck (ag (aa (am t) 2) 1000000000) <|
 ck (ad .leq 0 (ay .u64 c)) <|
 ck (ad .leq (ay .u64 c) 18446744073709551615) <|
 ck (ag (aa (am (aA t [32,108])) (am (aE (ay .u64 c)))) 1000000000) <|
 K .normal [.ptr 0 0,.str [],.ptr 1 0,.str (aA (aA t [32,108]) (aE (ay .u64 c))),.ptr 2 0,.z 3] (jZ op a b c n) aq) (cond (ad .eql op 13) (ck (ag (aa (am t) 2) 1000000000) <|
 ck (ad .leq 0 (ay .u64 c)) <|
 ck (ad .leq (ay .u64 c) 18446744073709551615) <|
 ck (ag (aa (am (aA t [32,108])) (am (aE (ay .u64 c)))) 1000000000) <|
 K .normal [.ptr 0 0,.str [],.ptr 1 0,.str (aA (aA t [32,108]) (aE (ay .u64 c))),.ptr 2 0,.z 3] (jZ op a b c n) aq) (ck (ag (aa (am t) 2) 1000000000) <|
 ck (ad .leq 0 (ay .u64 c)) <|
 ck (ad .leq (ay .u64 c) 18446744073709551615) <|
 ck (ag (aa (am (aA t [32,114])) (am (aE (ay .u64 c)))) 1000000000) <|
 K .normal [.ptr 0 0,.str [],.ptr 1 0,.str (aA (aA t [32,114]) (aE (ay .u64 c))),.ptr 2 0,.z 3] (jZ op a b c n) aq)))))) (cond (ad .eql op 8) (ck (ag (aa (am t) 1) 1000000000) <|
 ck (ad .leq 0 (ay .u64 c)) <|
 ck (ad .leq (ay .u64 c) 18446744073709551615) <|
 ck (ag (aa (am (aA t [32])) (am (aE (ay .u64 c)))) 1000000000) <|
 K .normal [.ptr 0 0,.str [],.ptr 1 0,.str (aA (aA t [32]) (aE (ay .u64 c))),.ptr 2 0,.z 3] (jZ op a b c n) aq) (cond (ad .eql op 9) (ck (ag (aa (am t) 1) 1000000000) <|
 ck (ad .leq 0 (ay .u64 c)) <|
 ck (ad .leq (ay .u64 c) 18446744073709551615) <|
 ck (ag (aa (am (aA t [32])) (am (aE (ay .u64 c)))) 1000000000) <|
 K .normal [.ptr 0 0,.str [],.ptr 1 0,.str (aA (aA t [32]) (aE (ay .u64 c))),.ptr 2 0,.z 3] (jZ op a b c n) aq) (cond (ad .eql op 23) (cond (ad .eql op 12) (ck (ag (aa (am t) 2) 1000000000) <|
 ck (ad .leq 0 (ay .u64 c)) <|
 ck (ad .leq (ay .u64 c) 18446744073709551615) <|
 ck (ag (aa (am (aA t [32,108])) (am (aE (ay .u64 c)))) 1000000000) <|
 K .normal [.ptr 0 0,.str [],.ptr 1 0,.str (aA (aA t [32,108]) (aE (ay .u64 c))),.ptr 2 0,.z 3] (jZ op a b c n) aq) (cond (ad .eql op 13) (ck (ag (aa (am t) 2) 1000000000) <|
 ck (ad .leq 0 (ay .u64 c)) <|
 ck (ad .leq (ay .u64 c) 18446744073709551615) <|
 ck (ag (aa (am (aA t [32,108])) (am (aE (ay .u64 c)))) 1000000000) <|
 K .normal [.ptr 0 0,.str [],.ptr 1 0,.str (aA (aA t [32,108]) (aE (ay .u64 c))),.ptr 2 0,.z 3] (jZ op a b c n) aq) (ck (ag (aa (am t) 2) 1000000000) <|
 ck (ad .leq 0 (ay .u64 c)) <|
 ck (ad .leq (ay .u64 c) 18446744073709551615) <|
 ck (ag (aa (am (aA t [32,114])) (am (aE (ay .u64 c)))) 1000000000) <|
 K .normal [.ptr 0 0,.str [],.ptr 1 0,.str (aA (aA t [32,114]) (aE (ay .u64 c))),.ptr 2 0,.z 3] (jZ op a b c n) aq))) (cond (ad .eql op 12) (ck (ag (aa (am t) 2) 1000000000) <|
 ck (ad .leq 0 (ay .u64 c)) <|
 ck (ad .leq (ay .u64 c) 18446744073709551615) <|
 ck (ag (aa (am (aA t [32,108])) (am (aE (ay .u64 c)))) 1000000000) <|
 K .normal [.ptr 0 0,.str [],.ptr 1 0,.str (aA (aA t [32,108]) (aE (ay .u64 c))),.ptr 2 0,.z 3] (jZ op a b c n) aq) (cond (ad .eql op 13) (ck (ag (aa (am t) 2) 1000000000) <|
 ck (ad .leq 0 (ay .u64 c)) <|
 ck (ad .leq (ay .u64 c) 18446744073709551615) <|
 ck (ag (aa (am (aA t [32,108])) (am (aE (ay .u64 c)))) 1000000000) <|
 K .normal [.ptr 0 0,.str [],.ptr 1 0,.str (aA (aA t [32,108]) (aE (ay .u64 c))),.ptr 2 0,.z 3] (jZ op a b c n) aq) (ck (ag (aa (am t) 2) 1000000000) <|
 ck (ad .leq 0 (ay .u64 c)) <|
 ck (ad .leq (ay .u64 c) 18446744073709551615) <|
 ck (ag (aa (am (aA t [32,114])) (am (aE (ay .u64 c)))) 1000000000) <|
 K .normal [.ptr 0 0,.str [],.ptr 1 0,.str (aA (aA t [32,114]) (aE (ay .u64 c))),.ptr 2 0,.z 3] (jZ op a b c n) aq)))))))):=ak
theorem Rs (op a b c n:Int) (t:ap) (K:Pk):(aX prog tk 40 119 (ce (bi (sp prog 30) 5)) (aF 119 (mC t 3)) (ai (q_ op a b c n) aq) (vK sM K))=(
 K (.exit 0) [.ptr 0 0,.str [],.ptr 1 0,.str t,.ptr 2 0,.z 3] [sN [.z op,.z a,.z b,.z c,.int .u64 n],sN [.str (bB op),.z (rA op),.z (rB op),.z (rC op),.b (rD op)],sN [.z a,.z b,.z c]] aq):=ak
abbrev Jb (op:Int) (a:Int) (b:Int) (c:Int) (n:Int):bE:=[sN [.z op,.z a,.z b,.z c,.int .u64 n],sN [.str (bB op),.z (rA op),.z (rB op),.z (rC op),.b (rD op)],sN [.z a,.z b,.z c]]
theorem N0 (op a b c n:Int) (t:ap) (K:Pk):(bc prog tk 40 119 ((sp prog 30).drop 6) (aF 119 (mC t 3)) (ai (q_ op a b c n) aq) (vK sM K))=(
 cond (rD op) (ck (ag (aa (am t) 1) 1000000000) <|
 ck (ad .leq 0 n) <|
 ck (ad .leq n 18446744073709551615) <|
 ck (ag (aa (am (aA t [32])) (am (aE n))) 1000000000) <|
 K .ret [.ptr 0 0,.str (aA (aA t [32]) (aE n)),.ptr 1 0,.str (aA (aA t [32]) (aE n)),.ptr 2 0,.z 3] (Jb op a b c n) aq) (K .ret [.ptr 0 0,.str t,.ptr 1 0,.str t,.ptr 2 0,.z 3] (Jb op a b c n) aq)):=ak
def eX (s v:Int):ap:=if s=0 then [] else 32::dp s v
def dM (op a b c n:Int):ap:=bB op++eX (fA op) a++eX (fB op) b++eX (fC op) c++eX (fD op) n
theorem Fe {op:Int} (h1:1≤op) (h2:op≤23):op=1∨op=2∨op=3∨op=4∨op=5∨op=6∨op=7∨op=8∨op=9∨op=10∨op=11∨op=12∨op=13∨op=14∨op=15∨op=16∨op=17∨op=18∨op=19∨op=20∨op=21∨op=22∨op=23:=ab
theorem Ic {op:Int} (h1:1≤op) (h2:op≤23):fD op=0∨fD op=7:=by
 rcases Fe h1 h2 with rfl | rfl | rfl | rfl | rfl | rfl | rfl | rfl | rfl | rfl | rfl | rfl | rfl | rfl | rfl | rfl | rfl | rfl | rfl | rfl | rfl | rfl | rfl <;> first | exact .inl rfl | exact .inr rfl
theorem uZ {op a b c n:Int} (h:cM op a b c n=true):(1≤op∧op≤23)∧(0≤a∧a≤40)∧(0≤b∧b≤40)∧0≤c∧c≤40:=by
 obtain⟨h1,h2,_⟩:=mayW_iff.1 h;rcases Fe h1 h2 with rfl | rfl | rfl | rfl | rfl | rfl | rfl | rfl | rfl | rfl | rfl | rfl | rfl | rfl | rfl | rfl | rfl | rfl | rfl | rfl | rfl | rfl | rfl
 ·have:=(zd a b c n).1 h; omega
 ·have:=(Cs a b c n).1 h; omega
 ·have:=(Cr a b c n).1 h; omega
 ·have:=(Cq a b c n).1 h; omega
 ·have:=(Cp a b c n).1 h; omega
 ·have:=(Co a b c n).1 h; omega
 ·have:=(Cn a b c n).1 h; omega
 ·have:=(Cm a b c n).1 h; omega
 ·have:=(Cl a b c n).1 h; omega
 ·have:=(CM a b c n).1 h; omega
 ·have:=(CN a b c n).1 h; omega
 ·have:=(Hp a b c n).1 h; omega
 ·have:=(CO a b c n).1 h; omega
 ·have:=(CP a b c n).1 h; omega
 ·have:=(CQ a b c n).1 h; omega
 ·have:=(CR a b c n).1 h; omega
 ·have:=(CU a b c n).1 h; omega
 ·have:=(CV a b c n).1 h; omega
 ·have:=(CX a b c n).1 h; omega
 ·have:=(CY a b c n).1 h; omega
 ·have:=(CZ a b c n).1 h; omega
 ·have:=(C0 a b c n).1 h; omega
 ·have:=(Hq a b c n).1 h; omega
theorem xQ {s n:Int} (h0:0≤n) (h1:n≤18446744073709551615):(dp s n).length≤30:=by
 have:=mg h0 h1;have hc:∀ m:Nat,(dj m).length≤30:=fun m=>by
  unfold dj; split <;> simp
 unfold dp;split
 ·simp only [cZ]; omega
 ·split
  ·exact hc _
  ·split
   ·simp only [cZ]; omega
   ·omega
theorem qt {s n:Int} (h0:0≤n) (h1:n≤18446744073709551615):(eX s n).length≤31:=by
 have:=xQ (s:=s) h0 h1;unfold eX; split <;> simp <;> omega
theorem Fa (op:Int):(bB op).length≤30:=by
 have hc:∀ m:Nat,(jO m).length≤30:=fun m=>by
  unfold jO; split <;> simp
 exact hc _
theorem Fq {s n:Int} (h0:0≤n) (h1:n≤40):oT s n=true:=EH.2 ⟨h0,ab,fun _=>by omega,fun _=>by omega⟩
theorem ue {n:Int} (h0:0≤n) (h1:n≤40):ay .u64 n=n:=lS h0 ab
def iA (op a:Int):ap:=if rA op < 0 then [] else if op=23 then 32::fP a else 32::114::aE a
def i7 (op b:Int):ap:=if rB op < 0 then [] else if op=23 then 32::aE b else 32::114::aE b
def i6 (op c:Int):ap:=if rC op < 0 then [] else if op=8∨op=9 then 32::aE c else if op=12∨op=13 then 32::108::aE c else 32::114::aE c
def uj (op n:Int):ap:=if rD op=true then 32::aE n else []
theorem Vd {op:Int} (h1:1≤op) (h2:op≤23) (a b c n:Int):bB op++iA op a++i7 op b++i6 op c++uj op n=dM op a b c n:=by
 rcases Fe h1 h2 with rfl | rfl | rfl | rfl | rfl | rfl | rfl | rfl | rfl | rfl | rfl | rfl | rfl | rfl | rfl | rfl | rfl | rfl | rfl | rfl | rfl | rfl | rfl <;> rfl
theorem DS:cT prog (cv rG):=fQ ⟨V1,Ie,TG,trivial⟩
theorem DR:cT prog (cv tk):=fQ ⟨Jy,Wc WG,ju H_,trivial⟩
abbrev CH (op a b c n:Int):LV:=.agg [.z op,.z a,.z b,.z c,.int .u64 n]
theorem zS (t x:ap):aA t (aA [32] x)=t++32::x:=rfl
theorem zB (a b:ap) (h:a.length+b.length≤1000000000):ag (aa (am a) (am b)) 1000000000=true:=aO h
theorem zW (b:ap) (h:1+b.length≤1000000000):ag (aa 1 (am b)) 1000000000=true:=aO h
set_option maxHeartbeats 1000000 in
theorem Oz (op a b c n:Int) (h:cM op a b c n=true) (hn:0≤n∧n≤18446744073709551615):a0j prog 27 [CH op a b c n] (ai [] aq) fun l s=>l=.str (dM op a b c n)∧s=ai [] aq:=by
 refine a0j.mono (a0j.i3y (Q:=fun l b'=>l=.str (dM op a b c n)∧b'=[]) 41 0 qW [2] ak rfl rfl rfl ?_) fun l s' ⟨b0,⟨h1,h2⟩,h3⟩=>⟨h1,by rw [h3,h2]⟩
 obtain⟨⟨o1,o2⟩,⟨a1,a2⟩,⟨b1,b2⟩,c1,c2⟩:=uZ h;have wa:=ue a1 a2; have wb:=ue b1 b2; have wc:=ue c1 c2;have f1:=qG;have pa:=Fq (s:=fA op) a1 a2; have pb:=Fq (s:=fB op) b1 b2; have pc:=Fq (s:=fC op) c1 c2;have pd:oT (fD op) n=true:=EH.2 ⟨hn.1,hn.2,fun e=>by rcases Ic o1 o2 with q | q <;> omega,fun e=>by rcases Ic o1 o2 with q | q <;> omega⟩;have la:=xQ (s:=fA op) a1 ab; have lb:=xQ (s:=fB op) b1 ab; have lc:=xQ (s:=fC op) c1 ab; have ld:=xQ (s:=fD op) hn.1 hn.2;have sa:=qt (s:=fA op) a1 ab; have sb:=qt (s:=fB op) b1 ab; have sc:=qt (s:=fC op) c1 ab; have sd:=qt (s:=fD op) hn.1 hn.2;have ln:=Fa op
 let tx:Nat→ap:=fun k=>match k with
  | 0=>bB op
  | 1=>bB op++eX (fA op) a
  | 2=>bB op++eX (fA op) a++eX (fB op) b
  | 3=>bB op++eX (fA op) a++eX (fB op) b++eX (fC op) c
  | _=>dM op a b c n
 refine SSp.to DS (n:=40) (g:=aq) 4 4 rfl (σ:=Unit) (fun _=>lA op (bB op) 0) (fun _=>pV op a b c n) (bh (bk _)) ak ?_ fun _=>?_
 ·rw [Oy,dX o1,dX o2,wa,wb,wc];exact⟨rfl,(),[.id 0,.id 1],by(exact zC)⟩
 refine SSp.code_to (g:=aq) 5 rfl (σ:=Unit) (fun _=>lA op (dM op a b c n) 4) (fun _=>pV op a b c n) ak ?_ fun _=>?_
 ·refine a0n.i3g DS (n:=40) (n0:=0) 0 ak (σ:={k:Nat // k≤4}) (fun k=>lA op (tx k.1) (k.1:Int)) (fun _=>pV op a b c n) (fun k=>4 - k.1) (fun _=>bk _) (fun⟨k,hk⟩=>?_) ⟨0,ab⟩;dsimp only;have hk:k=0∨k=1∨k=2∨k=3∨k=4:=ab;rcases hk with rfl | rfl | rfl | rfl | rfl
  ·show aX _ _ _ _ _ (aF 41 (lA op (tx 0) 0)) _ _;have e:tx 1=tx 0++eX (fA op) a:=rfl;have lt:(tx 0).length≤150:=by show(bB op).length≤150; first | omega | (simp only [cg]; omega)
   generalize tx 0=t0 at *;rw [Rx];by_cases z:fA op=0
   ·rw [show eX (fA op) a=[] from aB z,fR] at e
    (refine zR ?_)
    exact Gv
   ·rw [show eX (fA op) a=32::dp (fA op) a from av z] at e;have q1:=zW (dp (fA op) a) ab;have q2:=zB t0 (aA [32] (dp (fA op) a)) (by show t0.length+(32::dp (fA op) a).length≤_; simp only [cZ]; omega);simp only [f1,pa,q1,q2,zS]
    (refine zR ?_)
    exact Gv
  ·show aX _ _ _ _ _ (aF 41 (lA op (tx 1) 1)) _ _;have e:tx 2=tx 1++eX (fB op) b:=rfl;have lt:(tx 1).length≤150:=by show(bB op++eX (fA op) a).length≤150; first | omega | (simp only [cg]; omega)
   generalize tx 1=t0 at *;rw [Ry];by_cases z:fB op=0
   ·rw [show eX (fB op) b=[] from aB z,fR] at e
    (refine zR ?_)
    exact Gu
   ·rw [show eX (fB op) b=32::dp (fB op) b from av z] at e;have q1:=zW (dp (fB op) b) ab;have q2:=zB t0 (aA [32] (dp (fB op) b)) (by show t0.length+(32::dp (fB op) b).length≤_; simp only [cZ]; omega);simp only [f1,pb,q1,q2,zS]
    (refine zR ?_)
    exact Gu
  ·show aX _ _ _ _ _ (aF 41 (lA op (tx 2) 2)) _ _;have e:tx 3=tx 2++eX (fC op) c:=rfl;have lt:(tx 2).length≤150:=by show(bB op++eX (fA op) a++eX (fB op) b).length≤150; first | omega | (simp only [cg]; omega)
   generalize tx 2=t0 at *;rw [Rz];by_cases z:fC op=0
   ·rw [show eX (fC op) c=[] from aB z,fR] at e
    (refine zR ?_)
    exact GL
   ·rw [show eX (fC op) c=32::dp (fC op) c from av z] at e;have q1:=zW (dp (fC op) c) ab;have q2:=zB t0 (aA [32] (dp (fC op) c)) (by show t0.length+(32::dp (fC op) c).length≤_; simp only [cZ]; omega);simp only [f1,pc,q1,q2,zS]
    (refine zR ?_)
    exact GL
  ·show aX _ _ _ _ _ (aF 41 (lA op (tx 3) 3)) _ _;have e:tx 4=tx 3++eX (fD op) n:=rfl;have lt:(tx 3).length≤150:=by show(bB op++eX (fA op) a++eX (fB op) b++eX (fC op) c).length≤150; first | omega | (simp only [cg]; omega)
   generalize tx 3=t0 at *;rw [RA];by_cases z:fD op=0
   ·rw [show eX (fD op) n=[] from aB z,fR] at e
    (refine zR ?_)
    exact GK
   ·rw [show eX (fD op) n=32::dp (fD op) n from av z] at e;have q1:=zW (dp (fD op) n) ab;have q2:=zB t0 (aA [32] (dp (fD op) n)) (by show t0.length+(32::dp (fD op) n).length≤_; simp only [cZ]; omega);simp only [f1,pd,q1,q2,zS]
    (refine zR ?_)
    exact GK
  ·show aX _ _ _ _ _ (aF 41 (lA op (tx 4) 4)) _ _;rw [RB];exact⟨rfl,(),[.id 0,.id 1],by(exact zC)⟩
 refine SSp.last DS (n:=40) (bh (bk _)) ?_;rw [OA];exact⟨trivial,rfl,_,_,[],⟨rfl,rfl⟩,by(exact zC)⟩
theorem jQ (t u x:ap):aA (aA t u) x=t++(u++x):=mW _ _ _
theorem jT (t u x:ap) (h:t.length+(u.length+x.length)≤1000000000):ag (aa (am (aA t u)) (am x)) 1000000000=true:=aO (by show(t++u).length+x.length≤_; rw [cg]; omega)
theorem tC (t:ap) (k:Nat) (h:t.length+k≤1000000000):ag (aa (am t) k) 1000000000=true:=aO h
theorem VO (n:Int):(fP n).length≤30:=by
 have hc:∀ m:Nat,(dj m).length≤30:=fun m=>by
  unfold dj; split <;> simp
 exact hc _
theorem tI {p:Prop} [Decidable p] {a b:ap} {k:Nat} (h1:a.length≤k) (h2:b.length≤k):(if p then a else b).length≤k:=by split <;> assumption
set_option maxHeartbeats 4000000 in
theorem NZ (op a b c n:Int) (h:cM op a b c n=true) (hn:0≤n∧n≤18446744073709551615):a0j prog 30 [CH op a b c n] (ai [] aq) fun l s=>l=.str (dM op a b c n)∧s=ai [] aq:=by
 refine a0j.mono (a0j.i3y (Q:=fun l b'=>l=.str (dM op a b c n)∧b'=[]) 119 0 sM [2] ak rfl rfl rfl ?_) fun l s' ⟨b0,⟨h1,h2⟩,h3⟩=>⟨h1,by rw [h3,h2]⟩
 obtain⟨⟨o1,o2⟩,⟨a1,a2⟩,⟨b1,b2⟩,c1,c2⟩:=uZ h;have wa:=ue a1 a2; have wb:=ue b1 b2; have wc:=ue c1 c2;have la:=mg a1 ab; have lb:=mg b1 ab; have lc:=mg c1 ab; have ld:=mg hn.1 hn.2;have l0a:=dX a1; have l0b:=dX b1; have l0c:=dX c1; have l0n:=dX hn.1;have l1a:ad .leq a 18446744073709551615=true:=dX ab;have l1b:ad .leq b 18446744073709551615=true:=dX ab;have l1c:ad .leq c 18446744073709551615=true:=dX ab;have l1n:=dX hn.2;have ln:=Fa op; have lk:=VO a;have s0:(iA op a).length≤40:=tI aC (tI qU qU);have s1:(i7 op b).length≤40:=tI aC (tI qU qU);have s2:(i6 op c).length≤40:=tI aC (tI qU (tI qU qU))
 let tx:Nat→ap:=fun k=>match k with
  | 0=>bB op
  | 1=>bB op++iA op a
  | 2=>bB op++iA op a++i7 op b
  | _=>bB op++iA op a++i7 op b++i6 op c
 refine SSp.to DR (n:=40) (g:=aq) 5 5 rfl (σ:=Unit) (fun _=>mC (bB op) 0) (fun _=>q_ op a b c n) (bh (bk _)) ak ?_ fun _=>?_
 ·rw [NY];exact⟨rfl,(),[.id 0,.id 1,.id 2],by(exact zC)⟩
 refine SSp.code_to (g:=aq) 6 rfl (σ:=Unit) (fun _=>mC (tx 3) 3) (fun _=>q_ op a b c n) ak ?_ fun _=>?_
 ·refine a0n.i3g DR (n:=40) (n0:=0) 0 ak (σ:={k:Nat // k≤3}) (fun k=>mC (tx k.1) (k.1:Int)) (fun _=>q_ op a b c n) (fun k=>3 - k.1) (fun _=>bk _) (fun⟨k,hk⟩=>?_) ⟨0,ab⟩;dsimp only;have hk:k=0∨k=1∨k=2∨k=3:=ab;rcases hk with rfl | rfl | rfl | rfl
  ·show aX _ _ _ _ _ (aF 119 (mC (tx 0) 0)) _ _;have e:tx 1=tx 0++iA op a:=rfl;have lt:(tx 0).length≤150:=by show(bB op).length≤150; first | omega | (simp only [cg]; omega)
   generalize tx 0=t0 at *;rw [Rp];have q1:=tC t0 1 ab; have q2:=tC t0 2 ab;by_cases z:rA op < 0
   ·rw [show iA op a=[] from aB z,fR] at e
    (refine zR ?_)
    exact ua
   by_cases y23:op=23
   ·have e2:iA op a=[32]++fP a:=by unfold iA; rw [av z]; (repeat' split) <;> first | rfl | omega
    rw [e2] at e;have q3:=jT t0 [32] (fP a) jI;simp only [wa,q1,q2,q3,l0a,l1a,jQ]
    (refine zR ?_)
    exact ua
   by_cases y8:op=8
   ·have e2:iA op a=[32,114]++aE a:=by unfold iA; rw [av z]; (repeat' split) <;> first | rfl | omega
    rw [e2] at e;have q3:=jT t0 [32,114] (aE a) jI;simp only [wa,q1,q2,q3,l0a,l1a,jQ]
    (refine zR ?_)
    exact ua
   by_cases y9:op=9
   ·have e2:iA op a=[32,114]++aE a:=by unfold iA; rw [av z]; (repeat' split) <;> first | rfl | omega
    rw [e2] at e;have q3:=jT t0 [32,114] (aE a) jI;simp only [wa,q1,q2,q3,l0a,l1a,jQ]
    (refine zR ?_)
    exact ua
   by_cases y12:op=12
   ·have e2:iA op a=[32,114]++aE a:=by unfold iA; rw [av z]; (repeat' split) <;> first | rfl | omega
    rw [e2] at e;have q3:=jT t0 [32,114] (aE a) jI;simp only [wa,q1,q2,q3,l0a,l1a,jQ]
    (refine zR ?_)
    exact ua
   by_cases y13:op=13
   iterate 2
    ·have e2:iA op a=[32,114]++aE a:=by unfold iA; rw [av z]; (repeat' split) <;> first | rfl | omega
     rw [e2] at e;have q3:=jT t0 [32,114] (aE a) jI;simp only [wa,q1,q2,q3,l0a,l1a,jQ]
     (refine zR ?_)
     exact ua
  ·show aX _ _ _ _ _ (aF 119 (mC (tx 1) 1)) _ _;have e:tx 2=tx 1++i7 op b:=rfl;have lt:(tx 1).length≤150:=by show(bB op++iA op a).length≤150; first | omega | (simp only [cg]; omega)
   generalize tx 1=t0 at *;rw [Rq];have q1:=tC t0 1 ab; have q2:=tC t0 2 ab;by_cases z:rB op < 0
   ·rw [show i7 op b=[] from aB z,fR] at e
    (refine zR ?_)
    exact t_
   by_cases y23:op=23
   ·have e2:i7 op b=[32]++aE b:=by unfold i7; rw [av z]; (repeat' split) <;> first | rfl | omega
    rw [e2] at e;have q3:=jT t0 [32] (aE b) jI;simp only [wb,q1,q2,q3,l0b,l1b,jQ]
    (refine zR ?_)
    exact t_
   by_cases y8:op=8
   ·have e2:i7 op b=[32,114]++aE b:=by unfold i7; rw [av z]; (repeat' split) <;> first | rfl | omega
    rw [e2] at e;have q3:=jT t0 [32,114] (aE b) jI;simp only [wb,q1,q2,q3,l0b,l1b,jQ]
    (refine zR ?_)
    exact t_
   by_cases y9:op=9
   ·have e2:i7 op b=[32,114]++aE b:=by unfold i7; rw [av z]; (repeat' split) <;> first | rfl | omega
    rw [e2] at e;have q3:=jT t0 [32,114] (aE b) jI;simp only [wb,q1,q2,q3,l0b,l1b,jQ]
    (refine zR ?_)
    exact t_
   by_cases y12:op=12
   ·have e2:i7 op b=[32,114]++aE b:=by unfold i7; rw [av z]; (repeat' split) <;> first | rfl | omega
    rw [e2] at e;have q3:=jT t0 [32,114] (aE b) jI;simp only [wb,q1,q2,q3,l0b,l1b,jQ]
    (refine zR ?_)
    exact t_
   by_cases y13:op=13
   iterate 2
    ·have e2:i7 op b=[32,114]++aE b:=by unfold i7; rw [av z]; (repeat' split) <;> first | rfl | omega
     rw [e2] at e;have q3:=jT t0 [32,114] (aE b) jI;simp only [wb,q1,q2,q3,l0b,l1b,jQ]
     (refine zR ?_)
     exact t_
  ·show aX _ _ _ _ _ (aF 119 (mC (tx 2) 2)) _ _;have e:tx 3=tx 2++i6 op c:=rfl;have lt:(tx 2).length≤150:=by show(bB op++iA op a++i7 op b).length≤150; first | omega | (simp only [cg]; omega)
   generalize tx 2=t0 at *;rw [Rr];have q1:=tC t0 1 ab; have q2:=tC t0 2 ab;by_cases z:rC op < 0
   ·rw [show i6 op c=[] from aB z,fR] at e
    (refine zR ?_)
    exact sF
   by_cases y23:op=23
   ·have e2:i6 op c=[32,114]++aE c:=by unfold i6; rw [av z]; (repeat' split) <;> first | rfl | omega
    rw [e2] at e;have q3:=jT t0 [32,114] (aE c) jI;simp only [wc,q1,q2,q3,l0c,l1c,jQ]
    (refine zR ?_)
    exact sF
   by_cases y8:op=8
   ·have e2:i6 op c=[32]++aE c:=by unfold i6; rw [av z]; (repeat' split) <;> first | rfl | omega
    rw [e2] at e;have q3:=jT t0 [32] (aE c) jI;simp only [wc,q1,q2,q3,l0c,l1c,jQ]
    (refine zR ?_)
    exact sF
   by_cases y9:op=9
   ·have e2:i6 op c=[32]++aE c:=by unfold i6; rw [av z]; (repeat' split) <;> first | rfl | omega
    rw [e2] at e;have q3:=jT t0 [32] (aE c) jI;simp only [wc,q1,q2,q3,l0c,l1c,jQ]
    (refine zR ?_)
    exact sF
   by_cases y12:op=12
   ·have e2:i6 op c=[32,108]++aE c:=by unfold i6; rw [av z]; (repeat' split) <;> first | rfl | omega
    rw [e2] at e;have q3:=jT t0 [32,108] (aE c) jI;simp only [wc,q1,q2,q3,l0c,l1c,jQ]
    (refine zR ?_)
    exact sF
   by_cases y13:op=13
   ·have e2:i6 op c=[32,108]++aE c:=by unfold i6; rw [av z]; (repeat' split) <;> first | rfl | omega
    rw [e2] at e;have q3:=jT t0 [32,108] (aE c) jI;simp only [wc,q1,q2,q3,l0c,l1c,jQ]
    (refine zR ?_)
    exact sF
   ·have e2:i6 op c=[32,114]++aE c:=by unfold i6; rw [av z]; (repeat' split) <;> first | rfl | omega
    rw [e2] at e;have q3:=jT t0 [32,114] (aE c) jI;simp only [wc,q1,q2,q3,l0c,l1c,jQ]
    (refine zR ?_)
    exact sF
  ·show aX _ _ _ _ _ (aF 119 (mC (tx 3) 3)) _ _;rw [Rs];exact⟨rfl,(),[.id 0,.id 1,.id 2],by(exact zC)⟩
 have e:dM op a b c n=tx 3++uj op n:=(Vd o1 o2 a b c n).symm;have lt:(tx 3).length≤200:=by show(bB op++iA op a++i7 op b++i6 op c).length≤200; simp only [cg]; omega
 generalize tx 3=t0 at *;refine SSp.last DR (n:=40) (bh (bk _)) ?_;rw [N0];cases z:rD op with
 | false =>
   rw [show uj op n=[] by unfold uj; rw [z]; rfl,fR] at e;exact⟨trivial,rfl,_,_,[],⟨by rw [e],rfl⟩,by(exact zC)⟩
 | true =>
   rw [show uj op n=[32]++aE n by unfold uj; rw [aB z]; rfl] at e;have q1:=tC t0 1 ab;have q3:=jT t0 [32] (aE n) jI;simp only [q1,q3,l0n,l1n,jQ]
   (refine zR ?_)
   exact⟨trivial,rfl,_,_,[],⟨by rw [e],rfl⟩,by(exact zC)⟩
structure bo where
 op:Int
 a:Int
 b:Int
 c:Int
 n:Int
abbrev aW (x:bo):al:=[.z x.op,.z x.a,.z x.b,.z x.c,.int .u64 x.n]
theorem vN (x:bo):(aW x).length=5:=rfl
theorem tq {xs:List bo} {i:Nat} (h:i < xs.length):af (aj aW xs) (i * 5)=.z xs[i].op:=gc vN (j:=0) h ab
theorem tr {xs:List bo} {i:Nat} (h:i < xs.length):af (aj aW xs) (i * 5+1)=.z xs[i].a:=gc vN (j:=1) h ab
theorem tt {xs:List bo} {i:Nat} (h:i < xs.length):af (aj aW xs) (i * 5+2)=.z xs[i].b:=gc vN (j:=2) h ab
theorem tv {xs:List bo} {i:Nat} (h:i < xs.length):af (aj aW xs) (i * 5+3)=.z xs[i].c:=gc vN (j:=3) h ab
theorem tw {xs:List bo} {i:Nat} (h:i < xs.length):af (aj aW xs) (i * 5+4)=.int .u64 xs[i].n:=gc vN (j:=4) h ab
theorem ey (xs:List bo):(aj aW xs).length=xs.length * 5:=iW vN xs
theorem oE (xs:List bo):a1u (aj aW xs)=true:=iu (fun _=>rfl) xs
def jU (x:bo):Prop:=(IntKind.i64.min≤x.op∧x.op≤IntKind.i64.max)∧(IntKind.i64.min≤x.a∧x.a≤IntKind.i64.max)∧(IntKind.i64.min≤x.b∧x.b≤IntKind.i64.max)∧(IntKind.i64.min≤x.c∧x.c≤IntKind.i64.max)∧(IntKind.u64.min≤x.n∧x.n≤IntKind.u64.max)
abbrev pY (F:World→Prop):aL:=[(0,cj),(2,cK),(1,gi),(1000,[.fact F])]
def tj:al→List bo
 | .int _ op::.int _ a::.int _ b::.int _ c::.int _ n::r=>⟨op,a,b,c,n⟩::tj r
 | _=>[]
theorem vU:∀ L:List bo,tj (aj aW L)=L
 | []=>rfl
 | x::r=>by
   show tj (.z x.op::.z x.a::.z x.b::.z x.c::.int .u64 x.n::aj aW r)=_;rw [tj,vU r]
def ja (N:Nat) (x:bo):Prop:=cM x.op x.a x.b x.c x.n=true∧((x.op=12∨x.op=13)→x.c≤(N:Int))
def jd (L:List bo):Prop:=L.length≤40∧∀ x∈L,ja L.length x
def lY (cs:al):Bool:=@decide (jd (tj cs)) (Classical.propDecidable _)
def ku (n:Nat) (cs:al):Bool:=@decide (∃ L:List bo,cs=aj aW L∧L.length=n∧∀ x∈L,jU x) (Classical.propDecidable _)
theorem Az (L:List bo):lY (aj aW L)=true↔jd L:=by simp only [lY,vU,cu]
theorem vP {n:Nat} {cs:al}:ku n cs=true↔∃ L:List bo,cs=aj aW L∧L.length=n∧∀ x∈L,jU x:=by simp only [ku,cu]
def Am:Cx:=eP [(38,CK)]
abbrev yZ:List Nat:=[1,2,10,11,12]
abbrev wI (n:Nat) (i:Nat):List (Nat×LV):=[(1,.ptr 1 0),(2,.b false),(10,.slo 0 0 n 0),(11,.z n),(12,.z i)]
abbrev wJ (n:Nat) (cs:al):a9:=[.ro cs,.cells [.slo 0 0 n 0] none]
theorem OW (n:Nat) (cs:al) (K:Pk):(bc prog Am 40 33 (bS (sp prog 23) 0 4) (cO [.agg [.slo 0 0 n 0]]) (ai [.ro cs] aq) (vK yZ K))=(
 cond (ad .gtr (↑n) 40) (K .ret [.ptr 1 0,.b false,.tup [],.tup [],.tup []] [some (.ro cs),sN [.slo 0 0 n 0]] aq) (K .normal [.ptr 1 0,.b false,.slo 0 0 n 0,.z ↑n,.z 0] [some (.ro cs),sN [.slo 0 0 n 0]] aq)):=ak
abbrev tN (n:Nat) (i:Nat) (cs:al):bE:=[some (.ro cs),sN [.slo 0 0 n 0],sN [.z (ar (af cs (ah 0 (ae ↑i) 5))),.z (ar (af cs (aa (ah 0 (ae ↑i) 5) 1))),.z (ar (af cs (aa (aa (ah 0 (ae ↑i) 5) 1) 1))),.z (ar (af cs (aa (aa (aa (ah 0 (ae ↑i) 5) 1) 1) 1))),.int .u64 (ar (af cs (aa (aa (aa (aa (ah 0 (ae ↑i) 5) 1) 1) 1) 1)))]]
theorem OZ (n i:Nat) (cs:al) (K:Pk):(aX prog Am 40 33 (ce (bi (sp prog 23) 4)) (aF 33 (wI n i)) (ai (wJ n cs) aq) (vK yZ K))=(
 cond (ad .lss ↑i ↑n) (ck (ag (aa (ae ↑i) 1) n) <|
 ck (ag (aa (ah 0 (ae ↑i) 5) 5) (aG cs)) <|
 ck (a7 .i64 (af cs (ah 0 (ae ↑i) 5))) <|
 ck (a7 .i64 (af cs (aa (ah 0 (ae ↑i) 5) 1))) <|
 ck (a7 .i64 (af cs (aa (aa (ah 0 (ae ↑i) 5) 1) 1))) <|
 ck (a7 .i64 (af cs (aa (aa (aa (ah 0 (ae ↑i) 5) 1) 1) 1))) <|
 ck (a7 .u64 (af cs (aa (aa (aa (aa (ah 0 (ae ↑i) 5) 1) 1) 1) 1))) <|
 cond (bu (cM (ar (af cs (ah 0 (ae ↑i) 5))) (ar (af cs (aa (ah 0 (ae ↑i) 5) 1))) (ar (af cs (aa (aa (ah 0 (ae ↑i) 5) 1) 1))) (ar (af cs (aa (aa (aa (ah 0 (ae ↑i) 5) 1) 1) 1))) (ar (af cs (aa (aa (aa (aa (ah 0 (ae ↑i) 5) 1) 1) 1) 1))))) (K .ret [.ptr 1 0,.b false,.slo 0 0 n 0,.z ↑n,.z ↑i] (tN n i cs) aq) (cond (ad .eql (ar (af cs (ah 0 (ae ↑i) 5))) 12) (cond (ad .gtr (ar (af cs (aa (aa (aa (ah 0 (ae ↑i) 5) 1) 1) 1))) ↑n) (K .ret [.ptr 1 0,.b false,.slo 0 0 n 0,.z ↑n,.z ↑i] (tN n i cs) aq) (K .normal [.ptr 1 0,.b false,.slo 0 0 n 0,.z ↑n,.z (au .add .i64 (↑i) 1)] (tN n i cs) aq)) (cond (ad .eql (ar (af cs (ah 0 (ae ↑i) 5))) 13) (cond (ad .gtr (ar (af cs (aa (aa (aa (ah 0 (ae ↑i) 5) 1) 1) 1))) ↑n) (K .ret [.ptr 1 0,.b false,.slo 0 0 n 0,.z ↑n,.z ↑i] (tN n i cs) aq) (K .normal [.ptr 1 0,.b false,.slo 0 0 n 0,.z ↑n,.z (au .add .i64 (↑i) 1)] (tN n i cs) aq)) (K .normal [.ptr 1 0,.b false,.slo 0 0 n 0,.z ↑n,.z (au .add .i64 (↑i) 1)] (tN n i cs) aq)))) (K (.exit 0) [.ptr 1 0,.b false,.slo 0 0 n 0,.z ↑n,.z ↑i] [some (.ro cs),sN [.slo 0 0 n 0]] aq)):=ak
theorem O0 (n:Nat) (cs:al) (K:Pk):(bc prog Am 40 33 ((sp prog 23).drop 5) (aF 33 (wI n n)) (ai (wJ n cs) aq) (vK yZ K))=(
 K .ret [.ptr 1 0,.b true,.slo 0 0 n 0,.z ↑n,.z ↑n] [some (.ro cs),sN [.slo 0 0 n 0]] aq):=ak
end
end Go.Lev
