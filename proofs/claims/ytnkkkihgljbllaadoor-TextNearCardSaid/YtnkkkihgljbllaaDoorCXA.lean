import Derived.Test.YtnkkkihgljbllaaDoorCX9
namespace Go.Lev
set_option linter.unusedSimpArgs false
set_option linter.unusedVariables false
open Go.RowKit
open Go.Proofs.Tryd (prog)
set_option maxRecDepth 100000
noncomputable section
def yW:al→List RW
 | .str a::.int _ b::.int _ c::.bool d::r=>⟨a,b,c,d⟩::yW r
 | _=>[]
theorem EL:∀ xs,yW (aj cV xs)=xs
 | []=>rfl
 | x::r=>by simp [aj,cV,yW,EL r]
theorem Vx (A L:List RW):(aj cV (A++L)).drop (A.length * 4)=aj cV L:=by
 rw [g9,List.drop_append_of_le_length (by rw [o6]; omega),mo (by rw [o6]; omega)]; rfl
def uL (o m:Nat) (wx:al):Bool:=@decide (∃ A L:List RW,wx=aj cV (A++L)∧o=A.length * 4∧m=L.length∧1≤m∧m≤100000∧∀ w∈L,w.s.length≤1000000000) (Classical.propDecidable _)
theorem Fc {o m:Nat} {wx:al}:uL o m wx=true↔∃ A L:List RW,wx=aj cV (A++L)∧o=A.length * 4∧m=L.length∧1≤m∧m≤100000∧∀ w∈L,w.s.length≤1000000000:=by simp only [uL,cu]
def kP (o:Nat) (wx:al) (e ln n:Int):bL×RW×(Int×Int×Int):=ma e ln n (yW (wx.drop o))
def uH (o:Nat) (wx:al) (e ln n:Int):Int:=(kP o wx e ln n).1.op
def uw (o:Nat) (wx:al) (e ln n:Int):Int:=(kP o wx e ln n).1.a
def uv (o:Nat) (wx:al) (e ln n:Int):Int:=(kP o wx e ln n).1.b
def uu (o:Nat) (wx:al) (e ln n:Int):Int:=(kP o wx e ln n).1.c
def ut (o:Nat) (wx:al) (e ln n:Int):Int:=(kP o wx e ln n).1.n
def sW (o:Nat) (wx:al) (e ln n:Int):ap:=(kP o wx e ln n).2.1.s
def uG (o:Nat) (wx:al) (e ln n:Int):Int:=(kP o wx e ln n).2.1.ln
def uE (o:Nat) (wx:al) (e ln n:Int):Int:=(kP o wx e ln n).2.1.cl
def uD (o:Nat) (wx:al) (e ln n:Int):Bool:=(kP o wx e ln n).2.1.bd
def nU (o:Nat) (wx:al) (e ln n:Int):Int:=(kP o wx e ln n).2.2.1
def nT (o:Nat) (wx:al) (e ln n:Int):Int:=(kP o wx e ln n).2.2.2.1
def mE (o:Nat) (wx:al) (e ln n:Int):Int:=(kP o wx e ln n).2.2.2.2
theorem NL (o m:Nat) (e ln n:Int) (wx:al) (k1:uL o m wx=true):a0j prog 37 [.slo 0 o m 0,.z e,.z ln,.z n] (ai [.cells wx (some 4)] aq) fun l st=>l=LV.tup [.agg [.z (uH o wx e ln n),.z (uw o wx e ln n),.z (uv o wx e ln n),.z (uu o wx e ln n),.int .u64 (ut o wx e ln n)],.agg [.str (sW o wx e ln n),.z (uG o wx e ln n),.z (uE o wx e ln n),.b (uD o wx e ln n)],.agg [.z (nU o wx e ln n),.z (nT o wx e ln n),.z (mE o wx e ln n)]]∧st=ai [.cells wx (some 4)] aq:=by
 obtain⟨A,L,rfl,rfl,rfl,h1,h2,h3⟩:=Fc.1 k1;simp only [uH,uw,uv,uu,ut,sW,uG,uE,uD,nU,nT,mE,kP,Vx,EL];exact Q5 _ _ L e ln n (kF _) (WrP.of A L) h1 h2 h3
def Cy:Gc:=fun args s=>match args,s.g with
 | [.slo a o m 0,.int .i64 e,.int .i64 ln,.int .i64 n],[(g0,F0),(g1,F1),(g2,F2),(g3,[.fact F])]=>cond (Nat.beq g0 0 && aU F0 cj && (Nat.beq g1 2 && aU F1 cK) && (Nat.beq g2 1 && aU F2 gi) && Nat.beq g3 1000) (match s.h.get a with
   | some (.cells wx (some 4))=>(match s.lay [a] [.cells wx (some 4)] [] with
     | some s'=>some ([dm F,uL o m wx],.tup [.agg [.z (uH o wx e ln n),.z (uw o wx e ln n),.z (uv o wx e ln n),.z (uu o wx e ln n),.int .u64 (ut o wx e ln n)],.agg [.str (sW o wx e ln n),.z (uG o wx e ln n),.z (uE o wx e ln n),.b (uD o wx e ln n)],.agg [.z (nU o wx e ln n),.z (nT o wx e ln n),.z (mE o wx e ln n)]],s')
     | none=>none)
   | _=>none) none
 | _,_=>none
theorem S7:bX prog 37 Cy:=by
 intro args s bs l s' hg hb hfr;unfold Cy at hg;split at hg
 ·rename_i a o m e ln n g0 F0 g1 F1 g2 F2 g3 F hgl;cases hc:(Nat.beq g0 0 && aU F0 cj && (Nat.beq g1 2 && aU F1 cK) && (Nat.beq g2 1 && aU F2 gi) && Nat.beq g3 1000) with
  | false=>exact eZ
  | true =>
    rw [hc] at hg;simp only [aw] at hg;simp only [bg] at hc;replace hgl:s.g=pY F:=by rw [hgl,bt hc.1.1.1.1,bQ hc.1.1.1.2,bt hc.1.1.2.1,bQ hc.1.1.2.2,bt hc.1.2.1,bQ hc.1.2.2,bt hc.2]
    split at hg
    ·rename_i wx hb0;split at hg
     ·rename_i s1 hs1;simp only [a8,bn] at hg;obtain⟨rfl,rfl,rfl⟩:=hg;simp only [bv] at hb;obtain⟨k1,k2,_⟩:=hb;have eF:=mP k1;subst eF;obtain⟨zA,zL,ze,_⟩:=Fc.1 k2; have n1:a1u wx=true:=ze▸kF (zA++zL);refine a0j.lay (bs:=[.cells wx (some 4)]) (args0:=[.slo 0 o m 0,.z e,.z ln,.z n]) (bs':=[.cells wx (some 4)]) (v0:=.tup [.agg [.z (uH o wx e ln n),.z (uw o wx e ln n),.z (uv o wx e ln n),.z (uu o wx e ln n),.int .u64 (ut o wx e ln n)],.agg [.str (sW o wx e ln n),.z (uG o wx e ln n),.z (uE o wx e ln n),.b (uD o wx e ln n)],.agg [.z (nU o wx e ln n),.z (nT o wx e ln n),.z (mE o wx e ln n)]]) hfr hs1 aC
       ⟨⟨df hfr hb0,_,hb0,be bF,fun κ hκ=>be bF⟩,trivial⟩ fv ?_
       fun κ h1 h2=>⟨⟨be bF,trivial⟩,cY rfl⟩
      rw [hgl]; exact(NL o m e ln n wx k2)
     ·cases hg
    ·cases hg
 ·cases hg
abbrev i_:List Nat:=[0,2,3,4,5,6,7,8,9,10,11,12,13,14,15,16,17,19,20,22,49,175]
def jh:Cx:=eP [(33,jm B6),(34,jm Es),(35,jm yT),(36,jm BT),(37,Cy)]
abbrev pT (s:ap) (nb nj na nk n:Nat) (ln:Int) (i:Nat):List (Nat×LV):=[(0,.str s),(2,.ptr 0 0),(3,.z 0),(4,.z 0),(5,.z 0),(6,.ptr 1 0),(7,.slo 3 0 nb 0),(8,.slo 4 0 nj 0),(9,.slo 5 0 na 0),(10,.z ln),(11,.slo 8 0 nk 0),(12,.slo 9 0 nk 0),(13,.slo 6 0 n 0),(14,.slo 7 0 n 0),(15,.z i)]
abbrev Hs (ni:Nat) (ax bx jx kx rx wx:al):a9:=[.cells [.nils] none,.cells [.slo 2 0 ni 0] none,.cells ax (some 5),.cells bx (some 2),.cells jx (some 4),.cells kx (some 1),.cells rx (some 1),.cells wx (some 1)]
abbrev pU (ni:Nat) (ax bx jx kx rx wx lx dx:al):a9:=Hs ni ax bx jx kx rx wx++[.cells lx (some 1),.cells dx (some 1)]
abbrev nz (s:ap) (nb nj na n:Nat) (ln:Int) (i o m:Nat) (e:Int):List (Nat×LV):=[(0,.str s),(2,.ptr 0 0),(3,.z 0),(4,.z 0),(5,.z 0),(6,.ptr 1 0),(7,.slo 3 0 nb 0),(8,.slo 4 0 nj 0),(9,.slo 5 0 na 0),(10,.z ln),(11,.nils),(12,.nils),(13,.slo 6 0 n 0),(14,.slo 7 0 n 0),(15,.z i),(16,.slo 8 o m 0),(17,.z e)]
abbrev nA (ni:Nat) (ax bx jx kx rx wx vx:al):a9:=Hs ni ax bx jx kx rx wx++[.cells vx (some 4)]
abbrev wK (s:ap) (nb nj na:Nat) (i:Nat):List (Nat×LV):=[(0,.str s),(2,.ptr 0 0),(3,.z 0),(4,.z 0),(5,.z 0),(6,.ptr 1 0),(7,.slo 3 0 nb 0),(8,.slo 4 0 nj 0),(9,.slo 5 0 na 0),(22,.z i)]
abbrev wL (ni:Nat) (ax bx jx kx:al):a9:=[.cells [.nils] none,.cells [.slo 2 0 ni 0] none,.cells ax (some 5),.cells bx (some 2),.cells jx (some 4),.cells kx (some 1)]
abbrev pmB:List Code:=cG (ce (bi (sp prog 18) 13))
abbrev pmC:List Code:=cG (vu (bi pmB 2))
abbrev pmD:List Code:=cG (jS (bi pmC 1))
abbrev MY:List Code:=cG (jS (bi pmC 15))
theorem jX:cT prog (cv jh):=fQ ⟨ju T0,ju SF,ju IK,ju Ul,S7,trivial⟩
theorem OB (s:ap) (K:Pk):(bc prog jh 60 228 (bS (sp prog 18) 0 13) (cO [.str s]) (ai [] aq) (vK i_ K))=(
 cond (ad .gtr (↑(am s)) 4000) (K .ret [.str s,.ptr 0 0,.z 1,.z 1,.z 4,.tup [],.tup [],.tup [],.tup [],.tup [],.tup [],.tup [],.tup [],.tup [],.tup [],.tup [],.tup [],.tup [],.tup [],.tup [],.tup [],.tup []] [sN [.nils]] aq) (ck (ag (am s) 1000000) <|
 ck (ag (am s) 900000) <|
 K .normal [.str s,.ptr 0 0,.z 0,.z 0,.z 0,.ptr 1 0,.nils,.nils,.nils,.z 0,.nils,.nils,.slo 2 0 (zK s) 0,.slo 3 0 (ql s) 0,.z 0,.tup [],.tup [],.tup [],.tup [],.tup [],.tup [],.tup []] [sN [.nils],sN [.nils],sC (xk s) 1,sC (od s) 1] aq)):=ak
abbrev Jm (ni:Nat) (ax:al) (bx:al) (jx:al) (kx:al) (rx:al) (wx:al) (lx:al) (dx:al):bE:=[sN [.nils],sN [.slo 2 0 ni 0],sC ax 5,sC bx 2,sC jx 4,sC kx 1,sC rx 1,sC wx 1,sC lx 1,sC dx 1]
theorem OG (s:ap) (ni nb nj na nk n:Nat) (ln:Int) (i:Nat) (ax bx jx kx rx wx lx dx:al) (K:Pk):(bc prog jh 60 228 (bS pmB 0 2) (aF 228 (pT s nb nj na nk n ln i)) (ai (pU ni ax bx jx kx rx wx lx dx) aq) (vK i_ K))=(
 cond (ad .leq ↑i ↑n) (K .normal [.str s,.ptr 0 0,.z 0,.z 0,.z 0,.ptr 1 0,.slo 3 0 nb 0,.slo 4 0 nj 0,.slo 5 0 na 0,.z ln,.slo 8 0 nk 0,.slo 9 0 nk 0,.slo 6 0 n 0,.slo 7 0 n 0,.z ↑i,.any,.any,.any,.any,.any,.any,.any] (Jm ni ax bx jx kx rx wx lx dx) aq) (K (.exit 0) [.str s,.ptr 0 0,.z 0,.z 0,.z 0,.ptr 1 0,.slo 3 0 nb 0,.slo 4 0 nj 0,.slo 5 0 na 0,.z ln,.slo 8 0 nk 0,.slo 9 0 nk 0,.slo 6 0 n 0,.slo 7 0 n 0,.z ↑i,.any,.any,.any,.any,.any,.any,.any] (Jm ni ax bx jx kx rx wx lx dx) aq)):=ak
abbrev Jl (ni:Nat) (ax:al) (bx:al) (jx:al) (kx:al) (rx:al) (wx:al) (lx:al) (dx:al):bE:=[sN [.nils],sN [.slo 2 0 ni 0],sC ax 5,sC bx 2,sC jx 4,sC kx 1,sC rx 1,sC wx 1,sC lx 1,sC dx 1]
theorem OC (s:ap) (ni nb nj na nk n:Nat) (ln:Int) (i:Nat) (ax bx jx kx rx wx lx dx:al) (K:Pk):(bc prog jh 60 228 (bS pmC 0 1) (aF 228 (pT s nb nj na nk n ln i)) (ai (pU ni ax bx jx kx rx wx lx dx) aq) (vK i_ K))=(
 cond (ad .lss ↑i ↑n) (ck (ag (aa (ae ↑i) 1) n) <|
 ck (ag (aa (ah 0 (ae ↑i) 1) 1) (aG rx)) <|
 ck (a7 .i32 (af rx (ah 0 (ae ↑i) 1))) <|
 K .normal [.str s,.ptr 0 0,.z 0,.z 0,.z 0,.ptr 1 0,.slo 3 0 nb 0,.slo 4 0 nj 0,.slo 5 0 na 0,.z ln,.slo 8 0 nk 0,.slo 9 0 nk 0,.slo 6 0 n 0,.slo 7 0 n 0,.z ↑i,.any,.any,.any,.any,.any,.b (ad .neq (ar (af rx (ah 0 (ae ↑i) 1))) 10),.any] (Jl ni ax bx jx kx rx wx lx dx) aq) (K .normal [.str s,.ptr 0 0,.z 0,.z 0,.z 0,.ptr 1 0,.slo 3 0 nb 0,.slo 4 0 nj 0,.slo 5 0 na 0,.z ln,.slo 8 0 nk 0,.slo 9 0 nk 0,.slo 6 0 n 0,.slo 7 0 n 0,.z ↑i,.any,.any,.any,.any,.any,.b false,.any] (Jl ni ax bx jx kx rx wx lx dx) aq)):=ak
theorem OM (s:ap) (ni nb nj na nk n:Nat) (ln:Int) (i:Nat) (ax bx jx kx rx wx lx dx:al) (K:Pk):(AJ prog jh 60 228 (bi pmD 0) (aF 228 (pT s nb nj na nk n ln i++[(49,.b true)])) (ai (pU ni ax bx jx kx rx wx lx dx) aq) (vK i_ K))=(
 (
 ck (ag (aa (ae ↑i) 1) n) <|
 ck (ag (aa (ah 0 (ae ↑i) 1) 1) (aG rx)) <|
 ck (a7 .i32 (af rx (ah 0 (ae ↑i) 1))) <|
 ck (ag (aa nk 1) 1000000) <|
 ck (ag (aa 0 (aJ nk 1)) (aG lx)) <|
 ck (ag (aa (ae ↑i) 1) n) <|
 ck (ag (aa (ah 0 (ae ↑i) 1) 1) (aG wx)) <|
 ck (eM (af wx (ah 0 (ae ↑i) 1))) <|
 ck (ag (aa nk 1) 1000000) <|
 ck (ag (aa 0 (aJ nk 1)) (aG dx)) <|
 ck (ag (aa (ah 0 (ae ↑i) 1) 1) (aG rx)) <|
 ck (a7 .i32 (af rx (ah 0 (ae ↑i) 1))) <|
 ck (ad .eql (ar (af rx (ah 0 (ae ↑i) 1))) (ar (af rx (ah 0 (ae ↑i) 1)))) <|
 ck (ag (aa (ah 0 (ae ↑i) 1) 1) (aG rx)) <|
 ck (a7 .i32 (af rx (ah 0 (ae ↑i) 1))) <|
 ck (ad .eql (ar (af rx (ah 0 (ae ↑i) 1))) (ar (af rx (ah 0 (ae ↑i) 1)))) <|
 ck (ag (aa (ah 0 (ae ↑i) 1) 1) (aG wx)) <|
 ck (eM (af wx (ah 0 (ae ↑i) 1))) <|
 ck (ge (ba (af wx (ah 0 (ae ↑i) 1))) (ba (af wx (ah 0 (ae ↑i) 1)))) <|
 ck (ag (aa (ah 0 (ae ↑i) 1) 1) (aG wx)) <|
 ck (eM (af wx (ah 0 (ae ↑i) 1))) <|
 ck (ge (ba (af wx (ah 0 (ae ↑i) 1))) (ba (af wx (ah 0 (ae ↑i) 1)))) <|
 ck (ag (aa (ah 0 (ae ↑i) 1) 1) (aG wx)) <|
 ck (eM (af wx (ah 0 (ae ↑i) 1))) <|
 ck (ge (ba (af wx (ah 0 (ae ↑i) 1))) (ba (af wx (ah 0 (ae ↑i) 1)))) <|
 ck (ag (aa (ah 0 (ae ↑i) 1) 1) (aG wx)) <|
 ck (eM (af wx (ah 0 (ae ↑i) 1))) <|
 ck (ge (ba (af wx (ah 0 (ae ↑i) 1))) (ba (af wx (ah 0 (ae ↑i) 1)))) <|
 K .normal [.str s,.ptr 0 0,.z 0,.z 0,.z 0,.ptr 1 0,.slo 3 0 nb 0,.slo 4 0 nj 0,.slo 5 0 na 0,.z ln,.slo 11 0 (aa nk 1) 0,.slo 13 0 (aa nk 1) 0,.slo 6 0 n 0,.slo 7 0 n 0,.z ↑i,.any,.any,.any,.any,.any,.b true,.any] [sN [.nils],sN [.slo 2 0 ni 0],sC ax 5,sC bx 2,sC jx 4,sC kx 1,sC rx 1,sC wx 1,sD,sD,sN [.int .i32 (ar (af rx (ah 0 (ae ↑i) 1)))],sC (bM (bf lx 0 (aJ nk 1)) [.int .i32 (ar (af rx (ah 0 (ae ↑i) 1)))]) 1,sN [.b (ba (af wx (ah 0 (ae ↑i) 1)))],sC (bM (bf dx 0 (aJ nk 1)) [.b (ba (af wx (ah 0 (ae ↑i) 1)))]) 1] aq)
 ∧ (
 (
 ck (ag (aa (ae ↑i) 1) n) <|
 ck (ag (aa (ah 0 (ae ↑i) 1) 1) (aG rx)) <|
 ck (a7 .i32 (af rx (ah 0 (ae ↑i) 1))) <|
 ck (ag (aa (ae ↑i) 1) n) <|
 ck (ag (aa (ah 0 (ae ↑i) 1) 1) (aG wx)) <|
 ck (eM (af wx (ah 0 (ae ↑i) 1))) <|
 ck (ag (aa nk 1) 1000000) <|
 ck (ag (aa 0 (aJ nk 1)) (aG lx)) <|
 ck (ag (aa nk 1) 1000000) <|
 ck (ag (aa 0 (aJ nk 1)) (aG dx)) <|
 ck (ag (aa (ah 0 (ae ↑i) 1) 1) (aG rx)) <|
 ck (a7 .i32 (af rx (ah 0 (ae ↑i) 1))) <|
 ck (ad .eql (ar (af rx (ah 0 (ae ↑i) 1))) (ar (af rx (ah 0 (ae ↑i) 1)))) <|
 ck (ag (aa (ah 0 (ae ↑i) 1) 1) (aG rx)) <|
 ck (a7 .i32 (af rx (ah 0 (ae ↑i) 1))) <|
 ck (ad .eql (ar (af rx (ah 0 (ae ↑i) 1))) (ar (af rx (ah 0 (ae ↑i) 1)))) <|
 ck (ag (aa (ah 0 (ae ↑i) 1) 1) (aG wx)) <|
 ck (eM (af wx (ah 0 (ae ↑i) 1))) <|
 ck (ge (ba (af wx (ah 0 (ae ↑i) 1))) (ba (af wx (ah 0 (ae ↑i) 1)))) <|
 ck (ag (aa (ah 0 (ae ↑i) 1) 1) (aG wx)) <|
 ck (eM (af wx (ah 0 (ae ↑i) 1))) <|
 ck (ge (ba (af wx (ah 0 (ae ↑i) 1))) (ba (af wx (ah 0 (ae ↑i) 1)))) <|
 ck (ag (aa (ah 0 (ae ↑i) 1) 1) (aG wx)) <|
 ck (eM (af wx (ah 0 (ae ↑i) 1))) <|
 ck (ge (ba (af wx (ah 0 (ae ↑i) 1))) (ba (af wx (ah 0 (ae ↑i) 1)))) <|
 ck (ag (aa (ah 0 (ae ↑i) 1) 1) (aG wx)) <|
 ck (eM (af wx (ah 0 (ae ↑i) 1))) <|
 ck (ge (ba (af wx (ah 0 (ae ↑i) 1))) (ba (af wx (ah 0 (ae ↑i) 1)))) <|
 K .normal [.str s,.ptr 0 0,.z 0,.z 0,.z 0,.ptr 1 0,.slo 3 0 nb 0,.slo 4 0 nj 0,.slo 5 0 na 0,.z ln,.slo 12 0 (aa nk 1) 0,.slo 13 0 (aa nk 1) 0,.slo 6 0 n 0,.slo 7 0 n 0,.z ↑i,.any,.any,.any,.any,.any,.b true,.any] [sN [.nils],sN [.slo 2 0 ni 0],sC ax 5,sC bx 2,sC jx 4,sC kx 1,sC rx 1,sC wx 1,sD,sD,sN [.int .i32 (ar (af rx (ah 0 (ae ↑i) 1)))],sN [.b (ba (af wx (ah 0 (ae ↑i) 1)))],sC (bM (bf lx 0 (aJ nk 1)) [.int .i32 (ar (af rx (ah 0 (ae ↑i) 1)))]) 1,sC (bM (bf dx 0 (aJ nk 1)) [.b (ba (af wx (ah 0 (ae ↑i) 1)))]) 1] aq)
 ∧ (
 ck (ag (aa (ae ↑i) 1) n) <|
 ck (ag (aa (ah 0 (ae ↑i) 1) 1) (aG wx)) <|
 ck (eM (af wx (ah 0 (ae ↑i) 1))) <|
 ck (ag (aa (ae ↑i) 1) n) <|
 ck (ag (aa (ah 0 (ae ↑i) 1) 1) (aG rx)) <|
 ck (a7 .i32 (af rx (ah 0 (ae ↑i) 1))) <|
 ck (ag (aa nk 1) 1000000) <|
 ck (ag (aa 0 (aJ nk 1)) (aG lx)) <|
 ck (ag (aa nk 1) 1000000) <|
 ck (ag (aa 0 (aJ nk 1)) (aG dx)) <|
 ck (ag (aa (ah 0 (ae ↑i) 1) 1) (aG wx)) <|
 ck (eM (af wx (ah 0 (ae ↑i) 1))) <|
 ck (ge (ba (af wx (ah 0 (ae ↑i) 1))) (ba (af wx (ah 0 (ae ↑i) 1)))) <|
 ck (ag (aa (ah 0 (ae ↑i) 1) 1) (aG wx)) <|
 ck (eM (af wx (ah 0 (ae ↑i) 1))) <|
 ck (ge (ba (af wx (ah 0 (ae ↑i) 1))) (ba (af wx (ah 0 (ae ↑i) 1)))) <|
 ck (ag (aa (ah 0 (ae ↑i) 1) 1) (aG wx)) <|
 ck (eM (af wx (ah 0 (ae ↑i) 1))) <|
 ck (ge (ba (af wx (ah 0 (ae ↑i) 1))) (ba (af wx (ah 0 (ae ↑i) 1)))) <|
 ck (ag (aa (ah 0 (ae ↑i) 1) 1) (aG wx)) <|
 ck (eM (af wx (ah 0 (ae ↑i) 1))) <|
 ck (ge (ba (af wx (ah 0 (ae ↑i) 1))) (ba (af wx (ah 0 (ae ↑i) 1)))) <|
 ck (ag (aa (ah 0 (ae ↑i) 1) 1) (aG rx)) <|
 ck (a7 .i32 (af rx (ah 0 (ae ↑i) 1))) <|
 ck (ad .eql (ar (af rx (ah 0 (ae ↑i) 1))) (ar (af rx (ah 0 (ae ↑i) 1)))) <|
 ck (ag (aa (ah 0 (ae ↑i) 1) 1) (aG rx)) <|
 ck (a7 .i32 (af rx (ah 0 (ae ↑i) 1))) <|
 ck (ad .eql (ar (af rx (ah 0 (ae ↑i) 1))) (ar (af rx (ah 0 (ae ↑i) 1)))) <|
 K .normal [.str s,.ptr 0 0,.z 0,.z 0,.z 0,.ptr 1 0,.slo 3 0 nb 0,.slo 4 0 nj 0,.slo 5 0 na 0,.z ln,.slo 12 0 (aa nk 1) 0,.slo 13 0 (aa nk 1) 0,.slo 6 0 n 0,.slo 7 0 n 0,.z ↑i,.any,.any,.any,.any,.any,.b true,.any] [sN [.nils],sN [.slo 2 0 ni 0],sC ax 5,sC bx 2,sC jx 4,sC kx 1,sC rx 1,sC wx 1,sD,sD,sN [.b (ba (af wx (ah 0 (ae ↑i) 1)))],sN [.int .i32 (ar (af rx (ah 0 (ae ↑i) 1)))],sC (bM (bf lx 0 (aJ nk 1)) [.int .i32 (ar (af rx (ah 0 (ae ↑i) 1)))]) 1,sC (bM (bf dx 0 (aJ nk 1)) [.b (ba (af wx (ah 0 (ae ↑i) 1)))]) 1] aq))):=ak
theorem ON (s:ap) (ni nb nj na nk n:Nat) (ln:Int) (i:Nat) (ax bx jx kx rx wx lx dx:al) (K:Pk):(bc prog jh 60 228 (pmD.drop 1) (aF 228 (pT s nb nj na nk n ln i)) (ai (pU ni ax bx jx kx rx wx lx dx) aq) (vK i_ K))=(
 K (.exit 1) [.str s,.ptr 0 0,.z 0,.z 0,.z 0,.ptr 1 0,.slo 3 0 nb 0,.slo 4 0 nj 0,.slo 5 0 na 0,.z ln,.slo 8 0 nk 0,.slo 9 0 nk 0,.slo 6 0 n 0,.slo 7 0 n 0,.z ↑i,.any,.any,.any,.any,.any,.any,.any] [sN [.nils],sN [.slo 2 0 ni 0],sC ax 5,sC bx 2,sC jx 4,sC kx 1,sC rx 1,sC wx 1,sC lx 1,sC dx 1] aq):=ak
theorem OO (s:ap) (ni nb nj na nk n:Nat) (ln:Int) (i:Nat) (ax bx jx kx rx wx lx dx:al) (K:Pk):(aX prog jh 60 228 (jR (bi pmC 1)) (aF 228 (pT s nb nj na nk n ln i++[(49,.b false)])) (ai (pU ni ax bx jx kx rx wx lx dx) aq) (vK i_ K))=(
 K .normal [.str s,.ptr 0 0,.z 0,.z 0,.z 0,.ptr 1 0,.slo 3 0 nb 0,.slo 4 0 nj 0,.slo 5 0 na 0,.z ln,.slo 8 0 nk 0,.slo 9 0 nk 0,.slo 6 0 n 0,.slo 7 0 n 0,.z ↑i,.any,.any,.any,.any,.any,.b false,.any] [sN [.nils],sN [.slo 2 0 ni 0],sC ax 5,sC bx 2,sC jx 4,sC kx 1,sC rx 1,sC wx 1,sC lx 1,sC dx 1] aq):=ak
theorem OD (s:ap) (ni nb nj na nk n:Nat) (ln:Int) (i:Nat) (ax bx jx kx rx wx lx dx:al) (K:Pk):(bc prog jh 60 228 (bS pmC 2 5) (aF 228 (pT s nb nj na nk n ln i)) (ai (pU ni ax bx jx kx rx wx lx dx) aq) (vK i_ K))=(
 cond (ad .eql ↑i ↑n) (cond (ad .eql (↑nk) 0) (K (.exit 0) [.str s,.ptr 0 0,.z 0,.z 0,.z 0,.ptr 1 0,.slo 3 0 nb 0,.slo 4 0 nj 0,.slo 5 0 na 0,.z (au .add .i64 ln 1),.slo 8 0 nk 0,.slo 9 0 nk 0,.slo 6 0 n 0,.slo 7 0 n 0,.z ↑i,.any,.any,.any,.any,.any,.any,.any] [sN [.nils],sN [.slo 2 0 ni 0],sC ax 5,sC bx 2,sC jx 4,sC kx 1,sC rx 1,sC wx 1,sC lx 1,sC dx 1] aq) (ck (sZ nk nk lx dx) <|
 K .normal [.str s,.ptr 0 0,.z 0,.z 0,.z 0,.ptr 1 0,.slo 3 0 nb 0,.slo 4 0 nj 0,.slo 5 0 na 0,.z (au .add .i64 ln 1),.nils,.nils,.slo 6 0 n 0,.slo 7 0 n 0,.z ↑i,.slo 10 0 (rI (au .add .i64 ln 1) lx dx) 0,.z (rH lx dx),.any,.any,.any,.any,.any] [sN [.nils],sN [.slo 2 0 ni 0],sC ax 5,sC bx 2,sC jx 4,sC kx 1,sC rx 1,sC wx 1,sC lx 1,sC dx 1,sC (qd (au .add .i64 ln 1) lx dx) 4] aq)) (ck (sZ nk nk lx dx) <|
 K .normal [.str s,.ptr 0 0,.z 0,.z 0,.z 0,.ptr 1 0,.slo 3 0 nb 0,.slo 4 0 nj 0,.slo 5 0 na 0,.z (au .add .i64 ln 1),.nils,.nils,.slo 6 0 n 0,.slo 7 0 n 0,.z ↑i,.slo 10 0 (rI (au .add .i64 ln 1) lx dx) 0,.z (rH lx dx),.any,.any,.any,.any,.any] [sN [.nils],sN [.slo 2 0 ni 0],sC ax 5,sC bx 2,sC jx 4,sC kx 1,sC rx 1,sC wx 1,sC lx 1,sC dx 1,sC (qd (au .add .i64 ln 1) lx dx) 4] aq)):=ak
abbrev vC (ni:Nat) (ax:al) (bx:al) (jx:al) (kx:al) (rx:al) (wx:al) (vx:al):bE:=[sN [.nils],sN [.slo 2 0 ni 0],sC ax 5,sC bx 2,sC jx 4,sC kx 1,sC rx 1,sC wx 1,sC vx 4]
theorem OE (s:ap) (ni nb nj na n:Nat) (ln:Int) (i m:Nat) (e:Int) (ax bx jx kx rx wx vx:al) (K:Pk):(bc prog jh 60 228 (bS pmC 7 2) (aF 228 (nz s nb nj na n ln i 0 m e)) (ai (nA ni ax bx jx kx rx wx vx) aq) (vK i_ K))=(
 cond (ad .gtr (↑m) 0) (ck (ag 1 m) <|
 ck (ag 1 (aG vx)) <|
 ck (cW (af vx 0)) <|
 cond (ad .gtr (↑(am (aK (af vx 0)))) 0) (ck (ag 1 m) <|
 ck (ag 1 (aG vx)) <|
 ck (cW (af vx 0)) <|
 ck (ag 1 m) <|
 ck (ag 1 (aG vx)) <|
 ck (cW (af vx 0)) <|
 ck (b9 (au .sub .i64 (↑(am (aK (af vx 0)))) 1)) <|
 ck (ag (aa (ae (au .sub .i64 (↑(am (aK (af vx 0)))) 1)) 1) (am (aK (af vx 0)))) <|
 cond (ad .eql (bz (aK (af vx 0)) (ae (au .sub .i64 (↑(am (aK (af vx 0)))) 1))) 58) (ck (ag 1 m) <|
 ck (ag 1 (aG vx)) <|
 ck (cW (af vx 0)) <|
 ck (ag 1 m) <|
 ck (ag 1 (aG vx)) <|
 ck (cW (af vx 0)) <|
 ck (b9 (au .sub .i64 (↑(am (aK (af vx 0)))) 1)) <|
 ck (ag (ae (au .sub .i64 (↑(am (aK (af vx 0)))) 1)) (am (aK (af vx 0)))) <|
 ck (ag 1 m) <|
 ck (ag 4 (aG vx)) <|
 ck (eM (af vx 3)) <|
 cond (ba (af vx 3)) (ck (ag 1 m) <|
 ck (ag 3 (aG vx)) <|
 ck (a7 .i64 (af vx 2)) <|
 ck (ag 3 (aG vx)) <|
 ck (a7 .i64 (af vx 2)) <|
 ck (ad .eql (ar (af vx 2)) (ar (af vx 2))) <|
 ck (ag 3 (aG vx)) <|
 ck (a7 .i64 (af vx 2)) <|
 ck (ad .eql (ar (af vx 2)) (ar (af vx 2))) <|
 K .ret [.str s,.ptr 0 0,.z ln,.z (ar (af vx 2)),.z 12,.ptr 1 0,.slo 3 0 nb 0,.slo 4 0 nj 0,.slo 5 0 na 0,.z ln,.nils,.nils,.slo 6 0 n 0,.slo 7 0 n 0,.z ↑i,.slo 8 0 m 0,.z e,.any,.any,.any,.any,.any] (vC ni ax bx jx kx rx wx vx) aq) (ck (ag (am (aY (aK (af vx 0)) 0 (ae (au .sub .i64 (↑(am (aK (af vx 0)))) 1)))) 1000000000) <|
 cond (bu (dW (aY (aK (af vx 0)) 0 (ae (au .sub .i64 (↑(am (aK (af vx 0)))) 1))))) (ck (ag 1 m) <|
 ck (ag 3 (aG vx)) <|
 ck (a7 .i64 (af vx 2)) <|
 ck (ag 3 (aG vx)) <|
 ck (a7 .i64 (af vx 2)) <|
 ck (ad .eql (ar (af vx 2)) (ar (af vx 2))) <|
 ck (ag 3 (aG vx)) <|
 ck (a7 .i64 (af vx 2)) <|
 ck (ad .eql (ar (af vx 2)) (ar (af vx 2))) <|
 K .ret [.str s,.ptr 0 0,.z ln,.z (ar (af vx 2)),.z 12,.ptr 1 0,.slo 3 0 nb 0,.slo 4 0 nj 0,.slo 5 0 na 0,.z ln,.nils,.nils,.slo 6 0 n 0,.slo 7 0 n 0,.z ↑i,.slo 8 0 m 0,.z e,.any,.any,.any,.any,.any] (vC ni ax bx jx kx rx wx vx) aq) (ck (qa nb bx) <|
 cond (ad .geq (mZ bx (aY (aK (af vx 0)) 0 (ae (au .sub .i64 (↑(am (aK (af vx 0)))) 1)))) 0) (ck (ag 1 m) <|
 ck (ag 3 (aG vx)) <|
 ck (a7 .i64 (af vx 2)) <|
 ck (ag 3 (aG vx)) <|
 ck (a7 .i64 (af vx 2)) <|
 ck (ad .eql (ar (af vx 2)) (ar (af vx 2))) <|
 ck (ag 3 (aG vx)) <|
 ck (a7 .i64 (af vx 2)) <|
 ck (ad .eql (ar (af vx 2)) (ar (af vx 2))) <|
 K .ret [.str s,.ptr 0 0,.z ln,.z (ar (af vx 2)),.z 12,.ptr 1 0,.slo 3 0 nb 0,.slo 4 0 nj 0,.slo 5 0 na 0,.z ln,.nils,.nils,.slo 6 0 n 0,.slo 7 0 n 0,.z ↑i,.slo 8 0 m 0,.z e,.any,.any,.any,.any,.any] (vC ni ax bx jx kx rx wx vx) aq) (ck (ag (aa nb 1) 1000000) <|
 ck (ag (aa 0 (aJ nb 2)) (aG bx)) <|
 ck (ag 1 m) <|
 ck (ag m m) <|
 K .normal [.str s,.ptr 0 0,.z 0,.z 0,.z 0,.ptr 1 0,.slo 10 0 (aa nb 1) 0,.slo 4 0 nj 0,.slo 5 0 na 0,.z ln,.nils,.nils,.slo 6 0 n 0,.slo 7 0 n 0,.z ↑i,.slo 8 4 (dR m 1) 1,.z e,.any,.any,.any,.any,.any] [sN [.nils],sN [.slo 2 0 ni 0],sC ax 5,sD,sC jx 4,sC kx 1,sC rx 1,sC wx 1,sC vx 4,sN [.str (aY (aK (af vx 0)) 0 (ae (au .sub .i64 (↑(am (aK (af vx 0)))) 1))),.z ↑ni],sC (bM (bf bx 0 (aJ nb 2)) [.str (aY (aK (af vx 0)) 0 (ae (au .sub .i64 (↑(am (aK (af vx 0)))) 1))),.z ↑ni]) 2] aq)))) (K .normal [.str s,.ptr 0 0,.z 0,.z 0,.z 0,.ptr 1 0,.slo 3 0 nb 0,.slo 4 0 nj 0,.slo 5 0 na 0,.z ln,.nils,.nils,.slo 6 0 n 0,.slo 7 0 n 0,.z ↑i,.slo 8 0 m 0,.z e,.any,.any,.any,.any,.any] (vC ni ax bx jx kx rx wx vx) aq)) (K .normal [.str s,.ptr 0 0,.z 0,.z 0,.z 0,.ptr 1 0,.slo 3 0 nb 0,.slo 4 0 nj 0,.slo 5 0 na 0,.z ln,.nils,.nils,.slo 6 0 n 0,.slo 7 0 n 0,.z ↑i,.slo 8 0 m 0,.z e,.any,.any,.any,.any,.any] (vC ni ax bx jx kx rx wx vx) aq)) (K .normal [.str s,.ptr 0 0,.z 0,.z 0,.z 0,.ptr 1 0,.slo 3 0 nb 0,.slo 4 0 nj 0,.slo 5 0 na 0,.z ln,.nils,.nils,.slo 6 0 n 0,.slo 7 0 n 0,.z ↑i,.slo 8 0 m 0,.z e,.any,.any,.any,.any,.any] (vC ni ax bx jx kx rx wx vx) aq)):=ak
abbrev Jo (ni:Nat) (ax:al) (bx:al) (jx:al) (kx:al) (rx:al) (wx:al) (vx:al):bE:=[sN [.nils],sN [.slo 2 0 ni 0],sC ax 5,sC bx 2,sC jx 4,sC kx 1,sC rx 1,sC wx 1,sC vx 4]
theorem OH (s:ap) (ni nb nj na n:Nat) (ln:Int) (i o m:Nat) (e:Int) (ax bx jx kx rx wx vx:al) (K:Pk):(bc prog jh 60 228 (bS pmC 9 2) (aF 228 (nz s nb nj na n ln i o m e)) (ai (nA ni ax bx jx kx rx wx vx) aq) (vK i_ K))=(
 cond (ad .eql (↑m) 0) (K (.exit 1) [.str s,.ptr 0 0,.z 0,.z 0,.z 0,.ptr 1 0,.slo 3 0 nb 0,.slo 4 0 nj 0,.slo 5 0 na 0,.z ln,.nils,.nils,.slo 6 0 n 0,.slo 7 0 n 0,.z ↑i,.slo 8 o m 0,.z e,.any,.any,.any,.any,.any] (Jo ni ax bx jx kx rx wx vx) aq) (K .normal [.str s,.ptr 0 0,.z 0,.z 0,.z 0,.ptr 1 0,.slo 3 0 nb 0,.slo 4 0 nj 0,.slo 5 0 na 0,.z ln,.nils,.nils,.slo 6 0 n 0,.slo 7 0 n 0,.z ↑i,.slo 8 o m 0,.z e,.any,.any,.any,.any,.any] (Jo ni ax bx jx kx rx wx vx) aq)):=ak
abbrev EG (ni:Nat) (ln:Int) (o:Nat) (e:Int) (ax:al) (bx:al) (jx:al) (kx:al) (rx:al) (wx:al) (vx:al):bE:=[sN [.nils],sN [.slo 2 0 ni 0],sC ax 5,sC bx 2,sC jx 4,sC kx 1,sC rx 1,sC wx 1,sC vx 4,sN [.z (uH o vx e ln ↑ni),.z (uw o vx e ln ↑ni),.z (uv o vx e ln ↑ni),.z (uu o vx e ln ↑ni),.int .u64 (ut o vx e ln ↑ni)],sN [.str (sW o vx e ln ↑ni),.z (uG o vx e ln ↑ni),.z (uE o vx e ln ↑ni),.b (uD o vx e ln ↑ni)],sN [.z (nU o vx e ln ↑ni),.z (nT o vx e ln ↑ni),.z (mE o vx e ln ↑ni)]]
theorem OI (s:ap) (ni nb nj na n:Nat) (ln:Int) (i o m:Nat) (e:Int) (ax bx jx kx rx wx vx:al) (K:Pk):(bc prog jh 60 228 (bS pmC 11 4) (aF 228 (nz s nb nj na n ln i o m e)) (ai (nA ni ax bx jx kx rx wx vx) aq) (vK i_ K))=(
 ck (dm dZ) <|
 ck (uL o m vx) <|
 cond (ad .neq (mE o vx e ln ↑ni) 0) (ck (ad .eql (nU o vx e ln ↑ni) (nU o vx e ln ↑ni)) <|
 ck (ad .eql (nU o vx e ln ↑ni) (nU o vx e ln ↑ni)) <|
 ck (ad .eql (nT o vx e ln ↑ni) (nT o vx e ln ↑ni)) <|
 ck (ad .eql (nT o vx e ln ↑ni) (nT o vx e ln ↑ni)) <|
 ck (ad .eql (mE o vx e ln ↑ni) (mE o vx e ln ↑ni)) <|
 ck (ad .eql (mE o vx e ln ↑ni) (mE o vx e ln ↑ni)) <|
 K .ret [.str s,.ptr 0 0,.z (nU o vx e ln ↑ni),.z (nT o vx e ln ↑ni),.z (mE o vx e ln ↑ni),.ptr 1 0,.slo 3 0 nb 0,.slo 4 0 nj 0,.slo 5 0 na 0,.z ln,.nils,.nils,.slo 6 0 n 0,.slo 7 0 n 0,.z ↑i,.slo 8 o m 0,.z e,.ptr 9 0,.ptr 10 0,.any,.any,.any] (EG ni ln o e ax bx jx kx rx wx vx) aq) (K .normal [.str s,.ptr 0 0,.z 0,.z 0,.z 0,.ptr 1 0,.slo 3 0 nb 0,.slo 4 0 nj 0,.slo 5 0 na 0,.z ln,.nils,.nils,.slo 6 0 n 0,.slo 7 0 n 0,.z ↑i,.slo 8 o m 0,.z e,.ptr 9 0,.ptr 10 0,.any,.any,.b (bA .neq (sW o vx e ln ↑ni) [])] (EG ni ln o e ax bx jx kx rx wx vx) aq)):=ak
theorem OQ (s:ap) (ni nb nj na n:Nat) (ln:Int) (i o m:Nat) (e:Int) (xo xa xb xc xn:Int) (js:ap) (jl jc:Int) (jb:Bool) (ax bx jx kx rx wx vx:al) (K:Pk):(AJ prog jh 60 228 (bi MY 0) (aF 228 (nz s nb nj na n ln i o m e++[(19,.ptr 9 0),(20,.ptr 10 0),(175,.b true)])) (ai (nA ni ax bx jx kx rx wx vx++[.cells [.z xo,.z xa,.z xb,.z xc,.int .u64 xn] none,.cells [.str js,.z jl,.z jc,.b jb] none]) aq) (vK i_ K))=(
 (
 ck (ag (aa nj 1) 1000000) <|
 ck (ag (aa 0 (aJ nj 4)) (aG jx)) <|
 ck (ag (aa na 1) 1000000) <|
 ck (ag (aa 0 (aJ na 1)) (aG kx)) <|
 ck (bA .eql js js) <|
 ck (ad .eql jl jl) <|
 ck (ad .eql jc jc) <|
 ck (ge jb jb) <|
 ck (bA .eql js js) <|
 ck (ad .eql jl jl) <|
 ck (ad .eql jc jc) <|
 ck (ge jb jb) <|
 ck (bR ni ni) <|
 ck (bR ni ni) <|
 ck (bR ni ni) <|
 ck (bR ni ni) <|
 K .normal [.str s,.ptr 0 0,.z 0,.z 0,.z 0,.ptr 1 0,.slo 3 0 nb 0,.slo 12 0 (aa nj 1) 0,.slo 14 0 (aa na 1) 0,.z ln,.nils,.nils,.slo 6 0 n 0,.slo 7 0 n 0,.z ↑i,.slo 8 o m 0,.z e,.ptr 9 0,.ptr 10 0,.any,.any,.b true] [sN [.nils],sN [.slo 2 0 ni 0],sC ax 5,sC bx 2,sD,sD,sC rx 1,sC wx 1,sC vx 4,sN [.z xo,.z xa,.z xb,.z xc,.int .u64 xn],sN [.str js,.z jl,.z jc,.b jb],sN [.str js,.z jl,.z jc,.b jb],sC (bM (bf jx 0 (aJ nj 4)) [.str js,.z jl,.z jc,.b jb]) 4,sN [.z ↑ni],sC (bM (bf kx 0 (aJ na 1)) [.z ↑ni]) 1] aq)
 ∧ (
 (
 ck (ag (aa nj 1) 1000000) <|
 ck (ag (aa 0 (aJ nj 4)) (aG jx)) <|
 ck (ag (aa na 1) 1000000) <|
 ck (ag (aa 0 (aJ na 1)) (aG kx)) <|
 ck (bA .eql js js) <|
 ck (ad .eql jl jl) <|
 ck (ad .eql jc jc) <|
 ck (ge jb jb) <|
 ck (bA .eql js js) <|
 ck (ad .eql jl jl) <|
 ck (ad .eql jc jc) <|
 ck (ge jb jb) <|
 ck (bR ni ni) <|
 ck (bR ni ni) <|
 ck (bR ni ni) <|
 ck (bR ni ni) <|
 K .normal [.str s,.ptr 0 0,.z 0,.z 0,.z 0,.ptr 1 0,.slo 3 0 nb 0,.slo 13 0 (aa nj 1) 0,.slo 14 0 (aa na 1) 0,.z ln,.nils,.nils,.slo 6 0 n 0,.slo 7 0 n 0,.z ↑i,.slo 8 o m 0,.z e,.ptr 9 0,.ptr 10 0,.any,.any,.b true] [sN [.nils],sN [.slo 2 0 ni 0],sC ax 5,sC bx 2,sD,sD,sC rx 1,sC wx 1,sC vx 4,sN [.z xo,.z xa,.z xb,.z xc,.int .u64 xn],sN [.str js,.z jl,.z jc,.b jb],sN [.str js,.z jl,.z jc,.b jb],sN [.z ↑ni],sC (bM (bf jx 0 (aJ nj 4)) [.str js,.z jl,.z jc,.b jb]) 4,sC (bM (bf kx 0 (aJ na 1)) [.z ↑ni]) 1] aq)
 ∧ (
 ck (ag (aa nj 1) 1000000) <|
 ck (ag (aa 0 (aJ nj 4)) (aG jx)) <|
 ck (ag (aa na 1) 1000000) <|
 ck (ag (aa 0 (aJ na 1)) (aG kx)) <|
 ck (bR ni ni) <|
 ck (bR ni ni) <|
 ck (bR ni ni) <|
 ck (bR ni ni) <|
 ck (bA .eql js js) <|
 ck (ad .eql jl jl) <|
 ck (ad .eql jc jc) <|
 ck (ge jb jb) <|
 ck (bA .eql js js) <|
 ck (ad .eql jl jl) <|
 ck (ad .eql jc jc) <|
 ck (ge jb jb) <|
 K .normal [.str s,.ptr 0 0,.z 0,.z 0,.z 0,.ptr 1 0,.slo 3 0 nb 0,.slo 13 0 (aa nj 1) 0,.slo 14 0 (aa na 1) 0,.z ln,.nils,.nils,.slo 6 0 n 0,.slo 7 0 n 0,.z ↑i,.slo 8 o m 0,.z e,.ptr 9 0,.ptr 10 0,.any,.any,.b true] [sN [.nils],sN [.slo 2 0 ni 0],sC ax 5,sC bx 2,sD,sD,sC rx 1,sC wx 1,sC vx 4,sN [.z xo,.z xa,.z xb,.z xc,.int .u64 xn],sN [.str js,.z jl,.z jc,.b jb],sN [.z ↑ni],sN [.str js,.z jl,.z jc,.b jb],sC (bM (bf jx 0 (aJ nj 4)) [.str js,.z jl,.z jc,.b jb]) 4,sC (bM (bf kx 0 (aJ na 1)) [.z ↑ni]) 1] aq))):=ak
theorem OS (s:ap) (ni nb nj na n:Nat) (ln:Int) (i o m:Nat) (e:Int) (xo xa xb xc xn:Int) (js:ap) (jl jc:Int) (jb:Bool) (ax bx jx kx rx wx vx:al) (K:Pk):(aX prog jh 60 228 (jR (bi pmC 15)) (aF 228 (nz s nb nj na n ln i o m e++[(19,.ptr 9 0),(20,.ptr 10 0),(175,.b false)])) (ai (nA ni ax bx jx kx rx wx vx++[.cells [.z xo,.z xa,.z xb,.z xc,.int .u64 xn] none,.cells [.str js,.z jl,.z jc,.b jb] none]) aq) (vK i_ K))=(
 K .normal [.str s,.ptr 0 0,.z 0,.z 0,.z 0,.ptr 1 0,.slo 3 0 nb 0,.slo 4 0 nj 0,.slo 5 0 na 0,.z ln,.nils,.nils,.slo 6 0 n 0,.slo 7 0 n 0,.z ↑i,.slo 8 o m 0,.z e,.ptr 9 0,.ptr 10 0,.any,.any,.b false] [sN [.nils],sN [.slo 2 0 ni 0],sC ax 5,sC bx 2,sC jx 4,sC kx 1,sC rx 1,sC wx 1,sC vx 4,sN [.z xo,.z xa,.z xb,.z xc,.int .u64 xn],sN [.str js,.z jl,.z jc,.b jb]] aq):=ak
theorem OT (s:ap) (ni nb nj na n:Nat) (ln:Int) (i o m:Nat) (e:Int) (xo xa xb xc xn:Int) (js:ap) (jl jc:Int) (jb:Bool) (ax bx jx kx rx wx vx:al) (K:Pk):(bc prog jh 60 228 (pmC.drop 16) (aF 228 (nz s nb nj na n ln i o m e++[(19,.ptr 9 0),(20,.ptr 10 0)])) (ai (nA ni ax bx jx kx rx wx vx++[.cells [.z xo,.z xa,.z xb,.z xc,.int .u64 xn] none,.cells [.str js,.z jl,.z jc,.b jb] none]) aq) (vK i_ K))=(
 ck (ag (aa ni 1) 1000000) <|
 ck (ag (aa 0 (aJ ni 5)) (aG ax)) <|
 K .normal [.str s,.ptr 0 0,.z 0,.z 0,.z 0,.ptr 1 0,.slo 3 0 nb 0,.slo 4 0 nj 0,.slo 5 0 na 0,.z ln,.nils,.nils,.slo 6 0 n 0,.slo 7 0 n 0,.z ↑i,.slo 8 o m 0,.z e,.ptr 9 0,.ptr 10 0,.any,.any,.any] [sN [.nils],sN [.slo 12 0 (aa ni 1) 0],sD,sC bx 2,sC jx 4,sC kx 1,sC rx 1,sC wx 1,sC vx 4,sN [.z xo,.z xa,.z xb,.z xc,.int .u64 xn],sN [.str js,.z jl,.z jc,.b jb],sN [.z xo,.z xa,.z xb,.z xc,.int .u64 xn],sC (bM (bf ax 0 (aJ ni 5)) [.z xo,.z xa,.z xb,.z xc,.int .u64 xn]) 5] aq):=ak
theorem OJ (s:ap) (ni nb nj na nk n:Nat) (ln:Int) (i:Nat) (ax bx jx kx rx wx lx dx:al) (K:Pk):(bc prog jh 60 228 (pmB.drop 3) (aF 228 (pT s nb nj na nk n ln i)) (ai (pU ni ax bx jx kx rx wx lx dx) aq) (vK i_ K))=(
 K .normal [.str s,.ptr 0 0,.z 0,.z 0,.z 0,.ptr 1 0,.slo 3 0 nb 0,.slo 4 0 nj 0,.slo 5 0 na 0,.z ln,.slo 8 0 nk 0,.slo 9 0 nk 0,.slo 6 0 n 0,.slo 7 0 n 0,.z (au .add .i64 (↑i) 1),.any,.any,.any,.any,.any,.any,.any] [sN [.nils],sN [.slo 2 0 ni 0],sC ax 5,sC bx 2,sC jx 4,sC kx 1,sC rx 1,sC wx 1,sC lx 1,sC dx 1] aq):=ak
theorem OK (s:ap) (ni nb nj na nk n:Nat) (ln:Int) (i:Nat) (ax bx jx kx rx wx lx dx:al) (K:Pk):(bc prog jh 60 228 (bS (sp prog 18) 14 1) (aF 228 (pT s nb nj na nk n ln i)) (ai (pU ni ax bx jx kx rx wx lx dx) aq) (vK i_ K))=(
 K .normal [.str s,.ptr 0 0,.z 0,.z 0,.z 0,.ptr 1 0,.slo 3 0 nb 0,.slo 4 0 nj 0,.slo 5 0 na 0,.z ln,.slo 8 0 nk 0,.slo 9 0 nk 0,.slo 6 0 n 0,.slo 7 0 n 0,.z ↑i,.any,.any,.any,.any,.z 0,.any,.any] [sN [.nils],sN [.slo 2 0 ni 0],sC ax 5,sC bx 2,sC jx 4,sC kx 1,sC rx 1,sC wx 1,sC lx 1,sC dx 1] aq):=ak
theorem OL (s:ap) (ni nb nj na:Nat) (i:Nat) (ax bx jx kx:al) (K:Pk):(aX prog jh 60 228 (ce (bi (sp prog 18) 15)) (aF 228 (wK s nb nj na i)) (ai (wL ni ax bx jx kx) aq) (vK i_ K))=(
 cond (ad .lss ↑i ↑nj) (ck (ag (aa (ae ↑i) 1) nj) <|
 ck (ag (aa (ah 0 (ae ↑i) 4) 1) (aG jx)) <|
 ck (cW (af jx (ah 0 (ae ↑i) 4))) <|
 ck (qa nb bx) <|
 cond (ad .lss (mZ bx (aK (af jx (ah 0 (ae ↑i) 4)))) 0) (ck (ag (aa (ae ↑i) 1) nj) <|
 ck (ag (aa (aa (ah 0 (ae ↑i) 4) 1) 1) (aG jx)) <|
 ck (a7 .i64 (af jx (aa (ah 0 (ae ↑i) 4) 1))) <|
 ck (ag (aa (ae ↑i) 1) nj) <|
 ck (ag (aa (aa (ah 0 (ae ↑i) 4) 2) 1) (aG jx)) <|
 ck (a7 .i64 (af jx (aa (ah 0 (ae ↑i) 4) 2))) <|
 ck (ag (aa (aa (ah 0 (ae ↑i) 4) 1) 1) (aG jx)) <|
 ck (a7 .i64 (af jx (aa (ah 0 (ae ↑i) 4) 1))) <|
 ck (ad .eql (ar (af jx (aa (ah 0 (ae ↑i) 4) 1))) (ar (af jx (aa (ah 0 (ae ↑i) 4) 1)))) <|
 ck (ag (aa (aa (ah 0 (ae ↑i) 4) 1) 1) (aG jx)) <|
 ck (a7 .i64 (af jx (aa (ah 0 (ae ↑i) 4) 1))) <|
 ck (ad .eql (ar (af jx (aa (ah 0 (ae ↑i) 4) 1))) (ar (af jx (aa (ah 0 (ae ↑i) 4) 1)))) <|
 ck (ag (aa (aa (ah 0 (ae ↑i) 4) 2) 1) (aG jx)) <|
 ck (a7 .i64 (af jx (aa (ah 0 (ae ↑i) 4) 2))) <|
 ck (ad .eql (ar (af jx (aa (ah 0 (ae ↑i) 4) 2))) (ar (af jx (aa (ah 0 (ae ↑i) 4) 2)))) <|
 ck (ag (aa (aa (ah 0 (ae ↑i) 4) 2) 1) (aG jx)) <|
 ck (a7 .i64 (af jx (aa (ah 0 (ae ↑i) 4) 2))) <|
 ck (ad .eql (ar (af jx (aa (ah 0 (ae ↑i) 4) 2))) (ar (af jx (aa (ah 0 (ae ↑i) 4) 2)))) <|
 K .ret [.str s,.ptr 0 0,.z (ar (af jx (aa (ah 0 (ae ↑i) 4) 1))),.z (ar (af jx (aa (ah 0 (ae ↑i) 4) 2))),.z 12,.ptr 1 0,.slo 3 0 nb 0,.slo 4 0 nj 0,.slo 5 0 na 0,.any,.any,.any,.any,.any,.any,.any,.any,.any,.any,.z ↑i,.any,.any] [sN [.nils],sN [.slo 2 0 ni 0],sC ax 5,sC bx 2,sC jx 4,sC kx 1] aq) (ck (ag (aa (ae ↑i) 1) na) <|
 ck (ag (aa (ah 0 (ae ↑i) 1) 1) (aG kx)) <|
 ck (a7 .i64 (af kx (ah 0 (ae ↑i) 1))) <|
 ck (b9 (ar (af kx (ah 0 (ae ↑i) 1)))) <|
 ck (ag (aa (ae (ar (af kx (ah 0 (ae ↑i) 1)))) 1) ni) <|
 ck (ag (aa (aa (ah 0 (ae (ar (af kx (ah 0 (ae ↑i) 1)))) 5) 3) 1) (aG ax)) <|
 K .normal [.str s,.ptr 0 0,.z 0,.z 0,.z 0,.ptr 1 0,.slo 3 0 nb 0,.slo 4 0 nj 0,.slo 5 0 na 0,.any,.any,.any,.any,.any,.any,.any,.any,.any,.any,.z (au .add .i64 (↑i) 1),.any,.any] [sN [.nils],sN [.slo 2 0 ni 0],sC (gt ax (aa (ah 0 (ae (ar (af kx (ah 0 (ae ↑i) 1)))) 5) 3) [.z (mZ bx (aK (af jx (ah 0 (ae ↑i) 4))))]) 5,sC bx 2,sC jx 4,sC kx 1] aq)) (K (.exit 2) [.str s,.ptr 0 0,.z 0,.z 0,.z 0,.ptr 1 0,.slo 3 0 nb 0,.slo 4 0 nj 0,.slo 5 0 na 0,.any,.any,.any,.any,.any,.any,.any,.any,.any,.any,.z ↑i,.any,.any] [sN [.nils],sN [.slo 2 0 ni 0],sC ax 5,sC bx 2,sC jx 4,sC kx 1] aq)):=ak
theorem OU (s:ap) (ni nb nj na:Nat) (i:Nat) (ax bx jx kx:al) (K:Pk):(bc prog jh 60 228 ((sp prog 18).drop 16) (aF 228 (wK s nb nj na i)) (ai (wL ni ax bx jx kx) aq) (vK i_ K))=(
 K .ret [.str s,.ptr 0 0,.z 0,.z 0,.z 0,.ptr 1 0,.slo 3 0 nb 0,.slo 4 0 nj 0,.slo 5 0 na 0,.any,.any,.any,.any,.any,.any,.any,.any,.any,.any,.z ↑i,.any,.any] [sN [.slo 2 0 ni 0],sN [.slo 2 0 ni 0],sC ax 5,sC bx 2,sC jx 4,sC kx 1] aq):=ak
end
end Go.Lev
