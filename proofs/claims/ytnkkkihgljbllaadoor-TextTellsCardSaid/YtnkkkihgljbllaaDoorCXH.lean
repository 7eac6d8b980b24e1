import Derived.Test.YtnkkkihgljbllaaDoorCB8
import Derived.Test.YtnkkkihgljbllaaDoorCXE
import Derived.Test.YtnkkkihgljbllaaDoorLc
import Derived.Test.YtnkkkihgljbllaaDoorChecked
import Derived.KernelRfl
import Derived.Test.YtnkkkihgljbllaaDoorCQ4
import Derived.Test.YtnkkkihgljbllaaDoorRows
import Derived.Lib.LaidTab
import Derived.Test.YtnkkkihgljbllaaDoorCT7
/- text: the reference's Parse as a contract; same: its trees; the laws' trees -/
namespace Go.Lev
set_option linter.unusedSimpArgs false
set_option linter.unusedVariables false
open Go.RowKit
open Go.Proofs.Tryd (prog)
set_option maxRecDepth 100000
noncomputable section
theorem f2z (t:List UInt8) (k1:xle (a0z t) 4000=true) (k2:pzB t=true):a0k prog 18 [.str t] (mkS [] gt4) fun l st=>l=.tup [.agg [.nils],.int .i64 (pZl t),.int .i64 (pZc t),.int .i64 (pZe t)]∧st=mkS [] gt4:=by
 refine a0k.mono (f3e t (show t.length≤4000 from a2a.1 k1)) fun l st ⟨b,h,hs⟩=>?_
 have ne:pZe t≠0:=by simpa [pzB,pZe] using k2
 rcases h with⟨_,h1,h2⟩ | ⟨h0,_⟩
 ·subst h2; exact⟨h1,hs⟩
 ·exact absurd h0 ne
theorem d8j (t:List UInt8) (k1:xle (a0z t) 4000=true) (k2:pzG t=true):a0k prog 18 [.str t] (mkS [] gt4) fun l st=>l=.tup [.agg [.slo 0 0 (b2c t) 0],.int .i64 0,.int .i64 0,.int .i64 0]∧st=mkS [.cells (b1p t) (some 5)] gt4:=by
 refine a0k.mono (f3e t (show t.length≤4000 from a2a.1 k1)) fun l st ⟨b,h,hs⟩=>?_
 have ne:pZe t=0:=by simpa [pzG,pZe] using k2
 rcases h with⟨h0,_⟩ | ⟨_,h1,h2⟩
 ·exact absurd ne h0
 ·subst h2; exact⟨h1,hs⟩
def qbG:Gc:=fun args s=>match args,s.g with
 | [.str t],[(g0,F0),(g1,F1),(g2,F2),(g3,[.fact F])]=>cond (Nat.beq g0 0 && a2x F0 a2h && (Nat.beq g1 2 && a2x F1 a2n) && (Nat.beq g2 1 && a2x F2 a6x) && Nat.beq g3 1000) (match s.lay [] [] [] with
   | some s'=>some ([b6j F,xle (a0z t) 4000,pzB t],.tup [.agg [.nils],.int .i64 (pZl t),.int .i64 (pZc t),.int .i64 (pZe t)],s')
   | none=>none) none
 | _,_=>none
theorem f2y:GOk prog 18 qbG:=by
 intro args s bs l s' hg hb hfr
 unfold qbG at hg
 split at hg
 ·rename_i t g0 F0 g1 F1 g2 F2 g3 F hgl
  cases hc:(Nat.beq g0 0 && a2x F0 a2h && (Nat.beq g1 2 && a2x F1 a2n) && (Nat.beq g2 1 && a2x F2 a6x) && Nat.beq g3 1000) with
  | false=>rw [hc] at hg; cases hg
  | true =>
    rw [hc] at hg
    simp only [cond_true] at hg
    simp only [Bool.and_eq_true] at hc
    replace hgl:s.g=gtF F:=by rw [hgl,Nat.eq_of_beq_eq_true hc.1.1.1.1,a1f hc.1.1.1.2,Nat.eq_of_beq_eq_true hc.1.1.2.1,a1f hc.1.1.2.2,Nat.eq_of_beq_eq_true hc.1.2.1,a1f hc.1.2.2,Nat.eq_of_beq_eq_true hc.2]
    split at hg
    ·rename_i s1 hs1
     simp only [Option.some.injEq,Prod.mk.injEq] at hg
     obtain⟨rfl,rfl,rfl⟩:=hg
     simp only [a0g] at hb
     obtain⟨k1,k2,k3,_⟩:=hb
     have eF:=b3m k1
     subst eF
     refine a0k.lay (bs:=[]) (args0:=[.str t]) (bs':=[]) (v0:=.tup [.agg [.nils],.int .i64 (pZl t),.int .i64 (pZc t),.int .i64 (pZe t)]) hfr hs1 (by simp)
      trivial (by(exact zTl)) ?_
      fun κ h1 h2=>⟨trivial,a1b rfl⟩
     rw [hgl]; exact(f2z t k2 k3)
    ·cases hg
 ·cases hg
def qgG:Gc:=fun args s=>match args,s.g with
 | [.str t],[(g0,F0),(g1,F1),(g2,F2),(g3,[.fact F])]=>cond (Nat.beq g0 0 && a2x F0 a2h && (Nat.beq g1 2 && a2x F1 a2n) && (Nat.beq g2 1 && a2x F2 a6x) && Nat.beq g3 1000) (match s.lay [] [] [.cells (b1p t) (some 5)] with
   | some s'=>some ([b6j F,xle (a0z t) 4000,pzG t],.tup [.agg [.slo s.n 0 (b2c t) 0],.int .i64 0,.int .i64 0,.int .i64 0],s')
   | none=>none) none
 | _,_=>none
theorem f2x:GOk prog 18 qgG:=by
 intro args s bs l s' hg hb hfr
 unfold qgG at hg
 split at hg
 ·rename_i t g0 F0 g1 F1 g2 F2 g3 F hgl
  cases hc:(Nat.beq g0 0 && a2x F0 a2h && (Nat.beq g1 2 && a2x F1 a2n) && (Nat.beq g2 1 && a2x F2 a6x) && Nat.beq g3 1000) with
  | false=>rw [hc] at hg; cases hg
  | true =>
    rw [hc] at hg
    simp only [cond_true] at hg
    simp only [Bool.and_eq_true] at hc
    replace hgl:s.g=gtF F:=by rw [hgl,Nat.eq_of_beq_eq_true hc.1.1.1.1,a1f hc.1.1.1.2,Nat.eq_of_beq_eq_true hc.1.1.2.1,a1f hc.1.1.2.2,Nat.eq_of_beq_eq_true hc.1.2.1,a1f hc.1.2.2,Nat.eq_of_beq_eq_true hc.2]
    split at hg
    ·rename_i s1 hs1
     simp only [Option.some.injEq,Prod.mk.injEq] at hg
     obtain⟨rfl,rfl,rfl⟩:=hg
     simp only [a0g] at hb
     obtain⟨k1,k2,k3,_⟩:=hb
     have eF:=b3m k1
     subst eF
     have n1:a1q (b1p t)=true:=a1z _
     refine a0k.lay (bs:=[]) (args0:=[.str t]) (bs':=[.cells (b1p t) (some 5)]) (v0:=.tup [.agg [.slo 0 0 (b2c t) 0],.int .i64 0,.int .i64 0,.int .i64 0]) hfr hs1 (by simp)
      trivial (by(exact zTl)) ?_
      fun κ h1 h2=>⟨⟨a0e (by(exact zId)),trivial⟩,(b6a (a0d ((c1e (a0d (a0n (h2 0 (by simp))) a0u))) (a0d (a1u) (a0d (a1u) (a0d (a1u) a0u)))))⟩
     rw [hgl]; exact(d8j t k2 k3)
    ·cases hg
 ·cases hg
def g2p:Cx:=cxl [(14,pbG),(18,qbG)]
def g2o:Cx:=cxl [(14,pgG),(18,qgG),(15,b1a saG)]
theorem g4c (t:List UInt8) (K:Fk):(a4w prog g2p 60 10 [.str t] (mkS [] gt4) (vF K))=(
 ck (okT t) <|
 ck (pzB t) <|
 ck (b6j b8t) <|
 ck (xle (a0z t) 4000) <|
 ck (pzB t) <|
 bif xcm .eql (pZl t) (pZl t) then(
 bif xcm .eql (pZc t) (pZc t) then(
 K (.bool (xcm .eql (pZe t) (pZe t))) [sN [.nils],sN [.nils]] gt4)
 else(
 K (.bool false) [sN [.nils],sN [.nils]] gt4))
 else(
 K (.bool false) [sN [.nils],sN [.nils]] gt4)):=by kernel_rfl
abbrev d0c (t:List UInt8):List (Option LB):=[sC (b1p t) 5,sN [.slo 0 0 (b2c t) 0],sC (b1p t) 5,sN [.slo 2 0 (b2c t) 0]]
theorem g4a (t:List UInt8) (K:Fk):(a4w prog g2o 60 10 [.str t] (mkS [] gt4) (vF K))=(
 ck (okT t) <|
 ck (pzG t) <|
 ck (b6j b8t) <|
 ck (xle (a0z t) 4000) <|
 ck (pzG t) <|
 ck (okE (b2c t) (b1p t)) <|
 ck (okE (b2c t) (b1p t)) <|
 bif b1e (b2c t) (b2c t) (b1p t) (b1p t) then(
 K (.bool true) (d0c t) gt4)
 else(
 K (.bool false) (d0c t) gt4)):=by kernel_rfl
theorem g4b (K:Fk):(a4w prog (fun _=>none) 400 10 [.str []] (mkS [] gt4) (vF K))=(
 K (.bool true) [sN [.nils],sN [.nils,.nils,.nils,.int .i64 0],sN [.int .i64 0,.int .i64 0,.int .i64 0],sN [.str [],.nils,.nils,.int .i64 0,.int .i64 1,.int .i64 (-1),.int .i64 0,.bool false],some (.iter [] 0),sN [.int .i64 0,.int .i64 0,.int .i64 0],sN [.int .i64 0,.int .i64 0,.int .i64 0],sN [.nils],sN [.nils],sN [.nils],sC [] 1,some (.iter [] 0),sN [.nils]] gt4):=by kernel_rfl
end
end Go.Lev
/- text: same: both readings of any text are alike -/
namespace Go.Lev
set_option linter.unusedSimpArgs false
set_option linter.unusedVariables false
open Go.RowKit
open Go.Proofs.Tryd (prog)
set_option maxRecDepth 100000
noncomputable section
theorem d9p:a3w prog (a2z g2p):=a6i ⟨f3d,f2y,trivial⟩
theorem d9o:a3w prog (a2z g2o):=a6i ⟨f3c,f2x,a4j f2g,trivial⟩
def toR (x:InX):b9y:=⟨x.op,x.a,x.b,x.c,x.n⟩
theorem d2r:∀ I:List InX,a0f inC I=a0f a9m (I.map toR)
 | []=>rfl
 | x::r=>by simp only [List.map_cons,a0f]; rw [d2r r]; rfl
theorem d0m:∀ (LS:List LnS) (i:Nat) (I:List InX) (B J:List MkX),JOk I J→(rdF LS i I B J).2.1.length≤I.length+LS.length
 | [],i,I,B,J,h=>by rw [rdF]; show(b4f B J I).2.length≤_; rw [b9x]; simp
 | L::r,i,I,B,J,h=>by
   have pj:=d7v (L:=L) (ln:=((i+1:Nat):Int)) (B:=B) h
   rw [rdF,List.length_cons]
   split
   ·dsimp only; omega
   ·rename_i hz
    have:=d0m r (i+1) (rnZ L ((i+1:Nat):Int) I B J).2.1 (rnZ L ((i+1:Nat):Int) I B J).2.2.1 (rnZ L ((i+1:Nat):Int) I B J).2.2.2 (pj.2.2.2 (by simpa using hz))
    omega
theorem c3x (t:List UInt8):∀ (n p:Nat) (S:SpS),t.length - p≤n→(spG t p S).length≤n+1
 | 0,p,S,h=>by rw [c5w (by omega)]; split <;> simp
 | n+1,p,S,h=>by
   by_cases hp:p < t.length
   ·have hw:=b1o hp
    rw [d0b hp]
    split
    ·have:=c3x t n (p+xrw t p) (spN S) (by omega)
     rw [List.length_cons]; omega
    ·have:=c3x t n (p+xrw t p) (spR t S p (xrn t p)) (by omega)
     omega
   ·rw [c5w (by omega)]; split <;> simp
theorem f2s (t:List UInt8):(rdZ t).2.1.length≤t.length+1:=by
 have h1:=d0m (spA t) 0 [] [] [] (fun j hj=>by cases hj)
 have h2:=c3x t t.length 0 spZ (by omega)
 unfold rdZ
 rw [List.length_nil] at h1
 unfold spA at h1 ⊢
 omega
theorem d4g (n:Nat) (cs:List LV):b1e n n cs cs=true:=by simp [b1e]
theorem f7l (t:List UInt8) (k:xle (a0z t) 4000=true):a0k prog 10 [.str t] (mkS [] gt4) fun l st=>l=.bool true∧st=mkS [] gt4:=by
 have hl:t.length≤4000:=a2a.1 k
 have er:∀ x:Int,xcm .eql x x=true:=fun x=>a2i rfl
 by_cases h0:t.length=0
 ·obtain rfl:t=[]:=List.length_eq_zero_iff.1 h0
  refine a0k.mono (a0k.vc (Q:=fun l b=>l=.bool true∧b=[]) a0j (n:=400) 0 rfl ?_) fun l s' ⟨b0,⟨h1,h2⟩,h3⟩=>⟨h1,by rw [h3,h2]⟩
  rw [g4b]
  exact⟨rfl,_,[],[],⟨rfl,rfl⟩,by(exact zC)⟩
 have kt:okT t=true:=b5v.2 ⟨by omega,hl⟩
 by_cases hz:(rdZ t).1.2.2=0
 ·have hg:pzG t=true:=by simp [pzG,hz]
  have oe:okE (b2c t) (b1p t)=true:=b8x.2 ⟨(rdZ t).2.1.map toR,by rw [b1p,d2r],by rw [b2c,List.length_map],by
   have:=f2s t
   unfold b2c; omega⟩
  have sa:b1e (b2c t) (b2c t) (b1p t) (b1p t)=true:=d4g _ _
  refine a0k.mono (a0k.vc (Q:=fun l b=>l=.bool true∧b=[]) d9o (n:=60) 0 rfl ?_) fun l s' ⟨b0,⟨h1,h2⟩,h3⟩=>⟨h1,by rw [h3,h2]⟩
  rw [g4a]
  simp only [kt,hg,k,oe,sa,a8d,cond_true]
  exact⟨rfl,_,[],[],⟨rfl,rfl⟩,by(exact zC)⟩
 ·have hb:pzB t=true:=by simp [pzB,hz]
  refine a0k.mono (a0k.vc (Q:=fun l b=>l=.bool true∧b=[]) d9p (n:=60) 0 rfl ?_) fun l s' ⟨b0,⟨h1,h2⟩,h3⟩=>⟨h1,by rw [h3,h2]⟩
  rw [g4c]
  simp only [kt,hb,k,er,a8d,cond_true]
  exact⟨rfl,_,[],[],⟨rfl,rfl⟩,by(exact zC)⟩
end
end Go.Lev
/- text: the laid tables of the two laws -/
namespace Go.Lev
set_option linter.unusedSimpArgs false
set_option linter.unusedVariables false
open Go.RowKit
open Go.Proofs.Tryd (prog)
set_option maxRecDepth 100000
noncomputable section
def gtab:Glb:=[(4,c4y Go.Proofs.YtnkkkihgljbllaaDoor.Rows.laid_math_bits_deBruijn32tab),(5,c4y Go.Proofs.YtnkkkihgljbllaaDoor.Rows.laid_math_bits_deBruijn64tab),(3,c4y Go.Proofs.YtnkkkihgljbllaaDoor.Rows.laid_internal_strconv_uint64pow10),(0,a2h),(2,a2n),(1,a6x)]
theorem f4k {W:World} (hg:Gl W gtab) (hp:b8t W):Gl W gt4:=fun x hx=>by
 rcases List.mem_cons.1 hx with h | hx
 ·exact hg x (by rw [h]; exact .tail _ (.tail _ (.tail _ (.head _))))
 rcases List.mem_cons.1 hx with h | hx
 ·exact hg x (by rw [h]; exact .tail _ (.tail _ (.tail _ (.tail _ (.head _)))))
 rcases List.mem_cons.1 hx with h | hx
 ·exact hg x (by rw [h]; exact .tail _ (.tail _ (.tail _ (.tail _ (.tail _ (.head _))))))
 rcases List.mem_cons.1 hx with h | hx
 ·exact .inl ⟨b8t,by rw [h],hp⟩
 ·cases hx
theorem c9y {P:Program} {W:World} {ps:List MemPlace} {n0 n1 name:String} {d0 d1:DataW Unit} {k:IntKind} {zs:List Int} {rest:List (String×DataW Unit)} {g:Nat} {t e:TypeId} {n:Nat}
  (hg:P.globalNamed name=some g) (hty:(P.globals[g]?).map (·.type)=some t) (ht:P.underlying t=some (.array n e)) (he:P.underlying e=some (.int k)) (hce:P.cellsOf e=1) (hct:P.cellsOf t=n)
  (h:DataW.LaidVars P W ((n0,d0)::(n1,d1)::(name,Lib.tabData k zs)::rest) ps):Lib.TabIs P W name k zs:=by
 obtain⟨_,_,_,_,_,_,_,_,_,_,h,_⟩:=h
 obtain⟨_,_,_,_,_,_,_,_,_,_,h,_⟩:=h
 obtain⟨g',t',cs,fuel,p,q,hg',ht',hvar,hd,_,_⟩:=h
 obtain rfl:=Option.some.inj (hg.symm.trans hg')
 obtain rfl:=Option.some.inj (hty.symm.trans ht')
 unfold Lib.TabIs
 rw [hvar,← Lib.cells_of_tab ht he hce hct hd]
end
end Go.Lev
/- text: the laws' trees -/
namespace Go.Lev
set_option linter.unusedSimpArgs false
set_option linter.unusedVariables false
open Go.RowKit
open Go.Proofs.Tryd (prog)
set_option maxRecDepth 100000
noncomputable section
def trG:Gc:=fun args s=>match args,s.g with
 | [],[(g0,F0),(g1,F1),(g2,F2),(g3,[.fact F])]=>cond (Nat.beq g0 0 && a2x F0 a2h && (Nat.beq g1 2 && a2x F1 a2n) && (Nat.beq g2 1 && a2x F2 a6x) && Nat.beq g3 1000) (match s.lay [] [] [] with
   | some s'=>some ([b6j F],.bool true,s')
   | none=>none) none
 | _,_=>none
theorem f1v:GOk prog 8 trG:=by
 intro args s bs l s' hg hb hfr
 unfold trG at hg
 split at hg
 ·rename_i  g0 F0 g1 F1 g2 F2 g3 F hgl
  cases hc:(Nat.beq g0 0 && a2x F0 a2h && (Nat.beq g1 2 && a2x F1 a2n) && (Nat.beq g2 1 && a2x F2 a6x) && Nat.beq g3 1000) with
  | false=>rw [hc] at hg; cases hg
  | true =>
    rw [hc] at hg
    simp only [cond_true] at hg
    simp only [Bool.and_eq_true] at hc
    replace hgl:s.g=gtF F:=by rw [hgl,Nat.eq_of_beq_eq_true hc.1.1.1.1,a1f hc.1.1.1.2,Nat.eq_of_beq_eq_true hc.1.1.2.1,a1f hc.1.1.2.2,Nat.eq_of_beq_eq_true hc.1.2.1,a1f hc.1.2.2,Nat.eq_of_beq_eq_true hc.2]
    split at hg
    ·rename_i s1 hs1
     simp only [Option.some.injEq,Prod.mk.injEq] at hg
     obtain⟨rfl,rfl,rfl⟩:=hg
     simp only [a0g] at hb
     obtain⟨k1,_⟩:=hb
     have eF:=b3m k1
     subst eF
     refine a0k.lay (bs:=[]) (args0:=[]) (bs':=[]) (v0:=.bool true) hfr hs1 (by simp)
      trivial (by(exact zTl)) ?_
      fun κ h1 h2=>⟨trivial,a5r⟩
     rw [hgl]; exact f7r
    ·cases hg
 ·cases hg
def smG:Gc:=fun args s=>match args,s.g with
 | [.str t],[(g0,F0),(g1,F1),(g2,F2),(g3,[.fact F])]=>cond (Nat.beq g0 0 && a2x F0 a2h && (Nat.beq g1 2 && a2x F1 a2n) && (Nat.beq g2 1 && a2x F2 a6x) && Nat.beq g3 1000) (match s.lay [] [] [] with
   | some s'=>some ([b6j F,xle (a0z t) 4000],.bool true,s')
   | none=>none) none
 | _,_=>none
theorem f2f:GOk prog 10 smG:=by
 intro args s bs l s' hg hb hfr
 unfold smG at hg
 split at hg
 ·rename_i t g0 F0 g1 F1 g2 F2 g3 F hgl
  cases hc:(Nat.beq g0 0 && a2x F0 a2h && (Nat.beq g1 2 && a2x F1 a2n) && (Nat.beq g2 1 && a2x F2 a6x) && Nat.beq g3 1000) with
  | false=>rw [hc] at hg; cases hg
  | true =>
    rw [hc] at hg
    simp only [cond_true] at hg
    simp only [Bool.and_eq_true] at hc
    replace hgl:s.g=gtF F:=by rw [hgl,Nat.eq_of_beq_eq_true hc.1.1.1.1,a1f hc.1.1.1.2,Nat.eq_of_beq_eq_true hc.1.1.2.1,a1f hc.1.1.2.2,Nat.eq_of_beq_eq_true hc.1.2.1,a1f hc.1.2.2,Nat.eq_of_beq_eq_true hc.2]
    split at hg
    ·rename_i s1 hs1
     simp only [Option.some.injEq,Prod.mk.injEq] at hg
     obtain⟨rfl,rfl,rfl⟩:=hg
     simp only [a0g] at hb
     obtain⟨k1,k2,_⟩:=hb
     have eF:=b3m k1
     subst eF
     refine a0k.lay (bs:=[]) (args0:=[.str t]) (bs':=[]) (v0:=.bool true) hfr hs1 (by simp)
      trivial (by(exact zTl)) ?_
      fun κ h1 h2=>⟨trivial,a5r⟩
     rw [hgl]; exact(f7l t k2)
    ·cases hg
 ·cases hg
def f6s:Cx:=cxl [(8,trG),(10,smG),(17,b1a dcG)]
abbrev ttL:List Nat:=[0,1,2,6,7,8]
abbrev ttT (s t:List UInt8) (n:Nat) (x:Int) (i:Nat):List (Nat×LV):=[(0,.str s),(1,.slo 0 0 n 0),(2,.int .u64 x),(6,.bool false),(7,.str t),(8,.int .i64 i)]
theorem g3s (s:List UInt8) (n:Nat) (x:Int) (wc:List LV) (K:Pk):(xsp prog f6s 60 46 (seg (sp prog 3) 0 7) (tm0 [.str s,.slo 0 0 n 0,.int .u64 x]) (mkS [.ro wc] gt4) (vK ttL K))=(
 ck (b6j b8t) <|
 bif xcm .gtr (↑(a0z s)) 300 then(
 K .ret [.str s,.slo 0 0 n 0,.int .u64 x,.bool true,.tup [],.tup []] [some (.ro wc)] gt4)
 else(
 bif xcm .gtr (↑n) 120 then(
 K .ret [.str s,.slo 0 0 n 0,.int .u64 x,.bool true,.tup [],.tup []] [some (.ro wc)] gt4)
 else(
 K .normal [.str s,.slo 0 0 n 0,.int .u64 x,.bool false,.str [],.int .i64 0] [some (.ro wc)] gt4))):=by kernel_rfl
abbrev c9r (wc:List LV):List (Option LB):=[some (.ro wc),sN [.str [115,101,116],.str [109,111,118,101],.str [108,111,97,100],.str [115,116,111,114,101],.str [122,101,114,111],.str [106,117,109,112],.str [99,97,108,108],.str [101,109,105,116],.str [114,48],.str [114,55],.str [114,56],.str [97],.str [97,58],.str [98],.str [98,58],.str [195,169],.str [195,169,120,58],.str [55],.str [49,53],.str [49,54],.str [108,105,115,116,46,97,100,100],.str [116,114,101,101,46,99,111,117,110,116],.str [59],.str [10],.str [10],.str [9],.str [255],.str [120,255,121,58],.str [114,101,116,114,121],.str [111,112,101,110],.str [49,56,52,52,54,55,52,52,48,55,51,55,48,57,53,53,49,54,49,54],.str [108,51]]]
theorem g3r (s t:List UInt8) (n:Nat) (x:Int) (i:Nat) (wc:List LV) (K:Pk):(a1h prog f6s 60 46 (a1w (a4i (sp prog 3) 7)) (a1p 46 (ttT s t n x i)) (mkS [.ro wc] gt4) (vK ttL K))=(
 bif xcm .lss ↑i ↑n then(
 ck (xle (a0a (a0c ↑i) 1) n) <|
 ck (xle (a0a (xix 0 (a0c ↑i) 1) 1) (xln wc)) <|
 ck (isI .u8 (a0b wc (xix 0 (a0c ↑i) 1))) <|
 bif xcm .geq (asI (a0b wc (xix 0 (a0c ↑i) 1))) 250 then(
 ck (xcm .leq 0 x) <|
 ck (xcm .leq x 18446744073709551615) <|
 ck (xle (a0a (a0z t) (a0z (c3d x))) 1000000000) <|
 ck (xle (a0a (a0z (a8h t (c3d x))) 1) 1000000000) <|
 K .normal [.str s,.slo 0 0 n 0,.int .u64 x,.bool false,.str (a8h (a8h t (c3d x)) [32]),.int .i64 (xar .add .i64 (↑i) 1)] (c9r wc) gt4)
 else(
 ck (xnn (xar .rem .u8 (asI (a0b wc (xix 0 (a0c ↑i) 1))) 32)) <|
 ck (xle (a0a (a0c (xar .rem .u8 (asI (a0b wc (xix 0 (a0c ↑i) 1))) 32)) 1) 32) <|
 ck (xle (a0a (xix 0 (a0c (xar .rem .u8 (asI (a0b wc (xix 0 (a0c ↑i) 1))) 32)) 1) 1) 32) <|
 ck (isS (a0b [.str [115,101,116],.str [109,111,118,101],.str [108,111,97,100],.str [115,116,111,114,101],.str [122,101,114,111],.str [106,117,109,112],.str [99,97,108,108],.str [101,109,105,116],.str [114,48],.str [114,55],.str [114,56],.str [97],.str [97,58],.str [98],.str [98,58],.str [195,169],.str [195,169,120,58],.str [55],.str [49,53],.str [49,54],.str [108,105,115,116,46,97,100,100],.str [116,114,101,101,46,99,111,117,110,116],.str [59],.str [10],.str [10],.str [9],.str [255],.str [120,255,121,58],.str [114,101,116,114,121],.str [111,112,101,110],.str [49,56,52,52,54,55,52,52,48,55,51,55,48,57,53,53,49,54,49,54],.str [108,51]] (xix 0 (a0c (xar .rem .u8 (asI (a0b wc (xix 0 (a0c ↑i) 1))) 32)) 1))) <|
 ck (xle (a0a (a0z t) (a0z (asS (a0b [.str [115,101,116],.str [109,111,118,101],.str [108,111,97,100],.str [115,116,111,114,101],.str [122,101,114,111],.str [106,117,109,112],.str [99,97,108,108],.str [101,109,105,116],.str [114,48],.str [114,55],.str [114,56],.str [97],.str [97,58],.str [98],.str [98,58],.str [195,169],.str [195,169,120,58],.str [55],.str [49,53],.str [49,54],.str [108,105,115,116,46,97,100,100],.str [116,114,101,101,46,99,111,117,110,116],.str [59],.str [10],.str [10],.str [9],.str [255],.str [120,255,121,58],.str [114,101,116,114,121],.str [111,112,101,110],.str [49,56,52,52,54,55,52,52,48,55,51,55,48,57,53,53,49,54,49,54],.str [108,51]] (xix 0 (a0c (xar .rem .u8 (asI (a0b wc (xix 0 (a0c ↑i) 1))) 32)) 1))))) 1000000000) <|
 ck (xle (a0a (a0z (a8h t (asS (a0b [.str [115,101,116],.str [109,111,118,101],.str [108,111,97,100],.str [115,116,111,114,101],.str [122,101,114,111],.str [106,117,109,112],.str [99,97,108,108],.str [101,109,105,116],.str [114,48],.str [114,55],.str [114,56],.str [97],.str [97,58],.str [98],.str [98,58],.str [195,169],.str [195,169,120,58],.str [55],.str [49,53],.str [49,54],.str [108,105,115,116,46,97,100,100],.str [116,114,101,101,46,99,111,117,110,116],.str [59],.str [10],.str [10],.str [9],.str [255],.str [120,255,121,58],.str [114,101,116,114,121],.str [111,112,101,110],.str [49,56,52,52,54,55,52,52,48,55,51,55,48,57,53,53,49,54,49,54],.str [108,51]] (xix 0 (a0c (xar .rem .u8 (asI (a0b wc (xix 0 (a0c ↑i) 1))) 32)) 1))))) 1) 1000000000) <|
 K .normal [.str s,.slo 0 0 n 0,.int .u64 x,.bool false,.str (a8h (a8h t (asS (a0b [.str [115,101,116],.str [109,111,118,101],.str [108,111,97,100],.str [115,116,111,114,101],.str [122,101,114,111],.str [106,117,109,112],.str [99,97,108,108],.str [101,109,105,116],.str [114,48],.str [114,55],.str [114,56],.str [97],.str [97,58],.str [98],.str [98,58],.str [195,169],.str [195,169,120,58],.str [55],.str [49,53],.str [49,54],.str [108,105,115,116,46,97,100,100],.str [116,114,101,101,46,99,111,117,110,116],.str [59],.str [10],.str [10],.str [9],.str [255],.str [120,255,121,58],.str [114,101,116,114,121],.str [111,112,101,110],.str [49,56,52,52,54,55,52,52,48,55,51,55,48,57,53,53,49,54,49,54],.str [108,51]] (xix 0 (a0c (xar .rem .u8 (asI (a0b wc (xix 0 (a0c ↑i) 1))) 32)) 1)))) [32]),.int .i64 (xar .add .i64 (↑i) 1)] (c9r wc) gt4))
 else(
 K (.exit 0) [.str s,.slo 0 0 n 0,.int .u64 x,.bool false,.str t,.int .i64 ↑i] [some (.ro wc)] gt4)):=by kernel_rfl
theorem g3q (s t:List UInt8) (n:Nat) (x:Int) (i:Nat) (wc:List LV) (K:Pk):(xsp prog f6s 60 46 ((sp prog 3).drop 8) (a1p 46 (ttT s t n x i)) (mkS [.ro wc] gt4) (vK ttL K))=(
 ck (b6j b8t) <|
 ck (xle (a0z s) 4000) <|
 ck (b6j b8t) <|
 ck (xle (a0z t) 4000) <|
 ck (xle (a0a (a0z t) (a0z s)) 1000000000) <|
 ck (b6j b8t) <|
 ck (xle (a0z (a8h t s)) 4000) <|
 K .ret [.str s,.slo 0 0 n 0,.int .u64 x,.bool true,.str t,.int .i64 ↑i] [some (.ro wc)] gt4):=by kernel_rfl
end
end Go.Lev
/- TextTells (P16.1, P16.2): of any text, of any bytes, and of words near a program's: the program and the first word that is wrong, and where, as the document's own reading has them. Condition: the listed package-level variables hold what the program's text lays. -/
namespace Go.Lev
set_option linter.unusedSimpArgs false
set_option linter.unusedVariables false
open Go.RowKit
open Go.Proofs.Tryd (prog)
set_option maxRecDepth 100000
noncomputable section
theorem c5d:a3w prog (a2z f6s):=a6i ⟨f1v,f2f,a4j f5g,trivial⟩
theorem d3v (xs:List Int):a1q (a0f (cI .u8) xs)=true:=a1y (fun _=>rfl) xs
theorem f1t (xs:List Int):(a0f (cI .u8) xs).length=xs.length:=by rw [a1v (c7e .u8)]; omega
theorem f1s {xs:List Int} {i:Nat} (h:i < xs.length):a0b (a0f (cI .u8) xs) i=.int .u8 xs[i]:=by
 have:=a2s (c7e .u8) (j:=0) h (by omega)
 rw [Nat.mul_one,Nat.add_zero] at this
 exact this
theorem f1r:∀ m:Fin 256,a0c (xar .rem .u8 (m.1:Int) 32) < 32∧xnn (xar .rem .u8 (m.1:Int) 32)=true:=by decide +kernel
theorem f7e {x:Int} (h:0≤x∧x≤255):a0c (xar .rem .u8 x 32) < 32∧xnn (xar .rem .u8 x 32)=true:=by
 obtain⟨m,rfl⟩:=Int.eq_ofNat_of_zero_le h.1
 exact f1r ⟨m,by omega⟩
def g2l:LV→Bool
 | .str u=>decide (u.length≤20)
 | _=>false
theorem f1q:∀ k:Fin 32,g2l (a0b [.str [115,101,116],.str [109,111,118,101],.str [108,111,97,100],.str [115,116,111,114,101],.str [122,101,114,111],.str [106,117,109,112],.str [99,97,108,108],.str [101,109,105,116],.str [114,48],.str [114,55],.str [114,56],.str [97],.str [97,58],.str [98],.str [98,58],.str [195,169],.str [195,169,120,58],.str [55],.str [49,53],.str [49,54],.str [108,105,115,116,46,97,100,100],.str [116,114,101,101,46,99,111,117,110,116],.str [59],.str [10],.str [10],.str [9],.str [255],.str [120,255,121,58],.str [114,101,116,114,121],.str [111,112,101,110],.str [49,56,52,52,54,55,52,52,48,55,51,55,48,57,53,53,49,54,49,54],.str [108,51]] k.1)=true:=by decide
theorem f7d {k:Nat} (h:k < 32):∃ u,a0b [.str [115,101,116],.str [109,111,118,101],.str [108,111,97,100],.str [115,116,111,114,101],.str [122,101,114,111],.str [106,117,109,112],.str [99,97,108,108],.str [101,109,105,116],.str [114,48],.str [114,55],.str [114,56],.str [97],.str [97,58],.str [98],.str [98,58],.str [195,169],.str [195,169,120,58],.str [55],.str [49,53],.str [49,54],.str [108,105,115,116,46,97,100,100],.str [116,114,101,101,46,99,111,117,110,116],.str [59],.str [10],.str [10],.str [9],.str [255],.str [120,255,121,58],.str [114,101,116,114,121],.str [111,112,101,110],.str [49,56,52,52,54,55,52,52,48,55,51,55,48,57,53,53,49,54,49,54],.str [108,51]] k=.str u∧u.length≤20:=by
 have:=f1q ⟨k,h⟩
 simp only at this
 generalize a0b [.str [115,101,116],.str [109,111,118,101],.str [108,111,97,100],.str [115,116,111,114,101],.str [122,101,114,111],.str [106,117,109,112],.str [99,97,108,108],.str [101,109,105,116],.str [114,48],.str [114,55],.str [114,56],.str [97],.str [97,58],.str [98],.str [98,58],.str [195,169],.str [195,169,120,58],.str [55],.str [49,53],.str [49,54],.str [108,105,115,116,46,97,100,100],.str [116,114,101,101,46,99,111,117,110,116],.str [59],.str [10],.str [10],.str [9],.str [255],.str [120,255,121,58],.str [114,101,116,114,121],.str [111,112,101,110],.str [49,56,52,52,54,55,52,52,48,55,51,55,48,57,53,53,49,54,49,54],.str [108,51]] k=v at *
 cases v <;> simp only [g2l] at this
 all_goals first | (exact⟨_,rfl,of_decide_eq_true this⟩) | (cases this)
set_option maxHeartbeats 8000000 in
theorem c9w (s:List UInt8) (G:List Int) (x:Int) (ng:G.length≤9223372036854775807) (hg:∀ y∈G,0≤y∧y≤255) (hx:0≤x∧x≤18446744073709551615) :
  a0k prog 3 [.str s,.slo 0 0 G.length 0,.int .u64 x] (mkS [.ro (a0f (cI .u8) G)] gt4) fun l st=>l=.bool true∧st=mkS [.ro (a0f (cI .u8) G)] gt4:=by
 refine a0k.mono (a0k.g9n (Q:=fun l b=>l=.bool true∧b=[.ro (a0f (cI .u8) G)]) 46 1 ttL [6] (by kernel_rfl) rfl rfl rfl ?_) fun l s' ⟨b0,⟨h1,h2⟩,h3⟩=>⟨h1,by rw [h3,h2]⟩
 have ngs:=d3v G
 have lg:=f1t G
 have dl:=b9n hx.1 hx.2
 refine SSp.to c5d (n:=60) (g:=gt4) 7 7 rfl (σ:={_u:Unit // s.length≤300∧G.length≤120}) (fun _=>ttT s [] G.length x 0) (fun _=>[.ro (a0f (cI .u8) G)]) (a0y (Nat.le_of_ble_eq_true rfl)) (by kernel_rfl) ?_ fun⟨_,hs,hG⟩=>?_
 ·rw [g3s]
  simp only [a8d,cond_true]
  by_cases h1:300 < s.length
  ·simp only [show xcm .gtr ((a0z s:Nat):Int) 300=true from a7w (show(300:Int) < ((s.length:Nat):Int) by omega),cond_true]
   exact⟨trivial,rfl,.bool true,[.ro _],[.id 0],⟨rfl,rfl⟩,by(exact zC)⟩
  simp only [show xcm .gtr ((a0z s:Nat):Int) 300=false from a7e (show((s.length:Nat):Int)≤300 by omega),cond_false]
  by_cases h2:120 < G.length
  ·simp only [show xcm .gtr ((G.length:Nat):Int) 120=true from a7w (by omega),cond_true]
   exact⟨trivial,rfl,.bool true,[.ro _],[.id 0],⟨rfl,rfl⟩,by(exact zC)⟩
  ·simp only [show xcm .gtr ((G.length:Nat):Int) 120=false from a7e (by omega),cond_false]
   exact⟨rfl,⟨(),by omega,by omega⟩,[.id 0],by(exact zC)⟩
 refine SSp.code_to (g:=gt4) 8 rfl (σ:={p:Nat×List UInt8 // p.2.length≤2520}) (fun p=>ttT s p.1.2 G.length x p.1.1) (fun _=>[.ro (a0f (cI .u8) G)]) (by kernel_rfl) ?_ fun⟨⟨i,t⟩,ht⟩=>?_
 ·refine a0p.g9s c5d (n:=60) (n0:=1) 0 (by kernel_rfl) (σ:={p:Nat×List UInt8 // p.1≤G.length∧p.2.length≤21 * p.1}) (fun p=>ttT s p.1.2 G.length x p.1.1) (fun _=>[.ro (a0f (cI .u8) G)]) (fun p=>G.length - p.1.1) (fun _=>Nat.le_of_ble_eq_true rfl) (fun⟨⟨i,t⟩,hi,ht⟩=>?_) ⟨(0,[]),Nat.zero_le _,by simp⟩
  dsimp only at hi ht ⊢
  rw [g3r]
  by_cases h:i < G.length
  ·have v0:=f1s h
   have hb:=hg _ (List.getElem_mem h)
   have b1:xle (i+1) G.length=true:=a1n (by omega)
   have e3:xar .add .i64 (i:Int) 1=((i+1:Nat):Int):=a7t h (by omega)
   generalize G[i]=w at *
   simp only [show xcm .lss ((i:Nat):Int) ((G.length:Nat):Int)=true from a6j (by omega),a2w,a5j,a1o,a2g,a3e,Nat.zero_add,Nat.mul_one,lg,b1,v0,e3,a3d,a2q,decide_true,cond_true]
   by_cases h250:250≤w
   ·simp only [show xcm .geq w 250=true from b3a h250,a9k hx.1,a9k hx.2,show xle (a0z t+a0z (c3d x)) 1000000000=true from a1n (show t.length+(c3d x).length≤_ by omega),show xle (a0z (a8h t (c3d x))+1) 1000000000=true from a1n (show(t++c3d x).length+1≤_ by rw [List.length_append]; omega),cond_true]
    refine⟨rfl,⟨(i+1,a8h (a8h t (c3d x)) [32]),h,?_⟩,by dsimp only; omega,[.id 0],by(exact zC)⟩
    show((t++c3d x)++[32]).length≤21 * (i+1)
    simp only [List.length_append,List.length_cons,List.length_nil]; omega
   ·obtain⟨k1,k2⟩:=f7e hb
    generalize hk:a0c (xar .rem .u8 w 32)=k at *
    obtain⟨u,hu,hul⟩:=f7d k1
    have b2:xle (k+1) 32=true:=a1n (by omega)
    simp only [show xcm .geq w 250=false from b6o (by omega),k2,b2,hu,show asS (.str u)=u from rfl,show isS (.str u)=true from rfl,show xle (a0z t+a0z u) 1000000000=true from a1n (show t.length+u.length≤_ by omega),show xle (a0z (a8h t u)+1) 1000000000=true from a1n (show(t++u).length+1≤_ by rw [List.length_append]; omega),cond_true,cond_false]
    refine⟨rfl,⟨(i+1,a8h (a8h t u) [32]),h,?_⟩,by dsimp only; omega,[.id 0],by(exact zC)⟩
    show((t++u)++[32]).length≤21 * (i+1)
    simp only [List.length_append,List.length_cons,List.length_nil]; omega
  ·simp only [show xcm .lss ((i:Nat):Int) ((G.length:Nat):Int)=false from a6h (by omega),cond_false]
   exact⟨rfl,⟨(i,t),by dsimp only; omega⟩,[.id 0],by(exact zC)⟩
 dsimp only at ht ⊢
 refine zE c5d ?_
 rw [g3q]
 simp only [a8d,show xle (a0z s) 4000=true from a1n (show s.length≤4000 by omega),show xle (a0z t) 4000=true from a1n (show t.length≤4000 by omega),show xle (a0a (a0z t) (a0z s)) 1000000000=true from a1n (show t.length+s.length≤_ by omega),show xle (a0z (a8h t s)) 4000=true from a1n (show(t++s).length≤4000 by rw [List.length_append]; omega),cond_true]
 exact⟨trivial,rfl,.bool true,[.ro _],[.id 0],⟨rfl,rfl⟩,by(exact zC)⟩
theorem tells_any {H:Type} {enc:TypeId×Value→H} {W:World} (hg:Gl W gtab) (hp:Lib.TabIs prog W "internal/strconv.uint64pow10" .u64 Lib.pow10Tab) (s:ByteArray) {a1:Option Addr} {len1 cap1:Nat} {d1:DataW H} {p1:List MemPlace} (h1:DataW.Trod enc prog W 0 (fun _=>true) true 22 (.slice a1 len1 cap1) d1 p1) (x:Int) (hx:IntKind.u64.min≤x∧x≤IntKind.u64.max) :
  Calls prog 3 #[.string s,.slice a1 len1 cap1,.int .u64 x] W fun e W'=>e=.returned (.bool true)∧Below W.heap.size W W':=by
 obtain⟨G,eg,ng,kg,rg⟩:=d7u (f:=cI .u8) (ok:=fun y:Int=>IntKind.u8.min≤y∧y≤IntKind.u8.max) (c7e .u8) (by omega) Go.Proofs.Tryd.underlying22 (by kernel_rfl) h1 (f4y Go.Proofs.Tryd.underlying5)
 subst eg
 refine a0k.top (rows:=[(.slice a1 G.length cap1,G.length,a0f (cI .u8) G)]) (g:=gt4) (us:=[.string s,.slice a1 G.length cap1,.int .u64 x]) ⟨rg,trivial⟩ (f4k hg hp) (fun r h=>?_) (a0k.mono (c9w s.data.toList G x ng (fun y hy=>kg y hy) hx) fun l s h=>h.1)
 simp only [VRs,VR]
 exact⟨_,_,rfl,rfl,_,_,rfl,h 0 _ _ _ rfl,_,_,rfl,rfl,rfl⟩
theorem pow_tabT {W:World} {ps:List MemPlace} (hl:DataW.LaidVars prog W Go.Proofs.YtnkkkihgljbllaaDoor.Rows.textTellsRow.laid ps):Lib.TabIs prog W "internal/strconv.uint64pow10" .u64 Lib.pow10Tab:=by
 refine c9y (P:=prog) (ps:=ps) (n0 := "math/bits.deBruijn32tab") (n1 := "math/bits.deBruijn64tab") (d0:=Go.Proofs.YtnkkkihgljbllaaDoor.Rows.laid_math_bits_deBruijn32tab) (d1:=Go.Proofs.YtnkkkihgljbllaaDoor.Rows.laid_math_bits_deBruijn64tab) (rest:=[("quietus/code.forms",Go.Proofs.YtnkkkihgljbllaaDoor.Rows.laid_quietus_code_forms),("quietus/code.calls",Go.Proofs.YtnkkkihgljbllaaDoor.Rows.laid_quietus_code_calls),("quietus/quietusref13.names",Go.Proofs.YtnkkkihgljbllaaDoor.Rows.laid_quietus_quietusref13_names)]) (g:=3) (t:=150) (e:=23) (n:=20) (by kernel_rfl) (by kernel_rfl) (by kernel_rfl) (by kernel_rfl) (by kernel_rfl) (by kernel_rfl) ?_
 have e:Go.Proofs.YtnkkkihgljbllaaDoor.Rows.textTellsRow.laid=[("math/bits.deBruijn32tab",Go.Proofs.YtnkkkihgljbllaaDoor.Rows.laid_math_bits_deBruijn32tab),("math/bits.deBruijn64tab",Go.Proofs.YtnkkkihgljbllaaDoor.Rows.laid_math_bits_deBruijn64tab),("internal/strconv.uint64pow10",Lib.tabData .u64 Lib.pow10Tab),("quietus/code.forms",Go.Proofs.YtnkkkihgljbllaaDoor.Rows.laid_quietus_code_forms),("quietus/code.calls",Go.Proofs.YtnkkkihgljbllaaDoor.Rows.laid_quietus_code_calls),("quietus/quietusref13.names",Go.Proofs.YtnkkkihgljbllaaDoor.Rows.laid_quietus_quietusref13_names)]:=by kernel_rfl
 rw [e] at hl
 exact hl
end
end Go.Lev
