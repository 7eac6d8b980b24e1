import Derived.Test.YtnkkkihgljbllaaDoorCQ9
import Derived.Test.YtnkkkihgljbllaaDoorCX6
namespace Go.Lev
set_option linter.unusedSimpArgs false
set_option linter.unusedVariables false
open Go.RowKit
open Go.Proofs.Tryd (prog)
set_option maxRecDepth 100000
noncomputable section
def kv (s:ap) (M:Int):Int:=if s.length=2∧bz s 0=114∧48≤bz s 1∧bz s 1 - 48≤M then bz s 1 - 48 else -1
def p_ (s:ap) (M:Int):Int:=if c_ s (ay .u64 M)=true then ay .i64 (dL s (ay .u64 M)) else -1
def oZ (s:ap) (k:Nat):Int:=if fh dj k s=0 then -1 else fh dj k s
def ji (op k:Int) (s:ap) (M:Int):Int:=if op=23∧k=0 then oZ s 12 else if((op=8∨op=9)∧k=2)∨(op=23∧k=1) then p_ s M else kv s M
def oY (op k:Int) (s:ap) (A B C:Int):Int:=ji op k s (if k=0 then A else if k=1 then B else C)
def dr (op k:Int) (s:ap) (bd:Bool) (A B C:Int):Bool:=!bd && (if k=3 then c_ s 18446744073709551615 else decide (0≤oY op k s A B C))
def bl (j op k:Int) (s:ap) (bd:Bool) (A B C v:Int):Int:=if bd=true then v else if k=3 then(if j=3 then dL s 18446744073709551615 else v) else if 0≤oY op k s A B C∧j=k then oY op k s A B C else v
theorem DI (M:Int):0≤ay .u64 M∧ay .u64 M≤18446744073709551615:=by
 show 0≤iG .u64 M∧iG .u64 M≤18446744073709551615;have e:iG .u64 M=M % 18446744073709551616:=by
  rw [tU]; simp only [IntKind.wrap,IntKind.bits,IntKind.signed,Int.reducePow]; simp
 rw [e]; omega
theorem Sg {x:Int} (h:48≤x) (h2:x≤255):ay .i64 (au .sub .u8 x 48)=x - 48:=by
 have:au .sub .u8 x 48=x - 48:=by rw [ET]; exact JK ab ab
 rw [this]; exact pz ab ab
theorem II (s:ap) (i:Nat):0≤bz s i∧bz s i≤255:=by
 have:=(s.getD i 0).toNat_lt;unfold bz; omega
theorem Ah {s:ap} {M:Int} (h:¬ (s.length=2∧bz s 0=114∧48≤bz s 1∧bz s 1 - 48≤M)) : -1=kv s M:=by unfold kv; rw [av h]
theorem Vt {s:ap} {M:Int} (h:s.length=2∧bz s 0=114∧48≤bz s 1∧bz s 1 - 48≤M):bz s 1 - 48=kv s M:=by unfold kv; rw [aB h]
theorem Ak (s:ap) (h:s.length=2):ad .eql ((am s:Nat):Int) 2=true:=cD (show((s.length:Nat):Int)=2 by omega)
theorem Um (s:ap) (h:s.length≠2):ad .eql ((am s:Nat):Int) 2=false:=cF (show((s.length:Nat):Int)≠2 by omega)
theorem Ts {s:ap} {M:Int} (h:c_ s (ay .u64 M)=true):ay .i64 (dL s (ay .u64 M))=p_ s M:=by unfold p_; rw [aB h]
theorem Tq {s:ap} {M:Int} (h:c_ s (ay .u64 M)=false) : -1=p_ s M:=by unfold p_; rw [av (by rw [h]; simp)]
theorem mM {s:ap} {k:Nat} (h:(dj (k+1) == s)=true):((k+1:Nat):Int)=oZ s (k+1):=by
 have:fh dj (k+1) s=((k+1:Nat):Int):=by rw [fh,h]; rfl
 unfold oZ; rw [this,av ab]
theorem mL {s:ap} {k:Nat} (h:(dj (k+1) == s)=false):oZ s k=oZ s (k+1):=by
 have:fh dj (k+1) s=fh dj k s:=by rw [fh,h]; rfl
 unfold oZ; rw [this]
theorem EC (op a b c n:Int) (nm:ap) (A B C:Int) (N:Bool) (s:ap) (ln cl:Int) (bd:Bool) (k M:Int) (Φ : Pk) (h:∀ v,v=p_ s M→Φ .normal [.z k,.ptr 0 0,.ptr 1 0,.ptr 2 0,.ptr 3 0,.b false,.z M,.z v,.any,.any,.b true] (Ev op a b c n nm A B C N s ln cl bd) aq):a0n prog 139 (jS (bi sP 1)) 0 (aF 139 (sU k M true)) (ai (dC op a b c n nm A B C N s ln cl bd) aq) (vK ew Φ):=by
 refine a0n.vc jW (n:=60) (bh (bk _)) ?_;rw [NG];obtain⟨w1,w2⟩:=DI M;cases hb:c_ s (ay .u64 M) with
 | true =>
   simp only [dX w1,dX w2,aw];exact h _ (Ts hb)
 | false =>
   simp only [dX w1,dX w2,aw,aD];exact h _ (Tq hb)
theorem EI (op a b c n:Int) (nm:ap) (A B C:Int) (N:Bool) (s:ap) (ln cl:Int) (bd:Bool) (k M:Int) (Φ : Pk) (h:∀ v,v=kv s M→Φ .normal [.z k,.ptr 0 0,.ptr 1 0,.ptr 2 0,.ptr 3 0,.b false,.z M,.z v,.any,.any,.b false] (vv op a b c n nm A B C N s ln cl bd) aq):a0n prog 139 (jR (bi sP 1)) 0 (aF 139 (sU k M false)) (ai (dC op a b c n nm A B C N s ln cl bd) aq) (vK ew Φ):=by
 refine a0n.vc jW (n:=60) (bh (bk _)) ?_;rw [NH];by_cases r1:s.length=2
 ·have x1:ag 1 (am s)=true:=aO (show 1≤s.length by omega);have x2:ag 2 (am s)=true:=aO (show 2≤s.length by omega);have yb:=II s 1;by_cases r2:bz s 0=114
  ·by_cases r3:48≤bz s 1
   ·have e5:=Sg r3 yb.2;by_cases r4:bz s 1 - 48≤M
    ·simp only [Ak s r1,x1,x2,e5,cD r2,qn r3,dX r4,aw];exact h _ (Vt ⟨r1,r2,r3,r4⟩)
    ·simp only [Ak s r1,x1,x2,e5,cD r2,qn r3,show ad .leq (bz s 1 - 48) M=false from tn ab,aw,aD];exact h _ (Ah fun q=>r4 q.2.2.2)
   ·simp only [Ak s r1,x1,x2,cD r2,show ad .geq (bz s 1) 48=false from qk ab,aw,aD];exact h _ (Ah fun q=>r3 q.2.2.1)
  ·simp only [Ak s r1,x1,cF r2,aw,aD];exact h _ (Ah fun q=>r2 q.2.1)
 ·simp only [Um s r1,aD];exact h _ (Ah fun q=>r1 q.1)
set_option maxHeartbeats 4000000 in
theorem QK (op a b c n:Int) (nm:ap) (A B C:Int) (N:Bool) (s:ap) (ln cl:Int) (bd:Bool):a0j prog 49 [dq op a b c n,.z 0,pQ nm A B C N,eH s ln cl bd] (ai [] aq) fun l st=>l=LV.tup [dq op (bl 0 op 0 s bd A B C a) (bl 1 op 0 s bd A B C b) (bl 2 op 0 s bd A B C c) (bl 3 op 0 s bd A B C n),.b (dr op 0 s bd A B C)]∧st=ai [] aq:=by
 obtain⟨z,hz⟩:∃ z,z=LV.tup [dq op (bl 0 op 0 s bd A B C a) (bl 1 op 0 s bd A B C b) (bl 2 op 0 s bd A B C c) (bl 3 op 0 s bd A B C n),.b (dr op 0 s bd A B C)]:=⟨_,rfl⟩;rw [← hz];refine a0j.mono (a0j.i4j (Q:=fun l b=>l=z∧b=[]) 139 0 [.cell 8 42,.tmp 9] ew ak rfl rfl ak ?_) fun l s' ⟨b0,⟨h1,h2⟩,h3⟩=>⟨h1,by rw [h3,h2]⟩
 refine SSp.to jW (n:=60) (g:=aq) 7 7 rfl (σ:={_u:Unit // bd=false}) (fun _=>mD 0 A (-1)) (fun _=>dC op a b c n nm A B C N s ln cl bd) (bh (bk _)) ak ?_ fun⟨_,hbd⟩=>?_
 ·rw [Qs];cases bd with
  | true =>
    simp only [aw];have hR:z=LV.tup [dq op a b c n,.b false]:=hz;exact⟨trivial,rfl,[dq op a b c n,.b false],z,[],[],ak,⟨rfl,rfl⟩,by rw [hR]; (exact zC)⟩
  | false =>
    simp only [aD];exact⟨rfl,⟨(),rfl⟩,[.id 0,.id 1,.id 2,.id 3],by(exact zC)⟩
 refine SSp.code_to (g:=aq) 8 rfl (σ:={v:Int // v=ji op 0 s A}) (fun v=>mD 0 A v.1) (fun _=>dC op a b c n nm A B C N s ln cl bd) ak ?_ fun⟨v,hv⟩=>?_
 ·refine a0n.i3v 0 ak ?_;refine SSp.to jW (n:=60) (g:=aq) 1 1 rfl (σ:={q:Bool // q=decide (op=23∧(0:Int)=0)}) (fun q=>sT 0 A q.1) (fun _=>dC op a b c n nm A B C N s ln cl bd) (bh (bk _)) ak ?_ fun⟨q,hq⟩=>?_
  ·rw [Qv];by_cases o1:op=23
   ·simp only [show ad .eql op 23=true from cD o1,aw];exact⟨rfl,⟨true,by simp [o1]⟩,[.id 0,.id 1,.id 2,.id 3],by(exact zC)⟩
   ·exact BD
  refine SSp.i3o ak ?_;refine a0n.ways (t:=71) (q:=q) ak rfl (fun h1=>?_) (fun h1=>?_)
  ·have o1:op=23:=by subst h1; simpa using hq.symm
   dsimp only;refine a0n.i3x ?_;refine SSp.to jW (n:=60) (g:=aq) 1 1 rfl (σ:=Unit) (fun _=>fV A (-1) 1) (fun _=>dC op a b c n nm A B C N s ln cl bd) (bh (bk _)) ak ?_ fun _=>?_
   ·subst h1; rw [NE]; exact⟨rfl,(),[.id 0,.id 1,.id 2,.id 3],by(exact zC)⟩
   refine SSp.i3o ak ?_;refine a0n.i3g jW (n:=60) (n0:=0) 1 ak (σ:={p:Nat×Int // 1≤p.1∧p.1≤13∧p.2=oZ s (p.1 - 1)}) (fun p=>fV A p.1.2 p.1.1) (fun _=>dC op a b c n nm A B C N s ln cl bd) (fun p=>13 - p.1.1) (fun _=>bk _) (fun⟨⟨k,v⟩,hk1,hk2,hv⟩=>?_) ⟨(1,-1),aR _,aC,rfl⟩;dsimp only at hk1 hk2 hv ⊢;have hk:k=1∨k=2∨k=3∨k=4∨k=5∨k=6∨k=7∨k=8∨k=9∨k=10∨k=11∨k=12∨k=13:=ab;rcases hk with rfl | rfl | rfl | rfl | rfl | rfl | rfl | rfl | rfl | rfl | rfl | rfl | rfl
   ·change aX _ _ _ _ _ (aF 139 (fV A v 1)) _ _;rw [Qy];change (bif (dj 1 == s) then _ else _);cases hs:dj 1 == s with
    | true =>
      simp only [aw];exact⟨rfl,⟨(2,1),ab,ab,mM (k:=0) hs⟩,by simp only; omega,[.id 0,.id 1,.id 2,.id 3],by(exact zC)⟩
    | false =>
      simp only [aD];exact⟨rfl,⟨(2,v),ab,ab,hv.trans (mL (k:=0) hs)⟩,by simp only; omega,[.id 0,.id 1,.id 2,.id 3],by(exact zC)⟩
   ·change aX _ _ _ _ _ (aF 139 (fV A v 2)) _ _;rw [Qz];change (bif (dj 2 == s) then _ else _);cases hs:dj 2 == s with
    | true =>
      simp only [aw];exact⟨rfl,⟨(3,2),ab,ab,mM (k:=1) hs⟩,by simp only; omega,[.id 0,.id 1,.id 2,.id 3],by(exact zC)⟩
    | false =>
      simp only [aD];exact⟨rfl,⟨(3,v),ab,ab,hv.trans (mL (k:=1) hs)⟩,by simp only; omega,[.id 0,.id 1,.id 2,.id 3],by(exact zC)⟩
   ·change aX _ _ _ _ _ (aF 139 (fV A v 3)) _ _;rw [QA];change (bif (dj 3 == s) then _ else _);cases hs:dj 3 == s with
    | true =>
      simp only [aw];exact⟨rfl,⟨(4,3),ab,ab,mM (k:=2) hs⟩,by simp only; omega,[.id 0,.id 1,.id 2,.id 3],by(exact zC)⟩
    | false =>
      simp only [aD];exact⟨rfl,⟨(4,v),ab,ab,hv.trans (mL (k:=2) hs)⟩,by simp only; omega,[.id 0,.id 1,.id 2,.id 3],by(exact zC)⟩
   ·change aX _ _ _ _ _ (aF 139 (fV A v 4)) _ _;rw [QB];change (bif (dj 4 == s) then _ else _);cases hs:dj 4 == s with
    | true =>
      simp only [aw];exact⟨rfl,⟨(5,4),ab,ab,mM (k:=3) hs⟩,by simp only; omega,[.id 0,.id 1,.id 2,.id 3],by(exact zC)⟩
    | false =>
      simp only [aD];exact⟨rfl,⟨(5,v),ab,ab,hv.trans (mL (k:=3) hs)⟩,by simp only; omega,[.id 0,.id 1,.id 2,.id 3],by(exact zC)⟩
   ·change aX _ _ _ _ _ (aF 139 (fV A v 5)) _ _;rw [QC];change (bif (dj 5 == s) then _ else _);cases hs:dj 5 == s with
    | true =>
      simp only [aw];exact⟨rfl,⟨(6,5),ab,ab,mM (k:=4) hs⟩,by simp only; omega,[.id 0,.id 1,.id 2,.id 3],by(exact zC)⟩
    | false =>
      simp only [aD];exact⟨rfl,⟨(6,v),ab,ab,hv.trans (mL (k:=4) hs)⟩,by simp only; omega,[.id 0,.id 1,.id 2,.id 3],by(exact zC)⟩
   ·change aX _ _ _ _ _ (aF 139 (fV A v 6)) _ _;rw [QD];change (bif (dj 6 == s) then _ else _);cases hs:dj 6 == s with
    | true =>
      simp only [aw];exact⟨rfl,⟨(7,6),ab,ab,mM (k:=5) hs⟩,by simp only; omega,[.id 0,.id 1,.id 2,.id 3],by(exact zC)⟩
    | false =>
      simp only [aD];exact⟨rfl,⟨(7,v),ab,ab,hv.trans (mL (k:=5) hs)⟩,by simp only; omega,[.id 0,.id 1,.id 2,.id 3],by(exact zC)⟩
   ·change aX _ _ _ _ _ (aF 139 (fV A v 7)) _ _;rw [QE];change (bif (dj 7 == s) then _ else _);cases hs:dj 7 == s with
    | true =>
      simp only [aw];exact⟨rfl,⟨(8,7),ab,ab,mM (k:=6) hs⟩,by simp only; omega,[.id 0,.id 1,.id 2,.id 3],by(exact zC)⟩
    | false =>
      simp only [aD];exact⟨rfl,⟨(8,v),ab,ab,hv.trans (mL (k:=6) hs)⟩,by simp only; omega,[.id 0,.id 1,.id 2,.id 3],by(exact zC)⟩
   ·change aX _ _ _ _ _ (aF 139 (fV A v 8)) _ _;rw [QF];change (bif (dj 8 == s) then _ else _);cases hs:dj 8 == s with
    | true =>
      simp only [aw];exact⟨rfl,⟨(9,8),ab,ab,mM (k:=7) hs⟩,by simp only; omega,[.id 0,.id 1,.id 2,.id 3],by(exact zC)⟩
    | false =>
      simp only [aD];exact⟨rfl,⟨(9,v),ab,ab,hv.trans (mL (k:=7) hs)⟩,by simp only; omega,[.id 0,.id 1,.id 2,.id 3],by(exact zC)⟩
   ·change aX _ _ _ _ _ (aF 139 (fV A v 9)) _ _;rw [QG];change (bif (dj 9 == s) then _ else _);cases hs:dj 9 == s with
    | true =>
      simp only [aw];exact⟨rfl,⟨(10,9),ab,ab,mM (k:=8) hs⟩,by simp only; omega,[.id 0,.id 1,.id 2,.id 3],by(exact zC)⟩
    | false =>
      simp only [aD];exact⟨rfl,⟨(10,v),ab,ab,hv.trans (mL (k:=8) hs)⟩,by simp only; omega,[.id 0,.id 1,.id 2,.id 3],by(exact zC)⟩
   ·change aX _ _ _ _ _ (aF 139 (fV A v 10)) _ _;rw [SR];change (bif (dj 10 == s) then _ else _);cases hs:dj 10 == s with
    | true =>
      simp only [aw];exact⟨rfl,⟨(11,10),ab,ab,mM (k:=9) hs⟩,by simp only; omega,[.id 0,.id 1,.id 2,.id 3],by(exact zC)⟩
    | false =>
      simp only [aD];exact⟨rfl,⟨(11,v),ab,ab,hv.trans (mL (k:=9) hs)⟩,by simp only; omega,[.id 0,.id 1,.id 2,.id 3],by(exact zC)⟩
   ·change aX _ _ _ _ _ (aF 139 (fV A v 11)) _ _;rw [SS];change (bif (dj 11 == s) then _ else _);cases hs:dj 11 == s with
    | true =>
      simp only [aw];exact⟨rfl,⟨(12,11),ab,ab,mM (k:=10) hs⟩,by simp only; omega,[.id 0,.id 1,.id 2,.id 3],by(exact zC)⟩
    | false =>
      simp only [aD];exact⟨rfl,⟨(12,v),ab,ab,hv.trans (mL (k:=10) hs)⟩,by simp only; omega,[.id 0,.id 1,.id 2,.id 3],by(exact zC)⟩
   ·change aX _ _ _ _ _ (aF 139 (fV A v 12)) _ _;rw [ST];change (bif (dj 12 == s) then _ else _);cases hs:dj 12 == s with
    | true =>
      simp only [aw];exact⟨rfl,⟨(13,12),ab,ab,mM (k:=11) hs⟩,by simp only; omega,[.id 0,.id 1,.id 2,.id 3],by(exact zC)⟩
    | false =>
      simp only [aD];exact⟨rfl,⟨(13,v),ab,ab,hv.trans (mL (k:=11) hs)⟩,by simp only; omega,[.id 0,.id 1,.id 2,.id 3],by(exact zC)⟩
   ·change aX _ _ _ _ _ (aF 139 (fV A v 13)) _ _;rw [SU];exact⟨rfl,⟨v,by rw [ji,aB ⟨o1,rfl⟩]; exact hv⟩,[.id 0,.id 1,.id 2,.id 3],by(exact zC)⟩
  ·have p1:¬ (op=23∧(0:Int)=0):=by subst h1; simpa using hq.symm
   subst h1;refine a0n.i3x ?_;refine SSp.to jW (n:=60) (g:=aq) 1 1 rfl (σ:={q:Bool // q=decide (((op=8∨op=9)∧(0:Int)=2)∨(op=23∧(0:Int)=1))}) (fun q=>sU 0 A q.1) (fun _=>dC op a b c n nm A B C N s ln cl bd) (bh (bk _)) ak ?_ fun⟨q2,hq2⟩=>?_
   ·rw [QH];by_cases o23:op=23
    ·exact Gq
    by_cases o8:op=8
    ·exact Gp
    by_cases o9:op=9
    ·exact Gn
    ·exact BC
   refine SSp.i3o ak ?_;refine a0n.ways (t:=91) (q:=q2) ak rfl (fun h2=>?_) (fun h2=>?_)
   ·have p2:=of_decide_eq_true (hq2.symm.trans h2);subst h2;exact EC op a b c n nm A B C N s ln cl bd 0 A _ fun v hv=>⟨rfl,⟨v,by rw [ji,av p1,aB p2]; exact hv⟩,[.id 0,.id 1,.id 2,.id 3],by(exact zC)⟩
   ·have p2:=of_decide_eq_false (hq2.symm.trans h2);subst h2;exact EI op a b c n nm A B C N s ln cl bd 0 A _ fun v hv=>⟨rfl,⟨v,by rw [ji,av p1,av p2]; exact hv⟩,[.id 0,.id 1,.id 2,.id 3],by(exact zC)⟩
 dsimp only at hv ⊢;have hf:oY op 0 s A B C=v:=by rw [oY,hv]; rfl
 refine SSp.last jW (n:=60) (bh (bk _)) ?_;rw [QO];by_cases h:v < 0
 ·simp only [show ad .lss v 0=true from ga h,aw];have hR:z=LV.tup [dq op a b c n,.b false]:=by
   have hn:¬ 0≤v:=ab;rw [hz]; simp [bl,dr,hbd,hf,hn]
  exact BB
 ·simp only [show ad .lss v 0=false from f_ ab,aD];have hR:z=LV.tup [dq op v b c n,.b true]:=by
   have hn:0≤v:=ab;rw [hz]; simp [bl,dr,hbd,hf,hn]
  exact⟨trivial,rfl,[dq op v b c n,.b true],z,[],[],ak,⟨rfl,rfl⟩,by rw [hR]; (exact zC)⟩
set_option maxHeartbeats 4000000 in
theorem QL (op a b c n:Int) (nm:ap) (A B C:Int) (N:Bool) (s:ap) (ln cl:Int) (bd:Bool):a0j prog 49 [dq op a b c n,.z 1,pQ nm A B C N,eH s ln cl bd] (ai [] aq) fun l st=>l=LV.tup [dq op (bl 0 op 1 s bd A B C a) (bl 1 op 1 s bd A B C b) (bl 2 op 1 s bd A B C c) (bl 3 op 1 s bd A B C n),.b (dr op 1 s bd A B C)]∧st=ai [] aq:=by
 obtain⟨z,hz⟩:∃ z,z=LV.tup [dq op (bl 0 op 1 s bd A B C a) (bl 1 op 1 s bd A B C b) (bl 2 op 1 s bd A B C c) (bl 3 op 1 s bd A B C n),.b (dr op 1 s bd A B C)]:=⟨_,rfl⟩;rw [← hz];refine a0j.mono (a0j.i4j (Q:=fun l b=>l=z∧b=[]) 139 0 [.cell 8 42,.tmp 9] ew ak rfl rfl ak ?_) fun l s' ⟨b0,⟨h1,h2⟩,h3⟩=>⟨h1,by rw [h3,h2]⟩
 refine SSp.to jW (n:=60) (g:=aq) 7 7 rfl (σ:={_u:Unit // bd=false}) (fun _=>mD 1 B (-1)) (fun _=>dC op a b c n nm A B C N s ln cl bd) (bh (bk _)) ak ?_ fun⟨_,hbd⟩=>?_
 ·rw [Qt];cases bd with
  | true =>
    simp only [aw];have hR:z=LV.tup [dq op a b c n,.b false]:=hz;exact⟨trivial,rfl,[dq op a b c n,.b false],z,[],[],ak,⟨rfl,rfl⟩,by rw [hR]; (exact zC)⟩
  | false =>
    simp only [aD];exact⟨rfl,⟨(),rfl⟩,[.id 0,.id 1,.id 2,.id 3],by(exact zC)⟩
 refine SSp.code_to (g:=aq) 8 rfl (σ:={v:Int // v=ji op 1 s B}) (fun v=>mD 1 B v.1) (fun _=>dC op a b c n nm A B C N s ln cl bd) ak ?_ fun⟨v,hv⟩=>?_
 ·refine a0n.i3v 0 ak ?_;refine SSp.to jW (n:=60) (g:=aq) 1 1 rfl (σ:={q:Bool // q=decide (op=23∧(1:Int)=0)}) (fun q=>sT 1 B q.1) (fun _=>dC op a b c n nm A B C N s ln cl bd) (bh (bk _)) ak ?_ fun⟨q,hq⟩=>?_
  ·rw [Qw];by_cases o1:op=23
   ·exact Gm
   ·exact BD
  refine SSp.i3o ak ?_;refine a0n.ways (t:=71) (q:=q) ak rfl (fun h1=>?_) (fun h1=>?_)
  ·subst h1;have:=of_decide_eq_true hq.symm;omega
  ·have p1:¬ (op=23∧(1:Int)=0):=ab;subst h1;refine a0n.i3x ?_;refine SSp.to jW (n:=60) (g:=aq) 1 1 rfl (σ:={q:Bool // q=decide (((op=8∨op=9)∧(1:Int)=2)∨(op=23∧(1:Int)=1))}) (fun q=>sU 1 B q.1) (fun _=>dC op a b c n nm A B C N s ln cl bd) (bh (bk _)) ak ?_ fun⟨q2,hq2⟩=>?_
   ·rw [QI];by_cases o23:op=23
    ·simp only [show ad .eql op 23=true from cD o23,show ad .eql op 8=false from cF ab,show ad .eql op 9=false from cF ab,aw,aD];exact⟨rfl,⟨true,by first | (simp; done) | (simp; omega)⟩,[.id 0,.id 1,.id 2,.id 3],by(exact zC)⟩
    by_cases o8:op=8
    ·exact Gp
    by_cases o9:op=9
    ·exact Gn
    ·exact BC
   refine SSp.i3o ak ?_;refine a0n.ways (t:=91) (q:=q2) ak rfl (fun h2=>?_) (fun h2=>?_)
   ·have p2:=of_decide_eq_true (hq2.symm.trans h2);subst h2;exact EC op a b c n nm A B C N s ln cl bd 1 B _ fun v hv=>⟨rfl,⟨v,by rw [ji,av p1,aB p2]; exact hv⟩,[.id 0,.id 1,.id 2,.id 3],by(exact zC)⟩
   ·have p2:=of_decide_eq_false (hq2.symm.trans h2);subst h2;exact EI op a b c n nm A B C N s ln cl bd 1 B _ fun v hv=>⟨rfl,⟨v,by rw [ji,av p1,av p2]; exact hv⟩,[.id 0,.id 1,.id 2,.id 3],by(exact zC)⟩
 dsimp only at hv ⊢;have hf:oY op 1 s A B C=v:=by rw [oY,hv]; rfl
 refine SSp.last jW (n:=60) (bh (bk _)) ?_;rw [QP];by_cases h:v < 0
 ·simp only [show ad .lss v 0=true from ga h,aw];have hR:z=LV.tup [dq op a b c n,.b false]:=by
   have hn:¬ 0≤v:=ab;rw [hz]; simp [bl,dr,hbd,hf,hn]
  exact BB
 ·simp only [show ad .lss v 0=false from f_ ab,aD];have hR:z=LV.tup [dq op a v c n,.b true]:=by
   have hn:0≤v:=ab;rw [hz]; simp [bl,dr,hbd,hf,hn]
  exact⟨trivial,rfl,[dq op a v c n,.b true],z,[],[],ak,⟨rfl,rfl⟩,by rw [hR]; (exact zC)⟩
set_option maxHeartbeats 4000000 in
theorem QM (op a b c n:Int) (nm:ap) (A B C:Int) (N:Bool) (s:ap) (ln cl:Int) (bd:Bool):a0j prog 49 [dq op a b c n,.z 2,pQ nm A B C N,eH s ln cl bd] (ai [] aq) fun l st=>l=LV.tup [dq op (bl 0 op 2 s bd A B C a) (bl 1 op 2 s bd A B C b) (bl 2 op 2 s bd A B C c) (bl 3 op 2 s bd A B C n),.b (dr op 2 s bd A B C)]∧st=ai [] aq:=by
 obtain⟨z,hz⟩:∃ z,z=LV.tup [dq op (bl 0 op 2 s bd A B C a) (bl 1 op 2 s bd A B C b) (bl 2 op 2 s bd A B C c) (bl 3 op 2 s bd A B C n),.b (dr op 2 s bd A B C)]:=⟨_,rfl⟩;rw [← hz];refine a0j.mono (a0j.i4j (Q:=fun l b=>l=z∧b=[]) 139 0 [.cell 8 42,.tmp 9] ew ak rfl rfl ak ?_) fun l s' ⟨b0,⟨h1,h2⟩,h3⟩=>⟨h1,by rw [h3,h2]⟩
 refine SSp.to jW (n:=60) (g:=aq) 7 7 rfl (σ:={_u:Unit // bd=false}) (fun _=>mD 2 C (-1)) (fun _=>dC op a b c n nm A B C N s ln cl bd) (bh (bk _)) ak ?_ fun⟨_,hbd⟩=>?_
 ·rw [Qu];cases bd with
  | true =>
    simp only [aw];have hR:z=LV.tup [dq op a b c n,.b false]:=hz;exact⟨trivial,rfl,[dq op a b c n,.b false],z,[],[],ak,⟨rfl,rfl⟩,by rw [hR]; (exact zC)⟩
  | false =>
    simp only [aD];exact⟨rfl,⟨(),rfl⟩,[.id 0,.id 1,.id 2,.id 3],by(exact zC)⟩
 refine SSp.code_to (g:=aq) 8 rfl (σ:={v:Int // v=ji op 2 s C}) (fun v=>mD 2 C v.1) (fun _=>dC op a b c n nm A B C N s ln cl bd) ak ?_ fun⟨v,hv⟩=>?_
 ·refine a0n.i3v 0 ak ?_;refine SSp.to jW (n:=60) (g:=aq) 1 1 rfl (σ:={q:Bool // q=decide (op=23∧(2:Int)=0)}) (fun q=>sT 2 C q.1) (fun _=>dC op a b c n nm A B C N s ln cl bd) (bh (bk _)) ak ?_ fun⟨q,hq⟩=>?_
  ·rw [Qx];by_cases o1:op=23
   ·exact Gm
   ·exact BD
  refine SSp.i3o ak ?_;refine a0n.ways (t:=71) (q:=q) ak rfl (fun h1=>?_) (fun h1=>?_)
  ·subst h1;have:=of_decide_eq_true hq.symm;omega
  ·have p1:¬ (op=23∧(2:Int)=0):=ab;subst h1;refine a0n.i3x ?_;refine SSp.to jW (n:=60) (g:=aq) 1 1 rfl (σ:={q:Bool // q=decide (((op=8∨op=9)∧(2:Int)=2)∨(op=23∧(2:Int)=1))}) (fun q=>sU 2 C q.1) (fun _=>dC op a b c n nm A B C N s ln cl bd) (bh (bk _)) ak ?_ fun⟨q2,hq2⟩=>?_
   ·rw [QJ];by_cases o23:op=23
    ·exact Gq
    by_cases o8:op=8
    ·simp only [show ad .eql op 23=false from cF o23,show ad .eql op 8=true from cD o8,aw,aD];exact⟨rfl,⟨true,by first | (simp; done) | (simp; omega)⟩,[.id 0,.id 1,.id 2,.id 3],by(exact zC)⟩
    by_cases o9:op=9
    ·simp only [show ad .eql op 23=false from cF o23,show ad .eql op 8=false from cF o8,show ad .eql op 9=true from cD o9,aw,aD];exact⟨rfl,⟨true,by first | (simp; done) | (simp; omega)⟩,[.id 0,.id 1,.id 2,.id 3],by(exact zC)⟩
    ·exact BC
   refine SSp.i3o ak ?_;refine a0n.ways (t:=91) (q:=q2) ak rfl (fun h2=>?_) (fun h2=>?_)
   ·have p2:=of_decide_eq_true (hq2.symm.trans h2);subst h2;exact EC op a b c n nm A B C N s ln cl bd 2 C _ fun v hv=>⟨rfl,⟨v,by rw [ji,av p1,aB p2]; exact hv⟩,[.id 0,.id 1,.id 2,.id 3],by(exact zC)⟩
   ·have p2:=of_decide_eq_false (hq2.symm.trans h2);subst h2;exact EI op a b c n nm A B C N s ln cl bd 2 C _ fun v hv=>⟨rfl,⟨v,by rw [ji,av p1,av p2]; exact hv⟩,[.id 0,.id 1,.id 2,.id 3],by(exact zC)⟩
 dsimp only at hv ⊢;have hf:oY op 2 s A B C=v:=by rw [oY,hv]; rfl
 refine SSp.last jW (n:=60) (bh (bk _)) ?_;rw [QQ];by_cases h:v < 0
 ·simp only [show ad .lss v 0=true from ga h,aw];have hR:z=LV.tup [dq op a b c n,.b false]:=by
   have hn:¬ 0≤v:=ab;rw [hz]; simp [bl,dr,hbd,hf,hn]
  exact BB
 ·simp only [show ad .lss v 0=false from f_ ab,aD];have hR:z=LV.tup [dq op a b v n,.b true]:=by
   have hn:0≤v:=ab;rw [hz]; simp [bl,dr,hbd,hf,hn]
  exact⟨trivial,rfl,[dq op a b v n,.b true],z,[],[],ak,⟨rfl,rfl⟩,by rw [hR]; (exact zC)⟩
theorem QN (op a b c n:Int) (nm:ap) (A B C:Int) (N:Bool) (s:ap) (ln cl:Int) (bd:Bool):a0j prog 49 [dq op a b c n,.z 3,pQ nm A B C N,eH s ln cl bd] (ai [] aq) fun l st=>l=LV.tup [dq op (bl 0 op 3 s bd A B C a) (bl 1 op 3 s bd A B C b) (bl 2 op 3 s bd A B C c) (bl 3 op 3 s bd A B C n),.b (dr op 3 s bd A B C)]∧st=ai [] aq:=by
 obtain⟨z,hz⟩:∃ z,z=LV.tup [dq op (bl 0 op 3 s bd A B C a) (bl 1 op 3 s bd A B C b) (bl 2 op 3 s bd A B C c) (bl 3 op 3 s bd A B C n),.b (dr op 3 s bd A B C)]:=⟨_,rfl⟩;rw [← hz];refine a0j.mono (a0j.i4j (Q:=fun l b=>l=z∧b=[]) 139 0 [.cell 8 42,.tmp 9] ew ak rfl rfl ak ?_) fun l s' ⟨b0,⟨h1,h2⟩,h3⟩=>⟨h1,by rw [h3,h2]⟩
 refine SSp.vc jW (n:=60) (bk _) ?_;rw [ND];cases bd with
 | true =>
   simp only [aw];have hR:z=LV.tup [dq op a b c n,.b false]:=hz;exact⟨trivial,rfl,[dq op a b c n,.b false],z,[],[],ak,⟨rfl,rfl⟩,by rw [hR]; (exact zC)⟩
 | false =>
   simp only [aD];have hR:z=LV.tup [dq op a b c (dL s 18446744073709551615),.b (c_ s 18446744073709551615)]:=by rw [hz]; simp [bl,dr]
   exact⟨trivial,rfl,[dq op a b c (dL s 18446744073709551615),.b (c_ s 18446744073709551615)],z,[],[],ak,⟨rfl,rfl⟩,by rw [hR]; (exact zC)⟩
theorem NF (op a b c n k:Int) (nm:ap) (A B C:Int) (N:Bool) (s:ap) (ln cl:Int) (bd:Bool) (k1:ad .leq 0 k=true) (k2:ad .leq k 3=true):a0j prog 49 [dq op a b c n,.z k,pQ nm A B C N,eH s ln cl bd] (ai [] aq) fun l st=>l=LV.tup [dq op (bl 0 op k s bd A B C a) (bl 1 op k s bd A B C b) (bl 2 op k s bd A B C c) (bl 3 op k s bd A B C n),.b (dr op k s bd A B C)]∧st=ai [] aq:=by
 rw [iq,cu] at k1 k2;have:k=0∨k=1∨k=2∨k=3:=ab;rcases this with rfl | rfl | rfl | rfl
 ·exact QK op a b c n nm A B C N s ln cl bd
 ·exact QL op a b c n nm A B C N s ln cl bd
 ·exact QM op a b c n nm A B C N s ln cl bd
 ·exact QN op a b c n nm A B C N s ln cl bd
def Dq:Gc:=fun args s=>match args,s.g with
 | [.agg [.int .i64 op,.int .i64 a,.int .i64 b,.int .i64 c,.int .u64 n],.int .i64 k,.agg [.str nm,.int .i64 A,.int .i64 B,.int .i64 C,.bool N],.agg [.str x,.int .i64 ln,.int .i64 cl,.bool bd]],[(g0,F0),(g1,F1),(g2,F2),(g3,[.fact F])]=>cond (Nat.beq g0 0 && aU F0 cj && (Nat.beq g1 2 && aU F1 cK) && (Nat.beq g2 1 && aU F2 gi) && Nat.beq g3 1000) (match s.lay [] [] [] with
   | some s'=>some ([dm F,ad .leq 0 k,ad .leq k 3],.tup [.agg [.z op,.z (bl 0 op k x bd A B C a),.z (bl 1 op k x bd A B C b),.z (bl 2 op k x bd A B C c),.int .u64 (bl 3 op k x bd A B C n)],.b (dr op k x bd A B C)],s')
   | none=>none) none
 | _,_=>none
theorem SP:bX prog 49 Dq:=by
 intro args s bs l s' hg hb hfr;unfold Dq at hg;split at hg
 ·rename_i op a b c n k nm A B C N x ln cl bd g0 F0 g1 F1 g2 F2 g3 F hgl;cases hc:(Nat.beq g0 0 && aU F0 cj && (Nat.beq g1 2 && aU F1 cK) && (Nat.beq g2 1 && aU F2 gi) && Nat.beq g3 1000) with
  | false=>exact eZ
  | true =>
    rw [hc] at hg;simp only [aw] at hg;simp only [bg] at hc;replace hgl:s.g=pY F:=by rw [hgl,bt hc.1.1.1.1,bQ hc.1.1.1.2,bt hc.1.1.2.1,bQ hc.1.1.2.2,bt hc.1.2.1,bQ hc.1.2.2,bt hc.2]
    split at hg
    ·rename_i s1 hs1;simp only [a8,bn] at hg;obtain⟨rfl,rfl,rfl⟩:=hg;simp only [bv] at hb;obtain⟨k1,k2,k3,_⟩:=hb;have eF:=mP k1;subst eF;refine a0j.lay (bs:=[]) (args0:=[.agg [.z op,.z a,.z b,.z c,.int .u64 n],.z k,.agg [.str nm,.z A,.z B,.z C,.b N],.agg [.str x,.z ln,.z cl,.b bd]]) (bs':=[]) (v0:=.tup [.agg [.z op,.z (bl 0 op k x bd A B C a),.z (bl 1 op k x bd A B C b),.z (bl 2 op k x bd A B C c),.int .u64 (bl 3 op k x bd A B C n)],.b (dr op k x bd A B C)]) hfr hs1 aC
      trivial fv ?_
      fun κ h1 h2=>⟨trivial,cY rfl⟩
     rw [hgl]; exact(NF op a b c n k nm A B C N x ln cl bd k2 k3)
    ·cases hg
 ·cases hg
end
end Go.Lev
