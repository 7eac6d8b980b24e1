/- text: the reference's field -/
import Derived.Test.YtnkkkihgljbllaaDoorCQ9
import Derived.Test.YtnkkkihgljbllaaDoorCX6
import Derived.Test.YtnkkkihgljbllaaDoorLc
import Derived.Test.YtnkkkihgljbllaaDoorChecked
import Derived.KernelRfl
import Derived.Test.YtnkkkihgljbllaaDoorLc
namespace Go.Lev
set_option linter.unusedSimpArgs false
set_option linter.unusedVariables false
open Go.RowKit
open Go.Proofs.Tryd (prog)
set_option maxRecDepth 100000
noncomputable section
def c2z (s:List UInt8) (M:Int):Int:=if s.length=2∧a1i s 0=114∧48≤a1i s 1∧a1i s 1 - 48≤M then a1i s 1 - 48 else -1
def d4m (s:List UInt8) (M:Int):Int:=if drB s (xwr .u64 M)=true then xwr .i64 (drN s (xwr .u64 M)) else -1
def d3s (s:List UInt8) (k:Nat):Int:=if a5a clN k s=0 then -1 else a5a clN k s
def c0a (op k:Int) (s:List UInt8) (M:Int):Int:=if op=23∧k=0 then d3s s 12 else if((op=8∨op=9)∧k=2)∨(op=23∧k=1) then d4m s M else c2z s M
def fnV (op k:Int) (s:List UInt8) (A B C:Int):Int:=c0a op k s (if k=0 then A else if k=1 then B else C)
def fiO (op k:Int) (s:List UInt8) (bd:Bool) (A B C:Int):Bool:=!bd && (if k=3 then drB s 18446744073709551615 else decide (0≤fnV op k s A B C))
def fiX (j op k:Int) (s:List UInt8) (bd:Bool) (A B C v:Int):Int:=if bd=true then v else if k=3 then(if j=3 then drN s 18446744073709551615 else v) else if 0≤fnV op k s A B C∧j=k then fnV op k s A B C else v
theorem d7i (M:Int):0≤xwr .u64 M∧xwr .u64 M≤18446744073709551615:=by
 show 0≤a8a .u64 M∧a8a .u64 M≤18446744073709551615
 have e:a8a .u64 M=M % 18446744073709551616:=by
  rw [a8t]; simp only [IntKind.wrap,IntKind.bits,IntKind.signed,Int.reducePow]; simp
 rw [e]; omega
theorem f5q {x:Int} (h:48≤x) (h2:x≤255):xwr .i64 (xar .sub .u8 x 48)=x - 48:=by
 have:xar .sub .u8 x 48=x - 48:=by rw [c3p]; exact c9l (by omega) (by omega)
 rw [this]; exact b0c (by omega) (by omega)
theorem d5i (s:List UInt8) (i:Nat):0≤a1i s i∧a1i s i≤255:=by
 have:=(s.getD i 0).toNat_lt
 unfold a1i; omega
theorem c6d {s:List UInt8} {M:Int} (h:¬ (s.length=2∧a1i s 0=114∧48≤a1i s 1∧a1i s 1 - 48≤M)) : -1=c2z s M:=by unfold c2z; rw [if_neg h]
theorem d8i {s:List UInt8} {M:Int} (h:s.length=2∧a1i s 0=114∧48≤a1i s 1∧a1i s 1 - 48≤M):a1i s 1 - 48=c2z s M:=by unfold c2z; rw [if_pos h]
theorem c5m (s:List UInt8) (h:s.length=2):xcm .eql ((a0z s:Nat):Int) 2=true:=a2i (show((s.length:Nat):Int)=2 by omega)
theorem f1f (s:List UInt8) (h:s.length≠2):xcm .eql ((a0z s:Nat):Int) 2=false:=a2c (show((s.length:Nat):Int)≠2 by omega)
theorem f3h {s:List UInt8} {M:Int} (h:drB s (xwr .u64 M)=true):xwr .i64 (drN s (xwr .u64 M))=d4m s M:=by unfold d4m; rw [if_pos h]
theorem f3i {s:List UInt8} {M:Int} (h:drB s (xwr .u64 M)=false) : -1=d4m s M:=by unfold d4m; rw [if_neg (by rw [h]; simp)]
theorem a9i {s:List UInt8} {k:Nat} (h:(clN (k+1) == s)=true):((k+1:Nat):Int)=d3s s (k+1):=by
 have:a5a clN (k+1) s=((k+1:Nat):Int):=by rw [a5a,h]; rfl
 unfold d3s; rw [this,if_neg (by omega)]
theorem a9j {s:List UInt8} {k:Nat} (h:(clN (k+1) == s)=false):d3s s k=d3s s (k+1):=by
 have:a5a clN (k+1) s=a5a clN k s:=by rw [a5a,h]; rfl
 unfold d3s; rw [this]
theorem c4k (op a b c n:Int) (nm:List UInt8) (A B C:Int) (N:Bool) (s:List UInt8) (ln cl:Int) (bd:Bool) (k M:Int) (Φ : Pk) (h:∀ v,v=d4m s M→Φ .normal [.int .i64 k,.ptr 0 0,.ptr 1 0,.ptr 2 0,.ptr 3 0,.bool false,.int .i64 M,.int .i64 v,.any,.any,.bool true] (c4z op a b c n nm A B C N s ln cl bd) gt4):a0p prog 139 (c2r (a4i fiE 1)) 0 (a1p 139 (d9i k M true)) (mkS (fiH op a b c n nm A B C N s ln cl bd) gt4) (vK fiL Φ):=by
 refine a0p.vc a4e (n:=60) (a0y (Nat.zero_le _)) ?_
 rw [g7r]
 obtain⟨w1,w2⟩:=d7i M
 cases hb:drB s (xwr .u64 M) with
 | true =>
   simp only [a9k w1,a9k w2,cond_true]
   exact h _ (f3h hb)
 | false =>
   simp only [a9k w1,a9k w2,cond_true,cond_false]
   exact h _ (f3i hb)
theorem c4f (op a b c n:Int) (nm:List UInt8) (A B C:Int) (N:Bool) (s:List UInt8) (ln cl:Int) (bd:Bool) (k M:Int) (Φ : Pk) (h:∀ v,v=c2z s M→Φ .normal [.int .i64 k,.ptr 0 0,.ptr 1 0,.ptr 2 0,.ptr 3 0,.bool false,.int .i64 M,.int .i64 v,.any,.any,.bool false] (b3n op a b c n nm A B C N s ln cl bd) gt4):a0p prog 139 (c2s (a4i fiE 1)) 0 (a1p 139 (d9i k M false)) (mkS (fiH op a b c n nm A B C N s ln cl bd) gt4) (vK fiL Φ):=by
 refine a0p.vc a4e (n:=60) (a0y (Nat.zero_le _)) ?_
 rw [g7q]
 by_cases r1:s.length=2
 ·have x1:xle 1 (a0z s)=true:=a1n (show 1≤s.length by omega)
  have x2:xle 2 (a0z s)=true:=a1n (show 2≤s.length by omega)
  have yb:=d5i s 1
  by_cases r2:a1i s 0=114
  ·by_cases r3:48≤a1i s 1
   ·have e5:=f5q r3 yb.2
    by_cases r4:a1i s 1 - 48≤M
    ·simp only [c5m s r1,x1,x2,e5,a2i r2,b3a r3,a9k r4,cond_true]
     exact h _ (d8i ⟨r1,r2,r3,r4⟩)
    ·simp only [c5m s r1,x1,x2,e5,a2i r2,b3a r3,show xcm .leq (a1i s 1 - 48) M=false from c5a (by omega),cond_true,cond_false]
     exact h _ (c6d fun q=>r4 q.2.2.2)
   ·simp only [c5m s r1,x1,x2,a2i r2,show xcm .geq (a1i s 1) 48=false from b6o (by omega),cond_true,cond_false]
    exact h _ (c6d fun q=>r3 q.2.2.1)
  ·simp only [c5m s r1,x1,a2c r2,cond_true,cond_false]
   exact h _ (c6d fun q=>r2 q.2.1)
 ·simp only [f1f s r1,cond_false]
  exact h _ (c6d fun q=>r1 q.1)
set_option maxHeartbeats 4000000 in
theorem g0d (op a b c n:Int) (nm:List UInt8) (A B C:Int) (N:Bool) (s:List UInt8) (ln cl:Int) (bd:Bool):a0k prog 49 [inV op a b c n,.int .i64 0,roV nm A B C N,rwV s ln cl bd] (mkS [] gt4) fun l st=>l=LV.tup [inV op (fiX 0 op 0 s bd A B C a) (fiX 1 op 0 s bd A B C b) (fiX 2 op 0 s bd A B C c) (fiX 3 op 0 s bd A B C n),.bool (fiO op 0 s bd A B C)]∧st=mkS [] gt4:=by
 obtain⟨z,hz⟩:∃ z,z=LV.tup [inV op (fiX 0 op 0 s bd A B C a) (fiX 1 op 0 s bd A B C b) (fiX 2 op 0 s bd A B C c) (fiX 3 op 0 s bd A B C n),.bool (fiO op 0 s bd A B C)]:=⟨_,rfl⟩
 rw [← hz]
 refine a0k.mono (a0k.h0o (Q:=fun l b=>l=z∧b=[]) 139 0 [.cell 8 42,.tmp 9] fiL (by kernel_rfl) rfl rfl (by kernel_rfl) ?_) fun l s' ⟨b0,⟨h1,h2⟩,h3⟩=>⟨h1,by rw [h3,h2]⟩
 refine SSp.to a4e (n:=60) (g:=gt4) 7 7 rfl (σ:={_u:Unit // bd=false}) (fun _=>fiT 0 A (-1)) (fun _=>fiH op a b c n nm A B C N s ln cl bd) (a0y (Nat.zero_le _)) (by kernel_rfl) ?_ fun⟨_,hbd⟩=>?_
 ·rw [g0v]
  cases bd with
  | true =>
    simp only [cond_true]
    have hR:z=LV.tup [inV op a b c n,.bool false]:=hz
    exact⟨trivial,rfl,[inV op a b c n,.bool false],z,[],[],by kernel_rfl,⟨rfl,rfl⟩,by rw [hR]; (exact zC)⟩
  | false =>
    simp only [cond_false]
    exact⟨rfl,⟨(),rfl⟩,[.id 0,.id 1,.id 2,.id 3],by(exact zC)⟩
 refine SSp.code_to (g:=gt4) 8 rfl (σ:={v:Int // v=c0a op 0 s A}) (fun v=>fiT 0 A v.1) (fun _=>fiH op a b c n nm A B C N s ln cl bd) (by kernel_rfl) ?_ fun⟨v,hv⟩=>?_
 ·refine a0p.h0p 0 (by kernel_rfl) ?_
  refine SSp.to a4e (n:=60) (g:=gt4) 1 1 rfl (σ:={q:Bool // q=decide (op=23∧(0:Int)=0)}) (fun q=>d9j 0 A q.1) (fun _=>fiH op a b c n nm A B C N s ln cl bd) (a0y (Nat.zero_le _)) (by kernel_rfl) ?_ fun⟨q,hq⟩=>?_
  ·rw [g0s]
   by_cases o1:op=23
   ·simp only [show xcm .eql op 23=true from a2i o1,cond_true]
    exact⟨rfl,⟨true,by simp [o1]⟩,[.id 0,.id 1,.id 2,.id 3],by(exact zC)⟩
   ·simp only [show xcm .eql op 23=false from a2c o1,cond_false]
    exact⟨rfl,⟨false,by simp [o1]⟩,[.id 0,.id 1,.id 2,.id 3],by(exact zC)⟩
  refine SSp.h0j (by kernel_rfl) ?_
  refine a0p.ways (t:=71) (q:=q) (by kernel_rfl) rfl (fun h1=>?_) (fun h1=>?_)
  ·have o1:op=23:=by subst h1; simpa using hq.symm
   dsimp only
   refine a0p.h0c ?_
   refine SSp.to a4e (n:=60) (g:=gt4) 1 1 rfl (σ:=Unit) (fun _=>b2s A (-1) 1) (fun _=>fiH op a b c n nm A B C N s ln cl bd) (a0y (Nat.zero_le _)) (by kernel_rfl) ?_ fun _=>?_
   ·subst h1; rw [g7t]; exact⟨rfl,(),[.id 0,.id 1,.id 2,.id 3],by(exact zC)⟩
   refine SSp.h0j (by kernel_rfl) ?_
   refine a0p.g9s a4e (n:=60) (n0:=0) 1 (by kernel_rfl) (σ:={p:Nat×Int // 1≤p.1∧p.1≤13∧p.2=d3s s (p.1 - 1)}) (fun p=>b2s A p.1.2 p.1.1) (fun _=>fiH op a b c n nm A B C N s ln cl bd) (fun p=>13 - p.1.1) (fun _=>Nat.zero_le _) (fun⟨⟨k,v⟩,hk1,hk2,hv⟩=>?_) ⟨(1,-1),Nat.le_refl _,by simp,rfl⟩
   dsimp only at hk1 hk2 hv ⊢
   have hk:k=1∨k=2∨k=3∨k=4∨k=5∨k=6∨k=7∨k=8∨k=9∨k=10∨k=11∨k=12∨k=13:=by omega
   rcases hk with rfl | rfl | rfl | rfl | rfl | rfl | rfl | rfl | rfl | rfl | rfl | rfl | rfl
   ·change a1h _ _ _ _ _ (a1p 139 (b2s A v 1)) _ _
    rw [g0p]
    change (bif (clN 1 == s) then _ else _)
    cases hs:clN 1 == s with
    | true =>
      simp only [cond_true]
      exact⟨rfl,⟨(2,1),by omega,by omega,a9i (k:=0) hs⟩,by simp only; omega,[.id 0,.id 1,.id 2,.id 3],by(exact zC)⟩
    | false =>
      simp only [cond_false]
      exact⟨rfl,⟨(2,v),by omega,by omega,hv.trans (a9j (k:=0) hs)⟩,by simp only; omega,[.id 0,.id 1,.id 2,.id 3],by(exact zC)⟩
   ·change a1h _ _ _ _ _ (a1p 139 (b2s A v 2)) _ _
    rw [g0o]
    change (bif (clN 2 == s) then _ else _)
    cases hs:clN 2 == s with
    | true =>
      simp only [cond_true]
      exact⟨rfl,⟨(3,2),by omega,by omega,a9i (k:=1) hs⟩,by simp only; omega,[.id 0,.id 1,.id 2,.id 3],by(exact zC)⟩
    | false =>
      simp only [cond_false]
      exact⟨rfl,⟨(3,v),by omega,by omega,hv.trans (a9j (k:=1) hs)⟩,by simp only; omega,[.id 0,.id 1,.id 2,.id 3],by(exact zC)⟩
   ·change a1h _ _ _ _ _ (a1p 139 (b2s A v 3)) _ _
    rw [g0n]
    change (bif (clN 3 == s) then _ else _)
    cases hs:clN 3 == s with
    | true =>
      simp only [cond_true]
      exact⟨rfl,⟨(4,3),by omega,by omega,a9i (k:=2) hs⟩,by simp only; omega,[.id 0,.id 1,.id 2,.id 3],by(exact zC)⟩
    | false =>
      simp only [cond_false]
      exact⟨rfl,⟨(4,v),by omega,by omega,hv.trans (a9j (k:=2) hs)⟩,by simp only; omega,[.id 0,.id 1,.id 2,.id 3],by(exact zC)⟩
   ·change a1h _ _ _ _ _ (a1p 139 (b2s A v 4)) _ _
    rw [g0m]
    change (bif (clN 4 == s) then _ else _)
    cases hs:clN 4 == s with
    | true =>
      simp only [cond_true]
      exact⟨rfl,⟨(5,4),by omega,by omega,a9i (k:=3) hs⟩,by simp only; omega,[.id 0,.id 1,.id 2,.id 3],by(exact zC)⟩
    | false =>
      simp only [cond_false]
      exact⟨rfl,⟨(5,v),by omega,by omega,hv.trans (a9j (k:=3) hs)⟩,by simp only; omega,[.id 0,.id 1,.id 2,.id 3],by(exact zC)⟩
   ·change a1h _ _ _ _ _ (a1p 139 (b2s A v 5)) _ _
    rw [g0l]
    change (bif (clN 5 == s) then _ else _)
    cases hs:clN 5 == s with
    | true =>
      simp only [cond_true]
      exact⟨rfl,⟨(6,5),by omega,by omega,a9i (k:=4) hs⟩,by simp only; omega,[.id 0,.id 1,.id 2,.id 3],by(exact zC)⟩
    | false =>
      simp only [cond_false]
      exact⟨rfl,⟨(6,v),by omega,by omega,hv.trans (a9j (k:=4) hs)⟩,by simp only; omega,[.id 0,.id 1,.id 2,.id 3],by(exact zC)⟩
   ·change a1h _ _ _ _ _ (a1p 139 (b2s A v 6)) _ _
    rw [g0k]
    change (bif (clN 6 == s) then _ else _)
    cases hs:clN 6 == s with
    | true =>
      simp only [cond_true]
      exact⟨rfl,⟨(7,6),by omega,by omega,a9i (k:=5) hs⟩,by simp only; omega,[.id 0,.id 1,.id 2,.id 3],by(exact zC)⟩
    | false =>
      simp only [cond_false]
      exact⟨rfl,⟨(7,v),by omega,by omega,hv.trans (a9j (k:=5) hs)⟩,by simp only; omega,[.id 0,.id 1,.id 2,.id 3],by(exact zC)⟩
   ·change a1h _ _ _ _ _ (a1p 139 (b2s A v 7)) _ _
    rw [g0j]
    change (bif (clN 7 == s) then _ else _)
    cases hs:clN 7 == s with
    | true =>
      simp only [cond_true]
      exact⟨rfl,⟨(8,7),by omega,by omega,a9i (k:=6) hs⟩,by simp only; omega,[.id 0,.id 1,.id 2,.id 3],by(exact zC)⟩
    | false =>
      simp only [cond_false]
      exact⟨rfl,⟨(8,v),by omega,by omega,hv.trans (a9j (k:=6) hs)⟩,by simp only; omega,[.id 0,.id 1,.id 2,.id 3],by(exact zC)⟩
   ·change a1h _ _ _ _ _ (a1p 139 (b2s A v 8)) _ _
    rw [g0i]
    change (bif (clN 8 == s) then _ else _)
    cases hs:clN 8 == s with
    | true =>
      simp only [cond_true]
      exact⟨rfl,⟨(9,8),by omega,by omega,a9i (k:=7) hs⟩,by simp only; omega,[.id 0,.id 1,.id 2,.id 3],by(exact zC)⟩
    | false =>
      simp only [cond_false]
      exact⟨rfl,⟨(9,v),by omega,by omega,hv.trans (a9j (k:=7) hs)⟩,by simp only; omega,[.id 0,.id 1,.id 2,.id 3],by(exact zC)⟩
   ·change a1h _ _ _ _ _ (a1p 139 (b2s A v 9)) _ _
    rw [g0h]
    change (bif (clN 9 == s) then _ else _)
    cases hs:clN 9 == s with
    | true =>
      simp only [cond_true]
      exact⟨rfl,⟨(10,9),by omega,by omega,a9i (k:=8) hs⟩,by simp only; omega,[.id 0,.id 1,.id 2,.id 3],by(exact zC)⟩
    | false =>
      simp only [cond_false]
      exact⟨rfl,⟨(10,v),by omega,by omega,hv.trans (a9j (k:=8) hs)⟩,by simp only; omega,[.id 0,.id 1,.id 2,.id 3],by(exact zC)⟩
   ·change a1h _ _ _ _ _ (a1p 139 (b2s A v 10)) _ _
    rw [f4t]
    change (bif (clN 10 == s) then _ else _)
    cases hs:clN 10 == s with
    | true =>
      simp only [cond_true]
      exact⟨rfl,⟨(11,10),by omega,by omega,a9i (k:=9) hs⟩,by simp only; omega,[.id 0,.id 1,.id 2,.id 3],by(exact zC)⟩
    | false =>
      simp only [cond_false]
      exact⟨rfl,⟨(11,v),by omega,by omega,hv.trans (a9j (k:=9) hs)⟩,by simp only; omega,[.id 0,.id 1,.id 2,.id 3],by(exact zC)⟩
   ·change a1h _ _ _ _ _ (a1p 139 (b2s A v 11)) _ _
    rw [f4s]
    change (bif (clN 11 == s) then _ else _)
    cases hs:clN 11 == s with
    | true =>
      simp only [cond_true]
      exact⟨rfl,⟨(12,11),by omega,by omega,a9i (k:=10) hs⟩,by simp only; omega,[.id 0,.id 1,.id 2,.id 3],by(exact zC)⟩
    | false =>
      simp only [cond_false]
      exact⟨rfl,⟨(12,v),by omega,by omega,hv.trans (a9j (k:=10) hs)⟩,by simp only; omega,[.id 0,.id 1,.id 2,.id 3],by(exact zC)⟩
   ·change a1h _ _ _ _ _ (a1p 139 (b2s A v 12)) _ _
    rw [f4r]
    change (bif (clN 12 == s) then _ else _)
    cases hs:clN 12 == s with
    | true =>
      simp only [cond_true]
      exact⟨rfl,⟨(13,12),by omega,by omega,a9i (k:=11) hs⟩,by simp only; omega,[.id 0,.id 1,.id 2,.id 3],by(exact zC)⟩
    | false =>
      simp only [cond_false]
      exact⟨rfl,⟨(13,v),by omega,by omega,hv.trans (a9j (k:=11) hs)⟩,by simp only; omega,[.id 0,.id 1,.id 2,.id 3],by(exact zC)⟩
   ·change a1h _ _ _ _ _ (a1p 139 (b2s A v 13)) _ _
    rw [f4q]
    exact⟨rfl,⟨v,by rw [c0a,if_pos ⟨o1,rfl⟩]; exact hv⟩,[.id 0,.id 1,.id 2,.id 3],by(exact zC)⟩
  ·have p1:¬ (op=23∧(0:Int)=0):=by subst h1; simpa using hq.symm
   subst h1
   refine a0p.h0c ?_
   refine SSp.to a4e (n:=60) (g:=gt4) 1 1 rfl (σ:={q:Bool // q=decide (((op=8∨op=9)∧(0:Int)=2)∨(op=23∧(0:Int)=1))}) (fun q=>d9i 0 A q.1) (fun _=>fiH op a b c n nm A B C N s ln cl bd) (a0y (Nat.zero_le _)) (by kernel_rfl) ?_ fun⟨q2,hq2⟩=>?_
   ·rw [g0g]
    by_cases o23:op=23
    ·simp only [show xcm .eql op 23=true from a2i o23,show xcm .eql op 8=false from a2c (by omega),show xcm .eql op 9=false from a2c (by omega),cond_true,cond_false]
     exact⟨rfl,⟨false,by first | (simp; done) | (simp; omega)⟩,[.id 0,.id 1,.id 2,.id 3],by(exact zC)⟩
    by_cases o8:op=8
    ·simp only [show xcm .eql op 23=false from a2c o23,show xcm .eql op 8=true from a2i o8,cond_true,cond_false]
     exact⟨rfl,⟨false,by first | (simp; done) | (simp; omega)⟩,[.id 0,.id 1,.id 2,.id 3],by(exact zC)⟩
    by_cases o9:op=9
    ·simp only [show xcm .eql op 23=false from a2c o23,show xcm .eql op 8=false from a2c o8,show xcm .eql op 9=true from a2i o9,cond_true,cond_false]
     exact⟨rfl,⟨false,by first | (simp; done) | (simp; omega)⟩,[.id 0,.id 1,.id 2,.id 3],by(exact zC)⟩
    ·simp only [show xcm .eql op 23=false from a2c o23,show xcm .eql op 8=false from a2c o8,show xcm .eql op 9=false from a2c o9,cond_true,cond_false]
     exact⟨rfl,⟨false,by first | (simp; done) | (simp; omega)⟩,[.id 0,.id 1,.id 2,.id 3],by(exact zC)⟩
   refine SSp.h0j (by kernel_rfl) ?_
   refine a0p.ways (t:=91) (q:=q2) (by kernel_rfl) rfl (fun h2=>?_) (fun h2=>?_)
   ·have p2:=of_decide_eq_true (hq2.symm.trans h2)
    subst h2
    exact c4k op a b c n nm A B C N s ln cl bd 0 A _ fun v hv=>⟨rfl,⟨v,by rw [c0a,if_neg p1,if_pos p2]; exact hv⟩,[.id 0,.id 1,.id 2,.id 3],by(exact zC)⟩
   ·have p2:=of_decide_eq_false (hq2.symm.trans h2)
    subst h2
    exact c4f op a b c n nm A B C N s ln cl bd 0 A _ fun v hv=>⟨rfl,⟨v,by rw [c0a,if_neg p1,if_neg p2]; exact hv⟩,[.id 0,.id 1,.id 2,.id 3],by(exact zC)⟩
 dsimp only at hv ⊢
 have hf:fnV op 0 s A B C=v:=by rw [fnV,hv]; rfl
 refine SSp.last a4e (n:=60) (a0y (Nat.zero_le _)) ?_
 rw [f9z]
 by_cases h:v < 0
 ·simp only [show xcm .lss v 0=true from a6j h,cond_true]
  have hR:z=LV.tup [inV op a b c n,.bool false]:=by
   have hn:¬ 0≤v:=by omega
   rw [hz]; simp [fiX,fiO,hbd,hf,hn]
  exact⟨trivial,rfl,[inV op a b c n,.bool false],z,[],[],by kernel_rfl,⟨rfl,rfl⟩,by rw [hR]; (exact zC)⟩
 ·simp only [show xcm .lss v 0=false from a6h (by omega),cond_false]
  have hR:z=LV.tup [inV op v b c n,.bool true]:=by
   have hn:0≤v:=by omega
   rw [hz]; simp [fiX,fiO,hbd,hf,hn]
  exact⟨trivial,rfl,[inV op v b c n,.bool true],z,[],[],by kernel_rfl,⟨rfl,rfl⟩,by rw [hR]; (exact zC)⟩
set_option maxHeartbeats 4000000 in
theorem g0c (op a b c n:Int) (nm:List UInt8) (A B C:Int) (N:Bool) (s:List UInt8) (ln cl:Int) (bd:Bool):a0k prog 49 [inV op a b c n,.int .i64 1,roV nm A B C N,rwV s ln cl bd] (mkS [] gt4) fun l st=>l=LV.tup [inV op (fiX 0 op 1 s bd A B C a) (fiX 1 op 1 s bd A B C b) (fiX 2 op 1 s bd A B C c) (fiX 3 op 1 s bd A B C n),.bool (fiO op 1 s bd A B C)]∧st=mkS [] gt4:=by
 obtain⟨z,hz⟩:∃ z,z=LV.tup [inV op (fiX 0 op 1 s bd A B C a) (fiX 1 op 1 s bd A B C b) (fiX 2 op 1 s bd A B C c) (fiX 3 op 1 s bd A B C n),.bool (fiO op 1 s bd A B C)]:=⟨_,rfl⟩
 rw [← hz]
 refine a0k.mono (a0k.h0o (Q:=fun l b=>l=z∧b=[]) 139 0 [.cell 8 42,.tmp 9] fiL (by kernel_rfl) rfl rfl (by kernel_rfl) ?_) fun l s' ⟨b0,⟨h1,h2⟩,h3⟩=>⟨h1,by rw [h3,h2]⟩
 refine SSp.to a4e (n:=60) (g:=gt4) 7 7 rfl (σ:={_u:Unit // bd=false}) (fun _=>fiT 1 B (-1)) (fun _=>fiH op a b c n nm A B C N s ln cl bd) (a0y (Nat.zero_le _)) (by kernel_rfl) ?_ fun⟨_,hbd⟩=>?_
 ·rw [g0u]
  cases bd with
  | true =>
    simp only [cond_true]
    have hR:z=LV.tup [inV op a b c n,.bool false]:=hz
    exact⟨trivial,rfl,[inV op a b c n,.bool false],z,[],[],by kernel_rfl,⟨rfl,rfl⟩,by rw [hR]; (exact zC)⟩
  | false =>
    simp only [cond_false]
    exact⟨rfl,⟨(),rfl⟩,[.id 0,.id 1,.id 2,.id 3],by(exact zC)⟩
 refine SSp.code_to (g:=gt4) 8 rfl (σ:={v:Int // v=c0a op 1 s B}) (fun v=>fiT 1 B v.1) (fun _=>fiH op a b c n nm A B C N s ln cl bd) (by kernel_rfl) ?_ fun⟨v,hv⟩=>?_
 ·refine a0p.h0p 0 (by kernel_rfl) ?_
  refine SSp.to a4e (n:=60) (g:=gt4) 1 1 rfl (σ:={q:Bool // q=decide (op=23∧(1:Int)=0)}) (fun q=>d9j 1 B q.1) (fun _=>fiH op a b c n nm A B C N s ln cl bd) (a0y (Nat.zero_le _)) (by kernel_rfl) ?_ fun⟨q,hq⟩=>?_
  ·rw [g0r]
   by_cases o1:op=23
   ·simp only [show xcm .eql op 23=true from a2i o1,cond_true]
    exact⟨rfl,⟨false,by simp [o1]⟩,[.id 0,.id 1,.id 2,.id 3],by(exact zC)⟩
   ·simp only [show xcm .eql op 23=false from a2c o1,cond_false]
    exact⟨rfl,⟨false,by simp [o1]⟩,[.id 0,.id 1,.id 2,.id 3],by(exact zC)⟩
  refine SSp.h0j (by kernel_rfl) ?_
  refine a0p.ways (t:=71) (q:=q) (by kernel_rfl) rfl (fun h1=>?_) (fun h1=>?_)
  ·subst h1
   have:=of_decide_eq_true hq.symm
   omega
  ·have p1:¬ (op=23∧(1:Int)=0):=by omega
   subst h1
   refine a0p.h0c ?_
   refine SSp.to a4e (n:=60) (g:=gt4) 1 1 rfl (σ:={q:Bool // q=decide (((op=8∨op=9)∧(1:Int)=2)∨(op=23∧(1:Int)=1))}) (fun q=>d9i 1 B q.1) (fun _=>fiH op a b c n nm A B C N s ln cl bd) (a0y (Nat.zero_le _)) (by kernel_rfl) ?_ fun⟨q2,hq2⟩=>?_
   ·rw [g0f]
    by_cases o23:op=23
    ·simp only [show xcm .eql op 23=true from a2i o23,show xcm .eql op 8=false from a2c (by omega),show xcm .eql op 9=false from a2c (by omega),cond_true,cond_false]
     exact⟨rfl,⟨true,by first | (simp; done) | (simp; omega)⟩,[.id 0,.id 1,.id 2,.id 3],by(exact zC)⟩
    by_cases o8:op=8
    ·simp only [show xcm .eql op 23=false from a2c o23,show xcm .eql op 8=true from a2i o8,cond_true,cond_false]
     exact⟨rfl,⟨false,by first | (simp; done) | (simp; omega)⟩,[.id 0,.id 1,.id 2,.id 3],by(exact zC)⟩
    by_cases o9:op=9
    ·simp only [show xcm .eql op 23=false from a2c o23,show xcm .eql op 8=false from a2c o8,show xcm .eql op 9=true from a2i o9,cond_true,cond_false]
     exact⟨rfl,⟨false,by first | (simp; done) | (simp; omega)⟩,[.id 0,.id 1,.id 2,.id 3],by(exact zC)⟩
    ·simp only [show xcm .eql op 23=false from a2c o23,show xcm .eql op 8=false from a2c o8,show xcm .eql op 9=false from a2c o9,cond_true,cond_false]
     exact⟨rfl,⟨false,by first | (simp; done) | (simp; omega)⟩,[.id 0,.id 1,.id 2,.id 3],by(exact zC)⟩
   refine SSp.h0j (by kernel_rfl) ?_
   refine a0p.ways (t:=91) (q:=q2) (by kernel_rfl) rfl (fun h2=>?_) (fun h2=>?_)
   ·have p2:=of_decide_eq_true (hq2.symm.trans h2)
    subst h2
    exact c4k op a b c n nm A B C N s ln cl bd 1 B _ fun v hv=>⟨rfl,⟨v,by rw [c0a,if_neg p1,if_pos p2]; exact hv⟩,[.id 0,.id 1,.id 2,.id 3],by(exact zC)⟩
   ·have p2:=of_decide_eq_false (hq2.symm.trans h2)
    subst h2
    exact c4f op a b c n nm A B C N s ln cl bd 1 B _ fun v hv=>⟨rfl,⟨v,by rw [c0a,if_neg p1,if_neg p2]; exact hv⟩,[.id 0,.id 1,.id 2,.id 3],by(exact zC)⟩
 dsimp only at hv ⊢
 have hf:fnV op 1 s A B C=v:=by rw [fnV,hv]; rfl
 refine SSp.last a4e (n:=60) (a0y (Nat.zero_le _)) ?_
 rw [f9y]
 by_cases h:v < 0
 ·simp only [show xcm .lss v 0=true from a6j h,cond_true]
  have hR:z=LV.tup [inV op a b c n,.bool false]:=by
   have hn:¬ 0≤v:=by omega
   rw [hz]; simp [fiX,fiO,hbd,hf,hn]
  exact⟨trivial,rfl,[inV op a b c n,.bool false],z,[],[],by kernel_rfl,⟨rfl,rfl⟩,by rw [hR]; (exact zC)⟩
 ·simp only [show xcm .lss v 0=false from a6h (by omega),cond_false]
  have hR:z=LV.tup [inV op a v c n,.bool true]:=by
   have hn:0≤v:=by omega
   rw [hz]; simp [fiX,fiO,hbd,hf,hn]
  exact⟨trivial,rfl,[inV op a v c n,.bool true],z,[],[],by kernel_rfl,⟨rfl,rfl⟩,by rw [hR]; (exact zC)⟩
set_option maxHeartbeats 4000000 in
theorem g0b (op a b c n:Int) (nm:List UInt8) (A B C:Int) (N:Bool) (s:List UInt8) (ln cl:Int) (bd:Bool):a0k prog 49 [inV op a b c n,.int .i64 2,roV nm A B C N,rwV s ln cl bd] (mkS [] gt4) fun l st=>l=LV.tup [inV op (fiX 0 op 2 s bd A B C a) (fiX 1 op 2 s bd A B C b) (fiX 2 op 2 s bd A B C c) (fiX 3 op 2 s bd A B C n),.bool (fiO op 2 s bd A B C)]∧st=mkS [] gt4:=by
 obtain⟨z,hz⟩:∃ z,z=LV.tup [inV op (fiX 0 op 2 s bd A B C a) (fiX 1 op 2 s bd A B C b) (fiX 2 op 2 s bd A B C c) (fiX 3 op 2 s bd A B C n),.bool (fiO op 2 s bd A B C)]:=⟨_,rfl⟩
 rw [← hz]
 refine a0k.mono (a0k.h0o (Q:=fun l b=>l=z∧b=[]) 139 0 [.cell 8 42,.tmp 9] fiL (by kernel_rfl) rfl rfl (by kernel_rfl) ?_) fun l s' ⟨b0,⟨h1,h2⟩,h3⟩=>⟨h1,by rw [h3,h2]⟩
 refine SSp.to a4e (n:=60) (g:=gt4) 7 7 rfl (σ:={_u:Unit // bd=false}) (fun _=>fiT 2 C (-1)) (fun _=>fiH op a b c n nm A B C N s ln cl bd) (a0y (Nat.zero_le _)) (by kernel_rfl) ?_ fun⟨_,hbd⟩=>?_
 ·rw [g0t]
  cases bd with
  | true =>
    simp only [cond_true]
    have hR:z=LV.tup [inV op a b c n,.bool false]:=hz
    exact⟨trivial,rfl,[inV op a b c n,.bool false],z,[],[],by kernel_rfl,⟨rfl,rfl⟩,by rw [hR]; (exact zC)⟩
  | false =>
    simp only [cond_false]
    exact⟨rfl,⟨(),rfl⟩,[.id 0,.id 1,.id 2,.id 3],by(exact zC)⟩
 refine SSp.code_to (g:=gt4) 8 rfl (σ:={v:Int // v=c0a op 2 s C}) (fun v=>fiT 2 C v.1) (fun _=>fiH op a b c n nm A B C N s ln cl bd) (by kernel_rfl) ?_ fun⟨v,hv⟩=>?_
 ·refine a0p.h0p 0 (by kernel_rfl) ?_
  refine SSp.to a4e (n:=60) (g:=gt4) 1 1 rfl (σ:={q:Bool // q=decide (op=23∧(2:Int)=0)}) (fun q=>d9j 2 C q.1) (fun _=>fiH op a b c n nm A B C N s ln cl bd) (a0y (Nat.zero_le _)) (by kernel_rfl) ?_ fun⟨q,hq⟩=>?_
  ·rw [g0q]
   by_cases o1:op=23
   ·simp only [show xcm .eql op 23=true from a2i o1,cond_true]
    exact⟨rfl,⟨false,by simp [o1]⟩,[.id 0,.id 1,.id 2,.id 3],by(exact zC)⟩
   ·simp only [show xcm .eql op 23=false from a2c o1,cond_false]
    exact⟨rfl,⟨false,by simp [o1]⟩,[.id 0,.id 1,.id 2,.id 3],by(exact zC)⟩
  refine SSp.h0j (by kernel_rfl) ?_
  refine a0p.ways (t:=71) (q:=q) (by kernel_rfl) rfl (fun h1=>?_) (fun h1=>?_)
  ·subst h1
   have:=of_decide_eq_true hq.symm
   omega
  ·have p1:¬ (op=23∧(2:Int)=0):=by omega
   subst h1
   refine a0p.h0c ?_
   refine SSp.to a4e (n:=60) (g:=gt4) 1 1 rfl (σ:={q:Bool // q=decide (((op=8∨op=9)∧(2:Int)=2)∨(op=23∧(2:Int)=1))}) (fun q=>d9i 2 C q.1) (fun _=>fiH op a b c n nm A B C N s ln cl bd) (a0y (Nat.zero_le _)) (by kernel_rfl) ?_ fun⟨q2,hq2⟩=>?_
   ·rw [g0e]
    by_cases o23:op=23
    ·simp only [show xcm .eql op 23=true from a2i o23,show xcm .eql op 8=false from a2c (by omega),show xcm .eql op 9=false from a2c (by omega),cond_true,cond_false]
     exact⟨rfl,⟨false,by first | (simp; done) | (simp; omega)⟩,[.id 0,.id 1,.id 2,.id 3],by(exact zC)⟩
    by_cases o8:op=8
    ·simp only [show xcm .eql op 23=false from a2c o23,show xcm .eql op 8=true from a2i o8,cond_true,cond_false]
     exact⟨rfl,⟨true,by first | (simp; done) | (simp; omega)⟩,[.id 0,.id 1,.id 2,.id 3],by(exact zC)⟩
    by_cases o9:op=9
    ·simp only [show xcm .eql op 23=false from a2c o23,show xcm .eql op 8=false from a2c o8,show xcm .eql op 9=true from a2i o9,cond_true,cond_false]
     exact⟨rfl,⟨true,by first | (simp; done) | (simp; omega)⟩,[.id 0,.id 1,.id 2,.id 3],by(exact zC)⟩
    ·simp only [show xcm .eql op 23=false from a2c o23,show xcm .eql op 8=false from a2c o8,show xcm .eql op 9=false from a2c o9,cond_true,cond_false]
     exact⟨rfl,⟨false,by first | (simp; done) | (simp; omega)⟩,[.id 0,.id 1,.id 2,.id 3],by(exact zC)⟩
   refine SSp.h0j (by kernel_rfl) ?_
   refine a0p.ways (t:=91) (q:=q2) (by kernel_rfl) rfl (fun h2=>?_) (fun h2=>?_)
   ·have p2:=of_decide_eq_true (hq2.symm.trans h2)
    subst h2
    exact c4k op a b c n nm A B C N s ln cl bd 2 C _ fun v hv=>⟨rfl,⟨v,by rw [c0a,if_neg p1,if_pos p2]; exact hv⟩,[.id 0,.id 1,.id 2,.id 3],by(exact zC)⟩
   ·have p2:=of_decide_eq_false (hq2.symm.trans h2)
    subst h2
    exact c4f op a b c n nm A B C N s ln cl bd 2 C _ fun v hv=>⟨rfl,⟨v,by rw [c0a,if_neg p1,if_neg p2]; exact hv⟩,[.id 0,.id 1,.id 2,.id 3],by(exact zC)⟩
 dsimp only at hv ⊢
 have hf:fnV op 2 s A B C=v:=by rw [fnV,hv]; rfl
 refine SSp.last a4e (n:=60) (a0y (Nat.zero_le _)) ?_
 rw [f9x]
 by_cases h:v < 0
 ·simp only [show xcm .lss v 0=true from a6j h,cond_true]
  have hR:z=LV.tup [inV op a b c n,.bool false]:=by
   have hn:¬ 0≤v:=by omega
   rw [hz]; simp [fiX,fiO,hbd,hf,hn]
  exact⟨trivial,rfl,[inV op a b c n,.bool false],z,[],[],by kernel_rfl,⟨rfl,rfl⟩,by rw [hR]; (exact zC)⟩
 ·simp only [show xcm .lss v 0=false from a6h (by omega),cond_false]
  have hR:z=LV.tup [inV op a b v n,.bool true]:=by
   have hn:0≤v:=by omega
   rw [hz]; simp [fiX,fiO,hbd,hf,hn]
  exact⟨trivial,rfl,[inV op a b v n,.bool true],z,[],[],by kernel_rfl,⟨rfl,rfl⟩,by rw [hR]; (exact zC)⟩
theorem g0a (op a b c n:Int) (nm:List UInt8) (A B C:Int) (N:Bool) (s:List UInt8) (ln cl:Int) (bd:Bool):a0k prog 49 [inV op a b c n,.int .i64 3,roV nm A B C N,rwV s ln cl bd] (mkS [] gt4) fun l st=>l=LV.tup [inV op (fiX 0 op 3 s bd A B C a) (fiX 1 op 3 s bd A B C b) (fiX 2 op 3 s bd A B C c) (fiX 3 op 3 s bd A B C n),.bool (fiO op 3 s bd A B C)]∧st=mkS [] gt4:=by
 obtain⟨z,hz⟩:∃ z,z=LV.tup [inV op (fiX 0 op 3 s bd A B C a) (fiX 1 op 3 s bd A B C b) (fiX 2 op 3 s bd A B C c) (fiX 3 op 3 s bd A B C n),.bool (fiO op 3 s bd A B C)]:=⟨_,rfl⟩
 rw [← hz]
 refine a0k.mono (a0k.h0o (Q:=fun l b=>l=z∧b=[]) 139 0 [.cell 8 42,.tmp 9] fiL (by kernel_rfl) rfl rfl (by kernel_rfl) ?_) fun l s' ⟨b0,⟨h1,h2⟩,h3⟩=>⟨h1,by rw [h3,h2]⟩
 refine SSp.vc a4e (n:=60) (Nat.zero_le _) ?_
 rw [g7u]
 cases bd with
 | true =>
   simp only [cond_true]
   have hR:z=LV.tup [inV op a b c n,.bool false]:=hz
   exact⟨trivial,rfl,[inV op a b c n,.bool false],z,[],[],by kernel_rfl,⟨rfl,rfl⟩,by rw [hR]; (exact zC)⟩
 | false =>
   simp only [cond_false]
   have hR:z=LV.tup [inV op a b c (drN s 18446744073709551615),.bool (drB s 18446744073709551615)]:=by rw [hz]; simp [fiX,fiO]
   exact⟨trivial,rfl,[inV op a b c (drN s 18446744073709551615),.bool (drB s 18446744073709551615)],z,[],[],by kernel_rfl,⟨rfl,rfl⟩,by rw [hR]; (exact zC)⟩
theorem g7s (op a b c n k:Int) (nm:List UInt8) (A B C:Int) (N:Bool) (s:List UInt8) (ln cl:Int) (bd:Bool) (k1:xcm .leq 0 k=true) (k2:xcm .leq k 3=true):a0k prog 49 [inV op a b c n,.int .i64 k,roV nm A B C N,rwV s ln cl bd] (mkS [] gt4) fun l st=>l=LV.tup [inV op (fiX 0 op k s bd A B C a) (fiX 1 op k s bd A B C b) (fiX 2 op k s bd A B C c) (fiX 3 op k s bd A B C n),.bool (fiO op k s bd A B C)]∧st=mkS [] gt4:=by
 rw [a7q,decide_eq_true_eq] at k1 k2
 have:k=0∨k=1∨k=2∨k=3:=by omega
 rcases this with rfl | rfl | rfl | rfl
 ·exact g0d op a b c n nm A B C N s ln cl bd
 ·exact g0c op a b c n nm A B C N s ln cl bd
 ·exact g0b op a b c n nm A B C N s ln cl bd
 ·exact g0a op a b c n nm A B C N s ln cl bd
def fiG:Gc:=fun args s=>match args,s.g with
 | [.agg [.int .i64 op,.int .i64 a,.int .i64 b,.int .i64 c,.int .u64 n],.int .i64 k,.agg [.str nm,.int .i64 A,.int .i64 B,.int .i64 C,.bool N],.agg [.str x,.int .i64 ln,.int .i64 cl,.bool bd]],[(g0,F0),(g1,F1),(g2,F2),(g3,[.fact F])]=>cond (Nat.beq g0 0 && a2x F0 a2h && (Nat.beq g1 2 && a2x F1 a2n) && (Nat.beq g2 1 && a2x F2 a6x) && Nat.beq g3 1000) (match s.lay [] [] [] with
   | some s'=>some ([b6j F,xcm .leq 0 k,xcm .leq k 3],.tup [.agg [.int .i64 op,.int .i64 (fiX 0 op k x bd A B C a),.int .i64 (fiX 1 op k x bd A B C b),.int .i64 (fiX 2 op k x bd A B C c),.int .u64 (fiX 3 op k x bd A B C n)],.bool (fiO op k x bd A B C)],s')
   | none=>none) none
 | _,_=>none
theorem f4u:GOk prog 49 fiG:=by
 intro args s bs l s' hg hb hfr
 unfold fiG at hg
 split at hg
 ·rename_i op a b c n k nm A B C N x ln cl bd g0 F0 g1 F1 g2 F2 g3 F hgl
  cases hc:(Nat.beq g0 0 && a2x F0 a2h && (Nat.beq g1 2 && a2x F1 a2n) && (Nat.beq g2 1 && a2x F2 a6x) && Nat.beq g3 1000) with
  | false=>rw [hc] at hg; cases hg
  | true =>
    rw [hc] at hg
    simp only [cond_true] at hg
    simp only [Bool.and_eq_true] at hc
    replace hgl:s.g=gtF F:=by rw [hgl,Nat.eq_of_beq_eq_true hc.1.1.1.1,a1f hc.1.1.1.2,Nat.eq_of_beq_eq_true hc.1.1.2.1,a1f hc.1.1.2.2,Nat.eq_of_beq_eq_true hc.1.2.1,a1f hc.1.2.2,Nat.eq_of_beq_eq_true hc.2]
    split at hg
    ·rename_i s1 hs1
     simp only [Option.some.injEq,Prod.mk.injEq] at hg
     obtain⟨rfl,rfl,rfl⟩:=hg
     simp only [a0g] at hb
     obtain⟨k1,k2,k3,_⟩:=hb
     have eF:=b3m k1
     subst eF
     refine a0k.lay (bs:=[]) (args0:=[.agg [.int .i64 op,.int .i64 a,.int .i64 b,.int .i64 c,.int .u64 n],.int .i64 k,.agg [.str nm,.int .i64 A,.int .i64 B,.int .i64 C,.bool N],.agg [.str x,.int .i64 ln,.int .i64 cl,.bool bd]]) (bs':=[]) (v0:=.tup [.agg [.int .i64 op,.int .i64 (fiX 0 op k x bd A B C a),.int .i64 (fiX 1 op k x bd A B C b),.int .i64 (fiX 2 op k x bd A B C c),.int .u64 (fiX 3 op k x bd A B C n)],.bool (fiO op k x bd A B C)]) hfr hs1 (by simp)
      trivial (by(exact zTl)) ?_
      fun κ h1 h2=>⟨trivial,a1b rfl⟩
     rw [hgl]; exact(g7s op a b c n k nm A B C N x ln cl bd k2 k3)
    ·cases hg
 ·cases hg
end
end Go.Lev
