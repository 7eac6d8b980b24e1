import Derived.Test.YtnkkkihgljbllaaDoorCP7
import Derived.Test.YtnkkkihgljbllaaDoorLc
import Derived.Test.YtnkkkihgljbllaaDoorChecked
import Derived.KernelRfl
/- text: readIns as a contract; trees of readLine -/
namespace Go.Lev
set_option linter.unusedSimpArgs false
set_option linter.unusedVariables false
open Go.RowKit
open Go.Proofs.Tryd (prog)
set_option maxRecDepth 100000
noncomputable section
def isF (F G:OP):Bool:=@decide (F=G) (Classical.propDecidable _)
theorem d6q {F G:OP} (h:isF F G=true):F=G:=by simpa [isF] using h
theorem c6j {F:OP}:isF F F=true:=by simp [isF]
structure WsP (F:World→Prop) (u:Value) (ws:List Wd):Prop where
 f:FcW F u ws
 n:ws.length≤5000
 b:∀ x∈ws,1≤x.1.length∧x.1.length≤100000
theorem FcW.h0i {F:World→Prop}:∀ {ws ws':List Wd} {u:Value},FcW F u ws→FcW F u ws'→ws=ws'
 | [],[],u,h,h'=>rfl
 | [],x::r,u,h,h'=>by have:=h.len.symm.trans h'.len; simp at this
 | x::r,[],u,h,h'=>by have:=h.len.symm.trans h'.len; simp at this
 | x::r,y::t,u,h,h'=>by
   have a:=h.head.2.2.1.symm.trans h'.head.2.2.1
   simp only [List.cons.injEq,LV.str.injEq,LV.int.injEq,true_and,and_true] at a
   rw [show x=y from Prod.ext a.1 a.2,FcW.h0i h.rest.2 h'.rest.2]
def d1b (F:World→Prop) (u:Value):Bool:=@decide (∃ ws,WsP F u ws) (Classical.propDecidable _)
def f6f (F:World→Prop) (u:Value):List Wd:=@dite _ (∃ ws,WsP F u ws) (Classical.propDecidable _) (fun h=>h.choose) fun _=>[]
theorem b4r {F:World→Prop} {u:Value}:d1b F u=true↔∃ ws,WsP F u ws:=by simp only [d1b,decide_eq_true_eq]
theorem b8g {F:World→Prop} {u:Value} {ws:List Wd} (h:WsP F u ws):f6f F u=ws:=by
 have e:∃ ws,WsP F u ws:=⟨ws,h⟩
 unfold f6f
 rw [dif_pos e]
 exact FcW.h0i e.choose_spec.f h.f
def riV (F:World→Prop) (u:Value) (x:List UInt8) (w e ln:Int) (ax cx:List LV):(Int×Int×Int)×List InX×List MkX:=riZ x w (f6f F u) e ln (inD ax) (mkD cx)
def d5v (F:World→Prop) (u:Value) (x:List UInt8) (w e ln:Int) (ax cx:List LV):Int:=(riV F u x w e ln ax cx).1.1
def d5y (F:World→Prop) (u:Value) (x:List UInt8) (w e ln:Int) (ax cx:List LV):Int:=(riV F u x w e ln ax cx).1.2.1
def d5w (F:World→Prop) (u:Value) (x:List UInt8) (w e ln:Int) (ax cx:List LV):Int:=(riV F u x w e ln ax cx).1.2.2
def d5u (F:World→Prop) (u:Value) (x:List UInt8) (w e ln:Int) (ax cx:List LV):Nat:=(riV F u x w e ln ax cx).2.1.length
def d5z (F:World→Prop) (u:Value) (x:List UInt8) (w e ln:Int) (ax cx:List LV):List LV:=a0f inC (riV F u x w e ln ax cx).2.1
def d5t (F:World→Prop) (u:Value) (x:List UInt8) (w e ln:Int) (ax cx:List LV):Nat:=(riV F u x w e ln ax cx).2.2.length
def d5x (F:World→Prop) (u:Value) (x:List UInt8) (w e ln:Int) (ax cx:List LV):List LV:=a0f mkC (riV F u x w e ln ax cx).2.2
theorem g5k (x:List UInt8) (w e:Int) (u:Value) (F:World→Prop) (ni nl nj:Nat) (ln:Int) (ax bx cx:List LV) (rest:Glb) (k1:b1f ni ax=true) (k2:a5h nl bx=true) (k3:a5h nj cx=true) (k4:d1b F u=true) (k5:ni≤99990) (k6:nj≤99990) :
  a0k prog 61 [.ptr 0 0,.agg [.str x,.int .i64 w],.val u,.int .i64 e] (mkS (psH ni nl nj ln ax bx cx++[.obj stF [.fact F] 5,.dead]) (a1x rest)) fun l st=>l=.agg [.int .i64 (d5v F u x w e ln ax cx),.int .i64 (d5y F u x w e ln ax cx),.int .i64 (d5w F u x w e ln ax cx)]∧st=mkS (riO (d5u F u x w e ln ax cx) nl (d5t F u x w e ln ax cx) ln (d5z F u x w e ln ax cx) bx (d5x F u x w e ln ax cx) F) (a1x rest):=by
 obtain⟨I,rfl,rfl,hI⟩:=b0e.1 k1
 obtain⟨J,rfl,rfl,hJ⟩:=a4y.1 k3
 obtain⟨ws,hw⟩:=b4r.1 k4
 simp only [d5v,d5y,d5w,d5u,d5z,d5t,d5x,riV,b8g hw,a9a,a5q]
 exact f8m x w e u ws F nl ln bx I J rest hw.f (fun y hy=>(hw.b y hy).2) k5 k6 k2
def riG:Gc:=fun args s=>match args,s.g with
 | [.ptr p 0,.agg [.str x,.int .i64 w],.val u,.int .i64 e],(g0,F0)::(g1,F1)::rest=>cond (Nat.beq g0 0 && a2x F0 a2h && (Nat.beq g1 2 && a2x F1 a2n)) (match storeAt s with
   | some d=>(match s.h.get p with
     | some (.cells [.slo a 0 ni 0,.slo b 0 nl 0,.slo c 0 nj 0,.int .i64 ln] none)=>(match s.h.get a with
       | some (.cells ax (some 5))=>(match s.h.get b with
         | some (.cells bx (some 4))=>(match s.h.get c with
           | some (.cells cx (some 4))=>(match s.h.get d with
             | some (.obj F_d [.fact F] z9)=>(match s.h.get z9 with
               | some (.dead)=>cond (a3q [p,a,b,c,d,z9]) (match s.lay [p,a,b,c,d,z9] [.cells [.slo s.n 0 (d5u F u x w e ln ax cx) 0,.slo b 0 nl 0,.slo (Nat.succ s.n) 0 (d5t F u x w e ln ax cx) 0,.int .i64 ln] none,.dead,.cells bx (some 4),.dead,.obj stF [.fact F] z9,.dead] [.cells (d5z F u x w e ln ax cx) (some 5),.cells (d5x F u x w e ln ax cx) (some 4)] with
                 | some s'=>some ([b1f ni ax,a5h nl bx,a5h nj cx,d1b F u,xle ni 99990,xle nj 99990,isF F_d stF],.agg [.int .i64 (d5v F u x w e ln ax cx),.int .i64 (d5y F u x w e ln ax cx),.int .i64 (d5w F u x w e ln ax cx)],s')
                 | none=>none) none
               | _=>none)
             | _=>none)
           | _=>none)
         | _=>none)
       | _=>none)
     | _=>none)
   | none=>none) none
 | _,_=>none
theorem f2p:GOk prog 61 riG:=by
 intro args s bs l s' hg hb hfr
 unfold riG at hg
 split at hg
 ·rename_i p x w u e g0 F0 g1 F1 rest hgl
  cases hc:(Nat.beq g0 0 && a2x F0 a2h && (Nat.beq g1 2 && a2x F1 a2n)) with
  | false=>rw [hc] at hg; cases hg
  | true =>
    rw [hc] at hg
    simp only [cond_true] at hg
    rw [Bool.and_eq_true] at hc
    replace hgl:s.g=a1x rest:=by(have c1:=Bool.and_eq_true_iff.1 hc.1; have c2:=Bool.and_eq_true_iff.1 hc.2; rw [hgl,Nat.eq_of_beq_eq_true c1.1,a1f c1.2,Nat.eq_of_beq_eq_true c2.1,a1f c2.2] <;> rfl)
    split at hg
    ·rename_i d hfd
     split at hg
     ·rename_i a ni b nl c nj ln hb0
      split at hg
      ·rename_i ax hb1
       split at hg
       ·rename_i bx hb2
        split at hg
        ·rename_i cx hb3
         split at hg
         ·rename_i F_d F z9 hb4
          split at hg
          ·rename_i  hb5
           cases hbc:a3q [p,a,b,c,d,z9] with
           | false=>rw [hbc] at hg; cases hg
           | true =>
             rw [hbc] at hg
             simp only [cond_true] at hg
             split at hg
             ·rename_i s1 hs1
              simp only [Option.some.injEq,Prod.mk.injEq] at hg
              obtain⟨rfl,rfl,rfl⟩:=hg
              simp only [a0g] at hb
              obtain⟨k1,k2,k3,k4,k5,k6,k7,_⟩:=hb
              have e_d:=d6q k7
              subst e_d
              have n1:=a8r k1; have n2:=a3u k2; have n3:=a3u k3; have n4:=a1z (riV F u x w e ln ax cx).2.1; have n5:=a1l (riV F u x w e ln ax cx).2.2
              refine a0k.lay (bs:=[.cells [.slo 1 0 ni 0,.slo 2 0 nl 0,.slo 3 0 nj 0,.int .i64 ln] none,.cells ax (some 5),.cells bx (some 4),.cells cx (some 4),.obj stF [.fact F] 5,.dead]) (args0:=[.ptr 0 0,.agg [.str x,.int .i64 w],.val u,.int .i64 e]) (bs':=[.cells [.slo 6 0 (d5u F u x w e ln ax cx) 0,.slo 2 0 nl 0,.slo 7 0 (d5t F u x w e ln ax cx) 0,.int .i64 ln] none,.dead,.cells bx (some 4),.dead,.obj stF [.fact F] 5,.dead,.cells (d5z F u x w e ln ax cx) (some 5),.cells (d5x F u x w e ln ax cx) (some 4)]) (v0:=.agg [.int .i64 (d5v F u x w e ln ax cx),.int .i64 (d5y F u x w e ln ax cx),.int .i64 (d5w F u x w e ln ax cx)]) hfr hs1 (a4t hbc)
               ⟨⟨a3j hfr hb0,_,hb0,by first | exact a0e rfl | exact a0o (a0d (a0n rfl) (a0d (a0n rfl) (a0d (a0n rfl) (a0d (a1u) a0u)))) (by simp),fun κ hκ=>a0o (a0d (a0n (hκ 1 a rfl)) (a0d (a0n (hκ 2 b rfl)) (a0d (a0n (hκ 3 c rfl)) (a0d (a1u) a0u)))) (by simp)⟩,⟨a3j hfr hb1,_,hb1,a0e (by(exact zId)),fun κ hκ=>a0e (by(exact zId))⟩,⟨a3j hfr hb2,_,hb2,a0e (by(exact zId)),fun κ hκ=>a0e (by(exact zId))⟩,⟨a3j hfr hb3,_,hb3,a0e (by(exact zId)),fun κ hκ=>a0e (by(exact zId))⟩,⟨a3j hfr hb4,_,hb4,a2m rfl,fun κ hκ=>a2m (hκ 5 z9 rfl)⟩,⟨a3j hfr hb5,_,hb5,a1e,fun κ hκ=>a1e⟩,trivial⟩ (by(exact zTl)) ?_
               fun κ h1 h2=>⟨⟨a0o (a0d (a0n (h2 0 (by simp))) (a0d (a0n (h1 2 b rfl)) (a0d (a0n (h2 1 (by simp))) (a0d (a1u) a0u)))) (by simp),a1e,a0e (by(exact zId)),a1e,a2m (h1 5 z9 rfl),a1e,a0e (n4),a0e (n5),trivial⟩,a1b rfl⟩
              rw [hgl]; exact(g5k x w e u F ni nl nj ln ax bx cx rest k1 k2 k3 k4 (a2a.1 k5) (a2a.1 k6))
             ·cases hg
          ·cases hg
         ·cases hg
        ·cases hg
       ·cases hg
      ·cases hg
     ·cases hg
    ·cases hg
 ·cases hg
def g2r:Cx:=cxl [(59,rlG),(61,riG)]
abbrev rnL:List Nat:=[4]
theorem d9r:a3w prog (a2z g2r):=a6i ⟨f2n,f2p,trivial⟩
abbrev c4b (nl:Nat) (ln:Int) (ax:List LV) (bx:List LV) (cx:List LV) (F:World→Prop) (v:Value) (e:Int):List (Option LB):=[sN [.slo 8 0 (d5u F (a2j v 2 1) (asS (a0b (a0i F v 0 2) 0)) (asI (a0b (a0i F v 0 2) 1)) e ln ax cx) 0,.slo 2 0 nl 0,.slo 9 0 (d5t F (a2j v 2 1) (asS (a0b (a0i F v 0 2) 0)) (asI (a0b (a0i F v 0 2) 1)) e ln ax cx) 0,.int .i64 ln],sD,sC bx 4,sD,some (.obj stF [.fact F] 5),sD,sN [.val v,.int .i64 e],sN [.int .i64 (d5v F (a2j v 2 1) (asS (a0b (a0i F v 0 2) 0)) (asI (a0b (a0i F v 0 2) 1)) e ln ax cx),.int .i64 (d5y F (a2j v 2 1) (asS (a0b (a0i F v 0 2) 0)) (asI (a0b (a0i F v 0 2) 1)) e ln ax cx),.int .i64 (d5w F (a2j v 2 1) (asS (a0b (a0i F v 0 2) 0)) (asI (a0b (a0i F v 0 2) 1)) e ln ax cx)],sC (d5z F (a2j v 2 1) (asS (a0b (a0i F v 0 2) 0)) (asI (a0b (a0i F v 0 2) 1)) e ln ax cx) 5,sC (d5x F (a2j v 2 1) (asS (a0b (a0i F v 0 2) 0)) (asI (a0b (a0i F v 0 2) 1)) e ln ax cx) 4]
abbrev d0h (ni:Nat) (nl:Nat) (nj:Nat) (ln:Int) (ax:List LV) (bx:List LV) (cx:List LV) (F:World→Prop) (v:Value) (e:Int):List (Option LB):=[sN [.slo 1 0 ni 0,.slo 2 0 nl 0,.slo 3 0 nj 0,.int .i64 ln],sC ax 5,sC bx 4,sC cx 4,some (.obj stF [.fact F] 5),sD,sN [.val v,.int .i64 e],sN [.int .i64 0,.int .i64 0,.int .i64 0]]
theorem g5g (ni nl nj:Nat) (ln:Int) (ax bx cx:List LV) (F:World→Prop) (v:Value) (e:Int) (rest:Glb) (K:Pk):(xsp prog g2r 40 45 ((sp prog 47).drop 0) (tm0 [.ptr 0 0,.agg [.val v,.int .i64 e]]) (mkS (psH ni nl nj ln ax bx cx++[.obj stF [.fact F] 5,.dead]) (a1x rest)) (vK rnL K))=(
 bif xcm .gtr (↑(xvl v)) 0 then(
 ck (b7a v 0) <|
 ck (a7o F v 0 1) <|
 ck (xle 1 (xln (a0i F v 0 1))) <|
 ck (isS (a0b (a0i F v 0 1) 0)) <|
 ck (xnn (xar .sub .i64 (↑(a0z (asS (a0b (a0i F v 0 1) 0)))) 1)) <|
 ck (xle (a0a (a0c (xar .sub .i64 (↑(a0z (asS (a0b (a0i F v 0 1) 0)))) 1)) 1) (a0z (asS (a0b (a0i F v 0 1) 0)))) <|
 bif xcm .eql (a1i (asS (a0b (a0i F v 0 1) 0)) (a0c (xar .sub .i64 (↑(a0z (asS (a0b (a0i F v 0 1) 0)))) 1))) 58 then(
 ck (b7a v 0) <|
 ck (a7o F v 0 2) <|
 ck (xle 2 (xln (a0i F v 0 2))) <|
 ck (isS (a0b (a0i F v 0 2) 0)) <|
 ck (isI .i64 (a0b (a0i F v 0 2) 1)) <|
 ck (b1f ni ax) <|
 ck (a5h nl bx) <|
 ck (a5h nj cx) <|
 ck (xle 1 (a0z (asS (a0b (a0i F v 0 2) 0)))) <|
 ck (xle (a0z (asS (a0b (a0i F v 0 2) 0))) 100000) <|
 bif a3i (rlB bx (asS (a0b (a0i F v 0 2) 0))) then(
 ck (b7a v 0) <|
 ck (a7o F v 1 1) <|
 ck (xle 1 (xln (a0i F v 1 1))) <|
 ck (isI .i64 (a0b (a0i F v 1 1) 0)) <|
 K .ret [.ptr 7 0] [sN [.slo 1 0 ni 0,.slo 8 0 (rlM nl bx (asS (a0b (a0i F v 0 2) 0))) 0,.slo 3 0 nj 0,.int .i64 ln],sC ax 5,sD,sC cx 4,some (.obj stF [.fact F] 5),sD,sN [.val v,.int .i64 e],sN [.int .i64 ln,.int .i64 (asI (a0b (a0i F v 1 1) 0)),.int .i64 12],sC (rlW bx (asS (a0b (a0i F v 0 2) 0)) ni) 4,sN [.int .i64 ln,.int .i64 (asI (a0b (a0i F v 1 1) 0)),.int .i64 12]] (a1x rest))
 else(
 ck (c8r v 1) <|
 bif xcm .eql (↑(xvl (a2j v 2 1))) 0 then(
 K .ret [.ptr 7 0] [sN [.slo 1 0 ni 0,.slo 8 0 (rlM nl bx (asS (a0b (a0i F v 0 2) 0))) 0,.slo 3 0 nj 0,.int .i64 ln],sC ax 5,sD,sC cx 4,some (.obj stF [.fact F] 5),sD,sN [.val v,.int .i64 e],sN [.int .i64 0,.int .i64 0,.int .i64 0],sC (rlW bx (asS (a0b (a0i F v 0 2) 0)) ni) 4] (a1x rest))
 else(
 ck (b7a (a2j v 2 1) 0) <|
 ck (a7o F (a2j v 2 1) 0 2) <|
 ck (xle 2 (xln (a0i F (a2j v 2 1) 0 2))) <|
 ck (isS (a0b (a0i F (a2j v 2 1) 0 2) 0)) <|
 ck (isI .i64 (a0b (a0i F (a2j v 2 1) 0 2) 1)) <|
 ck (c8r (a2j v 2 1) 1) <|
 ck (b1f ni ax) <|
 ck (a5h (rlM nl bx (asS (a0b (a0i F v 0 2) 0))) (rlW bx (asS (a0b (a0i F v 0 2) 0)) ni)) <|
 ck (a5h nj cx) <|
 ck (d1b F (a2j (a2j v 2 1) 2 1)) <|
 ck (xle ni 99990) <|
 ck (xle nj 99990) <|
 ck (isF stF stF) <|
 K .ret [.ptr 7 0] [sN [.slo 9 0 (d5u F (a2j (a2j v 2 1) 2 1) (asS (a0b (a0i F (a2j v 2 1) 0 2) 0)) (asI (a0b (a0i F (a2j v 2 1) 0 2) 1)) e ln ax cx) 0,.slo 8 0 (rlM nl bx (asS (a0b (a0i F v 0 2) 0))) 0,.slo 10 0 (d5t F (a2j (a2j v 2 1) 2 1) (asS (a0b (a0i F (a2j v 2 1) 0 2) 0)) (asI (a0b (a0i F (a2j v 2 1) 0 2) 1)) e ln ax cx) 0,.int .i64 ln],sD,sD,sD,some (.obj stF [.fact F] 5),sD,sN [.val v,.int .i64 e],sN [.int .i64 (d5v F (a2j (a2j v 2 1) 2 1) (asS (a0b (a0i F (a2j v 2 1) 0 2) 0)) (asI (a0b (a0i F (a2j v 2 1) 0 2) 1)) e ln ax cx),.int .i64 (d5y F (a2j (a2j v 2 1) 2 1) (asS (a0b (a0i F (a2j v 2 1) 0 2) 0)) (asI (a0b (a0i F (a2j v 2 1) 0 2) 1)) e ln ax cx),.int .i64 (d5w F (a2j (a2j v 2 1) 2 1) (asS (a0b (a0i F (a2j v 2 1) 0 2) 0)) (asI (a0b (a0i F (a2j v 2 1) 0 2) 1)) e ln ax cx)],sC (rlW bx (asS (a0b (a0i F v 0 2) 0)) ni) 4,sC (d5z F (a2j (a2j v 2 1) 2 1) (asS (a0b (a0i F (a2j v 2 1) 0 2) 0)) (asI (a0b (a0i F (a2j v 2 1) 0 2) 1)) e ln ax cx) 5,sC (d5x F (a2j (a2j v 2 1) 2 1) (asS (a0b (a0i F (a2j v 2 1) 0 2) 0)) (asI (a0b (a0i F (a2j v 2 1) 0 2) 1)) e ln ax cx) 4] (a1x rest))))
 else(
 bif xcm .eql (↑(xvl v)) 0 then(
 K .ret [.ptr 7 0] (d0h ni nl nj ln ax bx cx F v e) (a1x rest))
 else(
 ck (b7a v 0) <|
 ck (a7o F v 0 2) <|
 ck (xle 2 (xln (a0i F v 0 2))) <|
 ck (isS (a0b (a0i F v 0 2) 0)) <|
 ck (isI .i64 (a0b (a0i F v 0 2) 1)) <|
 ck (c8r v 1) <|
 ck (b1f ni ax) <|
 ck (a5h nl bx) <|
 ck (a5h nj cx) <|
 ck (d1b F (a2j v 2 1)) <|
 ck (xle ni 99990) <|
 ck (xle nj 99990) <|
 ck (isF stF stF) <|
 K .ret [.ptr 7 0] (c4b nl ln ax bx cx F v e) (a1x rest))))
 else(
 bif xcm .eql (↑(xvl v)) 0 then(
 K .ret [.ptr 7 0] (d0h ni nl nj ln ax bx cx F v e) (a1x rest))
 else(
 ck (b7a v 0) <|
 ck (a7o F v 0 2) <|
 ck (xle 2 (xln (a0i F v 0 2))) <|
 ck (isS (a0b (a0i F v 0 2) 0)) <|
 ck (isI .i64 (a0b (a0i F v 0 2) 1)) <|
 ck (c8r v 1) <|
 ck (b1f ni ax) <|
 ck (a5h nl bx) <|
 ck (a5h nj cx) <|
 ck (d1b F (a2j v 2 1)) <|
 ck (xle ni 99990) <|
 ck (xle nj 99990) <|
 ck (isF stF stF) <|
 K .ret [.ptr 7 0] (c4b nl ln ax bx cx F v e) (a1x rest)))):=by kernel_rfl
end
end Go.Lev
/- text: readLine -/
namespace Go.Lev
set_option linter.unusedSimpArgs false
set_option linter.unusedVariables false
open Go.RowKit
open Go.Proofs.Tryd (prog)
set_option maxRecDepth 100000
noncomputable section
def isL (x:List UInt8):Bool:=xcm .eql (a1i x (x.length - 1)) 58
def rnZ (L:LnS) (ln:Int) (I:List InX) (B J:List MkX):(Int×Int×Int)×List InX×List MkX×List MkX :=
 match L.ws with
 | []=>((0,0,0),I,B,J)
 | v::ws=>if isL v.1 then
    if rlB (a0f mkC B) v.1=false then((ln,v.2,12),I,B,J)
    else match ws with
     | []=>((0,0,0),I,B++[⟨rlS v.1,I.length,0,0⟩],J)
     | v2::ws2=>((riZ v2.1 v2.2 ws2 L.e ln I J).1,(riZ v2.1 v2.2 ws2 L.e ln I J).2.1,B++[⟨rlS v.1,I.length,0,0⟩],(riZ v2.1 v2.2 ws2 L.e ln I J).2.2)
   else((riZ v.1 v.2 ws L.e ln I J).1,(riZ v.1 v.2 ws L.e ln I J).2.1,B,(riZ v.1 v.2 ws L.e ln I J).2.2)
abbrev rnO (ni nl nj:Nat) (ln:Int) (ax bx cx:List LV) (F:World→Prop):List LB:=[.cells [.slo 6 0 ni 0,.slo 7 0 nl 0,.slo 8 0 nj 0,.int .i64 ln] none,.dead,.dead,.dead,.obj stF [.fact F] 5,.dead,.cells ax (some 5),.cells bx (some 4),.cells cx (some 4)]
theorem f2l (B:List MkX) (x:List UInt8) (ni:Nat) (h:rlB (a0f mkC B) x=true):rlW (a0f mkC B) x ni=a0f mkC (B++[⟨rlS x,ni,0,0⟩])∧rlM B.length (a0f mkC B) x=(B++[(⟨rlS x,ni,0,0⟩:MkX)]).length:=by
 unfold rlW rlM
 rw [h,a1r]
 exact⟨rfl,by simp⟩
theorem d8c (B:List MkX) (x:List UInt8) (ni:Nat) (h:rlB (a0f mkC B) x=false):rlW (a0f mkC B) x ni=a0f mkC B∧rlM B.length (a0f mkC B) x=B.length:=by
 unfold rlW rlM
 rw [h]
 exact⟨rfl,rfl⟩
set_option maxHeartbeats 8000000 in
theorem f8j (F:World→Prop) (v:Value) (L:LnS) (ln:Int) (I:List InX) (B J:List MkX) (rest:Glb) (hf:WsP F v L.ws) (hI:I.length≤99980) (hB:B.length≤99980) (hJ:J.length≤99980) :
  a0k prog 47 [.ptr 0 0,.agg [.val v,.int .i64 L.e]] (mkS (psH I.length B.length J.length ln (a0f inC I) (a0f mkC B) (a0f mkC J)++[.obj stF [.fact F] 5,.dead]) (a1x rest)) fun l st=>l=flt (rnZ L ln I B J).1∧st=mkS (rnO (rnZ L ln I B J).2.1.length (rnZ L ln I B J).2.2.1.length (rnZ L ln I B J).2.2.2.length ln (a0f inC (rnZ L ln I B J).2.1) (a0f mkC (rnZ L ln I B J).2.2.1) (a0f mkC (rnZ L ln I B J).2.2.2) F) (a1x rest):=by
 obtain⟨z,hz⟩:∃ z,z=rnZ L ln I B J:=⟨_,rfl⟩
 rw [← hz]
 refine a0k.mono (a0k.h0d (Q:=fun l b=>l=flt z.1∧b=rnO z.2.1.length z.2.2.1.length z.2.2.2.length ln (a0f inC z.2.1) (a0f mkC z.2.2.1) (a0f mkC z.2.2.2) F) 45 6 4 77 rnL (by kernel_rfl) rfl rfl rfl ?_) fun l s' ⟨b0,⟨h1,h2⟩,h3⟩=>⟨h1,by rw [h3,h2]⟩
 refine SSp.vc d9r (n:=40) (Nat.le_of_ble_eq_true rfl) ?_
 rw [g5g]; simp only [c4b]
 have na:=a1z I; have nb:=a1l B; have nc:=a1l J
 have k1:b1f I.length (a0f inC I)=true:=b4t (by omega)
 have k2:a5h B.length (a0f mkC B)=true:=a5y (by omega)
 have k3:a5h J.length (a0f mkC J)=true:=a5y (by omega)
 have wS:∀ y,asS (.str y)=y:=fun _=>rfl
 have wB:∀ y,isS (.str y)=true:=fun _=>rfl
 have w0:∀ (a b:LV),a0b [a,b] 0=a:=fun _ _=>rfl
 have w1:∀ (a b:LV),a0b [a,b] 1=b:=fun _ _=>rfl
 have w2:∀ (a:LV),a0b [a] 0=a:=fun _=>rfl
 have l2:∀ (a b:LV),xln [a,b]=2:=fun _ _=>rfl
 have l1:∀ (a:LV),xln [a]=1:=fun _=>rfl
 have z1:xle 1 1=true:=rfl
 have z2:xle 2 2=true:=rfl
 have i9:xle I.length 99990=true:=a1n (by omega)
 have j9:xle J.length 99990=true:=a1n (by omega)
 have fs:isF stF stF=true:=c6j
 obtain⟨ws,le⟩:=L
 obtain⟨hfc,hn,hb⟩:=hf
 dsimp only at hfc hn hb hz ⊢
 have ins:∀ (u:Value) (y:Wd) (t:List Wd),FcW F u (y::t)→(∀ a∈(y::t),1≤a.1.length∧a.1.length≤100000)→(y::t).length≤5000→d1b F (a2j u 2 1)=true∧riV F (a2j u 2 1) y.1 y.2 le ln (a0f inC I) (a0f mkC J)=riZ y.1 y.2 t le ln I J:=fun u y t h1 h2 h3=>by
  have hw:WsP F (a2j u 2 1) t:=⟨h1.rest.2,by simp at h3; omega,fun a ha=>h2 a (by simp [ha])⟩
  exact⟨b4r.2 ⟨t,hw⟩,by rw [riV,b8g hw,a9a,a5q]⟩
 cases ws with
 | nil =>
   have hl:=hfc.len
   simp only [rnZ] at hz
   subst hz
   simp only [hl,List.length_nil,show xcm .gtr ((0:Nat):Int) 0=false from a7e (Int.le_refl _),show xcm .eql ((0:Nat):Int) 0=true from a2i rfl,cond_true,cond_false]
   exact⟨trivial,rfl,7,_,_,flt (0,0,0),flt (0,0,0),rnO I.length B.length J.length ln (a0f inC I) (a0f mkC B) (a0f mkC J) F,[.id 0,.id 1,.id 2,.id 3,.id 4,.id 5,.id 1,.id 2,.id 3],rfl,rfl,by kernel_rfl,⟨rfl,rfl⟩,by(exact zC)⟩
 | cons x ws =>
   have hl:=hfc.len
   obtain⟨c1,c2,c3,c4,c5,c6,c7⟩:=hfc.head
   obtain⟨r1,r2⟩:=hfc.rest
   obtain⟨hx1,hx2⟩:=hb x (by simp)
   have e1:xar .sub .i64 ((a0z x.1:Nat):Int) 1=((x.1.length - 1:Nat):Int):=by
    show xar .sub .i64 ((x.1.length:Nat):Int) 1=_
    rw [c3u (show _≤((x.1.length:Nat):Int) - 1 by omega) (show((x.1.length:Nat):Int) - 1≤_ by omega)]; omega
   have b1:xle (x.1.length - 1+1) (a0z x.1)=true:=a1n (show x.1.length - 1+1≤x.1.length by omega)
   have b2:xle 1 (a0z x.1)=true:=a1n hx1
   have b3:xle (a0z x.1) 100000=true:=a1n hx2
   simp only [hl,c1,c6,c7,w2,l1,z1,wS,wB,e1,a2w,c9p,a1o,b1,show xcm .gtr (((x::ws).length:Nat):Int) 0=true from a7w (by first | (simp; done) | (simp; omega)),show xcm .eql (((x::ws).length:Nat):Int) 0=false from a2c (by simp; omega),cond_true,cond_false]
   cases hi:isL x.1 with
   | true =>
     simp only [show xcm .eql (a1i x.1 (x.1.length - 1)) 58=true from hi,cond_true]
     simp only [rnZ,hi,if_true] at hz
     simp only [c2,c3,c4,c5,r1,w0,w1,w2,l1,l2,z1,z2,wS,wB,a2q,a3d,decide_true,k1,k2,k3,b2,b3,cond_true]
     cases hq:rlB (a0f mkC B) x.1 with
     | false =>
       rw [if_pos hq] at hz
       obtain⟨q1,q2⟩:=d8c B x.1 I.length hq
       simp only [show a3i false=true from rfl,q1,q2,cond_true]
       subst hz
       exact⟨trivial,rfl,7,_,_,flt (ln,x.2,12),flt (ln,x.2,12),rnO I.length B.length J.length ln (a0f inC I) (a0f mkC B) (a0f mkC J) F,[.id 0,.id 1,.id 2,.id 3,.id 4,.id 5,.id 1,.id 8,.id 3],rfl,rfl,by kernel_rfl,⟨rfl,rfl⟩,by(exact zC)⟩
     | true =>
       rw [if_neg (by rw [hq]; simp)] at hz
       obtain⟨q1,q2⟩:=f2l B x.1 I.length hq
       have nb2:=a1l (B++[⟨rlS x.1,I.length,0,0⟩])
       have k4:a5h (B++[(⟨rlS x.1,I.length,0,0⟩:MkX)]).length (a0f mkC (B++[⟨rlS x.1,I.length,0,0⟩]))=true:=a5y (by simp; omega)
       simp only [show a3i true=false from rfl,q1,q2,cond_false]
       have hl2:=r2.len
       cases ws with
       | nil =>
         simp only [hl2,List.length_nil,show xcm .eql ((0:Nat):Int) 0=true from a2i rfl,cond_true]
         dsimp only at hz
         subst hz
         exact⟨trivial,rfl,7,_,_,flt (0,0,0),flt (0,0,0),rnO I.length (B++[(⟨rlS x.1,I.length,0,0⟩:MkX)]).length J.length ln (a0f inC I) (a0f mkC (B++[⟨rlS x.1,I.length,0,0⟩])) (a0f mkC J) F,[.id 0,.id 1,.id 2,.id 3,.id 4,.id 5,.id 1,.id 8,.id 3],rfl,rfl,by kernel_rfl,⟨rfl,rfl⟩,by(exact zC)⟩
       | cons y t =>
         obtain⟨d1,d2,d3,d4,d5,d6,d7⟩:=r2.head
         obtain⟨s1,s2⟩:=r2.rest
         obtain⟨i1,i2⟩:=ins (a2j v 2 1) y t r2 (fun a ha=>hb a (by simp at ha ⊢; right; exact ha)) (by simp at hn ⊢; omega)
         have n4:=a1z (riZ y.1 y.2 t le ln I J).2.1; have n5:=a1l (riZ y.1 y.2 t le ln I J).2.2
         simp only [hl2,show xcm .eql (((y::t).length:Nat):Int) 0=false from a2c (by simp; omega),d1,d2,d3,s1,w0,w1,l2,z2,wS,wB,a2q,a3d,decide_true,k1,k3,k4,i1,i9,j9,fs,d5v,d5y,d5w,d5u,d5z,d5t,d5x,i2,cond_true,cond_false]
         dsimp only at hz
         subst hz
         exact⟨trivial,rfl,7,_,_,flt (riZ y.1 y.2 t le ln I J).1,flt (riZ y.1 y.2 t le ln I J).1,rnO (riZ y.1 y.2 t le ln I J).2.1.length (B++[(⟨rlS x.1,I.length,0,0⟩:MkX)]).length (riZ y.1 y.2 t le ln I J).2.2.length ln (a0f inC (riZ y.1 y.2 t le ln I J).2.1) (a0f mkC (B++[⟨rlS x.1,I.length,0,0⟩])) (a0f mkC (riZ y.1 y.2 t le ln I J).2.2) F,[.id 0,.id 1,.id 2,.id 3,.id 4,.id 5,.id 9,.id 8,.id 10],rfl,rfl,by kernel_rfl,⟨rfl,rfl⟩,by(exact zC)⟩
   | false =>
     simp only [show xcm .eql (a1i x.1 (x.1.length - 1)) 58=false from hi,cond_false]
     simp only [rnZ,hi,Bool.false_eq_true,if_false] at hz
     obtain⟨i1,i2⟩:=ins v x ws hfc hb hn
     have n4:=a1z (riZ x.1 x.2 ws le ln I J).2.1; have n5:=a1l (riZ x.1 x.2 ws le ln I J).2.2
     simp only [c2,c3,r1,w0,w1,l2,z2,wS,wB,a2q,a3d,decide_true,k1,k2,k3,i1,i9,j9,fs,d5v,d5y,d5w,d5u,d5z,d5t,d5x,i2,cond_true,cond_false]
     subst hz
     exact⟨trivial,rfl,7,_,_,flt (riZ x.1 x.2 ws le ln I J).1,flt (riZ x.1 x.2 ws le ln I J).1,rnO (riZ x.1 x.2 ws le ln I J).2.1.length B.length (riZ x.1 x.2 ws le ln I J).2.2.length ln (a0f inC (riZ x.1 x.2 ws le ln I J).2.1) (a0f mkC B) (a0f mkC (riZ x.1 x.2 ws le ln I J).2.2) F,[.id 0,.id 1,.id 2,.id 3,.id 4,.id 5,.id 8,.id 2,.id 9],rfl,rfl,by kernel_rfl,⟨rfl,rfl⟩,by(exact zC)⟩
end
end Go.Lev
/- text: aim; readLine as a contract -/
namespace Go.Lev
set_option linter.unusedSimpArgs false
set_option linter.unusedVariables false
open Go.RowKit
open Go.Proofs.Tryd (prog)
set_option maxRecDepth 100000
noncomputable section
def d3n (I:List InX) (n:Nat) (pl:Int):List InX:=match I[n]? with
 | some x=>I.set n { x with c:=pl }
 | none=>I
theorem b8n (I:List InX) (n:Nat) (pl:Int):(d3n I n pl).length=I.length:=by unfold d3n; split <;> simp
theorem c5y {I:List InX} {n:Nat} {pl:Int} (h:n < I.length):b7d (a0f inC I) (n * 5+3) [.int .i64 pl]=a0f inC (d3n I n pl):=by
 unfold d3n
 rw [List.getElem?_eq_getElem h]
 exact d2s d2d (y:={ I[n] with c:=pl }) h (j:=3) (by omega) rfl
def b4f (B:List MkX):List MkX→List InX→(Int×Int×Int)×List InX
 | [],I=>((0,0,0),I)
 | j::r,I=>match b0v B j.nm with
   | none=>((j.ln,j.cl,12),I)
   | some pl=>b4f B r (d3n I j.pl.toNat pl)
def JOk (I:List InX) (J:List MkX):Prop:=∀ j∈J,0≤j.pl∧j.pl < (I.length:Int)
theorem c2w {B L:List MkX} {I:List InX} {i:Nat} (h:i < L.length):b4f B (L.drop i) I=match b0v B L[i].nm with
  | none=>((L[i].ln,L[i].cl,12),I)
  | some pl=>b4f B (L.drop (i+1)) (d3n I L[i].pl.toNat pl):=by
 rw [List.drop_eq_getElem_cons h]; rfl
def f6u:Cx:=cxl [(62,d4t)]
abbrev aiL:List Nat:=[0,2,10,11,12]
abbrev aiT (nj i:Nat):List (Nat×LV):=[(0,.ptr 0 0),(2,.ptr 4 0),(10,.slo 3 0 nj 0),(11,.int .i64 nj),(12,.int .i64 i)]
abbrev aiH (ni nl nj:Nat) (ln:Int) (ax bx cx:List LV):List LB:=psH ni nl nj ln ax bx cx++[.cells [.int .i64 0,.int .i64 0,.int .i64 0] none]
theorem c5f:a3w prog (a2z f6u):=a6i ⟨c6n,trivial⟩
theorem g9d (ni nl nj:Nat) (ln:Int) (ax bx cx:List LV) (rest:Glb) (K:Pk):(xsp prog f6u 40 41 (seg (sp prog 48) 0 2) (tm0 [.ptr 0 0]) (mkS (psH ni nl nj ln ax bx cx) (a1x rest)) (vK aiL K))=(
 K .normal [.ptr 0 0,.ptr 4 0,.slo 3 0 nj 0,.int .i64 ↑nj,.int .i64 0] [sN [.slo 1 0 ni 0,.slo 2 0 nl 0,.slo 3 0 nj 0,.int .i64 ln],sC ax 5,sC bx 4,sC cx 4,sN [.int .i64 0,.int .i64 0,.int .i64 0]] (a1x rest)):=by kernel_rfl
theorem g9b (ni nl nj i:Nat) (ln:Int) (ax bx cx:List LV) (rest:Glb) (K:Pk):(a1h prog f6u 40 41 (a1w (a4i (sp prog 48) 2)) (a1p 41 (aiT nj i)) (mkS (aiH ni nl nj ln ax bx cx) (a1x rest)) (vK aiL K))=(
 bif xcm .lss ↑i ↑nj then(
 ck (xle (a0a (a0c ↑i) 1) nj) <|
 ck (xle (a0a (xix 0 (a0c ↑i) 4) 4) (xln cx)) <|
 ck (isS (a0b cx (xix 0 (a0c ↑i) 4))) <|
 ck (isI .i64 (a0b cx (a0a (xix 0 (a0c ↑i) 4) 1))) <|
 ck (isI .i64 (a0b cx (a0a (a0a (xix 0 (a0c ↑i) 4) 1) 1))) <|
 ck (isI .i64 (a0b cx (a0a (a0a (a0a (xix 0 (a0c ↑i) 4) 1) 1) 1))) <|
 ck (b1f ni ax) <|
 ck (a5h nl bx) <|
 ck (a5h nj cx) <|
 bif a3i (d2m bx (asS (a0b cx (xix 0 (a0c ↑i) 4)))) then(
 K .ret [.ptr 0 0,.ptr 4 0,.slo 3 0 nj 0,.int .i64 ↑nj,.int .i64 ↑i] [sN [.slo 1 0 ni 0,.slo 2 0 nl 0,.slo 3 0 nj 0,.int .i64 ln],sC ax 5,sC bx 4,sC cx 4,sN [.int .i64 (asI (a0b cx (a0a (a0a (xix 0 (a0c ↑i) 4) 1) 1))),.int .i64 (asI (a0b cx (a0a (a0a (a0a (xix 0 (a0c ↑i) 4) 1) 1) 1))),.int .i64 12],sN [.str (asS (a0b cx (xix 0 (a0c ↑i) 4))),.int .i64 (asI (a0b cx (a0a (xix 0 (a0c ↑i) 4) 1))),.int .i64 (asI (a0b cx (a0a (a0a (xix 0 (a0c ↑i) 4) 1) 1))),.int .i64 (asI (a0b cx (a0a (a0a (a0a (xix 0 (a0c ↑i) 4) 1) 1) 1)))]] (a1x rest))
 else(
 ck (xnn (asI (a0b cx (a0a (xix 0 (a0c ↑i) 4) 1)))) <|
 ck (xle (a0a (a0c (asI (a0b cx (a0a (xix 0 (a0c ↑i) 4) 1)))) 1) ni) <|
 ck (xle (a0a (a0a (xix 0 (a0c (asI (a0b cx (a0a (xix 0 (a0c ↑i) 4) 1)))) 5) 3) 1) (xln ax)) <|
 K .normal [.ptr 0 0,.ptr 4 0,.slo 3 0 nj 0,.int .i64 ↑nj,.int .i64 (xar .add .i64 (↑i) 1)] [sN [.slo 1 0 ni 0,.slo 2 0 nl 0,.slo 3 0 nj 0,.int .i64 ln],sC (b7d ax (a0a (xix 0 (a0c (asI (a0b cx (a0a (xix 0 (a0c ↑i) 4) 1)))) 5) 3) [.int .i64 (d9g bx (asS (a0b cx (xix 0 (a0c ↑i) 4))))]) 5,sC bx 4,sC cx 4,sN [.int .i64 0,.int .i64 0,.int .i64 0],sN [.str (asS (a0b cx (xix 0 (a0c ↑i) 4))),.int .i64 (asI (a0b cx (a0a (xix 0 (a0c ↑i) 4) 1))),.int .i64 (asI (a0b cx (a0a (a0a (xix 0 (a0c ↑i) 4) 1) 1))),.int .i64 (asI (a0b cx (a0a (a0a (a0a (xix 0 (a0c ↑i) 4) 1) 1) 1)))]] (a1x rest)))
 else(
 K (.exit 0) [.ptr 0 0,.ptr 4 0,.slo 3 0 nj 0,.int .i64 ↑nj,.int .i64 ↑i] [sN [.slo 1 0 ni 0,.slo 2 0 nl 0,.slo 3 0 nj 0,.int .i64 ln],sC ax 5,sC bx 4,sC cx 4,sN [.int .i64 0,.int .i64 0,.int .i64 0]] (a1x rest))):=by kernel_rfl
theorem g9a (ni nl nj i:Nat) (ln:Int) (ax bx cx:List LV) (rest:Glb) (K:Pk):(xsp prog f6u 40 41 ((sp prog 48).drop 3) (a1p 41 (aiT nj i)) (mkS (aiH ni nl nj ln ax bx cx) (a1x rest)) (vK aiL K))=(
 K .ret [.ptr 0 0,.ptr 4 0,.slo 3 0 nj 0,.int .i64 ↑nj,.int .i64 ↑i] [sN [.slo 1 0 ni 0,.slo 2 0 nl 0,.slo 3 0 nj 0,.int .i64 ln],sC ax 5,sC bx 4,sC cx 4,sN [.int .i64 0,.int .i64 0,.int .i64 0]] (a1x rest)):=by kernel_rfl
end
end Go.Lev
