/- text: readIns -/
import Derived.Test.YtnkkkihgljbllaaDoorCP6
import Derived.Test.YtnkkkihgljbllaaDoorLc
import Derived.Test.YtnkkkihgljbllaaDoorChecked
import Derived.KernelRfl
namespace Go.Lev
set_option linter.unusedSimpArgs false
set_option linter.unusedVariables false
open Go.RowKit
open Go.Proofs.Tryd (prog)
set_option maxRecDepth 100000
noncomputable section
def rsX (i k:Int) (w:Wd) (x:InX):InX:=⟨x.op,rfX 0 i k w.1 x.a,rfX 1 i k w.1 x.b,rfX 2 i k w.1 x.c,rfX 3 i k w.1 x.n⟩
def rsJ (k:Int) (w:Wd) (ni:Nat) (ln:Int) (J:List MkX):List MkX:=if k=4 then J++[⟨w.1,ni,ln,w.2⟩] else J
theorem b8o (k:Int) (w:Wd) (ni:Nat) (ln:Int) (J:List MkX):rfJ (a0f mkC J) k w.1 ni ln w.2=a0f mkC (rsJ k w ni ln J)∧rfM J.length k=(rsJ k w ni ln J).length:=by
 unfold rfJ rfM rsJ
 by_cases h:k=4
 ·simp only [h,decide_true,cond_true,if_true]
  rw [a1r]; exact⟨rfl,by simp⟩
 ·simp only [h,decide_false,cond_false,if_false]; exact⟨trivial,trivial⟩
theorem b5r (k:Int) (w:Wd) (ni:Nat) (ln:Int) (J:List MkX):(rsJ k w ni ln J).length≤J.length+1:=by unfold rsJ; split <;> simp
def riS (e ln:Int) (ni:Nat):List (Int×Int)→List Wd→InX→List MkX→Option Int×List Wd×InX×List MkX
 | [],ws,x,J=>(none,ws,x,J)
 | (i,k)::r,ws,x,J=>if k=0 then riS e ln ni r ws x J else match ws with
   | []=>(some e,[],x,J)
   | w::ws'=>if rfB k w.1 then riS e ln ni r ws' (rsX i k w x) (rsJ k w ni ln J) else(some w.2,w::ws',rsX i k w x,rsJ k w ni ln J)
theorem c7y {e ln:Int} {ni:Nat} {i k:Int} {r:List (Int×Int)} {ws:List Wd} {x:InX} {J:List MkX} (h:k=0):riS e ln ni ((i,k)::r) ws x J=riS e ln ni r ws x J:=by cases ws <;> simp [riS,h]
theorem c7w {e ln:Int} {ni:Nat} {i k:Int} {r:List (Int×Int)} {x:InX} {J:List MkX} (h:k≠0):riS e ln ni ((i,k)::r) [] x J=(some e,[],x,J):=by simp [riS,h]
theorem c7x {e ln:Int} {ni:Nat} {i k:Int} {r:List (Int×Int)} {w:Wd} {ws:List Wd} {x:InX} {J:List MkX} (h:k≠0):riS e ln ni ((i,k)::r) (w::ws) x J=if rfB k w.1=true then riS e ln ni r ws (rsX i k w x) (rsJ k w ni ln J) else(some w.2,w::ws,rsX i k w x,rsJ k w ni ln J):=by simp [riS,h]
abbrev riK (op:Int):List (Int×Int):=[(0,fA op),(1,fB op),(2,fC op),(3,fD op)]
def riZ (s:List UInt8) (w:Int) (ws:List Wd) (e ln:Int) (I:List InX) (J:List MkX):(Int×Int×Int)×List InX×List MkX :=
 if opB s=false then((ln,w,12),I,J)
 else if 40≤I.length then((ln,w,4),I,J)
 else match riS e ln I.length (riK (opW s)) ws ⟨opW s,0,0,0,0⟩ J with
  | (some c,_,_,J')=>((ln,c,12),I,J')
  | (none,[],x,J')=>((0,0,0),I++[x],J')
  | (none,v::_,_,J')=>((ln,v.2,12),I,J')
abbrev flt (z:Int×Int×Int):LV:=.agg [.int .i64 z.1,.int .i64 z.2.1,.int .i64 z.2.2]
abbrev riO (ni nl nj:Nat) (ln:Int) (ax bx cx:List LV) (F:World→Prop):List LB:=[.cells [.slo 6 0 ni 0,.slo 2 0 nl 0,.slo 7 0 nj 0,.int .i64 ln] none,.dead,.cells bx (some 4),.dead,.obj stF [.fact F] 5,.dead,.cells ax (some 5),.cells cx (some 4)]
structure FcW (F:World→Prop) (u:Value) (ws:List Wd):Prop where
 w:∃ W,F W
 r:∀ W,F W→a3b W u ws.length (a0f wdC ws)
theorem FcW.len {F:World→Prop} {u:Value} {ws:List Wd} (h:FcW F u ws):xvl u=ws.length:=let ⟨W,hW⟩:=h.w; d3y (h.r W hW)
theorem FcW.rest {F:World→Prop} {u:Value} {w:Wd} {ws:List Wd} (h:FcW F u (w::ws)):c8r u 1=true∧FcW F (a2j u 2 1) ws:=by
 have k:∀ W,F W→c8r u 1=true∧a3b W (a2j u 2 1) ws.length (a0f wdC ws):=fun W hW=>by
  have:=d3w (h.r W hW) (k:=1) (size:=2) (by simp) (by rw [f6g])
  simpa [a0f] using this
 obtain⟨W,hW⟩:=h.w
 exact⟨(k W hW).1,h.w,fun W hW=>(k W hW).2⟩
theorem FcW.head {F:World→Prop} {u:Value} {w:Wd} {ws:List Wd} (h:FcW F u (w::ws)):b7a u 0=true∧a7o F u 0 2=true∧a0i F u 0 2=[.str w.1,.int .i64 w.2]∧a7o F u 1 1=true∧a0i F u 1 1=[.int .i64 w.2]∧a7o F u 0 1=true∧a0i F u 0 1=[.str w.1]:=by
 obtain⟨W,hW⟩:=h.w
 have a:=b8j h.w h.r (d3a _) (k:=0) (m:=2) (by simp [a0f]) (by omega)
 have b:=b8j h.w h.r (d3a _) (k:=1) (m:=1) (by simp [a0f]) (by omega)
 have c:=b8j h.w h.r (d3a _) (k:=0) (m:=1) (by simp [a0f]) (by omega)
 exact⟨c5u (h.r W hW) (by simp),a.1,by rw [a.2]; simp [a0f],b.1,by rw [b.2]; simp [a0f],c.1,by rw [c.2]; simp [a0f]⟩
theorem b4t {I:List InX} (h:I.length≤100000):b1f I.length (a0f inC I)=true:=b0e.2 ⟨I,rfl,rfl,h⟩
theorem a5y {I:List MkX} (h:I.length≤100000):a5h I.length (a0f mkC I)=true:=a4y.2 ⟨I,rfl,rfl,h⟩
theorem d6d {s:List UInt8} (h:opB s=true):1≤opW s∧opW s≤23:=by
 unfold opB at h; unfold opW
 have key:∀ k,0≤a5a nmN k s∧a5a nmN k s≤k:=fun k=>by
  induction k with
  | zero=>simp [a5a]
  | succ k ih =>
    simp only [a5a]
    cases nmN (k+1) == s
    ·simp only [cond_false]; omega
    ·simp only [cond_true]; omega
 have:=key 23
 simp at h
 omega
structure RiX where
 u:Value
 ws:List Wd
 x:InX
 J:List MkX
set_option maxHeartbeats 8000000 in
theorem f8m (s:List UInt8) (w e:Int) (u:Value) (ws:List Wd) (F:World→Prop) (nl:Nat) (ln:Int) (bx:List LV) (I:List InX) (J:List MkX) (rest:Glb) (hf:FcW F u ws) (hw:∀ x∈ws,x.1.length≤100000) (hI:I.length≤99990) (hJ:J.length≤99990) (k2:a5h nl bx=true) :
  a0k prog 61 [.ptr 0 0,.agg [.str s,.int .i64 w],.val u,.int .i64 e] (mkS (psH I.length nl J.length ln (a0f inC I) bx (a0f mkC J)++[.obj stF [.fact F] 5,.dead]) (a1x rest)) fun l st=>l=flt (riZ s w ws e ln I J).1∧st=mkS (riO (riZ s w ws e ln I J).2.1.length nl (riZ s w ws e ln I J).2.2.length ln (a0f inC (riZ s w ws e ln I J).2.1) bx (a0f mkC (riZ s w ws e ln I J).2.2) F) (a1x rest):=by
 obtain⟨z,hz⟩:∃ z,z=riZ s w ws e ln I J:=⟨_,rfl⟩
 rw [← hz]
 refine a0k.mono (a0k.h0d (Q:=fun l b=>l=flt z.1∧b=riO z.2.1.length nl z.2.2.length ln (a0f inC z.2.1) bx (a0f mkC z.2.2) F) 92 6 8 77 riL (by kernel_rfl) rfl rfl rfl ?_) fun l s' ⟨b0,⟨h1,h2⟩,h3⟩=>⟨h1,by rw [h3,h2]⟩
 have nb:=a3u k2; have na:=a1z I; have nc:=a1l J
 have la:=f4i I
 have k1:b1f I.length (a0f inC I)=true:=b4t (by omega)
 have ipush:=d2c I
 unfold riZ at hz
 refine SSp.to b9o (n:=40) (g:=a1x rest) 4 4 rfl (σ:={_u:Unit // opB s=true}) (fun _=>[(0,.ptr 0 0),(2,.val u),(3,.int .i64 e),(5,.ptr 6 0),(8,.ptr 7 0),(9,.int .i64 (opW s))]) (fun _=>psH I.length nl J.length ln (a0f inC I) bx (a0f mkC J)++[.obj stF [.fact F] 5,.dead,.cells [.str s,.int .i64 w] none,.cells [.int .i64 0,.int .i64 0,.int .i64 0] none]) (a0y (Nat.le_of_ble_eq_true rfl)) (by kernel_rfl) ?_ fun⟨_,ho⟩=>?_
 ·rw [g5m]
  cases ho:opB s with
  | true =>
    simp only [show a3i true=false from rfl,cond_false]
    exact⟨rfl,⟨(),rfl⟩,[.id 0,.id 1,.id 2,.id 3,.id 4,.id 5,.id 6,.id 7],by(exact zC)⟩
  | false =>
    simp only [show a3i false=true from rfl,cond_true]
    rw [if_pos ho] at hz
    subst hz
    exact⟨trivial,rfl,7,_,_,_,flt (ln,w,12),riO I.length nl J.length ln (a0f inC I) bx (a0f mkC J) F,[.id 0,.id 1,.id 2,.id 3,.id 4,.id 5,.id 1,.id 3],rfl,rfl,by kernel_rfl,⟨rfl,rfl⟩,by(exact zC)⟩
 rw [if_neg (by rw [ho]; simp)] at hz
 obtain⟨o1,o2⟩:=d6d ho
 refine SSp.to b9o (n:=40) (g:=a1x rest) 4 8 rfl (σ:={_u:Unit // ¬ 40≤I.length}) (fun _=>riT u e (opW s) 0) (fun _=>riH I.length nl J.length ln (a0f inC I) bx (a0f mkC J) F s w (opW s) 0 0 0 0) (a0y (Nat.le_of_ble_eq_true rfl)) (by kernel_rfl) ?_ fun⟨_,h40⟩=>?_
 ·rw [g5l]
  by_cases h40:40≤I.length
  ·simp only [show xcm .geq ((I.length:Nat):Int) 40=true from b3a (by omega),cond_true]
   rw [if_pos h40] at hz
   subst hz
   exact⟨trivial,rfl,7,_,_,_,flt (ln,w,4),riO I.length nl J.length ln (a0f inC I) bx (a0f mkC J) F,[.id 0,.id 1,.id 2,.id 3,.id 4,.id 5,.id 1,.id 3],rfl,rfl,by kernel_rfl,⟨rfl,rfl⟩,by(exact zC)⟩
  ·simp only [show xcm .geq ((I.length:Nat):Int) 40=false from b6o (by omega),show xcm .leq 1 (opW s)=true from a9k o1,show xcm .leq (opW s) 23=true from a9k o2,cond_true,cond_false]
   exact⟨rfl,⟨(),h40⟩,[.id 0,.id 1,.id 2,.id 3,.id 4,.id 5,.id 6,.id 7,.id 8,.id 3],by(exact zC)⟩
 rw [if_neg h40] at hz
 obtain⟨RES,hRES⟩:∃ R,R=riS e ln I.length (riK (opW s)) ws ⟨opW s,0,0,0,0⟩ J:=⟨_,rfl⟩
 rw [← hRES] at hz
 have fin:∀ (c:Int) (w':List Wd) (x:InX) (J':List MkX),(some c,w',x,J')=RES→flt (ln,c,12)=flt z.1∧riO I.length nl J'.length ln (a0f inC I) bx (a0f mkC J') F=riO z.2.1.length nl z.2.2.length ln (a0f inC z.2.1) bx (a0f mkC z.2.2) F:=fun c w' x J' h=>by
  rw [← h] at hz
  subst hz
  exact⟨rfl,rfl⟩
 refine SSp.code_to (g:=a1x rest) 9 rfl (σ:={S:RiX // FcW F S.u S.ws∧(∀ y∈S.ws,y.1.length≤100000)∧S.J.length≤J.length+4∧(none,S.ws,S.x,S.J)=RES}) (fun S=>riT S.1.u e S.1.x.op 4) (fun S=>riH I.length nl S.1.J.length ln (a0f inC I) bx (a0f mkC S.1.J) F s w S.1.x.op S.1.x.a S.1.x.b S.1.x.c S.1.x.n) (by kernel_rfl) ?_ fun⟨⟨u,ws,x,J1⟩,hf,hw,hj,hR⟩=>?_
 ·refine a0p.g9s b9o (n:=40) (n0:=6) 0 (by kernel_rfl) (σ:={p:Nat×RiX // p.1≤4∧FcW F p.2.u p.2.ws∧(∀ y∈p.2.ws,y.1.length≤100000)∧p.2.J.length≤J.length+p.1∧riS e ln I.length ((riK p.2.x.op).drop p.1) p.2.ws p.2.x p.2.J=RES}) (fun p=>riT p.1.2.u e p.1.2.x.op p.1.1) (fun p=>riH I.length nl p.1.2.J.length ln (a0f inC I) bx (a0f mkC p.1.2.J) F s w p.1.2.x.op p.1.2.x.a p.1.2.x.b p.1.2.x.c p.1.2.x.n) (fun p=>4 - p.1.1) (fun _=>Nat.le_of_ble_eq_true rfl) (fun⟨⟨i,⟨u,ws,x,J1⟩⟩,hi,hf,hw,hj,hR⟩=>?_) ⟨(0,⟨u,ws,⟨opW s,0,0,0,0⟩,J⟩),Nat.zero_le _,hf,hw,Nat.le_refl _,hRES.symm⟩
  dsimp only at hi hf hw hj hR ⊢
  have nj:=a1l J1
  have k3:a5h J1.length (a0f mkC J1)=true:=a5y (by omega)
  have wS:∀ y,asS (.str y)=y:=fun _=>rfl
  have wB:∀ y,isS (.str y)=true:=fun _=>rfl
  have w0:∀ (a b:LV),a0b [a,b] 0=a:=fun _ _=>rfl
  have w1:∀ (a b:LV),a0b [a,b] 1=b:=fun _ _=>rfl
  have w2:∀ (a:LV),a0b [a] 0=a:=fun _=>rfl
  have l2:∀ (a b:LV),xln [a,b]=2:=fun _ _=>rfl
  have l1:∀ (a:LV),xln [a]=1:=fun _=>rfl
  match i,hi with
  | 0,_ =>
    change a1h _ _ 40 92 _ (a1p 92 (riT u e x.op 0)) _ _
    rw [f8r]
    have hM:=hR
    change riS e ln I.length ((0,fA x.op)::(riK x.op).drop 1) ws x J1=RES at hM
    by_cases h0:fA x.op=0
    ·rw [c7y h0] at hM
     simp only [show xcm .eql (fA x.op) 0=true from a2i h0,cond_true]
     exact⟨rfl,⟨(1,⟨u,ws,x,J1⟩),by omega,hf,hw,by dsimp only; omega,hM⟩,by dsimp only; omega,[.id 0,.id 1,.id 2,.id 3,.id 4,.id 5,.id 6,.id 7,.id 8,.id 9],by(exact zC)⟩
    simp only [show xcm .eql (fA x.op) 0=false from a2c h0,cond_false]
    cases ws with
    | nil =>
      rw [c7w h0] at hM
      have hl:=hf.len
      simp only [hl,List.length_nil,show xcm .eql ((0:Nat):Int) 0=true from a2i rfl,cond_true]
      obtain⟨q1,q2⟩:=fin _ _ _ _ hM
      exact⟨trivial,rfl,7,_,_,_,flt (ln,e,12),riO I.length nl J1.length ln (a0f inC I) bx (a0f mkC J1) F,[.id 0,.id 1,.id 2,.id 3,.id 4,.id 5,.id 1,.id 9],rfl,rfl,by kernel_rfl,⟨q1,q2⟩,by(exact zC)⟩
    | cons v ws =>
      rw [c7x h0] at hM
      have hl:=hf.len
      obtain⟨c1,c2,c3,c4,c5,c6,c7⟩:=hf.head
      obtain⟨r1,r2⟩:=hf.rest
      obtain⟨j1,j2⟩:=b8o (fA x.op) v I.length ln J1
      have j3:=b5r (fA x.op) v I.length ln J1
      have nj2:=a1l (rsJ (fA x.op) v I.length ln J1)
      have hv:xle (a0z v.1) 100000=true:=a1n (hw v (by simp))
      simp only [hl,c1,c2,c3,c4,c5,r1,k1,k2,k3,hv,wS,wB,w0,w1,w2,l1,l2,a2q,a3d,decide_true,show xle 1 1=true from rfl,show xle 2 2=true from rfl,show xcm .eql (((v::ws).length:Nat):Int) 0=false from a2c (by simp; omega),j1,j2,cond_true,cond_false]
      cases hb:rfB (fA x.op) v.1 with
      | false =>
        rw [hb,if_neg (by simp)] at hM
        simp only [show a3i false=true from rfl,cond_true]
        obtain⟨q1,q2⟩:=fin _ _ _ _ hM
        exact⟨trivial,rfl,7,_,_,_,flt (ln,v.2,12),riO I.length nl (rsJ (fA x.op) v I.length ln J1).length ln (a0f inC I) bx (a0f mkC (rsJ (fA x.op) v I.length ln J1)) F,[.id 0,.id 1,.id 2,.id 3,.id 4,.id 5,.id 1,.id 10],rfl,rfl,by kernel_rfl,⟨q1,q2⟩,by(exact zC)⟩
      | true =>
        rw [hb,if_pos rfl] at hM
        simp only [show a3i true=false from rfl,cond_false]
        exact⟨rfl,⟨(1,⟨a2j u 2 1,ws,rsX 0 (fA x.op) v x,rsJ (fA x.op) v I.length ln J1⟩),by omega,r2,fun y hy=>hw y (by simp [hy]),by dsimp only; omega,hM⟩,by dsimp only; omega,[.id 0,.id 1,.id 2,.id 3,.id 4,.id 5,.id 6,.id 7,.id 8,.id 10],by(exact zC)⟩
  | 1,_ =>
    change a1h _ _ 40 92 _ (a1p 92 (riT u e x.op 1)) _ _
    rw [f8q]
    have hM:=hR
    change riS e ln I.length ((1,fB x.op)::(riK x.op).drop 2) ws x J1=RES at hM
    by_cases h0:fB x.op=0
    ·rw [c7y h0] at hM
     simp only [show xcm .eql (fB x.op) 0=true from a2i h0,cond_true]
     exact⟨rfl,⟨(2,⟨u,ws,x,J1⟩),by omega,hf,hw,by dsimp only; omega,hM⟩,by dsimp only; omega,[.id 0,.id 1,.id 2,.id 3,.id 4,.id 5,.id 6,.id 7,.id 8,.id 9],by(exact zC)⟩
    simp only [show xcm .eql (fB x.op) 0=false from a2c h0,cond_false]
    cases ws with
    | nil =>
      rw [c7w h0] at hM
      have hl:=hf.len
      simp only [hl,List.length_nil,show xcm .eql ((0:Nat):Int) 0=true from a2i rfl,cond_true]
      obtain⟨q1,q2⟩:=fin _ _ _ _ hM
      exact⟨trivial,rfl,7,_,_,_,flt (ln,e,12),riO I.length nl J1.length ln (a0f inC I) bx (a0f mkC J1) F,[.id 0,.id 1,.id 2,.id 3,.id 4,.id 5,.id 1,.id 9],rfl,rfl,by kernel_rfl,⟨q1,q2⟩,by(exact zC)⟩
    | cons v ws =>
      rw [c7x h0] at hM
      have hl:=hf.len
      obtain⟨c1,c2,c3,c4,c5,c6,c7⟩:=hf.head
      obtain⟨r1,r2⟩:=hf.rest
      obtain⟨j1,j2⟩:=b8o (fB x.op) v I.length ln J1
      have j3:=b5r (fB x.op) v I.length ln J1
      have nj2:=a1l (rsJ (fB x.op) v I.length ln J1)
      have hv:xle (a0z v.1) 100000=true:=a1n (hw v (by simp))
      simp only [hl,c1,c2,c3,c4,c5,r1,k1,k2,k3,hv,wS,wB,w0,w1,w2,l1,l2,a2q,a3d,decide_true,show xle 1 1=true from rfl,show xle 2 2=true from rfl,show xcm .eql (((v::ws).length:Nat):Int) 0=false from a2c (by simp; omega),j1,j2,cond_true,cond_false]
      cases hb:rfB (fB x.op) v.1 with
      | false =>
        rw [hb,if_neg (by simp)] at hM
        simp only [show a3i false=true from rfl,cond_true]
        obtain⟨q1,q2⟩:=fin _ _ _ _ hM
        exact⟨trivial,rfl,7,_,_,_,flt (ln,v.2,12),riO I.length nl (rsJ (fB x.op) v I.length ln J1).length ln (a0f inC I) bx (a0f mkC (rsJ (fB x.op) v I.length ln J1)) F,[.id 0,.id 1,.id 2,.id 3,.id 4,.id 5,.id 1,.id 10],rfl,rfl,by kernel_rfl,⟨q1,q2⟩,by(exact zC)⟩
      | true =>
        rw [hb,if_pos rfl] at hM
        simp only [show a3i true=false from rfl,cond_false]
        exact⟨rfl,⟨(2,⟨a2j u 2 1,ws,rsX 1 (fB x.op) v x,rsJ (fB x.op) v I.length ln J1⟩),by omega,r2,fun y hy=>hw y (by simp [hy]),by dsimp only; omega,hM⟩,by dsimp only; omega,[.id 0,.id 1,.id 2,.id 3,.id 4,.id 5,.id 6,.id 7,.id 8,.id 10],by(exact zC)⟩
  | 2,_ =>
    change a1h _ _ 40 92 _ (a1p 92 (riT u e x.op 2)) _ _
    rw [f8p]
    have hM:=hR
    change riS e ln I.length ((2,fC x.op)::(riK x.op).drop 3) ws x J1=RES at hM
    by_cases h0:fC x.op=0
    ·rw [c7y h0] at hM
     simp only [show xcm .eql (fC x.op) 0=true from a2i h0,cond_true]
     exact⟨rfl,⟨(3,⟨u,ws,x,J1⟩),by omega,hf,hw,by dsimp only; omega,hM⟩,by dsimp only; omega,[.id 0,.id 1,.id 2,.id 3,.id 4,.id 5,.id 6,.id 7,.id 8,.id 9],by(exact zC)⟩
    simp only [show xcm .eql (fC x.op) 0=false from a2c h0,cond_false]
    cases ws with
    | nil =>
      rw [c7w h0] at hM
      have hl:=hf.len
      simp only [hl,List.length_nil,show xcm .eql ((0:Nat):Int) 0=true from a2i rfl,cond_true]
      obtain⟨q1,q2⟩:=fin _ _ _ _ hM
      exact⟨trivial,rfl,7,_,_,_,flt (ln,e,12),riO I.length nl J1.length ln (a0f inC I) bx (a0f mkC J1) F,[.id 0,.id 1,.id 2,.id 3,.id 4,.id 5,.id 1,.id 9],rfl,rfl,by kernel_rfl,⟨q1,q2⟩,by(exact zC)⟩
    | cons v ws =>
      rw [c7x h0] at hM
      have hl:=hf.len
      obtain⟨c1,c2,c3,c4,c5,c6,c7⟩:=hf.head
      obtain⟨r1,r2⟩:=hf.rest
      obtain⟨j1,j2⟩:=b8o (fC x.op) v I.length ln J1
      have j3:=b5r (fC x.op) v I.length ln J1
      have nj2:=a1l (rsJ (fC x.op) v I.length ln J1)
      have hv:xle (a0z v.1) 100000=true:=a1n (hw v (by simp))
      simp only [hl,c1,c2,c3,c4,c5,r1,k1,k2,k3,hv,wS,wB,w0,w1,w2,l1,l2,a2q,a3d,decide_true,show xle 1 1=true from rfl,show xle 2 2=true from rfl,show xcm .eql (((v::ws).length:Nat):Int) 0=false from a2c (by simp; omega),j1,j2,cond_true,cond_false]
      cases hb:rfB (fC x.op) v.1 with
      | false =>
        rw [hb,if_neg (by simp)] at hM
        simp only [show a3i false=true from rfl,cond_true]
        obtain⟨q1,q2⟩:=fin _ _ _ _ hM
        exact⟨trivial,rfl,7,_,_,_,flt (ln,v.2,12),riO I.length nl (rsJ (fC x.op) v I.length ln J1).length ln (a0f inC I) bx (a0f mkC (rsJ (fC x.op) v I.length ln J1)) F,[.id 0,.id 1,.id 2,.id 3,.id 4,.id 5,.id 1,.id 10],rfl,rfl,by kernel_rfl,⟨q1,q2⟩,by(exact zC)⟩
      | true =>
        rw [hb,if_pos rfl] at hM
        simp only [show a3i true=false from rfl,cond_false]
        exact⟨rfl,⟨(3,⟨a2j u 2 1,ws,rsX 2 (fC x.op) v x,rsJ (fC x.op) v I.length ln J1⟩),by omega,r2,fun y hy=>hw y (by simp [hy]),by dsimp only; omega,hM⟩,by dsimp only; omega,[.id 0,.id 1,.id 2,.id 3,.id 4,.id 5,.id 6,.id 7,.id 8,.id 10],by(exact zC)⟩
  | 3,_ =>
    change a1h _ _ 40 92 _ (a1p 92 (riT u e x.op 3)) _ _
    rw [f8o]
    have hM:=hR
    change riS e ln I.length ((3,fD x.op)::(riK x.op).drop 4) ws x J1=RES at hM
    by_cases h0:fD x.op=0
    ·rw [c7y h0] at hM
     simp only [show xcm .eql (fD x.op) 0=true from a2i h0,cond_true]
     exact⟨rfl,⟨(4,⟨u,ws,x,J1⟩),by omega,hf,hw,by dsimp only; omega,hM⟩,by dsimp only; omega,[.id 0,.id 1,.id 2,.id 3,.id 4,.id 5,.id 6,.id 7,.id 8,.id 9],by(exact zC)⟩
    simp only [show xcm .eql (fD x.op) 0=false from a2c h0,cond_false]
    cases ws with
    | nil =>
      rw [c7w h0] at hM
      have hl:=hf.len
      simp only [hl,List.length_nil,show xcm .eql ((0:Nat):Int) 0=true from a2i rfl,cond_true]
      obtain⟨q1,q2⟩:=fin _ _ _ _ hM
      exact⟨trivial,rfl,7,_,_,_,flt (ln,e,12),riO I.length nl J1.length ln (a0f inC I) bx (a0f mkC J1) F,[.id 0,.id 1,.id 2,.id 3,.id 4,.id 5,.id 1,.id 9],rfl,rfl,by kernel_rfl,⟨q1,q2⟩,by(exact zC)⟩
    | cons v ws =>
      rw [c7x h0] at hM
      have hl:=hf.len
      obtain⟨c1,c2,c3,c4,c5,c6,c7⟩:=hf.head
      obtain⟨r1,r2⟩:=hf.rest
      obtain⟨j1,j2⟩:=b8o (fD x.op) v I.length ln J1
      have j3:=b5r (fD x.op) v I.length ln J1
      have nj2:=a1l (rsJ (fD x.op) v I.length ln J1)
      have hv:xle (a0z v.1) 100000=true:=a1n (hw v (by simp))
      simp only [hl,c1,c2,c3,c4,c5,r1,k1,k2,k3,hv,wS,wB,w0,w1,w2,l1,l2,a2q,a3d,decide_true,show xle 1 1=true from rfl,show xle 2 2=true from rfl,show xcm .eql (((v::ws).length:Nat):Int) 0=false from a2c (by simp; omega),j1,j2,cond_true,cond_false]
      cases hb:rfB (fD x.op) v.1 with
      | false =>
        rw [hb,if_neg (by simp)] at hM
        simp only [show a3i false=true from rfl,cond_true]
        obtain⟨q1,q2⟩:=fin _ _ _ _ hM
        exact⟨trivial,rfl,7,_,_,_,flt (ln,v.2,12),riO I.length nl (rsJ (fD x.op) v I.length ln J1).length ln (a0f inC I) bx (a0f mkC (rsJ (fD x.op) v I.length ln J1)) F,[.id 0,.id 1,.id 2,.id 3,.id 4,.id 5,.id 1,.id 10],rfl,rfl,by kernel_rfl,⟨q1,q2⟩,by(exact zC)⟩
      | true =>
        rw [hb,if_pos rfl] at hM
        simp only [show a3i true=false from rfl,cond_false]
        exact⟨rfl,⟨(4,⟨a2j u 2 1,ws,rsX 3 (fD x.op) v x,rsJ (fD x.op) v I.length ln J1⟩),by omega,r2,fun y hy=>hw y (by simp [hy]),by dsimp only; omega,hM⟩,by dsimp only; omega,[.id 0,.id 1,.id 2,.id 3,.id 4,.id 5,.id 6,.id 7,.id 8,.id 10],by(exact zC)⟩
  | 4,_ =>
    have hM:=hR
    change (none,ws,x,J1)=RES at hM
    change a1h _ _ 40 92 _ (a1p 92 (riT u e x.op 4)) _ _
    rw [f8n]
    exact⟨rfl,⟨⟨u,ws,x,J1⟩,hf,hw,hj,hM⟩,[.id 0,.id 1,.id 2,.id 3,.id 4,.id 5,.id 6,.id 7,.id 8,.id 9],by(exact zC)⟩
 dsimp only at hf hw hj hR ⊢
 have nj:=a1l J1
 refine SSp.last b9o (n:=40) (a0y (Nat.le_of_ble_eq_true rfl)) ?_
 rw [g5j]
 have l1:∀ (a:LV),xln [a]=1:=fun _=>rfl
 have w2:∀ (a:LV),a0b [a] 0=a:=fun _=>rfl
 rw [← hR] at hz
 cases ws with
 | nil =>
   have hl:=hf.len
   simp only [hl,List.length_nil,show xcm .gtr ((0:Nat):Int) 0=false from a7e (Int.le_refl _),show xle (I.length+1) 1000000=true from a1n (by omega),show xle (I.length * 5) (I.length * 5)=true from a1n (Nat.le_refl _),show xeq I.length I.length=true from c2x rfl,la,a1o,a2g,a3e,Nat.zero_add,cond_true,cond_false]
   have pg:=ipush x.op x.a x.b x.c x.n
   have n9:=a1z (I++[⟨x.op,x.a,x.b,x.c,x.n⟩])
   have l9:(I++[(⟨x.op,x.a,x.b,x.c,x.n⟩:InX)]).length=I.length+1:=by simp
   subst hz
   refine⟨trivial,rfl,7,_,_,flt (0,0,0),flt (0,0,0),riO (I++[(⟨x.op,x.a,x.b,x.c,x.n⟩:InX)]).length nl J1.length ln (a0f inC (I++[⟨x.op,x.a,x.b,x.c,x.n⟩])) bx (a0f mkC J1) F,[.id 0,.id 1,.id 2,.id 3,.id 4,.id 5,.id 11,.id 9],rfl,rfl,by kernel_rfl,⟨rfl,rfl⟩,?_⟩
   rw [l9,← pg]
   rw [← pg] at n9
   (exact zC)
 | cons v ws =>
   have hl:=hf.len
   obtain⟨c1,c2,c3,c4,c5,c6,c7⟩:=hf.head
   simp only [hl,c1,c4,c5,l1,w2,a2q,a3d,decide_true,show xle 1 1=true from rfl,show xcm .gtr (((v::ws).length:Nat):Int) 0=true from a7w (by first | (simp; done) | (simp; omega)),cond_true]
   subst hz
   exact⟨trivial,rfl,7,_,_,_,flt (ln,v.2,12),riO I.length nl J1.length ln (a0f inC I) bx (a0f mkC J1) F,[.id 0,.id 1,.id 2,.id 3,.id 4,.id 5,.id 1,.id 9],rfl,rfl,by kernel_rfl,⟨rfl,rfl⟩,by(exact zC)⟩
end
end Go.Lev
