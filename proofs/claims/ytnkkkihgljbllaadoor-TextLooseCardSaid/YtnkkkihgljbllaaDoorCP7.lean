/- text: readIns -/
import Derived.Test.YtnkkkihgljbllaaDoorCP6
import Derived.Test.YtnkkkihgljbllaaDoorLc
import Derived.Test.YtnkkkihgljbllaaDoorChecked
import Derived.KernelRfl
namespace Go.Lev
set_option linter.unusedSimpArgs false
set_option linter.unusedVariables false
open Go.RowKit
open Go.Proofs.Tryd (prog)
set_option maxRecDepth 100000
noncomputable section
def rsX (i k:Int) (w:Wd) (x:InX):InX:=⟨x.op,rfX 0 i k w.1 x.a,rfX 1 i k w.1 x.b,rfX 2 i k w.1 x.c,rfX 3 i k w.1 x.n⟩
def rsJ (k:Int) (w:Wd) (ni:Nat) (ln:Int) (J:List MkX):List MkX:=if k=4 then J++[⟨w.1,ni,ln,w.2⟩] else J
theorem rsJ_enc (k:Int) (w:Wd) (ni:Nat) (ln:Int) (J:List MkX):rfJ (encL mkC J) k w.1 ni ln w.2=encL mkC (rsJ k w ni ln J)∧rfM J.length k=(rsJ k w ni ln J).length:=by
 unfold rfJ rfM rsJ
 by_cases h:k=4
 ·simp only [h,decide_true,cond_true,if_true]
  rw [encL_append]; exact⟨rfl,by simp⟩
 ·simp only [h,decide_false,cond_false,if_false]; exact⟨trivial,trivial⟩
theorem rsJ_len (k:Int) (w:Wd) (ni:Nat) (ln:Int) (J:List MkX):(rsJ k w ni ln J).length≤J.length+1:=by unfold rsJ; split <;> simp
def riS (e ln:Int) (ni:Nat):List (Int×Int)→List Wd→InX→List MkX→Option Int×List Wd×InX×List MkX
 | [],ws,x,J=>(none,ws,x,J)
 | (i,k)::r,ws,x,J=>if k=0 then riS e ln ni r ws x J else match ws with
   | []=>(some e,[],x,J)
   | w::ws'=>if rfB k w.1 then riS e ln ni r ws' (rsX i k w x) (rsJ k w ni ln J) else(some w.2,w::ws',rsX i k w x,rsJ k w ni ln J)
theorem riS_0 {e ln:Int} {ni:Nat} {i k:Int} {r:List (Int×Int)} {ws:List Wd} {x:InX} {J:List MkX} (h:k=0):riS e ln ni ((i,k)::r) ws x J=riS e ln ni r ws x J:=by cases ws <;> simp [riS,h]
theorem riS_n {e ln:Int} {ni:Nat} {i k:Int} {r:List (Int×Int)} {x:InX} {J:List MkX} (h:k≠0):riS e ln ni ((i,k)::r) [] x J=(some e,[],x,J):=by simp [riS,h]
theorem riS_c {e ln:Int} {ni:Nat} {i k:Int} {r:List (Int×Int)} {w:Wd} {ws:List Wd} {x:InX} {J:List MkX} (h:k≠0):riS e ln ni ((i,k)::r) (w::ws) x J=if rfB k w.1=true then riS e ln ni r ws (rsX i k w x) (rsJ k w ni ln J) else(some w.2,w::ws,rsX i k w x,rsJ k w ni ln J):=by simp [riS,h]
abbrev riK (op:Int):List (Int×Int):=[(0,fA op),(1,fB op),(2,fC op),(3,fD op)]
def riZ (s:List UInt8) (w:Int) (ws:List Wd) (e ln:Int) (I:List InX) (J:List MkX):(Int×Int×Int)×List InX×List MkX :=
 if opB s=false then((ln,w,12),I,J)
 else if 40≤I.length then((ln,w,4),I,J)
 else match riS e ln I.length (riK (opW s)) ws ⟨opW s,0,0,0,0⟩ J with
  | (some c,_,_,J')=>((ln,c,12),I,J')
  | (none,[],x,J')=>((0,0,0),I++[x],J')
  | (none,v::_,_,J')=>((ln,v.2,12),I,J')
abbrev flt (z:Int×Int×Int):LV:=.agg [.int .i64 z.1,.int .i64 z.2.1,.int .i64 z.2.2]
abbrev riO (ni nl nj:Nat) (ln:Int) (ax bx cx:List LV) (F:World→Prop):List LB:=[.cells [.slo 6 0 ni 0,.slo 2 0 nl 0,.slo 7 0 nj 0,.int .i64 ln] none,.dead,.cells bx (some 4),.dead,.obj stF [.fact F] 5,.dead,.cells ax (some 5),.cells cx (some 4)]
structure FcW (F:World→Prop) (u:Value) (ws:List Wd):Prop where
 w:∃ W,F W
 r:∀ W,F W→RowArg W u ws.length (encL wdC ws)
theorem FcW.len {F:World→Prop} {u:Value} {ws:List Wd} (h:FcW F u ws):xvl u=ws.length:=let ⟨W,hW⟩:=h.w; vlen_row (h.r W hW)
theorem FcW.rest {F:World→Prop} {u:Value} {w:Wd} {ws:List Wd} (h:FcW F u (w::ws)):xvso u 1=true∧FcW F (xvsub u 2 1) ws:=by
 have k:∀ W,F W→xvso u 1=true∧RowArg W (xvsub u 2 1) ws.length (encL wdC ws):=fun W hW=>by
  have:=vsub_row (h.r W hW) (k:=1) (size:=2) (by simp) (by rw [wd_n])
  simpa [encL] using this
 obtain⟨W,hW⟩:=h.w
 exact⟨(k W hW).1,h.w,fun W hW=>(k W hW).2⟩
theorem FcW.head {F:World→Prop} {u:Value} {w:Wd} {ws:List Wd} (h:FcW F u (w::ws)):xvix u 0=true∧xvrok F u 0 2=true∧xvrow F u 0 2=[.str w.1,.int .i64 w.2]∧xvrok F u 1 1=true∧xvrow F u 1 1=[.int .i64 w.2]∧xvrok F u 0 1=true∧xvrow F u 0 1=[.str w.1]:=by
 obtain⟨W,hW⟩:=h.w
 have a:=vrow_eq h.w h.r (can_wd _) (k:=0) (m:=2) (by simp [encL]) (by omega)
 have b:=vrow_eq h.w h.r (can_wd _) (k:=1) (m:=1) (by simp [encL]) (by omega)
 have c:=vrow_eq h.w h.r (can_wd _) (k:=0) (m:=1) (by simp [encL]) (by omega)
 exact⟨vidx_row (h.r W hW) (by simp),a.1,by rw [a.2]; simp [encL],b.1,by rw [b.2]; simp [encL],c.1,by rw [c.2]; simp [encL]⟩
theorem okIn_enc {I:List InX} (h:I.length≤100000):okIn I.length (encL inC I)=true:=okIn_iff.2 ⟨I,rfl,rfl,h⟩
theorem okMk_enc {I:List MkX} (h:I.length≤100000):okMk I.length (encL mkC I)=true:=okMk_iff.2 ⟨I,rfl,rfl,h⟩
theorem opW_in {s:List UInt8} (h:opB s=true):1≤opW s∧opW s≤23:=by
 unfold opB at h; unfold opW
 have key:∀ k,0≤wantN nmN k s∧wantN nmN k s≤k:=fun k=>by
  induction k with
  | zero=>simp [wantN]
  | succ k ih =>
    simp only [wantN]
    cases nmN (k+1) == s
    ·simp only [cond_false]; omega
    ·simp only [cond_true]; omega
 have:=key 23
 simp at h
 omega
structure RiX where
 u:Value
 ws:List Wd
 x:InX
 J:List MkX
set_option maxHeartbeats 8000000 in
theorem ri_ok (s:List UInt8) (w e:Int) (u:Value) (ws:List Wd) (F:World→Prop) (nl:Nat) (ln:Int) (bx:List LV) (I:List InX) (J:List MkX) (rest:Glb) (hf:FcW F u ws) (hw:∀ x∈ws,x.1.length≤100000) (hI:I.length≤99990) (hJ:J.length≤99990) (k2:okMk nl bx=true) :
  SFun prog 61 [.ptr 0 0,.agg [.str s,.int .i64 w],.val u,.int .i64 e] (mkS (psH I.length nl J.length ln (encL inC I) bx (encL mkC J)++[.obj stF [.fact F] 5,.dead]) (tab2 rest)) fun l st=>l=flt (riZ s w ws e ln I J).1∧st=mkS (riO (riZ s w ws e ln I J).2.1.length nl (riZ s w ws e ln I J).2.2.length ln (encL inC (riZ s w ws e ln I J).2.1) bx (encL mkC (riZ s w ws e ln I J).2.2) F) (tab2 rest):=by
 obtain⟨z,hz⟩:∃ z,z=riZ s w ws e ln I J:=⟨_,rfl⟩
 rw [← hz]
 refine SFun.mono (SFun.piecesC (Q:=fun l b=>l=flt z.1∧b=riO z.2.1.length nl z.2.2.length ln (encL inC z.2.1) bx (encL mkC z.2.2) F) 92 6 8 77 riL (by kernel_rfl) rfl rfl rfl ?_) fun l s' ⟨b0,⟨h1,h2⟩,h3⟩=>⟨h1,by rw [h3,h2]⟩
 have nb:=okMk_nd k2; have na:=noids_in I; have nc:=noids_mk J
 have la:=in_n I
 have k1:okIn I.length (encL inC I)=true:=okIn_enc (by omega)
 have ipush:=in_push I
 unfold riZ at hz
 refine SSp.to cxRi_ok (n:=40) (g:=tab2 rest) 4 4 rfl (σ:={_u:Unit // opB s=true}) (fun _=>[(0,.ptr 0 0),(2,.val u),(3,.int .i64 e),(5,.ptr 6 0),(8,.ptr 7 0),(9,.int .i64 (opW s))]) (fun _=>psH I.length nl J.length ln (encL inC I) bx (encL mkC J)++[.obj stF [.fact F] 5,.dead,.cells [.str s,.int .i64 w] none,.cells [.int .i64 0,.int .i64 0,.int .i64 0] none]) (mkS_le (Nat.le_of_ble_eq_true rfl)) (by kernel_rfl) ?_ fun⟨_,ho⟩=>?_
 ·rw [ri_0]
  cases ho:opB s with
  | true =>
    simp only [show xnot true=false from rfl,cond_false]
    exact⟨rfl,⟨(),rfl⟩,[.id 0,.id 1,.id 2,.id 3,.id 4,.id 5,.id 6,.id 7],by(exact zC)⟩
  | false =>
    simp only [show xnot false=true from rfl,cond_true]
    rw [if_pos ho] at hz
    subst hz
    exact⟨trivial,rfl,7,_,_,_,flt (ln,w,12),riO I.length nl J.length ln (encL inC I) bx (encL mkC J) F,[.id 0,.id 1,.id 2,.id 3,.id 4,.id 5,.id 1,.id 3],rfl,rfl,by kernel_rfl,⟨rfl,rfl⟩,by(exact zC)⟩
 rw [if_neg (by rw [ho]; simp)] at hz
 obtain⟨o1,o2⟩:=opW_in ho
 refine SSp.to cxRi_ok (n:=40) (g:=tab2 rest) 4 8 rfl (σ:={_u:Unit // ¬ 40≤I.length}) (fun _=>riT u e (opW s) 0) (fun _=>riH I.length nl J.length ln (encL inC I) bx (encL mkC J) F s w (opW s) 0 0 0 0) (mkS_le (Nat.le_of_ble_eq_true rfl)) (by kernel_rfl) ?_ fun⟨_,h40⟩=>?_
 ·rw [ri_1]
  by_cases h40:40≤I.length
  ·simp only [show xcm .geq ((I.length:Nat):Int) 40=true from t_geq (by omega),cond_true]
   rw [if_pos h40] at hz
   subst hz
   exact⟨trivial,rfl,7,_,_,_,flt (ln,w,4),riO I.length nl J.length ln (encL inC I) bx (encL mkC J) F,[.id 0,.id 1,.id 2,.id 3,.id 4,.id 5,.id 1,.id 3],rfl,rfl,by kernel_rfl,⟨rfl,rfl⟩,by(exact zC)⟩
  ·simp only [show xcm .geq ((I.length:Nat):Int) 40=false from f_geq (by omega),show xcm .leq 1 (opW s)=true from t_leq o1,show xcm .leq (opW s) 23=true from t_leq o2,cond_true,cond_false]
   exact⟨rfl,⟨(),h40⟩,[.id 0,.id 1,.id 2,.id 3,.id 4,.id 5,.id 6,.id 7,.id 8,.id 3],by(exact zC)⟩
 rw [if_neg h40] at hz
 obtain⟨RES,hRES⟩:∃ R,R=riS e ln I.length (riK (opW s)) ws ⟨opW s,0,0,0,0⟩ J:=⟨_,rfl⟩
 rw [← hRES] at hz
 have fin:∀ (c:Int) (w':List Wd) (x:InX) (J':List MkX),(some c,w',x,J')=RES→flt (ln,c,12)=flt z.1∧riO I.length nl J'.length ln (encL inC I) bx (encL mkC J') F=riO z.2.1.length nl z.2.2.length ln (encL inC z.2.1) bx (encL mkC z.2.2) F:=fun c w' x J' h=>by
  rw [← h] at hz
  subst hz
  exact⟨rfl,rfl⟩
 refine SSp.code_to (g:=tab2 rest) 9 rfl (σ:={S:RiX // FcW F S.u S.ws∧(∀ y∈S.ws,y.1.length≤100000)∧S.J.length≤J.length+4∧(none,S.ws,S.x,S.J)=RES}) (fun S=>riT S.1.u e S.1.x.op 4) (fun S=>riH I.length nl S.1.J.length ln (encL inC I) bx (encL mkC S.1.J) F s w S.1.x.op S.1.x.a S.1.x.b S.1.x.c S.1.x.n) (by kernel_rfl) ?_ fun⟨⟨u,ws,x,J1⟩,hf,hw,hj,hR⟩=>?_
 ·refine SCode.loop_vc cxRi_ok (n:=40) (n0:=6) 0 (by kernel_rfl) (σ:={p:Nat×RiX // p.1≤4∧FcW F p.2.u p.2.ws∧(∀ y∈p.2.ws,y.1.length≤100000)∧p.2.J.length≤J.length+p.1∧riS e ln I.length ((riK p.2.x.op).drop p.1) p.2.ws p.2.x p.2.J=RES}) (fun p=>riT p.1.2.u e p.1.2.x.op p.1.1) (fun p=>riH I.length nl p.1.2.J.length ln (encL inC I) bx (encL mkC p.1.2.J) F s w p.1.2.x.op p.1.2.x.a p.1.2.x.b p.1.2.x.c p.1.2.x.n) (fun p=>4 - p.1.1) (fun _=>Nat.le_of_ble_eq_true rfl) (fun⟨⟨i,⟨u,ws,x,J1⟩⟩,hi,hf,hw,hj,hR⟩=>?_) ⟨(0,⟨u,ws,⟨opW s,0,0,0,0⟩,J⟩),Nat.zero_le _,hf,hw,Nat.le_refl _,hRES.symm⟩
  dsimp only at hi hf hw hj hR ⊢
  have nj:=noids_mk J1
  have k3:okMk J1.length (encL mkC J1)=true:=okMk_enc (by omega)
  have wS:∀ y,asS (.str y)=y:=fun _=>rfl
  have wB:∀ y,isS (.str y)=true:=fun _=>rfl
  have w0:∀ (a b:LV),nthD [a,b] 0=a:=fun _ _=>rfl
  have w1:∀ (a b:LV),nthD [a,b] 1=b:=fun _ _=>rfl
  have w2:∀ (a:LV),nthD [a] 0=a:=fun _=>rfl
  have l2:∀ (a b:LV),xln [a,b]=2:=fun _ _=>rfl
  have l1:∀ (a:LV),xln [a]=1:=fun _=>rfl
  match i,hi with
  | 0,_ =>
    change xcode _ _ 40 92 _ (mkTm 92 (riT u e x.op 0)) _ _
    rw [ri_l0]
    have hM:=hR
    change riS e ln I.length ((0,fA x.op)::(riK x.op).drop 1) ws x J1=RES at hM
    by_cases h0:fA x.op=0
    ·rw [riS_0 h0] at hM
     simp only [show xcm .eql (fA x.op) 0=true from t_eql h0,cond_true]
     exact⟨rfl,⟨(1,⟨u,ws,x,J1⟩),by omega,hf,hw,by dsimp only; omega,hM⟩,by dsimp only; omega,[.id 0,.id 1,.id 2,.id 3,.id 4,.id 5,.id 6,.id 7,.id 8,.id 9],by(exact zC)⟩
    simp only [show xcm .eql (fA x.op) 0=false from f_eql h0,cond_false]
    cases ws with
    | nil =>
      rw [riS_n h0] at hM
      have hl:=hf.len
      simp only [hl,List.length_nil,show xcm .eql ((0:Nat):Int) 0=true from t_eql rfl,cond_true]
      obtain⟨q1,q2⟩:=fin _ _ _ _ hM
      exact⟨trivial,rfl,7,_,_,_,flt (ln,e,12),riO I.length nl J1.length ln (encL inC I) bx (encL mkC J1) F,[.id 0,.id 1,.id 2,.id 3,.id 4,.id 5,.id 1,.id 9],rfl,rfl,by kernel_rfl,⟨q1,q2⟩,by(exact zC)⟩
    | cons v ws =>
      rw [riS_c h0] at hM
      have hl:=hf.len
      obtain⟨c1,c2,c3,c4,c5,c6,c7⟩:=hf.head
      obtain⟨r1,r2⟩:=hf.rest
      obtain⟨j1,j2⟩:=rsJ_enc (fA x.op) v I.length ln J1
      have j3:=rsJ_len (fA x.op) v I.length ln J1
      have nj2:=noids_mk (rsJ (fA x.op) v I.length ln J1)
      have hv:xle (xsln v.1) 100000=true:=t_le (hw v (by simp))
      simp only [hl,c1,c2,c3,c4,c5,r1,k1,k2,k3,hv,wS,wB,w0,w1,w2,l1,l2,wd_asI,wd_isI,decide_true,show xle 1 1=true from rfl,show xle 2 2=true from rfl,show xcm .eql (((v::ws).length:Nat):Int) 0=false from f_eql (by simp; omega),j1,j2,cond_true,cond_false]
      cases hb:rfB (fA x.op) v.1 with
      | false =>
        rw [hb,if_neg (by simp)] at hM
        simp only [show xnot false=true from rfl,cond_true]
        obtain⟨q1,q2⟩:=fin _ _ _ _ hM
        exact⟨trivial,rfl,7,_,_,_,flt (ln,v.2,12),riO I.length nl (rsJ (fA x.op) v I.length ln J1).length ln (encL inC I) bx (encL mkC (rsJ (fA x.op) v I.length ln J1)) F,[.id 0,.id 1,.id 2,.id 3,.id 4,.id 5,.id 1,.id 10],rfl,rfl,by kernel_rfl,⟨q1,q2⟩,by(exact zC)⟩
      | true =>
        rw [hb,if_pos rfl] at hM
        simp only [show xnot true=false from rfl,cond_false]
        exact⟨rfl,⟨(1,⟨xvsub u 2 1,ws,rsX 0 (fA x.op) v x,rsJ (fA x.op) v I.length ln J1⟩),by omega,r2,fun y hy=>hw y (by simp [hy]),by dsimp only; omega,hM⟩,by dsimp only; omega,[.id 0,.id 1,.id 2,.id 3,.id 4,.id 5,.id 6,.id 7,.id 8,.id 10],by(exact zC)⟩
  | 1,_ =>
    change xcode _ _ 40 92 _ (mkTm 92 (riT u e x.op 1)) _ _
    rw [ri_l1]
    have hM:=hR
    change riS e ln I.length ((1,fB x.op)::(riK x.op).drop 2) ws x J1=RES at hM
    by_cases h0:fB x.op=0
    ·rw [riS_0 h0] at hM
     simp only [show xcm .eql (fB x.op) 0=true from t_eql h0,cond_true]
     exact⟨rfl,⟨(2,⟨u,ws,x,J1⟩),by omega,hf,hw,by dsimp only; omega,hM⟩,by dsimp only; omega,[.id 0,.id 1,.id 2,.id 3,.id 4,.id 5,.id 6,.id 7,.id 8,.id 9],by(exact zC)⟩
    simp only [show xcm .eql (fB x.op) 0=false from f_eql h0,cond_false]
    cases ws with
    | nil =>
      rw [riS_n h0] at hM
      have hl:=hf.len
      simp only [hl,List.length_nil,show xcm .eql ((0:Nat):Int) 0=true from t_eql rfl,cond_true]
      obtain⟨q1,q2⟩:=fin _ _ _ _ hM
      exact⟨trivial,rfl,7,_,_,_,flt (ln,e,12),riO I.length nl J1.length ln (encL inC I) bx (encL mkC J1) F,[.id 0,.id 1,.id 2,.id 3,.id 4,.id 5,.id 1,.id 9],rfl,rfl,by kernel_rfl,⟨q1,q2⟩,by(exact zC)⟩
    | cons v ws =>
      rw [riS_c h0] at hM
      have hl:=hf.len
      obtain⟨c1,c2,c3,c4,c5,c6,c7⟩:=hf.head
      obtain⟨r1,r2⟩:=hf.rest
      obtain⟨j1,j2⟩:=rsJ_enc (fB x.op) v I.length ln J1
      have j3:=rsJ_len (fB x.op) v I.length ln J1
      have nj2:=noids_mk (rsJ (fB x.op) v I.length ln J1)
      have hv:xle (xsln v.1) 100000=true:=t_le (hw v (by simp))
      simp only [hl,c1,c2,c3,c4,c5,r1,k1,k2,k3,hv,wS,wB,w0,w1,w2,l1,l2,wd_asI,wd_isI,decide_true,show xle 1 1=true from rfl,show xle 2 2=true from rfl,show xcm .eql (((v::ws).length:Nat):Int) 0=false from f_eql (by simp; omega),j1,j2,cond_true,cond_false]
      cases hb:rfB (fB x.op) v.1 with
      | false =>
        rw [hb,if_neg (by simp)] at hM
        simp only [show xnot false=true from rfl,cond_true]
        obtain⟨q1,q2⟩:=fin _ _ _ _ hM
        exact⟨trivial,rfl,7,_,_,_,flt (ln,v.2,12),riO I.length nl (rsJ (fB x.op) v I.length ln J1).length ln (encL inC I) bx (encL mkC (rsJ (fB x.op) v I.length ln J1)) F,[.id 0,.id 1,.id 2,.id 3,.id 4,.id 5,.id 1,.id 10],rfl,rfl,by kernel_rfl,⟨q1,q2⟩,by(exact zC)⟩
      | true =>
        rw [hb,if_pos rfl] at hM
        simp only [show xnot true=false from rfl,cond_false]
        exact⟨rfl,⟨(2,⟨xvsub u 2 1,ws,rsX 1 (fB x.op) v x,rsJ (fB x.op) v I.length ln J1⟩),by omega,r2,fun y hy=>hw y (by simp [hy]),by dsimp only; omega,hM⟩,by dsimp only; omega,[.id 0,.id 1,.id 2,.id 3,.id 4,.id 5,.id 6,.id 7,.id 8,.id 10],by(exact zC)⟩
  | 2,_ =>
    change xcode _ _ 40 92 _ (mkTm 92 (riT u e x.op 2)) _ _
    rw [ri_l2]
    have hM:=hR
    change riS e ln I.length ((2,fC x.op)::(riK x.op).drop 3) ws x J1=RES at hM
    by_cases h0:fC x.op=0
    ·rw [riS_0 h0] at hM
     simp only [show xcm .eql (fC x.op) 0=true from t_eql h0,cond_true]
     exact⟨rfl,⟨(3,⟨u,ws,x,J1⟩),by omega,hf,hw,by dsimp only; omega,hM⟩,by dsimp only; omega,[.id 0,.id 1,.id 2,.id 3,.id 4,.id 5,.id 6,.id 7,.id 8,.id 9],by(exact zC)⟩
    simp only [show xcm .eql (fC x.op) 0=false from f_eql h0,cond_false]
    cases ws with
    | nil =>
      rw [riS_n h0] at hM
      have hl:=hf.len
      simp only [hl,List.length_nil,show xcm .eql ((0:Nat):Int) 0=true from t_eql rfl,cond_true]
      obtain⟨q1,q2⟩:=fin _ _ _ _ hM
      exact⟨trivial,rfl,7,_,_,_,flt (ln,e,12),riO I.length nl J1.length ln (encL inC I) bx (encL mkC J1) F,[.id 0,.id 1,.id 2,.id 3,.id 4,.id 5,.id 1,.id 9],rfl,rfl,by kernel_rfl,⟨q1,q2⟩,by(exact zC)⟩
    | cons v ws =>
      rw [riS_c h0] at hM
      have hl:=hf.len
      obtain⟨c1,c2,c3,c4,c5,c6,c7⟩:=hf.head
      obtain⟨r1,r2⟩:=hf.rest
      obtain⟨j1,j2⟩:=rsJ_enc (fC x.op) v I.length ln J1
      have j3:=rsJ_len (fC x.op) v I.length ln J1
      have nj2:=noids_mk (rsJ (fC x.op) v I.length ln J1)
      have hv:xle (xsln v.1) 100000=true:=t_le (hw v (by simp))
      simp only [hl,c1,c2,c3,c4,c5,r1,k1,k2,k3,hv,wS,wB,w0,w1,w2,l1,l2,wd_asI,wd_isI,decide_true,show xle 1 1=true from rfl,show xle 2 2=true from rfl,show xcm .eql (((v::ws).length:Nat):Int) 0=false from f_eql (by simp; omega),j1,j2,cond_true,cond_false]
      cases hb:rfB (fC x.op) v.1 with
      | false =>
        rw [hb,if_neg (by simp)] at hM
        simp only [show xnot false=true from rfl,cond_true]
        obtain⟨q1,q2⟩:=fin _ _ _ _ hM
        exact⟨trivial,rfl,7,_,_,_,flt (ln,v.2,12),riO I.length nl (rsJ (fC x.op) v I.length ln J1).length ln (encL inC I) bx (encL mkC (rsJ (fC x.op) v I.length ln J1)) F,[.id 0,.id 1,.id 2,.id 3,.id 4,.id 5,.id 1,.id 10],rfl,rfl,by kernel_rfl,⟨q1,q2⟩,by(exact zC)⟩
      | true =>
        rw [hb,if_pos rfl] at hM
        simp only [show xnot true=false from rfl,cond_false]
        exact⟨rfl,⟨(3,⟨xvsub u 2 1,ws,rsX 2 (fC x.op) v x,rsJ (fC x.op) v I.length ln J1⟩),by omega,r2,fun y hy=>hw y (by simp [hy]),by dsimp only; omega,hM⟩,by dsimp only; omega,[.id 0,.id 1,.id 2,.id 3,.id 4,.id 5,.id 6,.id 7,.id 8,.id 10],by(exact zC)⟩
  | 3,_ =>
    change xcode _ _ 40 92 _ (mkTm 92 (riT u e x.op 3)) _ _
    rw [ri_l3]
    have hM:=hR
    change riS e ln I.length ((3,fD x.op)::(riK x.op).drop 4) ws x J1=RES at hM
    by_cases h0:fD x.op=0
    ·rw [riS_0 h0] at hM
     simp only [show xcm .eql (fD x.op) 0=true from t_eql h0,cond_true]
     exact⟨rfl,⟨(4,⟨u,ws,x,J1⟩),by omega,hf,hw,by dsimp only; omega,hM⟩,by dsimp only; omega,[.id 0,.id 1,.id 2,.id 3,.id 4,.id 5,.id 6,.id 7,.id 8,.id 9],by(exact zC)⟩
    simp only [show xcm .eql (fD x.op) 0=false from f_eql h0,cond_false]
    cases ws with
    | nil =>
      rw [riS_n h0] at hM
      have hl:=hf.len
      simp only [hl,List.length_nil,show xcm .eql ((0:Nat):Int) 0=true from t_eql rfl,cond_true]
      obtain⟨q1,q2⟩:=fin _ _ _ _ hM
      exact⟨trivial,rfl,7,_,_,_,flt (ln,e,12),riO I.length nl J1.length ln (encL inC I) bx (encL mkC J1) F,[.id 0,.id 1,.id 2,.id 3,.id 4,.id 5,.id 1,.id 9],rfl,rfl,by kernel_rfl,⟨q1,q2⟩,by(exact zC)⟩
    | cons v ws =>
      rw [riS_c h0] at hM
      have hl:=hf.len
      obtain⟨c1,c2,c3,c4,c5,c6,c7⟩:=hf.head
      obtain⟨r1,r2⟩:=hf.rest
      obtain⟨j1,j2⟩:=rsJ_enc (fD x.op) v I.length ln J1
      have j3:=rsJ_len (fD x.op) v I.length ln J1
      have nj2:=noids_mk (rsJ (fD x.op) v I.length ln J1)
      have hv:xle (xsln v.1) 100000=true:=t_le (hw v (by simp))
      simp only [hl,c1,c2,c3,c4,c5,r1,k1,k2,k3,hv,wS,wB,w0,w1,w2,l1,l2,wd_asI,wd_isI,decide_true,show xle 1 1=true from rfl,show xle 2 2=true from rfl,show xcm .eql (((v::ws).length:Nat):Int) 0=false from f_eql (by simp; omega),j1,j2,cond_true,cond_false]
      cases hb:rfB (fD x.op) v.1 with
      | false =>
        rw [hb,if_neg (by simp)] at hM
        simp only [show xnot false=true from rfl,cond_true]
        obtain⟨q1,q2⟩:=fin _ _ _ _ hM
        exact⟨trivial,rfl,7,_,_,_,flt (ln,v.2,12),riO I.length nl (rsJ (fD x.op) v I.length ln J1).length ln (encL inC I) bx (encL mkC (rsJ (fD x.op) v I.length ln J1)) F,[.id 0,.id 1,.id 2,.id 3,.id 4,.id 5,.id 1,.id 10],rfl,rfl,by kernel_rfl,⟨q1,q2⟩,by(exact zC)⟩
      | true =>
        rw [hb,if_pos rfl] at hM
        simp only [show xnot true=false from rfl,cond_false]
        exact⟨rfl,⟨(4,⟨xvsub u 2 1,ws,rsX 3 (fD x.op) v x,rsJ (fD x.op) v I.length ln J1⟩),by omega,r2,fun y hy=>hw y (by simp [hy]),by dsimp only; omega,hM⟩,by dsimp only; omega,[.id 0,.id 1,.id 2,.id 3,.id 4,.id 5,.id 6,.id 7,.id 8,.id 10],by(exact zC)⟩
  | 4,_ =>
    have hM:=hR
    change (none,ws,x,J1)=RES at hM
    change xcode _ _ 40 92 _ (mkTm 92 (riT u e x.op 4)) _ _
    rw [ri_l4]
    exact⟨rfl,⟨⟨u,ws,x,J1⟩,hf,hw,hj,hM⟩,[.id 0,.id 1,.id 2,.id 3,.id 4,.id 5,.id 6,.id 7,.id 8,.id 9],by(exact zC)⟩
 dsimp only at hf hw hj hR ⊢
 have nj:=noids_mk J1
 refine SSp.last cxRi_ok (n:=40) (mkS_le (Nat.le_of_ble_eq_true rfl)) ?_
 rw [ri_z]
 have l1:∀ (a:LV),xln [a]=1:=fun _=>rfl
 have w2:∀ (a:LV),nthD [a] 0=a:=fun _=>rfl
 rw [← hR] at hz
 cases ws with
 | nil =>
   have hl:=hf.len
   simp only [hl,List.length_nil,show xcm .gtr ((0:Nat):Int) 0=false from f_gtr (Int.le_refl _),show xle (I.length+1) 1000000=true from t_le (by omega),show xle (I.length * 5) (I.length * 5)=true from t_le (Nat.le_refl _),show xeq I.length I.length=true from t_eq rfl,la,wd_add,wd_mul,wd_ln,Nat.zero_add,cond_true,cond_false]
   have pg:=ipush x.op x.a x.b x.c x.n
   have n9:=noids_in (I++[⟨x.op,x.a,x.b,x.c,x.n⟩])
   have l9:(I++[(⟨x.op,x.a,x.b,x.c,x.n⟩:InX)]).length=I.length+1:=by simp
   subst hz
   refine⟨trivial,rfl,7,_,_,flt (0,0,0),flt (0,0,0),riO (I++[(⟨x.op,x.a,x.b,x.c,x.n⟩:InX)]).length nl J1.length ln (encL inC (I++[⟨x.op,x.a,x.b,x.c,x.n⟩])) bx (encL mkC J1) F,[.id 0,.id 1,.id 2,.id 3,.id 4,.id 5,.id 11,.id 9],rfl,rfl,by kernel_rfl,⟨rfl,rfl⟩,?_⟩
   rw [l9,← pg]
   rw [← pg] at n9
   (exact zC)
 | cons v ws =>
   have hl:=hf.len
   obtain⟨c1,c2,c3,c4,c5,c6,c7⟩:=hf.head
   simp only [hl,c1,c4,c5,l1,w2,wd_asI,wd_isI,decide_true,show xle 1 1=true from rfl,show xcm .gtr (((v::ws).length:Nat):Int) 0=true from t_gtr (by first | (simp; done) | (simp; omega)),cond_true]
   subst hz
   exact⟨trivial,rfl,7,_,_,_,flt (ln,v.2,12),riO I.length nl J1.length ln (encL inC I) bx (encL mkC J1) F,[.id 0,.id 1,.id 2,.id 3,.id 4,.id 5,.id 1,.id 9],rfl,rfl,by kernel_rfl,⟨rfl,rfl⟩,by(exact zC)⟩
end
end Go.Lev
