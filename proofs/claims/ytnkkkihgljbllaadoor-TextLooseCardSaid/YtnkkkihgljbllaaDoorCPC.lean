/- text: read -/
import Derived.Test.YtnkkkihgljbllaaDoorCPB
import Derived.Test.YtnkkkihgljbllaaDoorLc
import Derived.Test.YtnkkkihgljbllaaDoorChecked
import Derived.KernelRfl
namespace Go.Lev
set_option linter.unusedSimpArgs false
set_option linter.unusedVariables false
open Go.RowKit
open Go.Proofs.Tryd (prog)
set_option maxRecDepth 100000
noncomputable section
def rdF:List LnS→Nat→List InX→List MkX→List MkX→(Int×Int×Int)×List InX×List MkX×List MkX×Int
 | [],i,I,B,J=>((aimF B J I).1,(aimF B J I).2,B,J,i)
 | L::r,i,I,B,J=>if(rnZ L ((i+1:Nat):Int) I B J).1.2.2≠0 then((rnZ L ((i+1:Nat):Int) I B J).1,(rnZ L ((i+1:Nat):Int) I B J).2.1,(rnZ L ((i+1:Nat):Int) I B J).2.2.1,(rnZ L ((i+1:Nat):Int) I B J).2.2.2,((i+1:Nat):Int))
   else rdF r (i+1) (rnZ L ((i+1:Nat):Int) I B J).2.1 (rnZ L ((i+1:Nat):Int) I B J).2.2.1 (rnZ L ((i+1:Nat):Int) I B J).2.2.2
def rdZ (t:List UInt8):(Int×Int×Int)×List InX×List MkX×List MkX×Int:=rdF (spA t) 0 [] [] []
theorem aimF_len (B:List MkX):∀ (J:List MkX) (I:List InX),(aimF B J I).2.length=I.length
 | [],I=>rfl
 | j::r,I=>by
   unfold aimF
   split
   ·rfl
   ·rw [aimF_len B r,setC_len]
theorem rsJ_mem {k:Int} {w:Wd} {ni:Nat} {ln:Int} {J:List MkX} {j:MkX} (h:j∈rsJ k w ni ln J):j∈J∨j.pl=ni:=by
 unfold rsJ at h
 split at h
 ·rcases List.mem_append.1 h with h | h
  ·exact .inl h
  ·rw [List.mem_singleton.1 h]; exact .inr rfl
 ·exact .inl h
theorem riS_j {e ln:Int} {ni:Nat}:∀ (L:List (Int×Int)) (ws:List Wd) (x:InX) (J:List MkX),(riS e ln ni L ws x J).2.2.2.length≤J.length+L.length∧∀ j∈(riS e ln ni L ws x J).2.2.2,j∈J∨j.pl=ni
 | [],ws,x,J=>by simp [riS]; exact fun j h=>.inl h
 | (i,k)::r,ws,x,J=>by
   by_cases h:k=0
   ·rw [riS_0 h]
    have:=riS_j (e:=e) (ln:=ln) (ni:=ni) r ws x J
    exact⟨by simp; omega,this.2⟩
   ·cases ws with
    | nil=>rw [riS_n h]; exact⟨by simp,fun j h=>.inl h⟩
    | cons w ws =>
      rw [riS_c h]
      have hl:=rsJ_len k w ni ln J
      split
      ·have:=riS_j (e:=e) (ln:=ln) (ni:=ni) r ws (rsX i k w x) (rsJ k w ni ln J)
       refine⟨by simp; omega,fun j hj=>?_⟩
       rcases this.2 j hj with h1 | h1
       ·exact rsJ_mem h1
       ·exact .inr h1
      ·exact⟨by simp; omega,fun j hj=>rsJ_mem hj⟩
theorem riZ_j {s:List UInt8} {w e ln:Int} {ws:List Wd} {I:List InX} {J:List MkX} (hP:JOk I J):(riZ s w ws e ln I J).2.1.length≤I.length+1∧(riZ s w ws e ln I J).2.2.length≤J.length+4∧((riZ s w ws e ln I J).1.2.2=0→JOk (riZ s w ws e ln I J).2.1 (riZ s w ws e ln I J).2.2):=by
 unfold riZ
 split
 ·exact⟨by simp,by simp,fun h=>by simp at h⟩
 ·split
  ·exact⟨by simp,by simp,fun h=>by simp at h⟩
  ·obtain⟨k1,k2⟩:=riS_j (e:=e) (ln:=ln) (ni:=I.length) (riK (opW s)) ws ⟨opW s,0,0,0,0⟩ J
   generalize riS e ln I.length (riK (opW s)) ws ⟨opW s,0,0,0,0⟩ J=R at *
   obtain⟨c,w',x,J'⟩:=R
   cases c with
   | some c=>exact⟨by simp,by simpa using k1,fun h=>by simp at h⟩
   | none =>
     cases w' with
     | nil =>
       refine⟨by simp,by simpa using k1,fun _ j hj=>?_⟩
       rcases k2 j hj with h | h
       ·have:=hP j h
        simp; omega
       ·rw [h]; simp; omega
     | cons v t=>exact⟨by simp,by simpa using k1,fun h=>by simp at h⟩
theorem rnZ_j {L:LnS} {ln:Int} {I:List InX} {B J:List MkX} (hP:JOk I J):(rnZ L ln I B J).2.1.length≤I.length+1∧(rnZ L ln I B J).2.2.1.length≤B.length+1∧(rnZ L ln I B J).2.2.2.length≤J.length+4∧((rnZ L ln I B J).1.2.2=0→JOk (rnZ L ln I B J).2.1 (rnZ L ln I B J).2.2.2):=by
 unfold rnZ
 split
 ·exact⟨by simp,by simp,by simp,fun _=>hP⟩
 ·rename_i v ws _
  split
  ·split
   ·exact⟨by simp,by simp,by simp,fun h=>by simp at h⟩
   ·split
    ·exact⟨by simp,by simp,by simp,fun _=>hP⟩
    ·rename_i v2 ws2 _
     have:=riZ_j (s:=v2.1) (w:=v2.2) (e:=L.e) (ln:=ln) (ws:=ws2) hP
     exact⟨this.1,by simp,this.2.1,this.2.2⟩
  ·have:=riZ_j (s:=v.1) (w:=v.2) (e:=L.e) (ln:=ln) (ws:=ws) hP
   exact⟨this.1,by simp,this.2.1,this.2.2⟩
theorem xscut_len {t:List UInt8} {a b:Nat} (h:a < b) (hb:b≤t.length):1≤(xscut t a b).length∧(xscut t a b).length≤t.length:=by
 simp [xscut]; omega
structure SpB (t:List UInt8) (p:Nat) (S:SpS):Prop where
 s:S.s = -1∨(0≤S.s∧S.s < p)
 w:S.ws.length≤p
 b:∀ x∈S.ws,1≤x.1.length∧x.1.length≤t.length
theorem spW_b {t:List UInt8} {S:SpS} {p:Nat} (h:SpB t p S) (hp:p≤t.length):∀ x∈spW t S p,1≤x.1.length∧x.1.length≤t.length:=by
 unfold spW
 split
 ·exact h.b
 ·rename_i hs
  intro x hx
  rcases List.mem_append.1 hx with hx | hx
  ·exact h.b x hx
  ·rw [List.mem_singleton.1 hx]
   have:=h.s
   exact xscut_len (by unfold xnat; omega) hp
theorem spL_b {t:List UInt8} {S:SpS} {p:Nat} (h:SpB t p S) (hp:p≤t.length):(spL t S p).ws.length≤p+1∧∀ x∈(spL t S p).ws,1≤x.1.length∧x.1.length≤t.length:=by
 have hl:=spW_len (t:=t) (S:=S) (i:=p)
 have hw:=h.w
 unfold spL
 split
 ·exact⟨by simp only; omega,h.b⟩
 ·exact⟨by simp only; omega,spW_b h hp⟩
theorem SpB.next {t:List UInt8} {p:Nat} {S:SpS} (h:SpB t p S) (hp:p < t.length) (r:Int):SpB t (p+xrw t p) (spR t S p r):=by
 have hw:=rn_w hp
 have hl:=spW_len (t:=t) (S:=S) (i:=p)
 have hb:=spW_b h (by omega)
 obtain⟨h1,h2,h3⟩:=h
 unfold spR
 split
 ·exact⟨by simp only; omega,by simp only; omega,h3⟩
 ·split
  ·exact⟨.inl rfl,by simp only; omega,hb⟩
  ·split
   ·exact⟨.inl rfl,by simp only; omega,hb⟩
   ·split
    ·exact⟨by simp only; omega,by simp only; omega,h3⟩
    ·exact⟨by simp only; omega,by simp only; omega,h3⟩
theorem spG_b (t:List UInt8):∀ (n p:Nat) (S:SpS),t.length - p=n→p≤t.length→SpB t p S→(spG t p S).length≤t.length - p+1∧∀ L∈spG t p S,L.ws.length≤t.length+1∧∀ x∈L.ws,1≤x.1.length∧x.1.length≤t.length:=by
 intro n
 induction n using Nat.strongRecOn with
 | _ n ih =>
   intro p S hn hp hS
   rw [spG]
   split
   ·rename_i hlt
    have hw:=rn_w hlt
    split
    ·obtain⟨k1,k2⟩:=ih (t.length - (p+xrw t p)) (by omega) (p+xrw t p) (spN S) rfl hw.2 ⟨.inl rfl,by simp [spN],by simp [spN]⟩
     refine⟨by simp; omega,fun L hL=>?_⟩
     rcases List.mem_cons.1 hL with rfl | hL
     ·have:=spL_b hS hp
      exact⟨by omega,this.2⟩
     ·exact k2 L hL
    ·obtain⟨k1,k2⟩:=ih (t.length - (p+xrw t p)) (by omega) (p+xrw t p) _ rfl hw.2 (hS.next hlt (xrn t p))
     exact⟨by omega,k2⟩
   ·split
    ·refine⟨by simp,fun L hL=>?_⟩
     rw [List.mem_singleton.1 hL]
     obtain rfl:p=t.length:=by omega
     have:=spL_b hS (Nat.le_refl _)
     exact⟨by omega,this.2⟩
    ·exact⟨by simp,fun L hL=>by simp at hL⟩
theorem spA_b (t:List UInt8):(spA t).length≤t.length+1∧∀ L∈spA t,L.ws.length≤t.length+1∧∀ x∈L.ws,1≤x.1.length∧x.1.length≤t.length:=by
 have:=spG_b t _ 0 spZ rfl (Nat.zero_le _) ⟨.inl rfl,by simp [spZ],by simp [spZ]⟩
 exact⟨by have:=this.1; unfold spA; omega,this.2⟩
theorem ln_cell {ls:List LnV} {i:Nat} (h:i < ls.length):((encL lnC ls).drop (i * 2)).take 2=[.val ls[i].v,.int .i64 ls[i].s.e]:=by
 have l:=ln_n ls
 have e0:nthD (encL lnC ls) (i * 2)=.val ls[i].v:=encL_nth lnC_len (j:=0) h (by omega)
 have e1:nthD (encL lnC ls) (i * 2+1)=.int .i64 ls[i].s.e:=encL_nth lnC_len (j:=1) h (by omega)
 unfold nthD at e0 e1
 rw [nth_eq,List.getElem?_eq_getElem (by omega)] at e0 e1
 dsimp only at e0 e1
 rw [List.drop_eq_getElem_cons (by omega),List.take_succ_cons,List.drop_eq_getElem_cons (by omega),List.take_succ_cons,e0,e1]
 simp
structure RdX where
 I:List InX
 B:List MkX
 J:List MkX
structure RdOk (z:(Int×Int×Int)×List InX×List MkX×List MkX×Int) (LS:List LnS) (i:Nat) (X:RdX):Prop where
 le:i≤LS.length
 hI:X.I.length≤i
 hB:X.B.length≤i
 hJ:X.J.length≤4 * i
 hP:JOk X.I X.J
 hR:rdF (LS.drop i) i X.I X.B X.J=z
set_option maxHeartbeats 8000000 in
theorem rd_ok (t:List UInt8) (rest:Glb) (ht:okT t=true):SFun prog 31 [.ptr 0 0,.str t] (mkS [.cells [.nils,.nils,.nils,.int .i64 0] none] (tab2 rest)) fun l st=>l=flt (rdZ t).1∧st=mkS (psH (rdZ t).2.1.length (rdZ t).2.2.1.length (rdZ t).2.2.2.1.length (rdZ t).2.2.2.2 (encL inC (rdZ t).2.1) (encL mkC (rdZ t).2.2.1) (encL mkC (rdZ t).2.2.2.1)) (tab2 rest):=by
 obtain⟨z,hz⟩:∃ z,z=rdZ t:=⟨_,rfl⟩
 rw [← hz]
 refine SFun.mono (SFun.piecesC (Q:=fun l b=>l=flt z.1∧b=psH z.2.1.length z.2.2.1.length z.2.2.2.1.length z.2.2.2.2 (encL inC z.2.1) (encL mkC z.2.2.1) (encL mkC z.2.2.2.1)) 31 1 4 77 rdL (by kernel_rfl) rfl rfl rfl ?_) fun l s' ⟨b0,⟨h1,h2⟩,h3⟩=>⟨h1,by rw [h3,h2]⟩
 obtain⟨t1,t2⟩:=okT_iff.1 ht
 obtain⟨sb1,sb2⟩:=spA_b t
 refine SSp.to cxRd_ok (n:=40) (g:=tab2 rest) 2 2 rfl (σ:=Unit) (fun _=>[(0,.ptr 0 0),(4,.ptr 1 0),(9,.slo 2 0 (spn t) 0),(10,.int .i64 (spn t:Nat)),(11,.int .i64 0)]) (fun _=>[.cells [.nils,.nils,.nils,.int .i64 0] none,.cells [.int .i64 0,.int .i64 0,.int .i64 0] none,.obj (lnO t) [] 3,.dead]) (mkS_le (Nat.le_of_ble_eq_true rfl)) (by kernel_rfl) ?_ fun _=>?_
 ·rw [rd_0]
  simp only [ht,cond_true]
  exact⟨rfl,(),[.id 0,.id 1,.id 2,.id 3],by(exact zC)⟩
 refine SSp.unpack (lnK_ok t) 2 (by kernel_rfl) (Nat.le_of_ble_eq_true rfl) rfl fun⟨⟨q,ls⟩,hS,hn,hne⟩ _=>?_
 have hsp:spn t=ls.length:=by rw [spn,← hn,List.length_map]
 rw [hsp]
 refine SSp.absorb 9 2 4 (γ:=5) (n:=ls.length) (cs:=encL lnC ls) (op:=some 2) (q:=q) (by kernel_rfl) (Nat.le_of_ble_eq_true rfl) (by omega) rfl rfl rfl (noids_ln ls) (fun h=>by rw [List.length_eq_zero_iff.1 h]; rfl) fun v q1 hq1=>?_
 refine SSp.known 6 (γ:=7) (q:=q1) (by kernel_rfl) rfl fun hW=>?_
 have hpos:1≤ls.length:=by
  rw [← hn] at hne
  cases ls with
  | nil=>simp at hne
  | cons x r=>simp
 obtain⟨F,e,he⟩:=q1
 dsimp only at hq1 hW
 cases e with
 | true =>
   obtain⟨W,_⟩:=hW
   have h0:=he rfl { W with heap:=#[] }
   rw [hq1] at h0
   rcases h0.2 with⟨_,h,_⟩ | ⟨B,o,cap,c,e,f,_,_,h,_⟩
   ·omega
   ·simp at h
 | false =>
 have hF:∀ W,F W→RowArg W v ls.length (encL lnC ls):=fun W h=>by rw [hq1] at h; exact h.2
 have hL:∀ x∈ls,FcW F x.v x.s.ws:=fun x hx=>⟨hW,fun W h=>by rw [hq1] at h; exact hS.c W h.1 x hx⟩
 have hmap:∀ (i:Nat) (h:i < ls.length),(spA t).drop i=ls[i].s::(spA t).drop (i+1):=fun i h=>by
  have h2:i < (spA t).length:=by rw [← hn]; simpa using h
  rw [List.drop_eq_getElem_cons h2]
  congr 1
  simp only [← hn,List.getElem_map]
 have hlen:(spA t).length=ls.length:=by rw [← hn,List.length_map]
 change SSp _ _ _ _ (mkTm 31 [(9,.val v),(0,.ptr 0 0),(4,.ptr 1 0),(9,.slo 2 0 ls.length 0),(10,.int .i64 (ls.length:Nat)),(11,.int .i64 0)]) (mkS [.cells [.nils,.nils,.nils,.int .i64 0] none,.cells [.int .i64 0,.int .i64 0,.int .i64 0] none,.dead,.dead,.dead,.dead,.obj stF [.fact F] 7,.dead] (tab2 rest)) _
 refine SSp.to cxRd_ok (n:=40) (g:=tab2 rest) 0 2 rfl (σ:=Unit) (fun _=>rdT v ls.length 0) (fun _=>rdH 0 0 0 0 [] [] [] F) (mkS_le (Nat.le_of_ble_eq_true rfl)) (by kernel_rfl) ?_ fun _=>?_
 ·rw [rd_y t]
  exact⟨rfl,(),[.id 0,.id 1,.id 6,.id 7,.none,.none,.none],by(exact zC)⟩
 refine SSp.code_to (g:=tab2 rest) 3 rfl (σ:={X:RdX // RdOk z (spA t) ls.length X}) (fun _=>rdT v ls.length ls.length) (fun X=>rdH X.1.I.length X.1.B.length X.1.J.length (ls.length:Nat) (encL inC X.1.I) (encL mkC X.1.B) (encL mkC X.1.J) F) (by kernel_rfl) ?_ fun⟨X,hX⟩=>?_
 ·refine SCode.loop_vc cxRd_ok (n:=40) (n0:=1) 0 (by kernel_rfl) (σ:={p:Nat×RdX // RdOk z (spA t) p.1 p.2}) (fun p=>rdT v ls.length p.1.1) (fun p=>rdH p.1.2.I.length p.1.2.B.length p.1.2.J.length (p.1.1:Nat) (encL inC p.1.2.I) (encL mkC p.1.2.B) (encL mkC p.1.2.J) F) (fun p=>ls.length - p.1.1) (fun _=>Nat.le_of_ble_eq_true rfl) (fun⟨⟨i,⟨I,B,J⟩⟩,hX⟩=>?_) ⟨(0,⟨[],[],[]⟩),Nat.zero_le _,Nat.le_refl _,Nat.le_refl _,Nat.le_refl _,fun j hj=>by simp at hj,hz.symm⟩
  have hi:=hX.le; have hI:=hX.hI; have hB:=hX.hB; have hJ:=hX.hJ; have hP:=hX.hP; have hR:=hX.hR
  dsimp only at hi hI hB hJ hP hR ⊢
  have na:=noids_in I; have nb:=noids_mk B; have nc:=noids_mk J
  rw [rd_l]
  by_cases h:i < ls.length
  ·have hM:=hR
   rw [hmap i h,rdF] at hM
   have hx:=List.getElem_mem h
   have hsb:=sb2 ls[i].s (by rw [← hn]; exact List.mem_map_of_mem hx)
   have hw:WsP F ls[i].v ls[i].s.ws:=⟨hL _ hx,by omega,fun y hy=>⟨(hsb.2 y hy).1,by have:=(hsb.2 y hy).2; omega⟩⟩
   obtain⟨k1,k2⟩:=vrow_eq hW hF (can_ln ls) (k:=i * 2) (m:=2) (by rw [ln_n]; omega) (by omega)
   rw [ln_cell h] at k2
   obtain⟨W,hWW⟩:=hW
   have kx:=vidx_row (hF W hWW) h
   have wV:∀ y,asV (.val y)=y:=fun _=>rfl
   have wU:∀ y,isV (.val y)=true:=fun _=>rfl
   have w0:∀ (a b:LV),nthD [a,b] 0=a:=fun _ _=>rfl
   have w1:∀ (a b:LV),nthD [a,b] 1=b:=fun _ _=>rfl
   have l2:∀ (a b:LV),xln [a,b]=2:=fun _ _=>rfl
   have e3:xar .add .i64 (i:Int) 1=((i+1:Nat):Int):=inc_i64 h (by omega)
   have ev:rnV F ls[i].v ls[i].s.e ((i+1:Nat):Int) (encL inC I) (encL mkC B) (encL mkC J)=rnZ ls[i].s ((i+1:Nat):Int) I B J:=by rw [rnV,wsOf_eq hw,inD_enc,mkD_enc,mkD_enc]
   obtain⟨p1,p2,p3,p4⟩:=rnZ_j (L:=ls[i].s) (ln:=((i+1:Nat):Int)) (B:=B) hP
   generalize rnZ ls[i].s ((i+1:Nat):Int) I B J=R at *
   have nR1:=noids_in R.2.1; have nR2:=noids_mk R.2.2.1; have nR3:=noids_mk R.2.2.2
   simp only [show xcm .lss ((i:Nat):Int) ((ls.length:Nat):Int)=true from t_lss (by omega),wd_nat,wd_mul,kx,k1,k2,l2,show xle 2 2=true from rfl,w0,w1,wV,wU,wd_asI,wd_isI,decide_true,okIn_enc (show I.length≤100000 by omega),okMk_enc (show B.length≤100000 by omega),okMk_enc (show J.length≤100000 by omega),okWs_iff.2 ⟨_,hw⟩,show xle I.length 99980=true from t_le (by omega),show xle B.length 99980=true from t_le (by omega),show xle J.length 99980=true from t_le (by omega),isF_self,e3,rnL1,rnC1,rnE1,rnNi,rnNl,rnNj,rnAx,rnBx,rnCx,ev,cond_true]
   by_cases hE:R.1.2.2=0
   ·rw [if_neg (by rw [hE]; simp)] at hM
    simp only [show xcm .neq R.1.2.2 0=false from f_neq hE,cond_false]
    exact⟨rfl,⟨(i+1,⟨R.2.1,R.2.2.1,R.2.2.2⟩),⟨by dsimp only; omega,by dsimp only; omega,by dsimp only; omega,by dsimp only; omega,p4 hE,hM⟩⟩,by dsimp only; omega,[.id 0,.id 1,.id 2,.id 3,.id 8,.id 9,.id 10],by(exact zC)⟩
   ·rw [if_pos hE] at hM
    simp only [show xcm .neq R.1.2.2 0=true from t_neq hE,cond_true]
    refine⟨trivial,rfl,1,_,_,flt R.1,flt R.1,psH R.2.1.length R.2.2.1.length R.2.2.2.length ((i+1:Nat):Int) (encL inC R.2.1) (encL mkC R.2.2.1) (encL mkC R.2.2.2),[.id 0,.id 8,.id 9,.id 10],rfl,rfl,by kernel_rfl,⟨by rw [← hM],by rw [← hM]⟩,by(exact zC)⟩
  ·simp only [show xcm .lss ((i:Nat):Int) ((ls.length:Nat):Int)=false from f_lss (by omega),cond_false]
   have ei:i=ls.length:=by omega
   have hM:=hX
   subst ei
   exact⟨rfl,⟨⟨I,B,J⟩,hM⟩,[.id 0,.id 1,.id 2,.id 3,.id 4,.id 5,.id 6],by(exact zC)⟩
 obtain⟨I,B,J⟩:=X
 have hi:=hX.le; have hI:=hX.hI; have hB:=hX.hB; have hJ:=hX.hJ; have hP:=hX.hP; have hR:=hX.hR
 dsimp only at hi hI hB hJ hP hR ⊢
 have na:=noids_in I; have nb:=noids_mk B; have nc:=noids_mk J
 refine SSp.last cxRd_ok (n:=40) (mkS_le (Nat.le_of_ble_eq_true rfl)) ?_
 rw [rd_z]
 rw [List.drop_of_length_le (by omega),rdF] at hR
 have n5:=noids_in (aimF B J I).2
 have kj:okJ (encL inC I) (encL mkC J)=true:=by simp only [okJ,decide_eq_true_eq,inD_enc,mkD_enc]; exact hP
 have hlI:(aimF B J I).2.length=I.length:=aimF_len B J I
 simp only [okIn_enc (show I.length≤100000 by omega),okMk_enc (show B.length≤100000 by omega),okMk_enc (show J.length≤100000 by omega),kj,aiL1,aiC1,aiE1,aiAx,inD_enc,mkD_enc,cond_true]
 refine⟨trivial,rfl,1,_,_,flt (aimF B J I).1,flt (aimF B J I).1,psH I.length B.length J.length (ls.length:Nat) (encL inC (aimF B J I).2) (encL mkC B) (encL mkC J),[.id 0,.id 4,.id 5,.id 6],rfl,rfl,by kernel_rfl,⟨by rw [← hR],by rw [← hR]; dsimp only; rw [hlI]⟩,by(exact zC)⟩
end
end Go.Lev
