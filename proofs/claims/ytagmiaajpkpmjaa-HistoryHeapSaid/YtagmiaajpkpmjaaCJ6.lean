/- chapter 29: insertion sort -/
import Derived.Test.YtagmiaajpkpmjaaCJ5
import Derived.Test.YtagmiaajpkpmjaaLc
import Derived.Test.YtagmiaajpkpmjaaChecked
import Derived.KernelRfl
namespace Go.Lev
set_option linter.unusedSimpArgs false
set_option linter.unusedVariables false
open Go.RowKit
open Go.Proofs.Try (prog)
set_option maxRecDepth 100000
noncomputable section
def insJ (lt:Nat→Nat→Bool):Nat→List Nat→List Nat
 | 0,xs=>xs
 | j+1,xs=>if lt (xs.getD (j+1) 0) (xs.getD j 0)=true then insJ lt j ((xs.set (j+1) (xs.getD j 0)).set j (xs.getD (j+1) 0)) else xs
def srt (lt:Nat→Nat→Bool) (n:Nat):Nat→List Nat
 | 0=>List.range n
 | i+1=>insJ lt i (srt lt n i)
theorem set_gn {l:List Nat} {i j y:Nat} (h:i < l.length):(l.set i y).getD j 0=if i=j then y else l.getD j 0:=by
 by_cases e:i=j
 ·subst e; simp [List.getD_eq_getElem?_getD,h]
 ·simp [List.getD_eq_getElem?_getD,List.getElem?_set_ne e,e]
structure Plc (n:Nat) (xs:List Nat):Prop where
 l:xs.length=n
 b:∀ i,i < n→xs.getD i 0 < n
 u:∀ i k,i < n→k < n→xs.getD i 0=xs.getD k 0→i=k
theorem Plc.swap {n j:Nat} {xs:List Nat} (h:Plc n xs) (hj:j+1 < n):Plc n ((xs.set (j+1) (xs.getD j 0)).set j (xs.getD (j+1) 0)):=by
 have hl:=h.l
 have g:∀ i,((xs.set (j+1) (xs.getD j 0)).set j (xs.getD (j+1) 0)).getD i 0=xs.getD (if i=j then j+1 else if i=j+1 then j else i) 0:=fun i=>by
  rw [set_gn (by simp; omega),set_gn (by omega)]
  by_cases e:i=j
  ·rw [if_pos e.symm,if_pos e]
  ·rw [if_neg (Ne.symm e),if_neg e]
   by_cases e2:i=j+1
   ·rw [if_pos e2.symm,if_pos e2]
   ·rw [if_neg (Ne.symm e2),if_neg e2]
 refine⟨by simp [hl],fun i hi=>?_,fun i k hi hk e=>?_⟩
 ·rw [g]
  refine h.b _ ?_
  split
  ·omega
  ·split <;> omega
 ·rw [g,g] at e
  have:=h.u _ _ (by split; omega; split <;> omega) (by split; omega; split <;> omega) e
  split at this <;> split at this <;> (try split at this) <;> (try split at this) <;> omega
theorem insJ_pl {lt:Nat→Nat→Bool} {n:Nat}:∀ (j:Nat) (xs:List Nat),j < n→Plc n xs→Plc n (insJ lt j xs)
 | 0,xs,_,h=>h
 | j+1,xs,hj,h=>by
   rw [insJ]; split
   ·exact insJ_pl j _ (by omega) (h.swap hj)
   ·exact h
theorem srt_pl {lt:Nat→Nat→Bool} {n:Nat}:∀ i,i≤n→Plc n (srt lt n i)
 | 0,_=>⟨by simp [srt],fun i hi=>by simp [srt,List.getD_eq_getElem?_getD,hi],fun i k hi hk e=>by simpa [srt,List.getD_eq_getElem?_getD,hi,hk] using e⟩
 | i+1,h=>insJ_pl i _ (by omega) (srt_pl i (by omega))
abbrev nI:Nat→List LV:=fun x=>[.int .i64 x]
theorem nI_len (x:Nat):(nI x).length=1:=rfl
theorem nI_n (xs:List Nat):(encL nI xs).length=xs.length:=by rw [encL_length nI_len]; omega
theorem noids_nI (xs:List Nat):noIds (encL nI xs)=true:=noIds_encL (fun _=>rfl) xs
theorem nI_0 {xs:List Nat} {i:Nat} (h:i < xs.length):nthD (encL nI xs) i=.int .i64 (xs.getD i 0:Nat):=by
 have:=encL_nth nI_len (j:=0) h (by omega)
 simp only [Nat.mul_one,Nat.add_zero] at this
 rw [this,List.getD_eq_getElem?_getD,List.getElem?_eq_getElem h]; rfl
theorem nI_set {xs:List Nat} {i:Nat} (h:i < xs.length) (y:Nat):xlay (encL nI xs) i [.int .i64 y]=encL nI (xs.set i y):=by
 have:=encL_set nI_len xs i y h
 rw [Nat.mul_one] at this; exact this
theorem at_at {ats:List AtV} {p:Nat} (h:p < ats.length):∃ P,ats[p]? = some P∧nthD (encL atC ats) (p * 14)=.int .i64 0∧nthD (encL atC ats) (p * 14+1)=.int .i64 0∧nthD (encL atC ats) (p * 14+1+1)=.int .i64 0∧nthD (encL atC ats) (p * 14+1+1+1)=.bool false∧nthD (encL atC ats) (p * 14+1+1+1+1)=.int .i64 P.k∧nthD (encL atC ats) (p * 14+1+1+1+1+1)=.int .i64 0∧nthD (encL atC ats) (p * 14+1+1+1+1+1+1)=.int .u64 0∧nthD (encL atC ats) (p * 14+1+1+1+1+1+1+1)=.int .u64 P.s∧nthD (encL atC ats) (p * 14+1+1+1+1+1+1+1+1)=.int .i64 P.b∧nthD (encL atC ats) (p * 14+1+1+1+1+1+1+1+1+1)=.int .i64 P.e∧nthD (encL atC ats) (p * 14+1+1+1+1+1+1+1+1+1+1)=.val P.r∧nthD (encL atC ats) (p * 14+1+1+1+1+1+1+1+1+1+1+1)=.val P.c∧nthD (encL atC ats) (p * 14+1+1+1+1+1+1+1+1+1+1+1+1)=.val (.slice none 0 0)∧nthD (encL atC ats) (p * 14+1+1+1+1+1+1+1+1+1+1+1+1+1)=.str []:=by
 refine⟨_,List.getElem?_eq_getElem h,encL_nth atC_len (j:=0) h (by omega),encL_nth atC_len (j:=1) h (by omega),encL_nth atC_len (j:=2) h (by omega),encL_nth atC_len (j:=3) h (by omega),encL_nth atC_len (j:=4) h (by omega),encL_nth atC_len (j:=5) h (by omega),encL_nth atC_len (j:=6) h (by omega),encL_nth atC_len (j:=7) h (by omega),encL_nth atC_len (j:=8) h (by omega),encL_nth atC_len (j:=9) h (by omega),encL_nth atC_len (j:=10) h (by omega),encL_nth atC_len (j:=11) h (by omega),encL_nth atC_len (j:=12) h (by omega),encL_nth atC_len (j:=13) h (by omega)⟩
theorem atC_n (ats:List AtV):(encL atC ats).length=ats.length * 14:=encL_length atC_len ats
def cmC (c:List LV) (x y:Nat):Int:=cmW (asI (nthD c (x * 14+4))) (asI (nthD c (x * 14+7))) (asI (nthD c (x * 14+8))) (asV (nthD c (x * 14+11))) (asI (nthD c (y * 14+4))) (asI (nthD c (y * 14+7))) (asI (nthD c (y * 14+8))) (asV (nthD c (y * 14+11)))
def ltC (c:List LV) (x y:Nat):Bool:=decide (cmC c x y < 0)
set_option maxHeartbeats 8000000 in
theorem is_ok (ats:List AtV) (F:World→Prop) (h2:ats.length≤1000):SFun prog 24 [.slo 2 0 ats.length 0,.int .i64 0,.int .i64 ats.length,iF] (mkS (iH ats.length (encL atC ats) (encL nI (List.range ats.length))) (factG F)) fun l s=>l=.tup []∧s=mkS (iH ats.length (encL atC ats) (encL nI (srt (ltC (encL atC ats)) ats.length ats.length))) (factG F):=by
 refine SFun.mono (SFun.pieces (Q:=fun l b=>l=.tup []∧b=iH ats.length (encL atC ats) (encL nI (srt (ltC (encL atC ats)) ats.length ats.length))) 53 3 iL [] (by kernel_rfl) rfl rfl rfl ?_) fun l s' ⟨b0,⟨h1,h2⟩,h3⟩=>⟨h1,by rw [h3,h2]⟩
 have na:=noids_aC ats; have la:=atC_n ats
 have ga:=fun {p:Nat} (h:p < ats.length)=>at_at h
 generalize encL atC ats=ax at *
 generalize hn:ats.length=n at *
 obtain⟨lt,hlt⟩:∃ lt,lt=ltC ax:=⟨_,rfl⟩
 rw [← hlt]
 have SZ:∀ i,(srt lt n i).length=n→noIds (encL nI (srt lt n i))=true:=fun i _=>noids_nI _
 have cmE:∀ {p q:Nat} {P Q:AtV} (hp:p < n) (hq:q < n),ats[p]? = some P→ats[q]? = some Q→cmC ax p q=cmW P.k P.s P.b P.c Q.k Q.s Q.b Q.c:=fun {p q P Q} hp hq eP eQ=>by
  obtain⟨P',eP',p0,p1,p2,p3,p4,p5,p6,p7,p8,p9,p10,p11,p12,p13⟩:=ga hp
  obtain⟨Q',eQ',q0,q1,q2,q3,q4,q5,q6,q7,q8,q9,q10,q11,q12,q13⟩:=ga hq
  rw [eP] at eP'; cases eP'
  rw [eQ] at eQ'; cases eQ'
  show cmW (asI (nthD ax (p * 14+1+1+1+1))) (asI (nthD ax (p * 14+1+1+1+1+1+1+1))) (asI (nthD ax (p * 14+1+1+1+1+1+1+1+1))) (asV (nthD ax (p * 14+1+1+1+1+1+1+1+1+1+1+1))) (asI (nthD ax (q * 14+1+1+1+1))) (asI (nthD ax (q * 14+1+1+1+1+1+1+1))) (asI (nthD ax (q * 14+1+1+1+1+1+1+1+1))) (asV (nthD ax (q * 14+1+1+1+1+1+1+1+1+1+1+1)))=_
  rw [p4,p7,p8,p11,q4,q7,q8,q11]; rfl
 refine SSp.to cxi_ok (n:=60) (g:=factG F) 1 1 rfl (σ:=Unit) (fun _=>iT0 n 1) (fun _=>iH n ax (encL nI (srt lt n 1))) (mkS_le (Nat.le_of_ble_eq_true rfl)) (by kernel_rfl) ?_ fun _=>?_
 ·have no:=noids_nI (List.range n)
  have e1:srt lt n 1=List.range n:=rfl
  rw [is_0,e1]; exact⟨rfl,(),[.id 0,.id 1,.id 2],by(exact zC)⟩
 try dsimp only
 refine SSp.code_last (by kernel_rfl) ?_
 refine SCode.loop_sp 0 (by kernel_rfl) (σ:={i:Nat // 1≤i∧(i≤n∨i=1)}) (fun i=>iT0 n i.1) (fun i=>iH n ax (encL nI (srt lt n i.1))) (fun i=>n - i.1) (fun _=>Nat.le_of_ble_eq_true rfl) (fun⟨i,hi⟩=>?_) ⟨1,Nat.le_refl _,.inr rfl⟩
 dsimp only
 have no:=noids_nI (srt lt n i)
 refine SSp.to cxi_ok (n:=60) (g:=factG F) 2 2 rfl (σ:={_u:Unit // i < n}) (fun _=>iT0 n i) (fun _=>iH n ax (encL nI (srt lt n i))) (mkS_le (Nat.le_of_ble_eq_true rfl)) (by kernel_rfl) ?_ fun⟨_,h0⟩=>?_
 ·rw [is_a]
  by_cases h0:i < n
  ·have y0:xcm .lss ((i:Nat):Int) ((n:Nat):Int)=true:=t_lss (by omega)
   simp only [y0,cond_true]
   exact⟨rfl,⟨(),h0⟩,[.id 0,.id 1,.id 2],by(exact zC)⟩
  ·have y0:xcm .lss ((i:Nat):Int) ((n:Nat):Int)=false:=f_lss (by omega)
   have ei:srt lt n i=srt lt n n:=by
    by_cases e:i=n
    ·rw [e]
    ·obtain⟨rfl,rfl⟩:i=1∧n=0:=by omega
     rfl
   rw [ei] at no ⊢
   simp only [y0,cond_false]
   exact⟨trivial,rfl,_,_,[.id 0,.id 1,.id 2],⟨rfl,rfl⟩,by(exact zC)⟩
 try dsimp only
 have pl:=srt_pl (lt:=lt) i (by omega:i≤n)
 refine SSp.code_to (g:=factG F) 3 rfl (σ:=Unit) (fun _=>iT0 n i) (fun _=>iH n ax (encL nI (srt lt n (i+1)))) (by kernel_rfl) ?_ fun _=>?_
 ·refine SCode.block_sp 1 (by kernel_rfl) ?_
  refine SSp.to cxi_ok (n:=60) (g:=factG F) 1 1 rfl (σ:=Unit) (fun _=>iT1 n i i) (fun _=>iH n ax (encL nI (srt lt n i))) (mkS_le (Nat.le_of_ble_eq_true rfl)) (by kernel_rfl) ?_ fun _=>?_
  ·rw [is_b]; exact⟨rfl,(),[.id 0,.id 1,.id 2],by(exact zC)⟩
  try dsimp only
  refine SSp.code_last (by kernel_rfl) ?_
  refine SCode.loop_vc cxi_ok (n:=60) (n0:=3) 2 (by kernel_rfl) (σ:={q:Nat×List Nat // q.1≤i∧Plc n q.2∧insJ lt q.1 q.2=srt lt n (i+1)}) (fun q=>iT1 n i q.1.1) (fun q=>iH n ax (encL nI q.1.2)) (fun q=>q.1.1) (fun _=>Nat.le_of_ble_eq_true rfl) (fun⟨⟨j,xs⟩,hq⟩=>?_) ⟨(i,srt lt n i),Nat.le_refl _,pl,rfl⟩
  dsimp only at hq ⊢
  have nx:=noids_nI xs; have lx:=nI_n xs
  cases j with
  | zero =>
    have ex:xs=srt lt n (i+1):=hq.2.2
    have y0:xcm .gtr ((0:Nat):Int) 0=false:=f_gtr (by omega)
    rw [is_c]
    simp only [y0,cond_false]
    refine⟨rfl,(),[.id 0,.id 1,.id 2],?_⟩
    rw [← ex]; (exact zC)
  | succ j =>
    obtain⟨c1,c2,c3⟩:=hq
    have cl:=c2.l
    have y0:xcm .gtr ((j+1:Nat):Int) 0=true:=t_gtr (by omega)
    have e1:xar .sub .i64 ((j+1:Nat):Int) 1=((j:Nat):Int):=by rw [sub_i64 (by omega) (by omega)]; omega
    have w0:nthD (encL nI xs) (j+1)=.int .i64 (xs.getD (j+1) 0:Nat):=nI_0 (by omega)
    have w1:nthD (encL nI xs) j=.int .i64 (xs.getD j 0:Nat):=nI_0 (by omega)
    have b0:=c2.b (j+1) (by omega)
    have b1:=c2.b j (by omega)
    have s1:=nI_set (xs:=xs) (i:=j+1) (by omega) (xs.getD j 0)
    have s2:=nI_set (xs:=xs.set (j+1) (xs.getD j 0)) (i:=j) (by simp; omega) (xs.getD (j+1) 0)
    have ls:=nI_n (xs.set (j+1) (xs.getD j 0))
    have ns:=noids_nI ((xs.set (j+1) (xs.getD j 0)).set j (xs.getD (j+1) 0))
    rw [List.length_set] at ls
    have pls:=c2.swap (j:=j) (by omega)
    rw [insJ] at c3
    obtain⟨p,hp⟩:∃ p,p=xs.getD (j+1) 0:=⟨_,rfl⟩
    obtain⟨q,hq⟩:∃ q,q=xs.getD j 0:=⟨_,rfl⟩
    rw [← hp] at w0 b0 s2 ns pls c3
    rw [← hq] at w1 b1 s1 s2 ls ns pls c3
    have el:lt p q=decide (cmC ax p q < 0):=by rw [hlt]; rfl
    obtain⟨P,eP,p0,p1,p2,p3,p4,p5,p6,p7,p8,p9,p10,p11,p12,p13⟩:=ga b0
    obtain⟨Q,eQ,q0,q1,q2,q3,q4,q5,q6,q7,q8,q9,q10,q11,q12,q13⟩:=ga b1
    rw [cmE b0 b1 eP eQ] at el
    have hS0:isS (.str [])=true:=rfl
    have z0:xle (j+1+1) n=true:=t_le (by omega)
    have z1:xle (j+1) n=true:=t_le (by omega)
    have z2:xle (p+1) n=true:=t_le (by omega)
    have z3:xle (q+1) n=true:=t_le (by omega)
    have z4:xle (p * 14+14) (n * 14)=true:=t_le (by omega)
    have z5:xle (q * 14+14) (n * 14)=true:=t_le (by omega)
    rw [is_c]
    simp only [y0,e1,w0,w1,z0,z1,z2,z3,z4,z5,la,lx,cl,wd_nat,wd_nn,wd_ix,wd_mul,wd_add,wd_ln,Nat.zero_add,Nat.mul_one,wd_asI,wd_isI,decide_true,cond_true,p0,p1,p2,p3,p4,p5,p6,p7,p8,p9,p10,p11,p12,p13,q0,q1,q2,q3,q4,q5,q6,q7,q8,q9,q10,q11,q12,q13,wd_asB,wd_isB,wd_asV,wd_isV,hS0]
    by_cases hc:cmW P.k P.s P.b P.c Q.k Q.s Q.b Q.c < 0
    ·have y1:xcm .lss (cmW P.k P.s P.b P.c Q.k Q.s Q.b Q.c) 0=true:=t_lss hc
     rw [decide_eq_true hc] at el
     rw [if_pos el] at c3
     simp only [y1,s1,s2,ls,cl,z1,wd_ln,cond_true]
     exact⟨rfl,⟨(j,(xs.set (j+1) q).set j p),by dsimp only; omega,pls,c3⟩,by dsimp only; omega,[.id 0,.id 1,.id 2],by(exact zC)⟩
    ·have y1:xcm .lss (cmW P.k P.s P.b P.c Q.k Q.s Q.b Q.c) 0=false:=f_lss (by omega)
     rw [decide_eq_false hc] at el
     rw [if_neg (by rw [el]; simp)] at c3
     simp only [y1,cond_false]
     refine⟨rfl,(),[.id 0,.id 1,.id 2],?_⟩
     rw [← c3]; (exact zC)
 try dsimp only
 have no2:=noids_nI (srt lt n (i+1))
 have e3:xar .add .i64 (i:Int) 1=((i+1:Nat):Int):=inc_i64 h0 (by omega)
 refine zE cxi_ok ?_
 rw [is_d,e3]
 exact⟨rfl,⟨i+1,by omega,.inl h0⟩,by dsimp only; omega,[.id 0,.id 1,.id 2],by(exact zC)⟩
end
end Go.Lev
