/- ArenaParts (P11.2 to P11.4): for any size of heap and any asks the law returns true; what was there stays as it was. No condition. -/
import Derived.Test.YtopbikapcboigaaCQ10
import Derived.Test.YtopbikapcboigaaLc
import Derived.Test.YtopbikapcboigaaChecked
import Derived.KernelRfl
import Derived.Test.YtopbikapcboigaaLc
namespace Go.Lev
set_option linter.unusedSimpArgs false
set_option linter.unusedVariables false
open Go.RowKit
open Go.Proofs.Try (prog)
set_option maxRecDepth 100000
noncomputable section
set_option maxHeartbeats 4000000 in
theorem parts_loop (xs:List AqR) (sz:Nat) (hm:xs.length≤9223372036854775807) (hs:32≤sz) (hs2:sz≤256) (q0:ApS sz):SCode prog 141 (nthC apS 6) 1 (mkTm 141 (apT xs.length sz q0.1.1)) (mkS (apH (encL aqE xs) (encL (cI .u64) q0.1.2.1) (encL (cI .i64) q0.1.2.2)))
  (vK apL (toK (σ:=ApS sz) 1 141 apL [] (fun q=>apT xs.length sz q.1.1) (fun q=>apH (encL aqE xs) (encL (cI .u64) q.1.2.1) (encL (cI .i64) q.1.2.2)) (endK 1 [4] apL [] (fun l _=>l=.bool true)))):=by
 refine SCode.loop_vc cxap_ok (n:=80) 0 (by kernel_rfl) (σ:=ApS sz) (fun q=>apT xs.length sz q.1.1) (fun q=>apH (encL aqE xs) (encL (cI .u64) q.1.2.1) (encL (cI .i64) q.1.2.2)) (fun q=>60 - q.1.1) (fun _=>Nat.le_of_ble_eq_true rfl) (fun⟨⟨i,ws,st⟩,h1,h2,h3⟩=>?_) q0
 dsimp only at h1 h2 h3 ⊢
 have nx:=aq_noids xs; have lx:=aq_n xs
 have nw:=noIds_Iu64 ws; have nst:=noIds_Ii64 st; have lst':=encIi64_len st
 obtain⟨_,_,_,I⟩:=h3.2
 have sl:=I.sl
 clear I
 have eq0:szQ sz=sz:=by unfold szQ szF; omega
 have ekc:vhC (encL (cI .u64) ws) sz=kW ws sz:=by rw [vhC,decIu64_enc,show szF sz=sz from eq0]
 have enc:vhN sz=(vhS ws (sz - 1)).length:=by rw [vhS_len]; show szF sz - 1=_; rw [show szF sz=sz from eq0]
 have hkc:OkK sz (vhS ws (sz - 1)):=okK_wh ws sz (sz - 1) hs2 (by omega)
 have o1:okIu64 (encL (cI .u64) ws) sz=true:=by have:=okIu64_enc (xs:=ws) (by omega); rwa [h2] at this
 have o2:xle sz 1000000=true:=t_le (by omega)
 have o3:okK sz (vhN sz) (kW ws sz)=true:=by rw [enc]; exact okK_enc hkc
 have nk:noIds (kW ws sz)=true:=noids_c _
 have ns:=spW_noids sz (kW ws sz)
 have f1:=isF_self lvF
 have in0:inK []:=fun x hx=>(by cases hx)
 rw [ap_b]; simp only [ap_b_b1,ap_b_b2,ap_b_b3]
 simp only [eq0,ekc,eNew]
 by_cases c1:i < xs.length
 ·by_cases c2:i < 60
  ·have e3:xar .add .i64 (i:Int) 1=((i+1:Nat):Int):=inc_i64 c1 (by omega)
   have e4:=aq_0 c1; have e5:=aq_1 c1
   generalize xs[i].k=K0 at *
   generalize xs[i].a=A0 at *
   obtain⟨w1,w2⟩:=wthV_in (a:=A0) (lo:=1) (hi:=255) (by omega)
   obtain⟨v1,v2⟩:=wthV_in (a:=A0) (lo:=1) (hi:=16) (by omega)
   generalize eb:wthV A0 1 255=b0 at *
   generalize eS:wthV A0 1 16=S at *
   obtain⟨b,rfl⟩:∃ b:Nat,b0=(b:Int):=⟨b0.toNat,by omega⟩
   have gb:nthD (encL (cI .i64) st) b=.int .i64 (st.getD b 0):=s_nth (by omega)
   generalize eK:wthV K0 0 5=kk at *
   have same:=ap_same h3
   obtain⟨z1,z2,z3,z4,z5⟩:=lvf (us:=ws) (p:=[]) [] trivial in0 (by simp) (by simp)
   simp only [List.length_nil] at z2 z4
   have nz:=noIds_Iu64 (nxt ws [])
   have nc0:=noids_c ([]:CL)
   by_cases kA:kk=0
   ·subst kA
    by_cases s1:st.getD b 0=1
    ·obtain⟨c,d1,d2,d3,d4,d5,P⟩:=ap_free h3 s1
     obtain⟨r1,r2,r3,r4,r5⟩:=fr_go (us:=ws) (sz:=sz) (most:=96) (p:=[]) (fr:=[]) (a:=(b:Int)) (nd:=0) (h:=(c:Int)+8) hs2 trivial in0 (by simp) (by simp) (by omega) ⟨by omega,by omega⟩ (by rw [show(b:Int) - 1=((b - 1:Nat):Int) by omega,g0]; exact d5) ⟨by omega,by omega⟩
     have hu:=uq1 ((b:Int) - 1,(c:Int)+8 - 8)
     have hk:=k1 (a:=(b:Int) - 1) (x:=(c:Int)+8 - 8) ⟨by omega,by omega⟩
     have hl:(pl [] ((b:Int) - 1,(c:Int)+8 - 8)).length≤1:=by simpa using pl_len [] ((b:Int) - 1,(c:Int)+8 - 8)
     generalize pl [] ((b:Int) - 1,(c:Int)+8 - 8)=p at *
     obtain⟨t1,t2,t3,t4,t5⟩:=lvf (us:=ws) ([]++[(b:Int)]) hu hk (by omega) (by simp)
     have nn:=noIds_Iu64 (nxt ws p); have nc:=noids_c p
     have sj:=set_J st b 2 (by omega)
     have n2:=noIds_Ii64 (st.set b 2)
     have xk:xle p.length 1000=true:=t_le (by omega)
     have bq1:xnot (xbq true (xcm .eql 1 1))=false:=rfl
     have x00:xcm .eql (0:Int) 0=true:=rfl
     simp only [wd_nat,wd_asV,wd_isV,wd_ix,wd_add,wd_mul,wd_ln,Nat.zero_add,Nat.mul_one,wd_isI,wd_asI,wd_isB,wd_asB,wd_nn,cI_tlen,cB_tlen,cII_tlen,decide_true,cond_true,wd_not_t,wd_not_f,wd_and_t,wd_and_f,e4,e5,lx,eK,eb,gb]
     simp only [o1,o2,o3,z1,f1,eqL_self,r1,r2,r3,r4,r5,s1,t1,t2,t3,t4,t5,xk,bq1,x00,cond_true,cond_false]
     (refine zN4 @sj @e3 @lst' @sl ?_)
     (refine zR ?_)
     exact⟨rfl,⟨(i+1,nxt ws p,st.set b 2),by simp only; omega,by rw [← h2]; exact nxt_len _ (by omega) (by omega),P⟩,by simp only; omega,[.id 0,.id 12,.id 2],by(exact zC)⟩
    ·have hno:¬ (15≤(b:Int)∧(b:Int)≤(sz:Int) - 1∧9≤gt ws [] ((b:Int) - 1)∧gt ws [] ((b:Int) - 1)≤12):=fun⟨y1,y2,y3,y4⟩=>by
      obtain⟨_,e,cs,R,J⟩:=h3
      rw [show(b:Int) - 1=((b - 1:Nat):Int) by omega,g0] at y3 y4
      exact J.dead s1 (by omega) (by omega) ⟨y3,y4⟩
     obtain⟨r1,r2,r3,r4,r5⟩:=fr_no (us:=ws) (sz:=sz) (most:=96) (p:=[]) (fr:=[]) (a:=(b:Int)) (nd:=0) hs2 (inU_get h3.1 _) hno
     have bq1:xnot (xbq false (xcm .eql (st.getD b 0) 1))=false:=by rw [f_eql s1]; rfl
     have x20:xcm .eql (2:Int) 0=false:=rfl
     have xk:xle 0 1000=true:=rfl
     simp only [wd_nat,wd_asV,wd_isV,wd_ix,wd_add,wd_mul,wd_ln,Nat.zero_add,Nat.mul_one,wd_isI,wd_asI,wd_isB,wd_asB,wd_nn,cI_tlen,cB_tlen,cII_tlen,decide_true,cond_true,wd_not_t,wd_not_f,wd_and_t,wd_and_f,e4,e5,lx,eK,eb,gb]
     simp only [o1,o2,o3,z1,f1,eqL_self,r1,r2,r3,r4,r5,z2,z3,z4,z5,bq1,x20,xk,cond_true,cond_false]
     (refine zN3 @e3 @lst' @sl ?_)
     (refine zR ?_)
     exact⟨rfl,⟨(i+1,nxt ws [],st),by simp only; omega,by rw [← h2]; exact nxt_len _ (by omega) (by omega),same⟩,by simp only; omega,[.id 0,.id 12,.id 2],by(exact zC)⟩
   ·have xa:xcm .eql kk 0=false:=f_eql kA
    by_cases kB:kk=1
    ·subst kB
     have x11:xcm .eql (1:Int) 1=true:=rfl
     by_cases s3:st.getD b 0=3
     ·have x33:xcm .eql (3:Int) 3=true:=rfl
      simp only [wd_nat,wd_asV,wd_isV,wd_ix,wd_add,wd_mul,wd_ln,Nat.zero_add,Nat.mul_one,wd_isI,wd_asI,wd_isB,wd_asB,wd_nn,cI_tlen,cB_tlen,cII_tlen,decide_true,cond_true,wd_not_t,wd_not_f,wd_and_t,wd_and_f,e4,e5,lx,eK,eb,gb,s3]
      simp only [o1,o2,xa,x11,x33,cond_true,cond_false]
      (refine zN3 @e3 @lst' @sl ?_)
      (refine zR ?_)
      exact⟨rfl,⟨(i+1,ws,st),by simp only; omega,h2,h3⟩,by simp only; omega,[.id 0,.id 1,.id 2],by(exact zC)⟩
     ·have x3:xcm .eql (st.getD b 0) 3=false:=f_eql s3
      by_cases s2:st.getD b 0=2
      ·obtain⟨c,d1,d2,d3,d4,d5,P⟩:=ap_give h3 s2
       obtain⟨r1,r2,r3,r4⟩:=gv_go (us:=ws) (sz:=sz) (most:=96) (p:=[]) (fr:=[]) (a:=(b:Int)) (nd:=0) (c:=(c:Int)) hs2 hs (by simp) ⟨by omega,by omega⟩ (by rw [show(b:Int) - 1=((b - 1:Nat):Int) by omega,g0]; exact d5) ⟨by omega,by omega⟩
       have hu:=uqb ((b:Int),gt ws [] (c:Int)) ((c:Int),(b:Int))
       have hk:=k2 (a:=(b:Int)) (x:=gt ws [] (c:Int)) (b:=(c:Int)) (y:=(b:Int)) ⟨by omega,by omega⟩ ⟨by omega,by omega⟩
       have hl:(pls [] [((b:Int),gt ws [] (c:Int)),((c:Int),(b:Int))]).length≤2:=by simpa using pls_len [((b:Int),gt ws [] (c:Int)),((c:Int),(b:Int))] []
       generalize pls [] [((b:Int),gt ws [] (c:Int)),((c:Int),(b:Int))]=p at *
       obtain⟨t1,t2,t3,t4,t5⟩:=lvf (us:=ws) [] hu hk (by omega) (by simp)
       have nn:=noIds_Iu64 (nxt ws p); have nc:=noids_c p
       have sj:=set_J st b 3 (by omega)
       have n2:=noIds_Ii64 (st.set b 3)
       have xk:xle p.length 1000=true:=t_le (by omega)
       have bq1:xnot (xbq true (xcm .eql 2 2))=false:=rfl
       have x00:xcm .eql (0:Int) 0=true:=rfl
       have x23:xcm .eql (2:Int) 3=false:=rfl
       simp only [wd_nat,wd_asV,wd_isV,wd_ix,wd_add,wd_mul,wd_ln,Nat.zero_add,Nat.mul_one,wd_isI,wd_asI,wd_isB,wd_asB,wd_nn,cI_tlen,cB_tlen,cII_tlen,decide_true,cond_true,wd_not_t,wd_not_f,wd_and_t,wd_and_f,e4,e5,lx,eK,eb,gb]
       simp only [o1,o2,o3,z1,f1,xa,x11,eqL_self,r1,r2,r3,r4,s2,t1,t2,t3,t4,t5,xk,bq1,x00,x23,cond_true,cond_false]
       (refine zN4 @sj @e3 @lst' @sl ?_)
       (refine zR ?_)
       exact⟨rfl,⟨(i+1,nxt ws p,st.set b 3),by simp only; omega,by rw [← h2]; exact nxt_len _ (by omega) (by omega),P⟩,by simp only; omega,[.id 0,.id 12,.id 2],by(exact zC)⟩
      ·have hno:¬ (15≤(b:Int)∧(b:Int)≤(sz:Int) - 1∧1≤gt ws [] ((b:Int) - 1)∧gt ws [] ((b:Int) - 1)≤4):=fun⟨y1,y2,y3,y4⟩=>by
        obtain⟨_,e,cs,R,J⟩:=h3
        rw [show(b:Int) - 1=((b - 1:Nat):Int) by omega,g0] at y3 y4
        exact J.norest s2 s3 (by omega) (by omega) ⟨y3,y4⟩
       obtain⟨r1,r2,r3,r4⟩:=gv_no (us:=ws) (sz:=sz) (most:=96) (p:=[]) (fr:=[]) (a:=(b:Int)) (nd:=0) hs2 hno
       have bq1:xnot (xbq false (xcm .eql (st.getD b 0) 2))=false:=by rw [f_eql s2]; rfl
       have x20:xcm .eql (2:Int) 0=false:=rfl
       have xk:xle 0 1000=true:=rfl
       simp only [wd_nat,wd_asV,wd_isV,wd_ix,wd_add,wd_mul,wd_ln,Nat.zero_add,Nat.mul_one,wd_isI,wd_asI,wd_isB,wd_asB,wd_nn,cI_tlen,cB_tlen,cII_tlen,decide_true,cond_true,wd_not_t,wd_not_f,wd_and_t,wd_and_f,e4,e5,lx,eK,eb,gb]
       simp only [o1,o2,o3,z1,f1,xa,x11,x3,eqL_self,r1,r2,r3,r4,z2,z3,z4,z5,bq1,x20,xk,cond_true,cond_false]
       (refine zN3 @e3 @lst' @sl ?_)
       (refine zR ?_)
       exact⟨rfl,⟨(i+1,nxt ws [],st),by simp only; omega,by rw [← h2]; exact nxt_len _ (by omega) (by omega),same⟩,by simp only; omega,[.id 0,.id 12,.id 2],by(exact zC)⟩
    ·have xb:xcm .eql kk 1=false:=f_eql kB
     obtain⟨c1',c2'⟩:=clsJ ⟨v1,v2⟩
     obtain⟨c,hc⟩:∃ c:Nat,clsW S=(c:Int):=⟨(clsW S).toNat,by omega⟩
     have hc1:1≤c:=by omega
     have hc2:c≤4:=by omega
     by_cases hf:ws.getD c 0=0
     ·obtain⟨e,d1,d2,d3,d4⟩:=ap_bump h3 hc1 hc2
      by_cases hr:e+1+2 ^ c≤ws.length
      ·obtain⟨s0,P⟩:=d4 hr
       obtain⟨r1,r2,r3,r4,r5⟩:=al_bump (us:=ws) (sz:=sz) (most:=96) (p:=[]) (fr:=[]) (s:=S) (nd:=0) hs hs2 (by simp) hc ⟨by omega,by omega⟩ (by rw [g0]; exact hf) (P:=(e:Int)) (by show ws.getD 5 0=_; exact d1) (by omega) (by rw [szW_c hc1 hc2]; omega)
       have hu:=uqb (5,(e:Int)+1+szW (c:Int)) ((e:Int),(c:Int)+8)
       have hk:=k2 (a:=5) (x:=(e:Int)+1+szW (c:Int)) (b:=(e:Int)) (y:=(c:Int)+8) ⟨by omega,by omega⟩ ⟨by omega,by have:=pw_b hc1 hc2; omega⟩
       have hl:(pls [] [(5,(e:Int)+1+szW (c:Int)),((e:Int),(c:Int)+8)]).length≤2:=by simpa using pls_len [(5,(e:Int)+1+szW (c:Int)),((e:Int),(c:Int)+8)] []
       generalize pls [] [(5,(e:Int)+1+szW (c:Int)),((e:Int),(c:Int)+8)]=p at *
       have hp2:=pw_b hc1 hc2
       rw [show(e:Int)+1=((e+1:Nat):Int) by omega] at r1
       have gx:nthD (encL (cI .i64) st) (e+1)=.int .i64 0:=by rw [s_nth (by omega),s0]
       have hx1:1≤e+1:=by omega
       have hx2:e+1 < 256:=by omega
       generalize e+1=x at *
       obtain⟨t1,t2,t3,t4,t5⟩:=lvf (us:=ws) [] hu hk (by omega) (by simp)
       have nn:=noIds_Iu64 (nxt ws p); have nc:=noids_c p
       have sj:=set_J st x 1 (by omega)
       have n2:=noIds_Ii64 (st.set x 1)
       have xk:xle p.length 1000=true:=t_le (by omega)
       have x00:xcm .eql (0:Int) 0=true:=rfl
       have y1:xcm .lss (x:Int) 1=false:=f_lss (by omega)
       have y2:xcm .geq (x:Int) 256=false:=f_geq (by omega)
       have y3:xcm .eql (0:Int) 1=false:=rfl
       have y4:xcm .eql (0:Int) 2=false:=rfl
       have n00:xcm .neq (0:Int) 0=false:=rfl
       simp only [wd_nat,wd_asV,wd_isV,wd_ix,wd_add,wd_mul,wd_ln,Nat.zero_add,Nat.mul_one,wd_isI,wd_asI,wd_isB,wd_asB,wd_nn,cI_tlen,cB_tlen,cII_tlen,decide_true,cond_true,wd_not_t,wd_not_f,wd_and_t,wd_and_f,e4,e5,lx,eK,eS]
       simp only [o1,o2,o3,z1,f1,xa,xb,eqL_self,r1,r2,r3,r4,r5,x00,y1,y2,n00,cond_true,cond_false]
       (refine zN3 @gx @lst' @sl ?_)
       simp only [y3,y4,o1,o2,t1,t2,t3,t4,t5,xk,cond_true,cond_false]
       (refine zN4 @sj @e3 @lst' @sl ?_)
       (refine zR ?_)
       exact⟨rfl,⟨(i+1,nxt ws p,st.set x 1),by simp only; omega,by rw [← h2]; exact nxt_len _ (by omega) (by omega),P⟩,by simp only; omega,[.id 0,.id 12,.id 2],by(exact zC)⟩
      ·obtain⟨r1,r2,r3,r4,r5⟩:=al_full (us:=ws) (sz:=sz) (most:=96) (p:=[]) (fr:=[]) (s:=S) (nd:=0) hs hs2 hc ⟨by omega,by omega⟩ (by rw [g0]; exact hf) (P:=(e:Int)) (by show ws.getD 5 0=_; exact d1) (by omega) (by omega) (.inr (by rw [szW_c hc1 hc2]; omega))
       have x40:xcm .eql (4:Int) 0=false:=rfl
       have n40:xcm .neq (4:Int) 0=true:=rfl
       have n44:xcm .neq (4:Int) 4=false:=rfl
       have xk:xle 0 1000=true:=rfl
       simp only [wd_nat,wd_asV,wd_isV,wd_ix,wd_add,wd_mul,wd_ln,Nat.zero_add,Nat.mul_one,wd_isI,wd_asI,wd_isB,wd_asB,wd_nn,cI_tlen,cB_tlen,cII_tlen,decide_true,cond_true,wd_not_t,wd_not_f,wd_and_t,wd_and_f,e4,e5,lx,eK,eS]
       simp only [o1,o2,o3,z1,f1,xa,xb,eqL_self,r1,r2,r3,r4,r5,z2,z3,z4,z5,x40,n40,n44,xk,cond_true,cond_false]
       (refine zN3 @e3 @lst' @sl ?_)
       (refine zR ?_)
       exact⟨rfl,⟨(i+1,nxt ws [],st),by simp only; omega,by rw [← h2]; exact nxt_len _ (by omega) (by omega),same⟩,by simp only; omega,[.id 0,.id 12,.id 2],by(exact zC)⟩
     ·obtain⟨x,d1,d2,d3,d4,P⟩:=ap_pop h3 hc1 hc2 hf
      obtain⟨r1,r2,r3,r4,r5⟩:=al_pop (us:=ws) (sz:=sz) (most:=96) (p:=[]) (fr:=[]) (s:=S) (nd:=0) (f:=(x:Int)) hs hs2 (by simp) hc ⟨by omega,by omega⟩ (by rw [g0]; exact d1) (by omega) (by omega)
      have hu:=uqb ((c:Int),gt ws [] (x:Int)) ((x:Int) - 1,(c:Int)+8)
      have hk:=k2 (a:=(c:Int)) (x:=gt ws [] (x:Int)) (b:=(x:Int) - 1) (y:=(c:Int)+8) ⟨by omega,by omega⟩ ⟨by omega,by omega⟩
      have hl:(pls [] [((c:Int),gt ws [] (x:Int)),((x:Int) - 1,(c:Int)+8)]).length≤2:=by simpa using pls_len [((c:Int),gt ws [] (x:Int)),((x:Int) - 1,(c:Int)+8)] []
      generalize pls [] [((c:Int),gt ws [] (x:Int)),((x:Int) - 1,(c:Int)+8)]=p at *
      have gx:nthD (encL (cI .i64) st) x=.int .i64 3:=by rw [s_nth (by omega),d4]
      have hx1:1≤x:=by omega
      have hx2:x < 256:=by omega
      obtain⟨t1,t2,t3,t4,t5⟩:=lvf (us:=ws) [] hu hk (by omega) (by simp)
      have nn:=noIds_Iu64 (nxt ws p); have nc:=noids_c p
      have sj:=set_J st x 1 (by omega)
      have n2:=noIds_Ii64 (st.set x 1)
      have xk:xle p.length 1000=true:=t_le (by omega)
      have x00:xcm .eql (0:Int) 0=true:=rfl
      have y1:xcm .lss (x:Int) 1=false:=f_lss (by omega)
      have y2:xcm .geq (x:Int) 256=false:=f_geq (by omega)
      have y3:xcm .eql (3:Int) 1=false:=rfl
      have y4:xcm .eql (3:Int) 2=false:=rfl
      have n00:xcm .neq (0:Int) 0=false:=rfl
      simp only [wd_nat,wd_asV,wd_isV,wd_ix,wd_add,wd_mul,wd_ln,Nat.zero_add,Nat.mul_one,wd_isI,wd_asI,wd_isB,wd_asB,wd_nn,cI_tlen,cB_tlen,cII_tlen,decide_true,cond_true,wd_not_t,wd_not_f,wd_and_t,wd_and_f,e4,e5,lx,eK,eS]
      simp only [o1,o2,o3,z1,f1,xa,xb,eqL_self,r1,r2,r3,r4,r5,x00,y1,y2,n00,cond_true,cond_false]
      (refine zN3 @gx @lst' @sl ?_)
      simp only [y3,y4,o1,o2,t1,t2,t3,t4,t5,xk,cond_true,cond_false]
      (refine zN4 @sj @e3 @lst' @sl ?_)
      (refine zR ?_)
      exact⟨rfl,⟨(i+1,nxt ws p,st.set x 1),by simp only; omega,by rw [← h2]; exact nxt_len _ (by omega) (by omega),P⟩,by simp only; omega,[.id 0,.id 12,.id 2],by(exact zC)⟩
  ·(refine zR ?_)
   exact⟨rfl,⟨(i,ws,st),h1,h2,h3⟩,[.id 0,.id 1,.id 2],by(exact zC)⟩
 ·(refine zR ?_)
  exact⟨rfl,⟨(i,ws,st),h1,h2,h3⟩,[.id 0,.id 1,.id 2],by(exact zC)⟩
theorem parts_fun (w:Int) (xs:List AqR) (m:Nat) (em:xs.length=m) (hm:m≤9223372036854775807):SFun prog 7 [.int .i64 w,.slo 0 0 m 0] (mkS [.ro (encL aqE xs)]) fun l _=>l=.bool true:=by
 subst em
 refine SFun.mono (SFun.pieces (Q:=fun l _=>l=.bool true) 141 1 apL [4] (by kernel_rfl) rfl rfl rfl ?_) fun l s' ⟨b0,h1,_⟩=>h1
 have nx:=aq_noids xs
 obtain⟨hs,hs2⟩:=szJ_b w
 have e1:szI w=szJ w:=rfl
 have e2:frsC w=encL (cI .u64) (frsL (szJ w)):=rfl
 generalize szJ w=sz at *
 have nf:=noIds_Iu64 (frsL sz)
 have hl:(frsL sz).length=sz:=by simp [frsL]
 have a0:ApP (frsL sz) (List.replicate 257 0):=⟨inU_frs sz,_,_,_,pi_new hs hs2⟩
 have e9:([.int .i64 0,.int .i64 0,.int .i64 0,.int .i64 0,.int .i64 0,.int .i64 0,.int .i64 0,.int .i64 0,.int .i64 0,.int .i64 0,.int .i64 0,.int .i64 0,.int .i64 0,.int .i64 0,.int .i64 0,.int .i64 0,.int .i64 0,.int .i64 0,.int .i64 0,.int .i64 0,.int .i64 0,.int .i64 0,.int .i64 0,.int .i64 0,.int .i64 0,.int .i64 0,.int .i64 0,.int .i64 0,.int .i64 0,.int .i64 0,.int .i64 0,.int .i64 0,.int .i64 0,.int .i64 0,.int .i64 0,.int .i64 0,.int .i64 0,.int .i64 0,.int .i64 0,.int .i64 0,.int .i64 0,.int .i64 0,.int .i64 0,.int .i64 0,.int .i64 0,.int .i64 0,.int .i64 0,.int .i64 0,.int .i64 0,.int .i64 0,.int .i64 0,.int .i64 0,.int .i64 0,.int .i64 0,.int .i64 0,.int .i64 0,.int .i64 0,.int .i64 0,.int .i64 0,.int .i64 0,.int .i64 0,.int .i64 0,.int .i64 0,.int .i64 0,.int .i64 0,.int .i64 0,.int .i64 0,.int .i64 0,.int .i64 0,.int .i64 0,.int .i64 0,.int .i64 0,.int .i64 0,.int .i64 0,.int .i64 0,.int .i64 0,.int .i64 0,.int .i64 0,.int .i64 0,.int .i64 0,.int .i64 0,.int .i64 0,.int .i64 0,.int .i64 0,.int .i64 0,.int .i64 0,.int .i64 0,.int .i64 0,.int .i64 0,.int .i64 0,.int .i64 0,.int .i64 0,.int .i64 0,.int .i64 0,.int .i64 0,.int .i64 0,.int .i64 0,.int .i64 0,.int .i64 0,.int .i64 0,.int .i64 0,.int .i64 0,.int .i64 0,.int .i64 0,.int .i64 0,.int .i64 0,.int .i64 0,.int .i64 0,.int .i64 0,.int .i64 0,.int .i64 0,.int .i64 0,.int .i64 0,.int .i64 0,.int .i64 0,.int .i64 0,.int .i64 0,.int .i64 0,.int .i64 0,.int .i64 0,.int .i64 0,.int .i64 0,.int .i64 0,.int .i64 0,.int .i64 0,.int .i64 0,.int .i64 0,.int .i64 0,.int .i64 0,.int .i64 0,.int .i64 0,.int .i64 0,.int .i64 0,.int .i64 0,.int .i64 0,.int .i64 0,.int .i64 0,.int .i64 0,.int .i64 0,.int .i64 0,.int .i64 0,.int .i64 0,.int .i64 0,.int .i64 0,.int .i64 0,.int .i64 0,.int .i64 0,.int .i64 0,.int .i64 0,.int .i64 0,.int .i64 0,.int .i64 0,.int .i64 0,.int .i64 0,.int .i64 0,.int .i64 0,.int .i64 0,.int .i64 0,.int .i64 0,.int .i64 0,.int .i64 0,.int .i64 0,.int .i64 0,.int .i64 0,.int .i64 0,.int .i64 0,.int .i64 0,.int .i64 0,.int .i64 0,.int .i64 0,.int .i64 0,.int .i64 0,.int .i64 0,.int .i64 0,.int .i64 0,.int .i64 0,.int .i64 0,.int .i64 0,.int .i64 0,.int .i64 0,.int .i64 0,.int .i64 0,.int .i64 0,.int .i64 0,.int .i64 0,.int .i64 0,.int .i64 0,.int .i64 0,.int .i64 0,.int .i64 0,.int .i64 0,.int .i64 0,.int .i64 0,.int .i64 0,.int .i64 0,.int .i64 0,.int .i64 0,.int .i64 0,.int .i64 0,.int .i64 0,.int .i64 0,.int .i64 0,.int .i64 0,.int .i64 0,.int .i64 0,.int .i64 0,.int .i64 0,.int .i64 0,.int .i64 0,.int .i64 0,.int .i64 0,.int .i64 0,.int .i64 0,.int .i64 0,.int .i64 0,.int .i64 0,.int .i64 0,.int .i64 0,.int .i64 0,.int .i64 0,.int .i64 0,.int .i64 0,.int .i64 0,.int .i64 0,.int .i64 0,.int .i64 0,.int .i64 0,.int .i64 0,.int .i64 0,.int .i64 0,.int .i64 0,.int .i64 0,.int .i64 0,.int .i64 0,.int .i64 0,.int .i64 0,.int .i64 0,.int .i64 0,.int .i64 0,.int .i64 0,.int .i64 0,.int .i64 0,.int .i64 0,.int .i64 0,.int .i64 0,.int .i64 0,.int .i64 0,.int .i64 0,.int .i64 0,.int .i64 0,.int .i64 0,.int .i64 0,.int .i64 0,.int .i64 0,.int .i64 0,.int .i64 0,.int .i64 0]:List LV)=encL (cI .i64) (List.replicate 257 0):=by kernel_rfl
 have n9:=noIds_Ii64 (List.replicate 257 0)
 have l9:(encL (cI .i64) (List.replicate 257 0)).length=257:=by kernel_rfl
 refine SSp.to cxap_ok (n:=60) (g:=[]) 6 6 rfl (σ:=Unit) (fun _=>apT xs.length sz 0) (fun _=>apH (encL aqE xs) (encL (cI .u64) (frsL sz)) (encL (cI .i64) (List.replicate 257 0))) (mkS_le (Nat.le_of_ble_eq_true rfl)) (by kernel_rfl) ?_ fun _=>?_
 ·rw [ap_a]
  simp only [e1,e2,e9]
  exact⟨rfl,(),[.id 0,.id 1,.cap 2 0 257],by(exact zC)⟩
 try dsimp only
 refine SSp.code_to (g:=[]) 7 rfl (σ:=ApS sz) (fun q=>apT xs.length sz q.1.1) (fun q=>apH (encL aqE xs) (encL (cI .u64) q.1.2.1) (encL (cI .i64) q.1.2.2)) (by kernel_rfl) (parts_loop xs sz hm hs hs2 ⟨(0,frsL sz,List.replicate 257 0),Nat.zero_le _,hl,a0⟩) fun⟨⟨i,ws,st⟩,h1,h2,h3⟩=>?_
 dsimp only at h2 h3 ⊢
 have nw:=noIds_Iu64 ws; have nst:=noIds_Ii64 st
 obtain⟨hu,e,cs,R,I⟩:=h3
 have o1:okU (encL (cI .u64) ws) sz=true:=by have:=okU_enc (us:=ws) (by omega) hu; rwa [h2] at this
 have o2:okIi64 (encL (cI .i64) st) 257=true:=by have:=okIi64_enc (xs:=st) (by have:=I.sl; omega); rwa [I.sl] at this
 have o3:pOk (encL (cI .u64) ws) (encL (cI .i64) st)=true:=by rw [pOk]; exact @decide_eq_true _ (_) ⟨ws,st,e,cs,R,rfl,rfl,I,hu⟩
 refine zE cxap_ok ?_
 rw [ap_z]
 simp only [o1,o2,o3,cond_true]
 exact⟨trivial,rfl,.bool true,[.ro _],[.id 0],rfl,by(exact zC)⟩
theorem parts_any {H:Type} {enc:TypeId×Value→H} {W:World} {a2:Option Addr} {len2 cap2:Nat} {d2:DataW H} {p2:List MemPlace} (w:Int)
  (h2:DataW.Trod enc prog W 0 (fun _=>true) true 34 (.slice a2 len2 cap2) d2 p2) :
  Calls prog 7 #[.int .i64 w,.slice a2 len2 cap2] W fun e W'=>e=.returned (.bool true)∧Below W.heap.size W W':=by
 obtain⟨xs,e2,n2,_,r2⟩:=aq_row h2
 refine SFun.top (rows:=[(.slice a2 len2 cap2,len2,encL aqE xs)]) (g:=[]) (us:=[.int .i64 w,.slice a2 len2 cap2]) ⟨r2,trivial⟩ (fun x hx=>by cases hx) (fun r h=>?_) (parts_fun w xs len2 e2 n2)
 simp only [VRs,VR]
 exact⟨_,_,rfl,rfl,_,_,rfl,h 0 _ _ _ rfl,rfl⟩
end
end Go.Lev
