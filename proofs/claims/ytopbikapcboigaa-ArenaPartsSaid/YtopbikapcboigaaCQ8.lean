/- chapter 11: parted as a contract over a parted heap -/
import Derived.Test.YtopbikapcboigaaCQ7
import Derived.Test.YtopbikapcboigaaLc
import Derived.Test.YtopbikapcboigaaChecked
import Derived.KernelRfl
namespace Go.Lev
set_option linter.unusedSimpArgs false
set_option linter.unusedVariables false
open Go.RowKit
open Go.Proofs.Try (prog)
set_option maxRecDepth 100000
noncomputable section
theorem s_nth {st:List Int} {i:Nat} (h:i < st.length):nthD (encL (cI .i64) st) i=.int .i64 (st.getD i 0):=by
 rw [encIi64_nth h,List.getD_eq_getElem?_getD,List.getElem?_eq_getElem h]; rfl
theorem r_nth {l:List Nat} {i:Nat} (h:i < l.length):nthD (encL (cI .i64) (l.map Int.ofNat)) i=.int .i64 ((l[i]:Nat):Int):=by
 rw [encIi64_nth (by simpa using h)]; simp
def lst (d:List Nat):Nat→Bool:=fun p=>decide (p∈d)
theorem lst_upd (d:List Nat) (x:Nat):upd (lst d) x true=lst (d++[x]):=by
 funext p
 simp only [upd,lst]
 by_cases e:p=x
 ·subst e; simp
 ·simp [e]
def dn (R:Nat→List Nat):Nat→List Nat
 | 0=>[]
 | q+1=>dn R q++R (q+1)
theorem dn_mem {R:Nat→List Nat} {x:Nat}:∀ {q:Nat},x∈dn R q↔∃ k,1≤k∧k≤q∧x∈R k
 | 0=>by simp only [dn,List.not_mem_nil,false_iff]; rintro⟨k,k1,k2,_⟩; omega
 | q+1=>by
   rw [dn,List.mem_append,dn_mem]
   constructor
   ·rintro(⟨k,k1,k2,k3⟩ | h)
    ·exact⟨k,k1,by omega,k3⟩
    ·exact⟨q+1,by omega,by omega,h⟩
   ·rintro⟨k,k1,k2,k3⟩
    by_cases e:k=q+1
    ·subst e; exact .inr k3
    ·exact .inl ⟨k,k1,by omega,k3⟩
def cnt (cs:List (Nat×Nat)) (a:Nat):Nat:=(cs.filter fun b=>decide (b.1+1 < a)).length
theorem cnt_step {e:Nat}:∀ {cs:List (Nat×Nat)} {p:Nat},PtC e p cs→∀ a,(((∃ q c,(q,c)∈cs∧a=q+1)∧cnt cs (a+1)=cnt cs a+1)∨(¬ (∃ q c,(q,c)∈cs∧a=q+1)∧cnt cs (a+1)=cnt cs a))
 | [],p,_,a=>.inr ⟨by simp,rfl⟩
 | (q,c)::r,p,h,a=>by
   obtain⟨rfl,h1,h2,h3⟩:=h
   dsimp only at h1 h2 h3
   have hp:=pw_b h1 h2
   by_cases e':a=q+1
   ·subst e'
    refine .inl ⟨⟨q,c,by simp,rfl⟩,?_⟩
    have:∀ b∈r,¬ b.1+1 < q+1+1:=fun b hb=>by have:=h3.mem b hb; omega
    have e1:r.filter (fun b=>decide (b.1+1 < q+1+1))=[]:=List.filter_eq_nil_iff.2 fun b hb=>by simpa using this b hb
    have e2:r.filter (fun b=>decide (b.1+1 < q+1))=[]:=List.filter_eq_nil_iff.2 fun b hb=>by have:=this b hb; simp; omega
    simp only [cnt,List.filter_cons,e1,e2]
    simp
   ·have e1:decide (q+1 < a+1)=decide (q+1 < a):=by
     by_cases h:q+1 < a
     ·simp [h]; omega
     ·simp [h]; omega
    rcases cnt_step h3 a with⟨⟨q',c',k1,k2⟩,k3⟩ | ⟨k1,k2⟩
    ·refine .inl ⟨⟨q',c',by simp [k1],k2⟩,?_⟩
     simp only [cnt,List.filter_cons,e1] at k3 ⊢
     split <;> (try simp only [List.length_cons]) <;> omega
    ·refine .inr ⟨?_,?_⟩
     ·rintro⟨q',c',k3,k4⟩
      rcases List.mem_cons.1 k3 with k3 | k3
      ·cases k3; exact e' k4
      ·exact k1 ⟨q',c',k3,k4⟩
     ·simp only [cnt,List.filter_cons,e1] at k2 ⊢
      split <;> (try simp only [List.length_cons]) <;> omega
theorem cnt_0 (cs:List (Nat×Nat)):cnt cs 0=0:=by simp [cnt]
theorem cnt_all {cs:List (Nat×Nat)} {a:Nat} (h:∀ b∈cs,b.1+1 < a):cnt cs a=cs.length:=by
 rw [cnt,List.filter_eq_self.2 fun b hb=>by simpa using h b hb]
theorem cnt_le (cs:List (Nat×Nat)) (a:Nat):cnt cs a≤cs.length:=List.length_filter_le _ _
theorem nd_le:∀ (n:Nat) {l:List Nat},l.Nodup→(∀ x∈l,x < n)→l.length≤n
 | 0,l,_,h=>by
   cases l with
   | nil=>exact Nat.le_refl _
   | cons x r=>exact absurd (h x (by simp)) (by omega)
 | n+1,l,nd,h=>by
   have h2:=nd_le n (nd.erase n) (l:=l.erase n) fun x hx=>by
    have:=h x (List.mem_of_mem_erase hx)
    have:x≠n:=fun e=>by subst e; exact(List.Nodup.not_mem_erase nd) hx
    omega
   have:l.length≤(l.erase n).length+1:=by rw [List.length_erase]; split <;> omega
   omega
theorem szW_c {c:Nat} (h1:1≤c) (h2:c≤4):szW (c:Int)=((2 ^ c:Nat):Int):=by
 show szV _=_
 rw [szV,if_pos (by omega)]; rfl
theorem PtC.drop {e p i:Nat} {cs:List (Nat×Nat)} (h:PtC e p (cs.drop i)) (k:i < cs.length):cs[i].1=p∧1≤cs[i].2∧cs[i].2≤4∧PtC e (p+1+2 ^ cs[i].2) (cs.drop (i+1)):=by
 rw [List.drop_eq_getElem_cons k] at h; exact h
theorem cxpd_ok:CtrOk prog (ctrOf cxpd):=cxl_ok ⟨blkG_ok,lsG_ok,sizeG_ok,trivial⟩
abbrev iid9:List Src:=[.id 0,.id 1,.id 2,.id 3,.id 4,.id 5,.id 6,.id 7,.id 8]
section
variable {ws st:List Int} {e:Nat} {cs:List (Nat×Nat)} {R:Nat→List Nat}
theorem PI.rx (I:PI ws st e cs R) {c x:Nat} (h1:1≤c) (h2:c≤4) (h:x∈R c):1≤x∧x≤256∧st.getD x 0=3:=by
 obtain⟨q,hq,rfl⟩:=I.rc c x h1 h2 h
 have:=I.bd hq; have:=I.n2; have:=I.el
 refine⟨by omega,by omega,?_⟩
 rcases I.hd q c hq with h' | h' | h'
 ·exact absurd h h'.2.2
 ·exact absurd h h'.2.2
 ·exact h'.2.1
theorem PI.rlen (I:PI ws st e cs R) {c:Nat} (h1:1≤c) (h2:c≤4):(R c).length≤257:=nd_le 257 (I.nd c h1 h2) fun x hx=>by have:=I.rx h1 h2 hx; omega
theorem PI.lst4 (I:PI ws st e cs R) {q c:Nat} (h:(q,c)∈cs):lst (dn R 4) (q+1)=decide (st.getD (q+1) 0=3):=by
 have hb:=I.bd h
 simp only [lst]
 refine decide_eq_decide.2 ⟨fun hx=>?_,fun hx=>?_⟩
 ·obtain⟨k,k1,k2,k3⟩:=dn_mem.1 hx
  exact(I.rx k1 k2 k3).2.2
 ·rcases I.hd q c h with h' | h' | h'
  ·omega
  ·omega
  ·exact dn_mem.2 ⟨c,by omega,by omega,h'.2.2⟩
end
abbrev pdHR (ws st:List Int) (cs:List (Nat×Nat)) (R:Nat→List Nat) (d:List Nat):List LB:=pdH (encL (cI .u64) ws) (encL (cI .i64) st) (encL cB3 (cs.map (bkOf ws))) (R 1).length (R 2).length (R 3).length (R 4).length (encL (cI .i64) ((R 1).map Int.ofNat)) (encL (cI .i64) ((R 2).map Int.ofNat)) (encL (cI .i64) ((R 3).map Int.ofNat)) (encL (cI .i64) ((R 4).map Int.ofNat)) (tab cB 257 (lst d))
set_option maxHeartbeats 4000000 in
theorem parted_ok {ws st:List Int} {e:Nat} {cs:List (Nat×Nat)} {R:Nat→List Nat} (I:PI ws st e cs R) (hu:inU ws):SFun prog 37 [.slo 0 0 ws.length 0,.slo 1 0 st.length 0] (mkS [.cells (encL (cI .u64) ws) (some 1),.cells (encL (cI .i64) st) (some 1)]) fun l t=>l=.bool true∧t=mkS [.cells (encL (cI .u64) ws) (some 1),.cells (encL (cI .i64) st) (some 1)]:=by
 refine SFun.mono (SFun.pieces (Q:=fun l b=>l=.bool true∧b=[.cells (encL (cI .u64) ws) (some 1),.cells (encL (cI .i64) st) (some 1)]) 181 2 pdL [4] (by kernel_rfl) rfl rfl rfl ?_) fun l s' ⟨b0,⟨h1,h2⟩,h3⟩=>⟨h1,by rw [h3,h2]⟩
 have n1:=I.n1; have n2:=I.n2; have el:=I.el; have sl:=I.sl
 have nu:=noIds_Iu64 ws; have lu:=encIu64_len ws
 have nst:=noIds_Ii64 st; have lst':=encIi64_len st
 have nbk:=noids_b3 (cs.map (bkOf ws)); have lbk:=b3_n (cs.map (bkOf ws))
 have m1:=noIds_Ii64 ((R 1).map Int.ofNat); have m2:=noIds_Ii64 ((R 2).map Int.ofNat); have m3:=noIds_Ii64 ((R 3).map Int.ofNat); have m4:=noIds_Ii64 ((R 4).map Int.ofNat)
 have ok0:=okU_enc (by omega:ws.length≤1000000) hu
 have x0:xle ws.length 100000=true:=t_le (by omega)
 have hB:=I.bkF; have hL:=I.lsAll
 have w1:bkE (encL (cI .u64) ws)=0:=by rw [bkE,decIu64_enc,hB]; rfl
 have w2:bkN (encL (cI .u64) ws)=cs.length:=by rw [bkN,decIu64_enc,hB]; simp
 have w3:bkC (encL (cI .u64) ws)=encL cB3 (cs.map (bkOf ws)):=by rw [bkC,decIu64_enc,hB]; rfl
 have w4:lsS (encL (cI .u64) ws)=true:=by rw [lsS,decIu64_enc,hL]; rfl
 have eL:lrL ws=((R 1).map Int.ofNat,(R 2).map Int.ofNat,(R 3).map Int.ofNat,(R 4).map Int.ofNat):=by rw [lrL,hL]; rfl
 have v1:lrN1 (encL (cI .u64) ws)=(R 1).length∧lrC1 (encL (cI .u64) ws)=encL (cI .i64) ((R 1).map Int.ofNat):=by rw [lrN1,lrC1,decIu64_enc,eL]; exact⟨by simp,rfl⟩
 have v2:lrN2 (encL (cI .u64) ws)=(R 2).length∧lrC2 (encL (cI .u64) ws)=encL (cI .i64) ((R 2).map Int.ofNat):=by rw [lrN2,lrC2,decIu64_enc,eL]; exact⟨by simp,rfl⟩
 have v3:lrN3 (encL (cI .u64) ws)=(R 3).length∧lrC3 (encL (cI .u64) ws)=encL (cI .i64) ((R 3).map Int.ofNat):=by rw [lrN3,lrC3,decIu64_enc,eL]; exact⟨by simp,rfl⟩
 have v4:lrN4 (encL (cI .u64) ws)=(R 4).length∧lrC4 (encL (cI .u64) ws)=encL (cI .i64) ((R 4).map Int.ofNat):=by rw [lrN4,lrC4,decIu64_enc,eL]; exact⟨by simp,rfl⟩
 refine SSp.to cxpd_ok (n:=60) (g:=[]) 7 7 rfl (σ:=Unit) (fun _=>pdT0 ws.length st.length cs.length 0) (fun _=>pdHR ws st cs R []) (mkS_le (Nat.le_of_ble_eq_true rfl)) (by kernel_rfl) ?_ fun _=>?_
 ·have e9:([.bool false,.bool false,.bool false,.bool false,.bool false,.bool false,.bool false,.bool false,.bool false,.bool false,.bool false,.bool false,.bool false,.bool false,.bool false,.bool false,.bool false,.bool false,.bool false,.bool false,.bool false,.bool false,.bool false,.bool false,.bool false,.bool false,.bool false,.bool false,.bool false,.bool false,.bool false,.bool false,.bool false,.bool false,.bool false,.bool false,.bool false,.bool false,.bool false,.bool false,.bool false,.bool false,.bool false,.bool false,.bool false,.bool false,.bool false,.bool false,.bool false,.bool false,.bool false,.bool false,.bool false,.bool false,.bool false,.bool false,.bool false,.bool false,.bool false,.bool false,.bool false,.bool false,.bool false,.bool false,.bool false,.bool false,.bool false,.bool false,.bool false,.bool false,.bool false,.bool false,.bool false,.bool false,.bool false,.bool false,.bool false,.bool false,.bool false,.bool false,.bool false,.bool false,.bool false,.bool false,.bool false,.bool false,.bool false,.bool false,.bool false,.bool false,.bool false,.bool false,.bool false,.bool false,.bool false,.bool false,.bool false,.bool false,.bool false,.bool false,.bool false,.bool false,.bool false,.bool false,.bool false,.bool false,.bool false,.bool false,.bool false,.bool false,.bool false,.bool false,.bool false,.bool false,.bool false,.bool false,.bool false,.bool false,.bool false,.bool false,.bool false,.bool false,.bool false,.bool false,.bool false,.bool false,.bool false,.bool false,.bool false,.bool false,.bool false,.bool false,.bool false,.bool false,.bool false,.bool false,.bool false,.bool false,.bool false,.bool false,.bool false,.bool false,.bool false,.bool false,.bool false,.bool false,.bool false,.bool false,.bool false,.bool false,.bool false,.bool false,.bool false,.bool false,.bool false,.bool false,.bool false,.bool false,.bool false,.bool false,.bool false,.bool false,.bool false,.bool false,.bool false,.bool false,.bool false,.bool false,.bool false,.bool false,.bool false,.bool false,.bool false,.bool false,.bool false,.bool false,.bool false,.bool false,.bool false,.bool false,.bool false,.bool false,.bool false,.bool false,.bool false,.bool false,.bool false,.bool false,.bool false,.bool false,.bool false,.bool false,.bool false,.bool false,.bool false,.bool false,.bool false,.bool false,.bool false,.bool false,.bool false,.bool false,.bool false,.bool false,.bool false,.bool false,.bool false,.bool false,.bool false,.bool false,.bool false,.bool false,.bool false,.bool false,.bool false,.bool false,.bool false,.bool false,.bool false,.bool false,.bool false,.bool false,.bool false,.bool false,.bool false,.bool false,.bool false,.bool false,.bool false,.bool false,.bool false,.bool false,.bool false,.bool false,.bool false,.bool false,.bool false,.bool false,.bool false,.bool false,.bool false,.bool false,.bool false,.bool false,.bool false,.bool false,.bool false,.bool false,.bool false,.bool false,.bool false,.bool false,.bool false,.bool false,.bool false,.bool false,.bool false]:List LV)=tab cB 257 (lst []):=by kernel_rfl
  have nl0:=noIds_cB 257 (lst [])
  have lt0:=cB_tlen 257 (lst [])
  rw [pd_a]
  simp only [ok0,x0,w1,w2,w3,w4,v1.1,v1.2,v2.1,v2.2,v3.1,v3.2,v4.1,v4.2,e9,cond_true,show xcm .neq 0 0=false from rfl,cond_false]
  exact⟨rfl,(),[.id 0,.id 1,.id 2,.id 3,.id 4,.id 5,.id 6,.id 7,.cap 8 0 257],by(exact zC)⟩
 try dsimp only
 refine SSp.code_to (g:=[]) 8 rfl (σ:=Unit) (fun _=>pdT0 ws.length st.length cs.length 4) (fun _=>pdHR ws st cs R (dn R 4)) (by kernel_rfl) ?_ fun _=>?_
 ·refine SCode.loop_sp 0 (by kernel_rfl) (σ:={q:Nat // q≤4}) (fun q=>pdT0 ws.length st.length cs.length (q.1:Int)) (fun q=>pdHR ws st cs R (dn R q.1)) (fun q=>4 - q.1) (fun _=>Nat.le_of_ble_eq_true rfl) (fun⟨q,hq⟩=>?_) ⟨0,by omega⟩
  dsimp only
  have nl:=noIds_cB 257 (lst (dn R q))
  refine SSp.to cxpd_ok (n:=60) (g:=[]) 2 2 rfl (σ:={_k:Unit // q < 4}) (fun _=>pdT0 ws.length st.length cs.length (q:Int)) (fun _=>pdHR ws st cs R (dn R q)) (mkS_le (Nat.le_of_ble_eq_true rfl)) (by kernel_rfl) ?_ fun⟨_,c4⟩=>?_
  ·rw [pd_b]
   by_cases c4:q < 4
   ·(refine zR ?_)
    exact⟨rfl,⟨(),c4⟩,iid9,by(exact zC)⟩
   ·obtain rfl:q=4:=by omega
    exact⟨rfl,(),iid9,by(exact zC)⟩
  try dsimp only
  refine SSp.code_to (g:=[]) 3 rfl (σ:=Unit) (fun _=>pdT0 ws.length st.length cs.length (q:Int)) (fun _=>pdHR ws st cs R (dn R (q+1))) (by kernel_rfl) ?_ fun _=>?_
  ·refine SCode.block_sp 1 (by kernel_rfl) ?_
   have q4:q=0∨q=1∨q=2∨q=3:=by omega
   rcases q4 with rfl | rfl | rfl | rfl
   ·refine SSp.to cxpd_ok (n:=60) (g:=[]) 1 1 rfl (σ:=Unit) (fun _=>pdT1 ws.length st.length cs.length 0 0) (fun _=>pdHR ws st cs R (dn R 0++(R 1).take 0)) (mkS_le (Nat.le_of_ble_eq_true rfl)) (by kernel_rfl) ?_ fun _=>?_
    ·rw [pd_e]
     refine⟨rfl,(),iid9,?_⟩
     simp only [List.take_zero,List.append_nil]
     (exact zC)
    try dsimp only
    refine SSp.code_last (by kernel_rfl) ?_
    refine SCode.loop_vc cxpd_ok (n:=60) (n0:=2) 2 (by kernel_rfl) (σ:={i:Nat // i≤(R 1).length}) (fun i=>pdT1 ws.length st.length cs.length 0 i.1) (fun i=>pdHR ws st cs R (dn R 0++(R 1).take i.1)) (fun i=>(R 1).length - i.1) (fun _=>Nat.le_of_ble_eq_true rfl) (fun⟨i,hi⟩=>?_) ⟨0,Nat.zero_le _⟩
    dsimp only
    have nl2:=noIds_cB 257 (lst (dn R 0++(R 1).take i))
    rw [pd_1]
    by_cases c1:i < (R 1).length
    ·obtain⟨x1,x2,x3⟩:=I.rx (by omega) (by omega) (List.getElem_mem c1)
     have et:(R 1).take (i+1)=(R 1).take i++[(R 1)[i]]:=by rw [List.take_add_one,List.getElem?_eq_getElem c1]; rfl
     have e3:xar .add .i64 (i:Int) 1=((i+1:Nat):Int):=inc_i64 c1 (by have:=I.rlen (c:=1) (by omega) (by omega); omega)
     have g1:=r_nth c1
     have lr:(encL (cI .i64) ((R 1).map Int.ofNat)).length=(R 1).length:=by rw [encIi64_len]; simp
     generalize (R 1)[i]=x at *
     have g2:nthD (encL (cI .i64) st) x=.int .i64 3:=by rw [s_nth (by omega),x3]
     have g3:=cB_set (n:=257) (i:=x) (lst (dn R 0++(R 1).take i)) true (by omega)
     rw [lst_upd,List.append_assoc,← et] at g3
     have nl3:=noIds_cB 257 (lst (dn R 0++(R 1).take (i+1)))
     simp only [wd_nat,wd_asV,wd_isV,wd_ix,wd_add,wd_mul,wd_ln,Nat.zero_add,Nat.mul_one,wd_isI,wd_asI,wd_isB,wd_asB,wd_nn,cI_tlen,cB_tlen,cII_tlen,decide_true,cond_true,wd_not_t,wd_not_f,wd_and_t,wd_and_f,g1,g2,g3,e3,lr,lst',sl]
     (refine zR ?_)
     exact⟨rfl,⟨i+1,c1⟩,by simp only; omega,iid9,by(exact zC)⟩
    ·have et:dn R 0++(R 1).take i=dn R (0+1):=by rw [List.take_of_length_le (by omega)]; rfl
     rw [et] at nl2 ⊢
     (refine zR ?_)
     exact⟨rfl,(),iid9,by(exact zC)⟩
   ·refine SSp.to cxpd_ok (n:=60) (g:=[]) 1 1 rfl (σ:=Unit) (fun _=>pdT1 ws.length st.length cs.length 1 0) (fun _=>pdHR ws st cs R (dn R 1++(R 2).take 0)) (mkS_le (Nat.le_of_ble_eq_true rfl)) (by kernel_rfl) ?_ fun _=>?_
    ·rw [pd_e]
     refine⟨rfl,(),iid9,?_⟩
     simp only [List.take_zero,List.append_nil]
     (exact zC)
    try dsimp only
    refine SSp.code_last (by kernel_rfl) ?_
    refine SCode.loop_vc cxpd_ok (n:=60) (n0:=2) 2 (by kernel_rfl) (σ:={i:Nat // i≤(R 2).length}) (fun i=>pdT1 ws.length st.length cs.length 1 i.1) (fun i=>pdHR ws st cs R (dn R 1++(R 2).take i.1)) (fun i=>(R 2).length - i.1) (fun _=>Nat.le_of_ble_eq_true rfl) (fun⟨i,hi⟩=>?_) ⟨0,Nat.zero_le _⟩
    dsimp only
    have nl2:=noIds_cB 257 (lst (dn R 1++(R 2).take i))
    rw [pd_2]
    by_cases c1:i < (R 2).length
    ·obtain⟨x1,x2,x3⟩:=I.rx (by omega) (by omega) (List.getElem_mem c1)
     have et:(R 2).take (i+1)=(R 2).take i++[(R 2)[i]]:=by rw [List.take_add_one,List.getElem?_eq_getElem c1]; rfl
     have e3:xar .add .i64 (i:Int) 1=((i+1:Nat):Int):=inc_i64 c1 (by have:=I.rlen (c:=2) (by omega) (by omega); omega)
     have g1:=r_nth c1
     have lr:(encL (cI .i64) ((R 2).map Int.ofNat)).length=(R 2).length:=by rw [encIi64_len]; simp
     generalize (R 2)[i]=x at *
     have g2:nthD (encL (cI .i64) st) x=.int .i64 3:=by rw [s_nth (by omega),x3]
     have g3:=cB_set (n:=257) (i:=x) (lst (dn R 1++(R 2).take i)) true (by omega)
     rw [lst_upd,List.append_assoc,← et] at g3
     have nl3:=noIds_cB 257 (lst (dn R 1++(R 2).take (i+1)))
     simp only [wd_nat,wd_asV,wd_isV,wd_ix,wd_add,wd_mul,wd_ln,Nat.zero_add,Nat.mul_one,wd_isI,wd_asI,wd_isB,wd_asB,wd_nn,cI_tlen,cB_tlen,cII_tlen,decide_true,cond_true,wd_not_t,wd_not_f,wd_and_t,wd_and_f,g1,g2,g3,e3,lr,lst',sl]
     (refine zR ?_)
     exact⟨rfl,⟨i+1,c1⟩,by simp only; omega,iid9,by(exact zC)⟩
    ·have et:dn R 1++(R 2).take i=dn R (1+1):=by rw [List.take_of_length_le (by omega)]; rfl
     rw [et] at nl2 ⊢
     (refine zR ?_)
     exact⟨rfl,(),iid9,by(exact zC)⟩
   ·refine SSp.to cxpd_ok (n:=60) (g:=[]) 1 1 rfl (σ:=Unit) (fun _=>pdT1 ws.length st.length cs.length 2 0) (fun _=>pdHR ws st cs R (dn R 2++(R 3).take 0)) (mkS_le (Nat.le_of_ble_eq_true rfl)) (by kernel_rfl) ?_ fun _=>?_
    ·rw [pd_e]
     refine⟨rfl,(),iid9,?_⟩
     simp only [List.take_zero,List.append_nil]
     (exact zC)
    try dsimp only
    refine SSp.code_last (by kernel_rfl) ?_
    refine SCode.loop_vc cxpd_ok (n:=60) (n0:=2) 2 (by kernel_rfl) (σ:={i:Nat // i≤(R 3).length}) (fun i=>pdT1 ws.length st.length cs.length 2 i.1) (fun i=>pdHR ws st cs R (dn R 2++(R 3).take i.1)) (fun i=>(R 3).length - i.1) (fun _=>Nat.le_of_ble_eq_true rfl) (fun⟨i,hi⟩=>?_) ⟨0,Nat.zero_le _⟩
    dsimp only
    have nl2:=noIds_cB 257 (lst (dn R 2++(R 3).take i))
    rw [pd_3]
    by_cases c1:i < (R 3).length
    ·obtain⟨x1,x2,x3⟩:=I.rx (by omega) (by omega) (List.getElem_mem c1)
     have et:(R 3).take (i+1)=(R 3).take i++[(R 3)[i]]:=by rw [List.take_add_one,List.getElem?_eq_getElem c1]; rfl
     have e3:xar .add .i64 (i:Int) 1=((i+1:Nat):Int):=inc_i64 c1 (by have:=I.rlen (c:=3) (by omega) (by omega); omega)
     have g1:=r_nth c1
     have lr:(encL (cI .i64) ((R 3).map Int.ofNat)).length=(R 3).length:=by rw [encIi64_len]; simp
     generalize (R 3)[i]=x at *
     have g2:nthD (encL (cI .i64) st) x=.int .i64 3:=by rw [s_nth (by omega),x3]
     have g3:=cB_set (n:=257) (i:=x) (lst (dn R 2++(R 3).take i)) true (by omega)
     rw [lst_upd,List.append_assoc,← et] at g3
     have nl3:=noIds_cB 257 (lst (dn R 2++(R 3).take (i+1)))
     simp only [wd_nat,wd_asV,wd_isV,wd_ix,wd_add,wd_mul,wd_ln,Nat.zero_add,Nat.mul_one,wd_isI,wd_asI,wd_isB,wd_asB,wd_nn,cI_tlen,cB_tlen,cII_tlen,decide_true,cond_true,wd_not_t,wd_not_f,wd_and_t,wd_and_f,g1,g2,g3,e3,lr,lst',sl]
     (refine zR ?_)
     exact⟨rfl,⟨i+1,c1⟩,by simp only; omega,iid9,by(exact zC)⟩
    ·have et:dn R 2++(R 3).take i=dn R (2+1):=by rw [List.take_of_length_le (by omega)]; rfl
     rw [et] at nl2 ⊢
     (refine zR ?_)
     exact⟨rfl,(),iid9,by(exact zC)⟩
   ·refine SSp.to cxpd_ok (n:=60) (g:=[]) 1 1 rfl (σ:=Unit) (fun _=>pdT1 ws.length st.length cs.length 3 0) (fun _=>pdHR ws st cs R (dn R 3++(R 4).take 0)) (mkS_le (Nat.le_of_ble_eq_true rfl)) (by kernel_rfl) ?_ fun _=>?_
    ·rw [pd_e]
     refine⟨rfl,(),iid9,?_⟩
     simp only [List.take_zero,List.append_nil]
     (exact zC)
    try dsimp only
    refine SSp.code_last (by kernel_rfl) ?_
    refine SCode.loop_vc cxpd_ok (n:=60) (n0:=2) 2 (by kernel_rfl) (σ:={i:Nat // i≤(R 4).length}) (fun i=>pdT1 ws.length st.length cs.length 3 i.1) (fun i=>pdHR ws st cs R (dn R 3++(R 4).take i.1)) (fun i=>(R 4).length - i.1) (fun _=>Nat.le_of_ble_eq_true rfl) (fun⟨i,hi⟩=>?_) ⟨0,Nat.zero_le _⟩
    dsimp only
    have nl2:=noIds_cB 257 (lst (dn R 3++(R 4).take i))
    rw [pd_4]
    by_cases c1:i < (R 4).length
    ·obtain⟨x1,x2,x3⟩:=I.rx (by omega) (by omega) (List.getElem_mem c1)
     have et:(R 4).take (i+1)=(R 4).take i++[(R 4)[i]]:=by rw [List.take_add_one,List.getElem?_eq_getElem c1]; rfl
     have e3:xar .add .i64 (i:Int) 1=((i+1:Nat):Int):=inc_i64 c1 (by have:=I.rlen (c:=4) (by omega) (by omega); omega)
     have g1:=r_nth c1
     have lr:(encL (cI .i64) ((R 4).map Int.ofNat)).length=(R 4).length:=by rw [encIi64_len]; simp
     generalize (R 4)[i]=x at *
     have g2:nthD (encL (cI .i64) st) x=.int .i64 3:=by rw [s_nth (by omega),x3]
     have g3:=cB_set (n:=257) (i:=x) (lst (dn R 3++(R 4).take i)) true (by omega)
     rw [lst_upd,List.append_assoc,← et] at g3
     have nl3:=noIds_cB 257 (lst (dn R 3++(R 4).take (i+1)))
     simp only [wd_nat,wd_asV,wd_isV,wd_ix,wd_add,wd_mul,wd_ln,Nat.zero_add,Nat.mul_one,wd_isI,wd_asI,wd_isB,wd_asB,wd_nn,cI_tlen,cB_tlen,cII_tlen,decide_true,cond_true,wd_not_t,wd_not_f,wd_and_t,wd_and_f,g1,g2,g3,e3,lr,lst',sl]
     (refine zR ?_)
     exact⟨rfl,⟨i+1,c1⟩,by simp only; omega,iid9,by(exact zC)⟩
    ·have et:dn R 3++(R 4).take i=dn R (3+1):=by rw [List.take_of_length_le (by omega)]; rfl
     rw [et] at nl2 ⊢
     (refine zR ?_)
     exact⟨rfl,(),iid9,by(exact zC)⟩
  have nl4:=noIds_cB 257 (lst (dn R (q+1)))
  have e3:xar .add .i64 (q:Int) 1=((q+1:Nat):Int):=inc_i64 c4 (by omega)
  refine zE cxpd_ok ?_
  rw [pd_f,e3]
  exact⟨rfl,⟨q+1,by omega⟩,by simp only; omega,iid9,by(exact zC)⟩
 try dsimp only
 have nl:=noIds_cB 257 (lst (dn R 4))
 refine SSp.to cxpd_ok (n:=60) (g:=[]) 3 11 rfl (σ:=Unit) (fun _=>pdT2 ws.length st.length cs.length 14 0 0) (fun _=>pdHR ws st cs R (dn R 4)) (mkS_le (Nat.le_of_ble_eq_true rfl)) (by kernel_rfl) ?_ fun _=>?_
 ·rw [pd_c]
  exact⟨rfl,(),iid9,by(exact zC)⟩
 try dsimp only
 refine SSp.code_to (g:=[]) 12 rfl (σ:=Nat) (fun i=>pdT2 ws.length st.length cs.length (e:Int) (cs.length:Int) i) (fun _=>pdHR ws st cs R (dn R 4)) (by kernel_rfl) ?_ fun i0=>?_
 ·refine SCode.loop_vc cxpd_ok (n:=60) 4 (by kernel_rfl) (σ:={q:Nat×Nat // q.1≤cs.length∧PtC e q.2 (cs.drop q.1)}) (fun q=>pdT2 ws.length st.length cs.length (q.1.2:Int) (q.1.1:Int) q.1.1) (fun _=>pdHR ws st cs R (dn R 4)) (fun q=>cs.length - q.1.1) (fun _=>Nat.le_of_ble_eq_true rfl) (fun⟨⟨i,p⟩,hi,hp⟩=>?_) ⟨(0,14),Nat.zero_le _,I.pt⟩
  dsimp only at hi hp ⊢
  rw [pd_d]; simp only [pd_d_b1]
  by_cases c1:i < cs.length
  ·obtain⟨p1,p2,p3,p4⟩:=hp.drop c1
   have hm:(cs[i].1,cs[i].2)∈cs:=List.getElem_mem c1
   have hb:=I.bd hm; have hh:=I.hd _ _ hm; have hl:=I.lst4 hm
   have c1':i < (cs.map (bkOf ws)).length:=by simpa using c1
   have g0:=b3_0 c1'; have g1:=b3_1 c1'; have g2:=b3_2' c1'
   rw [List.getElem_map] at g0 g1 g2
   generalize cs[i]=b at *
   obtain⟨q,c⟩:=b
   dsimp only [bkOf] at p1 p2 p3 p4 hm hb hh hl g0 g1 g2
   subst p1
   have hcl:cs.length≤256:=by have:=bkF_n hB; simpa using this
   have e3:xar .add .i64 (i:Int) 1=((i+1:Nat):Int):=inc_i64 c1 (by omega)
   have e4:xar .add .i64 (q:Int) 1=((q+1:Nat):Int):=by rw [add_i64 (by omega) (by omega)]; rfl
   have e5:xar .add .i64 ((q+1:Nat):Int) (szW (c:Int))=((q+1+2 ^ c:Nat):Int):=by rw [szW_c p2 p3,add_i64 (by omega) (by omega)]; rfl
   have g3:nthD (encL (cI .i64) st) (q+1)=.int .i64 (st.getD (q+1) 0):=s_nth (by omega)
   have g4:nthD (tab cB 257 (lst (dn R 4))) (q+1)=.bool (decide (st.getD (q+1) 0=3)):=by rw [cB_nth _ (by omega),hl]
   have lt:=cB_tlen 257 (lst (dn R 4))
   have g5:decide (8 < ws.getD q 0)=decide (st.getD (q+1) 0=1):=by
    refine decide_eq_decide.2 ?_
    rcases hh with h | h | h
    ·omega
    ·omega
    ·omega
   have h0:st.getD (q+1) 0≠0:=by rcases hh with h | h | h <;> omega
   rw [g5] at g2
   have b1:xnot (xbq (decide (st.getD (q+1) 0=1)) (xcm .eql (st.getD (q+1) 0) 1))=false:=by rw [xcm_eql]; cases decide (st.getD (q+1) 0=1) <;> rfl
   have b3:xnot (xbq (decide (st.getD (q+1) 0=3)) (xcm .eql (st.getD (q+1) 0) 3))=false:=by rw [xcm_eql]; cases decide (st.getD (q+1) 0=3) <;> rfl
   have b5:xcm .eql (st.getD (q+1) 0) 0=false:=f_eql h0
   have b6:xcm .eql ((q+1:Nat):Int) ((q+1:Nat):Int)=true:=t_eql rfl
   have lbk2:(encL cB3 (cs.map (bkOf ws))).length=cs.length * 3:=by rw [lbk]; simp
   generalize st.getD (q+1) 0=v at *
   simp only [wd_nat,wd_asV,wd_isV,wd_ix,wd_add,wd_mul,wd_ln,Nat.zero_add,Nat.mul_one,wd_isI,wd_asI,wd_isB,wd_asB,wd_nn,cI_tlen,cB_tlen,cII_tlen,decide_true,cond_true,wd_not_t,wd_not_f,wd_and_t,wd_and_f,g0,g1,g2,g3,g4,b1,b3,b5,b6,e3,e4,e5,lbk2,lst',sl,lt]
   (refine zR ?_)
   exact⟨rfl,⟨(i+1,q+1+2 ^ c),c1,p4⟩,by simp only; omega,iid9,by(exact zC)⟩
  ·have e1:cs.drop i=[]:=List.drop_eq_nil_of_le (by omega)
   rw [e1] at hp
   simp only [PtC] at hp
   subst hp
   have e2:i=cs.length:=by omega
   subst e2
   (refine zR ?_)
   exact⟨rfl,cs.length,iid9,by(exact zC)⟩
 try dsimp only
 refine SSp.to cxpd_ok (n:=60) (g:=[]) 1 13 rfl (σ:=Unit) (fun _=>pdT3 ws.length st.length (e:Int) (cs.length:Int) 0) (fun _=>[.cells (encL (cI .u64) ws) (some 1),.cells (encL (cI .i64) st) (some 1)]) (mkS_le (Nat.le_of_ble_eq_true rfl)) (by kernel_rfl) ?_ fun _=>?_
 ·rw [pd_g]
  exact⟨rfl,(),[.id 0,.id 1],by(exact zC)⟩
 try dsimp only
 have hcl:cs.length≤256:=by have:=bkF_n hB; simpa using this
 have hall:∀ b∈cs,b.1+1 < 257:=fun b hb=>by have:=I.bd (q:=b.1) (c:=b.2) hb; omega
 refine SSp.code_to (g:=[]) 14 rfl (σ:=Nat) (fun a=>pdT3 ws.length st.length (e:Int) 0 a) (fun _=>[.cells (encL (cI .u64) ws) (some 1),.cells (encL (cI .i64) st) (some 1)]) (by kernel_rfl) ?_ fun a0=>?_
 ·refine SCode.loop_vc cxpd_ok (n:=60) 6 (by kernel_rfl) (σ:={q:Nat×Nat // q.1≤257∧q.2+cnt cs q.1=cs.length}) (fun q=>pdT3 ws.length st.length (e:Int) (q.1.2:Int) q.1.1) (fun _=>[.cells (encL (cI .u64) ws) (some 1),.cells (encL (cI .i64) st) (some 1)]) (fun q=>257 - q.1.1) (fun _=>Nat.le_of_ble_eq_true rfl) (fun⟨⟨a,m⟩,h1,h2⟩=>?_) ⟨(0,cs.length),by omega,by simp only [cnt_0]; rfl⟩
  dsimp only at h1 h2 ⊢
  rw [pd_h]
  by_cases c1:a≤256
  ·have e3:xar .add .i64 (a:Int) 1=((a+1:Nat):Int):=by rw [add_i64 (by omega) (by omega)]; rfl
   have g3:nthD (encL (cI .i64) st) a=.int .i64 (st.getD a 0):=s_nth (by omega)
   rcases cnt_step I.pt a with⟨⟨q,c,k1,rfl⟩,k2⟩ | ⟨k1,k2⟩
   ·have hh:st.getD (q+1) 0≠0:=by rcases I.hd q c k1 with h | h | h <;> omega
    have b5:xcm .neq (st.getD (q+1) 0) 0=true:=t_neq hh
    have e6:xar .sub .i64 (m:Int) 1=((m - 1:Nat):Int):=by rw [sub_i64 (by omega) (by omega)]; have:1≤m:=by { have:=cnt_le cs (q+1+1); omega }; omega
    simp only [wd_nat,wd_asV,wd_isV,wd_ix,wd_add,wd_mul,wd_ln,Nat.zero_add,Nat.mul_one,wd_isI,wd_asI,wd_isB,wd_asB,wd_nn,cI_tlen,cB_tlen,cII_tlen,decide_true,cond_true,wd_not_t,wd_not_f,wd_and_t,wd_and_f,g3,b5,e3,e6,lst',sl]
    (refine zR ?_)
    exact⟨rfl,⟨(q+1+1,m - 1),by simp only; omega,by simp only; have:=cnt_le cs (q+1+1); omega⟩,by simp only; omega,[.id 0,.id 1],by(exact zC)⟩
   ·have hh:st.getD a 0=0:=by
     by_cases h:st.getD a 0=0
     ·exact h
     ·exact absurd (I.st0 a h) k1
    have b5:xcm .neq (st.getD a 0) 0=false:=by rw [hh]; rfl
    simp only [wd_nat,wd_asV,wd_isV,wd_ix,wd_add,wd_mul,wd_ln,Nat.zero_add,Nat.mul_one,wd_isI,wd_asI,wd_isB,wd_asB,wd_nn,cI_tlen,cB_tlen,cII_tlen,decide_true,cond_true,wd_not_t,wd_not_f,wd_and_t,wd_and_f,g3,b5,e3,lst',sl]
    (refine zR ?_)
    exact⟨rfl,⟨(a+1,m),by simp only; omega,by simp only; omega⟩,by simp only; omega,[.id 0,.id 1],by(exact zC)⟩
  ·obtain rfl:a=257:=by omega
   rw [cnt_all hall] at h2
   obtain rfl:m=0:=by omega
   (refine zR ?_)
   exact⟨rfl,257,[.id 0,.id 1],by(exact zC)⟩
 try dsimp only
 have h5:5 < ws.length:=by omega
 have g5:nthD (encL (cI .u64) ws) 5=.int .u64 (e:Int):=by rw [u_nth h5,I.e5]
 have xe:xwr .u64 (e:Int)=e:=wrap_u64 (by omega) (by omega)
 have b1:xcm .eql (e:Int) (e:Int)=true:=t_eql rfl
 refine zE cxpd_ok ?_
 rw [pd_z]
 simp only [wd_nat,wd_asV,wd_isV,wd_ix,wd_add,wd_mul,wd_ln,Nat.zero_add,Nat.mul_one,wd_isI,wd_asI,wd_isB,wd_asB,wd_nn,cI_tlen,cB_tlen,cII_tlen,decide_true,cond_true,wd_not_t,wd_not_f,wd_and_t,wd_and_f,g5,xe,b1,lu]
 (refine zR ?_)
 exact⟨trivial,rfl,.bool true,[.cells (encL (cI .u64) ws) (some 1),.cells (encL (cI .i64) st) (some 1)],[.id 0,.id 1],⟨rfl,rfl⟩,by(exact zC)⟩
end
end Go.Lev
