/- text: the reference's Print -/
import Derived.Test.YticekakedhinkaaDoorCT4
import Derived.Test.YticekakedhinkaaDoorLc
import Derived.Test.YticekakedhinkaaDoorChecked
import Derived.KernelRfl
namespace Go.Lev
set_option linter.unusedSimpArgs false
set_option linter.unusedVariables false
open Go.RowKit
open Go.Proofs.Tryd (prog)
set_option maxRecDepth 100000
noncomputable section
theorem outK_t {L:List InsR} {k:Nat} (h:k < L.length) (hn:nmB L k=true):xscat (xscat (xscat (xscat (xscat (outK L k) [108]) (decW (k:Int))) [58,32]) (lineW L[k].op L[k].a L[k].b L[k].c L[k].n)) [10]=outK L (k+1):=by
 rw [outK_succ h,labX_t hn]
 simp only [xscat,List.append_assoc,List.cons_append,List.nil_append]
theorem outK_f {L:List InsR} {k:Nat} (h:k < L.length) (hn:nmB L k=false):xscat (xscat (outK L k) (lineW L[k].op L[k].a L[k].b L[k].c L[k].n)) [10]=outK L (k+1):=by
 rw [outK_succ h,labX_f hn]
 simp only [xscat,List.append_assoc,List.append_nil]
theorem outL_t {L:List InsR} (hn:nmB L L.length=true):xscat (xscat (xscat (outK L L.length) [108]) (decW (L.length:Int))) [58,10]=outL L:=by
 unfold outL
 rw [labX_t hn]
 simp only [xscat,List.append_assoc,List.cons_append,List.nil_append]
theorem outL_f {L:List InsR} (hn:nmB L L.length=false):outK L L.length=outL L:=by
 unfold outL
 rw [labX_f hn,List.append_nil]
set_option maxHeartbeats 8000000 in
theorem refp_f (L:List InsR) (hb:∀ x∈L,ins_bd x):SFun prog 7 [.agg [.slo 0 0 L.length 0]] (mkS [.ro (encL insE L)] gt4) fun l s=>l=.str (ptxW (encL insE L))∧s=mkS [.ro (encL insE L)] gt4:=by
 refine SFun.mono (SFun.pieces (Q:=fun l b'=>l=.str (ptxW (encL insE L))∧b'=[.ro (encL insE L)]) 93 1 qaL [2] (by kernel_rfl) rfl rfl rfl ?_) fun l s' ⟨b0,⟨h1,h2⟩,h3⟩=>⟨h1,by rw [h3,h2]⟩
 have nls:noIds (encL insE L)=true:=ins_noids L
 have nnm:∀ g:Nat→Bool,noIds (tab cB (L.length+1) g)=true:=fun g=>noIds_cB (L.length+1) g
 have f1:=isFt_self
 refine SSp.to cxB_ok (n:=40) (g:=gt4) 5 5 rfl (σ:={_u:Unit // L.length≤40}) (fun _=>qaT L.length 0) (fun _=>qaH L.length (encL insE L) (tab cB (L.length+1) (nmT L 0))) (mkS_le (Nat.le_of_ble_eq_true rfl)) (by kernel_rfl) ?_ fun⟨_,h40⟩=>?_
 ·rw [qa_a]
  by_cases c:40 < L.length
  ·have hno:¬ okP L:=fun h=>by have:=h.1; omega
   (refine zR ?_)
   exact⟨trivial,rfl,.str [],_,[.id 0],⟨by rw [ptxW_no hno],rfl⟩,by(exact zC)⟩
  ·have i1:xar .add .i64 (L.length:Int) 1=((L.length+1:Nat):Int):=inc_i64 (Nat.lt_succ_self L.length) (by omega)
   have er:xrep (L.length+1) [.bool false]=tab cB (L.length+1) (nmT L 0):=(tab_rep (f:=cB) false _).trans (tab_congr fun j _=>(nmT_zero L j).symm)
   have n0:=nnm (nmT L 0)
   (refine zN2 @i1 @er ?_)
   (refine zR ?_)
   refine⟨rfl,⟨(),by omega⟩,[.id 0,.id 1,.cap 2 0 (L.length+1)],?_⟩
   dsimp only
   have hc:LBW (lsrc [.id 0,.id 1,.cap 2 0 (L.length+1)]) (.cap 2 0 (L.length+1)) (.cells (tab cB (L.length+1) (nmT L 0)) (some 1)) (some (.cells (tab cB (L.length+1) (nmT L 0)) none)):=lb_capn (by rw [cB_tlen]; omega) n0
   refine⟨by kernel_rfl,⟨by show LVW _ (.ptr 1 0) (.ptr 1 0); simp [LVW,lsrc],by show LVW _ (.str []) (.str []); simp only [LVW],by show LVW _ (.slo 2 0 (L.length+1) 0) (.sl 2 0 (L.length+1) (L.length+1)); exact lw_cap rfl (Nat.le_refl _),by show LVW _ (.int .i64 0) (.int .i64 0); simp only [LVW]; exact⟨trivial,trivial⟩,trivial⟩,lb_ro nls,by simp [LBW,CW,LVWs,LVW,lsrc,Src.under,blkAt],hc,trivial⟩
 refine SSp.code_to (g:=gt4) 6 rfl (σ:={_u:Unit // okP L}) (fun _=>qaT L.length L.length) (fun _=>qaH L.length (encL insE L) (tab cB (L.length+1) (nmB L))) (by kernel_rfl) ?_ fun⟨_,hok⟩=>?_
 ·refine SCode.loop_vc cxB_ok (n:=40) 0 (by kernel_rfl) (σ:={i:Nat // i≤L.length∧∀ j (h:j < L.length),j < i→okx L.length L[j]}) (fun i=>qaT L.length i.1) (fun i=>qaH L.length (encL insE L) (tab cB (L.length+1) (nmT L i.1))) (fun i=>L.length - i.1) (fun _=>Nat.le_of_ble_eq_true rfl) (fun⟨i,hi,hj⟩=>?_) ⟨0,by omega,fun j _ h=>by omega⟩
  dsimp only
  have n1:=nnm (nmT L i)
  have n2:=nnm (nmT L (i+1))
  have lt:=cB_tlen (L.length+1) (nmT L i)
  rw [qa_l]; simp only [qa_l_b1,qa_l_b2]
  by_cases hlt:i < L.length
  ·have c0:=ins_0 hlt
   have c1:=ins_1 hlt
   have c2:nthD (encL insE L) (i * 5+1+1)=.int .i64 L[i].b:=ins_2 hlt
   have c3:nthD (encL insE L) (i * 5+1+1+1)=.int .i64 L[i].c:=ins_3 hlt
   have c4:nthD (encL insE L) (i * 5+1+1+1+1)=.int .u64 L[i].n:=ins_4 hlt
   have i1:xar .add .i64 (i:Int) 1=((i+1:Nat):Int):=inc_i64 hlt (by omega)
   have nx:okx L.length L[i]→∀ j (h:j < L.length),j < i+1→okx L.length L[j]:=fun h j h1 h2=>by
    rcases Nat.lt_succ_iff_lt_or_eq.1 h2 with h2 | rfl
    ·exact hj j h1 h2
    ·exact h
   have bad:¬ okx L.length L[i]→ptxW (encL insE L)=[]:=fun h=>ptxW_no fun k=>h (k.2 _ (List.getElem_mem hlt))
   cases hm:mayW L[i].op L[i].a L[i].b L[i].c L[i].n with
   | false =>
     have hF:=bad fun h=>by rw [h.1] at hm; cases hm
     simp only [wd_nat,wd_asV,wd_isV,wd_ix,wd_add,wd_mul,wd_ln,Nat.zero_add,Nat.mul_one,wd_isI,wd_asI,wd_isB,wd_asB,wd_nn,cI_tlen,cB_tlen,cII_tlen,decide_true,cond_true,wd_not_t,wd_not_f,wd_and_t,wd_and_f,c0,c1,c2,c3,c4,ins_n,hm,i1,lt,qa_l_b1,qa_l_b2]
     (refine zR ?_)
     exact⟨trivial,rfl,.str [],_,[.id 0],⟨by rw [hF],rfl⟩,by(exact zC)⟩
   | true =>
     obtain⟨_,_,_,q1,q2⟩:=may_b hm
     by_cases y12:L[i].op=12
     ·by_cases yc:(L.length:Int) < L[i].c
      ·have hF:=bad fun h=>by have:=h.2 (.inl y12); omega
       simp only [wd_nat,wd_asV,wd_isV,wd_ix,wd_add,wd_mul,wd_ln,Nat.zero_add,Nat.mul_one,wd_isI,wd_asI,wd_isB,wd_asB,wd_nn,cI_tlen,cB_tlen,cII_tlen,decide_true,cond_true,wd_not_t,wd_not_f,wd_and_t,wd_and_f,c0,c1,c2,c3,c4,ins_n,hm,i1,lt,qa_l_b1,qa_l_b2]
       (refine zR ?_)
       exact⟨trivial,rfl,.str [],_,[.id 0],⟨by rw [hF],rfl⟩,by(exact zC)⟩
      ·have hn:=nx ⟨hm,fun _=>by omega⟩
       obtain⟨m,hmc⟩:∃ m:Nat,L[i].c=(m:Int):=⟨L[i].c.toNat,by omega⟩
       rw [hmc] at c3 hm yc
       have m1:m < L.length+1:=by omega
       have e:=nm_yes hlt (.inl y12) hmc m1
       simp only [wd_nat,wd_asV,wd_isV,wd_ix,wd_add,wd_mul,wd_ln,Nat.zero_add,Nat.mul_one,wd_isI,wd_asI,wd_isB,wd_asB,wd_nn,cI_tlen,cB_tlen,cII_tlen,decide_true,cond_true,wd_not_t,wd_not_f,wd_and_t,wd_and_f,c0,c1,c2,c3,c4,ins_n,hm,i1,lt,qa_l_b1,qa_l_b2,e]
       (refine zR ?_)
       exact⟨rfl,⟨i+1,hlt,hn⟩,by simp only; omega,[.id 0,.id 1,.id 2],by(exact zC)⟩
     ·by_cases y13:L[i].op=13
      ·by_cases yc:(L.length:Int) < L[i].c
       ·have hF:=bad fun h=>by have:=h.2 (.inr y13); omega
        simp only [wd_nat,wd_asV,wd_isV,wd_ix,wd_add,wd_mul,wd_ln,Nat.zero_add,Nat.mul_one,wd_isI,wd_asI,wd_isB,wd_asB,wd_nn,cI_tlen,cB_tlen,cII_tlen,decide_true,cond_true,wd_not_t,wd_not_f,wd_and_t,wd_and_f,c0,c1,c2,c3,c4,ins_n,hm,i1,lt,qa_l_b1,qa_l_b2]
        (refine zR ?_)
        exact⟨trivial,rfl,.str [],_,[.id 0],⟨by rw [hF],rfl⟩,by(exact zC)⟩
       ·have hn:=nx ⟨hm,fun _=>by omega⟩
        obtain⟨m,hmc⟩:∃ m:Nat,L[i].c=(m:Int):=⟨L[i].c.toNat,by omega⟩
        rw [hmc] at c3 hm yc
        have m1:m < L.length+1:=by omega
        have e:=nm_yes hlt (.inr y13) hmc m1
        simp only [wd_nat,wd_asV,wd_isV,wd_ix,wd_add,wd_mul,wd_ln,Nat.zero_add,Nat.mul_one,wd_isI,wd_asI,wd_isB,wd_asB,wd_nn,cI_tlen,cB_tlen,cII_tlen,decide_true,cond_true,wd_not_t,wd_not_f,wd_and_t,wd_and_f,c0,c1,c2,c3,c4,ins_n,hm,i1,lt,qa_l_b1,qa_l_b2,e]
        (refine zR ?_)
        exact⟨rfl,⟨i+1,hlt,hn⟩,by simp only; omega,[.id 0,.id 1,.id 2],by(exact zC)⟩
      ·have hn:=nx ⟨hm,fun h=>by omega⟩
       have e:=nm_no hlt (by omega) (L.length+1)
       simp only [wd_nat,wd_asV,wd_isV,wd_ix,wd_add,wd_mul,wd_ln,Nat.zero_add,Nat.mul_one,wd_isI,wd_asI,wd_isB,wd_asB,wd_nn,cI_tlen,cB_tlen,cII_tlen,decide_true,cond_true,wd_not_t,wd_not_f,wd_and_t,wd_and_f,c0,c1,c2,c3,c4,ins_n,hm,i1,lt,qa_l_b1,qa_l_b2]
       (refine zR ?_)
       exact⟨rfl,⟨i+1,hlt,hn⟩,by simp only; omega,[.id 0,.id 1,.id 2],by dsimp only; rw [e]; (exact zC)⟩
  ·obtain rfl:i=L.length:=by omega
   have e:=nmT_full L
   have hok:okP L:=⟨h40,fun x hx=>by
    obtain⟨j,h1,rfl⟩:=List.mem_iff_getElem.1 hx
    exact hj j h1 h1⟩
   (refine zR ?_)
   exact⟨rfl,⟨(),hok⟩,[.id 0,.id 1,.id 2],by rw [← e]; (exact zC)⟩
 have nb:=nnm (nmB L)
 refine SSp.to cxB_ok (n:=40) (g:=gt4) 2 8 rfl (σ:=Unit) (fun _=>qbT L.length [] 0) (fun _=>qaH L.length (encL insE L) (tab cB (L.length+1) (nmB L))) (mkS_le (Nat.le_of_ble_eq_true rfl)) (by kernel_rfl) ?_ fun _=>?_
 ·rw [qb_a]
  exact⟨rfl,(),[.id 0,.id 1,.id 2],by(exact zC)⟩
 refine SSp.code_to (g:=gt4) 9 rfl (σ:=Unit) (fun _=>qbT L.length (outK L L.length) L.length) (fun _=>qaH L.length (encL insE L) (tab cB (L.length+1) (nmB L))) (by kernel_rfl) ?_ fun _=>?_
 ·refine SCode.loop_vc cxB_ok (n:=40) 2 (by kernel_rfl) (σ:={i:Nat // i≤L.length}) (fun i=>qbT L.length (outK L i.1) i.1) (fun _=>qaH L.length (encL insE L) (tab cB (L.length+1) (nmB L))) (fun i=>L.length - i.1) (fun _=>Nat.le_of_ble_eq_true rfl) (fun⟨i,hi⟩=>?_) ⟨0,by omega⟩
  dsimp only
  have lo:=outK_len hok hb i hi
  rw [qb_l]
  by_cases hlt:i < L.length
  ·have c0:=ins_0 hlt
   have c1:=ins_1 hlt
   have c2:nthD (encL insE L) (i * 5+1+1)=.int .i64 L[i].b:=ins_2 hlt
   have c3:nthD (encL insE L) (i * 5+1+1+1)=.int .i64 L[i].c:=ins_3 hlt
   have c4:nthD (encL insE L) (i * 5+1+1+1+1)=.int .u64 L[i].n:=ins_4 hlt
   have cn:nthD (tab cB (L.length+1) (nmB L)) i=.bool (nmB L i):=cB_nth _ (by omega)
   have ltb:=cB_tlen (L.length+1) (nmB L)
   have i1:xar .add .i64 (i:Int) 1=((i+1:Nat):Int):=inc_i64 hlt (by omega)
   have hx:=hok.2 _ (List.getElem_mem hlt)
   have hn:=ins_nb (hb _ (List.getElem_mem hlt))
   have hm:=hx.1
   have l0:=t_leq hn.1
   have l1:=t_leq hn.2
   have ll:=line_len hm hn
   have ld:=decW_len (n:=(i:Int)) (by omega) (by omega)
   have wr:xwr .u64 (i:Int)=(i:Int):=wr_u64 (by omega) (by omega)
   have p0:xcm .leq 0 (i:Int)=true:=t_leq (by omega)
   have p1:xcm .leq (i:Int) 18446744073709551615=true:=t_leq (by omega)
   have h40:=hok.1
   cases hnm:nmB L i with
   | true =>
     have es:=outK_t hlt hnm
     rw [hnm] at cn
     have w1:xle ((xsln (outK L i))+1) 1000000000=true:=t_le (by simp only [xsln]; omega)
     have w2:xle ((xsln (xscat (outK L i) [108]))+(xsln (decW (i:Int)))) 1000000000=true:=t_le (by simp only [xsln,xscat,List.length_append,List.length_cons,List.length_nil]; omega)
     have w3:xle ((xsln (xscat (xscat (outK L i) [108]) (decW (i:Int))))+2) 1000000000=true:=t_le (by simp only [xsln,xscat,List.length_append,List.length_cons,List.length_nil]; omega)
     have w4:xle ((xsln (xscat (xscat (xscat (outK L i) [108]) (decW (i:Int))) [58,32]))+(xsln (lineW L[i].op L[i].a L[i].b L[i].c L[i].n))) 1000000000=true:=t_le (by simp only [xsln,xscat,List.length_append,List.length_cons,List.length_nil]; omega)
     have w5:xle ((xsln (xscat (xscat (xscat (xscat (outK L i) [108]) (decW (i:Int))) [58,32]) (lineW L[i].op L[i].a L[i].b L[i].c L[i].n)))+1) 1000000000=true:=t_le (by simp only [xsln,xscat,List.length_append,List.length_cons,List.length_nil]; omega)
     simp only [wd_nat,wd_asV,wd_isV,wd_ix,wd_add,wd_mul,wd_ln,Nat.zero_add,Nat.mul_one,wd_isI,wd_asI,wd_isB,wd_asB,wd_nn,cI_tlen,cB_tlen,cII_tlen,decide_true,cond_true,wd_not_t,wd_not_f,wd_and_t,wd_and_f,c0,c1,c2,c3,c4,ins_n,i1,cn,ltb,hm,f1,wr,p0,p1,l0,l1,w1,w2,w3,w4,w5,es]
     (refine zR ?_)
     exact⟨rfl,⟨i+1,hlt⟩,by simp only; omega,[.id 0,.id 1,.id 2],by(exact zC)⟩
   | false =>
     have es:=outK_f hlt hnm
     rw [hnm] at cn
     have w4:xle ((xsln (outK L i))+(xsln (lineW L[i].op L[i].a L[i].b L[i].c L[i].n))) 1000000000=true:=t_le (by simp only [xsln]; omega)
     have w5:xle ((xsln (xscat (outK L i) (lineW L[i].op L[i].a L[i].b L[i].c L[i].n)))+1) 1000000000=true:=t_le (by simp only [xsln,xscat,List.length_append]; omega)
     simp only [wd_nat,wd_asV,wd_isV,wd_ix,wd_add,wd_mul,wd_ln,Nat.zero_add,Nat.mul_one,wd_isI,wd_asI,wd_isB,wd_asB,wd_nn,cI_tlen,cB_tlen,cII_tlen,decide_true,cond_true,wd_not_t,wd_not_f,wd_and_t,wd_and_f,c0,c1,c2,c3,c4,ins_n,i1,cn,ltb,hm,f1,l0,l1,w4,w5,es]
     (refine zR ?_)
     exact⟨rfl,⟨i+1,hlt⟩,by simp only; omega,[.id 0,.id 1,.id 2],by(exact zC)⟩
  ·obtain rfl:i=L.length:=by omega
   (refine zR ?_)
   exact⟨rfl,(),[.id 0,.id 1,.id 2],by(exact zC)⟩
 have h40:=hok.1
 have lo:=outK_len hok hb L.length (Nat.le_refl _)
 have ld:=decW_len (n:=(L.length:Int)) (by omega) (by omega)
 have cn:nthD (tab cB (L.length+1) (nmB L)) L.length=.bool (nmB L L.length):=cB_nth _ (by omega)
 have ltb:=cB_tlen (L.length+1) (nmB L)
 have ez:=ptxW_ok hok
 have wr:xwr .u64 (L.length:Int)=(L.length:Int):=wr_u64 (by omega) (by omega)
 have p0:xcm .leq 0 (L.length:Int)=true:=t_leq (by omega)
 have p1:xcm .leq (L.length:Int) 18446744073709551615=true:=t_leq (by omega)
 refine SSp.last cxB_ok (n:=40) (mkS_le (Nat.le_of_ble_eq_true rfl)) ?_
 rw [qb_z]
 cases hnm:nmB L L.length with
 | true =>
   have es:=outL_t hnm
   rw [hnm] at cn
   have w1:xle ((xsln (outK L L.length))+1) 1000000000=true:=t_le (by simp only [xsln]; omega)
   have w2:xle ((xsln (xscat (outK L L.length) [108]))+(xsln (decW (L.length:Int)))) 1000000000=true:=t_le (by simp only [xsln,xscat,List.length_append,List.length_cons,List.length_nil]; omega)
   have w3:xle ((xsln (xscat (xscat (outK L L.length) [108]) (decW (L.length:Int))))+2) 1000000000=true:=t_le (by simp only [xsln,xscat,List.length_append,List.length_cons,List.length_nil]; omega)
   simp only [wd_nat,wd_asV,wd_isV,wd_ix,wd_add,wd_mul,wd_ln,Nat.zero_add,Nat.mul_one,wd_isI,wd_asI,wd_isB,wd_asB,wd_nn,cI_tlen,cB_tlen,cII_tlen,decide_true,cond_true,wd_not_t,wd_not_f,wd_and_t,wd_and_f,cn,ltb,wr,p0,p1,w1,w2,w3,es]
   (refine zR ?_)
   exact⟨trivial,rfl,_,_,[.id 0],⟨by rw [ez],rfl⟩,by(exact zC)⟩
 | false =>
   have es:=outL_f hnm
   rw [hnm] at cn
   (refine zN3 @cn @ltb @es ?_)
   (refine zR ?_)
   exact⟨trivial,rfl,_,_,[.id 0],⟨by rw [ez],rfl⟩,by(exact zC)⟩
end
end Go.Lev
