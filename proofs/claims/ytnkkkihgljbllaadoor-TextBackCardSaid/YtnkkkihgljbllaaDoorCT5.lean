import Derived.Test.YtnkkkihgljbllaaDoorCT3
import Derived.Test.YtnkkkihgljbllaaDoorLc
import Derived.Test.YtnkkkihgljbllaaDoorChecked
import Derived.KernelRfl
/- text: Print -/
namespace Go.Lev
set_option linter.unusedSimpArgs false
set_option linter.unusedVariables false
open Go.RowKit
open Go.Proofs.Tryd (prog)
set_option maxRecDepth 100000
noncomputable section
theorem labX_t {b:Bool} {k:Nat} {s:List UInt8} (h:b=true):labX b k s=(108::decW (k:Int))++s:=by unfold labX; rw [if_pos h]
theorem labX_f {b:Bool} {k:Nat} {s:List UInt8} (h:b=false):labX b k s=[]:=by unfold labX; rw [if_neg (by rw [h]; decide)]
theorem bd_self:isBd2 bdP=true:=rfl
set_option maxHeartbeats 8000000 in
theorem print_f (L:List InsR) (hb:∀ x∈L,ins_bd x):SFun prog 12 [.agg [.slo 0 0 L.length 0]] (mkS [.ro (encL insE L)] gt4) fun l s=>l=.str (ptxW (encL insE L))∧s=mkS [.ro (encL insE L)] gt4:=by
 refine SFun.mono (SFun.pieces (Q:=fun l b'=>l=.str (ptxW (encL insE L))∧b'=[.ro (encL insE L)]) 58 1 paL [2] (by kernel_rfl) rfl rfl rfl ?_) fun l s' ⟨b0,⟨h1,h2⟩,h3⟩=>⟨h1,by rw [h3,h2]⟩
 have nls:noIds (encL insE L)=true:=ins_noids L
 have nnm:∀ g:Nat→Bool,noIds (tab cB 41 g)=true:=fun g=>noIds_cB 41 g
 have f1:=isFt_self
 have k1:okI5 L.length (encL insE L)=true:=okI5_iff.2 ⟨L,rfl,rfl,hb⟩
 have b1:=bd_self
 refine SSp.to cxA_ok (n:=40) (g:=gt4) 5 5 rfl (σ:={_u:Unit // okP L}) (fun _=>paT L.length 0) (fun _=>paH L.length (encL insE L) (tab cB 41 (nmT L 0))) (mkS_le (Nat.le_of_ble_eq_true rfl)) (by kernel_rfl) ?_ fun⟨_,hok⟩=>?_
 ·have e0:tab cB 41 (nmT L 0)=tab cB 41 fun _=>false:=tab_congr fun j _=>nmT_zero L j
  have n0:noIds (tab cB 41 fun _=>false)=true:=noIds_cB 41 _
  rw [pa_a,f1,k1]
  cases hp:prW (encL insE L) with
  | false =>
    have hno:¬ okP L:=fun h=>by rw [(prW_enc L).2 h] at hp; cases hp
    exact⟨trivial,rfl,.str [],_,[.id 0],⟨by rw [ptxW_no hno],rfl⟩,by(exact zC)⟩
  | true =>
    refine⟨rfl,⟨(),(prW_enc L).1 hp⟩,[.id 0,.id 1,.id 2],?_⟩
    dsimp only
    rw [e0]
    exact⟨by kernel_rfl,⟨by show LVW _ (.ptr 1 0) (.ptr 1 0); simp [LVW,lsrc],by show LVW _ (.str []) (.str []); simp only [LVW],by show LVW _ (.ptr 2 0) (.ptr 2 0); simp [LVW,lsrc],by show LVW _ (.slo 0 0 L.length 0) (.slo 0 0 L.length 0); simp [LVW,lsrc],by show LVW _ (.int .i64 (L.length:Int)) (.int .i64 (L.length:Int)); simp only [LVW]; exact⟨trivial,trivial⟩,by show LVW _ (.int .i64 0) (.int .i64 0); simp only [LVW]; exact⟨trivial,trivial⟩,trivial⟩,lb_ro nls,by simp [LBW,CW,LVWs,LVW,lsrc,Src.under,blkAt],lb_same n0,trivial⟩
 have h40:=hok.1
 refine SSp.code_to (g:=gt4) 6 rfl (σ:=Unit) (fun _=>paT L.length L.length) (fun _=>paH L.length (encL insE L) (tab cB 41 (nmB L))) (by kernel_rfl) ?_ fun _=>?_
 ·refine SCode.loop_vc cxA_ok (n:=40) 0 (by kernel_rfl) (σ:={i:Nat // i≤L.length}) (fun i=>paT L.length i.1) (fun i=>paH L.length (encL insE L) (tab cB 41 (nmT L i.1))) (fun i=>L.length - i.1) (fun _=>Nat.le_of_ble_eq_true rfl) (fun⟨i,hi⟩=>?_) ⟨0,by omega⟩
  dsimp only
  have n1:=nnm (nmT L i)
  have n2:=nnm (nmT L (i+1))
  have lt:=cB_tlen 41 (nmT L i)
  rw [pa_l]; simp only [pa_l_b1]
  by_cases hlt:i < L.length
  ·have c0:=ins_0 hlt
   have c1:=ins_1 hlt
   have c2:nthD (encL insE L) (i * 5+1+1)=.int .i64 L[i].b:=ins_2 hlt
   have c3:nthD (encL insE L) (i * 5+1+1+1)=.int .i64 L[i].c:=ins_3 hlt
   have c4:nthD (encL insE L) (i * 5+1+1+1+1)=.int .u64 L[i].n:=ins_4 hlt
   have i1:xar .add .i64 (i:Int) 1=((i+1:Nat):Int):=inc_i64 hlt (by omega)
   have hx:=hok.2 _ (List.getElem_mem hlt)
   obtain⟨_,_,_,q1,q2⟩:=may_b hx.1
   obtain⟨m,hm⟩:∃ m:Nat,L[i].c=(m:Int):=⟨L[i].c.toNat,by omega⟩
   rw [hm] at c3
   have m1:m < 41:=by omega
   by_cases y12:L[i].op=12
   ·have e:=nm_yes hlt (.inl y12) hm m1
    simp only [wd_nat,wd_asV,wd_isV,wd_ix,wd_add,wd_mul,wd_ln,Nat.zero_add,Nat.mul_one,wd_isI,wd_asI,wd_isB,wd_asB,wd_nn,cI_tlen,cB_tlen,cII_tlen,decide_true,cond_true,wd_not_t,wd_not_f,wd_and_t,wd_and_f,c0,c1,c2,c3,c4,ins_n,i1,lt,pa_l_b1,e]
    (refine zR ?_)
    exact⟨rfl,⟨i+1,hlt⟩,by simp only; omega,[.id 0,.id 1,.id 2],by(exact zC)⟩
   by_cases y13:L[i].op=13
   ·have e:=nm_yes hlt (.inr y13) hm m1
    simp only [wd_nat,wd_asV,wd_isV,wd_ix,wd_add,wd_mul,wd_ln,Nat.zero_add,Nat.mul_one,wd_isI,wd_asI,wd_isB,wd_asB,wd_nn,cI_tlen,cB_tlen,cII_tlen,decide_true,cond_true,wd_not_t,wd_not_f,wd_and_t,wd_and_f,c0,c1,c2,c3,c4,ins_n,i1,lt,pa_l_b1,e]
    (refine zR ?_)
    exact⟨rfl,⟨i+1,hlt⟩,by simp only; omega,[.id 0,.id 1,.id 2],by(exact zC)⟩
   ·have e:=nm_no hlt (by omega) 41
    simp only [wd_nat,wd_asV,wd_isV,wd_ix,wd_add,wd_mul,wd_ln,Nat.zero_add,Nat.mul_one,wd_isI,wd_asI,wd_isB,wd_asB,wd_nn,cI_tlen,cB_tlen,cII_tlen,decide_true,cond_true,wd_not_t,wd_not_f,wd_and_t,wd_and_f,c0,c1,c2,c3,c4,ins_n,i1,lt,pa_l_b1]
    (refine zR ?_)
    exact⟨rfl,⟨i+1,hlt⟩,by simp only; omega,[.id 0,.id 1,.id 2],by dsimp only; rw [e]; (exact zC)⟩
  ·obtain rfl:i=L.length:=by omega
   have e:=nmT_full L
   (refine zR ?_)
   exact⟨rfl,(),[.id 0,.id 1,.id 2],by rw [← e]; (exact zC)⟩
 have nb:=nnm (nmB L)
 refine alloc_to nls nb ?_
 refine SSp.to cxA_ok (n:=40) (g:=gt4) 1 8 rfl (σ:=Unit) (fun _=>pbT L.length 0) (fun _=>pbH L.length (encL insE L) (tab cB 41 (nmB L)) []) (mkS_le (Nat.le_of_ble_eq_true rfl)) (by kernel_rfl) ?_ fun _=>?_
 ·rw [pb_a]
  exact⟨rfl,(),[.id 0,.id 1,.id 2,.id 3,.id 4],by(exact zC)⟩
 refine SSp.code_to (g:=gt4) 9 rfl (σ:=Unit) (fun _=>pbT L.length L.length) (fun _=>pbH L.length (encL insE L) (tab cB 41 (nmB L)) (outK L L.length)) (by kernel_rfl) ?_ fun _=>?_
 ·refine SCode.loop_vc cxA_ok (n:=40) 2 (by kernel_rfl) (σ:={i:Nat // i≤L.length}) (fun i=>pbT L.length i.1) (fun i=>pbH L.length (encL insE L) (tab cB 41 (nmB L)) (outK L i.1)) (fun i=>L.length - i.1) (fun _=>Nat.le_of_ble_eq_true rfl) (fun⟨i,hi⟩=>?_) ⟨0,by omega⟩
  dsimp only
  have lo:=outK_len hok hb i hi
  rw [pb_l]
  by_cases hlt:i < L.length
  ·have c0:=ins_0 hlt
   have c1:=ins_1 hlt
   have c2:nthD (encL insE L) (i * 5+1+1)=.int .i64 L[i].b:=ins_2 hlt
   have c3:nthD (encL insE L) (i * 5+1+1+1)=.int .i64 L[i].c:=ins_3 hlt
   have c4:nthD (encL insE L) (i * 5+1+1+1+1)=.int .u64 L[i].n:=ins_4 hlt
   have cn:nthD (tab cB 41 (nmB L)) i=.bool (nmB L i):=cB_nth _ (by omega)
   have ltb:=cB_tlen 41 (nmB L)
   have i1:xar .add .i64 (i:Int) 1=((i+1:Nat):Int):=inc_i64 hlt (by omega)
   have hx:=hok.2 _ (List.getElem_mem hlt)
   have hn:=ins_nb (hb _ (List.getElem_mem hlt))
   have hm:=hx.1
   have l0:=t_leq hn.1
   have l1:=t_leq hn.2
   have ll:=line_len hm hn
   have ld:=decW_len (n:=(i:Int)) (by omega) (by omega)
   have es:=outK_succ hlt
   have w1:xle ((xsln (lineW L[i].op L[i].a L[i].b L[i].c L[i].n))+1) 1000000000=true:=t_le (by show(lineW _ _ _ _ _).length+1≤_; omega)
   cases hnm:nmB L i with
   | true =>
     rw [labX_t hnm] at es
     rw [hnm] at cn
     have w2:xle ((xsln (108::decW (i:Int)))+2) 1000000000=true:=t_le (by show(108::decW (i:Int)).length+2≤_; simp only [List.length_cons]; omega)
     have w3:xle ((xsln (outK L i))+(xsln (xscat (108::decW (i:Int)) [58,32]))) 1000000=true:=t_le (by show(outK L i).length+((108::decW (i:Int))++[58,32]).length≤_; simp only [List.length_append,List.length_cons,List.length_nil]; omega)
     have w4:xle ((xsln (xscat (outK L i) (xscat (108::decW (i:Int)) [58,32])))+(xsln (xscat (lineW L[i].op L[i].a L[i].b L[i].c L[i].n) [10]))) 1000000=true:=t_le (by show(outK L i++((108::decW (i:Int))++[58,32])).length+(lineW _ _ _ _ _++[10]).length≤_; simp only [List.length_append,List.length_cons,List.length_nil]; omega)
     simp only [wd_nat,wd_asV,wd_isV,wd_ix,wd_add,wd_mul,wd_ln,Nat.zero_add,Nat.mul_one,wd_isI,wd_asI,wd_isB,wd_asB,wd_nn,cI_tlen,cB_tlen,cII_tlen,decide_true,cond_true,wd_not_t,wd_not_f,wd_and_t,wd_and_f,c0,c1,c2,c3,c4,ins_n,i1,cn,ltb,hm,f1,b1,l0,l1,w1,w2,w3,w4]
     (refine zR ?_)
     exact⟨rfl,⟨i+1,hlt⟩,by simp only; omega,[.id 0,.id 1,.id 2,.id 3,.id 7],by dsimp only; rw [es]; (exact zC)⟩
   | false =>
     rw [labX_f hnm,List.append_nil] at es
     rw [hnm] at cn
     have w4:xle ((xsln (outK L i))+(xsln (xscat (lineW L[i].op L[i].a L[i].b L[i].c L[i].n) [10]))) 1000000=true:=t_le (by show(outK L i).length+(lineW _ _ _ _ _++[10]).length≤_; simp only [List.length_append,List.length_cons,List.length_nil]; omega)
     simp only [wd_nat,wd_asV,wd_isV,wd_ix,wd_add,wd_mul,wd_ln,Nat.zero_add,Nat.mul_one,wd_isI,wd_asI,wd_isB,wd_asB,wd_nn,cI_tlen,cB_tlen,cII_tlen,decide_true,cond_true,wd_not_t,wd_not_f,wd_and_t,wd_and_f,c0,c1,c2,c3,c4,ins_n,i1,cn,ltb,hm,f1,b1,l0,l1,w1,w4]
     (refine zR ?_)
     exact⟨rfl,⟨i+1,hlt⟩,by simp only; omega,[.id 0,.id 1,.id 2,.id 3,.id 6],by dsimp only; rw [es]; (exact zC)⟩
  ·obtain rfl:i=L.length:=by omega
   (refine zR ?_)
   exact⟨rfl,(),[.id 0,.id 1,.id 2,.id 3,.id 4],by(exact zC)⟩
 have lo:=outK_len hok hb L.length (Nat.le_refl _)
 have ld:=decW_len (n:=(L.length:Int)) (by omega) (by omega)
 have cn:nthD (tab cB 41 (nmB L)) L.length=.bool (nmB L L.length):=cB_nth _ (by omega)
 have ltb:=cB_tlen 41 (nmB L)
 have ez:=ptxW_ok hok
 refine SSp.last cxA_ok (n:=40) (mkS_le (Nat.le_of_ble_eq_true rfl)) ?_
 rw [pb_z]
 unfold outL at ez
 cases hnm:nmB L L.length with
 | true =>
   rw [labX_t hnm] at ez
   rw [hnm] at cn
   have w2:xle ((xsln (108::decW (L.length:Int)))+2) 1000000000=true:=t_le (by show(108::decW (L.length:Int)).length+2≤_; simp only [List.length_cons]; omega)
   have w3:xle ((xsln (outK L L.length))+(xsln (xscat (108::decW (L.length:Int)) [58,10]))) 1000000=true:=t_le (by show(outK L L.length).length+((108::decW (L.length:Int))++[58,10]).length≤_; simp only [List.length_append,List.length_cons,List.length_nil]; omega)
   have w4:xle (xsln (xscat (outK L L.length) (xscat (108::decW (L.length:Int)) [58,10]))) 1000000=true:=t_le (by show(outK L L.length++((108::decW (L.length:Int))++[58,10])).length≤_; simp only [List.length_append,List.length_cons,List.length_nil]; omega)
   (refine zN6 @cn @ltb @b1 @w2 @w3 @w4 ?_)
   (refine zR ?_)
   exact⟨trivial,rfl,_,_,[.id 0],⟨by rw [ez],rfl⟩,by(exact zC)⟩
 | false =>
   rw [labX_f hnm,List.append_nil] at ez
   rw [hnm] at cn
   have w4:xle (xsln (outK L L.length)) 1000000=true:=t_le (by show(outK L L.length).length≤_; omega)
   (refine zN4 @cn @ltb @b1 @w4 ?_)
   (refine zR ?_)
   exact⟨trivial,rfl,_,_,[.id 0],⟨by rw [ez],rfl⟩,by(exact zC)⟩
end
end Go.Lev
/- text: the reference's Print -/
namespace Go.Lev
set_option linter.unusedSimpArgs false
set_option linter.unusedVariables false
open Go.RowKit
open Go.Proofs.Tryd (prog)
set_option maxRecDepth 100000
noncomputable section
end
end Go.Lev
