/- text: TextPlaces (P16.2): a word that is wrong is told by its line and its column, in runes, whatever stands behind it. Condition: the listed package-level variables hold what the program's text lays. -/
import Derived.Test.YtnkkkihgljbllaaDoorCL4
import Derived.Test.YtnkkkihgljbllaaDoorCL3
import Derived.Test.YtnkkkihgljbllaaDoorCL1
import Derived.Test.YtnkkkihgljbllaaDoorLc
import Derived.Test.YtnkkkihgljbllaaDoorChecked
import Derived.KernelRfl
import Derived.Test.YtnkkkihgljbllaaDoorLc
import Derived.Test.YtnkkkihgljbllaaDoorLc
import Derived.Test.YtnkkkihgljbllaaDoorRows
import Derived.Lib.LaidTab
namespace Go.Lev
set_option linter.unusedSimpArgs false
set_option linter.unusedVariables false
open Go.RowKit
open Go.Proofs.Tryd (prog)
set_option maxRecDepth 100000
noncomputable section
theorem cxPL_ok:CtrOk prog (ctrOf cxPL):=cxl_ok ⟨trG_ok,poG_ok,wrapG_ok progG_ok,pbG_ok,nameG_ok,trivial⟩
theorem u8_rem {x:Int} {k:Nat} (h:0≤x∧x≤255) (h1:1≤k) (h2:k≤100):∃ N:Nat,N < k∧xar .rem .u8 x (k:Int)=(N:Int)∧xwr .i64 (xar .rem .u8 x (k:Int))=(N:Int):=by
 have e:xar .rem .u8 x (k:Int)=x % (k:Int):=by rw [xar_rem _ _ _ (by omega),Int.tmod_eq_emod_of_nonneg h.1]
 have a:=Int.emod_nonneg x (b:=(k:Int)) (by omega)
 have b:=Int.emod_lt_of_pos x (b:=(k:Int)) (by omega)
 refine⟨(x % (k:Int)).toNat,by omega,by rw [e]; omega,?_⟩
 rw [e]
 exact(wrap_i64 (by omega) (by omega)).trans (by omega)
theorem par_at {t:List UInt8} {n m:Nat} {a:Int} (h:(rdZ t).1=(((n+1:Nat):Int),(m:Int)+a,12)):pzB t=true∧pZl t=((n+1:Nat):Int)∧pZc t=(m:Int)+a∧pZe t=12:=by
 unfold pzB pZl pZc pZe
 rw [h]
 exact⟨by simp,rfl,rfl,rfl⟩
set_option maxHeartbeats 8000000 in
theorem places_fun (K:List KinR) (lines blanks how:Int) (hl:0≤lines∧lines≤255) (hb:0≤blanks∧blanks≤255) (hh:0≤how∧how≤255) (hn:K.length≤9223372036854775807) (hk:∀ x∈K,kin_bd x) :
  SFun prog 7 [.int .u8 lines,.int .u8 blanks,.slo 0 0 K.length 0,.int .u8 how] (mkS [.ro (encL kinE K)] gt4) fun l s=>l=.bool true∧s=mkS [.ro (encL kinE K)] gt4:=by
 refine SFun.mono (SFun.pieces (Q:=fun l b=>l=.bool true∧b=[.ro (encL kinE K)]) 97 1 plL [8] (by kernel_rfl) rfl rfl rfl ?_) fun l s' ⟨b0,⟨h1,h2⟩,h3⟩=>⟨h1,by rw [h3,h2]⟩
 have nk:=kin_noids K
 obtain⟨N,hN,-,eN⟩:=u8_rem (k:=20) hl (by omega) (by omega)
 obtain⟨M,hM,-,eM⟩:=u8_rem (k:=30) hb (by omega) (by omega)
 obtain⟨H,hH,eH,-⟩:=u8_rem (k:=5) hh (by omega) (by omega)
 have ok:okKin K.length (encL kinE K) 40=true:=okKin_iff.2 ⟨K,rfl,rfl,hn,by omega⟩
 have hbd:allBd (gF K 40 false):=gF_bd (by omega) fun x hx=>by have:=(hk x hx).2.2.2.2; exact this
 have o5:okI5 (gN (encL kinE K) 40 false) (gW (encL kinE K) 40 false)=true:=okI5_iff.2 ⟨gF K 40 false,by rw [gW,decKin_enc],by rw [gN,decKin_enc],hbd⟩
 have pl:(ptxW (gW (encL kinE K) 40 false)).length≤3100:=by rw [gW,decKin_enc]; exact ptx_len hbd
 obtain⟨px,hpx⟩:∃ px,px=ptxW (gW (encL kinE K) 40 false):=⟨_,rfl⟩
 rw [← hpx] at pl
 refine SSp.to cxPL_ok (n:=60) (g:=gt4) 6 6 rfl (σ:=Unit) (fun _=>plT K.length how N M (rems 0) (0:Nat)) (fun _=>[.ro (encL kinE K)]) (mkS_le (Nat.le_of_ble_eq_true rfl)) (by kernel_rfl) ?_ fun _=>?_
 ·rw [pl_a]
  change cond (isFt powF) _ _
  rw [isFt_self,cond_true,show xwr .i64 (xar .rem .u8 lines 20)=(N:Int) from eN,show xwr .i64 (xar .rem .u8 blanks 30)=(M:Int) from eM]
  exact⟨rfl,(),[.id 0],by(exact zC)⟩
 refine SSp.code_to (g:=gt4) 7 rfl (σ:=Unit) (fun _=>plT K.length how N M (rems N) (N:Nat)) (fun _=>[.ro (encL kinE K)]) (by kernel_rfl) ?_ fun _=>?_
 ·refine SCode.loop_vc cxPL_ok (n:=60) (n0:=1) 0 (by kernel_rfl) (σ:={i:Nat // i≤N}) (fun i=>plT K.length how N M (rems i.1) (i.1:Nat)) (fun _=>[.ro (encL kinE K)]) (fun i=>N - i.1) (fun _=>Nat.le_of_ble_eq_true rfl) (fun⟨i,hi⟩=>?_) ⟨0,Nat.zero_le _⟩
  dsimp only at hi ⊢
  rw [pl_1]
  by_cases h:i < N
  ·have e3:xar .add .i64 (i:Int) 1=((i+1:Nat):Int):=inc_i64 h (by omega)
   have ec:xscat (rems i) [59,32,195,169,10]=rems (i+1):=rfl
   simp only [show xcm .lss ((i:Nat):Int) ((N:Nat):Int)=true from t_lss (by omega),show xle (xadd (xsln (rems i)) 5) 1000000000=true from t_le (by show(rems i).length+5≤_; rw [rems_len]; omega),e3,ec,cond_true]
   exact⟨rfl,⟨i+1,by omega⟩,by dsimp only; omega,[.id 0],by(exact zC)⟩
  ·obtain rfl:i=N:=by omega
   simp only [show xcm .lss ((i:Nat):Int) ((i:Nat):Int)=false from f_lss (Int.le_refl _),cond_false]
   exact⟨rfl,(),[.id 0],by(exact zC)⟩
 refine SSp.to cxPL_ok (n:=60) (g:=gt4) 1 8 rfl (σ:=Unit) (fun _=>plU K.length how N M (rems N++blks 0) (0:Nat)) (fun _=>[.ro (encL kinE K)]) (mkS_le (Nat.le_of_ble_eq_true rfl)) (by kernel_rfl) ?_ fun _=>?_
 ·rw [pl_b,show rems N++blks 0=rems N from List.append_nil _]
  exact⟨rfl,(),[.id 0],by(exact zC)⟩
 refine SSp.code_to (g:=gt4) 9 rfl (σ:=Unit) (fun _=>plU K.length how N M (rems N++blks M) (M:Nat)) (fun _=>[.ro (encL kinE K)]) (by kernel_rfl) ?_ fun _=>?_
 ·refine SCode.loop_vc cxPL_ok (n:=60) (n0:=1) 2 (by kernel_rfl) (σ:={i:Nat // i≤M}) (fun i=>plU K.length how N M (rems N++blks i.1) (i.1:Nat)) (fun _=>[.ro (encL kinE K)]) (fun i=>M - i.1) (fun _=>Nat.le_of_ble_eq_true rfl) (fun⟨i,hi⟩=>?_) ⟨0,Nat.zero_le _⟩
  dsimp only at hi ⊢
  rw [pl_2]
  by_cases h:i < M
  ·have e3:xar .add .i64 (i:Int) 1=((i+1:Nat):Int):=inc_i64 h (by omega)
   have ec:xscat (rems N++blks i) [32]=rems N++blks (i+1):=by show(rems N++blks i)++[32]=_; rw [List.append_assoc]; rfl
   simp only [show xcm .lss ((i:Nat):Int) ((M:Nat):Int)=true from t_lss (by omega),show xle (xadd (xsln (rems N++blks i)) 1) 1000000000=true from t_le (by show(rems N++blks i).length+1≤_; rw [List.length_append,rems_len,blks_len]; omega),e3,ec,cond_true]
   exact⟨rfl,⟨i+1,by omega⟩,by dsimp only; omega,[.id 0],by(exact zC)⟩
  ·obtain rfl:i=M:=by omega
   simp only [show xcm .lss ((i:Nat):Int) ((i:Nat):Int)=false from f_lss (Int.le_refl _),cond_false]
   exact⟨rfl,(),[.id 0],by(exact zC)⟩
 refine zE cxPL_ok ?_
 rw [pl_z,← hpx]
 have sl:(rems N++blks M).length≤124:=by rw [List.length_append,rems_len,blks_len]; omega
 have hN1:xar .add .i64 ((N:Nat):Int) 1=((N+1:Nat):Int):=by rw [add_i64 (by omega) (by omega)]; omega
 have fs:=isFt_self
 have eqs:∀ x:Int,xcm .eql x x=true:=fun x=>t_eql rfl
 by_cases h0:H=0
 ·subst h0
  obtain⟨t,ht⟩:∃ t,t=rems N++(blks M++([115,195,169,116,32,114,49,32,53]++10::px)):=⟨_,rfl⟩
  have et:xscat (xscat (xscat (rems N++blks M) [115,195,169,116,32,114,49,32,53]) [10]) px=t:=by
   rw [ht]; show((rems N++blks M)++[115,195,169,116,32,114,49,32,53])++[10]++px=_
   simp
  have tl:t.length=(rems N++blks M).length+10+px.length:=by rw [← et]; simp [xscat]; omega
  have kT:okT t=true:=okT_iff.2 ⟨by omega,by omega⟩
  obtain⟨b1,b2,b3,b4⟩:=par_at (bad_0 N M px t ht)
  have eA:xar .add .i64 ((M:Nat):Int) 1=(M:Int)+1:=add_i64 (by omega) (by omega)
  have q1:xle (xadd (xsln (rems N++blks M)) 9) 1000000000=true:=t_le (by show(rems N++blks M).length+9≤_; omega)
  have q2:xle (xadd (xsln (xscat (rems N++blks M) [115,195,169,116,32,114,49,32,53])) 1) 1000000000=true:=t_le (by show((rems N++blks M)++[115,195,169,116,32,114,49,32,53]).length+1≤_; rw [List.length_append]; simp only [List.length_cons,List.length_nil]; omega)
  have q3:xle (xadd (xsln (xscat (xscat (rems N++blks M) [115,195,169,116,32,114,49,32,53]) [10])) (xsln px)) 1000000000=true:=t_le (by show(((rems N++blks M)++[115,195,169,116,32,114,49,32,53])++[10]).length+px.length≤_; rw [List.length_append,List.length_append]; simp only [List.length_cons,List.length_nil]; omega)
  have eH5:xar .rem .u8 how 5=0:=eH
  simp only [eH5,show xcm .eql (0:Int) 0=true from rfl,show xcm .lss (0:Int) 4=true from rfl,q1,q2,q3,ok,o5,fs,et,kT,b1,b2,b3,b4,hN1,eA,eqs,cond_true,cond_false]
  exact⟨trivial,rfl,.bool true,[.ro _],[.id 0],⟨rfl,rfl⟩,by(exact zC)⟩
 by_cases h1:H=1
 ·subst h1
  obtain⟨t,ht⟩:∃ t,t=rems N++(blks M++([195,169,195,169,58,32,115,101,116,32,114,56,32,53]++10::px)):=⟨_,rfl⟩
  have et:xscat (xscat (xscat (rems N++blks M) [195,169,195,169,58,32,115,101,116,32,114,56,32,53]) [10]) px=t:=by
   rw [ht]; show((rems N++blks M)++[195,169,195,169,58,32,115,101,116,32,114,56,32,53])++[10]++px=_
   simp
  have tl:t.length=(rems N++blks M).length+15+px.length:=by rw [← et]; simp [xscat]; omega
  have kT:okT t=true:=okT_iff.2 ⟨by omega,by omega⟩
  obtain⟨b1,b2,b3,b4⟩:=par_at (bad_1 N M px t ht)
  have eA:xar .add .i64 ((M:Nat):Int) 9=(M:Int)+9:=add_i64 (by omega) (by omega)
  have q1:xle (xadd (xsln (rems N++blks M)) 14) 1000000000=true:=t_le (by show(rems N++blks M).length+14≤_; omega)
  have q2:xle (xadd (xsln (xscat (rems N++blks M) [195,169,195,169,58,32,115,101,116,32,114,56,32,53])) 1) 1000000000=true:=t_le (by show((rems N++blks M)++[195,169,195,169,58,32,115,101,116,32,114,56,32,53]).length+1≤_; rw [List.length_append]; simp only [List.length_cons,List.length_nil]; omega)
  have q3:xle (xadd (xsln (xscat (xscat (rems N++blks M) [195,169,195,169,58,32,115,101,116,32,114,56,32,53]) [10])) (xsln px)) 1000000000=true:=t_le (by show(((rems N++blks M)++[195,169,195,169,58,32,115,101,116,32,114,56,32,53])++[10]).length+px.length≤_; rw [List.length_append,List.length_append]; simp only [List.length_cons,List.length_nil]; omega)
  have eH5:xar .rem .u8 how 5=1:=eH
  simp only [eH5,show xcm .eql (1:Int) 0=false from rfl,show xcm .eql (1:Int) 1=true from rfl,show xcm .lss (1:Int) 4=true from rfl,q1,q2,q3,ok,o5,fs,et,kT,b1,b2,b3,b4,hN1,eA,eqs,cond_true,cond_false]
  exact⟨trivial,rfl,.bool true,[.ro _],[.id 0],⟨rfl,rfl⟩,by(exact zC)⟩
 by_cases h2:H=2
 ·subst h2
  obtain⟨t,ht⟩:∃ t,t=rems N++(blks M++([115,101,116,32,114,49,32,53,32,54]++10::px)):=⟨_,rfl⟩
  have et:xscat (xscat (xscat (rems N++blks M) [115,101,116,32,114,49,32,53,32,54]) [10]) px=t:=by
   rw [ht]; show((rems N++blks M)++[115,101,116,32,114,49,32,53,32,54])++[10]++px=_
   simp
  have tl:t.length=(rems N++blks M).length+11+px.length:=by rw [← et]; simp [xscat]; omega
  have kT:okT t=true:=okT_iff.2 ⟨by omega,by omega⟩
  obtain⟨b1,b2,b3,b4⟩:=par_at (bad_2 N M px t ht)
  have eA:xar .add .i64 ((M:Nat):Int) 10=(M:Int)+10:=add_i64 (by omega) (by omega)
  have q1:xle (xadd (xsln (rems N++blks M)) 10) 1000000000=true:=t_le (by show(rems N++blks M).length+10≤_; omega)
  have q2:xle (xadd (xsln (xscat (rems N++blks M) [115,101,116,32,114,49,32,53,32,54])) 1) 1000000000=true:=t_le (by show((rems N++blks M)++[115,101,116,32,114,49,32,53,32,54]).length+1≤_; rw [List.length_append]; simp only [List.length_cons,List.length_nil]; omega)
  have q3:xle (xadd (xsln (xscat (xscat (rems N++blks M) [115,101,116,32,114,49,32,53,32,54]) [10])) (xsln px)) 1000000000=true:=t_le (by show(((rems N++blks M)++[115,101,116,32,114,49,32,53,32,54])++[10]).length+px.length≤_; rw [List.length_append,List.length_append]; simp only [List.length_cons,List.length_nil]; omega)
  have eH5:xar .rem .u8 how 5=2:=eH
  simp only [eH5,show xcm .eql (2:Int) 0=false from rfl,show xcm .eql (2:Int) 1=false from rfl,show xcm .eql (2:Int) 2=true from rfl,show xcm .lss (2:Int) 4=true from rfl,q1,q2,q3,ok,o5,fs,et,kT,b1,b2,b3,b4,hN1,eA,eqs,cond_true,cond_false]
  exact⟨trivial,rfl,.bool true,[.ro _],[.id 0],⟨rfl,rfl⟩,by(exact zC)⟩
 by_cases h3:H=3
 ·subst h3
  obtain⟨t,ht⟩:∃ t,t=rems N++(blks M++([115,101,116,32,114,49,32,59,53]++10::px)):=⟨_,rfl⟩
  have et:xscat (xscat (xscat (rems N++blks M) [115,101,116,32,114,49,32,59,53]) [10]) px=t:=by
   rw [ht]; show((rems N++blks M)++[115,101,116,32,114,49,32,59,53])++[10]++px=_
   simp
  have tl:t.length=(rems N++blks M).length+10+px.length:=by rw [← et]; simp [xscat]; omega
  have kT:okT t=true:=okT_iff.2 ⟨by omega,by omega⟩
  obtain⟨b1,b2,b3,b4⟩:=par_at (bad_3 N M px t ht)
  have eA:xar .add .i64 ((M:Nat):Int) 8=(M:Int)+8:=add_i64 (by omega) (by omega)
  have q1:xle (xadd (xsln (rems N++blks M)) 9) 1000000000=true:=t_le (by show(rems N++blks M).length+9≤_; omega)
  have q2:xle (xadd (xsln (xscat (rems N++blks M) [115,101,116,32,114,49,32,59,53])) 1) 1000000000=true:=t_le (by show((rems N++blks M)++[115,101,116,32,114,49,32,59,53]).length+1≤_; rw [List.length_append]; simp only [List.length_cons,List.length_nil]; omega)
  have q3:xle (xadd (xsln (xscat (xscat (rems N++blks M) [115,101,116,32,114,49,32,59,53]) [10])) (xsln px)) 1000000000=true:=t_le (by show(((rems N++blks M)++[115,101,116,32,114,49,32,59,53])++[10]).length+px.length≤_; rw [List.length_append,List.length_append]; simp only [List.length_cons,List.length_nil]; omega)
  have eH5:xar .rem .u8 how 5=3:=eH
  simp only [eH5,show xcm .eql (3:Int) 0=false from rfl,show xcm .eql (3:Int) 1=false from rfl,show xcm .eql (3:Int) 2=false from rfl,show xcm .eql (3:Int) 3=true from rfl,show xcm .lss (3:Int) 4=true from rfl,q1,q2,q3,ok,o5,fs,et,kT,b1,b2,b3,b4,hN1,eA,eqs,cond_true,cond_false]
  exact⟨trivial,rfl,.bool true,[.ro _],[.id 0],⟨rfl,rfl⟩,by(exact zC)⟩
 by_cases h4:H=4
 ·subst h4
  obtain⟨t,ht⟩:∃ t,t=rems N++(blks M++([195,169,58,32,106,117,109,112,32,110,111,98,111,100,121]++10::[])):=⟨_,rfl⟩
  have et:xscat (xscat (rems N++blks M) [195,169,58,32,106,117,109,112,32,110,111,98,111,100,121]) [10]=t:=by
   rw [ht]; show((rems N++blks M)++[195,169,58,32,106,117,109,112,32,110,111,98,111,100,121])++[10]=_
   simp
  have tl:t.length=(rems N++blks M).length+16:=by rw [← et]; simp [xscat]; omega
  have kT:okT t=true:=okT_iff.2 ⟨by omega,by omega⟩
  obtain⟨b1,b2,b3,b4⟩:=par_at (bad_4 N M t ht)
  have eA:xar .add .i64 ((M:Nat):Int) 9=(M:Int)+9:=add_i64 (by omega) (by omega)
  have q1:xle (xadd (xsln (rems N++blks M)) 15) 1000000000=true:=t_le (by show(rems N++blks M).length+15≤_; omega)
  have q2:xle (xadd (xsln (xscat (rems N++blks M) [195,169,58,32,106,117,109,112,32,110,111,98,111,100,121])) 1) 1000000000=true:=t_le (by show((rems N++blks M)++[195,169,58,32,106,117,109,112,32,110,111,98,111,100,121]).length+1≤_; rw [List.length_append]; simp only [List.length_cons,List.length_nil]; omega)
  have eH5:xar .rem .u8 how 5=4:=eH
  simp only [eH5,show xcm .eql (4:Int) 0=false from rfl,show xcm .eql (4:Int) 1=false from rfl,show xcm .eql (4:Int) 2=false from rfl,show xcm .eql (4:Int) 3=false from rfl,show xcm .lss (4:Int) 4=false from rfl,q1,q2,fs,et,kT,b1,b2,b3,b4,hN1,eA,eqs,cond_true,cond_false]
  exact⟨trivial,rfl,.bool true,[.ro _],[.id 0],⟨rfl,rfl⟩,by(exact zC)⟩
 omega
theorem kin_rowP {H:Type} {enc:TypeId×Value→H} {W:World} {a:Option Addr} {len cap:Nat} {d:DataW H} {ps:List MemPlace} (h:DataW.Trod enc prog W 0 (fun _=>true) true 29 (.slice a len cap) d ps) :
  ∃ xs:List KinR,xs.length=len∧len≤9223372036854775807∧(∀ x∈xs,kin_bd x)∧RowArg W (.slice a len cap) len (encL kinE xs):=by
 obtain⟨xs,q1,q2,q3,q4⟩:=row_arg (f:=kinE) (ok:=kin_bd) kinE_len (by omega) Go.Proofs.Tryd.underlying29 (by kernel_rfl) h fun cs n x hl hx=>by
  have hf:=fl_ok 8 (l:=[(0,.int .i64),(1,.int .i64),(2,.int .i64),(3,.int .i64),(4,.int .u64)]) (by kernel_rfl) hx
  obtain⟨_,e0,z0,rfl,b0⟩:=hf (0,.int .i64) (by simp)
  obtain⟨_,e1,z1,rfl,b1⟩:=hf (1,.int .i64) (by simp)
  obtain⟨_,e2,z2,rfl,b2⟩:=hf (2,.int .i64) (by simp)
  obtain⟨_,e3,z3,rfl,b3⟩:=hf (3,.int .i64) (by simp)
  obtain⟨_,e4,z4,rfl,b4⟩:=hf (4,.int .u64) (by simp)
  refine⟨⟨z0,z1,z2,z3,z4⟩,⟨b0,b1,b2,b3,b4⟩,fun i l hi=>?_⟩
  match i with
  | 0=>simp at hi; subst hi; exact⟨rfl,_,e0,by simp only [VR]⟩
  | 1=>simp at hi; subst hi; exact⟨rfl,_,e1,by simp only [VR]⟩
  | 2=>simp at hi; subst hi; exact⟨rfl,_,e2,by simp only [VR]⟩
  | 3=>simp at hi; subst hi; exact⟨rfl,_,e3,by simp only [VR]⟩
  | 4=>simp at hi; subst hi; exact⟨rfl,_,e4,by simp only [VR]⟩
  | i+5=>simp at hi
 exact⟨xs,q1,q2,q3,q4⟩
def gtab:Glb:=[(4,flatD Go.Proofs.YtnkkkihgljbllaaDoor.Rows.laid_math_bits_deBruijn32tab),(5,flatD Go.Proofs.YtnkkkihgljbllaaDoor.Rows.laid_math_bits_deBruijn64tab),(3,flatD Go.Proofs.YtnkkkihgljbllaaDoor.Rows.laid_internal_strconv_uint64pow10),(0,formsL),(2,callsL)]
theorem gt4_of {W:World} (hg:Gl W gtab) (hp:powF W):Gl W gt4:=fun x hx=>by
 rcases List.mem_cons.1 hx with h | hx
 ·exact hg x (by rw [h]; exact .tail _ (.tail _ (.tail _ (.head _))))
 rcases List.mem_cons.1 hx with h | hx
 ·exact hg x (by rw [h]; exact .tail _ (.tail _ (.tail _ (.tail _ (.head _)))))
 rcases List.mem_cons.1 hx with h | hx
 ·exact hg x (by rw [h]; exact .tail _ (.tail _ (.tail _ (.tail _ (.head _)))))
 rcases List.mem_cons.1 hx with h | hx
 ·exact .inl ⟨powF,by rw [h],hp⟩
 ·cases hx
theorem tab_third {P:Program} {W:World} {ps:List MemPlace} {n0 n1 name:String} {d0 d1:DataW Unit} {k:IntKind} {zs:List Int} {rest:List (String×DataW Unit)} {g:Nat} {t e:TypeId} {n:Nat}
  (hg:P.globalNamed name=some g) (hty:(P.globals[g]?).map (·.type)=some t) (ht:P.underlying t=some (.array n e)) (he:P.underlying e=some (.int k)) (hce:P.cellsOf e=1) (hct:P.cellsOf t=n)
  (h:DataW.LaidVars P W ((n0,d0)::(n1,d1)::(name,Lib.tabData k zs)::rest) ps):Lib.TabIs P W name k zs:=by
 obtain⟨_,_,_,_,_,_,_,_,_,_,h,_⟩:=h
 obtain⟨_,_,_,_,_,_,_,_,_,_,h,_⟩:=h
 obtain⟨g',t',cs,fuel,p,q,hg',ht',hvar,hd,_,_⟩:=h
 obtain rfl:=Option.some.inj (hg.symm.trans hg')
 obtain rfl:=Option.some.inj (hty.symm.trans ht')
 unfold Lib.TabIs
 rw [hvar,← Lib.cells_of_tab ht he hce hct hd]
theorem places_any {H:Type} {enc:TypeId×Value→H} {W:World} (hg:Gl W gtab) (hp:Lib.TabIs prog W "internal/strconv.uint64pow10" .u64 Lib.pow10Tab) {a2:Option Addr} {len2 cap2:Nat} {d2:DataW H} {p2:List MemPlace} (a0 a1 a3:Int) (h0:0≤a0∧a0≤255) (h1:0≤a1∧a1≤255) (h3:0≤a3∧a3≤255) (h2:DataW.Trod enc prog W 0 (fun _=>true) true 29 (.slice a2 len2 cap2) d2 p2) :
  Calls prog 7 #[.int .u8 a0,.int .u8 a1,.slice a2 len2 cap2,.int .u8 a3] W fun e W'=>e=.returned (.bool true)∧Below W.heap.size W W':=by
 obtain⟨K,e0,n0,kb,r0⟩:=kin_rowP h2
 subst e0
 refine SFun.top (rows:=[(.slice a2 K.length cap2,K.length,encL kinE K)]) (g:=gt4) (us:=[.int .u8 a0,.int .u8 a1,.slice a2 K.length cap2,.int .u8 a3]) ⟨r0,trivial⟩ (gt4_of hg hp) (fun r h=>?_) (SFun.mono (places_fun K a0 a1 a3 h0 h1 h3 n0 kb) fun l s h=>h.1)
 simp only [VRs,VR]
 exact⟨_,_,rfl,rfl,_,_,rfl,rfl,_,_,rfl,h 0 _ _ _ rfl,_,_,rfl,rfl,rfl⟩
theorem pow_tab {W:World} {ps:List MemPlace} (hl:DataW.LaidVars prog W Go.Proofs.YtnkkkihgljbllaaDoor.Rows.textPlacesRow.laid ps):Lib.TabIs prog W "internal/strconv.uint64pow10" .u64 Lib.pow10Tab:=by
 refine tab_third (P:=prog) (ps:=ps) (n0 := "math/bits.deBruijn32tab") (n1 := "math/bits.deBruijn64tab") (d0:=Go.Proofs.YtnkkkihgljbllaaDoor.Rows.laid_math_bits_deBruijn32tab) (d1:=Go.Proofs.YtnkkkihgljbllaaDoor.Rows.laid_math_bits_deBruijn64tab) (rest:=[("quietus/code.forms",Go.Proofs.YtnkkkihgljbllaaDoor.Rows.laid_quietus_code_forms),("quietus/code.calls",Go.Proofs.YtnkkkihgljbllaaDoor.Rows.laid_quietus_code_calls)]) (g:=3) (t:=150) (e:=23) (n:=20) (by kernel_rfl) (by kernel_rfl) (by kernel_rfl) (by kernel_rfl) (by kernel_rfl) (by kernel_rfl) ?_
 have e:Go.Proofs.YtnkkkihgljbllaaDoor.Rows.textPlacesRow.laid=[("math/bits.deBruijn32tab",Go.Proofs.YtnkkkihgljbllaaDoor.Rows.laid_math_bits_deBruijn32tab),("math/bits.deBruijn64tab",Go.Proofs.YtnkkkihgljbllaaDoor.Rows.laid_math_bits_deBruijn64tab),("internal/strconv.uint64pow10",Lib.tabData .u64 Lib.pow10Tab),("quietus/code.forms",Go.Proofs.YtnkkkihgljbllaaDoor.Rows.laid_quietus_code_forms),("quietus/code.calls",Go.Proofs.YtnkkkihgljbllaaDoor.Rows.laid_quietus_code_calls)]:=by kernel_rfl
 rw [e] at hl
 exact hl
end
end Go.Lev
