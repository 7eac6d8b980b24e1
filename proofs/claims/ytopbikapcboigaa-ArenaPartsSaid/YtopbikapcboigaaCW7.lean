/- chapter 9: the code's levels: Take -/
import Derived.Test.YtopbikapcboigaaCW6
import Derived.Test.YtopbikapcboigaaLc
import Derived.Test.YtopbikapcboigaaChecked
import Derived.KernelRfl
namespace Go.Lev
set_option linter.unusedSimpArgs false
set_option linter.unusedVariables false
open Go.RowKit
open Go.Proofs.Try (prog)
set_option maxRecDepth 100000
noncomputable section
theorem tkM_drop (R:Int) (xs ys l:CL) (k:Nat) (hk:k < l.length):tkM R xs ys (l.drop k)=if(fndV xs l[k].1).isSome then tkM R xs ys (l.drop (k+1)) else if wPe R ys l[k].1=0 then tkM R xs (pl ys l[k]) (l.drop (k+1)) else(wPe R ys l[k].1,ys):=by
 rw [List.drop_eq_getElem_cons hk,tkM]
abbrev Row (cs:CL):List LB:=[.cells (encL cell cs) (some 2)]
theorem own3_row (cs:CL):Own3 (Row cs):=fun ρ _=>bk_cons (lb_same (noids_c _)) bk_nil
theorem tk_same {most:Int} {x:Lv} {r:List Lv} (h:OkLs (x::r)) (cs:CL):(tkM (most - totC r - x.1.length) x.1 [] cs).1=(wTk (most - totC r) x.1 cs).1 :=
 tkM_eq (h.uq x (by simp)).2 cs [] x.1 (h.uq x (by simp)).2 rfl fun a=>by simp [keyIn]
theorem tk_bad {most:Int} {x:Lv} {r:List Lv} (h:OkLs (x::r)) {cs:CL} {e:Int} {ys:CL} (k:tkM (most - totC r - x.1.length) x.1 [] cs=(e,ys)) (he:e≠0):tkE most (x::r) cs=e∧tkC most (x::r) cs=x::r:=by
 have:=tk_same (most:=most) h cs
 rw [k] at this
 refine⟨this.symm,?_⟩
 have e:wTc (most - totC r) x.1 cs=x.1:=if_neg (by rw [← this]; exact he)
 show(wTc (most - totC r) x.1 cs,x.2)::r=_
 rw [e]
theorem tk_good {most:Int} (hm2:most≤96) {x:Lv} {r:List Lv} (h:OkLs (x::r)) {cs ys:CL} (k:tkM (most - totC r - x.1.length) x.1 [] cs=(0,ys)):tkE most (x::r) cs=0∧(wTk 96 x.1 cs).1=0∧wTc 96 x.1 cs=wTc (most - totC r) x.1 cs:=by
 have:=tk_same (most:=most) h cs
 rw [k] at this
 have e:=wTk_96 (m:=most - totC r) (by omega) cs x.1 this.symm
 refine⟨this.symm,by rw [e]; exact this.symm,by simp only [wTc,e]⟩
set_option maxHeartbeats 1000000 in
theorem ltake_1 (most:Int) (cs:CL) (hcs:cs.length≤800000) (x0:Lv) (hm:(totC [x0]:Int)≤most) (hm2:most≤96) (h:OkLs [x0]):SSp prog 47 ((sp prog 72).drop 0) 4 (tm0 [.ptr 0 0,.slo 3 0 cs.length 0]) (mkS (lvU most [x0] (Row cs))) (vK taL (endK 4 [4] taL [] (lvQ most (tkC most [x0] cs) (Row cs) (.int .i64 (tkE most [x0] cs))))):=by
 obtain⟨hr,hrm⟩:=tkC_ok h hm hm2 cs
 have hc:=h.c; have hf:=h.f; simp only [totC] at hc; simp only [totF] at hf
 have ok0:=okC_e x0.1 (by omega); have le0:=le_e x0.1 (by omega)
 simp only [totC] at hm
 have ncs:=noids_c cs; have lcs:=cell_n cs
 have e0:xar .sub .i64 (most) (x0.1.length:Int)=most - x0.1.length:=sub_i64 (by omega) (by omega)
 have eR:xmn (xmx (most - x0.1.length) 0) 96=most - totC [] - x0.1.length:=by simp only [wd_mn,wd_mx,totC]; split <;> (try split) <;> omega
 have hR:(0:Int)≤most - totC [] - x0.1.length:=by simp only [totC]; omega
 generalize hRe:most - (totC []:Int) - x0.1.length=R at eR hR
 refine SSp.to cxl2_ok (n:=60) (g:=[]) 4 4 rfl (σ:=Unit) (fun _=>taT 5 8 cs.length 0) (fun _=>at1 (lvJ1 most cs.length (encL cell cs)) x0 R 0 []) (mkS_le (Nat.le_of_ble_eq_true rfl)) (by kernel_rfl) ?_ fun _=>?_
 ·show xsp _ _ _ _ _ _ (mkS (at1 (lvI1 most cs.length (encL cell cs)) x0)) _
  rw [ta_1,e0,eR]
  exact⟨rfl,(),[.id 0,.id 1,.id 2,.id 3,.id 4,.id 5,.id 6,.id 7,.id 8,.id 9],by(exact zC)⟩
 refine SSp.code_to (g:=[]) 5 rfl (σ:={ys:CL // tkM R x0.1 [] cs=(0,ys)}) (fun _=>taT 5 8 cs.length cs.length) (fun ys=>at1 (lvJ1 most cs.length (encL cell cs)) x0 R ys.1.length (encL cell ys.1)) (by kernel_rfl) ?_ fun⟨ys,he⟩=>?_
 ·refine SCode.loop_vc cxl2_ok (n:=60) 0 (by kernel_rfl) (σ:={p:Nat×CL // p.1≤cs.length∧tkM R x0.1 [] cs=tkM R x0.1 p.2 (cs.drop p.1)∧p.2.length≤p.1}) (fun p=>taT 5 8 cs.length p.1.1) (fun p=>at1 (lvJ1 most cs.length (encL cell cs)) x0 R p.1.2.length (encL cell p.1.2)) (fun p=>cs.length - p.1.1) (fun _=>Nat.le_of_ble_eq_true rfl) (fun⟨⟨i,ys⟩,hi,he,hy⟩=>?_) ⟨(0,[]),Nat.zero_le _,rfl,Nat.le_refl _⟩
  dsimp only at hi he hy ⊢
  have ny:=noids_c ys; have oky:okC (encL cell ys) ys.length=true:=okC_enc (by omega); have ley:xle (xadd ys.length 1) 1000000=true:=t_le (by rw [wd_add]; omega)
  rw [tb_1]; simp only [tb_1_b1]; rw [wd_lss]
  refine ite_way (fun hk=>?_) (fun hk=>?_)
  ·have i3:xar .add .i64 (i:Int) 1=((i+1:Nat):Int):=inc_i64 hk (by omega)
   have st:=tkM_drop R x0.1 ys cs i hk
   have nz:=noids_c (pl ys (cs[i].1,cs[i].2)); have lz:=pl_len ys cs[i]
   simp only [wd_nat,wd_asV,wd_isV,wd_ix,wd_add,wd_mul,wd_ln,Nat.zero_add,Nat.mul_one,wd_isI,wd_asI,wd_isB,wd_asB,wd_nn,cI_tlen,cB_tlen,cII_tlen,decide_true,cond_true,wd_not_t,wd_not_f,wd_and_t,wd_and_f,Nat.add_assoc,Nat.reduceAdd,cell_0 hk,cell_1 hk,lcs,i3,ok0,le0,oky,ley,wgB,wpE,wpN,wpC,decC_enc,fB]
   by_cases h1:(fndV x0.1 cs[i].1).isSome=true
   ·rw [if_pos h1] at st
    simp only [h1]
    (refine zR ?_)
    exact⟨rfl,⟨(i+1,ys),hk,by rw [he,st],by simp only; omega⟩,by simp only; omega,[.id 0,.id 1,.id 2,.id 3,.id 4,.id 5,.id 6,.id 7,.id 8,.id 9],by(exact zC)⟩
   have h1f:(fndV x0.1 cs[i].1).isSome=false:=by simpa using h1
   rw [if_neg h1] at st
   simp only [h1f]
   by_cases h2:wPe R ys cs[i].1=0
   ·rw [if_pos h2] at st
    have e5:wPc R ys cs[i].1 cs[i].2=pl ys (cs[i].1,cs[i].2):=by rw [wPc,if_pos h2]
    simp only [e5]
    (refine zR ?_)
    exact⟨rfl,⟨(i+1,pl ys cs[i]),hk,by rw [he,st],by simp only; omega⟩,by simp only; omega,[.id 0,.id 1,.id 2,.id 3,.id 4,.id 5,.id 6,.id 7,.id 8,.id 11],by(exact zC)⟩
   ·rw [if_neg h2] at st
    rw [st] at he
    obtain⟨b1,b2⟩:=tk_bad (most:=most) h (by rw [hRe]; exact he) h2
    (refine zR ?_)
    exact⟨trivial,rfl,.int .i64 (wPe R ys cs[i].1),at1 (lvI1 most cs.length (encL cell cs)) x0,[.id 0,.id 1,.id 2,.id 3,.id 4,.id 5,.id 6,.id 7],⟨by rw [b1],hr,by rw [b2]; rfl⟩,by(exact zC)⟩
  ·obtain rfl:i=cs.length:=by omega
   exact⟨rfl,⟨ys,by rw [he,List.drop_length,tkM]⟩,[.id 0,.id 1,.id 2,.id 3,.id 4,.id 5,.id 6,.id 7,.id 8,.id 9],by(exact zC)⟩
 refine zE cxl2_ok ?_
 obtain⟨b1,b2,b3⟩:=tk_good (most:=most) hm2 h (by rw [hRe]; exact he)
 have okc:okC (encL cell cs) cs.length=true:=okC_enc (by omega)
 have lec:xle (xadd x0.1.length cs.length) 900000=true:=t_le (by rw [wd_add]; omega)
 have nw:=noids_c (wTc (most - totC []) x0.1 cs)
 rw [tz_1]
 simp only [ok0,okc,lec,wtE,wtN,wtC,decC_enc,b2,b3,cond_true]
 exact⟨trivial,rfl,.int .i64 0,lvI1 most cs.length (encL cell cs) (wTc (most - totC []) x0.1 cs).length x0.2.length (encL cell (wTc (most - totC []) x0.1 cs)) (encL (cI .i64) x0.2),[.id 0,.id 1,.id 2,.id 3,.id 4,.id 5,.id 10,.id 7],⟨by rw [b1],hr,rfl⟩,by(exact zC)⟩
set_option maxHeartbeats 1000000 in
theorem ltake_2 (most:Int) (cs:CL) (hcs:cs.length≤800000) (x0 x1:Lv) (hm:(totC [x0,x1]:Int)≤most) (hm2:most≤96) (h:OkLs [x0,x1]):SSp prog 47 ((sp prog 72).drop 0) 4 (tm0 [.ptr 0 0,.slo 3 0 cs.length 0]) (mkS (lvU most [x0,x1] (Row cs))) (vK taL (endK 4 [4] taL [] (lvQ most (tkC most [x0,x1] cs) (Row cs) (.int .i64 (tkE most [x0,x1] cs))))):=by
 obtain⟨hr,hrm⟩:=tkC_ok h hm hm2 cs
 have hc:=h.c; have hf:=h.f; simp only [totC] at hc; simp only [totF] at hf
 have ok0:=okC_e x0.1 (by omega); have le0:=le_e x0.1 (by omega)
 simp only [totC] at hm
 have ncs:=noids_c cs; have lcs:=cell_n cs
 have e1:xar .sub .i64 (most) (x1.1.length:Int)=most - x1.1.length:=sub_i64 (by omega) (by omega)
 have e0:xar .sub .i64 (most - x1.1.length) (x0.1.length:Int)=most - x1.1.length - x0.1.length:=sub_i64 (by omega) (by omega)
 have eR:xmn (xmx (most - x1.1.length - x0.1.length) 0) 96=most - totC [x1] - x0.1.length:=by simp only [wd_mn,wd_mx,totC]; split <;> (try split) <;> omega
 have hR:(0:Int)≤most - totC [x1] - x0.1.length:=by simp only [totC]; omega
 generalize hRe:most - (totC [x1]:Int) - x0.1.length=R at eR hR
 refine SSp.to cxl2_ok (n:=60) (g:=[]) 4 4 rfl (σ:=Unit) (fun _=>taT 5 12 cs.length 0) (fun _=>at2 (lvJ2 most cs.length (encL cell cs)) x0 x1 R 0 []) (mkS_le (Nat.le_of_ble_eq_true rfl)) (by kernel_rfl) ?_ fun _=>?_
 ·show xsp _ _ _ _ _ _ (mkS (at2 (lvI2 most cs.length (encL cell cs)) x0 x1)) _
  rw [ta_2,e1,e0,eR]
  exact⟨rfl,(),[.id 0,.id 1,.id 2,.id 3,.id 4,.id 5,.id 6,.id 7,.id 8,.id 9,.id 10,.id 11,.id 12,.id 13],by(exact zC)⟩
 refine SSp.code_to (g:=[]) 5 rfl (σ:={ys:CL // tkM R x0.1 [] cs=(0,ys)}) (fun _=>taT 5 12 cs.length cs.length) (fun ys=>at2 (lvJ2 most cs.length (encL cell cs)) x0 x1 R ys.1.length (encL cell ys.1)) (by kernel_rfl) ?_ fun⟨ys,he⟩=>?_
 ·refine SCode.loop_vc cxl2_ok (n:=60) 0 (by kernel_rfl) (σ:={p:Nat×CL // p.1≤cs.length∧tkM R x0.1 [] cs=tkM R x0.1 p.2 (cs.drop p.1)∧p.2.length≤p.1}) (fun p=>taT 5 12 cs.length p.1.1) (fun p=>at2 (lvJ2 most cs.length (encL cell cs)) x0 x1 R p.1.2.length (encL cell p.1.2)) (fun p=>cs.length - p.1.1) (fun _=>Nat.le_of_ble_eq_true rfl) (fun⟨⟨i,ys⟩,hi,he,hy⟩=>?_) ⟨(0,[]),Nat.zero_le _,rfl,Nat.le_refl _⟩
  dsimp only at hi he hy ⊢
  have ny:=noids_c ys; have oky:okC (encL cell ys) ys.length=true:=okC_enc (by omega); have ley:xle (xadd ys.length 1) 1000000=true:=t_le (by rw [wd_add]; omega)
  rw [tb_2]; simp only [tb_2_b1]; rw [wd_lss]
  refine ite_way (fun hk=>?_) (fun hk=>?_)
  ·have i3:xar .add .i64 (i:Int) 1=((i+1:Nat):Int):=inc_i64 hk (by omega)
   have st:=tkM_drop R x0.1 ys cs i hk
   have nz:=noids_c (pl ys (cs[i].1,cs[i].2)); have lz:=pl_len ys cs[i]
   simp only [wd_nat,wd_asV,wd_isV,wd_ix,wd_add,wd_mul,wd_ln,Nat.zero_add,Nat.mul_one,wd_isI,wd_asI,wd_isB,wd_asB,wd_nn,cI_tlen,cB_tlen,cII_tlen,decide_true,cond_true,wd_not_t,wd_not_f,wd_and_t,wd_and_f,Nat.add_assoc,Nat.reduceAdd,cell_0 hk,cell_1 hk,lcs,i3,ok0,le0,oky,ley,wgB,wpE,wpN,wpC,decC_enc,fB]
   by_cases h1:(fndV x0.1 cs[i].1).isSome=true
   ·rw [if_pos h1] at st
    simp only [h1]
    (refine zR ?_)
    exact⟨rfl,⟨(i+1,ys),hk,by rw [he,st],by simp only; omega⟩,by simp only; omega,[.id 0,.id 1,.id 2,.id 3,.id 4,.id 5,.id 6,.id 7,.id 8,.id 9,.id 10,.id 11,.id 12,.id 13],by(exact zC)⟩
   have h1f:(fndV x0.1 cs[i].1).isSome=false:=by simpa using h1
   rw [if_neg h1] at st
   simp only [h1f]
   by_cases h2:wPe R ys cs[i].1=0
   ·rw [if_pos h2] at st
    have e5:wPc R ys cs[i].1 cs[i].2=pl ys (cs[i].1,cs[i].2):=by rw [wPc,if_pos h2]
    simp only [e5]
    (refine zR ?_)
    exact⟨rfl,⟨(i+1,pl ys cs[i]),hk,by rw [he,st],by simp only; omega⟩,by simp only; omega,[.id 0,.id 1,.id 2,.id 3,.id 4,.id 5,.id 6,.id 7,.id 8,.id 9,.id 10,.id 11,.id 12,.id 15],by(exact zC)⟩
   ·rw [if_neg h2] at st
    rw [st] at he
    obtain⟨b1,b2⟩:=tk_bad (most:=most) h (by rw [hRe]; exact he) h2
    (refine zR ?_)
    exact⟨trivial,rfl,.int .i64 (wPe R ys cs[i].1),at2 (lvI2 most cs.length (encL cell cs)) x0 x1,[.id 0,.id 1,.id 2,.id 3,.id 4,.id 5,.id 6,.id 7,.id 8,.id 9,.id 10,.id 11],⟨by rw [b1],hr,by rw [b2]; rfl⟩,by(exact zC)⟩
  ·obtain rfl:i=cs.length:=by omega
   exact⟨rfl,⟨ys,by rw [he,List.drop_length,tkM]⟩,[.id 0,.id 1,.id 2,.id 3,.id 4,.id 5,.id 6,.id 7,.id 8,.id 9,.id 10,.id 11,.id 12,.id 13],by(exact zC)⟩
 refine zE cxl2_ok ?_
 obtain⟨b1,b2,b3⟩:=tk_good (most:=most) hm2 h (by rw [hRe]; exact he)
 have okc:okC (encL cell cs) cs.length=true:=okC_enc (by omega)
 have lec:xle (xadd x0.1.length cs.length) 900000=true:=t_le (by rw [wd_add]; omega)
 have nw:=noids_c (wTc (most - totC [x1]) x0.1 cs)
 rw [tz_2]
 simp only [ok0,okc,lec,wtE,wtN,wtC,decC_enc,b2,b3,cond_true]
 exact⟨trivial,rfl,.int .i64 0,lvI2 most cs.length (encL cell cs) (wTc (most - totC [x1]) x0.1 cs).length x0.2.length x1.1.length x1.2.length (encL cell (wTc (most - totC [x1]) x0.1 cs)) (encL (cI .i64) x0.2) (encL cell x1.1) (encL (cI .i64) x1.2),[.id 0,.id 1,.id 2,.id 3,.id 4,.id 5,.id 14,.id 7,.id 8,.id 9,.id 10,.id 11],⟨by rw [b1],hr,rfl⟩,by(exact zC)⟩
set_option maxHeartbeats 1000000 in
theorem ltake_3 (most:Int) (cs:CL) (hcs:cs.length≤800000) (x0 x1 x2:Lv) (hm:(totC [x0,x1,x2]:Int)≤most) (hm2:most≤96) (h:OkLs [x0,x1,x2]):SSp prog 47 ((sp prog 72).drop 0) 4 (tm0 [.ptr 0 0,.slo 3 0 cs.length 0]) (mkS (lvU most [x0,x1,x2] (Row cs))) (vK taL (endK 4 [4] taL [] (lvQ most (tkC most [x0,x1,x2] cs) (Row cs) (.int .i64 (tkE most [x0,x1,x2] cs))))):=by
 obtain⟨hr,hrm⟩:=tkC_ok h hm hm2 cs
 have hc:=h.c; have hf:=h.f; simp only [totC] at hc; simp only [totF] at hf
 have ok0:=okC_e x0.1 (by omega); have le0:=le_e x0.1 (by omega)
 simp only [totC] at hm
 have ncs:=noids_c cs; have lcs:=cell_n cs
 have e2:xar .sub .i64 (most) (x2.1.length:Int)=most - x2.1.length:=sub_i64 (by omega) (by omega)
 have e1:xar .sub .i64 (most - x2.1.length) (x1.1.length:Int)=most - x2.1.length - x1.1.length:=sub_i64 (by omega) (by omega)
 have e0:xar .sub .i64 (most - x2.1.length - x1.1.length) (x0.1.length:Int)=most - x2.1.length - x1.1.length - x0.1.length:=sub_i64 (by omega) (by omega)
 have eR:xmn (xmx (most - x2.1.length - x1.1.length - x0.1.length) 0) 96=most - totC [x1,x2] - x0.1.length:=by simp only [wd_mn,wd_mx,totC]; split <;> (try split) <;> omega
 have hR:(0:Int)≤most - totC [x1,x2] - x0.1.length:=by simp only [totC]; omega
 generalize hRe:most - (totC [x1,x2]:Int) - x0.1.length=R at eR hR
 refine SSp.to cxl2_ok (n:=60) (g:=[]) 4 4 rfl (σ:=Unit) (fun _=>taT 5 16 cs.length 0) (fun _=>at3 (lvJ3 most cs.length (encL cell cs)) x0 x1 x2 R 0 []) (mkS_le (Nat.le_of_ble_eq_true rfl)) (by kernel_rfl) ?_ fun _=>?_
 ·show xsp _ _ _ _ _ _ (mkS (at3 (lvI3 most cs.length (encL cell cs)) x0 x1 x2)) _
  rw [ta_3,e2,e1,e0,eR]
  exact⟨rfl,(),[.id 0,.id 1,.id 2,.id 3,.id 4,.id 5,.id 6,.id 7,.id 8,.id 9,.id 10,.id 11,.id 12,.id 13,.id 14,.id 15,.id 16,.id 17],by(exact zC)⟩
 refine SSp.code_to (g:=[]) 5 rfl (σ:={ys:CL // tkM R x0.1 [] cs=(0,ys)}) (fun _=>taT 5 16 cs.length cs.length) (fun ys=>at3 (lvJ3 most cs.length (encL cell cs)) x0 x1 x2 R ys.1.length (encL cell ys.1)) (by kernel_rfl) ?_ fun⟨ys,he⟩=>?_
 ·refine SCode.loop_vc cxl2_ok (n:=60) 0 (by kernel_rfl) (σ:={p:Nat×CL // p.1≤cs.length∧tkM R x0.1 [] cs=tkM R x0.1 p.2 (cs.drop p.1)∧p.2.length≤p.1}) (fun p=>taT 5 16 cs.length p.1.1) (fun p=>at3 (lvJ3 most cs.length (encL cell cs)) x0 x1 x2 R p.1.2.length (encL cell p.1.2)) (fun p=>cs.length - p.1.1) (fun _=>Nat.le_of_ble_eq_true rfl) (fun⟨⟨i,ys⟩,hi,he,hy⟩=>?_) ⟨(0,[]),Nat.zero_le _,rfl,Nat.le_refl _⟩
  dsimp only at hi he hy ⊢
  have ny:=noids_c ys; have oky:okC (encL cell ys) ys.length=true:=okC_enc (by omega); have ley:xle (xadd ys.length 1) 1000000=true:=t_le (by rw [wd_add]; omega)
  rw [tb_3]; simp only [tb_3_b1]; rw [wd_lss]
  refine ite_way (fun hk=>?_) (fun hk=>?_)
  ·have i3:xar .add .i64 (i:Int) 1=((i+1:Nat):Int):=inc_i64 hk (by omega)
   have st:=tkM_drop R x0.1 ys cs i hk
   have nz:=noids_c (pl ys (cs[i].1,cs[i].2)); have lz:=pl_len ys cs[i]
   simp only [wd_nat,wd_asV,wd_isV,wd_ix,wd_add,wd_mul,wd_ln,Nat.zero_add,Nat.mul_one,wd_isI,wd_asI,wd_isB,wd_asB,wd_nn,cI_tlen,cB_tlen,cII_tlen,decide_true,cond_true,wd_not_t,wd_not_f,wd_and_t,wd_and_f,Nat.add_assoc,Nat.reduceAdd,cell_0 hk,cell_1 hk,lcs,i3,ok0,le0,oky,ley,wgB,wpE,wpN,wpC,decC_enc,fB]
   by_cases h1:(fndV x0.1 cs[i].1).isSome=true
   ·rw [if_pos h1] at st
    simp only [h1]
    (refine zR ?_)
    exact⟨rfl,⟨(i+1,ys),hk,by rw [he,st],by simp only; omega⟩,by simp only; omega,[.id 0,.id 1,.id 2,.id 3,.id 4,.id 5,.id 6,.id 7,.id 8,.id 9,.id 10,.id 11,.id 12,.id 13,.id 14,.id 15,.id 16,.id 17],by(exact zC)⟩
   have h1f:(fndV x0.1 cs[i].1).isSome=false:=by simpa using h1
   rw [if_neg h1] at st
   simp only [h1f]
   by_cases h2:wPe R ys cs[i].1=0
   ·rw [if_pos h2] at st
    have e5:wPc R ys cs[i].1 cs[i].2=pl ys (cs[i].1,cs[i].2):=by rw [wPc,if_pos h2]
    simp only [e5]
    (refine zR ?_)
    exact⟨rfl,⟨(i+1,pl ys cs[i]),hk,by rw [he,st],by simp only; omega⟩,by simp only; omega,[.id 0,.id 1,.id 2,.id 3,.id 4,.id 5,.id 6,.id 7,.id 8,.id 9,.id 10,.id 11,.id 12,.id 13,.id 14,.id 15,.id 16,.id 19],by(exact zC)⟩
   ·rw [if_neg h2] at st
    rw [st] at he
    obtain⟨b1,b2⟩:=tk_bad (most:=most) h (by rw [hRe]; exact he) h2
    (refine zR ?_)
    exact⟨trivial,rfl,.int .i64 (wPe R ys cs[i].1),at3 (lvI3 most cs.length (encL cell cs)) x0 x1 x2,[.id 0,.id 1,.id 2,.id 3,.id 4,.id 5,.id 6,.id 7,.id 8,.id 9,.id 10,.id 11,.id 12,.id 13,.id 14,.id 15],⟨by rw [b1],hr,by rw [b2]; rfl⟩,by(exact zC)⟩
  ·obtain rfl:i=cs.length:=by omega
   exact⟨rfl,⟨ys,by rw [he,List.drop_length,tkM]⟩,[.id 0,.id 1,.id 2,.id 3,.id 4,.id 5,.id 6,.id 7,.id 8,.id 9,.id 10,.id 11,.id 12,.id 13,.id 14,.id 15,.id 16,.id 17],by(exact zC)⟩
 refine zE cxl2_ok ?_
 obtain⟨b1,b2,b3⟩:=tk_good (most:=most) hm2 h (by rw [hRe]; exact he)
 have okc:okC (encL cell cs) cs.length=true:=okC_enc (by omega)
 have lec:xle (xadd x0.1.length cs.length) 900000=true:=t_le (by rw [wd_add]; omega)
 have nw:=noids_c (wTc (most - totC [x1,x2]) x0.1 cs)
 rw [tz_3]
 simp only [ok0,okc,lec,wtE,wtN,wtC,decC_enc,b2,b3,cond_true]
 exact⟨trivial,rfl,.int .i64 0,lvI3 most cs.length (encL cell cs) (wTc (most - totC [x1,x2]) x0.1 cs).length x0.2.length x1.1.length x1.2.length x2.1.length x2.2.length (encL cell (wTc (most - totC [x1,x2]) x0.1 cs)) (encL (cI .i64) x0.2) (encL cell x1.1) (encL (cI .i64) x1.2) (encL cell x2.1) (encL (cI .i64) x2.2),[.id 0,.id 1,.id 2,.id 3,.id 4,.id 5,.id 18,.id 7,.id 8,.id 9,.id 10,.id 11,.id 12,.id 13,.id 14,.id 15],⟨by rw [b1],hr,rfl⟩,by(exact zC)⟩
set_option maxHeartbeats 1000000 in
theorem ltake_4 (most:Int) (cs:CL) (hcs:cs.length≤800000) (x0 x1 x2 x3:Lv) (hm:(totC [x0,x1,x2,x3]:Int)≤most) (hm2:most≤96) (h:OkLs [x0,x1,x2,x3]):SSp prog 47 ((sp prog 72).drop 0) 4 (tm0 [.ptr 0 0,.slo 3 0 cs.length 0]) (mkS (lvU most [x0,x1,x2,x3] (Row cs))) (vK taL (endK 4 [4] taL [] (lvQ most (tkC most [x0,x1,x2,x3] cs) (Row cs) (.int .i64 (tkE most [x0,x1,x2,x3] cs))))):=by
 obtain⟨hr,hrm⟩:=tkC_ok h hm hm2 cs
 have hc:=h.c; have hf:=h.f; simp only [totC] at hc; simp only [totF] at hf
 have ok0:=okC_e x0.1 (by omega); have le0:=le_e x0.1 (by omega)
 simp only [totC] at hm
 have ncs:=noids_c cs; have lcs:=cell_n cs
 have e3:xar .sub .i64 (most) (x3.1.length:Int)=most - x3.1.length:=sub_i64 (by omega) (by omega)
 have e2:xar .sub .i64 (most - x3.1.length) (x2.1.length:Int)=most - x3.1.length - x2.1.length:=sub_i64 (by omega) (by omega)
 have e1:xar .sub .i64 (most - x3.1.length - x2.1.length) (x1.1.length:Int)=most - x3.1.length - x2.1.length - x1.1.length:=sub_i64 (by omega) (by omega)
 have e0:xar .sub .i64 (most - x3.1.length - x2.1.length - x1.1.length) (x0.1.length:Int)=most - x3.1.length - x2.1.length - x1.1.length - x0.1.length:=sub_i64 (by omega) (by omega)
 have eR:xmn (xmx (most - x3.1.length - x2.1.length - x1.1.length - x0.1.length) 0) 96=most - totC [x1,x2,x3] - x0.1.length:=by simp only [wd_mn,wd_mx,totC]; split <;> (try split) <;> omega
 have hR:(0:Int)≤most - totC [x1,x2,x3] - x0.1.length:=by simp only [totC]; omega
 generalize hRe:most - (totC [x1,x2,x3]:Int) - x0.1.length=R at eR hR
 refine SSp.to cxl2_ok (n:=60) (g:=[]) 4 4 rfl (σ:=Unit) (fun _=>taT 5 20 cs.length 0) (fun _=>at4 (lvJ4 most cs.length (encL cell cs)) x0 x1 x2 x3 R 0 []) (mkS_le (Nat.le_of_ble_eq_true rfl)) (by kernel_rfl) ?_ fun _=>?_
 ·show xsp _ _ _ _ _ _ (mkS (at4 (lvI4 most cs.length (encL cell cs)) x0 x1 x2 x3)) _
  rw [ta_4,e3,e2,e1,e0,eR]
  exact⟨rfl,(),[.id 0,.id 1,.id 2,.id 3,.id 4,.id 5,.id 6,.id 7,.id 8,.id 9,.id 10,.id 11,.id 12,.id 13,.id 14,.id 15,.id 16,.id 17,.id 18,.id 19,.id 20,.id 21],by(exact zC)⟩
 refine SSp.code_to (g:=[]) 5 rfl (σ:={ys:CL // tkM R x0.1 [] cs=(0,ys)}) (fun _=>taT 5 20 cs.length cs.length) (fun ys=>at4 (lvJ4 most cs.length (encL cell cs)) x0 x1 x2 x3 R ys.1.length (encL cell ys.1)) (by kernel_rfl) ?_ fun⟨ys,he⟩=>?_
 ·refine SCode.loop_vc cxl2_ok (n:=60) 0 (by kernel_rfl) (σ:={p:Nat×CL // p.1≤cs.length∧tkM R x0.1 [] cs=tkM R x0.1 p.2 (cs.drop p.1)∧p.2.length≤p.1}) (fun p=>taT 5 20 cs.length p.1.1) (fun p=>at4 (lvJ4 most cs.length (encL cell cs)) x0 x1 x2 x3 R p.1.2.length (encL cell p.1.2)) (fun p=>cs.length - p.1.1) (fun _=>Nat.le_of_ble_eq_true rfl) (fun⟨⟨i,ys⟩,hi,he,hy⟩=>?_) ⟨(0,[]),Nat.zero_le _,rfl,Nat.le_refl _⟩
  dsimp only at hi he hy ⊢
  have ny:=noids_c ys; have oky:okC (encL cell ys) ys.length=true:=okC_enc (by omega); have ley:xle (xadd ys.length 1) 1000000=true:=t_le (by rw [wd_add]; omega)
  rw [tb_4]; simp only [tb_4_b1]; rw [wd_lss]
  refine ite_way (fun hk=>?_) (fun hk=>?_)
  ·have i3:xar .add .i64 (i:Int) 1=((i+1:Nat):Int):=inc_i64 hk (by omega)
   have st:=tkM_drop R x0.1 ys cs i hk
   have nz:=noids_c (pl ys (cs[i].1,cs[i].2)); have lz:=pl_len ys cs[i]
   simp only [wd_nat,wd_asV,wd_isV,wd_ix,wd_add,wd_mul,wd_ln,Nat.zero_add,Nat.mul_one,wd_isI,wd_asI,wd_isB,wd_asB,wd_nn,cI_tlen,cB_tlen,cII_tlen,decide_true,cond_true,wd_not_t,wd_not_f,wd_and_t,wd_and_f,Nat.add_assoc,Nat.reduceAdd,cell_0 hk,cell_1 hk,lcs,i3,ok0,le0,oky,ley,wgB,wpE,wpN,wpC,decC_enc,fB]
   by_cases h1:(fndV x0.1 cs[i].1).isSome=true
   ·rw [if_pos h1] at st
    simp only [h1]
    (refine zR ?_)
    exact⟨rfl,⟨(i+1,ys),hk,by rw [he,st],by simp only; omega⟩,by simp only; omega,[.id 0,.id 1,.id 2,.id 3,.id 4,.id 5,.id 6,.id 7,.id 8,.id 9,.id 10,.id 11,.id 12,.id 13,.id 14,.id 15,.id 16,.id 17,.id 18,.id 19,.id 20,.id 21],by(exact zC)⟩
   have h1f:(fndV x0.1 cs[i].1).isSome=false:=by simpa using h1
   rw [if_neg h1] at st
   simp only [h1f]
   by_cases h2:wPe R ys cs[i].1=0
   ·rw [if_pos h2] at st
    have e5:wPc R ys cs[i].1 cs[i].2=pl ys (cs[i].1,cs[i].2):=by rw [wPc,if_pos h2]
    simp only [e5]
    (refine zR ?_)
    exact⟨rfl,⟨(i+1,pl ys cs[i]),hk,by rw [he,st],by simp only; omega⟩,by simp only; omega,[.id 0,.id 1,.id 2,.id 3,.id 4,.id 5,.id 6,.id 7,.id 8,.id 9,.id 10,.id 11,.id 12,.id 13,.id 14,.id 15,.id 16,.id 17,.id 18,.id 19,.id 20,.id 23],by(exact zC)⟩
   ·rw [if_neg h2] at st
    rw [st] at he
    obtain⟨b1,b2⟩:=tk_bad (most:=most) h (by rw [hRe]; exact he) h2
    (refine zR ?_)
    exact⟨trivial,rfl,.int .i64 (wPe R ys cs[i].1),at4 (lvI4 most cs.length (encL cell cs)) x0 x1 x2 x3,[.id 0,.id 1,.id 2,.id 3,.id 4,.id 5,.id 6,.id 7,.id 8,.id 9,.id 10,.id 11,.id 12,.id 13,.id 14,.id 15,.id 16,.id 17,.id 18,.id 19],⟨by rw [b1],hr,by rw [b2]; rfl⟩,by(exact zC)⟩
  ·obtain rfl:i=cs.length:=by omega
   exact⟨rfl,⟨ys,by rw [he,List.drop_length,tkM]⟩,[.id 0,.id 1,.id 2,.id 3,.id 4,.id 5,.id 6,.id 7,.id 8,.id 9,.id 10,.id 11,.id 12,.id 13,.id 14,.id 15,.id 16,.id 17,.id 18,.id 19,.id 20,.id 21],by(exact zC)⟩
 refine zE cxl2_ok ?_
 obtain⟨b1,b2,b3⟩:=tk_good (most:=most) hm2 h (by rw [hRe]; exact he)
 have okc:okC (encL cell cs) cs.length=true:=okC_enc (by omega)
 have lec:xle (xadd x0.1.length cs.length) 900000=true:=t_le (by rw [wd_add]; omega)
 have nw:=noids_c (wTc (most - totC [x1,x2,x3]) x0.1 cs)
 rw [tz_4]
 simp only [ok0,okc,lec,wtE,wtN,wtC,decC_enc,b2,b3,cond_true]
 exact⟨trivial,rfl,.int .i64 0,lvI4 most cs.length (encL cell cs) (wTc (most - totC [x1,x2,x3]) x0.1 cs).length x0.2.length x1.1.length x1.2.length x2.1.length x2.2.length x3.1.length x3.2.length (encL cell (wTc (most - totC [x1,x2,x3]) x0.1 cs)) (encL (cI .i64) x0.2) (encL cell x1.1) (encL (cI .i64) x1.2) (encL cell x2.1) (encL (cI .i64) x2.2) (encL cell x3.1) (encL (cI .i64) x3.2),[.id 0,.id 1,.id 2,.id 3,.id 4,.id 5,.id 22,.id 7,.id 8,.id 9,.id 10,.id 11,.id 12,.id 13,.id 14,.id 15,.id 16,.id 17,.id 18,.id 19],⟨by rw [b1],hr,rfl⟩,by(exact zC)⟩
set_option maxHeartbeats 1000000 in
theorem ltake_5 (most:Int) (cs:CL) (hcs:cs.length≤800000) (x0 x1 x2 x3 x4:Lv) (hm:(totC [x0,x1,x2,x3,x4]:Int)≤most) (hm2:most≤96) (h:OkLs [x0,x1,x2,x3,x4]):SSp prog 47 ((sp prog 72).drop 0) 4 (tm0 [.ptr 0 0,.slo 3 0 cs.length 0]) (mkS (lvU most [x0,x1,x2,x3,x4] (Row cs))) (vK taL (endK 4 [4] taL [] (lvQ most (tkC most [x0,x1,x2,x3,x4] cs) (Row cs) (.int .i64 (tkE most [x0,x1,x2,x3,x4] cs))))):=by
 obtain⟨hr,hrm⟩:=tkC_ok h hm hm2 cs
 have hc:=h.c; have hf:=h.f; simp only [totC] at hc; simp only [totF] at hf
 have ok0:=okC_e x0.1 (by omega); have le0:=le_e x0.1 (by omega)
 simp only [totC] at hm
 have ncs:=noids_c cs; have lcs:=cell_n cs
 have e4:xar .sub .i64 (most) (x4.1.length:Int)=most - x4.1.length:=sub_i64 (by omega) (by omega)
 have e3:xar .sub .i64 (most - x4.1.length) (x3.1.length:Int)=most - x4.1.length - x3.1.length:=sub_i64 (by omega) (by omega)
 have e2:xar .sub .i64 (most - x4.1.length - x3.1.length) (x2.1.length:Int)=most - x4.1.length - x3.1.length - x2.1.length:=sub_i64 (by omega) (by omega)
 have e1:xar .sub .i64 (most - x4.1.length - x3.1.length - x2.1.length) (x1.1.length:Int)=most - x4.1.length - x3.1.length - x2.1.length - x1.1.length:=sub_i64 (by omega) (by omega)
 have e0:xar .sub .i64 (most - x4.1.length - x3.1.length - x2.1.length - x1.1.length) (x0.1.length:Int)=most - x4.1.length - x3.1.length - x2.1.length - x1.1.length - x0.1.length:=sub_i64 (by omega) (by omega)
 have eR:xmn (xmx (most - x4.1.length - x3.1.length - x2.1.length - x1.1.length - x0.1.length) 0) 96=most - totC [x1,x2,x3,x4] - x0.1.length:=by simp only [wd_mn,wd_mx,totC]; split <;> (try split) <;> omega
 have hR:(0:Int)≤most - totC [x1,x2,x3,x4] - x0.1.length:=by simp only [totC]; omega
 generalize hRe:most - (totC [x1,x2,x3,x4]:Int) - x0.1.length=R at eR hR
 refine SSp.to cxl2_ok (n:=60) (g:=[]) 4 4 rfl (σ:=Unit) (fun _=>taT 5 24 cs.length 0) (fun _=>at5 (lvJ5 most cs.length (encL cell cs)) x0 x1 x2 x3 x4 R 0 []) (mkS_le (Nat.le_of_ble_eq_true rfl)) (by kernel_rfl) ?_ fun _=>?_
 ·show xsp _ _ _ _ _ _ (mkS (at5 (lvI5 most cs.length (encL cell cs)) x0 x1 x2 x3 x4)) _
  rw [ta_5,e4,e3,e2,e1,e0,eR]
  exact⟨rfl,(),[.id 0,.id 1,.id 2,.id 3,.id 4,.id 5,.id 6,.id 7,.id 8,.id 9,.id 10,.id 11,.id 12,.id 13,.id 14,.id 15,.id 16,.id 17,.id 18,.id 19,.id 20,.id 21,.id 22,.id 23,.id 24,.id 25],by(exact zC)⟩
 refine SSp.code_to (g:=[]) 5 rfl (σ:={ys:CL // tkM R x0.1 [] cs=(0,ys)}) (fun _=>taT 5 24 cs.length cs.length) (fun ys=>at5 (lvJ5 most cs.length (encL cell cs)) x0 x1 x2 x3 x4 R ys.1.length (encL cell ys.1)) (by kernel_rfl) ?_ fun⟨ys,he⟩=>?_
 ·refine SCode.loop_vc cxl2_ok (n:=60) 0 (by kernel_rfl) (σ:={p:Nat×CL // p.1≤cs.length∧tkM R x0.1 [] cs=tkM R x0.1 p.2 (cs.drop p.1)∧p.2.length≤p.1}) (fun p=>taT 5 24 cs.length p.1.1) (fun p=>at5 (lvJ5 most cs.length (encL cell cs)) x0 x1 x2 x3 x4 R p.1.2.length (encL cell p.1.2)) (fun p=>cs.length - p.1.1) (fun _=>Nat.le_of_ble_eq_true rfl) (fun⟨⟨i,ys⟩,hi,he,hy⟩=>?_) ⟨(0,[]),Nat.zero_le _,rfl,Nat.le_refl _⟩
  dsimp only at hi he hy ⊢
  have ny:=noids_c ys; have oky:okC (encL cell ys) ys.length=true:=okC_enc (by omega); have ley:xle (xadd ys.length 1) 1000000=true:=t_le (by rw [wd_add]; omega)
  rw [tb_5]; simp only [tb_5_b1]; rw [wd_lss]
  refine ite_way (fun hk=>?_) (fun hk=>?_)
  ·have i3:xar .add .i64 (i:Int) 1=((i+1:Nat):Int):=inc_i64 hk (by omega)
   have st:=tkM_drop R x0.1 ys cs i hk
   have nz:=noids_c (pl ys (cs[i].1,cs[i].2)); have lz:=pl_len ys cs[i]
   simp only [wd_nat,wd_asV,wd_isV,wd_ix,wd_add,wd_mul,wd_ln,Nat.zero_add,Nat.mul_one,wd_isI,wd_asI,wd_isB,wd_asB,wd_nn,cI_tlen,cB_tlen,cII_tlen,decide_true,cond_true,wd_not_t,wd_not_f,wd_and_t,wd_and_f,Nat.add_assoc,Nat.reduceAdd,cell_0 hk,cell_1 hk,lcs,i3,ok0,le0,oky,ley,wgB,wpE,wpN,wpC,decC_enc,fB]
   by_cases h1:(fndV x0.1 cs[i].1).isSome=true
   ·rw [if_pos h1] at st
    simp only [h1]
    (refine zR ?_)
    exact⟨rfl,⟨(i+1,ys),hk,by rw [he,st],by simp only; omega⟩,by simp only; omega,[.id 0,.id 1,.id 2,.id 3,.id 4,.id 5,.id 6,.id 7,.id 8,.id 9,.id 10,.id 11,.id 12,.id 13,.id 14,.id 15,.id 16,.id 17,.id 18,.id 19,.id 20,.id 21,.id 22,.id 23,.id 24,.id 25],by(exact zC)⟩
   have h1f:(fndV x0.1 cs[i].1).isSome=false:=by simpa using h1
   rw [if_neg h1] at st
   simp only [h1f]
   by_cases h2:wPe R ys cs[i].1=0
   ·rw [if_pos h2] at st
    have e5:wPc R ys cs[i].1 cs[i].2=pl ys (cs[i].1,cs[i].2):=by rw [wPc,if_pos h2]
    simp only [e5]
    (refine zR ?_)
    exact⟨rfl,⟨(i+1,pl ys cs[i]),hk,by rw [he,st],by simp only; omega⟩,by simp only; omega,[.id 0,.id 1,.id 2,.id 3,.id 4,.id 5,.id 6,.id 7,.id 8,.id 9,.id 10,.id 11,.id 12,.id 13,.id 14,.id 15,.id 16,.id 17,.id 18,.id 19,.id 20,.id 21,.id 22,.id 23,.id 24,.id 27],by(exact zC)⟩
   ·rw [if_neg h2] at st
    rw [st] at he
    obtain⟨b1,b2⟩:=tk_bad (most:=most) h (by rw [hRe]; exact he) h2
    (refine zR ?_)
    exact⟨trivial,rfl,.int .i64 (wPe R ys cs[i].1),at5 (lvI5 most cs.length (encL cell cs)) x0 x1 x2 x3 x4,[.id 0,.id 1,.id 2,.id 3,.id 4,.id 5,.id 6,.id 7,.id 8,.id 9,.id 10,.id 11,.id 12,.id 13,.id 14,.id 15,.id 16,.id 17,.id 18,.id 19,.id 20,.id 21,.id 22,.id 23],⟨by rw [b1],hr,by rw [b2]; rfl⟩,by(exact zC)⟩
  ·obtain rfl:i=cs.length:=by omega
   exact⟨rfl,⟨ys,by rw [he,List.drop_length,tkM]⟩,[.id 0,.id 1,.id 2,.id 3,.id 4,.id 5,.id 6,.id 7,.id 8,.id 9,.id 10,.id 11,.id 12,.id 13,.id 14,.id 15,.id 16,.id 17,.id 18,.id 19,.id 20,.id 21,.id 22,.id 23,.id 24,.id 25],by(exact zC)⟩
 refine zE cxl2_ok ?_
 obtain⟨b1,b2,b3⟩:=tk_good (most:=most) hm2 h (by rw [hRe]; exact he)
 have okc:okC (encL cell cs) cs.length=true:=okC_enc (by omega)
 have lec:xle (xadd x0.1.length cs.length) 900000=true:=t_le (by rw [wd_add]; omega)
 have nw:=noids_c (wTc (most - totC [x1,x2,x3,x4]) x0.1 cs)
 rw [tz_5]
 simp only [ok0,okc,lec,wtE,wtN,wtC,decC_enc,b2,b3,cond_true]
 exact⟨trivial,rfl,.int .i64 0,lvI5 most cs.length (encL cell cs) (wTc (most - totC [x1,x2,x3,x4]) x0.1 cs).length x0.2.length x1.1.length x1.2.length x2.1.length x2.2.length x3.1.length x3.2.length x4.1.length x4.2.length (encL cell (wTc (most - totC [x1,x2,x3,x4]) x0.1 cs)) (encL (cI .i64) x0.2) (encL cell x1.1) (encL (cI .i64) x1.2) (encL cell x2.1) (encL (cI .i64) x2.2) (encL cell x3.1) (encL (cI .i64) x3.2) (encL cell x4.1) (encL (cI .i64) x4.2),[.id 0,.id 1,.id 2,.id 3,.id 4,.id 5,.id 26,.id 7,.id 8,.id 9,.id 10,.id 11,.id 12,.id 13,.id 14,.id 15,.id 16,.id 17,.id 18,.id 19,.id 20,.id 21,.id 22,.id 23],⟨by rw [b1],hr,rfl⟩,by(exact zC)⟩
set_option maxHeartbeats 1000000 in
theorem ltake_6 (most:Int) (cs:CL) (hcs:cs.length≤800000) (x0 x1 x2 x3 x4 x5:Lv) (hm:(totC [x0,x1,x2,x3,x4,x5]:Int)≤most) (hm2:most≤96) (h:OkLs [x0,x1,x2,x3,x4,x5]):SSp prog 47 ((sp prog 72).drop 0) 4 (tm0 [.ptr 0 0,.slo 3 0 cs.length 0]) (mkS (lvU most [x0,x1,x2,x3,x4,x5] (Row cs))) (vK taL (endK 4 [4] taL [] (lvQ most (tkC most [x0,x1,x2,x3,x4,x5] cs) (Row cs) (.int .i64 (tkE most [x0,x1,x2,x3,x4,x5] cs))))):=by
 obtain⟨hr,hrm⟩:=tkC_ok h hm hm2 cs
 have hc:=h.c; have hf:=h.f; simp only [totC] at hc; simp only [totF] at hf
 have ok0:=okC_e x0.1 (by omega); have le0:=le_e x0.1 (by omega)
 simp only [totC] at hm
 have ncs:=noids_c cs; have lcs:=cell_n cs
 have e5:xar .sub .i64 (most) (x5.1.length:Int)=most - x5.1.length:=sub_i64 (by omega) (by omega)
 have e4:xar .sub .i64 (most - x5.1.length) (x4.1.length:Int)=most - x5.1.length - x4.1.length:=sub_i64 (by omega) (by omega)
 have e3:xar .sub .i64 (most - x5.1.length - x4.1.length) (x3.1.length:Int)=most - x5.1.length - x4.1.length - x3.1.length:=sub_i64 (by omega) (by omega)
 have e2:xar .sub .i64 (most - x5.1.length - x4.1.length - x3.1.length) (x2.1.length:Int)=most - x5.1.length - x4.1.length - x3.1.length - x2.1.length:=sub_i64 (by omega) (by omega)
 have e1:xar .sub .i64 (most - x5.1.length - x4.1.length - x3.1.length - x2.1.length) (x1.1.length:Int)=most - x5.1.length - x4.1.length - x3.1.length - x2.1.length - x1.1.length:=sub_i64 (by omega) (by omega)
 have e0:xar .sub .i64 (most - x5.1.length - x4.1.length - x3.1.length - x2.1.length - x1.1.length) (x0.1.length:Int)=most - x5.1.length - x4.1.length - x3.1.length - x2.1.length - x1.1.length - x0.1.length:=sub_i64 (by omega) (by omega)
 have eR:xmn (xmx (most - x5.1.length - x4.1.length - x3.1.length - x2.1.length - x1.1.length - x0.1.length) 0) 96=most - totC [x1,x2,x3,x4,x5] - x0.1.length:=by simp only [wd_mn,wd_mx,totC]; split <;> (try split) <;> omega
 have hR:(0:Int)≤most - totC [x1,x2,x3,x4,x5] - x0.1.length:=by simp only [totC]; omega
 generalize hRe:most - (totC [x1,x2,x3,x4,x5]:Int) - x0.1.length=R at eR hR
 refine SSp.to cxl2_ok (n:=60) (g:=[]) 4 4 rfl (σ:=Unit) (fun _=>taT 5 28 cs.length 0) (fun _=>at6 (lvJ6 most cs.length (encL cell cs)) x0 x1 x2 x3 x4 x5 R 0 []) (mkS_le (Nat.le_of_ble_eq_true rfl)) (by kernel_rfl) ?_ fun _=>?_
 ·show xsp _ _ _ _ _ _ (mkS (at6 (lvI6 most cs.length (encL cell cs)) x0 x1 x2 x3 x4 x5)) _
  rw [ta_6,e5,e4,e3,e2,e1,e0,eR]
  exact⟨rfl,(),[.id 0,.id 1,.id 2,.id 3,.id 4,.id 5,.id 6,.id 7,.id 8,.id 9,.id 10,.id 11,.id 12,.id 13,.id 14,.id 15,.id 16,.id 17,.id 18,.id 19,.id 20,.id 21,.id 22,.id 23,.id 24,.id 25,.id 26,.id 27,.id 28,.id 29],by(exact zC)⟩
 refine SSp.code_to (g:=[]) 5 rfl (σ:={ys:CL // tkM R x0.1 [] cs=(0,ys)}) (fun _=>taT 5 28 cs.length cs.length) (fun ys=>at6 (lvJ6 most cs.length (encL cell cs)) x0 x1 x2 x3 x4 x5 R ys.1.length (encL cell ys.1)) (by kernel_rfl) ?_ fun⟨ys,he⟩=>?_
 ·refine SCode.loop_vc cxl2_ok (n:=60) 0 (by kernel_rfl) (σ:={p:Nat×CL // p.1≤cs.length∧tkM R x0.1 [] cs=tkM R x0.1 p.2 (cs.drop p.1)∧p.2.length≤p.1}) (fun p=>taT 5 28 cs.length p.1.1) (fun p=>at6 (lvJ6 most cs.length (encL cell cs)) x0 x1 x2 x3 x4 x5 R p.1.2.length (encL cell p.1.2)) (fun p=>cs.length - p.1.1) (fun _=>Nat.le_of_ble_eq_true rfl) (fun⟨⟨i,ys⟩,hi,he,hy⟩=>?_) ⟨(0,[]),Nat.zero_le _,rfl,Nat.le_refl _⟩
  dsimp only at hi he hy ⊢
  have ny:=noids_c ys; have oky:okC (encL cell ys) ys.length=true:=okC_enc (by omega); have ley:xle (xadd ys.length 1) 1000000=true:=t_le (by rw [wd_add]; omega)
  rw [tb_6]; simp only [tb_6_b1]; rw [wd_lss]
  refine ite_way (fun hk=>?_) (fun hk=>?_)
  ·have i3:xar .add .i64 (i:Int) 1=((i+1:Nat):Int):=inc_i64 hk (by omega)
   have st:=tkM_drop R x0.1 ys cs i hk
   have nz:=noids_c (pl ys (cs[i].1,cs[i].2)); have lz:=pl_len ys cs[i]
   simp only [wd_nat,wd_asV,wd_isV,wd_ix,wd_add,wd_mul,wd_ln,Nat.zero_add,Nat.mul_one,wd_isI,wd_asI,wd_isB,wd_asB,wd_nn,cI_tlen,cB_tlen,cII_tlen,decide_true,cond_true,wd_not_t,wd_not_f,wd_and_t,wd_and_f,Nat.add_assoc,Nat.reduceAdd,cell_0 hk,cell_1 hk,lcs,i3,ok0,le0,oky,ley,wgB,wpE,wpN,wpC,decC_enc,fB]
   by_cases h1:(fndV x0.1 cs[i].1).isSome=true
   ·rw [if_pos h1] at st
    simp only [h1]
    (refine zR ?_)
    exact⟨rfl,⟨(i+1,ys),hk,by rw [he,st],by simp only; omega⟩,by simp only; omega,[.id 0,.id 1,.id 2,.id 3,.id 4,.id 5,.id 6,.id 7,.id 8,.id 9,.id 10,.id 11,.id 12,.id 13,.id 14,.id 15,.id 16,.id 17,.id 18,.id 19,.id 20,.id 21,.id 22,.id 23,.id 24,.id 25,.id 26,.id 27,.id 28,.id 29],by(exact zC)⟩
   have h1f:(fndV x0.1 cs[i].1).isSome=false:=by simpa using h1
   rw [if_neg h1] at st
   simp only [h1f]
   by_cases h2:wPe R ys cs[i].1=0
   ·rw [if_pos h2] at st
    have e5:wPc R ys cs[i].1 cs[i].2=pl ys (cs[i].1,cs[i].2):=by rw [wPc,if_pos h2]
    simp only [e5]
    (refine zR ?_)
    exact⟨rfl,⟨(i+1,pl ys cs[i]),hk,by rw [he,st],by simp only; omega⟩,by simp only; omega,[.id 0,.id 1,.id 2,.id 3,.id 4,.id 5,.id 6,.id 7,.id 8,.id 9,.id 10,.id 11,.id 12,.id 13,.id 14,.id 15,.id 16,.id 17,.id 18,.id 19,.id 20,.id 21,.id 22,.id 23,.id 24,.id 25,.id 26,.id 27,.id 28,.id 31],by(exact zC)⟩
   ·rw [if_neg h2] at st
    rw [st] at he
    obtain⟨b1,b2⟩:=tk_bad (most:=most) h (by rw [hRe]; exact he) h2
    (refine zR ?_)
    exact⟨trivial,rfl,.int .i64 (wPe R ys cs[i].1),at6 (lvI6 most cs.length (encL cell cs)) x0 x1 x2 x3 x4 x5,[.id 0,.id 1,.id 2,.id 3,.id 4,.id 5,.id 6,.id 7,.id 8,.id 9,.id 10,.id 11,.id 12,.id 13,.id 14,.id 15,.id 16,.id 17,.id 18,.id 19,.id 20,.id 21,.id 22,.id 23,.id 24,.id 25,.id 26,.id 27],⟨by rw [b1],hr,by rw [b2]; rfl⟩,by(exact zC)⟩
  ·obtain rfl:i=cs.length:=by omega
   exact⟨rfl,⟨ys,by rw [he,List.drop_length,tkM]⟩,[.id 0,.id 1,.id 2,.id 3,.id 4,.id 5,.id 6,.id 7,.id 8,.id 9,.id 10,.id 11,.id 12,.id 13,.id 14,.id 15,.id 16,.id 17,.id 18,.id 19,.id 20,.id 21,.id 22,.id 23,.id 24,.id 25,.id 26,.id 27,.id 28,.id 29],by(exact zC)⟩
 refine zE cxl2_ok ?_
 obtain⟨b1,b2,b3⟩:=tk_good (most:=most) hm2 h (by rw [hRe]; exact he)
 have okc:okC (encL cell cs) cs.length=true:=okC_enc (by omega)
 have lec:xle (xadd x0.1.length cs.length) 900000=true:=t_le (by rw [wd_add]; omega)
 have nw:=noids_c (wTc (most - totC [x1,x2,x3,x4,x5]) x0.1 cs)
 rw [tz_6]
 simp only [ok0,okc,lec,wtE,wtN,wtC,decC_enc,b2,b3,cond_true]
 exact⟨trivial,rfl,.int .i64 0,lvI6 most cs.length (encL cell cs) (wTc (most - totC [x1,x2,x3,x4,x5]) x0.1 cs).length x0.2.length x1.1.length x1.2.length x2.1.length x2.2.length x3.1.length x3.2.length x4.1.length x4.2.length x5.1.length x5.2.length (encL cell (wTc (most - totC [x1,x2,x3,x4,x5]) x0.1 cs)) (encL (cI .i64) x0.2) (encL cell x1.1) (encL (cI .i64) x1.2) (encL cell x2.1) (encL (cI .i64) x2.2) (encL cell x3.1) (encL (cI .i64) x3.2) (encL cell x4.1) (encL (cI .i64) x4.2) (encL cell x5.1) (encL (cI .i64) x5.2),[.id 0,.id 1,.id 2,.id 3,.id 4,.id 5,.id 30,.id 7,.id 8,.id 9,.id 10,.id 11,.id 12,.id 13,.id 14,.id 15,.id 16,.id 17,.id 18,.id 19,.id 20,.id 21,.id 22,.id 23,.id 24,.id 25,.id 26,.id 27],⟨by rw [b1],hr,rfl⟩,by(exact zC)⟩
theorem ltake_ok (most:Int) (cs:CL) (hcs:cs.length≤800000) (ls:List Lv) (hm:(totC ls:Int)≤most) (hm2:most≤96):SFun prog 72 [.ptr 0 0,.slo 3 0 cs.length 0] (mkS (lvS most ls.length (encLs ls) (Row cs))) fun l t=>l=.int .i64 (tkE most ls cs)∧t=mkS (lvS' most (tkC most ls cs).length (encLs (tkC most ls cs)) (Row cs)):=by
 refine lv_meth (nt:=47) (L:=taL) (ts:=[4]) (A:=Row cs) (by kernel_rfl) rfl rfl (by kernel_rfl) (own3_row cs) (Nat.le_refl _) (fun ρ _=>lw_noid rfl) fun h=>Ls.cases h ?_ ?_ ?_ ?_ ?_ ?_
 ·intro x0 e; subst e; exact ltake_1 most cs hcs x0 hm hm2 h
 ·intro x0 x1 e; subst e; exact ltake_2 most cs hcs x0 x1 hm hm2 h
 ·intro x0 x1 x2 e; subst e; exact ltake_3 most cs hcs x0 x1 x2 hm hm2 h
 ·intro x0 x1 x2 x3 e; subst e; exact ltake_4 most cs hcs x0 x1 x2 x3 hm hm2 h
 ·intro x0 x1 x2 x3 x4 e; subst e; exact ltake_5 most cs hcs x0 x1 x2 x3 x4 hm hm2 h
 ·intro x0 x1 x2 x3 x4 x5 e; subst e; exact ltake_6 most cs hcs x0 x1 x2 x3 x4 x5 hm hm2 h
end
end Go.Lev
