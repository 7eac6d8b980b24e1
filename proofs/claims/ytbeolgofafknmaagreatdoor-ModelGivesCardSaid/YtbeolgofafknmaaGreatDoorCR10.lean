/- chapter 11: Give of the model, both: contracts -/
import Derived.Test.YtbeolgofafknmaaGreatDoorCR9
import Derived.Test.YtbeolgofafknmaaGreatDoorLc
import Derived.Test.YtbeolgofafknmaaGreatDoorChecked
import Derived.KernelRfl
namespace Go.Lev
set_option linter.unusedSimpArgs false
set_option linter.unusedVariables false
open Go.RowKit
open Go.Proofs.Tryz (prog)
set_option maxRecDepth 100000
noncomputable section
def gvl (sz:Nat) (most:Int) (kc:List LV):List Int→Nat→List LV→Int×Nat×List LV
 | [],d,cs=>(0,d,cs)
 | a::r,d,cs=>if gvE sz most kc cs a=0 then gvl sz most kc r (gvN sz most kc cs a d) (gvC sz most kc cs a) else(gvE sz most kc cs a,d,cs)
def gvQ (ws:List LV) (n:Nat) (most:Int) (bs:List Int):Int×Nat×List LV:=gvl (szQ n) (xmn (xmx most 0) 96) (vhC ws n) bs 1 [.tup [.agg [],.agg []]]
def mgE (ws bc:List LV) (n:Nat) (most:Int):Int:=(gvQ ws n most (decIi64 bc)).1
def mgK (ws bc:List LV) (n:Nat) (most:Int):Int:=if mgE ws bc n most=0 then 2 else 4
def mgM (ws bc:List LV) (n:Nat) (most:Int):Nat:=if mgE ws bc n most=0 then lcN (gvQ ws n most (decIi64 bc)).2.2 else 0
def mgC (ws bc:List LV) (n:Nat) (most:Int):List LV:=if mgE ws bc n most=0 then lcC (gvQ ws n most (decIi64 bc)).2.2 else []
def mgW (ws bc:List LV) (n:Nat) (most:Int):List LV:=if mgE ws bc n most=0 then apC ws (lcC (gvQ ws n most (decIi64 bc)).2.2) else apC ws []
def okUm (wc:List LV) (n:Nat):Bool:=@decide (∃ us:List Int,wc=encL (cI .u64) us∧n=us.length∧us.length≤1000000∧inU us) (Classical.propDecidable _)
theorem okUm_iff {wc:List LV} {n:Nat}:okUm wc n=true↔∃ us:List Int,wc=encL (cI .u64) us∧n=us.length∧us.length≤1000000∧inU us:=by simp only [okUm,decide_eq_true_eq]
theorem okUm_no {wc:List LV} {n:Nat} (h:okUm wc n=true):noIds wc=true:=by obtain⟨_,e,_⟩:=okUm_iff.1 h; rw [e]; exact noIds_Iu64 _
theorem Iiq_no {tc:List LV} {m:Nat} (h:okIi64 tc m=true):noIds tc=true:=by obtain⟨_,e,_⟩:=okIi64_iff.1 h; rw [e]; exact noIds_Ii64 _
theorem vrC_vs {us:List Int} (h:inU us) (k:Nat):vrC (vhS us k):=fun x hx=>by
 simp only [vhS,List.mem_map,List.mem_range] at hx
 obtain⟨j,_,rfl⟩:=hx
 exact inU_get h _
theorem lc_ok {most:Int} {N d:Nat} {cs:List LV} (h:GL most N d cs):okC (lcC cs) (lcN cs)=true∧lcN cs≤96:=by
 obtain⟨ls,rfl,rfl,h3,h4,_,_⟩:=h
 rw [lcC,lcN,decLs_enc]
 have hw:=(celL_wf (ls:=ls) fun x hx=>h3.uq x hx).2.2
 have:=h3.c
 exact⟨okC_enc (by omega),by omega⟩
theorem mgC_no (ws bc:List LV) (n:Nat) (most:Int):noIds (mgC ws bc n most)=true:=by
 rw [mgC]; split
 ·rw [lcC]; exact noids_c _
 ·rfl
theorem mgW_no (ws bc:List LV) (n:Nat) (most:Int):noIds (mgW ws bc n most)=true:=by
 rw [mgW]; split <;> exact noIds_ap _ _
def mgV (ws bc:List LV) (n:Nat) (most:Int):LV:=.agg [.int .i64 (mgK ws bc n most),.int .i64 (mgE ws bc n most),.str [],.slo 2 0 (mgM ws bc n most) 0,.nils,.slo 3 0 (szQ n) 0]
def mgH (ws bc:List LV) (n:Nat) (most:Int):List LB:=[.cells ws (some 1),.cells bc (some 1),.cells (mgC ws bc n most) (some 2),.cells (mgW ws bc n most) (some 1)]
abbrev mgQ (ws bc:List LV) (n:Nat) (most:Int):LV→List LB→Prop:=fun l b=>l=mgV ws bc n most∧b=mgH ws bc n most
theorem mg_err {ws bc:List LV} {n:Nat} {most:Int} {e:Int} (h:mgE ws bc n most=e) (k:e≠0):mgQ ws bc n most (.agg [.int .i64 4,.int .i64 e,.str [],.slo 2 0 0 0,.nils,.slo 3 0 (szQ n) 0]) [.cells ws (some 1),.cells bc (some 1),.cells [] (some 2),.cells (apC ws []) (some 1)]:=by
 subst h
 simp only [mgQ,mgV,mgH,mgK,mgM,mgC,mgW,if_neg k,and_self]
theorem mg_done {ws bc:List LV} {n:Nat} {most:Int} {d:Nat} {cs:List LV} (h:gvQ ws n most (decIi64 bc)=(0,d,cs)):mgQ ws bc n most (.agg [.int .i64 2,.int .i64 0,.str [],.slo 2 0 (lcN cs) 0,.nils,.slo 3 0 (szQ n) 0]) [.cells ws (some 1),.cells bc (some 1),.cells (lcC cs) (some 2),.cells (apC ws (lcC cs)) (some 1)]:=by
 have e:mgE ws bc n most=0:=by rw [mgE,h]
 simp only [mgQ,mgV,mgH,mgK,mgM,mgC,mgW,e,if_pos,h,and_self]
theorem cxgA_ok:CtrOk prog (ctrOf cxgA):=cxl_ok ⟨whO_ok,gvG_ok,ap0G_ok,trivial⟩
theorem cxgZ_ok:CtrOk prog (ctrOf cxgZ):=cxl_ok ⟨apG_ok,lcellsG_ok,trivial⟩
theorem cxrA_ok:CtrOk prog (ctrOf cxrA):=cxl_ok ⟨xhO_ok,ogvG_ok,ra0G_ok,trivial⟩
theorem cxrZ_ok:CtrOk prog (ctrOf cxrZ):=cxl_ok ⟨raG_ok,owholeG_ok,trivial⟩
abbrev giB (most:Int) (sz:Nat) (kc:List LV) (bs:List Int) (r0:Int×Nat×List LV):Type:={q:Nat×Nat×List LV×Int // q.1≤bs.length∧GL most 0 q.2.1 q.2.2.1∧gvl sz most kc (bs.drop q.1) q.2.1 q.2.2.1=r0}
abbrev giE (most:Int) (r0:Int×Nat×List LV):Type:={q:Nat×Nat×List LV×Int // GL most 0 q.2.1 q.2.2.1∧r0=(0,q.2.1,q.2.2.1)}
set_option maxHeartbeats 1000000 in
theorem gi_ok (us bs:List Int) (most0:Int) (hn:us.length≤1000000) (hu:inU us) (hm:bs.length≤9223372036854775807):SFun prog 8 [.slo 0 0 us.length 0,.slo 1 0 bs.length 0,.int .i64 most0] (mkS [.cells (encL (cI .u64) us) (some 1),.cells (encL (cI .i64) bs) (some 1)])
  fun l s=>l=mgV (encL (cI .u64) us) (encL (cI .i64) bs) us.length most0∧s=mkS (mgH (encL (cI .u64) us) (encL (cI .i64) bs) us.length most0):=by
 refine SFun.mono (SFun.piecesC (Q:=mgQ (encL (cI .u64) us) (encL (cI .i64) bs) us.length most0) 33 2 6 33 giL (by kernel_rfl) rfl rfl rfl ?_) fun l s' ⟨b0,⟨h1,h2⟩,h3⟩=>⟨h1,by rw [h3,h2]⟩
 have hd:∀ {d:Nat} {cs:List LV},_→_:=fun {d cs} h=>mg_done (ws:=encL (cI .u64) us) (bc:=encL (cI .i64) bs) (n:=us.length) (most:=most0) (d:=d) (cs:=cs) h
 have he:∀ {e:Int},_→e≠0→_:=fun {e} h k=>mg_err (ws:=encL (cI .u64) us) (bc:=encL (cI .i64) bs) (n:=us.length) (most:=most0) (e:=e) h k
 have e0:mgE (encL (cI .u64) us) (encL (cI .i64) bs) us.length most0=(gvQ (encL (cI .u64) us) us.length most0 bs).1:=by rw [mgE,decIi64_enc]
 rw [e0] at he
 rw [decIi64_enc] at hd
 generalize hQ:mgQ (encL (cI .u64) us) (encL (cI .i64) bs) us.length most0=Q at *
 obtain⟨hs,hs2⟩:=szQ_b us.length
 have ekc:vhC (encL (cI .u64) us) us.length=encL cell (vhS us (szQ us.length - 1)):=by rw [vhC,decIu64_enc]; rfl
 have enc:vhN us.length=(vhS us (szQ us.length - 1)).length:=by rw [vhS_len]; rfl
 have o1:okIu64 (encL (cI .u64) us) us.length=true:=okIu64_enc (by omega)
 have o2:xle us.length 1000000=true:=t_le hn
 have hkc:OkK (szQ us.length) (vhS us (szQ us.length - 1)):=okK_wh us (szQ us.length) (szQ us.length - 1) hs2 (by omega)
 have o3:=okK_enc hkc
 have hv:=vrC_vs hu (szQ us.length - 1)
 have nf:=noIds_Iu64 us; have nb:=noIds_Ii64 bs; have lb:=encIi64_len bs
 have na:∀ cs,noIds (apC (encL (cI .u64) us) cs)=true:=noIds_ap _
 rw [gvQ,ekc] at hd he
 generalize vhS us (szQ us.length - 1)=ks at *
 generalize esz:szQ us.length=sz at *
 generalize us.length=n at *
 generalize encL (cI .u64) us=wc at *
 have nk:=noids_c ks; have nsp:=spW_noids sz (encL cell ks)
 have hmost:xmn (xmx most0 0) 96≤96∧0≤xmn (xmx most0 0) 96:=by simp only [wd_mn,wd_mx]; split <;> (try split) <;> omega
 have f1:=isF_self lvF; have f2:=isF_self orF
 have g0:GL (xmn (xmx most0 0) 96) 0 1 [.tup [.agg [],.agg []]]:=⟨[([],[])],rfl,rfl,ok1,by simp [totC]; omega,by simp [totF],fun l hl=>by simp at hl; subst hl; intro x hx; cases hx⟩
 generalize hmo:xmn (xmx most0 0) 96=most at *
 generalize er:gvl sz most (encL cell ks) bs 1 [.tup [.agg [],.agg []]]=r0 at *
 refine SSp.to cxgA_ok (n:=60) (g:=[]) 3 3 rfl (σ:=Unit) (fun _=>giT n bs.length 0) (fun _=>giH wc (encL (cI .i64) bs) sz ks.length (encL cell ks) (spW sz (encL cell ks)) 0 most 1 [.tup [.agg [],.agg []]]) (mkS_le (Nat.le_of_ble_eq_true rfl)) (by kernel_rfl) ?_ fun _=>?_
 ·rw [gi_a]
  simp only [o1,o2,ekc,enc,esz,hmo,cond_true]
  (refine zR ?_)
  exact⟨rfl,(),[.id 0,.id 1,.id 2,.id 3,.id 4,.id 5,.id 6,.id 7,.id 8],by(exact zC)⟩
 try dsimp only
 refine SSp.code_to (g:=[]) 4 rfl (σ:=giE most r0) (fun q=>giT n bs.length q.1.1) (fun q=>giH wc (encL (cI .i64) bs) sz ks.length (encL cell ks) (spW sz (encL cell ks)) q.1.2.2.2 most q.1.2.1 q.1.2.2.1) (by kernel_rfl) ?_ fun⟨⟨i,d,cs,nd⟩,h1,h2⟩=>?_
 ·refine SCode.loop_vc cxgA_ok (n:=60) 0 (by kernel_rfl) (σ:=giB most sz (encL cell ks) bs r0) (fun q=>giT n bs.length q.1.1) (fun q=>giH wc (encL (cI .i64) bs) sz ks.length (encL cell ks) (spW sz (encL cell ks)) q.1.2.2.2 most q.1.2.1 q.1.2.2.1) (fun q=>bs.length - q.1.1) (fun _=>Nat.le_of_ble_eq_true rfl) (fun⟨⟨i,d,cs,nd⟩,h1,h2,h3⟩=>?_) ⟨(0,1,[.tup [.agg [],.agg []]],0),by simp,g0,by simpa using er⟩
  dsimp only at h1 h2 h3 ⊢
  rw [gi_b]
  by_cases c1:i < bs.length
  ·have e3:xar .add .i64 (i:Int) 1=((i+1:Nat):Int):=inc_i64 c1 (by omega)
   have kv:=h2.okv (sz:=sz) hv
   have r1:=h2.okR hmost.1
   rw [List.drop_eq_getElem_cons c1,gvl] at h3
   by_cases c2:gvE sz most (encL cell ks) cs bs[i]=0
   ·rw [if_pos c2] at h3
    have h4:=h2.gv (sz:=sz) hmost.1 kv bs[i]
    have x2:xcm .neq (gvE sz most (encL cell ks) cs bs[i]) 0=false:=by rw [c2]; rfl
    (refine zN3 (encIi64_nth c1) @lb @e3 ?_)
    simp only [o3,eqL_self,r1,kv,f1,f2,c2,x2,cond_true]
    (refine zR ?_)
    exact⟨rfl,⟨(i+1,gvN sz most (encL cell ks) cs bs[i] d,gvC sz most (encL cell ks) cs bs[i],gvD sz (encL cell ks) cs bs[i] nd),by simp only; omega,h4,h3⟩,by simp only; omega,[.id 0,.id 1,.id 2,.id 3,.id 4,.id 5,.id 6,.id 7,.id 9],by(exact zC)⟩
   ·rw [if_neg c2] at h3
    have x2:xcm .neq (gvE sz most (encL cell ks) cs bs[i]) 0=true:=t_neq c2
    have q1:=he (congrArg Prod.fst h3.symm) c2
    (refine zN3 (encIi64_nth c1) @lb @e3 ?_)
    simp only [o1,o2,o3,esz,eqL_self,r1,kv,f1,f2,x2,cond_true]
    (refine zR ?_)
    exact⟨trivial,rfl,2,_,_,_,_,_,[.id 0,.id 1,.id 10,.id 11],rfl,rfl,rfl,q1,by(exact zC)⟩
  ·have e4:bs.drop i=[]:=List.drop_eq_nil_of_le (by omega)
   rw [e4,gvl] at h3
   (refine zR ?_)
   exact⟨rfl,⟨(i,d,cs,nd),h2,h3.symm⟩,[.id 0,.id 1,.id 2,.id 3,.id 4,.id 5,.id 6,.id 7,.id 8],by(exact zC)⟩
 dsimp only at h1 h2 ⊢
 have r1:=h1.okR hmost.1
 obtain⟨l1,l2⟩:=lc_ok h1
 have q1:=hd h2
 have nlc:noIds (lcC cs)=true:=by rw [lcC]; exact noids_c _
 have xk:xle (lcN cs) 1000=true:=t_le (by omega)
 refine zE cxgZ_ok ?_
 rw [gi_z]
 simp only [r1,f1,f2,esz,o1,o2,l1,xk,cond_true]
 (refine zR ?_)
 exact⟨trivial,rfl,2,_,_,_,_,_,[.id 0,.id 1,.id 10,.id 12],rfl,rfl,rfl,q1,by(exact zC)⟩
theorem gi_in (n m:Nat) (ws bc:List LV) (most:Int) (k1:okUm ws n=true) (k2:okIi64 bc m=true):SFun prog 8 [.slo 0 0 n 0,.slo 1 0 m 0,.int .i64 most] (mkS [.cells ws (some 1),.cells bc (some 1)]) fun l s=>l=.agg [.int .i64 (mgK ws bc n most),.int .i64 (mgE ws bc n most),.str [],.slo 2 0 (mgM ws bc n most) 0,.nils,.slo 3 0 (szQ n) 0]∧s=mkS [.cells ws (some 1),.cells bc (some 1),.cells (mgC ws bc n most) (some 2),.cells (mgW ws bc n most) (some 1)]:=by
 obtain⟨us,rfl,rfl,h1,h2⟩:=okUm_iff.1 k1
 obtain⟨bs,rfl,rfl,h3⟩:=okIi64_iff.1 k2
 exact gi_ok us bs most h1 h2 h3
def giG:Gc:=fun args s=>match args,s.g with
 | [.slo a 0 n 0,.slo c 0 m 0,.int .i64 most],[]=>(match s.h.get a with
   | some (.cells ws (some 1))=>(match s.h.get c with
     | some (.cells bc (some 1))=>cond (nodupB [a,c]) (match s.lay [a,c] [.cells ws (some 1),.cells bc (some 1)] [.cells (mgC ws bc n most) (some 2),.cells (mgW ws bc n most) (some 1)] with
       | some s'=>some ([okUm ws n,okIi64 bc m],.agg [.int .i64 (mgK ws bc n most),.int .i64 (mgE ws bc n most),.str [],.slo s.n 0 (mgM ws bc n most) 0,.nils,.slo (Nat.succ s.n) 0 (szQ n) 0],s')
       | none=>none) none
     | _=>none)
   | _=>none)
 | _,_=>none
theorem giG_ok:GOk prog 8 giG:=by
 intro args s bs l s' hg hb hfr
 unfold giG at hg
 split at hg
 ·rename_i a n c m most hgl
  split at hg
  ·rename_i ws hb0
   split at hg
   ·rename_i bc hb1
    cases hbc:nodupB [a,c] with
    | false=>rw [hbc] at hg; cases hg
    | true =>
      rw [hbc] at hg
      simp only [cond_true] at hg
      split at hg
      ·rename_i s1 hs1
       simp only [Option.some.injEq,Prod.mk.injEq] at hg
       obtain⟨rfl,rfl,rfl⟩:=hg
       simp only [allT_cons] at hb
       obtain⟨k1,k2,_⟩:=hb
       have no1:=okUm_no k1
       have no2:=Iiq_no k2
       refine SFun.lay (bs:=[.cells ws (some 1),.cells bc (some 1)]) (args0:=[.slo 0 0 n 0,.slo 1 0 m 0,.int .i64 most]) (bs':=[.cells ws (some 1),.cells bc (some 1),.cells (mgC ws bc n most) (some 2),.cells (mgW ws bc n most) (some 1)]) (v0:=.agg [.int .i64 (mgK ws bc n most),.int .i64 (mgE ws bc n most),.str [],.slo 2 0 (mgM ws bc n most) 0,.nils,.slo 3 0 (szQ n) 0]) hfr hs1 (nodupB_nd hbc)
        ⟨⟨there hfr hb0,_,hb0,lb_same (by(exact zId)),fun κ hκ=>lb_same (by(exact zId))⟩,⟨there hfr hb1,_,hb1,lb_same (by(exact zId)),fun κ hκ=>lb_same (by(exact zId))⟩,trivial⟩ (by(exact zTl)) ?_
        fun κ h1 h2=>⟨⟨lb_same (by(exact zId)),lb_same (by(exact zId)),lb_same (mgC_no _ _ _ _),lb_same (mgW_no _ _ _ _),trivial⟩,(lw_agg (lws_cons (lw_int) (lws_cons (lw_int) (lws_cons (lw_noid rfl) (lws_cons (lw_slo (h2 0 (by simp))) (lws_cons (lw_noid rfl) (lws_cons (lw_slo (h2 1 (by simp))) lws_nil)))))))⟩
       rw [hgl]; exact(gi_in n m ws bc most k1 k2)
      ·cases hg
   ·cases hg
  ·cases hg
 ·cases hg
abbrev riB (most:Int) (sz:Nat) (kc:List LV) (bs:List Int) (r0:Int×Nat×List LV):Type:={q:Nat×Nat×List LV×Int // q.1≤bs.length∧GL most 0 q.2.1 q.2.2.1∧gvl sz most kc (bs.drop q.1) q.2.1 q.2.2.1=r0}
abbrev riE (most:Int) (r0:Int×Nat×List LV):Type:={q:Nat×Nat×List LV×Int // GL most 0 q.2.1 q.2.2.1∧r0=(0,q.2.1,q.2.2.1)}
set_option maxHeartbeats 1000000 in
theorem ri_ok (us bs:List Int) (most0:Int) (hn:us.length≤1000000) (hu:inU us) (hm:bs.length≤9223372036854775807):SFun prog 9 [.slo 0 0 us.length 0,.slo 1 0 bs.length 0,.int .i64 most0] (mkS [.cells (encL (cI .u64) us) (some 1),.cells (encL (cI .i64) bs) (some 1)])
  fun l s=>l=mgV (encL (cI .u64) us) (encL (cI .i64) bs) us.length most0∧s=mkS (mgH (encL (cI .u64) us) (encL (cI .i64) bs) us.length most0):=by
 refine SFun.mono (SFun.piecesC (Q:=mgQ (encL (cI .u64) us) (encL (cI .i64) bs) us.length most0) 43 2 6 33 riL (by kernel_rfl) rfl rfl rfl ?_) fun l s' ⟨b0,⟨h1,h2⟩,h3⟩=>⟨h1,by rw [h3,h2]⟩
 have hd:∀ {d:Nat} {cs:List LV},_→_:=fun {d cs} h=>mg_done (ws:=encL (cI .u64) us) (bc:=encL (cI .i64) bs) (n:=us.length) (most:=most0) (d:=d) (cs:=cs) h
 have he:∀ {e:Int},_→e≠0→_:=fun {e} h k=>mg_err (ws:=encL (cI .u64) us) (bc:=encL (cI .i64) bs) (n:=us.length) (most:=most0) (e:=e) h k
 have e0:mgE (encL (cI .u64) us) (encL (cI .i64) bs) us.length most0=(gvQ (encL (cI .u64) us) us.length most0 bs).1:=by rw [mgE,decIi64_enc]
 rw [e0] at he
 rw [decIi64_enc] at hd
 generalize hQ:mgQ (encL (cI .u64) us) (encL (cI .i64) bs) us.length most0=Q at *
 obtain⟨hs,hs2⟩:=szQ_b us.length
 have ekc:vhC (encL (cI .u64) us) us.length=encL cell (vhS us (szQ us.length - 1)):=by rw [vhC,decIu64_enc]; rfl
 have enc:vhN us.length=(vhS us (szQ us.length - 1)).length:=by rw [vhS_len]; rfl
 have o1:okIu64 (encL (cI .u64) us) us.length=true:=okIu64_enc (by omega)
 have o2:xle us.length 1000000=true:=t_le hn
 have hkc:OkK (szQ us.length) (vhS us (szQ us.length - 1)):=okK_wh us (szQ us.length) (szQ us.length - 1) hs2 (by omega)
 have o3:=okK_enc hkc
 have hv:=vrC_vs hu (szQ us.length - 1)
 have nf:=noIds_Iu64 us; have nb:=noIds_Ii64 bs; have lb:=encIi64_len bs
 have na:∀ cs,noIds (apC (encL (cI .u64) us) cs)=true:=noIds_ap _
 rw [gvQ,ekc] at hd he
 generalize vhS us (szQ us.length - 1)=ks at *
 generalize esz:szQ us.length=sz at *
 generalize us.length=n at *
 generalize encL (cI .u64) us=wc at *
 have nk:=noids_c ks; have nsp:=spW_noids sz (encL cell ks)
 have hmost:xmn (xmx most0 0) 96≤96∧0≤xmn (xmx most0 0) 96:=by simp only [wd_mn,wd_mx]; split <;> (try split) <;> omega
 have f1:=isF_self lvF; have f2:=isF_self orF
 have g0:GL (xmn (xmx most0 0) 96) 0 1 [.tup [.agg [],.agg []]]:=⟨[([],[])],rfl,rfl,ok1,by simp [totC]; omega,by simp [totF],fun l hl=>by simp at hl; subst hl; intro x hx; cases hx⟩
 generalize hmo:xmn (xmx most0 0) 96=most at *
 generalize er:gvl sz most (encL cell ks) bs 1 [.tup [.agg [],.agg []]]=r0 at *
 refine SSp.to cxrA_ok (n:=60) (g:=[]) 3 3 rfl (σ:=Unit) (fun _=>riT n bs.length 0) (fun _=>riH wc (encL (cI .i64) bs) sz ks.length (encL cell ks) 0 most 1 [.tup [.agg [],.agg []]]) (mkS_le (Nat.le_of_ble_eq_true rfl)) (by kernel_rfl) ?_ fun _=>?_
 ·rw [ri_a]
  simp only [o1,o2,ekc,enc,esz,hmo,cond_true]
  (refine zR ?_)
  exact⟨rfl,(),[.id 0,.id 1,.id 2,.id 3,.id 4,.id 5,.id 6,.id 7],by(exact zC)⟩
 try dsimp only
 refine SSp.code_to (g:=[]) 4 rfl (σ:=riE most r0) (fun q=>riT n bs.length q.1.1) (fun q=>riH wc (encL (cI .i64) bs) sz ks.length (encL cell ks) q.1.2.2.2 most q.1.2.1 q.1.2.2.1) (by kernel_rfl) ?_ fun⟨⟨i,d,cs,nd⟩,h1,h2⟩=>?_
 ·refine SCode.loop_vc cxrA_ok (n:=60) 0 (by kernel_rfl) (σ:=riB most sz (encL cell ks) bs r0) (fun q=>riT n bs.length q.1.1) (fun q=>riH wc (encL (cI .i64) bs) sz ks.length (encL cell ks) q.1.2.2.2 most q.1.2.1 q.1.2.2.1) (fun q=>bs.length - q.1.1) (fun _=>Nat.le_of_ble_eq_true rfl) (fun⟨⟨i,d,cs,nd⟩,h1,h2,h3⟩=>?_) ⟨(0,1,[.tup [.agg [],.agg []]],0),by simp,g0,by simpa using er⟩
  dsimp only at h1 h2 h3 ⊢
  rw [ri_b]
  by_cases c1:i < bs.length
  ·have e3:xar .add .i64 (i:Int) 1=((i+1:Nat):Int):=inc_i64 c1 (by omega)
   have kv:=h2.okv (sz:=sz) hv
   have r1:=h2.okR hmost.1
   rw [List.drop_eq_getElem_cons c1,gvl] at h3
   by_cases c2:gvE sz most (encL cell ks) cs bs[i]=0
   ·rw [if_pos c2] at h3
    have h4:=h2.gv (sz:=sz) hmost.1 kv bs[i]
    have x2:xcm .neq (gvE sz most (encL cell ks) cs bs[i]) 0=false:=by rw [c2]; rfl
    (refine zN3 (encIi64_nth c1) @lb @e3 ?_)
    simp only [o3,eqL_self,r1,kv,f1,f2,c2,x2,cond_true]
    (refine zR ?_)
    exact⟨rfl,⟨(i+1,gvN sz most (encL cell ks) cs bs[i] d,gvC sz most (encL cell ks) cs bs[i],gvD sz (encL cell ks) cs bs[i] nd),by simp only; omega,h4,h3⟩,by simp only; omega,[.id 0,.id 1,.id 2,.id 3,.id 4,.id 5,.id 8,.id 9],by(exact zC)⟩
   ·rw [if_neg c2] at h3
    have x2:xcm .neq (gvE sz most (encL cell ks) cs bs[i]) 0=true:=t_neq c2
    have q1:=he (congrArg Prod.fst h3.symm) c2
    (refine zN3 (encIi64_nth c1) @lb @e3 ?_)
    simp only [o1,o2,o3,esz,eqL_self,r1,kv,f1,f2,x2,cond_true]
    (refine zR ?_)
    exact⟨trivial,rfl,2,_,_,_,_,_,[.id 0,.id 1,.id 10,.id 11],rfl,rfl,rfl,q1,by(exact zC)⟩
  ·have e4:bs.drop i=[]:=List.drop_eq_nil_of_le (by omega)
   rw [e4,gvl] at h3
   (refine zR ?_)
   exact⟨rfl,⟨(i,d,cs,nd),h2,h3.symm⟩,[.id 0,.id 1,.id 2,.id 3,.id 4,.id 5,.id 6,.id 7],by(exact zC)⟩
 dsimp only at h1 h2 ⊢
 have r1:=h1.okR hmost.1
 obtain⟨l1,l2⟩:=lc_ok h1
 have q1:=hd h2
 have nlc:noIds (lcC cs)=true:=by rw [lcC]; exact noids_c _
 have xk:xle (lcN cs) 1000=true:=t_le (by omega)
 refine zE cxrZ_ok ?_
 rw [ri_z]
 simp only [r1,f1,f2,esz,o1,o2,l1,xk,cond_true]
 (refine zR ?_)
 exact⟨trivial,rfl,2,_,_,_,_,_,[.id 0,.id 1,.id 9,.id 12],rfl,rfl,rfl,q1,by(exact zC)⟩
theorem ri_in (n m:Nat) (ws bc:List LV) (most:Int) (k1:okUm ws n=true) (k2:okIi64 bc m=true):SFun prog 9 [.slo 0 0 n 0,.slo 1 0 m 0,.int .i64 most] (mkS [.cells ws (some 1),.cells bc (some 1)]) fun l s=>l=.agg [.int .i64 (mgK ws bc n most),.int .i64 (mgE ws bc n most),.str [],.slo 2 0 (mgM ws bc n most) 0,.nils,.slo 3 0 (szQ n) 0]∧s=mkS [.cells ws (some 1),.cells bc (some 1),.cells (mgC ws bc n most) (some 2),.cells (mgW ws bc n most) (some 1)]:=by
 obtain⟨us,rfl,rfl,h1,h2⟩:=okUm_iff.1 k1
 obtain⟨bs,rfl,rfl,h3⟩:=okIi64_iff.1 k2
 exact ri_ok us bs most h1 h2 h3
def riG:Gc:=fun args s=>match args,s.g with
 | [.slo a 0 n 0,.slo c 0 m 0,.int .i64 most],[]=>(match s.h.get a with
   | some (.cells ws (some 1))=>(match s.h.get c with
     | some (.cells bc (some 1))=>cond (nodupB [a,c]) (match s.lay [a,c] [.cells ws (some 1),.cells bc (some 1)] [.cells (mgC ws bc n most) (some 2),.cells (mgW ws bc n most) (some 1)] with
       | some s'=>some ([okUm ws n,okIi64 bc m],.agg [.int .i64 (mgK ws bc n most),.int .i64 (mgE ws bc n most),.str [],.slo s.n 0 (mgM ws bc n most) 0,.nils,.slo (Nat.succ s.n) 0 (szQ n) 0],s')
       | none=>none) none
     | _=>none)
   | _=>none)
 | _,_=>none
theorem riG_ok:GOk prog 9 riG:=by
 intro args s bs l s' hg hb hfr
 unfold riG at hg
 split at hg
 ·rename_i a n c m most hgl
  split at hg
  ·rename_i ws hb0
   split at hg
   ·rename_i bc hb1
    cases hbc:nodupB [a,c] with
    | false=>rw [hbc] at hg; cases hg
    | true =>
      rw [hbc] at hg
      simp only [cond_true] at hg
      split at hg
      ·rename_i s1 hs1
       simp only [Option.some.injEq,Prod.mk.injEq] at hg
       obtain⟨rfl,rfl,rfl⟩:=hg
       simp only [allT_cons] at hb
       obtain⟨k1,k2,_⟩:=hb
       have no1:=okUm_no k1
       have no2:=Iiq_no k2
       refine SFun.lay (bs:=[.cells ws (some 1),.cells bc (some 1)]) (args0:=[.slo 0 0 n 0,.slo 1 0 m 0,.int .i64 most]) (bs':=[.cells ws (some 1),.cells bc (some 1),.cells (mgC ws bc n most) (some 2),.cells (mgW ws bc n most) (some 1)]) (v0:=.agg [.int .i64 (mgK ws bc n most),.int .i64 (mgE ws bc n most),.str [],.slo 2 0 (mgM ws bc n most) 0,.nils,.slo 3 0 (szQ n) 0]) hfr hs1 (nodupB_nd hbc)
        ⟨⟨there hfr hb0,_,hb0,lb_same (by(exact zId)),fun κ hκ=>lb_same (by(exact zId))⟩,⟨there hfr hb1,_,hb1,lb_same (by(exact zId)),fun κ hκ=>lb_same (by(exact zId))⟩,trivial⟩ (by(exact zTl)) ?_
        fun κ h1 h2=>⟨⟨lb_same (by(exact zId)),lb_same (by(exact zId)),lb_same (mgC_no _ _ _ _),lb_same (mgW_no _ _ _ _),trivial⟩,(lw_agg (lws_cons (lw_int) (lws_cons (lw_int) (lws_cons (lw_noid rfl) (lws_cons (lw_slo (h2 0 (by simp))) (lws_cons (lw_noid rfl) (lws_cons (lw_slo (h2 1 (by simp))) lws_nil)))))))⟩
       rw [hgl]; exact(ri_in n m ws bc most k1 k2)
      ·cases hg
   ·cases hg
  ·cases hg
 ·cases hg
end
end Go.Lev
