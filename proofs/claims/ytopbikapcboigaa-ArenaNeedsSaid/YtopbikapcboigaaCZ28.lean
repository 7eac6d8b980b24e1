/- ArenaNeeds (P11.2, P11.3): for any words, any heads, any ask the law returns true; what was there stays as it was. No condition. -/
import Derived.Test.YtopbikapcboigaaCZ27
import Derived.Test.YtopbikapcboigaaLc
import Derived.Test.YtopbikapcboigaaChecked
import Derived.KernelRfl
import Derived.Test.YtopbikapcboigaaLc
namespace Go.Lev
set_option linter.unusedSimpArgs false
set_option linter.unusedVariables false
open Go.RowKit
open Go.Proofs.Try (prog)
set_option maxRecDepth 100000
noncomputable section
theorem runs11:isTrue (lrun prog 4000 3 [])=true:=by kernel_rfl
theorem cxne_ok:CtrOk prog (ctrOf cxne):=cxl_ok ⟨runG_ok runs11,ofsG_ok,lnewG_ok,onewG_ok,heldG_ok,donG_ok,sanG_ok,lcellsG_ok,knG_ok,oknG_ok,trivial⟩
theorem eNew:([.tup [.agg [],.agg []]]:List LV)=encLs [([],[])]:=rfl
theorem eRow:([.int .u64 0,.int .u64 0,.int .u64 0,.int .u64 0,.int .u64 0,.int .u64 14,.int .u64 0,.int .u64 0,.int .u64 0,.int .u64 0,.int .u64 0,.int .u64 0,.int .u64 0,.int .u64 0,.int .u64 0,.int .u64 0,.int .u64 0,.int .u64 0,.int .u64 0,.int .u64 0,.int .u64 0,.int .u64 0,.int .u64 0,.int .u64 0,.int .u64 0,.int .u64 0,.int .u64 0,.int .u64 0,.int .u64 0,.int .u64 0,.int .u64 0,.int .u64 0,.int .u64 0,.int .u64 0,.int .u64 0,.int .u64 0,.int .u64 0,.int .u64 0,.int .u64 0,.int .u64 0,.int .u64 0,.int .u64 0,.int .u64 0,.int .u64 0,.int .u64 0,.int .u64 0,.int .u64 0,.int .u64 0,.int .u64 0,.int .u64 0,.int .u64 0,.int .u64 0,.int .u64 0,.int .u64 0,.int .u64 0,.int .u64 0,.int .u64 0,.int .u64 0,.int .u64 0,.int .u64 0,.int .u64 0,.int .u64 0,.int .u64 0,.int .u64 0]:List LV)=encL (cI .u64) (frsL 64):=by kernel_rfl
theorem eSpot:([.int .i64 0,.int .i64 0,.int .i64 0,.int .i64 0,.int .i64 0,.int .i64 0,.int .i64 0,.int .i64 0,.int .i64 0,.int .i64 0,.int .i64 0,.int .i64 0,.int .i64 0,.int .i64 0,.int .i64 0,.int .i64 0,.int .i64 0,.int .i64 0,.int .i64 0,.int .i64 0,.int .i64 0,.int .i64 0,.int .i64 0,.int .i64 0,.int .i64 0,.int .i64 0,.int .i64 0,.int .i64 0,.int .i64 0,.int .i64 0,.int .i64 0,.int .i64 0,.int .i64 0,.int .i64 0,.int .i64 0,.int .i64 0,.int .i64 0,.int .i64 0,.int .i64 0,.int .i64 0,.int .i64 0,.int .i64 0,.int .i64 0,.int .i64 0,.int .i64 0,.int .i64 0,.int .i64 0,.int .i64 0,.int .i64 0,.int .i64 0,.int .i64 0,.int .i64 0,.int .i64 0,.int .i64 0,.int .i64 0,.int .i64 0,.int .i64 0,.int .i64 0,.int .i64 0,.int .i64 0,.int .i64 0,.int .i64 0,.int .i64 0,.int .i64 0]:List LV)=spW 64 (encL cell []):=by kernel_rfl
theorem rdD_0 {sz:Nat} {kc cs:List LV} {a:Int} (h:rdEW sz kc cs a=0) (nd:Int):rdDW sz kc cs a nd=nd:=by
 have h':rdE sz (decC kc) (decLs cs) a=0:=h
 rw [rdDW,rdD,h']; rfl
theorem hrD_0 {sz:Nat} {kc cs:List LV} {a:Int} (h:hrE sz kc cs a=0) (nd:Int):hrD sz kc cs a nd=nd:=by
 unfold hrE at h; unfold hrD
 split
 ·rename_i c; rw [if_pos c] at h; exact rdD_0 h nd
 ·rfl
theorem da_need (sz:Nat) (most:Int) (kc cs tc:List LV) (M:Nat) (k a:Int) (q:Bool) (nd:Int) (d:Nat):daD sz kc cs tc M k a q nd=nd∨(daN sz most kc cs tc M k a q d=d∧daC sz most kc cs tc M k a q=cs):=by
 rw [daD,daN,daC]
 have hm:daK k=0∨daK k=1∨daK k=2∨daK k=3∨daK k=4∨daK k=5:=by unfold daK; split <;> (try split) <;> (try split) <;> (try split) <;> (try split) <;> simp
 rcases hm with e | e | e | e | e | e <;> rw [e] <;> try dsimp only
 ·generalize daB tc M a q=b
  by_cases c:hrE sz kc cs b=0
  ·exact .inl (hrD_0 c nd)
  ·have eM:fbM sz most kc cs b=1:=if_neg c
   exact .inr ⟨by(rw [fbN,eM]) <;> rfl,by(rw [fbC,eM]) <;> rfl⟩
 ·generalize daB tc M a q=b
  by_cases c:hrE sz kc cs b=0
  ·by_cases c2:icW (hrV sz kc cs b)=true
   ·by_cases c3:rdEW sz kc cs (heW (xwr .i64 (hrV sz kc cs b)))=0
    ·have eM:gvM sz kc cs b=4:=by rw [gvM,if_pos c,if_pos c2,if_pos c3]
     exact .inl (by rw [gvD,eM]; show rdDW _ _ _ _ _=_; rw [rdD_0 c3,hrD_0 c])
    ·have eM:gvM sz kc cs b=3:=by rw [gvM,if_pos c,if_pos c2,if_neg c3]
     exact .inr ⟨by(rw [gvN,eM]) <;> rfl,by(rw [gvC,eM]) <;> rfl⟩
   ·have eM:gvM sz kc cs b=2:=by rw [gvM,if_pos c,if_neg c2]
    exact .inl (by rw [gvD,eM]; exact hrD_0 c nd)
  ·have eM:gvM sz kc cs b=1:=if_neg c
   exact .inr ⟨by(rw [gvN,eM]) <;> rfl,by(rw [gvC,eM]) <;> rfl⟩
 ·exact .inl rfl
 ·exact .inl rfl
 ·exact .inl rfl
 ·generalize wthV a (-1) 17=s
  by_cases c0:clsW s=0
  ·have eM:alM sz kc cs s=0:=if_pos c0
   exact .inl (by(rw [alD,eM]) <;> rfl)
  by_cases c1:rdEW sz kc cs (heW (clsW s))=0
  ·by_cases c2:rdVW sz kc cs (heW (clsW s))=0
   ·have eM:alM sz kc cs s=3:=by rw [alM,if_neg c0,if_pos c1,if_pos c2]
    by_cases c3:rdEW sz kc cs 5=0
    ·exact .inl (by rw [alD,eM]; show rdDW _ _ _ _ _=_; rw [rdD_0 c3,rdD_0 c1])
    ·have e0:bmpB sz kc cs (clsW s)=false:=decide_eq_false fun z=>c3 z.1
     exact .inr ⟨by rw [alN,eM]; show bmpN _ _ _ _ _ _=_; rw [bmpN,e0]; rfl,by rw [alC,eM]; show bmpC _ _ _ _ _=_; rw [bmpC,e0]; rfl⟩
   ·have eM:alM sz kc cs s=2:=by rw [alM,if_neg c0,if_pos c1,if_neg c2]
    by_cases c3:rdVW sz kc cs (heW (clsW s)) < 2147483648
    ·by_cases c4:rdEW sz kc cs (xwr .i64 (rdVW sz kc cs (heW (clsW s))))=0
     ·exact .inl (by rw [alD,eM]; show popD _ _ _ _ _=_; rw [popD,if_pos c3,rdD_0 c4,rdD_0 c1])
     ·have e0:popB sz kc cs (rdVW sz kc cs (heW (clsW s)))=false:=decide_eq_false fun z=>c4 z.2
      exact .inr ⟨by rw [alN,eM]; show popN _ _ _ _ _ _ _=_; rw [popN,e0]; rfl,by rw [alC,eM]; show popC _ _ _ _ _ _=_; rw [popC,e0]; rfl⟩
    ·exact .inl (by rw [alD,eM]; show popD _ _ _ _ _=_; rw [popD,if_neg c3,rdD_0 c1])
  ·have eM:alM sz kc cs s=1:=by rw [alM,if_neg c0,if_neg c1]
   exact .inr ⟨by(rw [alN,eM]) <;> rfl,by(rw [alC,eM]) <;> rfl⟩
def KWs (ws:List Int) (ks:CL):Prop:=∀ x∈ks,inR x.2∧x.2=vhV ws x.1.toNat
theorem fndV_mem:∀ {p:CL} {a v:Int},fndV p a=some v→(a,v)∈p
 | [],_,_,h=>by cases h
 | c::r,a,v,h=>by
   rw [fndV] at h; split at h
   ·rename_i e; cases h; subst e; simp
   ·exact List.mem_cons_of_mem _ (fndV_mem h)
theorem KWs.know {ws:List Int} {ks:CL} (h:KWs ws ks) (hw:∀ u∈ws,inR u) {j:Nat} (h1:1≤j) (h2:j < 64):knE 64 ks (j:Int) (vhV ws j)=0∧KWs ws (knC 64 ks (j:Int) (vhV ws j))∧(knC 64 ks (j:Int) (vhV ws j)).length≤ks.length+1:=by
 have hi:inV 64 (j:Int):=⟨by omega,by omega⟩
 have hr:inR (vhV ws j):=by
  rw [vhV,List.getD_eq_getElem?_getD]
  cases e:ws[j]? with
  | none=>unfold inR; simp
  | some u=>exact hw u (List.mem_of_getElem? e)
 refine⟨?_,?_,?_⟩
 ·rw [knE,if_pos hi]
  cases hf:fndV ks (j:Int) with
  | none=>rfl
  | some w =>
    have:=(h _ (fndV_mem hf)).2
    simp only [Int.toNat_natCast] at this
    show(if w=vhV ws j then(0:Int) else 14)=0
    rw [if_pos this]
 ·unfold knC; split
  ·intro x hx
   rcases List.mem_append.1 hx with hx | hx
   ·exact h x hx
   ·simp only [List.mem_singleton] at hx; subst hx
    exact⟨hr,by simp⟩
  ·exact h
 ·unfold knC; split <;> simp
theorem rw_set {ws:List Int} (h:∀ u∈ws,inR u) {i:Nat} {y:Int} (k:inR y):∀ u∈ws.set i y,inR u:=fun u hu=>by
 rcases List.mem_or_eq_of_mem_set hu with hu | rfl
 ·exact h u hu
 ·exact k
abbrev NeS (ws:List Int):Type:={q:Nat×CL×Int // q.1≤9∧q.2.1.length≤q.1∧KWs ws q.2.1}
abbrev WsS:Type:={p:Nat×List Int // p.1≤64∧p.2.length=64∧∀ u∈p.2,inR u}
theorem frsL_len (k:Nat):(frsL k).length=k:=by simp [frsL]
theorem frs_R:∀ u∈frsL 64,inR u:=fun u hu=>by
 unfold frsL at hu
 rcases List.mem_or_eq_of_mem_set hu with hu | rfl
 ·rw [List.eq_of_mem_replicate hu]; unfold inR; omega
 ·unfold inR; omega
set_option maxHeartbeats 4000000 in
theorem needs_fun (us hs:List Int) (k a:Int) (q:Bool) (n m:Nat) (en:us.length=n) (em:hs.length=m) (hn:n≤9223372036854775807) (hm:m≤9223372036854775807) (hu:∀ y∈us,0≤y∧y≤18446744073709551615):SFun prog 5 [.slo 0 0 n 0,.slo 1 0 m 0,.agg [.int .i64 k,.int .i64 a,.bool q]] (mkS [.ro (encL (cI .u64) us),.ro (encL (cI .u8) hs)]) fun l _=>l=.bool true:=by
 subst en em
 refine SFun.mono (SFun.pieces (Q:=fun l _=>l=.bool true) 125 2 neL [6] (by kernel_rfl) rfl rfl rfl ?_) fun l s' ⟨b0,h1,_⟩=>h1
 have nu:=noIds_Iu64 us; have lu:=encIu64_len us
 have nh:=noIds_Iu8 hs; have lh:=encIu8_len hs
 have n0:=noIds_Iu64 (frsL 64)
 refine SSp.to cxne_ok (n:=60) (g:=[]) 5 5 rfl (σ:=Unit) (fun _=>neT us.length hs.length 0) (fun _=>neH (encL (cI .u64) us) (encL (cI .u8) hs) (encL (cI .u64) (frsL 64)) k a q) (mkS_le (Nat.le_of_ble_eq_true rfl)) (by kernel_rfl) ?_ fun _=>?_
 ·rw [ne_a,eRow]
  exact⟨rfl,(),[.id 0,.id 1,.id 2,.id 3],by(exact zC)⟩
 try dsimp only
 refine SSp.code_to (g:=[]) 6 rfl (σ:=WsS) (fun p=>neT us.length hs.length p.1.1) (fun p=>neH (encL (cI .u64) us) (encL (cI .u8) hs) (encL (cI .u64) p.1.2) k a q) (by kernel_rfl) ?_ fun⟨⟨i0,ws⟩,_,w1,w2⟩=>?_
 ·refine SCode.loop_vc cxne_ok (n:=60) 0 (by kernel_rfl) (σ:=WsS) (fun p=>neT us.length hs.length p.1.1) (fun p=>neH (encL (cI .u64) us) (encL (cI .u8) hs) (encL (cI .u64) p.1.2) k a q) (fun p=>64 - p.1.1) (fun _=>Nat.le_of_ble_eq_true rfl) (fun⟨⟨i,ws⟩,hi,w1,w2⟩=>?_) ⟨(0,frsL 64),by simp,frsL_len 64,frs_R⟩
  dsimp only at hi w1 w2 ⊢
  have nw:=noIds_Iu64 ws; have lw:=encIu64_len ws
  rw [ne_b]
  by_cases c1:i < us.length
  ·by_cases c2:i < 64
   ·have e3:xar .add .i64 (i:Int) 1=((i+1:Nat):Int):=inc_i64 c1 (by omega)
    have hx:=hu us[i] (List.getElem_mem c1)
    have er:xar .rem .u64 us[i] 70=us[i] % 70:=by rw [xar_rem _ _ _ (by omega),Int.tmod_eq_emod_of_nonneg hx.1]
    have e2:inR (us[i] % 70):=by
     have q1:=Int.emod_nonneg us[i] (b:=70) (by omega)
     have q2:=Int.emod_lt_of_pos us[i] (b:=70) (by omega)
     unfold inR; omega
    have sE:=setE ws i (us[i] % 70) (by omega)
    have n2:=noIds_Iu64 (ws.set i (us[i] % 70))
    have L2:(ws.set i (us[i] % 70)).length=64:=by rw [List.length_set,w1]
    have gx:=encIu64_nth c1
    simp only [wd_nat,wd_ix,wd_mul,wd_add,Nat.zero_add,Nat.mul_one,gx,wd_asI,wd_isI,decide_true,cond_true,lu,lw,w1,er,sE,e3,wd_ln]
    cases hgt:xcm .gtr (xar .rem .u64 us[i] 4) 0 with
    | true =>
      simp only [hgt,cond_true]
      (refine zR ?_)
      exact⟨rfl,⟨(i+1,ws.set i (us[i] % 70)),by simp only; omega,L2,rw_set w2 e2⟩,by simp only; omega,[.id 0,.id 1,.id 2,.id 3],by(exact zC)⟩
    | false =>
      simp only [hgt,cond_false]
      (refine zR ?_)
      exact⟨rfl,⟨(i+1,ws),by simp only; omega,w1,w2⟩,by simp only; omega,[.id 0,.id 1,.id 2,.id 3],by(exact zC)⟩
   ·(refine zR ?_)
    exact⟨rfl,⟨(i,ws),hi,w1,w2⟩,[.id 0,.id 1,.id 2,.id 3],by(exact zC)⟩
  ·(refine zR ?_)
   exact⟨rfl,⟨(i,ws),hi,w1,w2⟩,[.id 0,.id 1,.id 2,.id 3],by(exact zC)⟩
 dsimp only at w1 w2 ⊢
 have nw:=noIds_Iu64 ws
 refine SSp.to cxne_ok (n:=60) (g:=[]) 1 7 rfl (σ:=Unit) (fun _=>neU hs.length 0) (fun _=>neH (encL (cI .u64) us) (encL (cI .u8) hs) (encL (cI .u64) ws) k a q) (mkS_le (Nat.le_of_ble_eq_true rfl)) (by kernel_rfl) ?_ fun _=>?_
 ·rw [ne_c]
  exact⟨rfl,(),[.id 0,.id 1,.id 2,.id 3],by(exact zC)⟩
 try dsimp only
 refine SSp.code_to (g:=[]) 8 rfl (σ:=WsS) (fun p=>neU hs.length p.1.1) (fun p=>neH (encL (cI .u64) us) (encL (cI .u8) hs) (encL (cI .u64) p.1.2) k a q) (by kernel_rfl) ?_ fun⟨⟨i1,vs⟩,_,v1,v2⟩=>?_
 ·refine SCode.loop_vc cxne_ok (n:=60) 2 (by kernel_rfl) (σ:=WsS) (fun p=>neU hs.length p.1.1) (fun p=>neH (encL (cI .u64) us) (encL (cI .u8) hs) (encL (cI .u64) p.1.2) k a q) (fun p=>64 - p.1.1) (fun _=>Nat.le_of_ble_eq_true rfl) (fun⟨⟨i,vs⟩,hi,v1,v2⟩=>?_) ⟨(0,ws),by simp,w1,w2⟩
  dsimp only at hi v1 v2 ⊢
  have nv:=noIds_Iu64 vs; have lv:=encIu64_len vs
  rw [ne_d]
  by_cases c1:i < hs.length
  ·by_cases c2:i < 14
   ·have e3:xar .add .i64 (i:Int) 1=((i+1:Nat):Int):=inc_i64 c1 (by omega)
    have gx:=encIu8_nth c1
    have sE:=setE vs i (xwr .u64 (xar .rem .u8 hs[i] 66)) (by omega)
    have n2:=noIds_Iu64 (vs.set i (xwr .u64 (xar .rem .u8 hs[i] 66)))
    have L2:(vs.set i (xwr .u64 (xar .rem .u8 hs[i] 66))).length=64:=by rw [List.length_set,v1]
    simp only [wd_nat,wd_ix,wd_mul,wd_add,Nat.zero_add,Nat.mul_one,gx,wd_asI,wd_isI,decide_true,cond_true,lh,lv,v1,sE,e3,wd_ln]
    (refine zR ?_)
    exact⟨rfl,⟨(i+1,vs.set i (xwr .u64 (xar .rem .u8 hs[i] 66))),by simp only; omega,L2,rw_set v2 (inR_w _)⟩,by simp only; omega,[.id 0,.id 1,.id 2,.id 3],by(exact zC)⟩
   ·(refine zR ?_)
    exact⟨rfl,⟨(i,vs),hi,v1,v2⟩,[.id 0,.id 1,.id 2,.id 3],by(exact zC)⟩
  ·(refine zR ?_)
   exact⟨rfl,⟨(i,vs),hi,v1,v2⟩,[.id 0,.id 1,.id 2,.id 3],by(exact zC)⟩
 dsimp only at v1 v2 ⊢
 have nv:=noIds_Iu64 vs; have lv:=encIu64_len vs
 refine SSp.to cxne_ok (n:=60) (g:=[]) 4 12 rfl (σ:=Unit) (fun _=>neV 0) (fun _=>neI (encL (cI .u64) us) (encL (cI .u8) hs) (encL (cI .u64) vs) k a q 0 (encL cell []) (spW 64 (encL cell [])) 0 1 (encLs [([],[])])) (mkS_le (Nat.le_of_ble_eq_true rfl)) (by kernel_rfl) ?_ fun _=>?_
 ·have ns:=spW_noids 64 (encL cell [])
  have ls:(spW 64 (encL cell [])).length=64 * 1:=by rw [spW_encn,encIi64_len,spL_len]
  rw [ne_e,eSpot,eNew]
  exact⟨rfl,(),[.id 0,.id 1,.id 2,.id 3,.id 8,.none,.cap 7 0 64,.id 4,.id 5,.id 6,.id 12,.none,.id 9,.id 10,.id 11],by(exact zC)⟩
 try dsimp only
 have f1:=isF_self lvF; have f2:=isF_self orF
 have g0:GL 20 0 1 (encLs [([],[])]):=⟨[([],[])],rfl,rfl,ok1,by simp [totC],by simp [totF],fun l hl=>by simp at hl; subst hl; intro x hx; cases hx⟩
 have r1:=g0.okR (by omega)
 have lc0:lcN (encLs [([],[])])=0:=by rw [lcN,decLs_enc]; rfl
 generalize hcs:encLs [([],[])]=cs at *
 refine SSp.code_to (g:=[]) 13 rfl (σ:=NeS vs) (fun p=>neV p.1.1) (fun p=>neI (encL (cI .u64) us) (encL (cI .u8) hs) (encL (cI .u64) vs) k a q p.1.2.1.length (encL cell p.1.2.1) (spW 64 (encL cell p.1.2.1)) p.1.2.2 1 cs) (by kernel_rfl) ?_ fun⟨⟨i2,ks,nd⟩,_,_,_⟩=>?_
 ·refine SCode.loop_vc cxne_ok (n:=60) 4 (by kernel_rfl) (σ:=NeS vs) (fun p=>neV p.1.1) (fun p=>neI (encL (cI .u64) us) (encL (cI .u8) hs) (encL (cI .u64) vs) k a q p.1.2.1.length (encL cell p.1.2.1) (spW 64 (encL cell p.1.2.1)) p.1.2.2 1 cs) (fun p=>9 - p.1.1) (fun _=>Nat.le_of_ble_eq_true rfl) (fun⟨⟨i,ks,nd⟩,h1,h2,h3⟩=>?_) ⟨(0,[],0),by simp,by simp,fun x hx=>by cases hx⟩
  dsimp only at h1 h2 h3 ⊢
  have nk:=noids_c ks; have nsp:=spW_noids 64 (encL cell ks)
  have o3:=okK_enc (sz:=64) (ks:=ks) ⟨by omega,by omega⟩
  have hv:vrC ks:=fun x hx=>(h3 x hx).1
  have kv:=g0.okv (sz:=64) hv
  obtain⟨h5,h6⟩:=g0.da (kc:=encL cell ks) (tc:=[]) (M:=0) (sz:=64) (by omega) (by omega) kv k a q
  have r2:=h5.okR (by omega)
  have hneed:=da_need 64 20 (encL cell ks) cs [] 0 k a q nd 1
  have xq:∀ n:Nat,xeq n n=true:=fun n=>t_eq rfl
  rw [ne_f]; simp only [ne_f_b1]
  simp only [ne_f_b1,ne_f_b2,o3,eqL_self,r1,xq,cm_self,kv,h6,f1,f2,r2,cond_true]
  by_cases c1:i < 9
  ·by_cases c2:daD 64 (encL cell ks) cs [] 0 k a q nd=nd
   ·simp only [c2]
    (refine zR ?_)
    exact⟨trivial,rfl,.bool true,[.ro _,.ro _],[.id 0,.id 1],rfl,by(exact zC)⟩
   obtain⟨eN,eC⟩:=hneed.resolve_left c2
   generalize daD 64 (encL cell ks) cs [] 0 k a q nd=D at *
   by_cases c3:D < 1
   ·(refine zR ?_)
    exact⟨trivial,rfl,.bool true,[.ro _,.ro _],[.id 0,.id 1],rfl,by(exact zC)⟩
   by_cases c4:63 < D
   ·(refine zR ?_)
    exact⟨trivial,rfl,.bool true,[.ro _,.ro _],[.id 0,.id 1],rfl,by(exact zC)⟩
   obtain⟨j,rfl⟩:∃ j:Nat,D=(j:Int):=⟨D.toNat,by omega⟩
   have gj:nthD (encL (cI .u64) vs) j=.int .u64 (vhV vs j):=by
    rw [encIu64_nth (by omega),vhV,List.getD_eq_getElem?_getD,List.getElem?_eq_getElem (by omega)]; rfl
   obtain⟨y1,y2,y3⟩:=h3.know v2 (j:=j) (by omega) (by omega)
   have z1:knEW 64 (encL cell ks) (j:Int) (vhV vs j)=0:=by rw [knEW,decC_enc]; exact y1
   have z2:knNW 64 (encL cell ks) (j:Int) (vhV vs j)=(knC 64 ks (j:Int) (vhV vs j)).length:=by rw [knNW,decC_enc]
   have z3:knCW 64 (encL cell ks) (j:Int) (vhV vs j)=encL cell (knC 64 ks (j:Int) (vhV vs j)):=by rw [knCW,decC_enc]
   have e3:xar .add .i64 (i:Int) 1=((i+1:Nat):Int):=inc_i64 c1 (by omega)
   have nk2:=noids_c (knC 64 ks (j:Int) (vhV vs j)); have nsp2:=spW_noids 64 (encL cell (knC 64 ks (j:Int) (vhV vs j)))
   simp only [eN,eC,lc0,wd_nat,wd_ix,wd_mul,wd_add,Nat.zero_add,Nat.mul_one,gj,wd_asI,wd_isI,decide_true,cond_true,z1,z2,z3,e3,wd_ln,lv,v1]
   generalize knC 64 ks (j:Int) (vhV vs j)=ks2 at *
   (refine zR ?_)
   exact⟨rfl,⟨(i+1,ks2,(j:Int)),by simp only; omega,by simp only; omega,y2⟩,by simp only; omega,[.id 0,.id 1,.id 2,.id 3,.id 4,.id 25,.id 6,.id 7,.id 16,.id 24,.id 10,.id 26,.id 12,.id 18,.id 22],by(exact zC)⟩
  ·(refine zR ?_)
   exact⟨rfl,⟨(i,ks,nd),h1,h2,h3⟩,[.id 0,.id 1,.id 2,.id 3,.id 4,.id 5,.id 6,.id 7,.id 8,.id 9,.id 10,.id 11,.id 12,.id 13,.id 14],by(exact zC)⟩
 dsimp only
 have nk:=noids_c ks; have nsp:=spW_noids 64 (encL cell ks)
 refine zE cxne_ok ?_
 rw [ne_z]
 exact⟨trivial,rfl,.bool true,[.ro _,.ro _],[.id 0,.id 1],rfl,by(exact zC)⟩
theorem aqx_agg {H:Type} {enc:TypeId×Value→H} {W:World} {cs:Array Value} {d:DataW H} {ps:List MemPlace} (h:DataW.Trod enc prog W 0 (fun _=>true) true 42 (.agg cs) d ps) :
  ∃ (k:Int) (a:Int) (q:Bool),cs=#[.int .i64 k,.int .i64 a,.bool q]∧(IntKind.i64.min≤k∧k≤IntKind.i64.max)∧(IntKind.i64.min≤a∧a≤IntKind.i64.max):=by
 obtain⟨fuel,hf⟩:=h
 obtain⟨_,_,_,_,hlen,_,_⟩:=DataW.trod_struct Go.Proofs.Try.underlying42 hf
 have hl:cs.toList.length=3:=hlen.trans (by kernel_rfl)
 have hfl:=fl_ok 8 (l:=[(0,.int .i64),(1,.int .i64),(2,.bool)]) (by kernel_rfl) hf
 obtain⟨_,e0,k,rfl,b0⟩:=hfl (0,.int .i64) (by simp)
 obtain⟨_,e1,a,rfl,b1⟩:=hfl (1,.int .i64) (by simp)
 obtain⟨_,e2,q,rfl⟩:=hfl (2,.bool) (by simp)
 refine⟨k,a,q,?_,b0,b1⟩
 have hcs:cs.toList=[.int .i64 k,.int .i64 a,.bool q]:=by
  refine List.ext_getElem? fun i=>?_
  match i with
  | 0=>exact e0
  | 1=>exact e1
  | 2=>exact e2
  | i+3=>rw [List.getElem?_eq_none (by omega),List.getElem?_eq_none (by simp)]
 cases cs; simpa using hcs
theorem needs_any {H:Type} {enc:TypeId×Value→H} {W:World} {a0 a1:Option Addr} {len0 cap0 len1 cap1:Nat} {d0 d1:DataW H} {p0 p1:List MemPlace} {cs:Array Value} {dd:DataW H} {pp:List MemPlace}
  (h0:DataW.Trod enc prog W 0 (fun _=>true) true 24 (.slice a0 len0 cap0) d0 p0) (h1:DataW.Trod enc prog W 0 (fun _=>true) true 45 (.slice a1 len1 cap1) d1 p1) (hs:DataW.Trod enc prog W 0 (fun _=>true) true 42 (.agg cs) dd pp) :
  Calls prog 5 #[.slice a0 len0 cap0,.slice a1 len1 cap1,.agg cs] W fun e W'=>e=.returned (.bool true)∧Below W.heap.size W W':=by
 obtain⟨k,a,q,rfl,_⟩:=aqx_agg hs
 obtain⟨us,e0,n0,q0,r0⟩:=row_arg (f:=cI .u64) (ok:=fun y:Int=>IntKind.u64.min≤y∧y≤IntKind.u64.max) (cI_len .u64) (by omega) Go.Proofs.Try.underlying24 (by kernel_rfl) h0 (el_int Go.Proofs.Try.underlying36)
 obtain⟨bs,e1,n1,q1,r1⟩:=row_arg (f:=cI .u8) (ok:=fun y:Int=>IntKind.u8.min≤y∧y≤IntKind.u8.max) (cI_len .u8) (by omega) Go.Proofs.Try.underlying45 (by kernel_rfl) h1 (el_int Go.Proofs.Try.underlying5)
 refine SFun.top (rows:=[(.slice a0 len0 cap0,len0,encL (cI .u64) us),(.slice a1 len1 cap1,len1,encL (cI .u8) bs)]) (g:=[]) (us:=[.slice a0 len0 cap0,.slice a1 len1 cap1,.agg #[.int .i64 k,.int .i64 a,.bool q]]) ⟨r0,r1,trivial⟩ (fun x hx=>by cases hx) (fun r h=>?_) (needs_fun us bs k a q len0 len1 e0 e1 n0 n1 (fun y hy=>q0 y hy))
 simp only [VRs,VR]
 exact⟨_,_,rfl,h 0 _ _ _ rfl,_,_,rfl,h 1 _ _ _ rfl,_,_,rfl,⟨_,rfl,_,_,rfl,rfl,_,_,rfl,rfl,_,_,rfl,rfl,rfl⟩,rfl⟩
end
end Go.Lev
