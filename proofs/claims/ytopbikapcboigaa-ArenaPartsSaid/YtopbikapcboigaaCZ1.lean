/- chapter 11: an arena over a view: its small functions as contracts; trees of header, pop, bump -/
import Derived.Test.YtopbikapcboigaaCV5
import Derived.Test.YtopbikapcboigaaLc
import Derived.Test.YtopbikapcboigaaChecked
import Derived.KernelRfl
namespace Go.Lev
set_option linter.unusedSimpArgs false
set_option linter.unusedVariables false
open Go.RowKit
open Go.Proofs.Try (prog)
set_option maxRecDepth 100000
noncomputable section
def szV (c:Int):Int:=if 1≤c∧c≤4 then((2 ^ c.toNat:Nat):Int) else 0
def szW (c:Int):Int:=szV c
def icW (h:Int):Bool:=decide (1≤h∧h≤4)
def ilW (h:Int):Bool:=decide (8 < h) && decide (1≤lwrap .u64 (h - 8)∧lwrap .u64 (h - 8)≤4)
theorem sz_x (c:Int) (K:Fk):(xfun prog (fun _=>none) 40 17 [.int .i64 c] (mkS []) (vF K))=(
 bif xcm .lss c 1 then(
 K (.int .i64 0) [] [])
 else(
 bif xcm .gtr c 4 then(
 K (.int .i64 0) [] [])
 else(
 ck (xnn c) <|
 K (.int .i64 (xsh .shl .i64 1 c)) [] []))):=by kernel_rfl
theorem ic_x (h:Int) (K:Fk):(xfun prog (fun _=>none) 40 48 [.int .u64 h] (mkS []) (vF K))=(
 bif xcm .geq h 1 then(
 K (.bool (xcm .leq h 4)) [] [])
 else(
 K (.bool false) [] [])):=by kernel_rfl
theorem sizeG_f (c:Int):SFun prog 17 [.int .i64 c] (mkS []) fun l s=>l=.int .i64 (szW c)∧s=mkS []:=by
 refine SFun.mono (SFun.vc (Q:=fun l b=>l=.int .i64 (szW c)∧b=[]) noCx_ok (n:=40) 0 rfl ?_) fun l s' ⟨b0,⟨h1,h2⟩,h3⟩=>⟨h1,by rw [h3,h2]⟩
 rw [sz_x]
 by_cases h:1≤c∧c≤4
 ·have hc:c=1∨c=2∨c=3∨c=4:=by omega
  rcases hc with rfl | rfl | rfl | rfl
  ·have e:szW 1=xsh .shl .i64 1 1:=by kernel_rfl
   rw [e]; (refine zR ?_)
   exact⟨rfl,_,[],[],⟨rfl,rfl⟩,by(exact zC)⟩
  ·have e:szW 2=xsh .shl .i64 1 2:=by kernel_rfl
   rw [e]; (refine zR ?_)
   exact⟨rfl,_,[],[],⟨rfl,rfl⟩,by(exact zC)⟩
  ·have e:szW 3=xsh .shl .i64 1 3:=by kernel_rfl
   rw [e]; (refine zR ?_)
   exact⟨rfl,_,[],[],⟨rfl,rfl⟩,by(exact zC)⟩
  ·have e:szW 4=xsh .shl .i64 1 4:=by kernel_rfl
   rw [e]; (refine zR ?_)
   exact⟨rfl,_,[],[],⟨rfl,rfl⟩,by(exact zC)⟩
 ·have e:szW c=0:=if_neg h
  rw [e]
  by_cases h1:c < 1
  ·(refine zR ?_)
   exact⟨rfl,_,[],[],⟨rfl,rfl⟩,by(exact zC)⟩
  ·have h2:4 < c:=by omega
   (refine zR ?_)
   exact⟨rfl,_,[],[],⟨rfl,rfl⟩,by(exact zC)⟩
def sizeG:Gc:=fun args s=>match args,s.g with
 | [.int .i64 c],[]=>some ([],.int .i64 (szW c),s)
 | _,_=>none
theorem sizeG_ok:GOk prog 17 sizeG:=by
 intro args s bs l s' hg hb hfr
 unfold sizeG at hg
 split at hg
 ·rename_i c hgl
  simp only [Option.some.injEq,Prod.mk.injEq] at hg
  obtain⟨rfl,rfl,rfl⟩:=hg
  exact SFun.pure hfr hgl rfl rfl (sizeG_f c)
 ·cases hg
theorem isclG_f (c:Int):SFun prog 48 [.int .u64 c] (mkS []) fun l s=>l=.bool (icW c)∧s=mkS []:=by
 refine SFun.mono (SFun.vc (Q:=fun l b=>l=.bool (icW c)∧b=[]) noCx_ok (n:=40) 0 rfl ?_) fun l s' ⟨b0,⟨h1,h2⟩,h3⟩=>⟨h1,by rw [h3,h2]⟩
 rw [ic_x]
 by_cases h1:1≤c
 ·have e:icW c=xcm .leq c 4:=by rw [xcm_leq,icW]; simp [h1]
  rw [e]; (refine zR ?_)
  exact⟨rfl,_,[],[],⟨rfl,rfl⟩,by(exact zC)⟩
 ·have e:icW c=false:=by rw [icW]; simp; omega
  rw [e]; (refine zR ?_)
  exact⟨rfl,_,[],[],⟨rfl,rfl⟩,by(exact zC)⟩
def isclG:Gc:=fun args s=>match args,s.g with
 | [.int .u64 c],[]=>some ([],.bool (icW c),s)
 | _,_=>none
theorem isclG_ok:GOk prog 48 isclG:=by
 intro args s bs l s' hg hb hfr
 unfold isclG at hg
 split at hg
 ·rename_i c hgl
  simp only [Option.some.injEq,Prod.mk.injEq] at hg
  obtain⟨rfl,rfl,rfl⟩:=hg
  exact SFun.pure hfr hgl rfl rfl (isclG_f c)
 ·cases hg
def cxi:Cx:=cxl [(48,isclG)]
theorem il_x (h:Int) (K:Fk):(xfun prog cxi 40 45 [.int .u64 h] (mkS []) (vF K))=(
 bif xcm .gtr h 8 then(
 K (.bool (icW (xar .sub .u64 h 8))) [] [])
 else(
 K (.bool false) [] [])):=by kernel_rfl
theorem islvG_f (c:Int):SFun prog 45 [.int .u64 c] (mkS []) fun l s=>l=.bool (ilW c)∧s=mkS []:=by
 refine SFun.mono (SFun.vc (Q:=fun l b=>l=.bool (ilW c)∧b=[]) (cx:=cxi) (cxl_ok ⟨isclG_ok,trivial⟩) (n:=40) 0 rfl ?_) fun l s' ⟨b0,⟨h1,h2⟩,h3⟩=>⟨h1,by rw [h3,h2]⟩
 rw [il_x]
 by_cases h1:8 < c
 ·have e:ilW c=icW (xar .sub .u64 c 8):=by rw [ilW,icW,xar_sub]; simp [h1]
  rw [e]; (refine zR ?_)
  exact⟨rfl,_,[],[],⟨rfl,rfl⟩,by(exact zC)⟩
 ·have e:ilW c=false:=by rw [ilW]; simp [h1]
  rw [e]; (refine zR ?_)
  exact⟨rfl,_,[],[],⟨rfl,rfl⟩,by(exact zC)⟩
def islvG:Gc:=fun args s=>match args,s.g with
 | [.int .u64 c],[]=>some ([],.bool (ilW c),s)
 | _,_=>none
theorem islvG_ok:GOk prog 45 islvG:=by
 intro args s bs l s' hg hb hfr
 unfold islvG at hg
 split at hg
 ·rename_i c hgl
  simp only [Option.some.injEq,Prod.mk.injEq] at hg
  obtain⟨rfl,rfl,rfl⟩:=hg
  exact SFun.pure hfr hgl rfl rfl (islvG_f c)
 ·cases hg
def heW (c:Int):Int:=xar .add .i64 0 c
def liveW (c:Int):Int:=xar .add .u64 (xwr .u64 c) 8
def clsW (n:Int):Int:=if n < 1 then 0 else if n≤2 then 1 else if n≤4 then 2 else if n≤8 then 3 else if n≤16 then 4 else 0
theorem he_x (c:Int) (K:Fk):(xfun prog (fun _=>none) 40 41 [.int .i64 c] (mkS []) (vF K))=(
 K (.int .i64 (xar .add .i64 0 c)) [] []):=by kernel_rfl
theorem lv_x (c:Int) (K:Fk):(xfun prog (fun _=>none) 40 71 [.int .i64 c] (mkS []) (vF K))=(
 K (.int .u64 (xar .add .u64 (xwr .u64 c) 8)) [] []):=by kernel_rfl
theorem vs_x (sz n:Nat) (nd most:Int) (d:Nat) (kc sc cs:List LV) (K:Fk):(xfun prog (fun _=>none) 40 39 [.ptr 0 0] (mkS (vwH sz n kc sc nd most d cs)) (vF K))=(
 K (.int .i64 ↑sz) [sN [.slo 1 0 n 0,.slo 2 0 sz 0,.int .i64 nd,.ptr 3 0],sC kc 2,sC sc 1,sN [.int .i64 most,.slo 4 0 d 0],some (.obj lvF cs 5),sD] []):=by kernel_rfl
def cxc:Cx:=cxl [(17,sizeG)]
theorem cl_a (n:Int) (K:Pk):(xsp prog cxc 40 15 (seg (sp prog 16) 0 4) (tm0 [.int .i64 n]) (mkS []) (vK [0,2,3] K))=(
 bif xcm .lss n 1 then(
 K .ret [.int .i64 n,.int .i64 0,.tup []] [] [])
 else(
 K .normal [.int .i64 n,.int .i64 0,.int .i64 1] [] [])):=by kernel_rfl
theorem cl_b (n c:Int) (K:Pk):(xcode prog cxc 40 15 (loopOf (nthC (sp prog 16) 4)) (mkTm 15 [(0,.int .i64 n),(3,.int .i64 c)]) (mkS []) (vK [0,2,3] K))=(
 bif xcm .leq c 4 then(
 bif xcm .leq n (szW c) then(
 K .ret [.int .i64 n,.int .i64 c,.int .i64 c] [] [])
 else(
 K .normal [.int .i64 n,.any,.int .i64 (xar .add .i64 c 1)] [] []))
 else(
 K (.exit 0) [.int .i64 n,.any,.int .i64 c] [] [])):=by kernel_rfl
theorem cl_z (K:Pk):(xsp prog cxc 40 15 ((sp prog 16).drop 5) (mkTm 15 []) (mkS []) (vK [0,2,3] K))=(
 K .ret [.any,.int .i64 0,.any] [] []):=by kernel_rfl
theorem head_f (c:Int):SFun prog 41 [.int .i64 c] (mkS []) fun l s=>l=.int .i64 (heW c)∧s=mkS []:=by
 refine SFun.mono (SFun.vc (Q:=fun l b=>l=.int .i64 (heW c)∧b=[]) noCx_ok (n:=40) 0 rfl ?_) fun l s' ⟨b0,⟨h1,h2⟩,h3⟩=>⟨h1,by rw [h3,h2]⟩
 rw [he_x]
 exact⟨rfl,_,[],[],⟨rfl,rfl⟩,by(exact zC)⟩
theorem live_f (c:Int):SFun prog 71 [.int .i64 c] (mkS []) fun l s=>l=.int .u64 (liveW c)∧s=mkS []:=by
 refine SFun.mono (SFun.vc (Q:=fun l b=>l=.int .u64 (liveW c)∧b=[]) noCx_ok (n:=40) 0 rfl ?_) fun l s' ⟨b0,⟨h1,h2⟩,h3⟩=>⟨h1,by rw [h3,h2]⟩
 rw [lv_x]
 exact⟨rfl,_,[],[],⟨rfl,rfl⟩,by(exact zC)⟩
theorem vsz_f (sz n:Nat) (kc sc:List LV) (no:noIds kc=true) (no2:noIds sc=true) (nd most:Int) (d:Nat) (cs:List LV):SFun prog 39 [.ptr 0 0] (mkS (vwH sz n kc sc nd most d cs)) fun l s=>l=.int .i64 (sz:Int)∧s=mkS (vwH sz n kc sc nd most d cs):=by
 refine SFun.mono (SFun.vc (Q:=fun l b=>l=.int .i64 (sz:Int)∧b=vwH sz n kc sc nd most d cs) noCx_ok (n:=40) 6 rfl ?_) fun l s' ⟨b0,⟨h1,h2⟩,h3⟩=>⟨h1,by rw [h3,h2]⟩
 rw [vs_x]
 exact⟨rfl,_,_,[.id 0,.id 1,.id 2,.id 3,.id 4,.id 5],⟨rfl,rfl⟩,by(exact zC)⟩
theorem szW_1:szW 1=2:=by kernel_rfl
theorem szW_2:szW 2=4:=by kernel_rfl
theorem szW_3:szW 3=8:=by kernel_rfl
theorem szW_4:szW 4=16:=by kernel_rfl
theorem cxc_ok:CtrOk prog (ctrOf cxc):=cxl_ok ⟨sizeG_ok,trivial⟩
theorem cls_f (n:Int):SFun prog 16 [.int .i64 n] (mkS []) fun l s=>l=.int .i64 (clsW n)∧s=mkS []:=by
 refine SFun.mono (SFun.pieces (Q:=fun l b=>l=.int .i64 (clsW n)∧b=[]) 15 0 [0,2,3] [2] (by kernel_rfl) rfl rfl rfl ?_) fun l s' ⟨b0,⟨h1,h2⟩,h3⟩=>⟨h1,by rw [h3,h2]⟩
 refine SSp.to cxc_ok (n:=40) (g:=[]) 4 4 rfl (σ:={_k:Unit // 1≤n}) (fun _=>[(0,.int .i64 n),(3,.int .i64 1)]) (fun _=>[]) (Nat.zero_le _) (by kernel_rfl) ?_ fun⟨_,h1⟩=>?_
 ·rw [cl_a]
  by_cases c:n < 1
  ·have e:clsW n=0:=if_pos c
   rw [e]; (refine zR ?_)
   exact⟨trivial,rfl,_,_,[],⟨rfl,rfl⟩,by(exact zC)⟩
  ·(refine zR ?_)
   exact⟨rfl,⟨(),by omega⟩,[],by(exact zC)⟩
 refine SSp.code_to (g:=[]) 5 rfl (σ:={_k:Unit // 16 < n}) (fun _=>[]) (fun _=>[]) (by kernel_rfl) ?_ fun⟨_,h16⟩=>?_
 ·refine SCode.loop_vc cxc_ok (n:=40) (n0:=0) 0 (by kernel_rfl) (σ:={c:Int // 1≤c∧c≤5∧(1 < c→2 < n)∧(2 < c→4 < n)∧(3 < c→8 < n)∧(4 < c→16 < n)}) (fun c=>[(0,.int .i64 n),(3,.int .i64 c.1)]) (fun _=>[]) (fun c=>(5 - c.1).toNat) (fun _=>Nat.zero_le _) (fun⟨c,c1,c2,c3,c4,c5,c6⟩=>?_) ⟨1,by omega,by omega,fun h=>by omega,fun h=>by omega,fun h=>by omega,fun h=>by omega⟩
  dsimp only
  rw [cl_b]
  have hc:c=1∨c=2∨c=3∨c=4∨c=5:=by omega
  rcases hc with rfl | rfl | rfl | rfl | rfl
  ·rw [szW_1]
   by_cases k:n≤2
   ·have e:clsW n=1:=by rw [clsW,if_neg (by omega),if_pos k]
    rw [e]; (refine zR ?_)
    exact⟨trivial,rfl,_,_,[],⟨rfl,rfl⟩,by(exact zC)⟩
   ·(refine zR ?_)
    exact⟨rfl,⟨2,by omega,by omega,fun _=>by omega,fun h=>by omega,fun h=>by omega,fun h=>by omega⟩,by simp only; omega,[],by(exact zC)⟩
  ·rw [szW_2]
   by_cases k:n≤4
   ·have e:clsW n=2:=by rw [clsW,if_neg (by omega),if_neg (by omega),if_pos k]
    rw [e]; (refine zR ?_)
    exact⟨trivial,rfl,_,_,[],⟨rfl,rfl⟩,by(exact zC)⟩
   ·(refine zR ?_)
    exact⟨rfl,⟨3,by omega,by omega,fun _=>by omega,fun _=>by omega,fun h=>by omega,fun h=>by omega⟩,by simp only; omega,[],by(exact zC)⟩
  ·rw [szW_3]
   by_cases k:n≤8
   ·have e:clsW n=3:=by rw [clsW,if_neg (by omega),if_neg (by omega),if_neg (by omega),if_pos k]
    rw [e]; (refine zR ?_)
    exact⟨trivial,rfl,_,_,[],⟨rfl,rfl⟩,by(exact zC)⟩
   ·(refine zR ?_)
    exact⟨rfl,⟨4,by omega,by omega,fun _=>by omega,fun _=>by omega,fun _=>by omega,fun h=>by omega⟩,by simp only; omega,[],by(exact zC)⟩
  ·rw [szW_4]
   by_cases k:n≤16
   ·have e:clsW n=4:=by rw [clsW,if_neg (by omega),if_neg (by omega),if_neg (by omega),if_neg (by omega),if_pos k]
    rw [e]; (refine zR ?_)
    exact⟨trivial,rfl,_,_,[],⟨rfl,rfl⟩,by(exact zC)⟩
   ·(refine zR ?_)
    exact⟨rfl,⟨5,by omega,by omega,fun _=>by omega,fun _=>by omega,fun _=>by omega,fun _=>by omega⟩,by simp only; omega,[],by(exact zC)⟩
  ·(refine zR ?_)
   exact⟨rfl,⟨(),c6 (by omega)⟩,[],by(exact zC)⟩
 refine SSp.last cxc_ok (n:=40) (Nat.zero_le _) ?_
 have e:clsW n=0:=by rw [clsW,if_neg (by omega),if_neg (by omega),if_neg (by omega),if_neg (by omega),if_neg (by omega)]
 rw [cl_z,e]
 exact⟨trivial,rfl,_,_,[],⟨rfl,rfl⟩,by(exact zC)⟩
def headG:Gc:=fun args s=>match args,s.g with
 | [.int .i64 c],[]=>some ([],.int .i64 (heW c),s)
 | _,_=>none
def liveG:Gc:=fun args s=>match args,s.g with
 | [.int .i64 c],[]=>some ([],.int .u64 (liveW c),s)
 | _,_=>none
def clsG:Gc:=fun args s=>match args,s.g with
 | [.int .i64 c],[]=>some ([],.int .i64 (clsW c),s)
 | _,_=>none
theorem headG_ok:GOk prog 41 headG:=by
 intro args s bs l s' hg hb hfr
 unfold headG at hg
 split at hg
 ·rename_i c hgl
  simp only [Option.some.injEq,Prod.mk.injEq] at hg
  obtain⟨rfl,rfl,rfl⟩:=hg
  exact SFun.pure hfr hgl rfl rfl (head_f c)
 ·cases hg
theorem liveG_ok:GOk prog 71 liveG:=by
 intro args s bs l s' hg hb hfr
 unfold liveG at hg
 split at hg
 ·rename_i c hgl
  simp only [Option.some.injEq,Prod.mk.injEq] at hg
  obtain⟨rfl,rfl,rfl⟩:=hg
  exact SFun.pure hfr hgl rfl rfl (live_f c)
 ·cases hg
theorem clsG_ok:GOk prog 16 clsG:=by
 intro args s bs l s' hg hb hfr
 unfold clsG at hg
 split at hg
 ·rename_i c hgl
  simp only [Option.some.injEq,Prod.mk.injEq] at hg
  obtain⟨rfl,rfl,rfl⟩:=hg
  exact SFun.pure hfr hgl rfl rfl (cls_f c)
 ·cases hg
def vszG:Gc:=fun args s=>match args,s.g with
 | [.ptr b 0],[]=>(match s.h.get b with
   | some (.cells [.slo q 0 n 0,.slo p 0 sz 0,.int .i64 nd,.ptr l 0] none)=>(match s.h.get q with
     | some (.cells kc (some 2))=>(match s.h.get p with
       | some (.cells sc (some 1))=>(match s.h.get l with
         | some (.cells [.int .i64 most,.slo o 0 d 0] none)=>(match s.h.get o with
           | some (.obj F_o cs e)=>(match s.h.get e with
             | some (.dead)=>cond (nodupB [b,q,p,l,o,e]) (match s.lay [b,q,p,l,o,e] [.cells [.slo q 0 n 0,.slo p 0 sz 0,.int .i64 nd,.ptr l 0] none,.cells kc (some 2),.cells sc (some 1),.cells [.int .i64 most,.slo o 0 d 0] none,.obj lvF cs e,.dead] [] with
               | some s'=>some ([okK sz n kc,eqL sc (spW sz kc),isF F_o lvF],.int .i64 (.ofNat sz),s')
               | none=>none) none
             | _=>none)
           | _=>none)
         | _=>none)
       | _=>none)
     | _=>none)
   | _=>none)
 | _,_=>none
theorem vszG_ok:GOk prog 39 vszG:=by
 intro args s bs l s' hg hb hfr
 unfold vszG at hg
 split at hg
 ·rename_i b hgl
  split at hg
  ·rename_i q n p sz nd l hb0
   split at hg
   ·rename_i kc hb1
    split at hg
    ·rename_i sc hb2
     split at hg
     ·rename_i most o d hb3
      split at hg
      ·rename_i F_o cs e hb4
       split at hg
       ·rename_i  hb5
        cases hbc:nodupB [b,q,p,l,o,e] with
        | false=>rw [hbc] at hg; cases hg
        | true =>
          rw [hbc] at hg
          simp only [cond_true] at hg
          split at hg
          ·rename_i s1 hs1
           simp only [Option.some.injEq,Prod.mk.injEq] at hg
           obtain⟨rfl,rfl,rfl⟩:=hg
           simp only [allT_cons] at hb
           obtain⟨k1,k2,k3,_⟩:=hb
           have e_o:=isF_eq k3
           subst e_o
           have no:noIds kc=true:=okK_noids k1
           have no2:noIds sc=true:=by rw [eqL_eq k2]; exact spW_noids _ _
           refine SFun.lay (bs:=[.cells [.slo 1 0 n 0,.slo 2 0 sz 0,.int .i64 nd,.ptr 3 0] none,.cells kc (some 2),.cells sc (some 1),.cells [.int .i64 most,.slo 4 0 d 0] none,.obj lvF cs 5,.dead]) (args0:=[.ptr 0 0]) (bs':=[.cells [.slo 1 0 n 0,.slo 2 0 sz 0,.int .i64 nd,.ptr 3 0] none,.cells kc (some 2),.cells sc (some 1),.cells [.int .i64 most,.slo 4 0 d 0] none,.obj lvF cs 5,.dead]) (v0:=.int .i64 (.ofNat sz)) hfr hs1 (nodupB_nd hbc)
            ⟨⟨there hfr hb0,_,hb0,by first | exact lb_same rfl | exact lb_cells (lws_cons (lw_slo rfl) (lws_cons (lw_slo rfl) (lws_cons (lw_int) (lws_cons (lw_ptr rfl) lws_nil)))) (by simp),fun κ hκ=>lb_cells (lws_cons (lw_slo (hκ 1 q rfl)) (lws_cons (lw_slo (hκ 2 p rfl)) (lws_cons (lw_int) (lws_cons (lw_ptr (hκ 3 l rfl)) lws_nil)))) (by simp)⟩,⟨there hfr hb1,_,hb1,lb_same (by(exact zId)),fun κ hκ=>lb_same (by(exact zId))⟩,⟨there hfr hb2,_,hb2,lb_same (by(exact zId)),fun κ hκ=>lb_same (by(exact zId))⟩,⟨there hfr hb3,_,hb3,by first | exact lb_same rfl | exact lb_cells (lws_cons (lw_int) (lws_cons (lw_slo rfl) lws_nil)) (by simp),fun κ hκ=>lb_cells (lws_cons (lw_int) (lws_cons (lw_slo (hκ 4 o rfl)) lws_nil)) (by simp)⟩,⟨there hfr hb4,_,hb4,lb_obj rfl,fun κ hκ=>lb_obj (hκ 5 e rfl)⟩,⟨there hfr hb5,_,hb5,lb_dead,fun κ hκ=>lb_dead⟩,trivial⟩ (by(exact zTl)) ?_
            fun κ h1 h2=>⟨⟨lb_cells (lws_cons (lw_slo (h1 1 q rfl)) (lws_cons (lw_slo (h1 2 p rfl)) (lws_cons (lw_int) (lws_cons (lw_ptr (h1 3 l rfl)) lws_nil)))) (by simp),lb_same (by(exact zId)),lb_same (by(exact zId)),lb_cells (lws_cons (lw_int) (lws_cons (lw_slo (h1 4 o rfl)) lws_nil)) (by simp),lb_obj (h1 5 e rfl),lb_dead,trivial⟩,lw_int⟩
           rw [hgl]; exact(vsz_f sz n kc sc (okK_noids k1) (by rw [eqL_eq k2]; exact spW_noids _ _) nd most d cs)
          ·cases hg
       ·cases hg
      ·cases hg
     ·cases hg
    ·cases hg
   ·cases hg
  ·cases hg
 ·cases hg
def cxa:Cx:=cxl [(40,rdG),(46,vtkG),(39,vszG),(41,headG),(71,liveG),(16,clsG),(17,sizeG),(48,isclG),(45,islvG)]
abbrev hdr_x_b1 (sz:Nat) (n:Nat) (nd:Int) (most:Int) (d:Nat) (kc:List LV) (sc:List LV) (cs:List LV):List (Option LB):=[sN [.slo 1 0 n 0,.slo 2 0 sz 0,.int .i64 nd,.ptr 3 0],sC kc 2,sC sc 1,sN [.int .i64 most,.slo 4 0 d 0],some (.obj lvF cs 5),sD]
theorem hdr_x (sz n:Nat) (a nd most:Int) (d:Nat) (kc sc cs:List LV) (K:Fk):(xfun prog cxa 60 44 [.ptr 0 0,.int .i64 a] (mkS (vwH sz n kc sc nd most d cs)) (vF K))=(
 bif xcm .lss a 15 then(
 K (.tup [.int .u64 0,.int .i64 2]) (hdr_x_b1 sz n nd most d kc sc cs) [])
 else(
 ck (okK sz n kc) <|
 ck (eqL sc (spW sz kc)) <|
 ck (isF lvF lvF) <|
 bif xcm .gtr a (xar .sub .i64 (Int.ofNat sz) 1) then(
 K (.tup [.int .u64 0,.int .i64 2]) (hdr_x_b1 sz n nd most d kc sc cs) [])
 else(
 ck (okK sz n kc) <|
 ck (eqL sc (spW sz kc)) <|
 ck (okR most cs d) <|
 ck (isF lvF lvF) <|
 K (.tup [.int .u64 (rdVW sz kc cs (xar .sub .i64 a 1)),.int .i64 (rdEW sz kc cs (xar .sub .i64 a 1))]) [sN [.slo 1 0 n 0,.slo 2 0 sz 0,.int .i64 (rdDW sz kc cs (xar .sub .i64 a 1) nd),.ptr 3 0],sC kc 2,sC sc 1,sN [.int .i64 most,.slo 4 0 d 0],some (.obj lvF cs 6),sD,sD] []))):=by kernel_rfl
end
end Go.Lev
