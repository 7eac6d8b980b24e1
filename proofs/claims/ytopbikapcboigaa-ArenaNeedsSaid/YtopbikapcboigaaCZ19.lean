/- chapter 11: the reference's header as a contract; trees of Free, Give, Alloc -/
import Derived.Test.YtopbikapcboigaaCZ18
import Derived.Test.YtopbikapcboigaaLc
import Derived.Test.YtopbikapcboigaaChecked
import Derived.KernelRfl
namespace Go.Lev
set_option linter.unusedSimpArgs false
set_option linter.unusedVariables false
open Go.RowKit
open Go.Proofs.Try (prog)
set_option maxRecDepth 100000
noncomputable section
def ohB (sz:Nat) (kc cs:List LV) (a m:Int):Bool:=decide (hrE sz kc cs a=0∧1≤hrV sz kc cs a - m∧hrV sz kc cs a - m≤4)
def ohE (sz:Nat) (kc cs:List LV) (a m:Int):Int:=if hrE sz kc cs a=0 then(if ohB sz kc cs a m then 0 else 2) else hrE sz kc cs a
def ohV (sz:Nat) (kc cs:List LV) (a m:Int):Int:=if ohB sz kc cs a m then hrV sz kc cs a - m else 0
def okm (m:Int):Bool:=decide (m=0∨m=8)
theorem ohd_c (sz n:Nat) (kc:List LV) (a m nd most:Int) (d:Nat) (cs:List LV) (k1:okK sz n kc=true) (k3:okR most cs d=true) (k4:okm m=true):SFun prog 74 [.ptr 0 0,.int .i64 a,.int .i64 m] (mkS (ovH sz n kc nd most d cs)) fun l t=>l=.tup [.int .i64 (ohV sz kc cs a m),.int .i64 (ohE sz kc cs a m)]∧t=mkS (ovJ sz n kc (hrD sz kc cs a nd) most d cs):=by
 refine SFun.mono (SFun.pieces (Q:=fun l b=>l=.tup [.int .i64 (ohV sz kc cs a m),.int .i64 (ohE sz kc cs a m)]∧b=ovJ sz n kc (hrD sz kc cs a nd) most d cs) 42 5 ohL [6,7] (by kernel_rfl) rfl rfl rfl ?_) fun l s' ⟨b0,⟨h1,h2⟩,h3⟩=>⟨h1,by rw [h3,h2]⟩
 have no:noIds kc=true:=okK_noids k1
 have f1:=isF_self orF
 have hs:sz≤256:=by obtain⟨ks,_,_,h⟩:=okK_iff.1 k1; exact h.s
 rw [okm,decide_eq_true_eq] at k4
 refine SSp.to cxoh_ok (n:=60) (g:=[]) 7 7 rfl (σ:={_u:Unit // hrE sz kc cs a=0}) (fun _=>ohT m (hrV sz kc cs a) 1) (fun _=>ovJ sz n kc (hrD sz kc cs a nd) most d cs) (mkS_le (Nat.le_of_ble_eq_true rfl)) (by kernel_rfl) ?_ fun⟨_,hE⟩=>?_
 ·rw [ohd_a]
  simp only [k1,k3,f1,cond_true]
  by_cases c:15≤a∧a≤(sz:Int) - 1
  ·have e0:hrB sz a=true:=decide_eq_true c
   have eA:xar .sub .i64 a 1=a - 1:=sub_i64 (by omega) (by omega)
   have eE:hrE sz kc cs a=rdEW sz kc cs (a - 1):=by rw [hrE,e0]; rfl
   have eV:hrV sz kc cs a=rdVW sz kc cs (a - 1):=by rw [hrV,e0]; rfl
   have eD:hrD sz kc cs a nd=rdDW sz kc cs (a - 1) nd:=by rw [hrD,e0]; rfl
   simp only [eA]
   by_cases c1:rdEW sz kc cs (a - 1)=0
   ·rw [eV,eD]
    (refine zR ?_)
    exact⟨rfl,⟨(),by rw [eE]; exact c1⟩,[.id 0,.id 1,.id 2,.id 3,.id 4,.id 5],by(exact zC)⟩
   ·have eO:ohE sz kc cs a m=rdEW sz kc cs (a - 1):=by rw [ohE,eE,if_neg c1]
    have eB:ohB sz kc cs a m=false:=by rw [ohB,decide_eq_false_iff_not,eE]; exact fun z=>c1 z.1
    have eW:ohV sz kc cs a m=0:=by rw [ohV,eB]; rfl
    rw [eO,eW,eD]
    (refine zR ?_)
    exact⟨trivial,rfl,_,_,[.id 0,.id 1,.id 2,.id 3,.id 4,.id 5],⟨rfl,rfl⟩,by(exact zC)⟩
  ·have e0:hrB sz a=false:=decide_eq_false c
   have eE:hrE sz kc cs a=2:=by rw [hrE,e0]; rfl
   have eD:hrD sz kc cs a nd=nd:=by rw [hrD,e0]; rfl
   have eO:ohE sz kc cs a m=2:=by rw [ohE,eE]; rfl
   have eB:ohB sz kc cs a m=false:=by rw [ohB,decide_eq_false_iff_not,eE]; exact fun z=>absurd z.1 (by omega)
   have eW:ohV sz kc cs a m=0:=by rw [ohV,eB]; rfl
   rw [eO,eW,eD]
   by_cases c1:a≤14
   ·(refine zR ?_)
    exact⟨trivial,rfl,_,_,[.id 0,.id 1,.id 2,.id 3,.id 4,.id 4],⟨rfl,rfl⟩,by(exact zC)⟩
   ·(refine zR ?_)
    exact⟨trivial,rfl,_,_,[.id 0,.id 1,.id 2,.id 3,.id 4,.id 4],⟨rfl,rfl⟩,by(exact zC)⟩
 try dsimp only
 generalize hh:hrV sz kc cs a=h
 refine SSp.code_to (g:=[]) 8 rfl (σ:={c:Int // ¬ (1≤h - m∧h - m≤4)}) (fun c=>ohT m h c.1) (fun _=>ovJ sz n kc (hrD sz kc cs a nd) most d cs) (by kernel_rfl) ?_ fun⟨c,hc⟩=>?_
 ·refine SCode.loop_vc cxoh_ok (n:=60) (n0:=5) 0 (by kernel_rfl) (σ:={c:Int // 1≤c∧c≤5∧∀ x:Int,1≤x→x < c→h - m≠x}) (fun c=>ohT m h c.1) (fun _=>ovJ sz n kc (hrD sz kc cs a nd) most d cs) (fun c=>(5 - c.1).toNat) (fun _=>Nat.le_of_ble_eq_true rfl) (fun⟨c,c1,c2,c3⟩=>?_) ⟨1,by omega,by omega,fun x h1 h2=>absurd h2 (by omega)⟩
  dsimp only
  rw [ohd_b]
  by_cases c4:c≤4
  ·have e1:xwr .u64 (xar .add .i64 c m)=c+m:=by rw [add_i64 (by omega) (by omega)]; exact wrap_u64 (by omega) (by omega)
   have e2:xar .add .i64 c 1=c+1:=add_i64 (by omega) (by omega)
   simp only [e1,e2]
   by_cases k:h=c+m
   ·have eB:ohB sz kc cs a m=true:=decide_eq_true ⟨hE,by rw [hh]; omega,by rw [hh]; omega⟩
    have eO:ohE sz kc cs a m=0:=by rw [ohE,if_pos hE,eB]; rfl
    have eW:ohV sz kc cs a m=c:=by rw [ohV,eB,if_pos rfl,hh]; omega
    rw [eO,eW]
    (refine zR ?_)
    exact⟨trivial,rfl,_,_,[.id 0,.id 1,.id 2,.id 3,.id 4,.id 5],⟨rfl,rfl⟩,by(exact zC)⟩
   ·(refine zR ?_)
    exact⟨rfl,⟨c+1,by omega,by omega,fun x h1 h2=>by
     by_cases q:x=c
     ·omega
     ·exact c3 x h1 (by omega)⟩,by simp only; omega,[.id 0,.id 1,.id 2,.id 3,.id 4,.id 5],by(exact zC)⟩
  ·have:c=5:=by omega
   subst this
   (refine zR ?_)
   exact⟨rfl,⟨5,fun z=>c3 (h - m) z.1 (by omega) rfl⟩,[.id 0,.id 1,.id 2,.id 3,.id 4,.id 5],by(exact zC)⟩
 try dsimp only
 have eB:ohB sz kc cs a m=false:=decide_eq_false fun z=>hc (by rw [← hh]; exact z.2)
 have eO:ohE sz kc cs a m=2:=by rw [ohE,if_pos hE,eB]; rfl
 have eW:ohV sz kc cs a m=0:=by rw [ohV,eB]; rfl
 refine zE cxoh_ok ?_
 rw [ohd_z,eO,eW]
 exact⟨trivial,rfl,_,_,[.id 0,.id 1,.id 2,.id 3,.id 4,.id 5],⟨rfl,rfl⟩,by(exact zC)⟩
def ohdG:Gc:=fun args s=>match args,s.g with
 | [.ptr b 0,.int .i64 a,.int .i64 m],[]=>(match s.h.get b with
   | some (.cells [.int .i64 (.ofNat sz),.slo q 0 n 0,.ptr l 0,.int .i64 nd] none)=>(match s.h.get q with
     | some (.cells kc (some 2))=>(match s.h.get l with
       | some (.cells [.int .i64 most,.slo o 0 d 0] none)=>(match s.h.get o with
         | some (.obj F_o cs e)=>(match s.h.get e with
           | some (.dead)=>cond (nodupB [b,q,l,o,e]) (match s.lay [b,q,l,o,e] [.cells [.int .i64 (.ofNat sz),.slo q 0 n 0,.ptr l 0,.int .i64 (hrD sz kc cs a nd)] none,.cells kc (some 2),.cells [.int .i64 most,.slo o 0 d 0] none,.obj orF cs s.n,.dead] [.dead] with
             | some s'=>some ([okK sz n kc,okR most cs d,okm m,isF F_o orF],.tup [.int .i64 (ohV sz kc cs a m),.int .i64 (ohE sz kc cs a m)],s')
             | none=>none) none
           | _=>none)
         | _=>none)
       | _=>none)
     | _=>none)
   | _=>none)
 | _,_=>none
theorem ohdG_ok:GOk prog 74 ohdG:=by
 intro args s bs l s' hg hb hfr
 unfold ohdG at hg
 split at hg
 ·rename_i b a m hgl
  split at hg
  ·rename_i sz q n l nd hb0
   split at hg
   ·rename_i kc hb1
    split at hg
    ·rename_i most o d hb2
     split at hg
     ·rename_i F_o cs e hb3
      split at hg
      ·rename_i  hb4
       cases hbc:nodupB [b,q,l,o,e] with
       | false=>rw [hbc] at hg; cases hg
       | true =>
         rw [hbc] at hg
         simp only [cond_true] at hg
         split at hg
         ·rename_i s1 hs1
          simp only [Option.some.injEq,Prod.mk.injEq] at hg
          obtain⟨rfl,rfl,rfl⟩:=hg
          simp only [allT_cons] at hb
          obtain⟨k1,k2,k3,k4,_⟩:=hb
          have e_o:=isF_eq k4
          subst e_o
          have no:noIds kc=true:=okK_noids k1
          refine SFun.lay (bs:=[.cells [.int .i64 (.ofNat sz),.slo 1 0 n 0,.ptr 2 0,.int .i64 nd] none,.cells kc (some 2),.cells [.int .i64 most,.slo 3 0 d 0] none,.obj orF cs 4,.dead]) (args0:=[.ptr 0 0,.int .i64 a,.int .i64 m]) (bs':=[.cells [.int .i64 (.ofNat sz),.slo 1 0 n 0,.ptr 2 0,.int .i64 (hrD sz kc cs a nd)] none,.cells kc (some 2),.cells [.int .i64 most,.slo 3 0 d 0] none,.obj orF cs 5,.dead,.dead]) (v0:=.tup [.int .i64 (ohV sz kc cs a m),.int .i64 (ohE sz kc cs a m)]) hfr hs1 (nodupB_nd hbc)
           ⟨⟨there hfr hb0,_,hb0,by first | exact lb_same rfl | exact lb_cells (lws_cons (lw_int) (lws_cons (lw_slo rfl) (lws_cons (lw_ptr rfl) (lws_cons (lw_int) lws_nil)))) (by simp),fun κ hκ=>lb_cells (lws_cons (lw_int) (lws_cons (lw_slo (hκ 1 q rfl)) (lws_cons (lw_ptr (hκ 2 l rfl)) (lws_cons (lw_int) lws_nil)))) (by simp)⟩,⟨there hfr hb1,_,hb1,lb_same (by(exact zId)),fun κ hκ=>lb_same (by(exact zId))⟩,⟨there hfr hb2,_,hb2,by first | exact lb_same rfl | exact lb_cells (lws_cons (lw_int) (lws_cons (lw_slo rfl) lws_nil)) (by simp),fun κ hκ=>lb_cells (lws_cons (lw_int) (lws_cons (lw_slo (hκ 3 o rfl)) lws_nil)) (by simp)⟩,⟨there hfr hb3,_,hb3,lb_obj rfl,fun κ hκ=>lb_obj (hκ 4 e rfl)⟩,⟨there hfr hb4,_,hb4,lb_dead,fun κ hκ=>lb_dead⟩,trivial⟩ (by(exact zTl)) ?_
           fun κ h1 h2=>⟨⟨lb_cells (lws_cons (lw_int) (lws_cons (lw_slo (h1 1 q rfl)) (lws_cons (lw_ptr (h1 2 l rfl)) (lws_cons (lw_int) lws_nil)))) (by simp),lb_same (by(exact zId)),lb_cells (lws_cons (lw_int) (lws_cons (lw_slo (h1 3 o rfl)) lws_nil)) (by simp),lb_obj (h2 0 (by simp)),lb_dead,lb_dead,trivial⟩,lw_noid rfl⟩
          rw [hgl]; exact(ohd_c sz n kc a m nd most d cs k1 k2 k3)
         ·cases hg
      ·cases hg
     ·cases hg
    ·cases hg
   ·cases hg
  ·cases hg
 ·cases hg
def cxof:Cx:=cxl [(74,ohdG),(75,wtk1G),(76,ofreeG)]
def cxog:Cx:=cxl [(74,ohdG),(75,wtk2G),(77,ordG)]
def cxoa:Cx:=cxl [(82,oclsG),(69,osizeG),(75,wtk2G),(77,ordG)]
theorem ofx (sz n:Nat) (a nd most:Int) (d:Nat) (kc cs:List LV) (K:Fk):(xfun prog cxof 60 50 [.ptr 0 0,.int .i64 a] (mkS (ovH sz n kc nd most d cs)) (vF K))=(
 ck (okK sz n kc) <|
 ck (okR most cs d) <|
 ck (okm 8) <|
 ck (isF orF orF) <|
 bif xcm .neq (ohE sz kc cs a 8) 0 then(
 K (.int .i64 (ohE sz kc cs a 8)) [sN [.int .i64 (Int.ofNat sz),.slo 1 0 n 0,.ptr 2 0,.int .i64 (hrD sz kc cs a nd)],sC kc 2,sN [.int .i64 most,.slo 3 0 d 0],some (.obj orF cs 5),sD,sD] [])
 else(
 ck (okK sz n kc) <|
 ck (okR most cs d) <|
 ck (isF orF orF) <|
 bif xcm .neq (vtEW sz most cs [.int .i64 (xar .sub .i64 a 1),.int .u64 (xwr .u64 (ohV sz kc cs a 8))]) 0 then(
 K (.int .i64 (vtEW sz most cs [.int .i64 (xar .sub .i64 a 1),.int .u64 (xwr .u64 (ohV sz kc cs a 8))])) [sN [.int .i64 (Int.ofNat sz),.slo 1 0 n 0,.ptr 2 0,.int .i64 (hrD sz kc cs a nd)],sC kc 2,sN [.int .i64 most,.slo 8 0 (vtDW sz most cs [.int .i64 (xar .sub .i64 a 1),.int .u64 (xwr .u64 (ohV sz kc cs a 8))]) 0],sD,sD,sD,sD,sC [.int .i64 (xar .sub .i64 a 1),.int .u64 (xwr .u64 (ohV sz kc cs a 8))] 2,some (.obj orF (vtCW sz most cs [.int .i64 (xar .sub .i64 a 1),.int .u64 (xwr .u64 (ohV sz kc cs a 8))]) 9),sD] [])
 else(
 ck (okR most (vtCW sz most cs [.int .i64 (xar .sub .i64 a 1),.int .u64 (xwr .u64 (ohV sz kc cs a 8))]) (vtDW sz most cs [.int .i64 (xar .sub .i64 a 1),.int .u64 (xwr .u64 (ohV sz kc cs a 8))])) <|
 ck (okF (vtCW sz most cs [.int .i64 (xar .sub .i64 a 1),.int .u64 (xwr .u64 (ohV sz kc cs a 8))])) <|
 ck (isF orF orF) <|
 K (.int .i64 0) [sN [.int .i64 (Int.ofNat sz),.slo 1 0 n 0,.ptr 2 0,.int .i64 (hrD sz kc cs a nd)],sC kc 2,sN [.int .i64 most,.slo 8 0 (lfD (vtCW sz most cs [.int .i64 (xar .sub .i64 a 1),.int .u64 (xwr .u64 (ohV sz kc cs a 8))]) a) 0],sD,sD,sD,sD,sC [.int .i64 (xar .sub .i64 a 1),.int .u64 (xwr .u64 (ohV sz kc cs a 8))] 2,some (.obj orF (lfC (vtCW sz most cs [.int .i64 (xar .sub .i64 a 1),.int .u64 (xwr .u64 (ohV sz kc cs a 8))]) a) 10),sD,sD] []))):=by kernel_rfl
theorem ogx (sz n:Nat) (a nd most:Int) (d:Nat) (kc cs:List LV) (K:Fk):(xfun prog cxog 60 51 [.ptr 0 0,.int .i64 a] (mkS (ovH sz n kc nd most d cs)) (vF K))=(
 ck (okK sz n kc) <|
 ck (okR most cs d) <|
 ck (okm 0) <|
 ck (isF orF orF) <|
 bif xcm .neq (ohE sz kc cs a 0) 0 then(
 K (.int .i64 (ohE sz kc cs a 0)) [sN [.int .i64 (Int.ofNat sz),.slo 1 0 n 0,.ptr 2 0,.int .i64 (hrD sz kc cs a nd)],sC kc 2,sN [.int .i64 most,.slo 3 0 d 0],some (.obj orF cs 5),sD,sD] [])
 else(
 ck (okK sz n kc) <|
 ck (okR most cs d) <|
 ck (isF orF orF) <|
 bif xcm .neq (rdEW sz kc cs (xar .sub .i64 (xar .add .i64 1 (ohV sz kc cs a 0)) 1)) 0 then(
 K (.int .i64 (rdEW sz kc cs (xar .sub .i64 (xar .add .i64 1 (ohV sz kc cs a 0)) 1))) [sN [.int .i64 (Int.ofNat sz),.slo 1 0 n 0,.ptr 2 0,.int .i64 (rdDW sz kc cs (xar .sub .i64 (xar .add .i64 1 (ohV sz kc cs a 0)) 1) (hrD sz kc cs a nd))],sC kc 2,sN [.int .i64 most,.slo 3 0 d 0],some (.obj orF cs 6),sD,sD,sD] [])
 else(
 ck (okK sz n kc) <|
 ck (okR most cs d) <|
 ck (isF orF orF) <|
 K (.int .i64 (vtEW sz most cs [.int .i64 a,.int .u64 (rdVW sz kc cs (xar .sub .i64 (xar .add .i64 1 (ohV sz kc cs a 0)) 1)),.int .i64 (xar .sub .i64 (xar .add .i64 1 (ohV sz kc cs a 0)) 1),.int .u64 (xwr .u64 a)])) [sN [.int .i64 (Int.ofNat sz),.slo 1 0 n 0,.ptr 2 0,.int .i64 (rdDW sz kc cs (xar .sub .i64 (xar .add .i64 1 (ohV sz kc cs a 0)) 1) (hrD sz kc cs a nd))],sC kc 2,sN [.int .i64 most,.slo 9 0 (vtDW sz most cs [.int .i64 a,.int .u64 (rdVW sz kc cs (xar .sub .i64 (xar .add .i64 1 (ohV sz kc cs a 0)) 1)),.int .i64 (xar .sub .i64 (xar .add .i64 1 (ohV sz kc cs a 0)) 1),.int .u64 (xwr .u64 a)]) 0],sD,sD,sD,sD,sD,sC [.int .i64 a,.int .u64 (rdVW sz kc cs (xar .sub .i64 (xar .add .i64 1 (ohV sz kc cs a 0)) 1)),.int .i64 (xar .sub .i64 (xar .add .i64 1 (ohV sz kc cs a 0)) 1),.int .u64 (xwr .u64 a)] 2,some (.obj orF (vtCW sz most cs [.int .i64 a,.int .u64 (rdVW sz kc cs (xar .sub .i64 (xar .add .i64 1 (ohV sz kc cs a 0)) 1)),.int .i64 (xar .sub .i64 (xar .add .i64 1 (ohV sz kc cs a 0)) 1),.int .u64 (xwr .u64 a)]) 10),sD] []))):=by kernel_rfl
abbrev oax_b1 (sz:Nat) (n:Nat) (s:Int) (nd:Int) (most:Int) (kc:List LV) (cs:List LV):List (Option LB):=[sN [.int .i64 (Int.ofNat sz),.slo 1 0 n 0,.ptr 2 0,.int .i64 (rdDW sz kc cs (xwr .i64 (rdVW sz kc cs (xar .sub .i64 (xar .add .i64 1 (clsW s)) 1))) (rdDW sz kc cs (xar .sub .i64 (xar .add .i64 1 (clsW s)) 1) nd))],sC kc 2,sN [.int .i64 most,.slo 9 0 (vtDW sz most cs [.int .i64 (xar .sub .i64 (xar .add .i64 1 (clsW s)) 1),.int .u64 (rdVW sz kc cs (xwr .i64 (rdVW sz kc cs (xar .sub .i64 (xar .add .i64 1 (clsW s)) 1)))),.int .i64 (xar .sub .i64 (xwr .i64 (rdVW sz kc cs (xar .sub .i64 (xar .add .i64 1 (clsW s)) 1))) 1),.int .u64 (xwr .u64 (xar .add .i64 (clsW s) 8))]) 0],sD,sD,sD,sD,sD,sC [.int .i64 (xar .sub .i64 (xar .add .i64 1 (clsW s)) 1),.int .u64 (rdVW sz kc cs (xwr .i64 (rdVW sz kc cs (xar .sub .i64 (xar .add .i64 1 (clsW s)) 1)))),.int .i64 (xar .sub .i64 (xwr .i64 (rdVW sz kc cs (xar .sub .i64 (xar .add .i64 1 (clsW s)) 1))) 1),.int .u64 (xwr .u64 (xar .add .i64 (clsW s) 8))] 2,some (.obj orF (vtCW sz most cs [.int .i64 (xar .sub .i64 (xar .add .i64 1 (clsW s)) 1),.int .u64 (rdVW sz kc cs (xwr .i64 (rdVW sz kc cs (xar .sub .i64 (xar .add .i64 1 (clsW s)) 1)))),.int .i64 (xar .sub .i64 (xwr .i64 (rdVW sz kc cs (xar .sub .i64 (xar .add .i64 1 (clsW s)) 1))) 1),.int .u64 (xwr .u64 (xar .add .i64 (clsW s) 8))]) 10),sD]
abbrev oax_b2 (sz:Nat) (n:Nat) (s:Int) (nd:Int) (most:Int) (kc:List LV) (cs:List LV):List (Option LB):=[sN [.int .i64 (Int.ofNat sz),.slo 1 0 n 0,.ptr 2 0,.int .i64 (rdDW sz kc cs 5 (rdDW sz kc cs (xar .sub .i64 (xar .add .i64 1 (clsW s)) 1) nd))],sC kc 2,sN [.int .i64 most,.slo 9 0 (vtDW sz most cs [.int .i64 5,.int .u64 (xwr .u64 (xar .add .i64 (xar .add .i64 (xwr .i64 (rdVW sz kc cs 5)) 1) (szW (clsW s)))),.int .i64 (xwr .i64 (rdVW sz kc cs 5)),.int .u64 (xwr .u64 (xar .add .i64 (clsW s) 8))]) 0],sD,sD,sD,sD,sD,sC [.int .i64 5,.int .u64 (xwr .u64 (xar .add .i64 (xar .add .i64 (xwr .i64 (rdVW sz kc cs 5)) 1) (szW (clsW s)))),.int .i64 (xwr .i64 (rdVW sz kc cs 5)),.int .u64 (xwr .u64 (xar .add .i64 (clsW s) 8))] 2,some (.obj orF (vtCW sz most cs [.int .i64 5,.int .u64 (xwr .u64 (xar .add .i64 (xar .add .i64 (xwr .i64 (rdVW sz kc cs 5)) 1) (szW (clsW s)))),.int .i64 (xwr .i64 (rdVW sz kc cs 5)),.int .u64 (xwr .u64 (xar .add .i64 (clsW s) 8))]) 10),sD]
abbrev oax_b3 (sz:Nat) (n:Nat) (s:Int) (nd:Int) (most:Int) (kc:List LV) (cs:List LV):List (Option LB):=[sN [.int .i64 (Int.ofNat sz),.slo 1 0 n 0,.ptr 2 0,.int .i64 (rdDW sz kc cs (-1) (rdDW sz kc cs (xar .sub .i64 (xar .add .i64 1 (clsW s)) 1) nd))],sC kc 2,sN [.int .i64 most,.slo 9 0 (vtDW sz most cs [.int .i64 (xar .sub .i64 (xar .add .i64 1 (clsW s)) 1),.int .u64 (rdVW sz kc cs (-1)),.int .i64 (-2),.int .u64 (xwr .u64 (xar .add .i64 (clsW s) 8))]) 0],sD,sD,sD,sD,sD,sC [.int .i64 (xar .sub .i64 (xar .add .i64 1 (clsW s)) 1),.int .u64 (rdVW sz kc cs (-1)),.int .i64 (-2),.int .u64 (xwr .u64 (xar .add .i64 (clsW s) 8))] 2,some (.obj orF (vtCW sz most cs [.int .i64 (xar .sub .i64 (xar .add .i64 1 (clsW s)) 1),.int .u64 (rdVW sz kc cs (-1)),.int .i64 (-2),.int .u64 (xwr .u64 (xar .add .i64 (clsW s) 8))]) 10),sD]
abbrev oax_b4 (sz:Nat) (n:Nat) (s:Int) (nd:Int) (most:Int) (d:Nat) (kc:List LV) (cs:List LV):List (Option LB):=[sN [.int .i64 (Int.ofNat sz),.slo 1 0 n 0,.ptr 2 0,.int .i64 (rdDW sz kc cs 5 (rdDW sz kc cs (xar .sub .i64 (xar .add .i64 1 (clsW s)) 1) nd))],sC kc 2,sN [.int .i64 most,.slo 3 0 d 0],some (.obj orF cs 6),sD,sD,sD]
theorem oax (sz n:Nat) (s nd most:Int) (d:Nat) (kc cs:List LV) (K:Fk):(xfun prog cxoa 60 58 [.ptr 0 0,.int .i64 s] (mkS (ovH sz n kc nd most d cs)) (vF K))=(
 bif xcm .eql (clsW s) 0 then(
 K (.tup [.int .i64 0,.int .i64 3]) [sN [.int .i64 ↑sz,.slo 1 0 n 0,.ptr 2 0,.int .i64 nd],sC kc 2,sN [.int .i64 most,.slo 3 0 d 0],some (.obj orF cs 4),sD] [])
 else(
 ck (okK sz n kc) <|
 ck (okR most cs d) <|
 ck (isF orF orF) <|
 bif xcm .neq (rdEW sz kc cs (xar .sub .i64 (xar .add .i64 1 (clsW s)) 1)) 0 then(
 K (.tup [.int .i64 0,.int .i64 (rdEW sz kc cs (xar .sub .i64 (xar .add .i64 1 (clsW s)) 1))]) [sN [.int .i64 (Int.ofNat sz),.slo 1 0 n 0,.ptr 2 0,.int .i64 (rdDW sz kc cs (xar .sub .i64 (xar .add .i64 1 (clsW s)) 1) nd)],sC kc 2,sN [.int .i64 most,.slo 3 0 d 0],some (.obj orF cs 5),sD,sD] [])
 else(
 bif xcm .neq (rdVW sz kc cs (xar .sub .i64 (xar .add .i64 1 (clsW s)) 1)) 0 then(
 bif xcm .geq (rdVW sz kc cs (xar .sub .i64 (xar .add .i64 1 (clsW s)) 1)) 2147483648 then(
 ck (okK sz n kc) <|
 ck (okR most cs d) <|
 ck (isF orF orF) <|
 bif xcm .neq (rdEW sz kc cs (-1)) 0 then(
 K (.tup [.int .i64 0,.int .i64 (rdEW sz kc cs (-1))]) [sN [.int .i64 (Int.ofNat sz),.slo 1 0 n 0,.ptr 2 0,.int .i64 (rdDW sz kc cs (-1) (rdDW sz kc cs (xar .sub .i64 (xar .add .i64 1 (clsW s)) 1) nd))],sC kc 2,sN [.int .i64 most,.slo 3 0 d 0],some (.obj orF cs 6),sD,sD,sD] [])
 else(
 ck (okK sz n kc) <|
 ck (okR most cs d) <|
 ck (isF orF orF) <|
 bif xcm .neq (vtEW sz most cs [.int .i64 (xar .sub .i64 (xar .add .i64 1 (clsW s)) 1),.int .u64 (rdVW sz kc cs (-1)),.int .i64 (-2),.int .u64 (xwr .u64 (xar .add .i64 (clsW s) 8))]) 0 then(
 K (.tup [.int .i64 0,.int .i64 (vtEW sz most cs [.int .i64 (xar .sub .i64 (xar .add .i64 1 (clsW s)) 1),.int .u64 (rdVW sz kc cs (-1)),.int .i64 (-2),.int .u64 (xwr .u64 (xar .add .i64 (clsW s) 8))])]) (oax_b3 sz n s nd most kc cs) [])
 else(
 K (.tup [.int .i64 (-1),.int .i64 0]) (oax_b3 sz n s nd most kc cs) [])))
 else(
 ck (okK sz n kc) <|
 ck (okR most cs d) <|
 ck (isF orF orF) <|
 bif xcm .neq (rdEW sz kc cs (xwr .i64 (rdVW sz kc cs (xar .sub .i64 (xar .add .i64 1 (clsW s)) 1)))) 0 then(
 K (.tup [.int .i64 0,.int .i64 (rdEW sz kc cs (xwr .i64 (rdVW sz kc cs (xar .sub .i64 (xar .add .i64 1 (clsW s)) 1))))]) [sN [.int .i64 (Int.ofNat sz),.slo 1 0 n 0,.ptr 2 0,.int .i64 (rdDW sz kc cs (xwr .i64 (rdVW sz kc cs (xar .sub .i64 (xar .add .i64 1 (clsW s)) 1))) (rdDW sz kc cs (xar .sub .i64 (xar .add .i64 1 (clsW s)) 1) nd))],sC kc 2,sN [.int .i64 most,.slo 3 0 d 0],some (.obj orF cs 6),sD,sD,sD] [])
 else(
 ck (okK sz n kc) <|
 ck (okR most cs d) <|
 ck (isF orF orF) <|
 bif xcm .neq (vtEW sz most cs [.int .i64 (xar .sub .i64 (xar .add .i64 1 (clsW s)) 1),.int .u64 (rdVW sz kc cs (xwr .i64 (rdVW sz kc cs (xar .sub .i64 (xar .add .i64 1 (clsW s)) 1)))),.int .i64 (xar .sub .i64 (xwr .i64 (rdVW sz kc cs (xar .sub .i64 (xar .add .i64 1 (clsW s)) 1))) 1),.int .u64 (xwr .u64 (xar .add .i64 (clsW s) 8))]) 0 then(
 K (.tup [.int .i64 0,.int .i64 (vtEW sz most cs [.int .i64 (xar .sub .i64 (xar .add .i64 1 (clsW s)) 1),.int .u64 (rdVW sz kc cs (xwr .i64 (rdVW sz kc cs (xar .sub .i64 (xar .add .i64 1 (clsW s)) 1)))),.int .i64 (xar .sub .i64 (xwr .i64 (rdVW sz kc cs (xar .sub .i64 (xar .add .i64 1 (clsW s)) 1))) 1),.int .u64 (xwr .u64 (xar .add .i64 (clsW s) 8))])]) (oax_b1 sz n s nd most kc cs) [])
 else(
 K (.tup [.int .i64 (xwr .i64 (rdVW sz kc cs (xar .sub .i64 (xar .add .i64 1 (clsW s)) 1))),.int .i64 0]) (oax_b1 sz n s nd most kc cs) []))))
 else(
 ck (okK sz n kc) <|
 ck (okR most cs d) <|
 ck (isF orF orF) <|
 bif xcm .neq (rdEW sz kc cs 5) 0 then(
 K (.tup [.int .i64 0,.int .i64 (rdEW sz kc cs 5)]) (oax_b4 sz n s nd most d kc cs) [])
 else(
 bif xcm .geq (rdVW sz kc cs 5) 2147483648 then(
 K (.tup [.int .i64 0,.int .i64 4]) (oax_b4 sz n s nd most d kc cs) [])
 else(
 bif xcm .lss (xwr .i64 (rdVW sz kc cs 5)) 14 then(
 K (.tup [.int .i64 0,.int .i64 4]) (oax_b4 sz n s nd most d kc cs) [])
 else(
 ck (xcm .eql (Int.ofNat sz) (Int.ofNat sz)) <|
 ck (xcm .eql (Int.ofNat sz) (Int.ofNat sz)) <|
 bif xcm .gtr (xar .add .i64 (xar .add .i64 (xwr .i64 (rdVW sz kc cs 5)) 1) (szW (clsW s))) (Int.ofNat sz) then(
 K (.tup [.int .i64 0,.int .i64 4]) (oax_b4 sz n s nd most d kc cs) [])
 else(
 ck (okK sz n kc) <|
 ck (okR most cs d) <|
 ck (isF orF orF) <|
 bif xcm .neq (vtEW sz most cs [.int .i64 5,.int .u64 (xwr .u64 (xar .add .i64 (xar .add .i64 (xwr .i64 (rdVW sz kc cs 5)) 1) (szW (clsW s)))),.int .i64 (xwr .i64 (rdVW sz kc cs 5)),.int .u64 (xwr .u64 (xar .add .i64 (clsW s) 8))]) 0 then(
 K (.tup [.int .i64 0,.int .i64 (vtEW sz most cs [.int .i64 5,.int .u64 (xwr .u64 (xar .add .i64 (xar .add .i64 (xwr .i64 (rdVW sz kc cs 5)) 1) (szW (clsW s)))),.int .i64 (xwr .i64 (rdVW sz kc cs 5)),.int .u64 (xwr .u64 (xar .add .i64 (clsW s) 8))])]) (oax_b2 sz n s nd most kc cs) [])
 else(
 K (.tup [.int .i64 (xar .add .i64 (xwr .i64 (rdVW sz kc cs 5)) 1),.int .i64 0]) (oax_b2 sz n s nd most kc cs) []))))))))):=by kernel_rfl
end
end Go.Lev
