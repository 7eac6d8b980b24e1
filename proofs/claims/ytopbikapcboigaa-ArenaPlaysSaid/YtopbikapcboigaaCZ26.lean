/- ArenaPlays (P11.1 to P11.3): for any size of heap, any room and any asks the law returns true; what was there stays as it was. No condition. -/
import Derived.Test.YtopbikapcboigaaCZ25
import Derived.Test.YtopbikapcboigaaLc
import Derived.Test.YtopbikapcboigaaChecked
import Derived.KernelRfl
import Derived.Test.YtopbikapcboigaaLc
namespace Go.Lev
set_option linter.unusedSimpArgs false
set_option linter.unusedVariables false
open Go.RowKit
open Go.Proofs.Try (prog)
set_option maxRecDepth 100000
noncomputable section
structure AqR where
 k:Int
 a:Int
 q:Bool
abbrev aqE (x:AqR):List LV:=[.int .i64 x.k,.int .i64 x.a,.bool x.q]
theorem aqE_len (x:AqR):(aqE x).length=3:=rfl
theorem aq_0 {xs:List AqR} {i:Nat} (h:i < xs.length):nthD (encL aqE xs) (i * 3)=.int .i64 xs[i].k:=encL_nth aqE_len (j:=0) h (by omega)
theorem aq_1 {xs:List AqR} {i:Nat} (h:i < xs.length):nthD (encL aqE xs) (i * 3+1)=.int .i64 xs[i].a:=encL_nth aqE_len (j:=1) h (by omega)
theorem aq_2 {xs:List AqR} {i:Nat} (h:i < xs.length):nthD (encL aqE xs) (i * 3+2)=.bool xs[i].q:=encL_nth aqE_len (j:=2) h (by omega)
theorem aq_n (xs:List AqR):(encL aqE xs).length=xs.length * 3:=encL_length aqE_len xs
theorem aq_noids (xs:List AqR):noIds (encL aqE xs)=true:=noIds_encL (fun _=>rfl) xs
def aq_bd (x:AqR):Prop:=(IntKind.i64.min≤x.k∧x.k≤IntKind.i64.max)∧(IntKind.i64.min≤x.a∧x.a≤IntKind.i64.max)
theorem aq_row {H:Type} {enc:TypeId×Value→H} {W:World} {a:Option Addr} {len cap:Nat} {d:DataW H} {ps:List MemPlace} (h:DataW.Trod enc prog W 0 (fun _=>true) true 34 (.slice a len cap) d ps) :
  ∃ xs:List AqR,xs.length=len∧len≤9223372036854775807∧(∀ x∈xs,aq_bd x)∧RowArg W (.slice a len cap) len (encL aqE xs):=by
 obtain⟨xs,q1,q2,q3,q4⟩:=row_arg (f:=aqE) (ok:=aq_bd) aqE_len (by omega) Go.Proofs.Try.underlying34 (by kernel_rfl) h fun cs n x hl hx=>by
  have hf:=fl_ok 8 (l:=[(0,.int .i64),(1,.int .i64),(2,.bool)]) (by kernel_rfl) hx
  obtain⟨_,e0,z0,rfl,b0⟩:=hf (0,.int .i64) (by simp)
  obtain⟨_,e1,z1,rfl,b1⟩:=hf (1,.int .i64) (by simp)
  obtain⟨_,e2,z2,rfl⟩:=hf (2,.bool) (by simp)
  refine⟨⟨z0,z1,z2⟩,⟨b0,b1⟩,fun i l hi=>?_⟩
  match i with
  | 0=>simp at hi; subst hi; exact⟨rfl,_,e0,by simp only [VR]⟩
  | 1=>simp at hi; subst hi; exact⟨rfl,_,e1,by simp only [VR]⟩
  | 2=>simp at hi; subst hi; exact⟨rfl,_,e2,by simp only [VR]⟩
  | i+3=>simp at hi
 exact⟨xs,q1,q2,q3,q4⟩
theorem runs11:isTrue (lrun prog 4000 3 [])=true:=by kernel_rfl
theorem cxpa_ok:CtrOk prog (ctrOf cxpa):=cxl_ok ⟨runG_ok runs11,frsG_ok,ofsG_ok,sameIu64G_ok,whO_ok,xhO_ok,doaG_ok,sanG_ok,trivial⟩
theorem eNew:([.tup [.agg [],.agg []]]:List LV)=encLs [([],[])]:=rfl
theorem daR_ok {sz:Nat} {most:Int} {kc cs tc:List LV} {m:Nat} {k a:Int} (h:okIi64 tc m=true) (hm:m≤1000):okIi64 (daR sz most kc cs tc k a) (daM sz most kc cs m k a)=true∧daM sz most kc cs m k a≤m+1:=by
 unfold daR daM
 obtain⟨ts,rfl,rfl,_⟩:=okIi64_iff.1 h
 split
 ·refine⟨?_,Nat.le_refl _⟩
  rw [decIi64_enc]
  exact okIi64_iff.2 ⟨_,rfl,by simp,by omega⟩
 ·exact⟨h,Nat.le_succ _⟩
theorem frsL_len (k:Nat):(frsL k).length=k:=by simp [frsL]
theorem vrC_vh (k n:Nat):vrC (vhS (frsL k) n):=fun x hx=>by
 simp only [vhS,List.mem_map,List.mem_range] at hx
 obtain⟨j,_,rfl⟩:=hx
 show inR (vhV (frsL k) (j+1))
 rw [vhV,frsL,List.getD_eq_getElem?_getD,List.getElem?_set]
 unfold inR
 split
 ·split <;> simp
 ·rw [List.getElem?_replicate]; split <;> simp
abbrev PaS (most:Int):Type:={q:Nat×Nat×List LV×Int×Nat×List LV // q.1≤40∧q.2.1≤q.1∧okIi64 q.2.2.1 q.2.1=true∧GL most q.1 q.2.2.2.2.1 q.2.2.2.2.2}
set_option maxHeartbeats 1000000 in
theorem plays_fun (w most0:Int) (xs:List AqR) (m:Nat) (em:xs.length=m) (hm:m≤9223372036854775807):SFun prog 4 [.int .i64 w,.int .i64 most0,.slo 0 0 m 0] (mkS [.ro (encL aqE xs)]) fun l _=>l=.bool true:=by
 subst em
 refine SFun.mono (SFun.pieces (Q:=fun l _=>l=.bool true) 61 1 paL [6] (by kernel_rfl) rfl rfl rfl ?_) fun l s' ⟨b0,h1,_⟩=>h1
 have nx:=aq_noids xs; have lx:=aq_n xs
 obtain⟨hs,hs2⟩:=szJ_b w
 have e1:szI w=szJ w:=rfl
 have e2:frsC w=encL (cI .u64) (frsL (szJ w)):=rfl
 generalize szJ w=sz at *
 have hl:=frsL_len sz
 have eq0:szQ sz=sz:=by unfold szQ szF; omega
 have ekc:vhC (encL (cI .u64) (frsL sz)) sz=encL cell (vhS (frsL sz) (sz - 1)):=by rw [vhC,decIu64_enc,show szF sz=sz from eq0]
 have enc:vhN sz=(vhS (frsL sz) (sz - 1)).length:=by rw [vhS_len]; show szF sz - 1=_; rw [show szF sz=sz from eq0]
 have o1:okIu64 (encL (cI .u64) (frsL sz)) sz=true:=by have:=okIu64_enc (xs:=frsL sz) (by omega); rwa [hl] at this
 have o2:xle sz 1000000=true:=t_le (by omega)
 have hkc:OkK sz (vhS (frsL sz) (sz - 1)):=okK_wh (frsL sz) sz (sz - 1) hs2 (by omega)
 have o3:=okK_enc hkc
 rw [← enc] at o3
 have hv:=vrC_vh sz (sz - 1)
 generalize vhS (frsL sz) (sz - 1)=ks at *
 have hmost:xmn (xmx most0 0) 96≤96∧0≤xmn (xmx most0 0) 96:=by simp only [wd_mn,wd_mx]; split <;> (try split) <;> omega
 have sS:sameIu64 sz sz (encL (cI .u64) (frsL sz)) (encL (cI .u64) (frsL sz))=true:=sameIu64_self _ _
 have nf:=noIds_Iu64 (frsL sz); have nk:=noids_c ks; have nsp:=spW_noids sz (encL cell ks)
 have f1:=isF_self lvF; have f2:=isF_self orF
 have g0:GL (xmn (xmx most0 0) 96) 0 1 (encLs [([],[])]):=⟨[([],[])],rfl,rfl,ok1,by simp [totC]; omega,by simp [totF],fun l hl=>by simp at hl; subst hl; intro x hx; cases hx⟩
 generalize hmo:xmn (xmx most0 0) 96=most at *
 refine SSp.to cxpa_ok (n:=60) (g:=[]) 11 11 rfl (σ:=Unit) (fun _=>paT xs.length 0 0) (fun _=>paH (encL aqE xs) [] sz (vhN sz) (encL cell ks) (spW sz (encL cell ks)) 0 most 1 (encLs [([],[])])) (mkS_le (Nat.le_of_ble_eq_true rfl)) (by kernel_rfl) ?_ fun _=>?_
 ·rw [pa_a]
  simp only [e1,e2,o1,o2,sS,eq0,ekc,eNew,hmo,cond_true]
  (refine zR ?_)
  exact⟨rfl,(),[.id 0,.none,.id 3,.id 4,.id 5,.id 6,.id 7,.id 8,.id 9,.id 10,.id 11,.id 12,.id 13],by(exact zC)⟩
 try dsimp only
 refine SSp.code_to (g:=[]) 12 rfl (σ:=PaS most) (fun q=>paT xs.length q.1.2.1 q.1.1) (fun q=>paH (encL aqE xs) q.1.2.2.1 sz (vhN sz) (encL cell ks) (spW sz (encL cell ks)) q.1.2.2.2.1 most q.1.2.2.2.2.1 q.1.2.2.2.2.2) (by kernel_rfl) ?_ fun⟨⟨i,k,tc,nd,d,cs⟩,h1,h2,h3,h4⟩=>?_
 ·refine SCode.loop_vc cxpa_ok (n:=60) 0 (by kernel_rfl) (σ:=PaS most) (fun q=>paT xs.length q.1.2.1 q.1.1) (fun q=>paH (encL aqE xs) q.1.2.2.1 sz (vhN sz) (encL cell ks) (spW sz (encL cell ks)) q.1.2.2.2.1 most q.1.2.2.2.2.1 q.1.2.2.2.2.2) (fun q=>40 - q.1.1) (fun _=>Nat.le_of_ble_eq_true rfl) (fun⟨⟨i,k,tc,nd,d,cs⟩,h1,h2,h3,h4⟩=>?_) ⟨(0,0,[],0,1,encLs [([],[])]),by simp,by simp,okIi64_enc (xs:=[]) (by simp),g0⟩
  dsimp only at h1 h2 h3 h4 ⊢
  have nt:=Ii_no h3
  rw [pa_b]
  by_cases c1:i < xs.length
  ·by_cases c2:i < 40
   ·have e3:xar .add .i64 (i:Int) 1=((i+1:Nat):Int):=inc_i64 c1 (by omega)
    have kv:=h4.okv (sz:=sz) hv
    obtain⟨h5,h6⟩:=h4.da (kc:=encL cell ks) (tc:=tc) (M:=k) (sz:=sz) hmost.1 (by omega) kv xs[i].k xs[i].a xs[i].q
    have h7:=daR_ok (sz:=sz) (most:=most) (kc:=encL cell ks) (cs:=cs) (k:=xs[i].k) (a:=xs[i].a) h3 (by omega)
    have r1:=h4.okR hmost.1; have r2:=h5.okR hmost.1
    have nr:=Ii_no h7.1
    have xk:xle k 1000=true:=t_le (by omega)
    have xq:∀ n:Nat,xeq n n=true:=fun n=>t_eq rfl
    (refine zN5 (aq_0 c1) (aq_1 c1) (aq_2 c1) @lx @e3 ?_)
    simp only [o3,eqL_self,r1,cm_self,xq,kv,h6,h3,xk,f1,f2,r2,cond_true]
    (refine zR ?_)
    exact⟨rfl,⟨(i+1,daM sz most (encL cell ks) cs k xs[i].k xs[i].a,daR sz most (encL cell ks) cs tc xs[i].k xs[i].a,daD sz (encL cell ks) cs tc k xs[i].k xs[i].a xs[i].q nd,daN sz most (encL cell ks) cs tc k xs[i].k xs[i].a xs[i].q d,daC sz most (encL cell ks) cs tc k xs[i].k xs[i].a xs[i].q),by simp only; omega,by simp only; have:=h7.2; omega,h7.1,h5⟩,by simp only; omega,[.id 0,.id 17,.id 2,.id 3,.id 4,.id 5,.id 13,.id 18,.id 8,.id 9,.id 10,.id 15,.id 19],by(exact zC)⟩
   ·(refine zR ?_)
    exact⟨rfl,⟨(i,k,tc,nd,d,cs),h1,h2,h3,h4⟩,[.id 0,.id 1,.id 2,.id 3,.id 4,.id 5,.id 6,.id 7,.id 8,.id 9,.id 10,.id 11,.id 12],by(exact zC)⟩
  ·(refine zR ?_)
   exact⟨rfl,⟨(i,k,tc,nd,d,cs),h1,h2,h3,h4⟩,[.id 0,.id 1,.id 2,.id 3,.id 4,.id 5,.id 6,.id 7,.id 8,.id 9,.id 10,.id 11,.id 12],by(exact zC)⟩
 dsimp only at h3 ⊢
 have nt:=Ii_no h3
 refine zE cxpa_ok ?_
 rw [pa_z]
 exact⟨trivial,rfl,.bool true,[.ro _],[.id 0],rfl,by(exact zC)⟩
theorem aplays_any {H:Type} {enc:TypeId×Value→H} {W:World} {a2:Option Addr} {len2 cap2:Nat} {d2:DataW H} {p2:List MemPlace} (w most:Int)
  (h2:DataW.Trod enc prog W 0 (fun _=>true) true 34 (.slice a2 len2 cap2) d2 p2) :
  Calls prog 4 #[.int .i64 w,.int .i64 most,.slice a2 len2 cap2] W fun e W'=>e=.returned (.bool true)∧Below W.heap.size W W':=by
 obtain⟨xs,e2,n2,_,r2⟩:=aq_row h2
 refine SFun.top (rows:=[(.slice a2 len2 cap2,len2,encL aqE xs)]) (g:=[]) (us:=[.int .i64 w,.int .i64 most,.slice a2 len2 cap2]) ⟨r2,trivial⟩ (fun x hx=>by cases hx) (fun r h=>?_) (plays_fun w most xs len2 e2 n2)
 simp only [VRs,VR]
 exact⟨_,_,rfl,rfl,_,_,rfl,rfl,_,_,rfl,h 0 _ _ _ rfl,rfl⟩
end
end Go.Lev
