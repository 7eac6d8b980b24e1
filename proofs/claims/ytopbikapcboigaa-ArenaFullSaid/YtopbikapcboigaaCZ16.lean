/- chapter 11: ArenaFull: the loop -/
import Derived.Test.YtopbikapcboigaaCZ15
import Derived.Test.YtopbikapcboigaaLc
import Derived.Test.YtopbikapcboigaaChecked
import Derived.KernelRfl
namespace Go.Lev
set_option linter.unusedSimpArgs false
set_option linter.unusedVariables false
open Go.RowKit
open Go.Proofs.Try (prog)
set_option maxRecDepth 100000
noncomputable section
theorem runs11:isTrue (lrun prog 4000 3 [])=true:=by kernel_rfl
theorem cxF_ok:CtrOk prog (ctrOf cxF):=cxl_ok ⟨runG_ok runs11,whO_ok,frsG_ok,heldG_ok,clsG_ok,sizeG_ok,alG_ok,frG_ok,gvG_ok,lcellsG_ok,raG_ok,trivial⟩
theorem eNew:([.tup [.agg [],.agg []]]:List LV)=l1 [] []:=rfl
structure FI (sz R:Nat) (c:Int) (F k:Nat) (ws tl:List Int):Prop where
 n:ws.length=sz
 b:vhV ws 5=14+(k:Int) * R
 h:vhV ws c.toNat=0
 m:tl.length=k
 kF:k≤F
 t:∀ j (hj:j < tl.length),tl[j]=15+(j:Int) * R
 w:∀ j:Nat,j < k→vhV ws (14+j * R)=c+8
theorem frsL_len (k:Nat):(frsL k).length=k:=by simp [frsL]
theorem frsL_get {k i:Nat} (h:5 < k):vhV (frsL k) i=if i=5 then 14 else 0:=by
 rw [vhV,frsL,List.getD_eq_getElem?_getD,List.getElem?_set]
 by_cases e:5=i
 ·subst e; rw [if_pos rfl,if_pos (by simpa using h),if_pos rfl]; rfl
 ·rw [if_neg e,if_neg (fun q=>e q.symm),List.getElem?_replicate]
  split <;> rfl
theorem FI.start {sz R:Nat} {c:Int} {F:Nat} (hs:32≤sz) (hc:1≤c∧c≤4):FI sz R c F 0 (frsL sz) [] :=
 ⟨frsL_len _,by rw [frsL_get (by omega)]; simp,by rw [frsL_get (by omega),if_neg (by omega)],rfl,Nat.zero_le _,fun j hj=>absurd hj (by simp),fun j hj=>absurd hj (by omega)⟩
theorem uq2 (a x b y:Int):uniq (pls [] [(a,x),(b,y)]):=uniq_pls _ trivial
theorem gt2 (us:List Int) (a x b y q:Int):gt us (pls [] [(a,x),(b,y)]) q=if b=q then y else if a=q then x else vhV us q.toNat:=by
 show gt us (pl (pl [] (a,x)) (b,y)) q=_
 rw [gt_pl,gt_pl,gt_nil]
theorem inK_plz {p:CL} (h:inK p):∀ (c:CL),inK c→inK (pls p c):=fun c hc x hx=>by
 have hk:∀ (l x0:CL) (a:Int),keyIn a (pls x0 l)→keyIn a x0∨keyIn a l:=fun l=>by
  induction l with
  | nil=>exact fun x0 a q=>.inl q
  | cons y r ih =>
    intro x0 a q
    rcases ih (pl x0 y) a q with q | q
    ·rcases key_pl.1 q with q | q
     ·exact .inl q
     ·exact .inr (key_cons.2 (.inl q))
    ·exact .inr (key_cons.2 (.inr q))
 rcases hk c p x.1 ⟨x,hx,rfl⟩ with⟨y,hy,e⟩ | ⟨y,hy,e⟩
 ·rw [← e]; exact h y hy
 ·rw [← e]; exact hc y hy
theorem FI.step {sz R:Nat} {c:Int} {F k:Nat} {ws tl:List Int} (I:FI sz R c F k ws tl) (hs:32≤sz) (hs2:sz≤256) (hc:1≤c∧c≤4) (hR:3≤R) (hk:k < F) (hf:14+k * R+R≤sz):FI sz R c F (k+1) (nxt ws (pls [] [(5,14+(k:Int) * R+R),(14+(k:Int) * R,c+8)])) (tl++[15+(k:Int) * R]):=by
 have L:(nxt ws (pls [] [(5,14+(k:Int) * R+R),(14+(k:Int) * R,c+8)])).length=ws.length:=nxt_len _ (by rw [I.n]; exact hs) (by rw [I.n]; exact hs2)
 have G:∀ i:Nat,i < sz→1≤i→vhV (nxt ws (pls [] [(5,14+(k:Int) * R+R),(14+(k:Int) * R,c+8)])) i=if(14+(k:Int) * R)=i then c+8 else if(5:Int)=i then 14+(k:Int) * R+R else vhV ws i:=fun i h1 h2=>by
  rw [nxt_get (by rw [I.n]; exact hs) (by rw [I.n]; exact hs2) (uq2 _ _ _ _) (by rw [I.n]; exact h1) h2,gt2,Int.toNat_natCast]
 have hkR:0≤(k:Int) * R:=Int.mul_nonneg (by omega) (by omega)
 have hkN:((k * R:Nat):Int)=(k:Int) * R:=by simp
 refine⟨by rw [L,I.n],?_,?_,by simp [I.m],hk,fun j hj=>?_,fun j hj=>?_⟩
 ·rw [G 5 (by omega) (by omega),if_neg (by omega),if_pos (show(5:Int)=((5:Nat):Int) from rfl)]
  have:((k+1:Nat):Int) * R=(k:Int) * R+R:=by rw [Int.natCast_add,Int.add_mul]; simp
  omega
 ·rw [G c.toNat (by omega) (by omega),if_neg (by omega),if_neg (by omega)]; exact I.h
 ·have hm:=I.m
  by_cases e:j < tl.length
  ·rw [List.getElem_append_left e]; exact I.t j e
  ·have:j=k:=by simp at hj; omega
   subst this
   rw [List.getElem_append_right (by omega)]; simp
 ·by_cases e:j=k
  ·subst e
   rw [G _ (by omega) (by omega),if_pos (by rw [Int.natCast_add,hkN]; rfl)]
  ·have hj':j < k:=by omega
   have hjN:((j * R:Nat):Int)=(j:Int) * R:=by simp
   have hlt:j * R+R≤k * R:=by
    have:(j+1) * R≤k * R:=Nat.mul_le_mul_right R hj'
    rw [Nat.add_mul,Nat.one_mul] at this; exact this
   rw [G _ (by omega) (by omega),if_neg (by omega),if_neg (by omega)]; exact I.w j hj'
theorem FI.stay {sz R:Nat} {c:Int} {F k:Nat} {ws tl:List Int} (I:FI sz R c F k ws tl) (hs:32≤sz) (hs2:sz≤256) (hc:1≤c∧c≤4) (hF:F * R+14≤sz) (hR:3≤R):FI sz R c F k (nxt ws []) tl:=by
 have L:(nxt ws []).length=ws.length:=nxt_len _ (by rw [I.n]; exact hs) (by rw [I.n]; exact hs2)
 have G:∀ i:Nat,i < sz→1≤i→vhV (nxt ws []) i=vhV ws i:=fun i h1 h2=>by
  rw [nxt_get (by rw [I.n]; exact hs) (by rw [I.n]; exact hs2) (show uniq [] from trivial) (by rw [I.n]; exact h1) h2,gt_nil,Int.toNat_natCast]
 refine⟨by rw [L,I.n],?_,?_,I.m,I.kF,I.t,fun j hj=>?_⟩
 ·rw [G 5 (by omega) (by omega)]; exact I.b
 ·rw [G c.toNat (by omega) (by omega)]; exact I.h
 ·have hlt:j * R+R≤F * R:=by
   have:(j+1) * R≤F * R:=Nat.mul_le_mul_right R (by have:=I.kF; omega)
   rw [Nat.add_mul,Nat.one_mul] at this; exact this
  rw [G _ (by omega) (by omega)]; exact I.w j hj
theorem I64_push (xs:List Int) (x:Int):xcat (xcut (encL (cI .i64) xs) 0 xs.length) [.int .i64 x]=encL (cI .i64) (xs++[x]):=by
 rw [xcut_all (by rw [encIi64_len]; omega),encL_append]; rfl
abbrev FS (sz R:Nat) (c:Int) (F:Nat):={q:Nat×List Int×List Int // q.1≤F+1∧FI sz R c F (min q.1 F) q.2.1 q.2.2}
theorem full_loop (a S c:Int) (sz R F:Nat) (hs:32≤sz) (hs2:sz≤256) (hS:clsW S=c) (hc:1≤c∧c≤4) (hR:szW c+1=R) (hF1:14+F * R≤sz) (hF2:sz < 14+F * R+R) (ws:List Int) (I0:FI sz R c F 0 ws []) :
  SCode prog 135 (nthC afS 10) 0 (mkTm 135 (afT a S F sz 0 0)) (mkS (afH (encL (cI .u64) ws) [])) (vK afL (toK (σ:={q:List Int×List Int // FI sz R c F F q.1 q.2}) 0 135 afL [] (fun q=>afT a S F sz F ((F:Int)+1)) (fun q=>afH (encL (cI .u64) q.1.1) (encL (cI .i64) q.1.2)) (endK 0 [6] afL [] (fun l _=>l=.bool true)))):=by
 have hRb:3≤R∧R≤17:=by have:=szW_b hc; omega
 have hF3:F≤256:=Nat.le_trans (Nat.le_mul_of_pos_right F (show 0 < R by omega)) (by omega)
 refine SCode.loop_vc cxF_ok (n:=60) 0 (by kernel_rfl) (σ:=FS sz R c F) (fun q=>afT a S F sz (min q.1.1 F) q.1.1) (fun q=>afH (encL (cI .u64) q.1.2.1) (encL (cI .i64) q.1.2.2)) (fun q=>F+1 - q.1.1) (fun _=>Nat.zero_le _) (fun⟨⟨i,ws,tl⟩,hi,I⟩=>?_) ⟨(0,ws,[]),Nat.zero_le _,by simpa using I0⟩
 dsimp only at hi I ⊢
 have nw:=noIds_Iu64 ws; have nt:=noIds_Ii64 tl; have lt:=encIi64_len tl
 have hn:=I.n; have hm:=I.m
 have eq0:szQ sz=sz:=by unfold szQ szF; omega
 have ekc:vhC (encL (cI .u64) ws) sz=kW ws sz:=by rw [vhC,decIu64_enc,show szF sz=sz from eq0]
 have enc:vhN sz=(vhS ws (sz - 1)).length:=by rw [vhS_len]; show szF sz - 1=_; rw [show szF sz=sz from eq0]
 have hkc:OkK sz (vhS ws (sz - 1)):=okK_wh ws sz (sz - 1) hs2 (by omega)
 have o1:okIu64 (encL (cI .u64) ws) sz=true:=by have:=okIu64_enc (xs:=ws) (by omega); rwa [hn] at this
 have o2:xle sz 1000000=true:=t_le (by omega)
 have o3:okK sz (vhN sz) (kW ws sz)=true:=by rw [enc]; exact okK_enc hkc
 have nk:noIds (kW ws sz)=true:=noids_c _
 have ns:=spW_noids sz (kW ws sz)
 have o4:okR 9 (l1 [] []) 1=true:=okR_1 trivial (fun x hx=>by cases hx) (by simp) (by omega) (by simp)
 have f1:=isF_self lvF
 have hkR:((min i F * R:Nat):Int)=((min i F:Nat):Int) * R:=by simp
 have hle:min i F * R≤F * R:=Nat.mul_le_mul_right R (Nat.min_le_right _ _)
 have h0:gt ws [] c=0:=by rw [gt_nil]; exact I.h
 have hP:gt ws [] 5=14+((min i F:Nat):Int) * R:=by rw [gt_nil]; exact I.b
 rw [af_b]
 simp only [eq0,ekc,eNew,o1,o2,o3,o4,eqL_self,f1,cond_true]
 by_cases c1:i≤F
 ·by_cases c2:i < F
  ·have em:min i F=i:=by omega
   rw [em] at hP hm hkR
   have hlt:i * R+R≤F * R:=by
    have:(i+1) * R≤F * R:=Nat.mul_le_mul_right R c2
    rw [Nat.add_mul,Nat.one_mul] at this; exact this
   obtain⟨r1,r2,r3,r4,r5⟩:=al_bump (us:=ws) (most:=9) (p:=[]) (fr:=[]) (s:=S) (nd:=0) hs hs2 (by simp) hS hc h0 hP (by omega) (by omega)
   have eP:14+(i:Int) * R+1+szW c=14+(i:Int) * R+R:=by omega
   rw [eP] at r5
   have J:=(em▸I).step hs hs2 hc hRb.1 c2 (by omega)
   have hp2:(pls [] [(5,14+(i:Int) * R+R),(14+(i:Int) * R,c+8)]).length≤2:=by simpa using pls_len [(5,14+(i:Int) * R+R),(14+(i:Int) * R,c+8)] []
   have hu:=uq2 5 (14+(i:Int) * R+R) (14+(i:Int) * R) (c+8)
   have hk:inK (pls [] [(5,14+(i:Int) * R+R),(14+(i:Int) * R,c+8)]):=inK_plz (fun x hx=>by cases hx) _ fun x hx=>by
    simp only [List.mem_cons,List.not_mem_nil,or_false] at hx
    rcases hx with rfl | rfl <;> exact⟨by simp only; omega,by simp only; omega⟩
   have ev:14+(i:Int) * R+1=15+(i:Int) * R:=by omega
   rw [ev] at r1
   generalize pls [] [(5,14+(i:Int) * R+R),(14+(i:Int) * R,c+8)]=p at *
   have o5:okR 9 (l1 p []) 1=true:=okR_1 hu hk (by omega) (by omega) (by simp)
   have e5:lcN (l1 p [])=p.length:=by rw [lcN,decLs_enc,cel_1 hu]
   have e6:lcC (l1 p [])=encL cell p:=by rw [lcC,decLs_enc,cel_1 hu]
   have o6:okC (encL cell p) p.length=true:=okC_enc (by omega)
   have e7:apC (encL (cI .u64) ws) (encL cell p)=encL (cI .u64) (nxt ws p):=by rw [apC,decIu64_enc,decC_enc]; rfl
   have pu:=I64_push tl (15+(i:Int) * R)
   rw [hm] at pu
   have nw2:=noIds_Iu64 (nxt ws p); have nt2:=noIds_Ii64 (tl++[15+(i:Int) * R]); have nc2:=noids_c p
   have i3:xar .add .i64 (i:Int) 1=((i+1:Nat):Int):=inc_i64 c2 (by omega)
   have em2:min (i+1) F=i+1:=by omega
   have bq1:xnot (xbq (xcm .eql 0 0) (xcm .lss (i:Int) F))=false:=by rw [t_eql rfl,t_lss (by omega)]; rfl
   have xl:xle (i+1) 1000000=true:=t_le (by omega)
   have xl2:xle (i * 1) (encL (cI .i64) tl).length=true:=t_le (by rw [lt]; omega)
   simp only [r1,r2,r3,r4,r5,o5,o6,e5,e6,e7,em,cond_true,bq1]
   (refine zN3 @pu @i3 @lt ?_)
   (refine zR ?_)
   refine⟨rfl,⟨(i+1,nxt ws p,tl++[15+(i:Int) * R]),by simp only; omega,by simp only [em2]; exact J⟩,by simp only; omega,[.id 13,.id 10],?_⟩
   simp only [em2]
   (exact zC)
  ·obtain rfl:i=F:=by omega
   have em:min i i=i:=by omega
   rw [em] at hP hm hkR
   obtain⟨r1,r2,r3,r4,r5⟩:=al_full (us:=ws) (most:=9) (p:=[]) (fr:=[]) (s:=S) (nd:=0) hs hs2 hS hc h0 hP (by omega) (by omega) (by omega)
   have J:=(em▸I).stay hs hs2 hc (by omega) hRb.1
   have e5:lcN (l1 [] [])=0:=by rw [lcN,decLs_enc]; rfl
   have e6:lcC (l1 [] [])=encL cell []:=by rw [lcC,decLs_enc]; rfl
   have o6:okC (encL cell []) 0=true:=okn
   have e7:apC (encL (cI .u64) ws) (encL cell [])=encL (cI .u64) (nxt ws []):=by rw [apC,decIu64_enc,decC_enc]; rfl
   have nw2:=noIds_Iu64 (nxt ws []); have nc2:=noids_c []
   have i3:xar .add .i64 (i:Int) 1=((i+1:Nat):Int):=by rw [add_i64 (by omega) (by omega)]; omega
   have em2:min (i+1) i=i:=by omega
   have bq1:xnot (xbq (xcm .eql 4 0) (xcm .lss (i:Int) i))=false:=by rw [f_eql (by omega),f_lss (by omega)]; rfl
   simp only [r1,r2,r3,r4,r5,o4,o6,e5,e6,e7,em,cond_true,bq1]
   (refine zN2 @i3 @lt ?_)
   (refine zR ?_)
   refine⟨rfl,⟨(i+1,nxt ws [],tl),by simp only; omega,by simp only [em2]; exact J⟩,by simp only; omega,[.id 13,.id 1],?_⟩
   simp only [em2]
   (exact zC)
 ·obtain rfl:i=F+1:=by omega
  have em:min (F+1) F=F:=by omega
  rw [em] at I
  (refine zR ?_)
  refine⟨rfl,⟨(ws,tl),I⟩,[.id 0,.id 1],?_⟩
  simp only [em]
  (exact zC)
end
end Go.Lev
