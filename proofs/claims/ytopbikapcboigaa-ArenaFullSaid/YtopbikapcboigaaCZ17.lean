/- ArenaFull (P11.2): for any number of words, any size of block, any place the law returns true. No condition. -/
import Derived.Test.YtopbikapcboigaaCZ16
import Derived.Test.YtopbikapcboigaaLc
import Derived.Test.YtopbikapcboigaaChecked
import Derived.KernelRfl
import Derived.Test.YtopbikapcboigaaLc
namespace Go.Lev
set_option linter.unusedSimpArgs false
set_option linter.unusedVariables false
open Go.RowKit
open Go.Proofs.Try (prog)
set_option maxRecDepth 100000
noncomputable section
theorem remu8 {a m:Int} (h0:0≤a) (hm:0 < m) (hm2:m≤255):xar .rem .u8 a m=a % m:=by
 have hb:=Int.emod_nonneg a (b:=m) (by omega)
 have hc:=Int.emod_lt_of_pos a hm
 rw [xar_rem _ _ _ (by omega),Int.tmod_eq_emod_of_nonneg h0]
theorem quoN (x y:Nat) (hx:x≤1000) (hy:0 < y):xar .quo .i64 (x:Int) (y:Int)=((x / y:Nat):Int):=by
 have hd:x / y≤x:=Nat.div_le_self x y
 rw [xar_quo _ _ _ (by omega)]
 show lwrap .i64 ((x:Int).tdiv y)=_
 rw [Int.tdiv_eq_ediv_of_nonneg (by omega),show(x:Int) / (y:Int)=((x / y:Nat):Int) from rfl]
 generalize x / y=z at *
 exact wrap_i64 (by omega) (by omega)
theorem remNa (x y:Nat) (hx:x≤1000) (hy:0 < y) (hy2:y≤1000):xar .rem .i64 (x:Int) (y:Int)=((x % y:Nat):Int):=by
 rw [xar_rem _ _ _ (by omega),Int.tmod_eq_emod_of_nonneg (by omega)]; rfl
theorem cls_16 {s:Int} (h1:1≤s) (h2:s≤16):1≤clsW s∧clsW s≤4:=by
 unfold clsW; rw [if_neg (by omega)]
 split
 ·omega
 split
 ·omega
 split
 ·omega
 omega
set_option maxHeartbeats 1000000 in
theorem full_fun (w n a:Int) (bw:0≤w∧w≤255) (bn:0≤n∧n≤255) (ba:0≤a∧a≤255):SFun prog 9 [.int .u8 w,.int .u8 n,.int .u8 a] (mkS []) fun l _=>l=.bool true:=by
 refine SFun.mono (SFun.pieces (Q:=fun l _=>l=.bool true) 135 0 afL [6] (by kernel_rfl) rfl rfl rfl ?_) fun l s' ⟨b0,h1,_⟩=>h1
 have eS:xar .add .i64 (xwr .i64 (xar .rem .u8 n 16)) 1=n % 16+1:=by
  have h1:=Int.emod_nonneg n (b:=16) (by omega)
  have h2:=Int.emod_lt_of_pos n (b:=16) (by omega)
  rw [remu8 bn.1 (by omega) (by omega),wr_i64 (by omega) (by omega),add_i64 (by omega) (by omega)]
 have hS:1≤n % 16+1∧n % 16+1≤16:=by omega
 have hc:=cls_16 hS.1 hS.2
 generalize n % 16+1=S at *
 generalize hcl:clsW S=c at hc
 have ew:xwr .i64 w=w:=wr_i64 (by omega) (by omega)
 obtain⟨hs,hs2⟩:=szJ_b w
 have ez:szI w=szJ w:=rfl
 have eh:hldV w 32 256=(szJ w:Int):=by rw [hld_cl (by omega),szJ_x]
 have ef:frsC w=encL (cI .u64) (frsL (szJ w)):=rfl
 generalize szJ w=sz at *
 have hz:=szW_b hc
 obtain⟨R,hR⟩:∃ R:Nat,szW c+1=(R:Int):=⟨(szW c+1).toNat,by omega⟩
 have hR3:3≤R∧R≤17:=by omega
 have e14:xar .sub .i64 (sz:Int) 14=((sz - 14:Nat):Int):=by rw [sub_i64 (by omega) (by omega)]; omega
 have eR:xar .add .i64 (szW c) 1=(R:Int):=by rw [add_i64 (by omega) (by omega)]; exact hR
 have eF:=quoN (sz - 14) R (by omega) (by omega)
 have hF1:(sz - 14) / R * R≤sz - 14:=Nat.div_mul_le_self _ _
 have hF2:sz - 14 < (sz - 14) / R * R+R:=by
  have h1:=Nat.div_add_mod (sz - 14) R
  have h2:=Nat.mod_lt (sz - 14) (show 0 < R by omega)
  rw [Nat.mul_comm] at h1; omega
 generalize (sz - 14) / R=F at *
 have hF3:F≤256:=Nat.le_trans (Nat.le_mul_of_pos_right F (show 0 < R by omega)) (by omega)
 have nf:=noIds_Iu64 (frsL sz)
 have neR:xcm .neq (R:Int) 0=true:=t_neq (by omega)
 refine SSp.to cxF_ok (n:=60) (g:=[]) 10 10 rfl (σ:=Unit) (fun _=>afT a S F sz 0 0) (fun _=>afH (encL (cI .u64) (frsL sz)) []) (Nat.zero_le _) (by kernel_rfl) ?_ fun _=>?_
 ·rw [af_a]
  simp only [eS,hcl,ew,ez,eh,ef,e14,eR,eF,neR,cond_true]
  exact⟨rfl,(),[.id 0,.none],by(exact zC)⟩
 try dsimp only
 refine SSp.code_to (g:=[]) 11 rfl (σ:={q:List Int×List Int // FI sz R c F F q.1 q.2}) (fun q=>afT a S F sz F ((F:Int)+1)) (fun q=>afH (encL (cI .u64) q.1.1) (encL (cI .i64) q.1.2)) (by kernel_rfl) (full_loop a S c sz R F hs hs2 hcl hc hR (by omega) (by omega) (frsL sz) (FI.start hs hc)) fun⟨⟨ws,tl⟩,I⟩=>?_
 dsimp only at I ⊢
 have nw:=noIds_Iu64 ws; have nt:=noIds_Ii64 tl; have lt:=encIi64_len tl
 have hn:=I.n; have hm:=I.m
 have eq0:szQ sz=sz:=by unfold szQ szF; omega
 have ekc:vhC (encL (cI .u64) ws) sz=kW ws sz:=by rw [vhC,decIu64_enc,show szF sz=sz from eq0]
 have enc:vhN sz=(vhS ws (sz - 1)).length:=by rw [vhS_len]; show szF sz - 1=_; rw [show szF sz=sz from eq0]
 have hkc:OkK sz (vhS ws (sz - 1)):=okK_wh ws sz (sz - 1) hs2 (by omega)
 have o1:okIu64 (encL (cI .u64) ws) sz=true:=by have:=okIu64_enc (xs:=ws) (by omega); rwa [hn] at this
 have o2:xle sz 1000000=true:=t_le (by omega)
 have o3:okK sz (vhN sz) (kW ws sz)=true:=by rw [enc]; exact okK_enc hkc
 have nk:noIds (kW ws sz)=true:=noids_c _
 have ns:=spW_noids sz (kW ws sz)
 have f1:=isF_self lvF
 by_cases hF0:F=0
 ·subst hF0
  refine SSp.to cxF_ok (n:=60) (g:=[]) 6 17 rfl (σ:=Empty) (fun _=>afT2 S 0) (fun _=>[]) (Nat.zero_le _) (by kernel_rfl) ?_ fun x=>nomatch x
  rw [af_c]
  (refine zR ?_)
  exact⟨trivial,rfl,.bool true,[],[],rfl,by(exact zC)⟩
 have hFp:0 < F:=Nat.pos_of_ne_zero hF0
 obtain⟨A,rfl⟩:∃ A:Nat,a=(A:Int):=⟨a.toNat,by omega⟩
 have ea:xwr .i64 (A:Int)=(A:Int):=wr_i64 (by omega) (by omega)
 have ej:=remNa A F (by omega) hFp (by omega)
 have hj:=Nat.mod_lt A hFp
 generalize A % F=j at *
 have hlt:j * R+R≤F * R:=by
  have:(j+1) * R≤F * R:=Nat.mul_le_mul_right R hj
  rw [Nat.add_mul,Nat.one_mul] at this; exact this
 have hjR:((j * R:Nat):Int)=(j:Int) * R:=by simp
 have htl:j < tl.length:=by omega
 have eb:nthD (encL (cI .i64) tl) j=.int .i64 (15+(j:Int) * R):=by rw [encIi64_nth htl,I.t j htl]
 have hw:=I.w j hj
 have hh:=I.h
 have eG:gt ws [] (14+(j:Int) * R)=c+8:=by
  rw [gt_nil,← hw,← hjR]; rfl
 obtain⟨b,hb⟩:∃ b:Int,b=15+(j:Int) * R:=⟨_,rfl⟩
 rw [← hb] at eb
 have hb1:15≤b∧b≤(sz:Int) - 2:=by omega
 refine SSp.to cxF_ok (n:=60) (g:=[]) 6 17 rfl (σ:=Unit) (fun _=>afT2 S b) (fun _=>vwH sz (vhN sz) (kW ws sz) (spW sz (kW ws sz)) 0 9 1 (l1 [] [])) (Nat.zero_le _) (by kernel_rfl) ?_ fun _=>?_
 ·rw [af_c]
  simp only [eq0,ekc,eNew,o1,o2,ea,ej,cond_true]
  (refine zN2 @eb @lt ?_)
  (refine zR ?_)
  exact⟨rfl,(),[.id 2,.id 3,.id 4,.id 5,.id 6,.id 7],by(exact zC)⟩
 try dsimp only
 have q1:=fr_go (us:=ws) (sz:=sz) (most:=9) (p:=[]) (fr:=[]) (a:=b) (nd:=0) (h:=c+8) hs2 (show uniq [] from trivial) (fun x hx=>by cases hx) (by simp) (by simp) (by omega) ⟨hb1.1,by omega⟩ (by rw [← eG,hb]; congr 1; omega) (by omega)
 have e8:c+8 - 8=c:=by omega
 rw [e8] at q1
 have u1:uniq (pl [] (b - 1,c)):=uniq_pl (show uniq [] from trivial)
 have g1:∀ q,gt ws (pl [] (b - 1,c)) q=if b - 1=q then c else vhV ws q.toNat:=fun q=>by rw [gt_pl,gt_nil]
 have k1:inK (pl [] (b - 1,c)):=fun x hx=>by
  have:x=(b - 1,c):=by simpa [pl] using hx
  subst this; exact⟨by simp only; omega,by simp only; omega⟩
 have l1':(pl [] (b - 1,c)).length=1:=rfl
 have q2:=gv_go (us:=ws) (sz:=sz) (most:=9) (p:=pl [] (b - 1,c)) (fr:=[]++[b]) (a:=b) (nd:=0) (c:=c) hs2 hs (by rw [l1']; omega) ⟨hb1.1,by omega⟩ (by rw [g1,if_pos rfl]) hc
 have gc:gt ws (pl [] (b - 1,c)) c=0:=by rw [g1,if_neg (by omega)]; exact hh
 rw [gc] at q2
 have g2:∀ q,gt ws (pls (pl [] (b - 1,c)) [(b,0),(c,b)]) q=if c=q then b else if b=q then 0 else gt ws (pl [] (b - 1,c)) q:=fun q=>by
  show gt ws (pl (pl (pl [] (b - 1,c)) (b,0)) (c,b)) q=_
  rw [gt_pl,gt_pl]
 have u2:uniq (pls (pl [] (b - 1,c)) [(b,0),(c,b)]):=uniq_pls _ u1
 have k2:inK (pls (pl [] (b - 1,c)) [(b,0),(c,b)]):=inK_plz k1 _ fun x hx=>by
  simp only [List.mem_cons,List.not_mem_nil,or_false] at hx
  rcases hx with rfl | rfl <;> exact⟨by simp only; omega,by simp only; omega⟩
 have l2:(pls (pl [] (b - 1,c)) [(b,0),(c,b)]).length≤3:=by simpa [l1'] using pls_len [(b,0),(c,b)] (pl [] (b - 1,c))
 generalize pl [] (b - 1,c)=p1 at *
 generalize pls p1 [(b,0),(c,b)]=p2 at *
 obtain⟨r1,r2,r3,r4,r5⟩:=q1
 obtain⟨t1,t2,t3,t4⟩:=q2
 have o4:okR 9 (l1 [] []) 1=true:=okR_1 (show uniq [] from trivial) (fun x hx=>by cases hx) (by simp) (by omega) (by simp)
 have o5:okR 9 (l1 p1 ([]++[b])) 1=true:=okR_1 u1 k1 (by omega) (by omega) (by simp)
 have o6:okR 9 (l1 p2 ([]++[b])) 1=true:=okR_1 u2 k2 (by omega) (by omega) (by simp)
 refine SSp.to cxF_ok (n:=60) (g:=[]) 1 18 rfl (σ:=Unit) (fun _=>afT3 S b 0 0) (fun _=>vwH sz (vhN sz) (kW ws sz) (spW sz (kW ws sz)) 0 9 1 (l1 p2 ([]++[b]))) (mkS_le (Nat.le_of_ble_eq_true rfl)) (by kernel_rfl) ?_ fun _=>?_
 ·rw [af_d]
  simp only [o3,eqL_self,o4,f1,r1,r2,r3,r4,r5,t1,t2,t3,t4,o5,cond_true]
  exact⟨rfl,(),[.id 0,.id 1,.id 2,.id 3,.id 4,.id 7],by(exact zC)⟩
 try dsimp only
 obtain⟨v1,v2,v3,v4,v5⟩:=al_pop (us:=ws) (sz:=sz) (most:=9) (p:=p2) (fr:=[]++[b]) (s:=S) (c:=c) (nd:=0) (f:=b) hs hs2 (by omega) hcl hc (by rw [g2,if_pos rfl]) (by omega) (by omega)
 have gb:gt ws p2 b=0:=by rw [g2,if_neg (by omega),if_pos rfl]
 rw [gb] at v5
 have g3:gt ws (pls p2 [(c,0),(b - 1,c+8)]) b=0:=by
  show gt ws (pl (pl p2 (c,0)) (b - 1,c+8)) b=_
  rw [gt_pl,gt_pl,if_neg (by omega),if_neg (by omega),gb]
 have u3:uniq (pls p2 [(c,0),(b - 1,c+8)]):=uniq_pls _ u2
 have k3:inK (pls p2 [(c,0),(b - 1,c+8)]):=inK_plz k2 _ fun x hx=>by
  simp only [List.mem_cons,List.not_mem_nil,or_false] at hx
  rcases hx with rfl | rfl <;> exact⟨by simp only; omega,by simp only; omega⟩
 have l3:(pls p2 [(c,0),(b - 1,c+8)]).length≤5:=by have:=pls_len [(c,0),(b - 1,c+8)] p2; simp only [List.length_cons,List.length_nil] at this; omega
 generalize pls p2 [(c,0),(b - 1,c+8)]=p3 at *
 have o7:okR 9 (l1 p3 ([]++[b])) 1=true:=okR_1 u3 k3 (by omega) (by omega) (by simp)
 refine SSp.to cxF_ok (n:=60) (g:=[]) 1 19 rfl (σ:=Unit) (fun _=>afT4 b 0 0 b 0) (fun _=>vwH sz (vhN sz) (kW ws sz) (spW sz (kW ws sz)) 0 9 1 (l1 p3 ([]++[b]))) (mkS_le (Nat.le_of_ble_eq_true rfl)) (by kernel_rfl) ?_ fun _=>?_
 ·rw [af_e]
  simp only [o3,eqL_self,o6,f1,v1,v2,v3,v4,v5,cond_true]
  exact⟨rfl,(),[.id 0,.id 1,.id 2,.id 3,.id 4,.id 6],by(exact zC)⟩
 try dsimp only
 have e1:xar .add .i64 b 1=b+1:=add_i64 (by omega) (by omega)
 have eg:gt ws p3 (b+1 - 1)=0:=by rw [show b+1 - 1=b by omega]; exact g3
 obtain⟨y1,y2,y3,y4,y5⟩:=fr_no (us:=ws) (sz:=sz) (most:=9) (p:=p3) (fr:=[]++[b]) (a:=b+1) (nd:=0) hs2 (by rw [eg]; omega) (by rw [eg]; omega)
 refine zE cxF_ok ?_
 rw [af_z]
 simp only [e1,o3,eqL_self,o7,f1,y1,y2,y3,y4,y5,cond_true]
 (refine zR ?_)
 exact⟨trivial,rfl,.bool true,[],[],rfl,by(exact zC)⟩
theorem full_any {W:World} (w n a:Int) (bw:0≤w∧w≤255) (bn:0≤n∧n≤255) (ba:0≤a∧a≤255):Calls prog 9 #[.int .u8 w,.int .u8 n,.int .u8 a] W fun e W'=>e=.returned (.bool true)∧Below W.heap.size W W':=by
 refine SFun.top (rows:=[]) (g:=[]) (us:=[.int .u8 w,.int .u8 n,.int .u8 a]) trivial (fun x hx=>by cases hx) (fun r h=>?_) (full_fun w n a bw bn ba)
 simp only [VRs,VR]
 exact⟨_,_,rfl,rfl,_,_,rfl,rfl,_,_,rfl,rfl,rfl⟩
end
end Go.Lev
