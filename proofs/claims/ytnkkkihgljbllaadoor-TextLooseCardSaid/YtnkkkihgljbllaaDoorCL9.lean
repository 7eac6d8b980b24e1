import Derived.Test.YtnkkkihgljbllaaDoorCBA
import Derived.Test.YtnkkkihgljbllaaDoorCL1
import Derived.Test.YtnkkkihgljbllaaDoorLc
import Derived.Test.YtnkkkihgljbllaaDoorChecked
import Derived.KernelRfl
import Derived.Test.YtnkkkihgljbllaaDoorRows
import Derived.Lib.LaidTab
/- TextLoose: the law's trees -/
namespace Go.Lev
set_option linter.unusedSimpArgs false
set_option linter.unusedVariables false
open Go.RowKit
open Go.Proofs.Tryd (prog)
set_option maxRecDepth 100000
noncomputable section
def cxBL:Cx:=cxl [(8,trG),(12,poG),(11,wrapG progG),(14,pgG),(15,wrapG saG)]
abbrev blL:List Nat:=[1,4,5,6,7,8,9]
abbrev blT (ng:Nat) (s t:List UInt8) (n i:Int):List (Nat×LV):=[(1,.slo 1 0 ng 0),(4,.bool false),(5,.ptr 2 0),(6,.str s),(7,.str t),(8,.int .i64 n),(9,.int .i64 i)]
abbrev blH (ks gs:List LV) (np:Nat) (cs:List LV):List LB:=[.ro ks,.ro gs,.cells [.slo 3 0 np 0] none,.cells cs (some 5)]
theorem bl_a (nk ng:Nat) (ks gs:List LV) (K:Pk):(xsp prog cxBL 60 87 (seg (sp prog 6) 0 8) (tm0 [.slo 0 0 nk 0,.slo 1 0 ng 0]) (mkS [.ro ks,.ro gs] gt4) (vK blL K))=(
 ck (isFt powF) <|
 ck (okKin nk ks 40) <|
 ck (isFt powF) <|
 ck (okI5 (gN ks 40 false) (gW ks 40 false)) <|
 K .normal [.slo 1 0 ng 0,.bool false,.ptr 3 0,.str (ptxW (gW ks 40 false)),.str [],.int .i64 0,.int .i64 0] [some (.ro ks),some (.ro gs),sC (gW ks 40 false) 5,sN [.slo 2 0 (gN ks 40 false) 0]] gt4):=by kernel_rfl
theorem bl_l (ng np:Nat) (s t:List UInt8) (n i:Nat) (ks gs cs:List LV) (K:Pk):(xcode prog cxBL 60 87 (loopOf (nthC (sp prog 6) 8)) (mkTm 87 (blT ng s t n i)) (mkS (blH ks gs np cs) gt4) (vK blL K))=(
 bif xcm .lss ↑i ↑(xsln s) then(
 bif xcm .lss ↑n ↑ng then(
 ck (xle (xadd (xnat ↑n) 1) ng) <|
 ck (xle (xadd (xix 0 (xnat ↑n) 1) 1) (xln gs)) <|
 ck (isI .u8 (nthD gs (xix 0 (xnat ↑n) 1))) <|
 ck (xle (xadd (xnat ↑i) 1) (xsln s)) <|
 bif xcm .eql (xbyte s (xnat ↑i)) 32 then(
 ck (xle (xadd (xnat (xar .and .u8 (asI (nthD gs (xix 0 (xnat ↑n) 1))) 3)) 1) 4) <|
 ck (xle (xadd (xmul (xnat (xar .and .u8 (asI (nthD gs (xix 0 (xnat ↑n) 1))) 3)) 1) 1) 4) <|
 ck (isS (nthD [.str [32],.str [9],.str [32,32],.str [32,9,32]] (xmul (xnat (xar .and .u8 (asI (nthD gs (xix 0 (xnat ↑n) 1))) 3)) 1))) <|
 ck (xle (xadd (xsln t) (xsln (asS (nthD [.str [32],.str [9],.str [32,32],.str [32,9,32]] (xmul (xnat (xar .and .u8 (asI (nthD gs (xix 0 (xnat ↑n) 1))) 3)) 1))))) 1000000000) <|
 K .normal [.slo 1 0 ng 0,.bool false,.ptr 2 0,.str s,.str (xscat t (asS (nthD [.str [32],.str [9],.str [32,32],.str [32,9,32]] (xmul (xnat (xar .and .u8 (asI (nthD gs (xix 0 (xnat ↑n) 1))) 3)) 1)))),.int .i64 (xar .add .i64 (↑n) 1),.int .i64 (xar .add .i64 (↑i) 1)] [some (.ro ks),some (.ro gs),sN [.slo 3 0 np 0],sC cs 5] gt4)
 else(
 ck (xle (xadd (xnat ↑i) 1) (xsln s)) <|
 bif xcm .eql (xbyte s (xnat ↑i)) 10 then(
 ck (xle (xadd (xnat (xar .and .u8 (asI (nthD gs (xix 0 (xnat ↑n) 1))) 3)) 1) 4) <|
 ck (xle (xadd (xmul (xnat (xar .and .u8 (asI (nthD gs (xix 0 (xnat ↑n) 1))) 3)) 1) 1) 4) <|
 ck (isS (nthD [.str [10],.str [32,10],.str [32,59,32,115,111,32,114,57,32,195,169,32,255,10],.str [10,32,10,59,120,58,10,9]] (xmul (xnat (xar .and .u8 (asI (nthD gs (xix 0 (xnat ↑n) 1))) 3)) 1))) <|
 ck (xle (xadd (xsln t) (xsln (asS (nthD [.str [10],.str [32,10],.str [32,59,32,115,111,32,114,57,32,195,169,32,255,10],.str [10,32,10,59,120,58,10,9]] (xmul (xnat (xar .and .u8 (asI (nthD gs (xix 0 (xnat ↑n) 1))) 3)) 1))))) 1000000000) <|
 K .normal [.slo 1 0 ng 0,.bool false,.ptr 2 0,.str s,.str (xscat t (asS (nthD [.str [10],.str [32,10],.str [32,59,32,115,111,32,114,57,32,195,169,32,255,10],.str [10,32,10,59,120,58,10,9]] (xmul (xnat (xar .and .u8 (asI (nthD gs (xix 0 (xnat ↑n) 1))) 3)) 1)))),.int .i64 (xar .add .i64 (↑n) 1),.int .i64 (xar .add .i64 (↑i) 1)] [some (.ro ks),some (.ro gs),sN [.slo 3 0 np 0],sC cs 5] gt4)
 else(
 ck (xnn (xar .add .i64 (↑i) 1)) <|
 ck (xle (xnat ↑i) (xnat (xar .add .i64 (↑i) 1))) <|
 ck (xle (xnat (xar .add .i64 (↑i) 1)) (xsln s)) <|
 ck (xle (xadd (xsln t) (xsln (xscut s (xnat ↑i) (xnat (xar .add .i64 (↑i) 1))))) 1000000000) <|
 K .normal [.slo 1 0 ng 0,.bool false,.ptr 2 0,.str s,.str (xscat t (xscut s (xnat ↑i) (xnat (xar .add .i64 (↑i) 1)))),.int .i64 ↑n,.int .i64 (xar .add .i64 (↑i) 1)] [some (.ro ks),some (.ro gs),sN [.slo 3 0 np 0],sC cs 5] gt4)))
 else(
 ck (xle (xadd (xnat ↑i) 1) (xsln s)) <|
 bif xcm .eql (xbyte s (xnat ↑i)) 32 then(
 ck (xle (xadd (xsln t) 1) 1000000000) <|
 K .normal [.slo 1 0 ng 0,.bool false,.ptr 2 0,.str s,.str (xscat t [32]),.int .i64 (xar .add .i64 (↑n) 1),.int .i64 (xar .add .i64 (↑i) 1)] [some (.ro ks),some (.ro gs),sN [.slo 3 0 np 0],sC cs 5] gt4)
 else(
 ck (xle (xadd (xnat ↑i) 1) (xsln s)) <|
 bif xcm .eql (xbyte s (xnat ↑i)) 10 then(
 ck (xle (xadd (xsln t) 1) 1000000000) <|
 K .normal [.slo 1 0 ng 0,.bool false,.ptr 2 0,.str s,.str (xscat t [10]),.int .i64 (xar .add .i64 (↑n) 1),.int .i64 (xar .add .i64 (↑i) 1)] [some (.ro ks),some (.ro gs),sN [.slo 3 0 np 0],sC cs 5] gt4)
 else(
 ck (xnn (xar .add .i64 (↑i) 1)) <|
 ck (xle (xnat ↑i) (xnat (xar .add .i64 (↑i) 1))) <|
 ck (xle (xnat (xar .add .i64 (↑i) 1)) (xsln s)) <|
 ck (xle (xadd (xsln t) (xsln (xscut s (xnat ↑i) (xnat (xar .add .i64 (↑i) 1))))) 1000000000) <|
 K .normal [.slo 1 0 ng 0,.bool false,.ptr 2 0,.str s,.str (xscat t (xscut s (xnat ↑i) (xnat (xar .add .i64 (↑i) 1)))),.int .i64 ↑n,.int .i64 (xar .add .i64 (↑i) 1)] [some (.ro ks),some (.ro gs),sN [.slo 3 0 np 0],sC cs 5] gt4))))
 else(
 K (.exit 0) [.slo 1 0 ng 0,.bool false,.ptr 2 0,.str s,.str t,.int .i64 ↑n,.int .i64 ↑i] [some (.ro ks),some (.ro gs),sN [.slo 3 0 np 0],sC cs 5] gt4)):=by kernel_rfl
theorem bl_z (ng np:Nat) (s t:List UInt8) (n i:Nat) (ks gs cs:List LV) (K:Pk):(xsp prog cxBL 60 87 ((sp prog 6).drop 9) (mkTm 87 (blT ng s t n i)) (mkS (blH ks gs np cs) gt4) (vK blL K))=(
 bif xcm .gtr (↑(xsln t)) 4000 then(
 K .ret [.slo 1 0 ng 0,.bool true,.ptr 2 0,.str s,.str t,.int .i64 ↑n,.int .i64 ↑i] [some (.ro ks),some (.ro gs),sN [.slo 3 0 np 0],sC cs 5] gt4)
 else(
 ck (okT t) <|
 ck (pzG t) <|
 ck (okE (rdNi t) (rdAx t)) <|
 ck (okE np cs) <|
 K .ret [.slo 1 0 ng 0,.bool (sameE (rdNi t) np (rdAx t) cs),.ptr 2 0,.str s,.str t,.int .i64 ↑n,.int .i64 ↑i] [some (.ro ks),some (.ro gs),sN [.slo 3 0 np 0],sC cs 5,sC (rdAx t) 5,sN [.slo 4 0 (rdNi t) 0]] gt4)):=by kernel_rfl
end
end Go.Lev
/- TextLoose (P16.1, P16.2): blanks, tabs, empty lines and remarks more, where they may stand, change nothing. Condition: the listed package-level variables hold what the program's text lays. -/
namespace Go.Lev
set_option linter.unusedSimpArgs false
set_option linter.unusedVariables false
open Go.RowKit
open Go.Proofs.Tryd (prog)
set_option maxRecDepth 100000
noncomputable section
theorem cxBL_ok:CtrOk prog (ctrOf cxBL):=cxl_ok ⟨trG_ok,poG_ok,wrapG_ok progG_ok,pgG_ok,wrapG_ok saG_ok,trivial⟩
theorem u8_noids (xs:List Int):noIds (encL (cI .u8) xs)=true:=noIds_encL (fun _=>rfl) xs
theorem u8_len (xs:List Int):(encL (cI .u8) xs).length=xs.length:=by rw [encL_length (cI_len .u8)]; omega
theorem u8_nth {xs:List Int} {i:Nat} (h:i < xs.length):nthD (encL (cI .u8) xs) i=.int .u8 xs[i]:=by
 have:=encL_nth (cI_len .u8) (j:=0) h (by omega)
 rw [Nat.mul_one,Nat.add_zero] at this
 exact this
def gI (g:Int):Nat:=xnat (xar .and .u8 g 3)
theorem gI_all:∀ m:Fin 256,gI (m.1:Int) < 4:=by decide +kernel
theorem gI_lt {x:Int} (h:0≤x∧x≤255):gI x < 4:=by
 obtain⟨m,rfl⟩:=Int.eq_ofNat_of_zero_le h.1
 exact gI_all ⟨m,by omega⟩
theorem nth_B {k:Nat} (h:k < 4):nthD [.str [32],.str [9],.str [32,32],.str [32,9,32]] k=.str (gpB k):=by
 rcases(show k=0∨k=1∨k=2∨k=3 by omega) with rfl | rfl | rfl | rfl <;> rfl
theorem nth_N {k:Nat} (h:k < 4):nthD [.str [10],.str [32,10],.str [32,59,32,115,111,32,114,57,32,195,169,32,255,10],.str [10,32,10,59,120,58,10,9]] k=.str (gpN k):=by
 rcases(show k=0∨k=1∨k=2∨k=3 by omega) with rfl | rfl | rfl | rfl <;> rfl
theorem gpB_len (k:Nat):1≤(gpB k).length∧(gpB k).length≤14:=by unfold gpB; split <;> simp
theorem gpN_len (k:Nat):1≤(gpN k).length∧(gpN k).length≤14:=by unfold gpN; split <;> simp
theorem lsF_len:∀ (s:List UInt8) (gs:List Nat),s.length≤(lsF s gs).length
 | [],gs=>by simp
 | b::r,gs=>by
   rw [lsF]
   have h1:=lsF_len r gs.tail; have h2:=lsF_len r gs
   have h3:=gpB_len (gs.headD 0); have h4:=gpN_len (gs.headD 0)
   split
   ·simp only [List.length_append,List.length_cons]; omega
   ·split
    ·simp only [List.length_append,List.length_cons]; omega
    ·simp only [List.length_cons]; omega
abbrev gsL (G:List Int):List Nat:=G.map gI
theorem gs_hd {G:List Int} {n:Nat} (h:n < G.length):((gsL G).drop n).headD 0=gI G[n]∧((gsL G).drop n).tail=(gsL G).drop (n+1):=by
 have e:(gsL G).drop n=gI G[n]::(gsL G).drop (n+1):=by
  rw [List.drop_eq_getElem_cons (by simpa using h)]; simp
 rw [e]; exact⟨rfl,rfl⟩
theorem gs_no {G:List Int} {n:Nat} (h:G.length≤n):((gsL G).drop n).headD 0=0∧((gsL G).drop n).tail=(gsL G).drop (n+1):=by
 have e:∀ m,G.length≤m→(gsL G).drop m=[]:=fun m hm=>List.drop_of_length_le (by simpa using hm)
 rw [e n h,e (n+1) (by omega)]; exact⟨rfl,rfl⟩
structure LI (s:List UInt8) (G:List Int) (i n:Nat) (t:List UInt8):Prop where
 hi:i≤s.length
 hn:n≤i
 he:t++lsF (s.drop i) ((gsL G).drop n)=lsF s (gsL G)
 hl:t.length≤14 * i
theorem LI.b {s:List UInt8} {G:List Int} {i n:Nat} {t u:List UInt8} (h:LI s G i n t) (hi:i < s.length) (hb:s[i]=32) (hu:u=gpB (((gsL G).drop n).headD 0)) (ht:((gsL G).drop n).tail=(gsL G).drop (n+1)):LI s G (i+1) (n+1) (t++u):=by
 have hn:=h.hn; have hl:=h.hl; have he:=h.he
 rw [List.drop_eq_getElem_cons hi,lsF,if_pos hb,ht,← hu] at he
 refine⟨hi,by omega,by rw [List.append_assoc]; exact he,?_⟩
 have:=gpB_len (((gsL G).drop n).headD 0)
 rw [List.length_append,hu]; omega
theorem LI.nl {s:List UInt8} {G:List Int} {i n:Nat} {t u:List UInt8} (h:LI s G i n t) (hi:i < s.length) (hb:s[i]=10) (hu:u=gpN (((gsL G).drop n).headD 0)) (ht:((gsL G).drop n).tail=(gsL G).drop (n+1)):LI s G (i+1) (n+1) (t++u):=by
 have hn:=h.hn; have hl:=h.hl; have he:=h.he
 rw [List.drop_eq_getElem_cons hi,lsF,if_neg (by rw [hb]; decide),if_pos hb,ht,← hu] at he
 refine⟨hi,by omega,by rw [List.append_assoc]; exact he,?_⟩
 have:=gpN_len (((gsL G).drop n).headD 0)
 rw [List.length_append,hu]; omega
theorem LI.o {s:List UInt8} {G:List Int} {i n:Nat} {t:List UInt8} (h:LI s G i n t) (hi:i < s.length) (h1:s[i]≠32) (h2:s[i]≠10):LI s G (i+1) n (t++[s[i]]):=by
 have hn:=h.hn; have hl:=h.hl; have he:=h.he
 rw [List.drop_eq_getElem_cons hi,lsF,if_neg h1,if_neg h2] at he
 refine⟨hi,by omega,by rw [List.append_assoc]; exact he,?_⟩
 rw [List.length_append]; simp; omega
theorem cut1 {s:List UInt8} {i:Nat} (hi:i < s.length):xscut s i (i+1)=[s[i]]:=by
 unfold xscut
 rw [List.drop_eq_getElem_cons hi,show i+1 - i=1 by omega]
 rfl
set_option maxHeartbeats 8000000 in
theorem loose_fun (A:List KinR) (G:List Int) (na:A.length≤9223372036854775807) (ng:G.length≤9223372036854775807) (ha:∀ x∈A,kin_bd x) (hg:∀ y∈G,0≤y∧y≤255) :
  SFun prog 6 [.slo 0 0 A.length 0,.slo 1 0 G.length 0] (mkS [.ro (encL kinE A),.ro (encL (cI .u8) G)] gt4) fun l s=>l=.bool true∧s=mkS [.ro (encL kinE A),.ro (encL (cI .u8) G)] gt4:=by
 refine SFun.mono (SFun.pieces (Q:=fun l b=>l=.bool true∧b=[.ro (encL kinE A),.ro (encL (cI .u8) G)]) 87 2 blL [4] (by kernel_rfl) rfl rfl rfl ?_) fun l s' ⟨b0,⟨h1,h2⟩,h3⟩=>⟨h1,by rw [h3,h2]⟩
 have nka:=kin_noids A; have ngs:=u8_noids G
 have fa:=pf_of A na ha
 generalize encL kinE A=ka at *
 generalize A.length=nA at *
 generalize gF A 40 false=L at *
 have n1:=ins_noids L
 have i5a:=fa.i5
 rw [fa.gw,fa.gn] at i5a
 have l1:=fa.l1; have l2:=fa.l2
 obtain⟨s,hs⟩:∃ s,s=outL L:=⟨_,rfl⟩
 have hz:=fun gs=>rdZ_out fa.okp fa.bd gs
 have px:=fa.px
 rw [← hs] at l1 l2 hz px
 clear hs
 have lg:=u8_len G
 refine SSp.to cxBL_ok (n:=60) (g:=gt4) 8 8 rfl (σ:=Unit) (fun _=>blT G.length s [] (0:Nat) (0:Nat)) (fun _=>blH ka (encL (cI .u8) G) L.length (encL insE L)) (mkS_le (Nat.le_of_ble_eq_true rfl)) (by kernel_rfl) ?_ fun _=>?_
 ·rw [bl_a]
  simp only [isFt_self,fa.kin,fa.gw,fa.gn,px,i5a,cond_true]
  exact⟨rfl,(),[.id 0,.id 1,.id 3,.id 2],by(exact zC)⟩
 refine SSp.code_to (g:=gt4) 9 rfl (σ:={p:Nat×List UInt8 // p.2=lsF s (gsL G)}) (fun p=>blT G.length s p.1.2 (p.1.1:Nat) (s.length:Nat)) (fun _=>blH ka (encL (cI .u8) G) L.length (encL insE L)) (by kernel_rfl) ?_ fun⟨⟨n,t⟩,hp⟩=>?_
 ·refine SCode.loop_vc cxBL_ok (n:=60) (n0:=2) 0 (by kernel_rfl) (σ:={p:Nat×Nat×List UInt8 // LI s G p.1 p.2.1 p.2.2}) (fun p=>blT G.length s p.1.2.2 (p.1.2.1:Nat) (p.1.1:Nat)) (fun _=>blH ka (encL (cI .u8) G) L.length (encL insE L)) (fun p=>s.length - p.1.1) (fun _=>Nat.le_of_ble_eq_true rfl) (fun⟨⟨i,n,t⟩,hI⟩=>?_) ⟨(0,0,[]),⟨Nat.zero_le _,Nat.le_refl _,rfl,by simp⟩⟩
  dsimp only at hI ⊢
  rw [bl_l]
  have hn:=hI.hn; have hil:=hI.hi; have htl:=hI.hl
  by_cases h:i < s.length
  ·have eb:xbyte s i=((s[i].toNat:Nat):Int):=by simp [xbyte,h]
   have e3:xar .add .i64 (i:Int) 1=((i+1:Nat):Int):=inc_i64 h (by omega)
   have e4:xar .add .i64 (n:Int) 1=((n+1:Nat):Int):=by rw [add_i64 (by omega) (by omega)]; omega
   have c1:xcm .lss (i:Int) ((xsln s:Nat):Int)=true:=t_lss (show((i:Nat):Int) < ((s.length:Nat):Int) by omega)
   have x1:xle (i+1) (xsln s)=true:=t_le (show i+1≤s.length by omega)
   have xt:∀ u:List UInt8,u.length≤14→xle (xsln t+xsln u) 1000000000=true:=fun u hu=>t_le (show t.length+u.length≤_ by omega)
   have tb:s[i]=32→((s[i].toNat:Nat):Int)=32:=fun e=>by rw [e]; rfl
   have tn:s[i]=10→((s[i].toNat:Nat):Int)=10:=fun e=>by rw [e]; rfl
   have fb:s[i]≠32→((s[i].toNat:Nat):Int)≠32:=fun e q=>e (UInt8.toNat_inj.1 (show s[i].toNat=32 by omega))
   have fn:s[i]≠10→((s[i].toNat:Nat):Int)≠10:=fun e q=>e (UInt8.toNat_inj.1 (show s[i].toNat=10 by omega))
   by_cases hng:n < G.length
   ·have c2:xcm .lss (n:Int) ((G.length:Nat):Int)=true:=t_lss (by omega)
    have g0:=u8_nth hng
    have hk:=gI_lt (hg _ (List.getElem_mem hng))
    obtain⟨g1,g2⟩:=gs_hd hng
    have ek:xnat (xar .and .u8 G[n] 3)=gI G[n]:=rfl
    have nB:=nth_B hk; have nN:=nth_N hk
    by_cases b1:s[i]=32
    ·simp only [c1,c2,wd_nat,wd_ix,wd_add,wd_mul,wd_ln,Nat.zero_add,Nat.mul_one,lg,g0,eb,e3,e4,x1,wd_asI,wd_isI,ek,nB,asS,isS,xt _ (gpB_len (gI G[n])).2,show xcm .eql ((s[i].toNat:Nat):Int) 32=true from t_eql (tb b1),show xle (n+1) G.length=true from t_le (by omega),show xle (gI G[n]+1) 4=true from t_le (by omega),cond_true]
     exact⟨rfl,⟨(i+1,n+1,t++gpB (gI G[n])),hI.b h b1 (by rw [g1]) g2⟩,by dsimp only; omega,[.id 0,.id 1,.id 2,.id 3],by(exact zC)⟩
    by_cases b2:s[i]=10
    ·simp only [c1,c2,wd_nat,wd_ix,wd_add,wd_mul,wd_ln,Nat.zero_add,Nat.mul_one,lg,g0,eb,e3,e4,x1,wd_asI,wd_isI,ek,nN,asS,isS,xt _ (gpN_len (gI G[n])).2,show xcm .eql ((s[i].toNat:Nat):Int) 32=false from f_eql (fb b1),show xcm .eql ((s[i].toNat:Nat):Int) 10=true from t_eql (tn b2),show xle (n+1) G.length=true from t_le (by omega),show xle (gI G[n]+1) 4=true from t_le (by omega),cond_true,cond_false]
     exact⟨rfl,⟨(i+1,n+1,t++gpN (gI G[n])),hI.nl h b2 (by rw [g1]) g2⟩,by dsimp only; omega,[.id 0,.id 1,.id 2,.id 3],by(exact zC)⟩
    ·simp only [c1,c2,wd_nat,wd_ix,wd_add,wd_mul,wd_ln,Nat.zero_add,Nat.mul_one,lg,g0,eb,e3,e4,x1,wd_asI,wd_isI,cut1 h,xt [s[i]] (by simp),show xcm .eql ((s[i].toNat:Nat):Int) 32=false from f_eql (fb b1),show xcm .eql ((s[i].toNat:Nat):Int) 10=false from f_eql (fn b2),show xle (n+1) G.length=true from t_le (by omega),show xle i (i+1)=true from t_le (by omega),show ∀ k:Nat,xnn (k:Int)=true from fun k=>xnn_iff.2 (by omega),cond_true,cond_false]
     exact⟨rfl,⟨(i+1,n,t++[s[i]]),hI.o h b1 b2⟩,by dsimp only; omega,[.id 0,.id 1,.id 2,.id 3],by(exact zC)⟩
   ·have c2:xcm .lss (n:Int) ((G.length:Nat):Int)=false:=f_lss (by omega)
    obtain⟨g1,g2⟩:=gs_no (G:=G) (n:=n) (by omega)
    by_cases b1:s[i]=32
    ·simp only [c1,c2,wd_nat,wd_ix,wd_add,wd_mul,wd_ln,Nat.zero_add,Nat.mul_one,eb,e3,e4,x1,xt [32] (by simp),show xle (xsln t+1) 1000000000=true from t_le (show t.length+1≤_ by omega),show xcm .eql ((s[i].toNat:Nat):Int) 32=true from t_eql (tb b1),cond_true,cond_false]
     exact⟨rfl,⟨(i+1,n+1,t++[32]),hI.b h b1 (by rw [g1]; rfl) g2⟩,by dsimp only; omega,[.id 0,.id 1,.id 2,.id 3],by(exact zC)⟩
    by_cases b2:s[i]=10
    ·simp only [c1,c2,wd_nat,wd_ix,wd_add,wd_mul,wd_ln,Nat.zero_add,Nat.mul_one,eb,e3,e4,x1,show xle (xsln t+1) 1000000000=true from t_le (show t.length+1≤_ by omega),show xcm .eql ((s[i].toNat:Nat):Int) 32=false from f_eql (fb b1),show xcm .eql ((s[i].toNat:Nat):Int) 10=true from t_eql (tn b2),cond_true,cond_false]
     exact⟨rfl,⟨(i+1,n+1,t++[10]),hI.nl h b2 (by rw [g1]; rfl) g2⟩,by dsimp only; omega,[.id 0,.id 1,.id 2,.id 3],by(exact zC)⟩
    ·simp only [c1,c2,wd_nat,wd_ix,wd_add,wd_mul,wd_ln,Nat.zero_add,Nat.mul_one,eb,e3,e4,x1,cut1 h,xt [s[i]] (by simp),show xcm .eql ((s[i].toNat:Nat):Int) 32=false from f_eql (fb b1),show xcm .eql ((s[i].toNat:Nat):Int) 10=false from f_eql (fn b2),show xle i (i+1)=true from t_le (by omega),show ∀ k:Nat,xnn (k:Int)=true from fun k=>xnn_iff.2 (by omega),cond_true,cond_false]
     exact⟨rfl,⟨(i+1,n,t++[s[i]]),hI.o h b1 b2⟩,by dsimp only; omega,[.id 0,.id 1,.id 2,.id 3],by(exact zC)⟩
  ·have c1:xcm .lss (i:Int) ((xsln s:Nat):Int)=false:=f_lss (show((s.length:Nat):Int)≤((i:Nat):Int) by omega)
   have ei:i=s.length:=by omega
   have he:=hI.he
   rw [ei,List.drop_length,lsF,List.append_nil] at he
   subst ei
   simp only [c1,cond_false]
   exact⟨rfl,⟨(n,t),he⟩,[.id 0,.id 1,.id 2,.id 3],by(exact zC)⟩
 dsimp only at hp ⊢
 refine zE cxBL_ok ?_
 rw [bl_z]
 have hlen:=lsF_len s (gsL G)
 rw [← hp] at hlen
 by_cases c:4000 < t.length
 ·simp only [show xcm .gtr ((xsln t:Nat):Int) 4000=true from t_gtr (show(4000:Int) < ((t.length:Nat):Int) by omega),cond_true]
  exact⟨trivial,rfl,.bool true,[.ro _,.ro _],[.id 0,.id 1],⟨rfl,rfl⟩,by(exact zC)⟩
 ·obtain⟨_,_,_,e1⟩:=hz (gsL G)
  rw [← hp] at e1
  obtain⟨p1,p2,p3⟩:=rd_facts e1
  have kt:okT t=true:=okT_iff.2 ⟨by omega,by omega⟩
  simp only [show xcm .gtr ((xsln t:Nat):Int) 4000=false from f_gtr (show((t.length:Nat):Int)≤4000 by omega),kt,p1,p2,p3,fa.oe,sameE_self,cond_true,cond_false]
  exact⟨trivial,rfl,.bool true,[.ro _,.ro _],[.id 0,.id 1],⟨rfl,rfl⟩,by(exact zC)⟩
theorem loose_any {H:Type} {enc:TypeId×Value→H} {W:World} (hg:Gl W gtab) (hp:Lib.TabIs prog W "internal/strconv.uint64pow10" .u64 Lib.pow10Tab) {a0 a1:Option Addr} {len0 cap0 len1 cap1:Nat} {d0 d1:DataW H} {p0 p1:List MemPlace} (h0:DataW.Trod enc prog W 0 (fun _=>true) true 29 (.slice a0 len0 cap0) d0 p0) (h1:DataW.Trod enc prog W 0 (fun _=>true) true 22 (.slice a1 len1 cap1) d1 p1) :
  Calls prog 6 #[.slice a0 len0 cap0,.slice a1 len1 cap1] W fun e W'=>e=.returned (.bool true)∧Below W.heap.size W W':=by
 obtain⟨A,ea,na,ka,ra⟩:=kin_rowP h0
 obtain⟨G,eg,ng,kg,rg⟩:=row_arg (f:=cI .u8) (ok:=fun y:Int=>IntKind.u8.min≤y∧y≤IntKind.u8.max) (cI_len .u8) (by omega) Go.Proofs.Tryd.underlying22 (by kernel_rfl) h1 (el_int Go.Proofs.Tryd.underlying5)
 subst ea; subst eg
 refine SFun.top (rows:=[(.slice a0 A.length cap0,A.length,encL kinE A),(.slice a1 G.length cap1,G.length,encL (cI .u8) G)]) (g:=gt4) (us:=[.slice a0 A.length cap0,.slice a1 G.length cap1]) ⟨ra,rg,trivial⟩ (gt4_of hg hp) (fun r h=>?_) (SFun.mono (loose_fun A G na ng ka (fun y hy=>kg y hy)) fun l s h=>h.1)
 simp only [VRs,VR]
 exact⟨_,_,rfl,h 0 _ _ _ rfl,_,_,rfl,h 1 _ _ _ rfl,rfl⟩
theorem pow_tabL {W:World} {ps:List MemPlace} (hl:DataW.LaidVars prog W Go.Proofs.YtnkkkihgljbllaaDoor.Rows.textLooseRow.laid ps):Lib.TabIs prog W "internal/strconv.uint64pow10" .u64 Lib.pow10Tab:=by
 refine tab_third (P:=prog) (ps:=ps) (n0 := "math/bits.deBruijn32tab") (n1 := "math/bits.deBruijn64tab") (d0:=Go.Proofs.YtnkkkihgljbllaaDoor.Rows.laid_math_bits_deBruijn32tab) (d1:=Go.Proofs.YtnkkkihgljbllaaDoor.Rows.laid_math_bits_deBruijn64tab) (rest:=[("quietus/code.forms",Go.Proofs.YtnkkkihgljbllaaDoor.Rows.laid_quietus_code_forms),("quietus/code.calls",Go.Proofs.YtnkkkihgljbllaaDoor.Rows.laid_quietus_code_calls)]) (g:=3) (t:=150) (e:=23) (n:=20) (by kernel_rfl) (by kernel_rfl) (by kernel_rfl) (by kernel_rfl) (by kernel_rfl) (by kernel_rfl) ?_
 have e:Go.Proofs.YtnkkkihgljbllaaDoor.Rows.textLooseRow.laid=[("math/bits.deBruijn32tab",Go.Proofs.YtnkkkihgljbllaaDoor.Rows.laid_math_bits_deBruijn32tab),("math/bits.deBruijn64tab",Go.Proofs.YtnkkkihgljbllaaDoor.Rows.laid_math_bits_deBruijn64tab),("internal/strconv.uint64pow10",Lib.tabData .u64 Lib.pow10Tab),("quietus/code.forms",Go.Proofs.YtnkkkihgljbllaaDoor.Rows.laid_quietus_code_forms),("quietus/code.calls",Go.Proofs.YtnkkkihgljbllaaDoor.Rows.laid_quietus_code_calls)]:=by kernel_rfl
 rw [e] at hl
 exact hl
end
end Go.Lev
