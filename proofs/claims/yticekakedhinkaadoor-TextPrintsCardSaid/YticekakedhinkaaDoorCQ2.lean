/- the reference's Decimal: the numeral -/
import Derived.Test.YticekakedhinkaaDoorLc
import Derived.Test.YticekakedhinkaaDoorChecked
import Derived.KernelRfl
import Derived.Lib.ItoaNum
namespace Go.Lev
set_option linter.unusedSimpArgs false
set_option linter.unusedVariables false
open Go.RowKit
open Go.Proofs.Tryd (prog)
set_option maxRecDepth 100000
noncomputable section
theorem dc_a (n:Int) (K:Pk):(xsp prog (fun _=>none) 40 22 (seg (sp prog 16) 0 2) (tm0 [.int .u64 n]) (mkS []) (vK [0,2,3] K))=(
 K .normal [.int .u64 n,.str [],.sl 0 0 1 1] [sN [.int .u8 (xwr .u8 (xar .add .u64 48 (xar .rem .u64 n 10)))]] []):=by kernel_rfl
theorem dc_l (m:Int) (k:Nat) (cs:List LV) (K:Pk):(xcode prog (fun _=>none) 40 22 (loopOf (nthC (sp prog 16) 2)) (mkTm 22 [(0,.int .u64 m),(3,.slo 0 0 k 0)]) (mkS [.cells cs (some 1)]) (vK [0,2,3] K))=(
 bif xcm .geq m 10 then(
 ck (xle (xadd 0 (xmul k 1)) (xln cs)) <|
 bif xle (xadd 1 k) 1 then(
 ck (xle (xadd 1 (xln (xcut cs 0 (xmul k 1)))) 1) <|
 K .normal [.int .u64 (xar .quo .u64 m 10),.any,.sl 1 0 (xadd 1 k) 1] [sC cs 1,sN (xlay [.int .u8 (xwr .u8 (xar .add .u64 48 (xar .rem .u64 (xar .quo .u64 m 10) 10)))] 1 (xcut cs 0 (xmul k 1)))] [])
 else(
 ck (xle (xadd 1 k) 1000000) <|
 K .normal [.int .u64 (xar .quo .u64 m 10),.any,.slo 2 0 (xadd 1 k) 0] [sC cs 1,sN [.int .u8 (xwr .u8 (xar .add .u64 48 (xar .rem .u64 (xar .quo .u64 m 10) 10)))],sC (xcat [.int .u8 (xwr .u8 (xar .add .u64 48 (xar .rem .u64 (xar .quo .u64 m 10) 10)))] (xcut cs 0 (xmul k 1))) 1] []))
 else(
 K (.exit 0) [.int .u64 m,.any,.slo 0 0 k 0] [sC cs 1] [])):=by kernel_rfl
theorem dc_z (k:Nat) (cs:List LV) (K:Pk):(xsp prog (fun _=>none) 40 22 ((sp prog 16).drop 3) (mkTm 22 [(3,.slo 0 0 k 0)]) (mkS [.cells cs (some 1)]) (vK [0,2,3] K))=(
 ck (xle (xadd 0 (xmul k 1)) (xln cs)) <|
 ck (xu8s (xcut cs 0 (xmul k 1))) <|
 K .ret [.any,.str (xbytes (xcut cs 0 (xmul k 1))),.slo 0 0 k 0] [sC cs 1] []):=by kernel_rfl
theorem nd_le:∀ (k u:Nat),u < 10 ^ (k+1)→Lib.nDigits u≤k+1
 | 0,u,h=>by rw [Lib.nDigits_small (by simpa using h)]; omega
 | k+1,u,h=>by
   by_cases c:u < 10
   ·rw [Lib.nDigits_small c]; omega
   ·rw [Lib.nDigits_big c]
    have:=nd_le k (u / 10) (by rw [Nat.pow_succ] at h; omega)
    omega
def decW (n:Int):List UInt8:=Lib.decDigits n.toNat
theorem decW_eq (u:Nat):decW (u:Int)=Lib.decDigits u:=by rw [decW,Int.toNat_natCast]
theorem decW_len {n:Int} (h0:0≤n) (h1:n≤18446744073709551615):(decW n).length≤20:=by
 rw [decW,Lib.decDigits_length]
 exact nd_le 19 _ (by omega)
abbrev byt (xs:List Int):List UInt8:=xs.map fun x=>UInt8.ofNat x.toNat
theorem xbytes_enc:∀ xs:List Int,xbytes (encL (cI .u8) xs)=byt xs
 | []=>rfl
 | x::r=>by
   show UInt8.ofNat x.toNat::xbytes (encL (cI .u8) r)=_
   rw [xbytes_enc r]; rfl
theorem xu8s_enc:∀ xs:List Int,xu8s (encL (cI .u8) xs)=true
 | []=>rfl
 | x::r=>by
   have:=xu8s_enc r
   simp only [xu8s] at this
   simp only [xu8s,encL,cI,List.cons_append,List.nil_append,List.all_cons,this,isI,Bool.and_true]
   rfl
def preD (m:Nat):List UInt8:=if m < 10 then [] else Lib.decDigits (m / 10)
theorem preD_eq (m:Nat):Lib.decDigits m=preD m++[UInt8.ofNat (48+m % 10)]:=by
 unfold preD
 by_cases c:m < 10
 ·rw [if_pos c,Lib.decDigits_one c,Nat.mod_eq_of_lt c]; rfl
 ·rw [if_neg c,Lib.decDigits,dif_neg c]
theorem dg_word (m:Nat):xwr .u8 (xar .add .u64 48 (xar .rem .u64 (m:Int) 10))=((48+m % 10:Nat):Int):=by
 rw [xar_rem _ _ _ (by omega),Int.tmod_eq_emod_of_nonneg (by omega),xar_add,wrap_u64 (by omega) (by omega)]
 exact(wrap_u8 (by omega) (by omega)).trans (by omega)
theorem q10_word (m:Nat) (h:m≤18446744073709551615):xar .quo .u64 (m:Int) 10=((m / 10:Nat):Int):=by
 rw [xar_quo _ _ _ (by omega),Int.tdiv_eq_ediv_of_nonneg (by omega),wrap_u64 (by omega) (by omega)]
 omega
theorem dec_f (N:Nat) (hN:N≤18446744073709551615):SFun prog 16 [.int .u64 (N:Int)] (mkS []) fun l s=>l=.str (decW (N:Int))∧s=mkS []:=by
 refine SFun.mono (SFun.pieces (Q:=fun l b=>l=.str (decW (N:Int))∧b=[]) 22 0 [0,2,3] [2] (by kernel_rfl) rfl rfl rfl ?_) fun l s' ⟨b0,⟨h1,h2⟩,h3⟩=>⟨h1,by rw [h3,h2]⟩
 have hlen:∀ (m:Nat) (xs:List Int),Lib.decDigits N=preD m++byt xs→xs.length≤20:=fun m xs h=>by
  have h1:=congrArg List.length h
  have h2:=decW_len (n:=(N:Int)) (by omega) (by omega)
  rw [decW_eq] at h2
  simp only [List.length_append,byt,List.length_map] at h1
  omega
 refine SSp.to noCx_ok (n:=40) (g:=[]) 2 2 rfl (σ:={p:Nat×List Int // p.1≤N∧1≤p.2.length∧Lib.decDigits N=preD p.1++byt p.2}) (fun p=>[(0,.int .u64 (p.1.1:Int)),(3,.slo 0 0 p.1.2.length 0)]) (fun p=>[.cells (encL (cI .u8) p.1.2) (some 1)]) (Nat.zero_le _) (by kernel_rfl) ?_ fun⟨⟨m0,xs0⟩,hm0,hx0,he0⟩=>?_
 ·have n1:noIds (encL (cI .u8) [((48+N % 10:Nat):Int)])=true:=rfl
  rw [dc_a,dg_word]
  exact⟨rfl,⟨(N,[((48+N % 10:Nat):Int)]),Nat.le_refl _,Nat.le_refl _,by rw [preD_eq]; simp only [byt,List.map_cons,List.map_nil,Int.toNat_natCast]⟩,[.cap 0 0 1],by dsimp only; rw [show encL (cI .u8) [((48+N % 10:Nat):Int)]=[.int .u8 ((48+N % 10:Nat):Int)] from rfl]; (exact zD)⟩
 refine SSp.code_to (g:=[]) 3 rfl (σ:={xs:List Int // 1≤xs.length∧Lib.decDigits N=byt xs}) (fun xs=>[(3,.slo 0 0 xs.1.length 0)]) (fun xs=>[.cells (encL (cI .u8) xs.1) (some 1)]) (by kernel_rfl) ?_ fun⟨xs,hx,he⟩=>?_
 ·refine SCode.loop_vc noCx_ok (n:=40) (n0:=0) 0 (by kernel_rfl) (σ:={p:Nat×List Int // p.1≤N∧1≤p.2.length∧Lib.decDigits N=preD p.1++byt p.2}) (fun p=>[(0,.int .u64 (p.1.1:Int)),(3,.slo 0 0 p.1.2.length 0)]) (fun p=>[.cells (encL (cI .u8) p.1.2) (some 1)]) (fun p=>p.1.1) (fun _=>Nat.zero_le _) (fun⟨⟨m,xs⟩,hm,hx,he⟩=>?_) ⟨(m0,xs0),hm0,hx0,he0⟩
  dsimp only
  have hx:1≤xs.length:=hx
  have hm:m≤N:=hm
  have he:Lib.decDigits N=preD m++byt xs:=he
  have nx:noIds (encL (cI .u8) xs)=true:=noIds_encL (fun _=>rfl) _
  have hl:=hlen m xs he
  have ll:(encL (cI .u8) xs).length=xs.length:=by rw [encL_length (w:=1) (fun _=>rfl)]; omega
  rw [dc_l,q10_word m (by omega),dg_word]
  by_cases c:10≤m
  ·have hc:xcut (encL (cI .u8) xs) 0 xs.length=encL (cI .u8) xs:=xcut_all (by omega)
   have e1:m / 10≤N:=by omega
   have nx2:noIds (encL (cI .u8) (((48+m / 10 % 10:Nat):Int)::xs))=true:=noIds_encL (fun _=>rfl) _
   have ec:xcat [.int .u8 ((48+m / 10 % 10:Nat):Int)] (encL (cI .u8) xs)=encL (cI .u8) (((48+m / 10 % 10:Nat):Int)::xs):=rfl
   have he2:Lib.decDigits N=preD (m / 10)++byt (((48+m / 10 % 10:Nat):Int)::xs):=by
    rw [he]
    have:preD m=preD (m / 10)++[UInt8.ofNat (48+m / 10 % 10)]:=by rw [← preD_eq]; unfold preD; rw [if_neg (by omega)]
    rw [this,List.append_assoc]
    simp only [byt,List.map_cons,Int.toNat_natCast,List.cons_append,List.nil_append]
   have k1:xle (1+xs.length) 1=false:=by rw [wd_le]; exact decide_eq_false (by omega)
   have k2:xle (1+xs.length) 1000000=true:=t_le (by omega)
   have e7:1+xs.length=xs.length+1:=by omega
   simp only [wd_nat,wd_asV,wd_isV,wd_ix,wd_add,wd_mul,wd_ln,Nat.zero_add,Nat.mul_one,wd_isI,wd_asI,wd_isB,wd_asB,wd_nn,cI_tlen,cB_tlen,cII_tlen,decide_true,cond_true,wd_not_t,wd_not_f,wd_and_t,wd_and_f,hc,ll,ec,k1,k2]
   (refine zR ?_)
   exact⟨rfl,⟨(m / 10,((48+m / 10 % 10:Nat):Int)::xs),e1,by simp,he2⟩,by simp only; omega,[.id 2],by dsimp only; rw [List.length_cons,← e7]; (exact zC)⟩
  ·(refine zR ?_)
   exact⟨rfl,⟨xs,hx,by rw [he]; unfold preD; rw [if_pos (by omega)]; rfl⟩,[.id 0],by dsimp only; (exact zC)⟩
 ·have hl:xs.length≤20:=by
   have h2:=decW_len (n:=(N:Int)) (by omega) (by omega)
   rw [decW_eq,he] at h2
   simpa [byt] using h2
  have ll:(encL (cI .u8) xs).length=xs.length:=by rw [encL_length (w:=1) (fun _=>rfl)]; omega
  have hc:xcut (encL (cI .u8) xs) 0 xs.length=encL (cI .u8) xs:=xcut_all (by omega)
  have h8:=xu8s_enc xs
  refine SSp.last noCx_ok (n:=40) (Nat.zero_le _) ?_
  rw [dc_z]
  (refine zN4 @hc @ll @h8 @xbytes_enc ?_)
  (refine zR ?_)
  exact⟨trivial,rfl,_,_,[],⟨by rw [decW_eq,he],rfl⟩,by(exact zC)⟩
end
end Go.Lev
