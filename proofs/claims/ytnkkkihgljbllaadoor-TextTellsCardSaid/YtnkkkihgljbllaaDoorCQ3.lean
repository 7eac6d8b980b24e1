import Derived.Test.YtnkkkihgljbllaaDoorLc
import Derived.Test.YtnkkkihgljbllaaDoorChecked
import Derived.KernelRfl
import Derived.Lib.ItoaNum
import Derived.Test.YtnkkkihgljbllaaDoorSh
import Derived.Lib.AppendIntMem
/- the reference's Decimal: the numeral -/
namespace Go.Lev
set_option linter.unusedSimpArgs false
set_option linter.unusedVariables false
open Go.RowKit
open Go.Proofs.Tryd (prog)
set_option maxRecDepth 100000
noncomputable section
theorem g8n (n:Int) (K:Pk):(xsp prog (fun _=>none) 40 22 (seg (sp prog 17) 0 2) (tm0 [.int .u64 n]) (mkS []) (vK [0,2,3] K))=(
 K .normal [.int .u64 n,.str [],.sl 0 0 1 1] [sN [.int .u8 (xwr .u8 (xar .add .u64 48 (xar .rem .u64 n 10)))]] []):=by kernel_rfl
theorem g8m (m:Int) (k:Nat) (cs:List LV) (K:Pk):(a1h prog (fun _=>none) 40 22 (a1w (a4i (sp prog 17) 2)) (a1p 22 [(0,.int .u64 m),(3,.slo 0 0 k 0)]) (mkS [.cells cs (some 1)]) (vK [0,2,3] K))=(
 bif xcm .geq m 10 then(
 ck (xle (a0a 0 (a1t k 1)) (xln cs)) <|
 bif xle (a0a 1 k) 1 then(
 ck (xle (a0a 1 (xln (a3o cs 0 (a1t k 1)))) 1) <|
 K .normal [.int .u64 (xar .quo .u64 m 10),.any,.sl 1 0 (a0a 1 k) 1] [sC cs 1,sN (b7d [.int .u8 (xwr .u8 (xar .add .u64 48 (xar .rem .u64 (xar .quo .u64 m 10) 10)))] 1 (a3o cs 0 (a1t k 1)))] [])
 else(
 ck (xle (a0a 1 k) 1000000) <|
 K .normal [.int .u64 (xar .quo .u64 m 10),.any,.slo 2 0 (a0a 1 k) 0] [sC cs 1,sN [.int .u8 (xwr .u8 (xar .add .u64 48 (xar .rem .u64 (xar .quo .u64 m 10) 10)))],sC (a6n [.int .u8 (xwr .u8 (xar .add .u64 48 (xar .rem .u64 (xar .quo .u64 m 10) 10)))] (a3o cs 0 (a1t k 1))) 1] []))
 else(
 K (.exit 0) [.int .u64 m,.any,.slo 0 0 k 0] [sC cs 1] [])):=by kernel_rfl
theorem g8l (k:Nat) (cs:List LV) (K:Pk):(xsp prog (fun _=>none) 40 22 ((sp prog 17).drop 3) (a1p 22 [(3,.slo 0 0 k 0)]) (mkS [.cells cs (some 1)]) (vK [0,2,3] K))=(
 ck (xle (a0a 0 (a1t k 1)) (xln cs)) <|
 ck (d5f (a3o cs 0 (a1t k 1))) <|
 K .ret [.any,.str (b5f (a3o cs 0 (a1t k 1))),.slo 0 0 k 0] [sC cs 1] []):=by kernel_rfl
theorem f3k:∀ (k u:Nat),u < 10 ^ (k+1)→Lib.nDigits u≤k+1
 | 0,u,h=>by rw [Lib.nDigits_small (by simpa using h)]; omega
 | k+1,u,h=>by
   by_cases c:u < 10
   ·rw [Lib.nDigits_small c]; omega
   ·rw [Lib.nDigits_big c]
    have:=f3k k (u / 10) (by rw [Nat.pow_succ] at h; omega)
    omega
def c3d (n:Int):List UInt8:=Lib.decDigits n.toNat
theorem c5c (u:Nat):c3d (u:Int)=Lib.decDigits u:=by rw [c3d,Int.toNat_natCast]
theorem b9n {n:Int} (h0:0≤n) (h1:n≤18446744073709551615):(c3d n).length≤20:=by
 rw [c3d,Lib.decDigits_length]
 exact f3k 19 _ (by omega)
abbrev byt (xs:List Int):List UInt8:=xs.map fun x=>UInt8.ofNat x.toNat
theorem b7e:∀ xs:List Int,b5f (a0f (cI .u8) xs)=byt xs
 | []=>rfl
 | x::r=>by
   show UInt8.ofNat x.toNat::b5f (a0f (cI .u8) r)=_
   rw [b7e r]; rfl
theorem c5l:∀ xs:List Int,d5f (a0f (cI .u8) xs)=true
 | []=>rfl
 | x::r=>by
   have:=c5l r
   simp only [d5f] at this
   simp only [d5f,a0f,cI,List.cons_append,List.nil_append,List.all_cons,this,isI,Bool.and_true]
   rfl
def d0t (m:Nat):List UInt8:=if m < 10 then [] else Lib.decDigits (m / 10)
theorem d0s (m:Nat):Lib.decDigits m=d0t m++[UInt8.ofNat (48+m % 10)]:=by
 unfold d0t
 by_cases c:m < 10
 ·rw [if_pos c,Lib.decDigits_one c,Nat.mod_eq_of_lt c]; rfl
 ·rw [if_neg c,Lib.decDigits,dif_neg c]
theorem d2u (m:Nat):xwr .u8 (xar .add .u64 48 (xar .rem .u64 (m:Int) 10))=((48+m % 10:Nat):Int):=by
 rw [d7h _ _ _ (by omega),Int.tmod_eq_emod_of_nonneg (by omega),c3q,a4x (by omega) (by omega)]
 exact(c9l (by omega) (by omega)).trans (by omega)
theorem d4k (m:Nat) (h:m≤18446744073709551615):xar .quo .u64 (m:Int) 10=((m / 10:Nat):Int):=by
 rw [c9j _ _ _ (by omega),Int.tdiv_eq_ediv_of_nonneg (by omega),a4x (by omega) (by omega)]
 omega
theorem g1n (N:Nat) (hN:N≤18446744073709551615):a0k prog 17 [.int .u64 (N:Int)] (mkS []) fun l s=>l=.str (c3d (N:Int))∧s=mkS []:=by
 refine a0k.mono (a0k.g9n (Q:=fun l b=>l=.str (c3d (N:Int))∧b=[]) 22 0 [0,2,3] [2] (by kernel_rfl) rfl rfl rfl ?_) fun l s' ⟨b0,⟨h1,h2⟩,h3⟩=>⟨h1,by rw [h3,h2]⟩
 have hlen:∀ (m:Nat) (xs:List Int),Lib.decDigits N=d0t m++byt xs→xs.length≤20:=fun m xs h=>by
  have h1:=congrArg List.length h
  have h2:=b9n (n:=(N:Int)) (by omega) (by omega)
  rw [c5c] at h2
  simp only [List.length_append,byt,List.length_map] at h1
  omega
 refine SSp.to a0j (n:=40) (g:=[]) 2 2 rfl (σ:={p:Nat×List Int // p.1≤N∧1≤p.2.length∧Lib.decDigits N=d0t p.1++byt p.2}) (fun p=>[(0,.int .u64 (p.1.1:Int)),(3,.slo 0 0 p.1.2.length 0)]) (fun p=>[.cells (a0f (cI .u8) p.1.2) (some 1)]) (Nat.zero_le _) (by kernel_rfl) ?_ fun⟨⟨m0,xs0⟩,hm0,hx0,he0⟩=>?_
 ·have n1:a1q (a0f (cI .u8) [((48+N % 10:Nat):Int)])=true:=rfl
  rw [g8n,d2u]
  exact⟨rfl,⟨(N,[((48+N % 10:Nat):Int)]),Nat.le_refl _,Nat.le_refl _,by rw [d0s]; simp only [byt,List.map_cons,List.map_nil,Int.toNat_natCast]⟩,[.cap 0 0 1],by dsimp only; rw [show a0f (cI .u8) [((48+N % 10:Nat):Int)]=[.int .u8 ((48+N % 10:Nat):Int)] from rfl]; (exact zD)⟩
 refine SSp.code_to (g:=[]) 3 rfl (σ:={xs:List Int // 1≤xs.length∧Lib.decDigits N=byt xs}) (fun xs=>[(3,.slo 0 0 xs.1.length 0)]) (fun xs=>[.cells (a0f (cI .u8) xs.1) (some 1)]) (by kernel_rfl) ?_ fun⟨xs,hx,he⟩=>?_
 ·refine a0p.g9s a0j (n:=40) (n0:=0) 0 (by kernel_rfl) (σ:={p:Nat×List Int // p.1≤N∧1≤p.2.length∧Lib.decDigits N=d0t p.1++byt p.2}) (fun p=>[(0,.int .u64 (p.1.1:Int)),(3,.slo 0 0 p.1.2.length 0)]) (fun p=>[.cells (a0f (cI .u8) p.1.2) (some 1)]) (fun p=>p.1.1) (fun _=>Nat.zero_le _) (fun⟨⟨m,xs⟩,hm,hx,he⟩=>?_) ⟨(m0,xs0),hm0,hx0,he0⟩
  dsimp only
  have hx:1≤xs.length:=hx
  have hm:m≤N:=hm
  have he:Lib.decDigits N=d0t m++byt xs:=he
  have nx:a1q (a0f (cI .u8) xs)=true:=a1y (fun _=>rfl) _
  have hl:=hlen m xs he
  have ll:(a0f (cI .u8) xs).length=xs.length:=by rw [a1v (w:=1) (fun _=>rfl)]; omega
  rw [g8m,d4k m (by omega),d2u]
  by_cases c:10≤m
  ·have hc:a3o (a0f (cI .u8) xs) 0 xs.length=a0f (cI .u8) xs:=a3r (by omega)
   have e1:m / 10≤N:=by omega
   have nx2:a1q (a0f (cI .u8) (((48+m / 10 % 10:Nat):Int)::xs))=true:=a1y (fun _=>rfl) _
   have ec:a6n [.int .u8 ((48+m / 10 % 10:Nat):Int)] (a0f (cI .u8) xs)=a0f (cI .u8) (((48+m / 10 % 10:Nat):Int)::xs):=rfl
   have he2:Lib.decDigits N=d0t (m / 10)++byt (((48+m / 10 % 10:Nat):Int)::xs):=by
    rw [he]
    have:d0t m=d0t (m / 10)++[UInt8.ofNat (48+m / 10 % 10)]:=by rw [← d0s]; unfold d0t; rw [if_neg (by omega)]
    rw [this,List.append_assoc]
    simp only [byt,List.map_cons,Int.toNat_natCast,List.cons_append,List.nil_append]
   have k1:xle (1+xs.length) 1=false:=by rw [c9q]; exact decide_eq_false (by omega)
   have k2:xle (1+xs.length) 1000000=true:=a1n (by omega)
   have e7:1+xs.length=xs.length+1:=by omega
   simp only [a2w,d5m,d5k,a5j,a1o,a2g,a3e,Nat.zero_add,Nat.mul_one,a3d,a2q,d5l,d5n,c9p,d3b,d3c,c7f,decide_true,cond_true,b8h,b8i,c5r,c5s,hc,ll,ec,k1,k2]
   (refine zR ?_)
   exact⟨rfl,⟨(m / 10,((48+m / 10 % 10:Nat):Int)::xs),e1,by simp,he2⟩,by simp only; omega,[.id 2],by dsimp only; rw [List.length_cons,← e7]; (exact zC)⟩
  ·(refine zR ?_)
   exact⟨rfl,⟨xs,hx,by rw [he]; unfold d0t; rw [if_pos (by omega)]; rfl⟩,[.id 0],by dsimp only; (exact zC)⟩
 ·have hl:xs.length≤20:=by
   have h2:=b9n (n:=(N:Int)) (by omega) (by omega)
   rw [c5c,he] at h2
   simpa [byt] using h2
  have ll:(a0f (cI .u8) xs).length=xs.length:=by rw [a1v (w:=1) (fun _=>rfl)]; omega
  have hc:a3o (a0f (cI .u8) xs) 0 xs.length=a0f (cI .u8) xs:=a3r (by omega)
  have h8:=c5l xs
  refine SSp.last a0j (n:=40) (Nat.zero_le _) ?_
  rw [g8l]
  (refine zN4 @hc @ll @h8 @b7e ?_)
  (refine zR ?_)
  exact⟨trivial,rfl,_,_,[],⟨by rw [c5c,he],rfl⟩,by(exact zC)⟩
end
end Go.Lev
/- strconv.FormatUint in tens: the numeral -/
namespace Go.Lev
set_option linter.unusedSimpArgs false
set_option linter.unusedVariables false
open Go.RowKit Go.Proofs Go.Shelf Go.Sort
end Go.Lev
/- strconv's FormatUint and Itoa as contracts -/
namespace Go.Lev
set_option linter.unusedSimpArgs false
set_option linter.unusedVariables false
open Go.RowKit
open Go.Proofs.Tryd (prog)
set_option maxRecDepth 100000
noncomputable section
def b8t:World→Prop:=fun w=>Lib.TabIs prog w "internal/strconv.uint64pow10" .u64 Lib.pow10Tab
def b6j (F:World→Prop):Bool:=@decide (F=b8t) (Classical.propDecidable _)
theorem a8d:b6j b8t=true:=by simp [b6j]
theorem b3m {F:World→Prop} (h:b6j F=true):F=b8t:=by simpa [b6j] using h
def dcG:Gc:=fun args s=>match args,s.g with
 | [.int .u64 n],[]=>some ([xcm .leq 0 n,xcm .leq n 18446744073709551615],.str (c3d n),s)
 | _,_=>none
theorem f5g:GOk prog 17 dcG:=by
 intro args s bs l s' hg hb hfr
 unfold dcG at hg
 split at hg
 ·rename_i n hgl
  simp only [Option.some.injEq,Prod.mk.injEq] at hg
  obtain⟨rfl,rfl,rfl⟩:=hg
  obtain⟨k1,k2⟩:=a0g.1 hb
  obtain⟨k2,_⟩:=a0g.1 k2
  have q1:0≤n:=by rwa [a7q,decide_eq_true_eq] at k1
  have q2:n≤18446744073709551615:=by rwa [a7q,decide_eq_true_eq] at k2
  obtain⟨u,rfl⟩:∃ u:Nat,n=(u:Int):=⟨n.toNat,by omega⟩
  exact a0k.g9h hfr hgl rfl rfl (g1n u (by omega))
 ·cases hg
end
end Go.Lev
