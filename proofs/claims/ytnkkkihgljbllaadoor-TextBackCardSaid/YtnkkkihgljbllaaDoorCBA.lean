import Derived.Test.YtnkkkihgljbllaaDoorCPD
import Derived.Test.YtnkkkihgljbllaaDoorLc
import Derived.Test.YtnkkkihgljbllaaDoorChecked
import Derived.KernelRfl
import Derived.Test.YtnkkkihgljbllaaDoorCQ8
import Derived.Test.YtnkkkihgljbllaaDoorCT3
import Derived.Test.YtnkkkihgljbllaaDoorCY3
import Derived.Test.YtnkkkihgljbllaaDoorCQ2
import Derived.Test.YtnkkkihgljbllaaDoorCP5
import Derived.Test.YtnkkkihgljbllaaDoorCP7
import Derived.Test.YtnkkkihgljbllaaDoorCPA
import Derived.Test.YtnkkkihgljbllaaDoorCPC
import Derived.Test.YtnkkkihgljbllaaDoorCQ9
import Derived.Test.YtnkkkihgljbllaaDoorCL1
import Derived.Test.YtnkkkihgljbllaaDoorRows
import Derived.Lib.LaidTab
/- TextPlaces: what the text is, in lines -/
namespace Go.Lev
set_option linter.unusedSimpArgs false
set_option linter.unusedVariables false
open Go.RowKit
open Go.Proofs.Tryd (prog)
set_option maxRecDepth 100000
noncomputable section
theorem rn_two {l:List UInt8} {p:Nat} (h0:l[p]? = some 195) (h1:l[p+1]? = some 169):xrn l p=233∧xrw l p=2:=by
 have k0:p+1 < l.length:=(List.getElem?_eq_some_iff.1 h1).1
 have g:∀ k b,l[p+k]? = some b→(⟨l.toArray⟩:ByteArray).get! (p+k)=b:=fun k b h=>by
  simp only [ByteArray.get!]
  have hl:p+k < l.length:=(List.getElem?_eq_some_iff.1 h).1
  rw [getElem!_pos l.toArray (p+k) (by simpa using hl)]
  simpa using (List.getElem?_eq_some_iff.1 h).2
 have hs:(⟨l.toArray⟩:ByteArray).size=l.length:=rfl
 have a0:=g 0 195 (by simpa using h0)
 have a1:=g 1 169 h1
 have hd:Utf8.decode ⟨l.toArray⟩ p=(233,2):=by
  unfold Utf8.decode
  simp only [hs,a0,a1]
  have e0:(195:UInt8).toNat=195:=rfl
  have e1:(169:UInt8).toNat=169:=rfl
  simp only [e0,e1]
  rw [if_neg (by decide),if_pos (by simp; omega)]
  simp
 unfold xrn xrw
 rw [hd]
 exact⟨rfl,rfl⟩
theorem drop_get {l r:List UInt8} {p:Nat} {b:UInt8} (h:l.drop p=b::r):l[p]? = some b∧p < l.length∧l.drop (p+1)=r:=by
 have hp:p < l.length:=by
  rcases Nat.lt_or_ge p l.length with k | k
  ·exact k
  ·rw [List.drop_of_length_le k] at h; cases h
 rw [List.drop_eq_getElem_cons hp] at h
 simp only [List.cons.injEq] at h
 exact⟨by rw [List.getElem?_eq_getElem hp,h.1],hp,h.2⟩
abbrev Tok:=List UInt8×Int
def vTok (x:Tok):Bool:=match x with
 | ([b],r)=>decide (b.toNat < 128) && decide (r=(b.toNat:Int))
 | (bs,r)=>bs == [195,169] && decide (r=233)
abbrev bys (k:List Tok):List UInt8:=(k.map Prod.fst).flatten
theorem tok_dec {t suf:List UInt8} {p:Nat} {x:Tok} (hv:vTok x=true) (h:t.drop p=x.1++suf):p < t.length∧xrn t p=x.2∧xrw t p=x.1.length∧t.drop (p+x.1.length)=suf:=by
 obtain⟨bs,r⟩:=x
 have two:(bs == [195,169] && decide (r=233))=true→p < t.length∧xrn t p=r∧xrw t p=bs.length∧t.drop (p+bs.length)=suf:=fun hv=>by
  simp only [Bool.and_eq_true,beq_iff_eq,decide_eq_true_eq] at hv
  obtain⟨rfl,rfl⟩:=hv
  obtain⟨q1,q2,q3⟩:=drop_get (show t.drop p=195::(169::suf) from h)
  obtain⟨q4,q5,q6⟩:=drop_get q3
  obtain⟨k1,k2⟩:=rn_two q1 q4
  exact⟨q2,k1,k2,q6⟩
 match bs,hv,two,h with
 | [],hv,two,h=>exact two hv
 | [b],hv,two,h =>
   simp only [vTok,Bool.and_eq_true,decide_eq_true_eq] at hv
   obtain⟨q1,q2,q3⟩:=drop_get (show t.drop p=b::suf from h)
   obtain⟨k1,k2⟩:=rn_ascii q1 hv.1
   exact⟨q2,by rw [k1]; exact hv.2.symm,k2,q3⟩
 | a::b::c,hv,two,h=>exact two hv
theorem spG_tok {t suf:List UInt8} {p:Nat} {x:Tok} {S:SpS} (hv:vTok x=true) (h:t.drop p=x.1++suf) (hx:x.2≠10):spG t p S=spG t (p+x.1.length) (spR t S p x.2):=by
 obtain⟨h1,h2,h3,_⟩:=tok_dec hv h
 rw [spG,dif_pos h1,h2,h3,if_neg hx]
theorem spG_nl {t suf:List UInt8} {p:Nat} {S:SpS} (h:t.drop p=10::suf):spG t p S=spL t S p::spG t (p+1) (spN S):=by
 obtain⟨h1,h2,h3,_⟩:=tok_dec (x:=([10],10)) (t:=t) (suf:=suf) rfl h
 rw [spG,dif_pos h1,h2,h3,if_pos rfl]
 rfl
theorem cut_mid {t w suf:List UInt8} {p:Nat} (h:t.drop p=w++suf):xscut t p (p+w.length)=w:=by
 simp [xscut,h]
end
end Go.Lev
/- TextPlaces: how long a program's text is; the numbers of a drawn program -/
namespace Go.Lev
set_option linter.unusedSimpArgs false
set_option linter.unusedVariables false
open Go.RowKit
open Go.Proofs.Tryd (prog)
set_option maxRecDepth 100000
noncomputable section
theorem dec2 {n:Int} (h0:0≤n) (h1:n≤40):(decW n).length≤2:=by
 rw [decW,Lib.decDigits_length]
 exact nd_le 1 _ (by omega)
theorem call10 (n:Int):(callW n).length≤10:=by
 have hc:∀ m:Nat,(clN m).length≤10:=fun m=>by
  unfold clN; split <;> simp
 exact hc _
theorem name6 (op:Int):(nameW op).length≤6:=by
 have hc:∀ m:Nat,(nmN m).length≤6:=fun m=>by
  unfold nmN; split <;> simp
 exact hc _
theorem sg11 {s n:Int} (h0:0≤n) (h1:n≤40):(sgW s n).length≤11:=by
 have a:=dec2 h0 h1; have b:=call10 n
 unfold sgW pvW
 split
 ·simp
 ·split
  ·simp; omega
  ·split
   ·simp; omega
   ·split <;> simp <;> omega
theorem line70 {op a b c n:Int} (h:mayW op a b c n=true) (hn:0≤n∧n≤18446744073709551615):(lineW op a b c n).length≤70:=by
 obtain⟨⟨o1,o2⟩,⟨a1,a2⟩,⟨b1,b2⟩,c1,c2⟩:=may_b h
 have sa:=sg11 (s:=fA op) a1 a2; have sb:=sg11 (s:=fB op) b1 b2; have sc:=sg11 (s:=fC op) c1 c2; have sd:=sg_len (s:=fD op) hn.1 hn.2
 have ln:=name6 op
 unfold lineW
 simp only [List.length_append]
 omega
theorem lab5 (b:Bool) (k:Nat) (hk:k≤40) (x y:UInt8):(labX b k [x,y]).length≤5:=by
 have:=dec2 (n:=(k:Int)) (by omega) (by omega)
 unfold labX; split <;> simp <;> omega
theorem outK_76 {L:List InsR} (h:okP L) (hb:∀ x∈L,ins_bd x):∀ k,k≤L.length→(outK L k).length≤76 * k
 | 0,_=>by simp [outK]
 | k+1,hk=>by
   have i:=outK_76 h hb k (by omega)
   have hx:L[k]∈L:=List.getElem_mem (by omega)
   have l1:(lnX L[k]).length≤70:=line70 (h.2 _ hx).1 (by have:=(hb _ hx).2.2.2.2; exact this)
   have l2:=lab5 (nmB L k) k (by have:=h.1; omega) 58 32
   rw [outK_succ (by omega)]
   simp only [List.length_append,List.length_cons,List.length_nil]
   omega
theorem ptx_len {L:List InsR} (hb:∀ x∈L,ins_bd x):(ptxW (encL insE L)).length≤3100:=by
 by_cases h:okP L
 ·rw [ptxW_ok h,outL]
  have i:=outK_76 h hb L.length (Nat.le_refl _)
  have l2:=lab5 (nmB L L.length) L.length h.1 58 10
  have:=h.1
  simp only [List.length_append]
  omega
 ·rw [ptxW_no h]; simp
theorem bd_mk {op a b c n:Int} (h1:0≤op∧op≤100) (h2:0≤a∧a≤2000) (h3:0≤b∧b≤2000) (h4:0≤c∧c≤2000) (h5:0≤n∧n≤18446744073709551615):ins_bd ⟨op,a,b,c,n⟩:=by
 have e1:IntKind.min .i64 = -9223372036854775808:=rfl
 have e2:IntKind.max .i64=9223372036854775807:=rfl
 have e3:IntKind.min .u64=0:=rfl
 have e4:IntKind.max .u64=18446744073709551615:=rfl
 refine⟨⟨?_,?_⟩,⟨?_,?_⟩,⟨?_,?_⟩,⟨?_,?_⟩,?_,?_⟩ <;> simp only [e1,e2,e3,e4] <;> omega
theorem sim_bd {w a b c n:Int} (hn:0≤n∧n≤18446744073709551615):ins_bd (simF w a b c n):=by
 have wa:=wthV_in (a:=a) (lo:=0) (hi:=6) (by omega)
 have wb:=wthV_in (a:=b) (lo:=0) (hi:=6) (by omega)
 have wc:=wthV_in (a:=c) (lo:=0) (hi:=6) (by omega)
 have wd:=wthV_in (a:=c) (lo:=6) (hi:=15) (by omega)
 have we:=wthV_in (a:=c) (lo:=0) (hi:=3) (by omega)
 have wf:=wthV_in (a:=xwr .i64 (xar .rem .u64 n 64)) (lo:=0) (hi:=4) (by omega)
 have hr:0≤xar .rem .u64 n 20∧xar .rem .u64 n 20≤18446744073709551615:=by
  rw [xar_rem _ _ _ (by omega),Int.tmod_eq_emod_of_nonneg hn.1]; omega
 have ha:xar .add .i64 3 (wthV (xwr .i64 (xar .rem .u64 n 64)) 0 4)=3+wthV (xwr .i64 (xar .rem .u64 n 64)) 0 4:=add_i64 (by omega) (by omega)
 unfold simF simV
 rw [ha]
 repeat' (split)
 all_goals (refine bd_mk ?_ ?_ ?_ ?_ ?_ <;> omega)
theorem I1_bd {k:Int} (h:0≤k∧k≤100):ins_bd (I1 k):=bd_mk h (by omega) (by omega) (by omega) (by omega)
def allBd (l:List InsR):Prop:=∀ x∈l,ins_bd x
theorem allBd_app {a b:List InsR} (h:allBd a) (k:allBd b):allBd (a++b):=fun x hx=>(List.mem_append.1 hx).elim (h x) (k x)
theorem allBd_1 {x:InsR} (h:ins_bd x):allBd [x]:=fun y hy=>by rw [List.mem_singleton.1 hy]; exact h
theorem allBd_2 {x y:InsR} (h:ins_bd x) (k:ins_bd y):allBd [x,y]:=fun z hz=>by
 rcases List.mem_cons.1 hz with rfl | hz
 ·exact h
 ·rw [List.mem_singleton.1 hz]; exact k
theorem shS_bd {l:List InsR} {o:List Int} (h:allBd l):allBd (shS l o).1:=by
 unfold shS
 split
 ·exact allBd_app h (allBd_1 (I1_bd (by omega)))
 ·split
  ·exact allBd_app h (allBd_1 (I1_bd (by omega)))
  ·exact allBd_app h (allBd_1 (I1_bd (by omega)))
theorem zero_bd {v:Int} {n:Nat} (hv:0≤v∧v≤6) (hn:n≤1900):ins_bd ⟨13,v,0,(n:Int),0⟩:=bd_mk (by omega) (by omega) (by omega) (by omega) (by omega)
theorem gst_bd {calm:Bool} {x:KinR} {l:List InsR} {o:List Int} (hx:0≤x.n∧x.n≤18446744073709551615) (hl:l.length≤1000) (h:allBd l):allBd (gst calm x l o).1:=by
 have wa:=wthV_in (a:=x.a) (lo:=0) (hi:=6) (by omega)
 have wb:=wthV_in (a:=x.b) (lo:=0) (hi:=6) (by omega)
 have hs:=sim_bd (w:=x.w) (a:=x.a) (b:=x.b) (c:=x.c) hx
 unfold gst
 split
 ·exact allBd_app h (allBd_1 (I1_bd (by omega)))
 split
 ·exact allBd_app h (allBd_1 (I1_bd (by omega)))
 split
 ·exact shS_bd h
 split
 ·exact allBd_app h (allBd_1 (I1_bd (by omega)))
 split
 ·exact allBd_app h (allBd_2 (zero_bd (by omega) (by omega)) (I1_bd (by omega)))
 split
 ·exact allBd_app h (allBd_2 (zero_bd (by omega) (by omega)) (I1_bd (by omega)))
 split
 ·exact allBd_app h (allBd_2 (zero_bd (by omega) (by omega)) (I1_bd (by omega)))
 split
 ·exact allBd_app h (allBd_2 (zero_bd (by omega) (by omega)) hs)
 split
 ·exact allBd_app h (allBd_2 hs (zero_bd (by omega) (by omega)))
 ·exact allBd_app h (allBd_1 hs)
theorem gL_bd {m:Int} {calm:Bool} (hm:m≤1000):∀ (ks:List KinR) (l:List InsR) (o:List Int),(∀ x∈ks,0≤x.n∧x.n≤18446744073709551615)→allBd l→allBd (gL m calm ks l o).1
 | [],l,o,_,h=>h
 | x::r,l,o,hk,h=>by
   unfold gL
   split
   ·exact h
   ·exact gL_bd hm r _ _ (fun y hy=>hk y (by simp [hy])) (gst_bd (hk x (by simp)) (by omega) h)
theorem gC_bd:∀ (f:Nat) (l:List InsR) (o:List Int),allBd l→allBd (gC f l o)
 | 0,l,o,h=>h
 | f+1,l,o,h=>by
   unfold gC
   split
   ·exact h
   ·exact gC_bd f _ _ (shS_bd h)
theorem gF_bd {ks:List KinR} {m:Int} {calm:Bool} (hm:m≤1000) (hk:∀ x∈ks,0≤x.n∧x.n≤18446744073709551615):allBd (gF ks m calm):=by
 unfold gF
 split
 ·exact allBd_1 (bd_mk (by omega) (by omega) (by omega) (by omega) (by omega))
 ·exact gC_bd _ _ _ (gL_bd hm _ _ _ hk fun x hx=>by simp at hx)
end
end Go.Lev
/- text: a number comes back out of its text -/
namespace Go.Lev
set_option linter.unusedSimpArgs false
set_option linter.unusedVariables false
open Go.RowKit
open Go.Proofs.Tryd (prog)
set_option maxRecDepth 100000
noncomputable section
def dgG:List UInt8→Nat→Nat
 | [],n=>n
 | b::r,n=>dgG r (n * 10+(b.toNat - 48))
abbrev dgF (n:Nat) (l:List UInt8):Nat:=dgG l n
theorem dgF_app:∀ (a b:List UInt8) (n:Nat),dgF n (a++b)=dgF (dgF n a) b
 | [],b,n=>rfl
 | x::a,b,n=>dgF_app a b (n * 10+(x.toNat - 48))
theorem dgF_ge:∀ (a:List UInt8) (n:Nat),n≤dgF n a
 | [],n=>Nat.le_refl n
 | x::a,n=>by
   have:=dgF_ge a (n * 10+(x.toNat - 48))
   show n≤dgG a (n * 10+(x.toNat - 48))
   unfold dgF at this
   omega
def isDg (b:UInt8):Prop:=48≤b.toNat∧b.toNat≤57
theorem dg_toNat {k:Nat} (h:k < 10):(UInt8.ofNat (48+k)).toNat=48+k:=by
 rw [UInt8.toNat_ofNat']; omega
theorem dec_dg:∀ (n u:Nat),u=n→∀ b∈Lib.decDigits u,isDg b:=by
 intro n
 induction n using Nat.strongRecOn with
 | _ n ih =>
   intro u hu b hb
   rw [Lib.decDigits] at hb
   split at hb
   ·rw [List.mem_singleton.1 hb,isDg,dg_toNat (by omega)]; omega
   ·rcases List.mem_append.1 hb with hb | hb
    ·exact ih (u / 10) (by omega) _ rfl b hb
    ·rw [List.mem_singleton.1 hb,isDg,dg_toNat (by omega)]; omega
theorem dgF_dec:∀ (n u:Nat),u=n→dgF 0 (Lib.decDigits u)=u:=by
 intro n
 induction n using Nat.strongRecOn with
 | _ n ih =>
   intro u hu
   rw [Lib.decDigits]
   split
   ·show 0 * 10+((UInt8.ofNat (48+u)).toNat - 48)=u
    rw [dg_toNat (by omega)]; omega
   ·rw [dgF_app,ih (u / 10) (by omega) _ rfl]
    show u / 10 * 10+((UInt8.ofNat (48+u % 10)).toNat - 48)=u
    rw [dg_toNat (by omega)]; omega
theorem drD_dg:∀ k:Fin 10,xwr .u64 (xar .sub .i32 ((48+k.1:Nat):Int) 48)=(k.1:Int):=by decide
theorem drF_run {s:List UInt8} {m:Int} (hm:m≤18446744073709551615):∀ (ds:List UInt8) (p n:Nat),s.drop p=ds→(∀ b∈ds,isDg b)→((dgF n ds:Nat):Int)≤m→drF s m p (n:Int)=some ((dgF n ds:Nat):Int)
 | [],p,n,h,_,_=>by
   have hp:¬ p < s.length:=by
    intro k
    rw [List.drop_eq_getElem_cons k] at h; cases h
   rw [drF,dif_neg hp]
   rfl
 | b::r,p,n,h,hd,hv=>by
   have hp:p < s.length:=by
    rcases Nat.lt_or_ge p s.length with k | k
    ·exact k
    ·rw [List.drop_of_length_le k] at h; cases h
   have h':=h
   rw [List.drop_eq_getElem_cons hp] at h'
   simp only [List.cons.injEq] at h'
   obtain⟨b1,b2⟩:=hd b (by simp)
   obtain⟨k1,k2⟩:=rn_ascii (l:=s) (p:=p) (b:=b) (by rw [List.getElem?_eq_getElem hp,h'.1]) (by omega)
   have ed:drD s p=((b.toNat - 48:Nat):Int):=by
    have:=drD_dg ⟨b.toNat - 48,by omega⟩
    rw [drD,k1]
    have e:((b.toNat:Nat):Int)=((48+(b.toNat - 48):Nat):Int):=by omega
    rw [e]; exact this
   have hg:=dgF_ge r (n * 10+(b.toNat - 48))
   change ((dgG r (n * 10+(b.toNat - 48)):Nat):Int)≤m at hv
   change drF s m p (n:Int)=some ((dgG r (n * 10+(b.toNat - 48)):Nat):Int)
   unfold dgF at hg
   have hq:xar .quo .u64 m 10=m / 10:=by
    rw [xar_quo _ _ _ (by omega),Int.tdiv_eq_ediv_of_nonneg (by omega)]
    exact wrap_u64 (by omega) (by omega)
   have hmu:xar .mul .u64 (n:Int) 10=(n:Int) * 10:=by rw [xar_mul]; exact wrap_u64 (by omega) (by omega)
   have hsu:xar .sub .u64 m ((b.toNat - 48:Nat):Int)=m - ((b.toNat - 48:Nat):Int):=by rw [xar_sub]; exact wrap_u64 (by omega) (by omega)
   have had:xar .add .u64 ((n:Int) * 10) ((b.toNat - 48:Nat):Int)=((n * 10+(b.toNat - 48):Nat):Int):=by
    rw [xar_add,wrap_u64 (by omega) (by omega)]; omega
   rw [drF,dif_pos hp,ed,hq,hmu,hsu,had,k1,k2,if_neg (by omega),if_neg (by omega),if_neg (by omega),if_neg (by omega),if_neg (by omega)]
   exact drF_run hm r (p+1) _ h'.2 (fun y hy=>hd y (by simp [hy])) hv
theorem dec_head:∀ (n u:Nat),u=n→10≤u→∃ b r,Lib.decDigits u=b::r∧b.toNat≠48∧r≠[]:=by
 intro n
 induction n using Nat.strongRecOn with
 | _ n ih =>
   intro u hu h
   rw [Lib.decDigits,dif_neg (by omega)]
   by_cases k:u / 10 < 10
   ·refine⟨UInt8.ofNat (48+u / 10),[UInt8.ofNat (48+u % 10)],by rw [Lib.decDigits_one k]; rfl,by rw [dg_toNat k]; omega,by simp⟩
   ·obtain⟨b,r,h1,h2,h3⟩:=ih (u / 10) (by omega) _ rfl (by omega)
    exact⟨b,r++[UInt8.ofNat (48+u % 10)],by rw [h1]; rfl,h2,by simp⟩
theorem drQ_dec (u:Nat):drQ (Lib.decDigits u)=false:=by
 by_cases h:u < 10
 ·rw [Lib.decDigits_one h]; rfl
 ·obtain⟨b,r,h1,h2,h3⟩:=dec_head u u rfl (by omega)
  rw [h1]
  have e:xcm .eql (xbyte (b::r) 0) 48=false:=f_eql (show((b.toNat:Nat):Int)≠48 by omega)
  unfold drQ
  rw [e,Bool.and_false]
  rfl
theorem dr_dec {n m:Int} (h0:0≤n) (h:n≤m) (hm:m≤18446744073709551615):drV (decW n) m=some n:=by
 obtain⟨u,rfl⟩:=Int.eq_ofNat_of_zero_le h0
 have e:decW (u:Int)=Lib.decDigits u:=rfl
 unfold drV
 rw [e,if_neg (by rw [drQ_dec]; simp)]
 have:=drF_run (s:=Lib.decDigits u) (m:=m) hm (Lib.decDigits u) 0 0 rfl (dec_dg u u rfl) (by rw [dgF_dec u u rfl]; exact h)
 rw [dgF_dec u u rfl] at this
 exact this
end
end Go.Lev
/- text: fields come back out of their text -/
namespace Go.Lev
set_option linter.unusedSimpArgs false
set_option linter.unusedVariables false
open Go.RowKit
open Go.Proofs.Tryd (prog)
set_option maxRecDepth 100000
noncomputable section
def mxW (k:Int):Int:=if k=1 then 7 else if k=2 then 6 else if k=3 then 15 else if k=4 then 40 else if k=5 then 7 else if k=6 then 12 else 18446744073709551615
theorem dr_nb {n m:Int} (h0:0≤n) (h:n≤m) (hm:m≤18446744073709551615):drN (decW n) m=n∧drB (decW n) m=true:=by
 unfold drN drB
 rw [dr_dec h0 h hm]; exact⟨rfl,rfl⟩
theorem lt_dg:∀ k:Fin 10,ltB ((48+k.1:Nat):Int)=false:=by decide
theorem nmF_dg {s:List UInt8}:∀ (ds:List UInt8) (p:Nat) (k:Int),s.drop p=ds→(∀ b∈ds,isDg b)→1≤k→k+ds.length≤8→nmF s p k=true
 | [],p,k,h,_,hk,hl=>by
   have hp:¬ p < s.length:=by
    intro q
    rw [List.drop_eq_getElem_cons q] at h; cases h
   rw [nmF,dif_neg hp]
   simp at hl ⊢; omega
 | b::r,p,k,h,hd,hk,hl=>by
   obtain⟨q1,q2,q3⟩:s[p]? = some b∧p < s.length∧s.drop (p+1)=r:=by
    have hp:p < s.length:=by
     rcases Nat.lt_or_ge p s.length with q | q
     ·exact q
     ·rw [List.drop_of_length_le q] at h; cases h
    rw [List.drop_eq_getElem_cons hp] at h
    simp only [List.cons.injEq] at h
    exact⟨by rw [List.getElem?_eq_getElem hp,h.1],hp,h.2⟩
   obtain⟨b1,b2⟩:=hd b (by simp)
   obtain⟨k1,k2⟩:=rn_ascii q1 (by omega)
   have el:ltB ((b.toNat:Nat):Int)=false:=by
    have:=lt_dg ⟨b.toNat - 48,by omega⟩
    rw [show((48+(⟨b.toNat - 48,by omega⟩:Fin 10).1:Nat):Int)=((b.toNat:Nat):Int) by simp only; omega] at this
    exact this
   rw [nmF,dif_pos q2,k1,k2,el,if_neg (by simp),if_neg (by omega),if_neg (by omega),if_neg (by omega)]
   exact nmF_dg r (p+1) (k+1) q3 (fun y hy=>hd y (by simp [hy])) (by omega) (by simp at hl; omega)
theorem isn_lab {c:Int} (h0:0≤c) (h1:c≤40):isnB (108::decW c)=true:=by
 have hl:(decW c).length≤2:=by
  rw [decW,Lib.decDigits_length]
  exact nd_le 1 _ (by omega)
 unfold isnB
 obtain⟨k1,k2⟩:=rn_ascii (l:=108::decW c) (p:=0) (b:=108) rfl (by decide)
 rw [nmF,dif_pos (by simp),k1,k2,if_pos (by rfl)]
 exact nmF_dg (decW c) 1 1 rfl (dec_dg _ _ rfl) (by omega) (by omega)
theorem rv_reg {k v m:Int} (hk:k=1∨k=2) (hm:xwr .u64 (mostW k)=m) (hm2:m≤18446744073709551615) (h0:0≤v) (h1:v≤m):rvB k (114::decW v)=true∧rvN k (114::decW v)=v:=by
 have ec:xscut (114::decW v) 1 (114::decW v).length=decW v:=by simp [xscut]
 have:=dr_nb h0 h1 hm2
 unfold rvB rvN rvV
 rw [if_pos hk,if_neg (by simp),if_neg (by show ¬ ((114:UInt8).toNat:Int)≠114; decide),ec,hm]
 exact⟨this.2,this.1⟩
theorem rv_num {k v m:Int} (hk:k≠1∧k≠2∧k≠6∧k≠7) (hm:xwr .u64 (mostW k)=m) (hm2:m≤18446744073709551615) (h0:0≤v) (h1:v≤m):rvB k (decW v)=true∧rvN k (decW v)=v:=by
 have:=dr_nb h0 h1 hm2
 unfold rvB rvN rvV
 rw [if_neg (by omega),if_neg hk.2.2.1,if_neg hk.2.2.2,hm]
 exact⟨this.2,this.1⟩
theorem cl_back:∀ k:Fin 12,whW (clN (k.1+1))=((k.1+1:Nat):Int)∧whB (clN (k.1+1))=true:=by decide
theorem nm_back:∀ k:Fin 23,opW (nmN (k.1+1))=((k.1+1:Nat):Int)∧opB (nmN (k.1+1))=true:=by decide
theorem name_back {op:Int} (h1:1≤op) (h2:op≤23):opW (nameW op)=op∧opB (nameW op)=true:=by
 have:=nm_back ⟨op.toNat - 1,by omega⟩
 unfold nameW
 rw [show op.toNat=(⟨op.toNat - 1,by omega⟩:Fin 23).1+1 by simp only; omega]
 refine⟨this.1.trans ?_,this.2⟩
 simp only; omega
theorem rf_pv {k v:Int} (hk:1≤k∧k≤7) (h0:0≤v) (h1:v≤mxW k) (h6:k=6→1≤v):rfB k (pvW k v)=true∧(k≠4→rvN k (pvW k v)=v):=by
 have hc:k=1∨k=2∨k=3∨k=4∨k=5∨k=6∨k=7:=by omega
 rcases hc with rfl | rfl | rfl | rfl | rfl | rfl | rfl
 ·obtain⟨a,b⟩:=rv_reg (k:=1) (v:=v) (m:=7) (.inl rfl) rfl (by omega) h0 h1
  exact⟨a,fun _=>b⟩
 ·obtain⟨a,b⟩:=rv_reg (k:=2) (v:=v) (m:=6) (.inr rfl) rfl (by omega) h0 h1
  exact⟨a,fun _=>b⟩
 ·obtain⟨a,b⟩:=rv_num (k:=3) (v:=v) (m:=15) (by omega) rfl (by omega) h0 h1
  exact⟨a,fun _=>b⟩
 ·exact⟨isn_lab h0 h1,fun h=>absurd rfl h⟩
 ·obtain⟨a,b⟩:=rv_num (k:=5) (v:=v) (m:=7) (by omega) rfl (by omega) h0 h1
  exact⟨a,fun _=>b⟩
 ·have h6:=h6 rfl
  have h12:v≤12:=h1
  have:=cl_back ⟨v.toNat - 1,by omega⟩
  have e:pvW 6 v=clN ((⟨v.toNat - 1,by omega⟩:Fin 12).1+1):=by
   show clN v.toNat=_
   congr 1; simp only; omega
  rw [e]
  refine⟨this.2,fun _=>?_⟩
  show xwr .u64 (whW _)=v
  rw [this.1]
  exact(wrap_u64 (by omega) (by simp only; omega)).trans (by simp only; omega)
 ·have:=dr_nb h0 (show v≤18446744073709551615 from h1) (Int.le_refl _)
  exact⟨this.2,fun _=>this.1⟩
end
end Go.Lev
/- text: a printed instruction's words are read as the instruction -/
namespace Go.Lev
set_option linter.unusedSimpArgs false
set_option linter.unusedVariables false
open Go.RowKit
open Go.Proofs.Tryd (prog)
set_option maxRecDepth 100000
noncomputable section
def fldOk (k v:Int):Prop:=(k=0∧v=0)∨(1≤k∧k≤7∧0≤v∧v≤mxW k∧(¬ k=6∨1≤v))
theorem may_f {op a b c n:Int} (h:mayW op a b c n=true) (hn:0≤n∧n≤18446744073709551615):fldOk (fA op) a∧fldOk (fB op) b∧fldOk (fC op) c∧fldOk (fD op) n∧(fA op≠4∧fB op≠4∧fD op≠4)∧(fC op=4↔op=12∨op=13):=by
 obtain⟨h1,h2,_⟩:=mayW_iff.1 h
 rcases op_cases h1 h2 with rfl | rfl | rfl | rfl | rfl | rfl | rfl | rfl | rfl | rfl | rfl | rfl | rfl | rfl | rfl | rfl | rfl | rfl | rfl | rfl | rfl | rfl | rfl
 ·have:=(mw1 a b c n).1 h
  simp only [Bool.false_eq_true,false_or,true_or,and_true] at this
  exact⟨.inr ⟨(by decide:(1:Int)≤1),(by decide:(1:Int)≤7),by omega,(show a≤7 by omega),(show ¬ (1:Int)=6∨1≤a by omega)⟩,.inl ⟨rfl,by omega⟩,.inl ⟨rfl,by omega⟩,.inr ⟨(by decide:(1:Int)≤7),(by decide:(7:Int)≤7),by omega,(show n≤18446744073709551615 by omega),(show ¬ (7:Int)=6∨1≤n by omega)⟩,by decide,by decide⟩
 ·have:=(mw2 a b c n).1 h
  simp only [Bool.false_eq_true,false_or,true_or,and_true] at this
  exact⟨.inr ⟨(by decide:(1:Int)≤1),(by decide:(1:Int)≤7),by omega,(show a≤7 by omega),(show ¬ (1:Int)=6∨1≤a by omega)⟩,.inr ⟨(by decide:(1:Int)≤1),(by decide:(1:Int)≤7),by omega,(show b≤7 by omega),(show ¬ (1:Int)=6∨1≤b by omega)⟩,.inl ⟨rfl,by omega⟩,.inl ⟨rfl,by omega⟩,by decide,by decide⟩
 ·have:=(mw3 a b c n).1 h
  simp only [Bool.false_eq_true,false_or,true_or,and_true] at this
  exact⟨.inr ⟨(by decide:(1:Int)≤1),(by decide:(1:Int)≤7),by omega,(show a≤7 by omega),(show ¬ (1:Int)=6∨1≤a by omega)⟩,.inr ⟨(by decide:(1:Int)≤1),(by decide:(1:Int)≤7),by omega,(show b≤7 by omega),(show ¬ (1:Int)=6∨1≤b by omega)⟩,.inr ⟨(by decide:(1:Int)≤1),(by decide:(1:Int)≤7),by omega,(show c≤7 by omega),(show ¬ (1:Int)=6∨1≤c by omega)⟩,.inl ⟨rfl,by omega⟩,by decide,by decide⟩
 ·have:=(mw4 a b c n).1 h
  simp only [Bool.false_eq_true,false_or,true_or,and_true] at this
  exact⟨.inr ⟨(by decide:(1:Int)≤1),(by decide:(1:Int)≤7),by omega,(show a≤7 by omega),(show ¬ (1:Int)=6∨1≤a by omega)⟩,.inr ⟨(by decide:(1:Int)≤1),(by decide:(1:Int)≤7),by omega,(show b≤7 by omega),(show ¬ (1:Int)=6∨1≤b by omega)⟩,.inr ⟨(by decide:(1:Int)≤1),(by decide:(1:Int)≤7),by omega,(show c≤7 by omega),(show ¬ (1:Int)=6∨1≤c by omega)⟩,.inl ⟨rfl,by omega⟩,by decide,by decide⟩
 ·have:=(mw5 a b c n).1 h
  simp only [Bool.false_eq_true,false_or,true_or,and_true] at this
  exact⟨.inr ⟨(by decide:(1:Int)≤1),(by decide:(1:Int)≤7),by omega,(show a≤7 by omega),(show ¬ (1:Int)=6∨1≤a by omega)⟩,.inr ⟨(by decide:(1:Int)≤1),(by decide:(1:Int)≤7),by omega,(show b≤7 by omega),(show ¬ (1:Int)=6∨1≤b by omega)⟩,.inr ⟨(by decide:(1:Int)≤1),(by decide:(1:Int)≤7),by omega,(show c≤7 by omega),(show ¬ (1:Int)=6∨1≤c by omega)⟩,.inl ⟨rfl,by omega⟩,by decide,by decide⟩
 ·have:=(mw6 a b c n).1 h
  simp only [Bool.false_eq_true,false_or,true_or,and_true] at this
  exact⟨.inr ⟨(by decide:(1:Int)≤1),(by decide:(1:Int)≤7),by omega,(show a≤7 by omega),(show ¬ (1:Int)=6∨1≤a by omega)⟩,.inr ⟨(by decide:(1:Int)≤1),(by decide:(1:Int)≤7),by omega,(show b≤7 by omega),(show ¬ (1:Int)=6∨1≤b by omega)⟩,.inr ⟨(by decide:(1:Int)≤1),(by decide:(1:Int)≤7),by omega,(show c≤7 by omega),(show ¬ (1:Int)=6∨1≤c by omega)⟩,.inl ⟨rfl,by omega⟩,by decide,by decide⟩
 ·have:=(mw7 a b c n).1 h
  simp only [Bool.false_eq_true,false_or,true_or,and_true] at this
  exact⟨.inr ⟨(by decide:(1:Int)≤1),(by decide:(1:Int)≤7),by omega,(show a≤7 by omega),(show ¬ (1:Int)=6∨1≤a by omega)⟩,.inr ⟨(by decide:(1:Int)≤1),(by decide:(1:Int)≤7),by omega,(show b≤7 by omega),(show ¬ (1:Int)=6∨1≤b by omega)⟩,.inr ⟨(by decide:(1:Int)≤1),(by decide:(1:Int)≤7),by omega,(show c≤7 by omega),(show ¬ (1:Int)=6∨1≤c by omega)⟩,.inl ⟨rfl,by omega⟩,by decide,by decide⟩
 ·have:=(mw8 a b c n).1 h
  simp only [Bool.false_eq_true,false_or,true_or,and_true] at this
  exact⟨.inr ⟨(by decide:(1:Int)≤1),(by decide:(1:Int)≤7),by omega,(show a≤7 by omega),(show ¬ (1:Int)=6∨1≤a by omega)⟩,.inr ⟨(by decide:(1:Int)≤1),(by decide:(1:Int)≤7),by omega,(show b≤7 by omega),(show ¬ (1:Int)=6∨1≤b by omega)⟩,.inr ⟨(by decide:(1:Int)≤3),(by decide:(3:Int)≤7),by omega,(show c≤15 by omega),(show ¬ (3:Int)=6∨1≤c by omega)⟩,.inl ⟨rfl,by omega⟩,by decide,by decide⟩
 ·have:=(mw9 a b c n).1 h
  simp only [Bool.false_eq_true,false_or,true_or,and_true] at this
  exact⟨.inr ⟨(by decide:(1:Int)≤1),(by decide:(1:Int)≤7),by omega,(show a≤7 by omega),(show ¬ (1:Int)=6∨1≤a by omega)⟩,.inr ⟨(by decide:(1:Int)≤1),(by decide:(1:Int)≤7),by omega,(show b≤7 by omega),(show ¬ (1:Int)=6∨1≤b by omega)⟩,.inr ⟨(by decide:(1:Int)≤3),(by decide:(3:Int)≤7),by omega,(show c≤15 by omega),(show ¬ (3:Int)=6∨1≤c by omega)⟩,.inl ⟨rfl,by omega⟩,by decide,by decide⟩
 ·have:=(mw10 a b c n).1 h
  simp only [Bool.false_eq_true,false_or,true_or,and_true] at this
  exact⟨.inr ⟨(by decide:(1:Int)≤1),(by decide:(1:Int)≤7),by omega,(show a≤7 by omega),(show ¬ (1:Int)=6∨1≤a by omega)⟩,.inr ⟨(by decide:(1:Int)≤1),(by decide:(1:Int)≤7),by omega,(show b≤7 by omega),(show ¬ (1:Int)=6∨1≤b by omega)⟩,.inl ⟨rfl,by omega⟩,.inl ⟨rfl,by omega⟩,by decide,by decide⟩
 ·have:=(mw11 a b c n).1 h
  simp only [Bool.false_eq_true,false_or,true_or,and_true] at this
  exact⟨.inr ⟨(by decide:(1:Int)≤1),(by decide:(1:Int)≤7),by omega,(show a≤7 by omega),(show ¬ (1:Int)=6∨1≤a by omega)⟩,.inl ⟨rfl,by omega⟩,.inl ⟨rfl,by omega⟩,.inl ⟨rfl,by omega⟩,by decide,by decide⟩
 ·have:=(mw12 a b c n).1 h
  simp only [Bool.false_eq_true,false_or,true_or,and_true] at this
  exact⟨.inl ⟨rfl,by omega⟩,.inl ⟨rfl,by omega⟩,.inr ⟨(by decide:(1:Int)≤4),(by decide:(4:Int)≤7),by omega,(show c≤40 by omega),(show ¬ (4:Int)=6∨1≤c by omega)⟩,.inl ⟨rfl,by omega⟩,by decide,by decide⟩
 ·have:=(mw13 a b c n).1 h
  simp only [Bool.false_eq_true,false_or,true_or,and_true] at this
  exact⟨.inr ⟨(by decide:(1:Int)≤1),(by decide:(1:Int)≤7),by omega,(show a≤7 by omega),(show ¬ (1:Int)=6∨1≤a by omega)⟩,.inl ⟨rfl,by omega⟩,.inr ⟨(by decide:(1:Int)≤4),(by decide:(4:Int)≤7),by omega,(show c≤40 by omega),(show ¬ (4:Int)=6∨1≤c by omega)⟩,.inl ⟨rfl,by omega⟩,by decide,by decide⟩
 ·have:=(mw14 a b c n).1 h
  simp only [Bool.false_eq_true,false_or,true_or,and_true] at this
  exact⟨.inl ⟨rfl,by omega⟩,.inl ⟨rfl,by omega⟩,.inl ⟨rfl,by omega⟩,.inl ⟨rfl,by omega⟩,by decide,by decide⟩
 ·have:=(mw15 a b c n).1 h
  simp only [Bool.false_eq_true,false_or,true_or,and_true] at this
  exact⟨.inl ⟨rfl,by omega⟩,.inl ⟨rfl,by omega⟩,.inl ⟨rfl,by omega⟩,.inl ⟨rfl,by omega⟩,by decide,by decide⟩
 ·have:=(mw16 a b c n).1 h
  simp only [Bool.false_eq_true,false_or,true_or,and_true] at this
  exact⟨.inl ⟨rfl,by omega⟩,.inl ⟨rfl,by omega⟩,.inl ⟨rfl,by omega⟩,.inl ⟨rfl,by omega⟩,by decide,by decide⟩
 ·have:=(mw17 a b c n).1 h
  simp only [Bool.false_eq_true,false_or,true_or,and_true] at this
  exact⟨.inl ⟨rfl,by omega⟩,.inl ⟨rfl,by omega⟩,.inl ⟨rfl,by omega⟩,.inl ⟨rfl,by omega⟩,by decide,by decide⟩
 ·have:=(mw18 a b c n).1 h
  simp only [Bool.false_eq_true,false_or,true_or,and_true] at this
  exact⟨.inl ⟨rfl,by omega⟩,.inl ⟨rfl,by omega⟩,.inl ⟨rfl,by omega⟩,.inl ⟨rfl,by omega⟩,by decide,by decide⟩
 ·have:=(mw19 a b c n).1 h
  simp only [Bool.false_eq_true,false_or,true_or,and_true] at this
  exact⟨.inl ⟨rfl,by omega⟩,.inl ⟨rfl,by omega⟩,.inl ⟨rfl,by omega⟩,.inl ⟨rfl,by omega⟩,by decide,by decide⟩
 ·have:=(mw20 a b c n).1 h
  simp only [Bool.false_eq_true,false_or,true_or,and_true] at this
  exact⟨.inl ⟨rfl,by omega⟩,.inl ⟨rfl,by omega⟩,.inl ⟨rfl,by omega⟩,.inl ⟨rfl,by omega⟩,by decide,by decide⟩
 ·have:=(mw21 a b c n).1 h
  simp only [Bool.false_eq_true,false_or,true_or,and_true] at this
  exact⟨.inr ⟨(by decide:(1:Int)≤1),(by decide:(1:Int)≤7),by omega,(show a≤7 by omega),(show ¬ (1:Int)=6∨1≤a by omega)⟩,.inl ⟨rfl,by omega⟩,.inl ⟨rfl,by omega⟩,.inl ⟨rfl,by omega⟩,by decide,by decide⟩
 ·have:=(mw22 a b c n).1 h
  simp only [Bool.false_eq_true,false_or,true_or,and_true] at this
  exact⟨.inl ⟨rfl,by omega⟩,.inl ⟨rfl,by omega⟩,.inl ⟨rfl,by omega⟩,.inl ⟨rfl,by omega⟩,by decide,by decide⟩
 ·have:=(mw23 a b c n).1 h
  simp only [Bool.false_eq_true,false_or,true_or,and_true] at this
  exact⟨.inr ⟨(by decide:(1:Int)≤6),(by decide:(6:Int)≤7),by omega,(show a≤12 by omega),(show ¬ (6:Int)=6∨1≤a by omega)⟩,.inr ⟨(by decide:(1:Int)≤5),(by decide:(5:Int)≤7),by omega,(show b≤7 by omega),(show ¬ (5:Int)=6∨1≤b by omega)⟩,.inr ⟨(by decide:(1:Int)≤2),(by decide:(2:Int)≤7),by omega,(show c≤6 by omega),(show ¬ (2:Int)=6∨1≤c by omega)⟩,.inl ⟨rfl,by omega⟩,by decide,by decide⟩
def setF (i k v:Int) (x:InX):InX:=if k=0∨k=4 then x else⟨x.op,if i=0 then v else x.a,if i=1 then v else x.b,if i=2 then v else x.c,if i=3 then v else x.n⟩
theorem rsX_pv {i k v c:Int} {x:InX} (h:fldOk k v) (h0:k≠0) (hi:i≠3→v≤9223372036854775807):rsX i k (pvW k v,c) x=setF i k v x∧rfB k (pvW k v)=true:=by
 have h':1≤k∧k≤7∧0≤v∧v≤mxW k∧(¬ k=6∨1≤v):=by
  rcases h with h | h
  ·exact absurd h.1 h0
  ·exact h
 obtain⟨a1,a2,a3,a4,a5⟩:=h'
 obtain⟨r1,r2⟩:=rf_pv (k:=k) (v:=v) ⟨a1,a2⟩ a3 a4 (fun e=>by omega)
 refine⟨?_,r1⟩
 unfold rsX rfX setF
 by_cases h4:k=4
 ·simp [h4]
 ·have e:=r2 h4
  have hw:i≠3→xwr .i64 v=v:=fun q=>wrap_i64 (by omega) (hi q)
  simp only [e,decide_eq_false h4,Bool.false_or,if_neg (show ¬ (k=0∨k=4) by omega)]
  by_cases i0:i=0
  ·subst i0; simp [hw]
  by_cases i1:i=1
  ·subst i1; simp [hw]
  by_cases i2:i=2
  ·subst i2; simp [hw]
  by_cases i3:i=3
  ·subst i3; simp
  simp [i0,i1,i2,i3]
abbrev Fv:=Int×Int×Int
def wdL:List Fv→List (List UInt8)
 | []=>[]
 | y::r=>if y.2.1=0 then wdL r else pvW y.2.1 y.2.2::wdL r
def fxL:List Fv→InX→InX
 | [],x=>x
 | y::r,x=>fxL r (setF y.1 y.2.1 y.2.2 x)
def fjL (ni:Nat):List Fv→List (List UInt8×Int)
 | []=>[]
 | y::r=>(if y.2.1=4 then [(pvW y.2.1 y.2.2,(ni:Int))] else [])++fjL ni r
abbrev kyM (j:MkX):List UInt8×Int:=(j.nm,j.pl)
theorem riS_run {e ln:Int} {ni:Nat}:∀ (l:List Fv) (ws:List Wd) (x:InX) (J:List MkX),ws.map Prod.fst=wdL l→(∀ y∈l,fldOk y.2.1 y.2.2∧(y.1≠3→y.2.2≤9223372036854775807))→∃ J2,riS e ln ni (l.map fun y=>(y.1,y.2.1)) ws x J=(none,[],fxL l x,J++J2)∧J2.map kyM=fjL ni l
 | [],ws,x,J,hw,_=>by
   have:ws=[]:=by simpa [wdL] using hw
   subst this
   exact⟨[],by simp [riS,fxL],rfl⟩
 | (i,k,v)::r,ws,x,J,hw,hl=>by
   obtain⟨f1,f2⟩:=hl (i,k,v) (by simp)
   have hr:=fun y hy=>hl y (List.mem_cons_of_mem _ hy)
   dsimp only at f1 f2
   by_cases h0:k=0
   ·subst h0
    simp only [wdL,if_true] at hw
    obtain⟨J2,e1,e2⟩:=riS_run (e:=e) (ln:=ln) (ni:=ni) r ws x J hw hr
    refine⟨J2,?_,by rw [e2]; simp [fjL]⟩
    rw [List.map_cons,riS_0 rfl,e1]
    simp [fxL,setF]
   ·simp only [wdL,if_neg h0] at hw
    cases ws with
    | nil=>simp at hw
    | cons w ws =>
      obtain⟨w1,w2⟩:=w
      simp only [List.map_cons,List.cons.injEq] at hw
      obtain⟨hw1,hw2⟩:=hw
      subst hw1
      obtain⟨g1,g2⟩:=rsX_pv (c:=w2) (x:=x) f1 h0 f2
      obtain⟨J2,e1,e2⟩:=riS_run (e:=e) (ln:=ln) (ni:=ni) r ws (setF i k v x) (rsJ k (pvW k v,w2) ni ln J) hw2 hr
      rw [List.map_cons,riS_c h0,if_pos g2,g1,e1]
      by_cases h4:k=4
      ·refine⟨⟨pvW k v,ni,ln,w2⟩::J2,by simp [rsJ,h4,fxL],by simp [fjL,h4,e2,kyM]⟩
      ·refine⟨J2,by simp [rsJ,h4,fxL],by simp [fjL,h4,e2]⟩
abbrev fvs (x:InsR):List Fv:=[(0,fA x.op,x.a),(1,fB x.op,x.b),(2,fC x.op,x.c),(3,fD x.op,x.n)]
abbrev isJ (x:InsR):Prop:=x.op=12∨x.op=13
def inX0 (x:InsR):InX:=⟨x.op,x.a,x.b,if isJ x then 0 else x.c,x.n⟩
def inX1 (x:InsR):InX:=⟨x.op,x.a,x.b,x.c,x.n⟩
structure InOk (x:InsR):Prop where
 may:mayW x.op x.a x.b x.c x.n=true
 n:0≤x.n∧x.n≤18446744073709551615
theorem fx_ins {x:InsR} (h:InOk x):fxL (fvs x) ⟨x.op,0,0,0,0⟩=inX0 x∧(∀ y∈fvs x,fldOk y.2.1 y.2.2∧(y.1≠3→y.2.2≤9223372036854775807))∧∀ ni,fjL ni (fvs x)=if isJ x then [(108::decW x.c,(ni:Int))] else []:=by
 obtain⟨a,b,c,d,⟨a4,b4,d4⟩,c4⟩:=may_f h.may h.n
 obtain⟨_,ba,bb,bc⟩:=may_b h.may
 have z:∀ k v,fldOk k v→k=0→v=0:=fun k v q e=>by unfold fldOk at q; omega
 refine⟨?_,fun y hy=>?_,fun ni=>?_⟩
 ·have za:=z _ _ a; have zb:=z _ _ b; have zc:=z _ _ c; have zd:=z _ _ d
  unfold inX0 isJ fxL fxL fxL fxL fxL setF
  generalize fA x.op=ka at *
  generalize fB x.op=kb at *
  generalize fC x.op=kc at *
  generalize fD x.op=kd at *
  by_cases qa:ka=0 <;> by_cases qb:kb=0 <;> by_cases qd:kd=0 <;> by_cases qc:kc=4
  all_goals (have qj:(x.op=12∨x.op=13)↔kc=4:=c4.symm; simp only [qj,qa,qb,qc,qd,a4,b4,d4,true_or,or_true,or_false,false_or,if_true,if_false]; try simp [za,zb,zd,qa,qb,qd])
  all_goals (by_cases q0:kc=0 <;> simp [q0,zc])
 ·simp only [fvs,List.mem_cons,List.not_mem_nil,or_false] at hy
  rcases hy with rfl | rfl | rfl | rfl
  ·exact⟨a,fun _=>by dsimp only; omega⟩
  ·exact⟨b,fun _=>by dsimp only; omega⟩
  ·exact⟨c,fun _=>by dsimp only; omega⟩
  ·exact⟨d,fun q=>absurd rfl q⟩
 ·simp only [fjL,fvs,a4,b4,d4,if_false,List.nil_append,List.append_nil]
  by_cases q:isJ x
  ·rw [if_pos q,if_pos (c4.2 q),c4.2 q]; rfl
  ·rw [if_neg q,if_neg (fun e=>q (c4.1 e))]
def wdI (x:InsR):List (List UInt8):=nameW x.op::wdL (fvs x)
theorem riZ_ins {x:InsR} (h:InOk x) {w e ln:Int} {ws:List Wd} {I:List InX} {J:List MkX} (hI:I.length < 40) (hw:ws.map Prod.fst=wdL (fvs x)):∃ J2,riZ (nameW x.op) w ws e ln I J=((0,0,0),I++[inX0 x],J++J2)∧J2.map kyM=if isJ x then [(108::decW x.c,(I.length:Int))] else []:=by
 obtain⟨o1,o2,_⟩:=mayW_iff.1 h.may
 obtain⟨n1,n2⟩:=name_back o1 o2
 obtain⟨f1,f2,f3⟩:=fx_ins h
 obtain⟨J2,e1,e2⟩:=riS_run (e:=e) (ln:=ln) (ni:=I.length) (fvs x) ws ⟨x.op,0,0,0,0⟩ J hw f2
 rw [f1] at e1
 rw [f3] at e2
 refine⟨J2,?_,e2⟩
 unfold riZ
 rw [if_neg (by rw [n2]; simp),if_neg (by omega),n1]
 rw [show(riK x.op)=(fvs x).map (fun y=>(y.1,y.2.1)) from rfl,e1]
theorem isL_nm:∀ k:Fin 23,isL (nmN (k.1+1))=false:=by decide
theorem isL_name {op:Int} (h1:1≤op) (h2:op≤23):isL (nameW op)=false:=by
 have:=isL_nm ⟨op.toNat - 1,by omega⟩
 unfold nameW
 rw [show op.toNat=(⟨op.toNat - 1,by omega⟩:Fin 23).1+1 by simp only; omega]
 exact this
abbrev labW (k:Nat):List UInt8:=108::decW (k:Int)
theorem isL_lab (k:Nat):isL (labW k++[58])=true:=by
 have:xbyte (labW k++[58]) ((labW k++[58]).length - 1)=58:=by simp [xbyte]
 unfold isL
 rw [this]; rfl
theorem rlS_lab (k:Nat):rlS (labW k++[58])=labW k:=by simp [rlS,xscut]
theorem lab_inj {j k:Nat} (h:labW j=labW k):j=k:=by
 have h1:Lib.decDigits j=Lib.decDigits k:=by simpa [decW] using h
 rw [← dgF_dec j j rfl,← dgF_dec k k rfl,h1]
theorem fnd_none:∀ {B:List MkX} {s:List UInt8},(∀ b∈B,b.nm≠s)→fndF B s=none
 | [],s,_=>rfl
 | x::r,s,h=>by
   rw [fndF,if_neg (by simpa using h x (by simp))]
   exact fnd_none fun b hb=>h b (by simp [hb])
theorem rlB_lab {B:List MkX} {k:Nat} (hk:k≤40) (hB:∀ b∈B,b.nm≠labW k):rlB (encL mkC B) (labW k++[58])=true:=by
 unfold rlB fndB
 rw [rlS_lab,mkD_enc,fnd_none hB,isn_lab (by omega) (by omega)]
 rfl
end
end Go.Lev
/- text: printed lines are read as the program -/
namespace Go.Lev
set_option linter.unusedSimpArgs false
set_option linter.unusedVariables false
open Go.RowKit
open Go.Proofs.Tryd (prog)
set_option maxRecDepth 100000
noncomputable section
abbrev txW (l:LnS):List (List UInt8):=l.ws.map Prod.fst
def txt:List LnS→List (List (List UInt8))
 | []=>[]
 | l::r=>(if txW l=[] then [] else [txW l])++txt r
def lnF (nm:Nat→Bool):List InsR→Nat→List (List (List UInt8))
 | [],k=>if nm k=true then [[labW k++[58]]] else []
 | x::r,k=>((if nm k=true then [labW k++[58]] else [])++wdI x)::lnF nm r (k+1)
def bF (nm:Nat→Bool):Nat→Nat→List MkX
 | 0,k=>[]
 | m+1,k=>(if nm k=true then [⟨labW k,(k:Int),0,0⟩] else [])++bF nm m (k+1)
def jF:List InsR→Nat→List (List UInt8×Int)
 | [],k=>[]
 | x::r,k=>(if isJ x then [(108::decW x.c,(k:Int))] else [])++jF r (k+1)
theorem rn_nil {L:LnS} {ln:Int} {I:List InX} {B J:List MkX} (h:txW L=[]):rnZ L ln I B J=((0,0,0),I,B,J):=by
 obtain⟨ws,e⟩:=L
 have:ws=[]:=by simpa [txW] using h
 subst this; rfl
theorem rn_lab {L:LnS} {ln:Int} {I:List InX} {B J:List MkX} {k:Nat} (h:txW L=[labW k++[58]]) (hk:k≤40) (hI:I.length=k) (hB:∀ b∈B,b.nm≠labW k):rnZ L ln I B J=((0,0,0),I,B++[⟨labW k,(k:Int),0,0⟩],J):=by
 obtain⟨ws,e⟩:=L
 match ws,h with
 | [],h=>simp [txW] at h
 | [v],h =>
   have hv:v.1=labW k++[58]:=by simpa [txW] using h
   simp only [rnZ]
   rw [hv,if_pos (isL_lab k),if_neg (by rw [rlB_lab hk hB]; simp),rlS_lab,hI]
 | v::w::r,h=>simp [txW] at h
theorem rn_ins {x:InsR} (hx:InOk x) {L:LnS} {ln:Int} {I:List InX} {B J:List MkX} {k:Nat} {q:Bool} (h:txW L=(if q=true then [labW k++[58]] else [])++wdI x) (hk:k < 40) (hI:I.length=k) (hB:∀ b∈B,b.nm≠labW k) :
  ∃ J2,rnZ L ln I B J=((0,0,0),I++[inX0 x],B++(if q=true then [⟨labW k,(k:Int),0,0⟩] else []),J++J2)∧J2.map kyM=if isJ x then [(108::decW x.c,(k:Int))] else []:=by
 obtain⟨ws,e⟩:=L
 obtain⟨o1,o2,_⟩:=mayW_iff.1 hx.may
 cases q with
 | false =>
   simp only [Bool.false_eq_true,if_false,List.nil_append,wdI,txW] at h
   cases ws with
   | nil=>simp at h
   | cons v ws =>
     simp only [List.map_cons,List.cons.injEq] at h
     obtain⟨J2,e1,e2⟩:=riZ_ins hx (w:=v.2) (e:=e) (ln:=ln) (J:=J) (show I.length < 40 by omega) h.2
     refine⟨J2,?_,by rw [e2,hI]⟩
     simp only [rnZ]
     rw [h.1,if_neg (by rw [isL_name o1 o2]; simp),e1]
     simp
 | true =>
   simp only [if_true,List.singleton_append,wdI,txW] at h
   match ws,h with
   | [],h=>simp at h
   | [v],h=>simp at h
   | v::v2::ws2,h =>
     simp only [List.map_cons,List.cons.injEq] at h
     obtain⟨h1,h2,h3⟩:=h
     obtain⟨J2,e1,e2⟩:=riZ_ins hx (w:=v2.2) (e:=e) (ln:=ln) (J:=J) (show I.length < 40 by omega) h3
     refine⟨J2,?_,by rw [e2,hI]⟩
     simp only [rnZ]
     rw [h1,h2,if_pos (isL_lab k),if_neg (by rw [rlB_lab (by omega) hB]; simp),rlS_lab,e1,hI]
     simp
theorem rdF_skip {L:LnS} {r:List LnS} {i:Nat} {I I':List InX} {B B' J J':List MkX} (h:rnZ L ((i+1:Nat):Int) I B J=((0,0,0),I',B',J')):rdF (L::r) i I B J=rdF r (i+1) I' B' J':=by
 rw [rdF,h,if_neg (by simp)]
theorem rdF_nil:∀ (LS:List LnS) (i:Nat) (I:List InX) (B J:List MkX),txt LS=[]→∃ i2,rdF LS i I B J=((aimF B J I).1,(aimF B J I).2,B,J,i2)
 | [],i,I,B,J,_=>⟨i,rfl⟩
 | L::r,i,I,B,J,h=>by
   by_cases q:txW L=[]
   ·rw [txt,if_pos q,List.nil_append] at h
    rw [rdF_skip (rn_nil q)]
    exact rdF_nil r (i+1) I B J h
   ·rw [txt,if_neg q] at h; simp at h
theorem rdF_run (nm:Nat→Bool):∀ (LS:List LnS) (r:List InsR) (i k:Nat) (I:List InX) (B J:List MkX),txt LS=lnF nm r k→I.length=k→k+r.length≤40→(∀ x∈r,InOk x)→(∀ b∈B,∀ j,k≤j→b.nm≠labW j) →
  ∃ J2 i2,rdF LS i I B J=((aimF (B++bF nm (r.length+1) k) (J++J2) (I++r.map inX0)).1,(aimF (B++bF nm (r.length+1) k) (J++J2) (I++r.map inX0)).2,B++bF nm (r.length+1) k,J++J2,i2)∧J2.map kyM=jF r k
 | [],r,i,k,I,B,J,h,hI,hk,hx,hB=>by
   cases r with
   | cons x r=>simp [txt,lnF] at h
   | nil =>
     have hn:¬ nm k=true:=fun e=>by simp [txt,lnF,e] at h
     refine⟨[],i,?_,rfl⟩
     simp [bF,hn,rdF]
 | L::LS,r,i,k,I,B,J,h,hI,hk,hx,hB=>by
   by_cases q:txW L=[]
   ·rw [txt,if_pos q,List.nil_append] at h
    rw [rdF_skip (rn_nil q)]
    exact rdF_run nm LS r (i+1) k I B J h hI hk hx hB
   ·rw [txt,if_neg q,List.singleton_append] at h
    cases r with
    | nil =>
      rw [lnF] at h
      by_cases hn:nm k=true
      ·rw [if_pos hn,List.cons.injEq] at h
       rw [rdF_skip (rn_lab h.1 (by simp at hk; omega) hI fun b hb=>hB b hb k (Nat.le_refl _))]
       obtain⟨i2,e⟩:=rdF_nil LS (i+1) I (B++[⟨labW k,(k:Int),0,0⟩]) J h.2
       refine⟨[],i2,?_,rfl⟩
       rw [e]
       simp [bF,hn]
      ·rw [if_neg hn] at h; cases h
    | cons x r =>
      rw [lnF,List.cons.injEq] at h
      simp only [List.length_cons] at hk
      obtain⟨J1,e1,e2⟩:=rn_ins (ln:=((i+1:Nat):Int)) (J:=J) (hx x (by simp)) h.1 (by omega) hI fun b hb=>hB b hb k (Nat.le_refl _)
      rw [rdF_skip e1]
      obtain⟨J2,i2,g1,g2⟩:=rdF_run nm LS r (i+1) (k+1) (I++[inX0 x]) (B++(if nm k=true then [⟨labW k,(k:Int),0,0⟩] else [])) (J++J1) h.2 (by simp [hI]) (by omega) (fun y hy=>hx y (by simp [hy])) (fun b hb j hj=>by
       rcases List.mem_append.1 hb with hb | hb
       ·exact hB b hb j (by omega)
       ·split at hb
        ·rw [List.mem_singleton.1 hb]
         intro e
         have:=lab_inj (j:=k) (k:=j) e
         omega
        ·cases hb)
      refine⟨J1++J2,i2,?_,by rw [List.map_append,e2,g2,jF]⟩
      rw [g1]
      have eb:B++bF nm ((x::r).length+1) k=B++(if nm k=true then [⟨labW k,(k:Int),0,0⟩] else [])++bF nm (r.length+1) (k+1):=by
       rw [List.append_assoc]; rfl
      have ei:I++(x::r).map inX0=I++[inX0 x]++r.map inX0:=by simp
      rw [eb,ei,← List.append_assoc J J1 J2]
theorem setC_at {pre suf:List InX} {x:InX} {c:Int}:setC (pre++x::suf) pre.length c=pre++{ x with c:=c }::suf:=by
 unfold setC
 rw [List.getElem?_append_right (Nat.le_refl _),Nat.sub_self]
 simp
theorem aim_run (B:List MkX):∀ (r:List InsR) (pre:List InX) (J:List MkX),J.map kyM=jF r pre.length→(∀ x∈r,isJ x→fndF B (108::decW x.c)=some x.c)→aimF B J (pre++r.map inX0)=((0,0,0),pre++r.map inX1)
 | [],pre,J,h,_=>by
   have:J=[]:=by simpa [jF] using h
   subst this; rfl
 | x::r,pre,J,h,hf=>by
   have e2:pre++inX1 x::r.map inX1=(pre++[inX1 x])++r.map inX1:=by simp
   have e1:pre++inX1 x::r.map inX0=(pre++[inX1 x])++r.map inX0:=by simp
   rw [List.map_cons,List.map_cons,e2]
   by_cases q:isJ x
   ·rw [jF,if_pos q] at h
    cases J with
    | nil=>simp at h
    | cons j J =>
      simp only [List.map_cons,List.singleton_append,List.cons.injEq,kyM,Prod.mk.injEq] at h
      obtain⟨⟨h1,h2⟩,h3⟩:=h
      rw [aimF,h1,hf x (by simp) q]
      dsimp only
      rw [h2,Int.toNat_natCast,setC_at]
      have:({ inX0 x with c:=x.c }:InX)=inX1 x:=rfl
      rw [this,e1]
      exact aim_run B r (pre++[inX1 x]) J (by rw [h3]; simp) fun y hy=>hf y (by simp [hy])
   ·rw [jF,if_neg q,List.nil_append] at h
    have:inX0 x=inX1 x:=by unfold inX0 inX1; rw [if_neg q]
    rw [this,e1]
    exact aim_run B r (pre++[inX1 x]) J (by rw [h]; simp) fun y hy=>hf y (by simp [hy])
theorem fnd_bF {nm:Nat→Bool} {c:Nat} (hc:nm c=true):∀ (m k:Nat),k≤c→c < k+m→fndF (bF nm m k) (labW c)=some (c:Int)
 | 0,k,h1,h2=>by omega
 | m+1,k,h1,h2=>by
   rw [bF]
   by_cases e:k=c
   ·subst e
    rw [if_pos hc,List.singleton_append,fndF,if_pos (by simp)]
   ·have:=fnd_bF hc m (k+1) (by omega) (by omega)
    by_cases q:nm k=true
    ·rw [if_pos q,List.singleton_append,fndF,if_neg (by
      simp only [beq_iff_eq]
      intro g; exact e (lab_inj g)),this]
    ·rw [if_neg q,List.nil_append,this]
theorem rdF_prog {L:List InsR} (h:okP L) (hb:∀ x∈L,ins_bd x) {LS:List LnS} (ht:txt LS=lnF (nmB L) L 0):∃ B J i,rdF LS 0 [] [] []=((0,0,0),L.map inX1,B,J,i):=by
 have hx:∀ x∈L,InOk x:=fun x q=>⟨(h.2 x q).1,by have:=(hb x q).2.2.2.2; exact this⟩
 obtain⟨J2,i2,e1,e2⟩:=rdF_run (nmB L) LS L 0 0 [] [] [] ht rfl (by have:=h.1; omega) hx (fun b hb=>by cases hb)
 simp only [List.nil_append] at e1
 have hf:∀ x∈L,isJ x→fndF (bF (nmB L) (L.length+1) 0) (108::decW x.c)=some x.c:=fun x q hj=>by
  obtain⟨o1,_,_,c1,c2⟩:=may_b (h.2 x q).1
  have cl:=(h.2 x q).2 hj
  obtain⟨c,ec⟩:=Int.eq_ofNat_of_zero_le c1
  rw [ec] at cl ⊢
  refine fnd_bF (c:=c) ?_ (L.length+1) 0 (Nat.zero_le _) (by omega)
  unfold nmB
  rw [List.any_eq_true]
  exact⟨x,q,by simp only [ec,Bool.and_eq_true,decide_eq_true_eq]; exact⟨hj,trivial⟩⟩
 have ha:=aim_run (bF (nmB L) (L.length+1) 0) L [] J2 e2 hf
 rw [List.nil_append,List.nil_append] at ha
 rw [ha] at e1
 exact⟨_,_,i2,e1⟩
end
end Go.Lev
/- text: a printed text, loosened, splits into its lines -/
namespace Go.Lev
set_option linter.unusedSimpArgs false
set_option linter.unusedVariables false
open Go.RowKit
open Go.Proofs.Tryd (prog)
set_option maxRecDepth 100000
noncomputable section
def gpB (g:Nat):List UInt8:=match g with
 | 0=>[32]
 | 1=>[9]
 | 2=>[32,32]
 | _=>[32,9,32]
def gpN (g:Nat):List UInt8:=match g with
 | 0=>[10]
 | 1=>[32,10]
 | 2=>[32,59,32,115,111,32,114,57,32,195,169,32,255,10]
 | _=>[10,32,10,59,120,58,10,9]
def lsF:List UInt8→List Nat→List UInt8
 | [],gs=>[]
 | b::r,gs=>if b=32 then gpB (gs.headD 0)++lsF r gs.tail else if b=10 then gpN (gs.headD 0)++lsF r gs.tail else b::lsF r gs
def psh (ws:List (List UInt8)) (w:List UInt8):List (List UInt8):=if w=[] then ws else ws++[w]
def one (l:List (List UInt8)):List (List (List UInt8)):=if l=[] then [] else [l]
def lx:List UInt8→List (List UInt8)→List UInt8→List (List (List UInt8))
 | [],ws,w=>one (psh ws w)
 | b::r,ws,w=>if b=32 then lx r (psh ws w) [] else if b=10 then one (psh ws w)++lx r [] [] else lx r ws (w++[b])
def plB (b:UInt8):Bool:=decide (b.toNat < 128) && decide (b.toNat≠10∧b.toNat≠59∧b.toNat≠32∧b.toNat≠9)
theorem plB_iff {b:UInt8}:plB b=true↔b.toNat < 128∧b.toNat≠10∧b.toNat≠59∧b.toNat≠32∧b.toNat≠9:=by simp [plB]
theorem plB_ne {b:UInt8} (h:plB b=true):¬ b=32∧¬ b=10:=by
 obtain⟨_,h1,_,h2,_⟩:=plB_iff.1 h
 exact⟨fun e=>h2 (by rw [e]; rfl),fun e=>h1 (by rw [e]; rfl)⟩
structure SR (t:List UInt8) (p:Nat) (S:SpS) (ws:List (List UInt8)) (w:List UInt8):Prop where
 m:S.m=false
 hw:S.ws.map Prod.fst=ws
 c:1≤S.c
 c1:S.c=1→ws=[]∧w=[]
 s0:w=[]→S.s = -1
 s1:w≠[]→∃ q:Nat,S.s=(q:Int)∧p=q+w.length∧t.drop q=w++t.drop p
theorem SR.spW {t:List UInt8} {p:Nat} {S:SpS} {ws:List (List UInt8)} {w:List UInt8} (h:SR t p S ws w) {i:Nat} (hi:w≠[]→i=p):(Go.Lev.spW t S i).map Prod.fst=psh ws w:=by
 unfold Go.Lev.spW psh
 by_cases q:w=[]
 ·rw [if_pos (h.s0 q),if_pos q,h.hw]
 ·obtain⟨k,e1,e2,e3⟩:=h.s1 q
  have ei:=hi q
  subst ei
  rw [if_neg (by omega),if_neg q,List.map_append,h.hw,e1]
  have:xscut t (xnat (k:Int)) i=w:=by
   have:=cut_mid e3
   rw [← e2] at this
   exact this
  rw [List.map_singleton,this]
theorem sp_pl {t suf:List UInt8} {p:Nat} {S:SpS} {ws:List (List UInt8)} {w:List UInt8} {b:UInt8} (h:SR t p S ws w) (hb:plB b=true) (hd:t.drop p=b::suf):∃ S',spG t p S=spG t (p+1) S'∧SR t (p+1) S' ws (w++[b])∧t.drop (p+1)=suf:=by
 obtain⟨b1,b2,b3,b4,b5⟩:=plB_iff.1 hb
 have hn:t.drop (p+1)=suf:=(drop_get hd).2.2
 refine⟨spR t S p (b.toNat:Int),?_,?_,hn⟩
 ·exact spG_tok (x:=([b],(b.toNat:Int))) (by simp [vTok,b1]) hd (by show((b.toNat:Nat):Int)≠10; omega)
 ·have hc:=h.c
  unfold spR
  rw [h.m,if_neg (by simp),if_neg (by omega),if_neg (by omega)]
  by_cases q:w=[]
  ·rw [if_pos (h.s0 q)]
   refine⟨rfl,h.hw,by dsimp only; omega,fun e=>by dsimp only at e; omega,fun e=>by simp at e,fun _=>⟨p,rfl,by rw [q]; rfl,by rw [q,hd,hn]; rfl⟩⟩
  ·obtain⟨k,e1,e2,e3⟩:=h.s1 q
   rw [if_neg (by rw [e1]; omega)]
   refine⟨rfl,h.hw,by dsimp only; omega,fun e=>by dsimp only at e; omega,fun e=>by simp at e,fun _=>⟨k,e1,by rw [e2]; simp; omega,by rw [e3,hd,hn]; simp⟩⟩
theorem sp_bl {t suf:List UInt8} {p:Nat} {S:SpS} {ws:List (List UInt8)} {w:List UInt8} {b:UInt8} (h:SR t p S ws w) (hb:b=32∨b=9) (hd:t.drop p=b::suf):∃ S',spG t p S=spG t (p+1) S'∧SR t (p+1) S' (psh ws w) []∧t.drop (p+1)=suf:=by
 have hn:t.drop (p+1)=suf:=(drop_get hd).2.2
 have hc:=h.c
 have hr:((b.toNat:Nat):Int)=32∨((b.toNat:Nat):Int)=9:=by rcases hb with rfl | rfl; exact .inl rfl; exact .inr rfl
 refine⟨spR t S p (b.toNat:Int),?_,?_,hn⟩
 ·refine spG_tok (x:=([b],(b.toNat:Int))) ?_ hd (by show((b.toNat:Nat):Int)≠10; omega)
  rcases hb with rfl | rfl <;> rfl
 ·unfold spR
  rw [h.m,if_neg (by simp),if_neg (by omega),if_pos hr]
  exact⟨rfl,h.spW fun _=>rfl,by dsimp only; omega,fun e=>by dsimp only at e; omega,fun _=>rfl,fun e=>absurd rfl e⟩
theorem txt_cons {l:LnS} {r:List LnS}:txt (l::r)=one (txW l)++txt r:=rfl
theorem SR.new {t:List UInt8} {p:Nat} {f:Int}:SR t p ⟨[],0,1,-1,f,false⟩ [] []:=⟨rfl,rfl,Int.le_refl 1,fun _=>⟨rfl,rfl⟩,fun _=>rfl,fun e=>absurd rfl e⟩
theorem sp_nl {t suf:List UInt8} {p:Nat} {S:SpS} {ws:List (List UInt8)} {w:List UInt8} (h:SR t p S ws w) (hd:t.drop p=10::suf):∃ S',txt (spG t p S)=one (psh ws w)++txt (spG t (p+1) S')∧SR t (p+1) S' [] []∧t.drop (p+1)=suf:=by
 refine⟨spN S,?_,SR.new,(drop_get hd).2.2⟩
 rw [spG_nl hd,txt_cons]
 have:txW (spL t S p)=psh ws w:=by
  unfold txW spL
  rw [h.m,if_neg (by simp)]
  exact h.spW fun _=>rfl
 rw [this]
theorem rn_ff {l:List UInt8} {p:Nat} (h0:l[p]? = some 255):xrn l p=65533∧xrw l p=1:=by
 have k0:p < l.length:=(List.getElem?_eq_some_iff.1 h0).1
 have a0:(⟨l.toArray⟩:ByteArray).get! (p+0)=255:=by
  rw [Nat.add_zero]
  simp only [ByteArray.get!]
  rw [getElem!_pos l.toArray p (by simpa using k0)]
  simpa using (List.getElem?_eq_some_iff.1 h0).2
 have e0:(255:UInt8).toNat=255:=rfl
 have hd:Utf8.decode ⟨l.toArray⟩ p=(65533,1):=by
  unfold Utf8.decode
  simp only [a0,e0]
  rw [if_neg (by decide),if_neg (by simp),if_neg (by simp),if_neg (by simp)]
  try rfl
 unfold xrn xrw
 rw [hd]
 exact⟨rfl,rfl⟩
def vTk (x:Tok):Bool:=vTok x || (x.1 == [255] && decide (x.2=65533))
theorem tk_dec {t suf:List UInt8} {p:Nat} {x:Tok} (hv:vTk x=true) (h:t.drop p=x.1++suf):p < t.length∧xrn t p=x.2∧xrw t p=x.1.length∧t.drop (p+x.1.length)=suf:=by
 rcases Bool.or_eq_true _ _▸hv with hv | hv
 ·exact tok_dec hv h
 ·obtain⟨bs,r⟩:=x
  simp only [Bool.and_eq_true,beq_iff_eq,decide_eq_true_eq] at hv
  obtain⟨rfl,rfl⟩:=hv
  obtain⟨q1,q2,q3⟩:=drop_get (show t.drop p=255::suf from h)
  obtain⟨k1,k2⟩:=rn_ff q1
  exact⟨q2,k1,k2,q3⟩
theorem spG_rm {t:List UInt8}:∀ (k:List Tok) (suf:List UInt8) (p:Nat) (ws:List Wd) (e c s f:Int),(∀ x∈k,vTk x=true∧x.2≠10)→t.drop p=bys k++10::suf→spG t p ⟨ws,e,c,s,f,true⟩=⟨ws,e⟩::spG t (p+(bys k).length+1) ⟨[],0,1,-1,f,false⟩∧t.drop (p+(bys k).length+1)=suf
 | [],suf,p,ws,e,c,s,f,_,h=>by
   have h':t.drop p=10::suf:=h
   rw [spG_nl h']
   exact⟨by simp [spL,spN,bys],by simpa [bys] using (drop_get h').2.2⟩
 | x::k,suf,p,ws,e,c,s,f,hk,h=>by
   obtain⟨v1,v2⟩:=hk x (by simp)
   have h':t.drop p=x.1++(bys k++10::suf):=by rw [h]; simp [bys]
   obtain⟨h1,h2,h3,hn⟩:=tk_dec v1 h'
   obtain⟨i1,i2⟩:=spG_rm k suf (p+x.1.length) ws e (c+1) s f (fun y hy=>hk y (by simp [hy])) hn
   have eR:spR t ⟨ws,e,c,s,f,true⟩ p x.2=⟨ws,e,c+1,s,f,true⟩:=by simp [spR]
   have el:p+(bys (x::k)).length+1=p+x.1.length+(bys k).length+1:=by simp [bys]; omega
   rw [spG,dif_pos h1,h2,h3,if_neg v2,eR,i1,el]
   exact⟨rfl,i2⟩
theorem sp_rm {t suf:List UInt8} {p:Nat} {S:SpS} {ws:List (List UInt8)} {w:List UInt8} (h:SR t p S ws w) (k:List Tok) (hk:∀ x∈k,vTk x=true∧x.2≠10) (hd:t.drop p=59::(bys k++10::suf)):∃ S',txt (spG t p S)=one (psh ws w)++txt (spG t (p+1+(bys k).length+1) S')∧SR t (p+1+(bys k).length+1) S' [] []∧t.drop (p+1+(bys k).length+1)=suf:=by
 have hn:=(drop_get hd).2.2
 obtain⟨i1,i2⟩:=spG_rm k suf (p+1) (Go.Lev.spW t S p) S.c (S.c+1) (-1) S.f hk hn
 refine⟨⟨[],0,1,-1,S.f,false⟩,?_,SR.new,i2⟩
 have e1:spG t p S=spG t (p+1) (spR t S p 59):=spG_tok (x:=([59],59)) rfl hd (by decide)
 have e2:spR t S p 59=⟨Go.Lev.spW t S p,S.c,S.c+1,-1,S.f,true⟩:=by
  unfold spR
  rw [h.m,if_neg (by simp),if_pos rfl]
 rw [e1,e2,i1,txt_cons]
 have:txW (⟨Go.Lev.spW t S p,S.c⟩:LnS)=psh ws w:=h.spW fun _=>rfl
 rw [this]
theorem sp_gB {t suf:List UInt8} {p:Nat} {S:SpS} {ws:List (List UInt8)} {w:List UInt8} (g:Nat) (h:SR t p S ws w) (hd:t.drop p=gpB g++suf):∃ p' S',spG t p S=spG t p' S'∧SR t p' S' (psh ws w) []∧t.drop p'=suf:=by
 unfold gpB at hd
 split at hd
 ·obtain⟨S1,a1,a2,a3⟩:=sp_bl h (.inl rfl) hd
  exact⟨_,S1,a1,a2,a3⟩
 ·obtain⟨S1,a1,a2,a3⟩:=sp_bl h (.inr rfl) hd
  exact⟨_,S1,a1,a2,a3⟩
 ·obtain⟨S1,a1,a2,a3⟩:=sp_bl h (.inl rfl) hd
  obtain⟨S2,b1,b2,b3⟩:=sp_bl a2 (.inl rfl) a3
  exact⟨_,S2,a1.trans b1,b2,b3⟩
 ·obtain⟨S1,a1,a2,a3⟩:=sp_bl h (.inl rfl) hd
  obtain⟨S2,b1,b2,b3⟩:=sp_bl a2 (.inr rfl) a3
  obtain⟨S3,c1,c2,c3⟩:=sp_bl b2 (.inl rfl) b3
  exact⟨_,S3,a1.trans (b1.trans c1),c2,c3⟩
theorem sp_gN {t suf:List UInt8} {p:Nat} {S:SpS} {ws:List (List UInt8)} {w:List UInt8} (g:Nat) (h:SR t p S ws w) (hd:t.drop p=gpN g++suf):∃ p' S',txt (spG t p S)=one (psh ws w)++txt (spG t p' S')∧SR t p' S' [] []∧t.drop p'=suf:=by
 unfold gpN at hd
 split at hd
 ·obtain⟨S1,a1,a2,a3⟩:=sp_nl h hd
  exact⟨_,S1,a1,a2,a3⟩
 ·obtain⟨S1,a1,a2,a3⟩:=sp_bl h (.inl rfl) hd
  obtain⟨S2,b1,b2,b3⟩:=sp_nl a2 a3
  exact⟨_,S2,by rw [a1,b1]; rfl,b2,b3⟩
 ·obtain⟨S1,a1,a2,a3⟩:=sp_bl h (.inl rfl) hd
  obtain⟨S2,b1,b2,b3⟩:=sp_rm (suf:=suf) a2 [([32],32),([115],115),([111],111),([32],32),([114],114),([57],57),([32],32),([195,169],233),([32],32),([255],65533)] (by decide) a3
  exact⟨_,S2,by rw [a1,b1]; rfl,b2,b3⟩
 ·obtain⟨S1,a1,a2,a3⟩:=sp_nl h hd
  obtain⟨S2,b1,b2,b3⟩:=sp_bl a2 (.inl rfl) a3
  obtain⟨S3,c1,c2,c3⟩:=sp_nl b2 b3
  obtain⟨S4,d1,d2,d3⟩:=sp_rm (suf:=9::suf) c2 [([120],120),([58],58)] (by decide) c3
  obtain⟨S5,e1,e2,e3⟩:=sp_bl d2 (.inr rfl) d3
  exact⟨_,S5,by rw [a1,b1,c1,d1,e1]; rfl,e2,e3⟩
def okBs (s:List UInt8):Prop:=∀ b∈s,plB b=true∨b=32∨b=10
theorem sp_ls {t:List UInt8}:∀ (s:List UInt8) (gs:List Nat) (p:Nat) (S:SpS) (ws:List (List UInt8)) (w:List UInt8),okBs s→SR t p S ws w→t.drop p=lsF s gs→txt (spG t p S)=lx s ws w
 | [],gs,p,S,ws,w,_,h,hd=>by
   have hd:t.drop p=[]:=hd
   have hp:t.length≤p:=by simpa using hd
   rw [spG,dif_neg (by omega)]
   have hw:w≠[]→t.length=p:=fun q=>by
    obtain⟨k,e1,e2,e3⟩:=h.s1 q
    rw [hd,List.append_nil] at e3
    have:=congrArg List.length e3
    rw [List.length_drop] at this
    have:0 < w.length:=List.length_pos_iff.2 q
    omega
   have e:txW (spL t S t.length)=psh ws w:=by
    unfold txW spL
    rw [h.m,if_neg (by simp)]
    exact h.spW hw
   by_cases q:1 < S.c
   ·rw [if_pos q,txt_cons,e]
    simp [txt,lx]
   ·have hc:=h.c
    obtain⟨e1,e2⟩:=h.c1 (by omega)
    rw [if_neg q,lx,e1,e2]
    rfl
 | b::r,gs,p,S,ws,w,hb,h,hd=>by
   have hr:okBs r:=fun y hy=>hb y (by simp [hy])
   rw [lx]
   rw [lsF] at hd
   by_cases q:b=32
   ·rw [if_pos q] at hd ⊢
    obtain⟨p',S',a1,a2,a3⟩:=sp_gB _ h hd
    rw [a1]
    exact sp_ls r gs.tail p' S' _ _ hr a2 a3
   rw [if_neg q] at hd ⊢
   by_cases q2:b=10
   ·rw [if_pos q2] at hd ⊢
    obtain⟨p',S',a1,a2,a3⟩:=sp_gN _ h hd
    rw [a1,sp_ls r gs.tail p' S' _ _ hr a2 a3]
   rw [if_neg q2] at hd ⊢
   have hp:plB b=true:=by
    rcases hb b (by simp) with e | e | e
    ·exact e
    ·exact absurd e q
    ·exact absurd e q2
   obtain⟨S',a1,a2,a3⟩:=sp_pl h hp hd
   rw [a1]
   exact sp_ls r gs (p+1) S' _ _ hr a2 a3
theorem spA_ls {s:List UInt8} (gs:List Nat) (hs:okBs s):txt (spA (lsF s gs))=lx s [] []:=sp_ls s gs 0 spZ [] [] hs SR.new rfl
end
end Go.Lev
/- text: what Print tells is read as the program -/
namespace Go.Lev
set_option linter.unusedSimpArgs false
set_option linter.unusedVariables false
open Go.RowKit
open Go.Proofs.Tryd (prog)
set_option maxRecDepth 100000
noncomputable section
def plW (w:List UInt8):Prop:=∀ b∈w,plB b=true
theorem plW_app {a b:List UInt8} (h:plW a) (k:plW b):plW (a++b):=fun x hx=>(List.mem_append.1 hx).elim (h x) (k x)
theorem plW_all {w:List UInt8} (h:w.all plB=true):plW w:=fun b hb=>List.all_eq_true.1 h b hb
theorem plW_dec (n:Int):plW (decW n):=fun b hb=>by
 obtain⟨h1,h2⟩:=dec_dg _ _ rfl b hb
 exact plB_iff.2 ⟨by omega,by omega,by omega,by omega,by omega⟩
theorem plW_name (op:Int):plW (nameW op):=by
 have hc:∀ m:Nat,plW (nmN m):=fun m=>by
  unfold nmN; split <;> exact plW_all (by decide)
 exact hc _
theorem plW_call (n:Int):plW (callW n):=by
 have hc:∀ m:Nat,plW (clN m):=fun m=>by
  unfold clN; split <;> exact plW_all (by decide)
 exact hc _
theorem plW_cons {b:UInt8} {w:List UInt8} (h:plB b=true) (k:plW w):plW (b::w):=fun x hx=>by
 rcases List.mem_cons.1 hx with rfl | hx
 ·exact h
 ·exact k x hx
theorem plW_pv (k v:Int):plW (pvW k v):=by
 unfold pvW
 split
 ·exact plW_cons (by decide) (plW_dec _)
 ·split
  ·exact plW_call _
  ·split
   ·exact plW_cons (by decide) (plW_dec _)
   ·exact plW_dec _
theorem plW_lab (k:Nat):plW (labW k++[58]):=plW_app (plW_cons (by decide) (plW_dec _)) (plW_all (by decide))
theorem dec_ne (n:Int):decW n≠[]:=by
 unfold decW
 rw [Lib.decDigits]
 split <;> simp
theorem call_ne {n:Int} (h1:1≤n) (h2:n≤12):callW n≠[]:=by
 have:∀ k:Fin 12,clN (k.1+1)≠[]:=by decide
 have:=this ⟨n.toNat - 1,by omega⟩
 unfold callW
 rw [show n.toNat=(⟨n.toNat - 1,by omega⟩:Fin 12).1+1 by simp only; omega]
 exact this
theorem name_ne {n:Int} (h1:1≤n) (h2:n≤23):nameW n≠[]:=by
 have:∀ k:Fin 23,nmN (k.1+1)≠[]:=by decide
 have:=this ⟨n.toNat - 1,by omega⟩
 unfold nameW
 rw [show n.toNat=(⟨n.toNat - 1,by omega⟩:Fin 23).1+1 by simp only; omega]
 exact this
theorem pv_ne {k v:Int} (h:fldOk k v) (h0:k≠0):pvW k v≠[]:=by
 have h6:k=6→1≤v∧v≤12:=fun e=>by
  subst e
  have e6:mxW 6=12:=rfl
  unfold fldOk at h
  omega
 unfold pvW
 split
 ·simp
 ·split
  ·rename_i e; exact call_ne (h6 e).1 (h6 e).2
  ·split
   ·simp
   ·exact dec_ne _
def fll:List (List UInt8)→List UInt8
 | []=>[]
 | w::r=>32::(w++fll r)
theorem lx_w (r:List UInt8) (ws:List (List UInt8)):∀ (u w:List UInt8),plW u→lx (u++r) ws w=lx r ws (w++u)
 | [],w,_=>by simp
 | b::u,w,h=>by
   obtain⟨n1,n2⟩:=plB_ne (h b (by simp))
   rw [List.cons_append,lx,if_neg n1,if_neg n2,lx_w r ws u (w++[b]) fun x hx=>h x (by simp [hx])]
   simp
theorem lx_b (r:List UInt8) (ws:List (List UInt8)) (w:List UInt8):lx (32::r) ws w=lx r (psh ws w) []:=by rw [lx,if_pos rfl]
theorem lx_n (r:List UInt8) (ws:List (List UInt8)) (w:List UInt8):lx (10::r) ws w=one (psh ws w)++lx r [] []:=by rw [lx,if_neg (by decide),if_pos rfl]
theorem lx_fl (r:List UInt8):∀ (l:List (List UInt8)) (ws:List (List UInt8)) (w:List UInt8),(∀ u∈l,u≠[]∧plW u)→w≠[]→lx (fll l++10::r) ws w=(ws++w::l)::lx r [] []
 | [],ws,w,_,hw=>by
   rw [fll,List.nil_append,lx_n,psh,if_neg hw,one,if_neg (by simp)]
   simp
 | u::l,ws,w,h,hw=>by
   obtain⟨u1,u2⟩:=h u (by simp)
   have e:fll (u::l)++10::r=32::(u++(fll l++10::r)):=by simp [fll]
   rw [e,lx_b,lx_w _ _ u [] u2,List.nil_append,lx_fl r l (psh ws w) u (fun x hx=>h x (by simp [hx])) u1,psh,if_neg hw]
   simp
theorem sg_fl (i k v:Int) (r:List Fv):sgW k v++fll (wdL r)=fll (wdL ((i,k,v)::r)):=by
 unfold sgW
 by_cases h:k=0
 ·simp [wdL,h]
 ·simp [wdL,h,fll]
theorem ln_fl (x:InsR):lnX x=nameW x.op++fll (wdL (fvs x)):=by
 have e:fll (wdL (fvs x))=sgW (fA x.op) x.a++(sgW (fB x.op) x.b++(sgW (fC x.op) x.c++(sgW (fD x.op) x.n++[]))):=by
  rw [show([]:List UInt8)=fll (wdL []) from rfl,sg_fl 3,sg_fl 2,sg_fl 1,sg_fl 0]
 rw [e]
 simp [lnX,lineW]
theorem wd_ok {x:InsR} (h:InOk x):∀ u∈wdL (fvs x),u≠[]∧plW u:=by
 have:∀ l:List Fv,(∀ y∈l,fldOk y.2.1 y.2.2)→∀ u∈wdL l,u≠[]∧plW u:=fun l=>by
  induction l with
  | nil=>intro _ u hu; simp [wdL] at hu
  | cons y l ih =>
    intro hl u hu
    rw [wdL] at hu
    split at hu
    ·exact ih (fun z hz=>hl z (by simp [hz])) u hu
    ·rename_i q
     rcases List.mem_cons.1 hu with rfl | hu
     ·exact⟨pv_ne (hl y (by simp)) q,plW_pv _ _⟩
     ·exact ih (fun z hz=>hl z (by simp [hz])) u hu
 exact this _ fun y hy=>((fx_ins h).2.1 y hy).1
def outF (nm:Nat→Bool):List InsR→Nat→List UInt8
 | [],k=>labX (nm k) k [58,10]
 | x::r,k=>labX (nm k) k [58,32]++(lnX x++10::outF nm r (k+1))
theorem outK_F {L:List InsR}:∀ k,k≤L.length→outK L k++outF (nmB L) (L.drop k) k=outF (nmB L) L 0
 | 0,_=>rfl
 | k+1,h=>by
   have e:L.drop k=L[k]::L.drop (k+1):=List.drop_eq_getElem_cons (by omega)
   rw [← outK_F k (by omega),e,outF,outK_succ (by omega)]
   simp
theorem outL_F (L:List InsR):outL L=outF (nmB L) L 0:=by
 rw [← outK_F L.length (Nat.le_refl _),List.drop_length]; rfl
theorem lx_lab {b:Bool} {k:Nat} {y:UInt8} {r:List UInt8}:labX b k [58,y]++r=if b=true then(labW k++[58])++y::r else r:=by
 cases b <;> simp [labX]
theorem lx_out (nm:Nat→Bool):∀ (r:List InsR) (k:Nat),(∀ x∈r,InOk x)→lx (outF nm r k) [] []=lnF nm r k
 | [],k,_=>by
   rw [outF,lnF,← List.append_nil (labX _ _ _),lx_lab]
   by_cases h:nm k=true
   ·rw [if_pos h,if_pos h,lx_w _ _ _ _ (plW_lab k),lx_n,lx,psh,psh,List.nil_append,if_neg (by simp)]
    simp [one]
   ·rw [if_neg h,if_neg h]; rfl
 | x::r,k,hx=>by
   have ih:=lx_out nm r (k+1) fun y hy=>hx y (by simp [hy])
   have ho:=hx x (by simp)
   obtain⟨o1,o2,_⟩:=mayW_iff.1 ho.may
   have hl:∀ ws,lx (lnX x++10::outF nm r (k+1)) ws []=(ws++wdI x)::lnF nm r (k+1):=fun ws=>by
    rw [ln_fl,List.append_assoc,lx_w _ _ _ _ (plW_name _),List.nil_append,lx_fl _ _ _ _ (wd_ok ho) (name_ne o1 o2),ih]; rfl
   rw [outF,lnF,lx_lab]
   by_cases h:nm k=true
   ·rw [if_pos h,if_pos h,lx_w _ _ _ _ (plW_lab k),lx_b,hl,psh,List.nil_append,if_neg (by simp)]
    simp
   ·rw [if_neg h,if_neg h,hl]
theorem okBs_w {w:List UInt8} (h:plW w):okBs w:=fun b hb=>.inl (h b hb)
theorem okBs_app {a b:List UInt8} (h:okBs a) (k:okBs b):okBs (a++b):=fun x hx=>(List.mem_append.1 hx).elim (h x) (k x)
theorem okBs_cons {b:UInt8} {w:List UInt8} (h:b=32∨b=10) (k:okBs w):okBs (b::w):=fun x hx=>by
 rcases List.mem_cons.1 hx with rfl | hx
 ·exact .inr h
 ·exact k x hx
theorem okBs_fl:∀ l:List (List UInt8),(∀ u∈l,u≠[]∧plW u)→okBs (fll l)
 | [],_=>fun b hb=>by cases hb
 | u::l,h=>okBs_cons (.inl rfl) (okBs_app (okBs_w (h u (by simp)).2) (okBs_fl l fun x hx=>h x (by simp [hx])))
theorem okBs_lab {b:Bool} {k:Nat} {y:UInt8} (hy:y=32∨y=10):okBs (labX b k [58,y]):=by
 rw [← List.append_nil (labX _ _ _),lx_lab]
 split
 ·exact okBs_app (okBs_w (plW_lab k)) (okBs_cons hy fun b hb=>by cases hb)
 ·exact fun b hb=>by cases hb
theorem okBs_out (nm:Nat→Bool):∀ (r:List InsR) (k:Nat),(∀ x∈r,InOk x)→okBs (outF nm r k)
 | [],k,_=>okBs_lab (.inr rfl)
 | x::r,k,hx=>okBs_app (okBs_lab (.inl rfl)) (okBs_app (by rw [ln_fl]; exact okBs_app (okBs_w (plW_name _)) (okBs_fl _ (wd_ok (hx x (by simp))))) (okBs_cons (.inr rfl) (okBs_out nm r (k+1) fun y hy=>hx y (by simp [hy]))))
theorem rdZ_out {L:List InsR} (h:okP L) (hb:∀ x∈L,ins_bd x) (gs:List Nat):∃ B J i,rdZ (lsF (outL L) gs)=((0,0,0),L.map inX1,B,J,i):=by
 have hx:∀ x∈L,InOk x:=fun x q=>⟨(h.2 x q).1,by have:=(hb x q).2.2.2.2; exact this⟩
 refine rdF_prog h hb ?_
 rw [spA_ls gs (by rw [outL_F]; exact okBs_out _ _ _ hx),outL_F,lx_out _ _ _ hx]
theorem lsF_nil:∀ (s:List UInt8),lsF s []=s
 | []=>rfl
 | b::r=>by
   rw [lsF,List.headD_nil,List.tail_nil,lsF_nil r]
   by_cases h:b=32
   ·subst h; rfl
   ·rw [if_neg h]
    by_cases k:b=10
    ·subst k; rfl
    ·rw [if_neg k]
theorem rdZ_back {L:List InsR} (h:okP L) (hb:∀ x∈L,ins_bd x):∃ B J i,rdZ (outL L)=((0,0,0),L.map inX1,B,J,i):=by
 have:=rdZ_out h hb []
 rwa [lsF_nil] at this
theorem enc_in1 (L:List InsR):encL inC (L.map inX1)=encL insE L:=by
 induction L with
 | nil=>rfl
 | cons x r ih=>rw [List.map_cons,encL,encL,ih]; rfl
theorem in1_inj {L M:List InsR} (h:L.map inX1=M.map inX1):L=M:=by
 have:encL insE L=encL insE M:=by rw [← enc_in1,← enc_in1,h]
 rw [← decI5_enc L,← decI5_enc M,this]
theorem outL_inj {L M:List InsR} (hL:okP L) (bL:∀ x∈L,ins_bd x) (hM:okP M) (bM:∀ x∈M,ins_bd x) (e:outL L=outL M):L=M:=by
 obtain⟨_,_,_,e1⟩:=rdZ_back hL bL
 obtain⟨_,_,_,e2⟩:=rdZ_back hM bM
 rw [e,e2] at e1
 simp only [Prod.mk.injEq] at e1
 exact(in1_inj e1.2.1).symm
end
end Go.Lev
/- text: drawn programs may be -/
namespace Go.Lev
set_option linter.unusedSimpArgs false
set_option linter.unusedVariables false
open Go.RowKit
open Go.Proofs.Tryd (prog)
set_option maxRecDepth 100000
noncomputable section
abbrev mayI (x:InsR):Bool:=mayW x.op x.a x.b x.c x.n
theorem gL_ln {m:Int} {calm:Bool} {n:Nat} (hm:m≤(n:Int)):∀ (ks:List KinR) (l:List InsR) (o:List Int),o.length≤5→l.length+2 * o.length≤n→(gL m calm ks l o).2.length≤5∧(gL m calm ks l o).1.length+2 * (gL m calm ks l o).2.length≤n
 | [],l,o,h1,h2=>⟨h1,h2⟩
 | x::r,l,o,h1,h2=>by
   rw [gL]
   split
   ·exact⟨h1,h2⟩
   ·have:=gst_GI (calm:=calm) (x:=x) (l:=l) (o:=o) (n:=n) h1 (by omega)
    exact gL_ln hm r _ _ this.1 this.2.1
theorem gC_ln:∀ (f:Nat) (l:List InsR) (o:List Int),(gC f l o).length≤l.length+gwt o
 | 0,l,o=>by rw [gC]; omega
 | f+1,l,o=>by
   rw [gC]
   split
   ·omega
   ·rename_i h
    rcases nil_snoc o with rfl | ⟨o2,y,rfl⟩
    ·exact absurd rfl h
    ·have h1:=gC_ln f (shS l (o2++[y])).1 (shS l (o2++[y])).2
     have h2:=shS_w (l:=l) (o':=o2) (x:=y)
     omega
theorem gF_le {ks:List KinR} {m:Int} {calm:Bool} {n:Nat} (hm:m≤(n:Int)) (h1:1≤n):(gF ks m calm).length≤n:=by
 have h2:=gL_ln (calm:=calm) hm ks [] [] (by simp) (by simp)
 have h3:=gC_ln 20 (gL m calm ks [] []).1 (gL m calm ks [] []).2
 have h4:=gwt_le (gL m calm ks [] []).2
 unfold gF
 split
 ·simpa using h1
 ·omega
theorem I1_may {k:Int} (h:k=14∨k=15∨k=16∨k=17∨k=18∨k=19∨k=20∨k=22):mayI (I1 k)=true:=by
 rcases h with rfl | rfl | rfl | rfl | rfl | rfl | rfl | rfl
 ·exact(mw14 _ _ _ _).2 (by simp [I1])
 ·exact(mw15 _ _ _ _).2 (by simp [I1])
 ·exact(mw16 _ _ _ _).2 (by simp [I1])
 ·exact(mw17 _ _ _ _).2 (by simp [I1])
 ·exact(mw18 _ _ _ _).2 (by simp [I1])
 ·exact(mw19 _ _ _ _).2 (by simp [I1])
 ·exact(mw20 _ _ _ _).2 (by simp [I1])
 ·exact(mw22 _ _ _ _).2 (by simp [I1])
theorem sim_op (w a b c n:Int):(simF w a b c n).op < 12∨19 < (simF w a b c n).op:=by
 have h4:=wthV_in (a:=xwr .i64 (xar .rem .u64 n 64)) (lo:=0) (hi:=4) (by decide)
 have e:xar .add .i64 3 (wthV (xwr .i64 (xar .rem .u64 n 64)) 0 4)=3+wthV (xwr .i64 (xar .rem .u64 n 64)) 0 4:=add_i64 (by omega) (by omega)
 unfold simF simV
 repeat' split
 all_goals first | (left; dsimp only; omega) | (right; dsimp only; omega)
theorem sim_may (w a b c n:Int):mayI (simF w a b c n)=true:=by
 have h4:=wthV_in (a:=xwr .i64 (xar .rem .u64 n 64)) (lo:=0) (hi:=4) (by decide)
 have e:xar .add .i64 3 (wthV (xwr .i64 (xar .rem .u64 n 64)) 0 4)=3+wthV (xwr .i64 (xar .rem .u64 n 64)) 0 4:=add_i64 (by omega) (by omega)
 have ha:=wthV_in (a:=a) (lo:=0) (hi:=6) (by decide)
 have hb:=wthV_in (a:=b) (lo:=0) (hi:=6) (by decide)
 have hc:=wthV_in (a:=c) (lo:=0) (hi:=6) (by decide)
 have hc3:=wthV_in (a:=c) (lo:=0) (hi:=3) (by decide)
 have hc15:=wthV_in (a:=c) (lo:=6) (hi:=15) (by decide)
 unfold simF simV mayI
 split
 ·dsimp only; exact(mw1 _ _ _ _).2 ⟨by omega,by omega,by omega,by omega,by omega,by omega,.inl rfl⟩
 split
 ·dsimp only; exact(mw1 _ _ _ _).2 ⟨by omega,by omega,by omega,by omega,by omega,by omega,.inl rfl⟩
 split
 ·dsimp only; exact(mw2 _ _ _ _).2 ⟨by omega,by omega,by omega,by omega,by omega,by omega,.inr rfl⟩
 split
 ·dsimp only; rw [e]
  generalize wthV (xwr .i64 (xar .rem .u64 n 64)) 0 4=v at *
  rcases(show v=0∨v=1∨v=2∨v=3∨v=4 by omega) with rfl | rfl | rfl | rfl | rfl
  ·exact(mw3 _ _ _ _).2 ⟨by omega,by omega,by omega,by omega,by omega,by omega,.inr rfl⟩
  ·exact(mw4 _ _ _ _).2 ⟨by omega,by omega,by omega,by omega,by omega,by omega,.inr rfl⟩
  ·exact(mw5 _ _ _ _).2 ⟨by omega,by omega,by omega,by omega,by omega,by omega,.inr rfl⟩
  ·exact(mw6 _ _ _ _).2 ⟨by omega,by omega,by omega,by omega,by omega,by omega,.inr rfl⟩
  ·exact(mw7 _ _ _ _).2 ⟨by omega,by omega,by omega,by omega,by omega,by omega,.inr rfl⟩
 split
 ·dsimp only; exact(mw8 _ _ _ _).2 ⟨by omega,by omega,by omega,by omega,by omega,by omega,.inr rfl⟩
 split
 ·dsimp only; exact(mw9 _ _ _ _).2 ⟨by omega,by omega,by omega,by omega,by omega,by omega,.inr rfl⟩
 split
 ·dsimp only; exact(mw8 _ _ _ _).2 ⟨by omega,by omega,by omega,by omega,by omega,by omega,.inr rfl⟩
 split
 ·dsimp only; exact(mw9 _ _ _ _).2 ⟨by omega,by omega,by omega,by omega,by omega,by omega,.inr rfl⟩
 split
 ·dsimp only; exact(mw10 _ _ _ _).2 ⟨by omega,by omega,by omega,by omega,by omega,by omega,.inr rfl⟩
 split
 ·dsimp only; exact(mw11 _ _ _ _).2 ⟨by omega,by omega,by omega,by omega,by omega,by omega,.inr rfl⟩
 ·dsimp only; exact(mw21 _ _ _ _).2 ⟨by omega,by omega,by omega,by omega,by omega,by omega,.inr rfl⟩
theorem zero_may {a:Int} {c:Nat} (hc:c≤40):mayI ⟨13,wthV a 0 6,0,(c:Int),0⟩=true:=by
 have ha:=wthV_in (a:=a) (lo:=0) (hi:=6) (by decide)
 unfold mayI; dsimp only; exact(mw13 _ _ _ _).2 ⟨by omega,by omega,by omega,by omega,by omega,by omega,.inr rfl⟩
def GQ (l:List InsR):Prop:=∀ x∈l,okx l.length x
theorem okx_le {N M:Nat} {x:InsR} (h:okx N x) (k:N≤M):okx M x:=⟨h.1,fun e=>by have:=h.2 e; omega⟩
theorem okx_no {N:Nat} {x:InsR} (h:mayI x=true) (k:¬ (x.op=12∨x.op=13)):okx N x:=⟨h,fun e=>absurd e k⟩
theorem GQ.app {l t:List InsR} (h:GQ l) (k:∀ x∈t,okx (l++t).length x):GQ (l++t):=fun x hx=>by
 rcases List.mem_append.1 hx with hx | hx
 ·exact okx_le (h x hx) (by simp)
 ·exact k x hx
theorem GQ.one {l:List InsR} {x:InsR} (h:GQ l) (hm:mayI x=true) (k:¬ (x.op=12∨x.op=13)):GQ (l++[x]):=h.app fun y hy=>by
 rw [List.mem_singleton.1 hy]; exact okx_no hm k
theorem GQ.two {l:List InsR} {x y:InsR} (h:GQ l) (hx:okx (l.length+2) x) (hy:okx (l.length+2) y):GQ (l++[x,y]):=h.app fun z hz=>by
 have e:(l++[x,y]).length=l.length+2:=by simp
 rw [e]
 rcases List.mem_cons.1 hz with rfl | hz
 ·exact hx
 ·rw [List.mem_singleton.1 hz]; exact hy
theorem GQ.shut {l:List InsR} {o:List Int} (h:GQ l):GQ (shS l o).1:=by
 unfold shS
 split
 ·exact h.one (I1_may (by omega)) (by simp [I1])
 ·split
  ·exact h.one (I1_may (by omega)) (by simp [I1])
  ·exact h.one (I1_may (by omega)) (by simp [I1])
theorem zero_okx {a:Int} {c N:Nat} (hc:c≤40) (hn:c≤N):okx N ⟨13,wthV a 0 6,0,(c:Int),0⟩:=⟨zero_may hc,fun _=>by dsimp only; omega⟩
theorem sim_okx (N:Nat) (w a b c n:Int):okx N (simF w a b c n):=okx_no (sim_may ..) (by have:=sim_op w a b c n; omega)
theorem gst_GQ {calm:Bool} {x:KinR} {l:List InsR} {o:List Int} (h:GQ l) (hl:l.length≤38):GQ (gst calm x l o).1:=by
 unfold gst
 split
 ·exact h.one (I1_may (by omega)) (by simp [I1])
 split
 ·exact h.one (I1_may (by omega)) (by simp [I1])
 split
 ·exact h.shut
 split
 ·exact h.one (I1_may (by omega)) (by simp [I1])
 split
 ·exact h.two (zero_okx (by omega) (by omega)) (okx_no (I1_may (by omega)) (by simp [I1]))
 split
 ·exact h.two (zero_okx (by omega) (by omega)) (okx_no (I1_may (by omega)) (by simp [I1]))
 split
 ·exact h.two (zero_okx (by omega) (by omega)) (okx_no (I1_may (by omega)) (by simp [I1]))
 split
 ·exact h.two (zero_okx (by omega) (by omega)) (sim_okx ..)
 split
 ·exact h.two (sim_okx ..) (zero_okx (by omega) (by omega))
 ·exact h.one (sim_may ..) (by have:=sim_op x.w x.a x.b x.c x.n; omega)
theorem gL_GQ {m:Int} {calm:Bool} (hm:m≤40):∀ (ks:List KinR) (l:List InsR) (o:List Int),GQ l→o.length≤5→l.length+2 * o.length≤40→GQ (gL m calm ks l o).1
 | [],l,o,h,_,_=>h
 | x::r,l,o,h,h1,h2=>by
   rw [gL]
   split
   ·exact h
   ·have:=gst_GI (calm:=calm) (x:=x) (l:=l) (o:=o) (n:=40) h1 (by omega)
    exact gL_GQ hm r _ _ (gst_GQ h (by omega)) this.1 this.2.1
theorem gC_GQ:∀ (f:Nat) (l:List InsR) (o:List Int),GQ l→GQ (gC f l o)
 | 0,l,o,h=>h
 | f+1,l,o,h=>by
   rw [gC]
   split
   ·exact h
   ·exact gC_GQ f _ _ h.shut
theorem gF_okP {ks:List KinR} {m:Int} {calm:Bool} (hm:m≤40):okP (gF ks m calm):=by
 refine⟨gF_le (n:=40) (by omega) (by decide),?_⟩
 have h1:=gL_GQ (calm:=calm) hm ks [] [] (fun x hx=>by cases hx) (by simp) (by simp)
 have h3:GQ _:=gC_GQ 20 (gL m calm ks [] []).1 (gL m calm ks [] []).2 h1
 unfold gF
 split
 ·intro x hx
  rw [List.mem_singleton.1 hx]
  exact okx_no (by unfold mayI; dsimp only; exact(mw1 _ _ _ _).2 ⟨by omega,by omega,by omega,by omega,by omega,by omega,.inl rfl⟩) (by decide)
 ·exact h3
theorem gF_pos {ks:List KinR} {m:Int} {calm:Bool}:1≤(gF ks m calm).length:=by
 unfold gF
 split
 ·simp
 ·rename_i h; exact List.length_pos_iff.2 h
end
end Go.Lev
/- text: two rows of instructions: Same -/
namespace Go.Lev
set_option linter.unusedSimpArgs false
set_option linter.unusedVariables false
open Go.RowKit
open Go.Proofs.Tryd (prog)
set_option maxRecDepth 100000
noncomputable section
abbrev sE_T (n m k:Nat):List (Nat×LV):=[(0,.slo 0 0 n 0),(1,.slo 1 0 m 0),(5,.int .i64 k)]
abbrev sE_H (cs ds:List LV):List LB:=[.cells cs (some 5),.cells ds (some 5)]
abbrev sE_L:List Nat:=[0,1,4,5]
theorem sE__a (n m:Nat) (cs ds:List LV) (K:Pk):(xsp prog (fun _=>none) 40 26 (seg (sp prog 15) 0 4) (tm0 [.slo 0 0 n 0,.slo 1 0 m 0]) (mkS (sE_H cs ds)) (vK sE_L K))=(
 bif xcm .neq ↑n ↑m then(
 K .ret [.slo 0 0 n 0,.slo 1 0 m 0,.bool false,.tup []] [sC cs 5,sC ds 5] [])
 else(
 K .normal [.slo 0 0 n 0,.slo 1 0 m 0,.bool false,.int .i64 0] [sC cs 5,sC ds 5] [])):=by kernel_rfl
theorem sE__b (n m k:Nat) (cs ds:List LV) (K:Pk):(xcode prog (fun _=>none) 40 26 (loopOf (nthC (sp prog 15) 4)) (mkTm 26 (sE_T n m k)) (mkS (sE_H cs ds)) (vK sE_L K))=(
 bif xcm .lss ↑k ↑n then(
 ck (xle (xadd (xnat ↑k) 1) n) <|
 ck (xle (xadd (xix 0 (xnat ↑k) 5) 5) (xln cs)) <|
 ck (isI .i64 (nthD cs (xix 0 (xnat ↑k) 5))) <|
 ck (isI .i64 (nthD cs (xadd (xix 0 (xnat ↑k) 5) 1))) <|
 ck (isI .i64 (nthD cs (xadd (xadd (xix 0 (xnat ↑k) 5) 1) 1))) <|
 ck (isI .i64 (nthD cs (xadd (xadd (xadd (xix 0 (xnat ↑k) 5) 1) 1) 1))) <|
 ck (isI .u64 (nthD cs (xadd (xadd (xadd (xadd (xix 0 (xnat ↑k) 5) 1) 1) 1) 1))) <|
 ck (xle (xadd (xnat ↑k) 1) m) <|
 ck (xle (xadd (xix 0 (xnat ↑k) 5) 5) (xln ds)) <|
 ck (isI .i64 (nthD ds (xix 0 (xnat ↑k) 5))) <|
 ck (isI .i64 (nthD ds (xadd (xix 0 (xnat ↑k) 5) 1))) <|
 ck (isI .i64 (nthD ds (xadd (xadd (xix 0 (xnat ↑k) 5) 1) 1))) <|
 ck (isI .i64 (nthD ds (xadd (xadd (xadd (xix 0 (xnat ↑k) 5) 1) 1) 1))) <|
 ck (isI .u64 (nthD ds (xadd (xadd (xadd (xadd (xix 0 (xnat ↑k) 5) 1) 1) 1) 1))) <|
 bif xnot (xand (xcm .eql (asI (nthD cs (xix 0 (xnat ↑k) 5))) (asI (nthD ds (xix 0 (xnat ↑k) 5)))) (xand (xcm .eql (asI (nthD cs (xadd (xix 0 (xnat ↑k) 5) 1))) (asI (nthD ds (xadd (xix 0 (xnat ↑k) 5) 1)))) (xand (xcm .eql (asI (nthD cs (xadd (xadd (xix 0 (xnat ↑k) 5) 1) 1))) (asI (nthD ds (xadd (xadd (xix 0 (xnat ↑k) 5) 1) 1)))) (xand (xcm .eql (asI (nthD cs (xadd (xadd (xadd (xix 0 (xnat ↑k) 5) 1) 1) 1))) (asI (nthD ds (xadd (xadd (xadd (xix 0 (xnat ↑k) 5) 1) 1) 1)))) (xand (xcm .eql (asI (nthD cs (xadd (xadd (xadd (xadd (xix 0 (xnat ↑k) 5) 1) 1) 1) 1))) (asI (nthD ds (xadd (xadd (xadd (xadd (xix 0 (xnat ↑k) 5) 1) 1) 1) 1)))) true))))) then(
 K .ret [.slo 0 0 n 0,.slo 1 0 m 0,.bool false,.int .i64 ↑k] [sC cs 5,sC ds 5] [])
 else(
 K .normal [.slo 0 0 n 0,.slo 1 0 m 0,.any,.int .i64 (xar .add .i64 (↑k) 1)] [sC cs 5,sC ds 5] []))
 else(
 K (.exit 0) [.slo 0 0 n 0,.slo 1 0 m 0,.any,.int .i64 ↑k] [sC cs 5,sC ds 5] [])):=by kernel_rfl
theorem sE__z (cs ds:List LV) (K:Pk):(xsp prog (fun _=>none) 40 26 ((sp prog 15).drop 5) (mkTm 26 []) (mkS (sE_H cs ds)) (vK sE_L K))=(
 K .ret [.any,.any,.bool true,.any] [sC cs 5,sC ds 5] []):=by kernel_rfl
def insB (x y:InsR):Bool:=decide (x.op=y.op∧x.a=y.a∧x.b=y.b∧x.c=y.c∧x.n=y.n)
theorem insB_iff {x y:InsR}:insB x y=true↔x=y:=by
 obtain⟨a,b,c,d,e⟩:=x
 obtain⟨a',b',c',d',e'⟩:=y
 simp [insB]
theorem insEq (x y:InsR):xand (xcm .eql x.op y.op) (xand (xcm .eql x.a y.a) (xand (xcm .eql x.b y.b) (xand (xcm .eql x.c y.c) (xand (xcm .eql x.n y.n) true))))=insB x y:=by
 rw [Bool.eq_iff_iff,insB]
 simp [wd_and,xcm_eql]
theorem insE_inj {a b:List InsR} (h:encL insE a=encL insE b):a=b:=by rw [← decI5_enc a,h,decI5_enc]
def sameE (n m:Nat) (cs ds:List LV):Bool:=@decide (n=m∧cs=ds) (Classical.propDecidable _)
theorem sameE_ok (xs ys:List InsR) (hn:xs.length≤1000000) (hm:ys.length≤1000000):SFun prog 15 [.slo 0 0 xs.length 0,.slo 1 0 ys.length 0] (mkS (sE_H (encL insE xs) (encL insE ys)))
  fun l s=>l=.bool (sameE xs.length ys.length (encL insE xs) (encL insE ys))∧s=mkS (sE_H (encL insE xs) (encL insE ys)):=by
 refine SFun.mono (SFun.pieces (Q:=fun l b=>l=.bool (sameE xs.length ys.length (encL insE xs) (encL insE ys))∧b=sE_H (encL insE xs) (encL insE ys)) 26 2 sE_L [4] (by kernel_rfl) rfl rfl rfl ?_) fun l s' ⟨b0,⟨h1,h2⟩,h3⟩=>⟨h1,by rw [h3,h2]⟩
 have nx:=ins_noids xs
 have ny:=ins_noids ys
 have lx:=ins_n xs; have ly:=ins_n ys
 refine SSp.to noCx_ok (n:=40) (g:=[]) 4 4 rfl (σ:={_k:Unit // xs.length=ys.length}) (fun _=>sE_T xs.length ys.length 0) (fun _=>sE_H (encL insE xs) (encL insE ys)) (mkS_le (Nat.le_refl _)) (by kernel_rfl) ?_ fun⟨_,hnm⟩=>?_
 ·rw [sE__a,wd_neq]
  by_cases e:xs.length=ys.length
  ·simp only [e,decide_true,Bool.not_true,cond_false]
   exact⟨rfl,⟨(),e⟩,[.id 0,.id 1],by(exact zC)⟩
  ·simp only [e,decide_false,Bool.not_false,cond_true]
   have hs:sameE xs.length ys.length (encL insE xs) (encL insE ys)=false:=by simp only [sameE,decide_eq_false_iff_not]; exact fun k=>e k.1
   exact⟨trivial,rfl,_,_,[.id 0,.id 1],⟨rfl,rfl⟩,by rw [hs]; (exact zC)⟩
 refine SSp.code_to (g:=[]) 5 rfl (σ:={_k:Unit // xs=ys}) (fun _=>[]) (fun _=>sE_H (encL insE xs) (encL insE ys)) (by kernel_rfl) ?_ fun⟨_,hall⟩=>?_
 ·refine SCode.loop_vc noCx_ok (n:=40) 0 (by kernel_rfl) (σ:={k:Nat // k≤xs.length∧∀ i (h:i < xs.length) (h':i < ys.length),i < k→xs[i]=ys[i]}) (fun k=>sE_T xs.length ys.length k.1) (fun _=>sE_H (encL insE xs) (encL insE ys)) (fun k=>xs.length - k.1) (fun _=>Nat.le_refl _) (fun⟨k,hk,hall⟩=>?_) ⟨0,Nat.zero_le _,fun i _ _ hi=>absurd hi (by omega)⟩
  dsimp only
  rw [sE__b,wd_lss]
  refine ite_way (fun h0=>?_) (fun h0=>⟨rfl,⟨(),List.ext_getElem hnm fun i h1 h2=>hall i h1 h2 (by omega)⟩,[.id 0,.id 1],by(exact zC)⟩)
  have h1:k < ys.length:=by omega
  have e3:xar .add .i64 (k:Int) 1=((k+1:Nat):Int):=inc_i64 h0 (by omega)
  have a0:=ins_0 h0; have a1:=ins_1 h0; have a2:=ins_2 h0; have a3:=ins_3 h0; have a4:=ins_4 h0
  have b0:=ins_0 h1; have b1:=ins_1 h1; have b2:=ins_2 h1; have b3:=ins_3 h1; have b4:=ins_4 h1
  have q1:k * 5+1+1=k * 5+2:=by omega
  have q2:k * 5+2+1=k * 5+3:=by omega
  have q3:k * 5+3+1=k * 5+4:=by omega
  simp only [wd_nat,wd_ix,wd_add,wd_mul,wd_ln,Nat.zero_add,lx,ly,q1,q2,q3,a0,a1,a2,a3,a4,b0,b1,b2,b3,b4,e3,wd_asI,wd_isI,insEq,show xle (k+1) xs.length=true from t_le (by omega),show xle (k+1) ys.length=true from t_le (by omega),show xle (k * 5+5) (xs.length * 5)=true from t_le (by omega),show xle (k * 5+5) (ys.length * 5)=true from t_le (by omega),cond_true]
  by_cases e:xs[k]=ys[k]
  ·simp only [insB_iff.2 e,wd_not_t,cond_false]
   exact⟨rfl,⟨k+1,h0,fun i h2 h3 hi=>by rcases Nat.lt_succ_iff_lt_or_eq.1 hi with hi | rfl; exact hall i h2 h3 hi; exact e⟩,by simp only; omega,[.id 0,.id 1],by(exact zC)⟩
  ·have hs:sameE xs.length ys.length (encL insE xs) (encL insE ys)=false:=by
    simp only [sameE,decide_eq_false_iff_not]
    intro q
    have:=insE_inj q.2
    subst this
    exact e rfl
   have ht:insB xs[k] ys[k]=false:=by
    cases q:insB xs[k] ys[k]
    ·rfl
    ·exact absurd (insB_iff.1 q) e
   simp only [ht,wd_not_f,cond_true]
   exact⟨trivial,rfl,_,_,[.id 0,.id 1],⟨rfl,rfl⟩,by rw [hs]; (exact zC)⟩
 refine SSp.last noCx_ok (n:=40) (mkS_le (Nat.le_refl _)) ?_
 rw [sE__z]
 have hs:sameE xs.length ys.length (encL insE xs) (encL insE ys)=true:=by
  simp only [sameE,decide_eq_true_eq]; exact⟨hnm,by rw [hall]⟩
 exact⟨trivial,rfl,_,_,[.id 0,.id 1],⟨rfl,rfl⟩,by rw [hs]; (exact zC)⟩
def okE (n:Nat) (cs:List LV):Bool:=@decide (∃ L:List InsR,cs=encL insE L∧L.length=n∧n≤1000000) (Classical.propDecidable _)
theorem okE_iff {n:Nat} {cs:List LV}:okE n cs=true↔∃ L:List InsR,cs=encL insE L∧L.length=n∧n≤1000000:=by simp only [okE,decide_eq_true_eq]
theorem okE_no {n:Nat} {cs:List LV} (h:okE n cs=true):noIds cs=true:=by obtain⟨L,rfl,_⟩:=okE_iff.1 h; exact ins_noids L
theorem sameE_c (n m:Nat) (cs ds:List LV) (h1:okE n cs=true) (h2:okE m ds=true):SFun prog 15 [.slo 0 0 n 0,.slo 1 0 m 0] (mkS [.cells cs (some 5),.cells ds (some 5)]) fun l s=>l=.bool (sameE n m cs ds)∧s=mkS [.cells cs (some 5),.cells ds (some 5)]:=by
 obtain⟨L,rfl,rfl,k1⟩:=okE_iff.1 h1
 obtain⟨M,rfl,rfl,k2⟩:=okE_iff.1 h2
 exact sameE_ok L M k1 k2
def saG:Gc:=fun args s=>match args,s.g with
 | [.slo a 0 n 0,.slo b 0 m 0],[]=>(match s.h.get a with
   | some (.cells cs (some 5))=>(match s.h.get b with
     | some (.cells ds (some 5))=>cond (nodupB [a,b]) (match s.lay [a,b] [.cells cs (some 5),.cells ds (some 5)] [] with
       | some s'=>some ([okE n cs,okE m ds],.bool (sameE n m cs ds),s')
       | none=>none) none
     | _=>none)
   | _=>none)
 | _,_=>none
theorem saG_ok:GOk prog 15 saG:=by
 intro args s bs l s' hg hb hfr
 unfold saG at hg
 split at hg
 ·rename_i a n b m hgl
  split at hg
  ·rename_i cs hb0
   split at hg
   ·rename_i ds hb1
    cases hbc:nodupB [a,b] with
    | false=>rw [hbc] at hg; cases hg
    | true =>
      rw [hbc] at hg
      simp only [cond_true] at hg
      split at hg
      ·rename_i s1 hs1
       simp only [Option.some.injEq,Prod.mk.injEq] at hg
       obtain⟨rfl,rfl,rfl⟩:=hg
       simp only [allT_cons] at hb
       obtain⟨k1,k2,_⟩:=hb
       have n1:=okE_no k1; have n2:=okE_no k2
       refine SFun.lay (bs:=[.cells cs (some 5),.cells ds (some 5)]) (args0:=[.slo 0 0 n 0,.slo 1 0 m 0]) (bs':=[.cells cs (some 5),.cells ds (some 5)]) (v0:=.bool (sameE n m cs ds)) hfr hs1 (nodupB_nd hbc)
        ⟨⟨there hfr hb0,_,hb0,lb_same (by(exact zId)),fun κ hκ=>lb_same (by(exact zId))⟩,⟨there hfr hb1,_,hb1,lb_same (by(exact zId)),fun κ hκ=>lb_same (by(exact zId))⟩,trivial⟩ (by(exact zTl)) ?_
        fun κ h1 h2=>⟨⟨lb_same (by(exact zId)),lb_same (by(exact zId)),trivial⟩,lw_bool⟩
       rw [hgl]; exact(sameE_c n m cs ds k1 k2)
      ·cases hg
   ·cases hg
  ·cases hg
 ·cases hg
end
end Go.Lev
/- text: the rows and what the package lays -/
namespace Go.Lev
set_option linter.unusedSimpArgs false
set_option linter.unusedVariables false
open Go.RowKit
open Go.Proofs.Tryd (prog)
set_option maxRecDepth 100000
noncomputable section
theorem kin_rowP {H:Type} {enc:TypeId×Value→H} {W:World} {a:Option Addr} {len cap:Nat} {d:DataW H} {ps:List MemPlace} (h:DataW.Trod enc prog W 0 (fun _=>true) true 29 (.slice a len cap) d ps) :
  ∃ xs:List KinR,xs.length=len∧len≤9223372036854775807∧(∀ x∈xs,kin_bd x)∧RowArg W (.slice a len cap) len (encL kinE xs):=by
 obtain⟨xs,q1,q2,q3,q4⟩:=row_arg (f:=kinE) (ok:=kin_bd) kinE_len (by omega) Go.Proofs.Tryd.underlying29 (by kernel_rfl) h fun cs n x hl hx=>by
  have hf:=fl_ok 8 (l:=[(0,.int .i64),(1,.int .i64),(2,.int .i64),(3,.int .i64),(4,.int .u64)]) (by kernel_rfl) hx
  obtain⟨_,e0,z0,rfl,b0⟩:=hf (0,.int .i64) (by simp)
  obtain⟨_,e1,z1,rfl,b1⟩:=hf (1,.int .i64) (by simp)
  obtain⟨_,e2,z2,rfl,b2⟩:=hf (2,.int .i64) (by simp)
  obtain⟨_,e3,z3,rfl,b3⟩:=hf (3,.int .i64) (by simp)
  obtain⟨_,e4,z4,rfl,b4⟩:=hf (4,.int .u64) (by simp)
  refine⟨⟨z0,z1,z2,z3,z4⟩,⟨b0,b1,b2,b3,b4⟩,fun i l hi=>?_⟩
  match i with
  | 0=>simp at hi; subst hi; exact⟨rfl,_,e0,by simp only [VR]⟩
  | 1=>simp at hi; subst hi; exact⟨rfl,_,e1,by simp only [VR]⟩
  | 2=>simp at hi; subst hi; exact⟨rfl,_,e2,by simp only [VR]⟩
  | 3=>simp at hi; subst hi; exact⟨rfl,_,e3,by simp only [VR]⟩
  | 4=>simp at hi; subst hi; exact⟨rfl,_,e4,by simp only [VR]⟩
  | i+5=>simp at hi
 exact⟨xs,q1,q2,q3,q4⟩
def gtab:Glb:=[(4,flatD Go.Proofs.YtnkkkihgljbllaaDoor.Rows.laid_math_bits_deBruijn32tab),(5,flatD Go.Proofs.YtnkkkihgljbllaaDoor.Rows.laid_math_bits_deBruijn64tab),(3,flatD Go.Proofs.YtnkkkihgljbllaaDoor.Rows.laid_internal_strconv_uint64pow10),(0,formsL),(2,callsL)]
theorem gt4_of {W:World} (hg:Gl W gtab) (hp:powF W):Gl W gt4:=fun x hx=>by
 rcases List.mem_cons.1 hx with h | hx
 ·exact hg x (by rw [h]; exact .tail _ (.tail _ (.tail _ (.head _))))
 rcases List.mem_cons.1 hx with h | hx
 ·exact hg x (by rw [h]; exact .tail _ (.tail _ (.tail _ (.tail _ (.head _)))))
 rcases List.mem_cons.1 hx with h | hx
 ·exact hg x (by rw [h]; exact .tail _ (.tail _ (.tail _ (.tail _ (.head _)))))
 rcases List.mem_cons.1 hx with h | hx
 ·exact .inl ⟨powF,by rw [h],hp⟩
 ·cases hx
theorem tab_third {P:Program} {W:World} {ps:List MemPlace} {n0 n1 name:String} {d0 d1:DataW Unit} {k:IntKind} {zs:List Int} {rest:List (String×DataW Unit)} {g:Nat} {t e:TypeId} {n:Nat}
  (hg:P.globalNamed name=some g) (hty:(P.globals[g]?).map (·.type)=some t) (ht:P.underlying t=some (.array n e)) (he:P.underlying e=some (.int k)) (hce:P.cellsOf e=1) (hct:P.cellsOf t=n)
  (h:DataW.LaidVars P W ((n0,d0)::(n1,d1)::(name,Lib.tabData k zs)::rest) ps):Lib.TabIs P W name k zs:=by
 obtain⟨_,_,_,_,_,_,_,_,_,_,h,_⟩:=h
 obtain⟨_,_,_,_,_,_,_,_,_,_,h,_⟩:=h
 obtain⟨g',t',cs,fuel,p,q,hg',ht',hvar,hd,_,_⟩:=h
 obtain rfl:=Option.some.inj (hg.symm.trans hg')
 obtain rfl:=Option.some.inj (hty.symm.trans ht')
 unfold Lib.TabIs
 rw [hvar,← Lib.cells_of_tab ht he hce hct hd]
end
end Go.Lev
/- text: what is known of a drawn program's text -/
namespace Go.Lev
set_option linter.unusedSimpArgs false
set_option linter.unusedVariables false
open Go.RowKit
open Go.Proofs.Tryd (prog)
set_option maxRecDepth 100000
noncomputable section
structure PF (ks:List LV) (n:Nat) (L:List InsR):Prop where
 kin:okKin n ks 40=true
 i5:okI5 (gN ks 40 false) (gW ks 40 false)=true
 gw:gW ks 40 false=encL insE L
 gn:gN ks 40 false=L.length
 px:ptxW (encL insE L)=outL L
 okp:okP L
 bd:∀ x∈L,ins_bd x
 l1:1≤(outL L).length
 l2:(outL L).length≤3100
 oe:okE L.length (encL insE L)=true
theorem pf_of (K:List KinR) (hn:K.length≤9223372036854775807) (hk:∀ x∈K,kin_bd x):PF (encL kinE K) K.length (gF K 40 false):=by
 have hbd:allBd (gF K 40 false):=gF_bd (by omega) fun x hx=>by have:=(hk x hx).2.2.2.2; exact this
 have ok:okP (gF K 40 false):=gF_okP (by omega)
 have px:=ptxW_ok ok
 have pl:=ptx_len hbd
 have h1:1≤(outL (gF K 40 false)).length:=by
  have:=gF_pos (ks:=K) (m:=40) (calm:=false)
  rw [outL_F]
  cases hL:gF K 40 false with
  | nil=>rw [hL] at this; simp at this
  | cons x r=>rw [outF]; simp only [List.length_append,List.length_cons]; omega
 exact⟨okKin_iff.2 ⟨K,rfl,rfl,hn,by omega⟩,okI5_iff.2 ⟨gF K 40 false,by rw [gW,decKin_enc],by rw [gN,decKin_enc],hbd⟩,by rw [gW,decKin_enc],by rw [gN,decKin_enc],px,ok,hbd,h1,by rw [← px]; exact pl,okE_iff.2 ⟨_,rfl,rfl,by have:=ok.1; omega⟩⟩
theorem rd_facts {t:List UInt8} {L:List InsR} {B J:List MkX} {i:Int} (h:rdZ t=((0,0,0),L.map inX1,B,J,i)):pzG t=true∧rdNi t=L.length∧rdAx t=encL insE L:=by
 unfold pzG rdNi rdAx
 rw [h]
 exact⟨by simp,by simp,enc_in1 L⟩
theorem sameE_self (n:Nat) (cs:List LV):sameE n n cs cs=true:=by simp [sameE]
end
end Go.Lev
