import Derived.Test.YtnkkkihgljbllaaDoorCPD
import Derived.Test.YtnkkkihgljbllaaDoorLc
import Derived.Test.YtnkkkihgljbllaaDoorChecked
import Derived.KernelRfl
/- TextPlaces: what the text is, in lines -/
namespace Go.Lev
set_option linter.unusedSimpArgs false
set_option linter.unusedVariables false
open Go.RowKit
open Go.Proofs.Tryd (prog)
set_option maxRecDepth 100000
noncomputable section
theorem rn_two {l:List UInt8} {p:Nat} (h0:l[p]? = some 195) (h1:l[p+1]? = some 169):xrn l p=233∧xrw l p=2:=by
 have k0:p+1 < l.length:=(List.getElem?_eq_some_iff.1 h1).1
 have g:∀ k b,l[p+k]? = some b→(⟨l.toArray⟩:ByteArray).get! (p+k)=b:=fun k b h=>by
  simp only [ByteArray.get!]
  have hl:p+k < l.length:=(List.getElem?_eq_some_iff.1 h).1
  rw [getElem!_pos l.toArray (p+k) (by simpa using hl)]
  simpa using (List.getElem?_eq_some_iff.1 h).2
 have hs:(⟨l.toArray⟩:ByteArray).size=l.length:=rfl
 have a0:=g 0 195 (by simpa using h0)
 have a1:=g 1 169 h1
 have hd:Utf8.decode ⟨l.toArray⟩ p=(233,2):=by
  unfold Utf8.decode
  simp only [hs,a0,a1]
  have e0:(195:UInt8).toNat=195:=rfl
  have e1:(169:UInt8).toNat=169:=rfl
  simp only [e0,e1]
  rw [if_neg (by decide),if_pos (by simp; omega)]
  simp
 unfold xrn xrw
 rw [hd]
 exact⟨rfl,rfl⟩
theorem drop_get {l r:List UInt8} {p:Nat} {b:UInt8} (h:l.drop p=b::r):l[p]? = some b∧p < l.length∧l.drop (p+1)=r:=by
 have hp:p < l.length:=by
  rcases Nat.lt_or_ge p l.length with k | k
  ·exact k
  ·rw [List.drop_of_length_le k] at h; cases h
 rw [List.drop_eq_getElem_cons hp] at h
 simp only [List.cons.injEq] at h
 exact⟨by rw [List.getElem?_eq_getElem hp,h.1],hp,h.2⟩
abbrev Tok:=List UInt8×Int
def vTok (x:Tok):Bool:=match x with
 | ([b],r)=>decide (b.toNat < 128) && decide (r=(b.toNat:Int))
 | (bs,r)=>bs == [195,169] && decide (r=233)
abbrev bys (k:List Tok):List UInt8:=(k.map Prod.fst).flatten
theorem tok_dec {t suf:List UInt8} {p:Nat} {x:Tok} (hv:vTok x=true) (h:t.drop p=x.1++suf):p < t.length∧xrn t p=x.2∧xrw t p=x.1.length∧t.drop (p+x.1.length)=suf:=by
 obtain⟨bs,r⟩:=x
 have two:(bs == [195,169] && decide (r=233))=true→p < t.length∧xrn t p=r∧xrw t p=bs.length∧t.drop (p+bs.length)=suf:=fun hv=>by
  simp only [Bool.and_eq_true,beq_iff_eq,decide_eq_true_eq] at hv
  obtain⟨rfl,rfl⟩:=hv
  obtain⟨q1,q2,q3⟩:=drop_get (show t.drop p=195::(169::suf) from h)
  obtain⟨q4,q5,q6⟩:=drop_get q3
  obtain⟨k1,k2⟩:=rn_two q1 q4
  exact⟨q2,k1,k2,q6⟩
 match bs,hv,two,h with
 | [],hv,two,h=>exact two hv
 | [b],hv,two,h =>
   simp only [vTok,Bool.and_eq_true,decide_eq_true_eq] at hv
   obtain⟨q1,q2,q3⟩:=drop_get (show t.drop p=b::suf from h)
   obtain⟨k1,k2⟩:=rn_ascii q1 hv.1
   exact⟨q2,by rw [k1]; exact hv.2.symm,k2,q3⟩
 | a::b::c,hv,two,h=>exact two hv
theorem spG_tok {t suf:List UInt8} {p:Nat} {x:Tok} {S:SpS} (hv:vTok x=true) (h:t.drop p=x.1++suf) (hx:x.2≠10):spG t p S=spG t (p+x.1.length) (spR t S p x.2):=by
 obtain⟨h1,h2,h3,_⟩:=tok_dec hv h
 rw [spG,dif_pos h1,h2,h3,if_neg hx]
theorem spG_nl {t suf:List UInt8} {p:Nat} {S:SpS} (h:t.drop p=10::suf):spG t p S=spL t S p::spG t (p+1) (spN S):=by
 obtain⟨h1,h2,h3,_⟩:=tok_dec (x:=([10],10)) (t:=t) (suf:=suf) rfl h
 rw [spG,dif_pos h1,h2,h3,if_pos rfl]
 rfl
def plainT (x:Tok):Bool:=vTok x && decide (x.2≠10∧x.2≠59∧x.2≠32∧x.2≠9)
theorem plainT_iff {x:Tok} (h:plainT x=true):vTok x=true∧x.2≠10∧x.2≠59∧x.2≠32∧x.2≠9:=by simpa [plainT] using h
theorem spG_in {t:List UInt8}:∀ (k:List Tok) (suf:List UInt8) (p:Nat) (ws:List Wd) (e c s f:Int),(∀ x∈k,plainT x=true)→s ≠ -1→t.drop p=bys k++suf→spG t p ⟨ws,e,c,s,f,false⟩=spG t (p+(bys k).length) ⟨ws,e,c+k.length,s,f,false⟩∧t.drop (p+(bys k).length)=suf
 | [],suf,p,ws,e,c,s,f,_,_,h=>by simp only [bys,List.map_nil,List.flatten_nil,List.length_nil,Nat.add_zero,Int.natCast_zero,Int.add_zero]; exact⟨trivial,h⟩
 | x::k,suf,p,ws,e,c,s,f,hk,hs,h=>by
   obtain⟨v1,v2,v3,v4,v5⟩:=plainT_iff (hk x (by simp))
   have h':t.drop p=x.1++(bys k++suf):=by rw [h]; simp [bys]
   have hn:=(tok_dec v1 h').2.2.2
   obtain⟨i1,i2⟩:=spG_in k suf (p+x.1.length) ws e (c+1) s f (fun y hy=>hk y (by simp [hy])) hs hn
   have eR:spR t ⟨ws,e,c,s,f,false⟩ p x.2=⟨ws,e,c+1,s,f,false⟩:=by simp [spR,v3,v4,v5,hs]
   have el:p+(bys (x::k)).length=p+x.1.length+(bys k).length:=by simp [bys]; omega
   rw [spG_tok v1 h' v2,eR,i1,el]
   refine⟨?_,i2⟩
   congr 2
   simp; omega
theorem cut_mid {t w suf:List UInt8} {p:Nat} (h:t.drop p=w++suf):xscut t p (p+w.length)=w:=by
 simp [xscut,h]
theorem spG_word {t suf:List UInt8} {p:Nat} {ws:List Wd} {e c f:Int} {x:Tok} {k:List Tok} (hk:∀ y∈x::k,plainT y=true) (h:t.drop p=bys (x::k)++suf) :
  spG t p ⟨ws,e,c,-1,f,false⟩=spG t (p+(bys (x::k)).length) ⟨ws,e,c+((x::k).length:Nat),p,c,false⟩∧t.drop (p+(bys (x::k)).length)=suf:=by
 obtain⟨v1,v2,v3,v4,v5⟩:=plainT_iff (hk x (by simp))
 have h':t.drop p=x.1++(bys k++suf):=by rw [h]; simp [bys]
 have hn:=(tok_dec v1 h').2.2.2
 obtain⟨i1,i2⟩:=spG_in k suf (p+x.1.length) ws e (c+1) (p:Int) c (fun y hy=>hk y (by simp [hy])) (by omega) hn
 have eR:spR t ⟨ws,e,c,-1,f,false⟩ p x.2=⟨ws,e,c+1,p,c,false⟩:=by simp [spR,v3,v4,v5]
 have el:p+(bys (x::k)).length=p+x.1.length+(bys k).length:=by simp [bys]; omega
 rw [spG_tok v1 h' v2,eR,i1,el]
 refine⟨?_,i2⟩
 congr 2
 simp; omega
theorem spG_wb {t suf:List UInt8} {p:Nat} {ws:List Wd} {e c f:Int} {x:Tok} {k:List Tok} (hk:∀ y∈x::k,plainT y=true) (h:t.drop p=bys (x::k)++32::suf) :
  spG t p ⟨ws,e,c,-1,f,false⟩=spG t (p+(bys (x::k)).length+1) ⟨ws++[(bys (x::k),c)],e,c+((x::k).length:Nat)+1,-1,c,false⟩∧t.drop (p+(bys (x::k)).length+1)=suf:=by
 obtain⟨i1,i2⟩:=spG_word (ws:=ws) (e:=e) (c:=c) (f:=f) hk h
 have ec:xscut t (xnat (p:Int)) (p+(bys (x::k)).length)=bys (x::k):=cut_mid h
 refine⟨?_,(tok_dec (x:=([32],32)) rfl i2).2.2.2⟩
 rw [i1,spG_tok (x:=([32],32)) rfl i2 (by decide)]
 have hp:(p:Int) ≠ -1:=by omega
 generalize bys (x::k)=B at *
 simp [spR,spW,hp,ec]
theorem spG_wn {t suf:List UInt8} {p:Nat} {ws:List Wd} {e c f:Int} {x:Tok} {k:List Tok} (hk:∀ y∈x::k,plainT y=true) (h:t.drop p=bys (x::k)++10::suf) :
  spG t p ⟨ws,e,c,-1,f,false⟩=⟨ws++[(bys (x::k),c)],c+((x::k).length:Nat)⟩::spG t (p+(bys (x::k)).length+1) ⟨[],0,1,-1,c,false⟩∧t.drop (p+(bys (x::k)).length+1)=suf:=by
 obtain⟨i1,i2⟩:=spG_word (ws:=ws) (e:=e) (c:=c) (f:=f) hk h
 have ec:xscut t (xnat (p:Int)) (p+(bys (x::k)).length)=bys (x::k):=cut_mid h
 refine⟨?_,(drop_get i2).2.2⟩
 rw [i1,spG_nl i2]
 have hp:(p:Int) ≠ -1:=by omega
 generalize bys (x::k)=B at *
 simp [spL,spW,spN,hp,ec]
theorem spG_bl {t suf:List UInt8} {p:Nat} {ws:List Wd} {e c f:Int} (h:t.drop p=32::suf):spG t p ⟨ws,e,c,-1,f,false⟩=spG t (p+1) ⟨ws,e,c+1,-1,f,false⟩∧t.drop (p+1)=suf:=by
 refine⟨?_,(drop_get h).2.2⟩
 rw [spG_tok (x:=([32],32)) rfl h (by decide)]
 simp [spR,spW]
theorem spG_s {t suf:List UInt8} {p:Nat} {ws:List Wd} {e c f:Int} (h:t.drop p=59::suf):spG t p ⟨ws,e,c,-1,f,false⟩=spG t (p+1) ⟨ws,c,c+1,-1,f,true⟩∧t.drop (p+1)=suf:=by
 refine⟨?_,(drop_get h).2.2⟩
 rw [spG_tok (x:=([59],59)) rfl h (by decide)]
 simp [spR,spW]
theorem spG_r {t:List UInt8}:∀ (k:List Tok) (suf:List UInt8) (p:Nat) (ws:List Wd) (e c s f:Int),(∀ x∈k,vTok x=true∧x.2≠10)→t.drop p=bys k++10::suf→spG t p ⟨ws,e,c,s,f,true⟩=⟨ws,e⟩::spG t (p+(bys k).length+1) ⟨[],0,1,-1,f,false⟩∧t.drop (p+(bys k).length+1)=suf
 | [],suf,p,ws,e,c,s,f,_,h=>by
   have h':t.drop p=10::suf:=h
   rw [spG_nl h']
   exact⟨by simp [spL,spN,bys],by simpa [bys] using (drop_get h').2.2⟩
 | x::k,suf,p,ws,e,c,s,f,hk,h=>by
   obtain⟨v1,v2⟩:=hk x (by simp)
   have h':t.drop p=x.1++(bys k++10::suf):=by rw [h]; simp [bys]
   have hn:=(tok_dec v1 h').2.2.2
   obtain⟨i1,i2⟩:=spG_r k suf (p+x.1.length) ws e (c+1) s f (fun y hy=>hk y (by simp [hy])) hn
   have eR:spR t ⟨ws,e,c,s,f,true⟩ p x.2=⟨ws,e,c+1,s,f,true⟩:=by simp [spR]
   have el:p+(bys (x::k)).length+1=p+x.1.length+(bys k).length+1:=by simp [bys]; omega
   rw [spG_tok v1 h' v2,eR,i1,el]
   exact⟨rfl,i2⟩
abbrev remL:List UInt8:=[59,32,195,169,10]
def rems:Nat→List UInt8
 | 0=>[]
 | n+1=>rems n++remL
theorem rems_succ:∀ n,rems (n+1)=remL++rems n
 | 0=>rfl
 | n+1=>by
   show rems (n+1)++remL=remL++rems (n+1)
   conv=>lhs; rw [rems_succ n]
   rw [List.append_assoc]; rfl
theorem rems_len:∀ n,(rems n).length=5 * n
 | 0=>rfl
 | n+1=>by rw [rems,List.length_append,rems_len n]; simp; omega
def blks:Nat→List UInt8
 | 0=>[]
 | n+1=>blks n++[32]
theorem blks_succ:∀ n,blks (n+1)=32::blks n
 | 0=>rfl
 | n+1=>by
   show blks (n+1)++[32]=32::blks (n+1)
   conv=>lhs; rw [blks_succ n]
   rfl
theorem blks_len:∀ n,(blks n).length=n
 | 0=>rfl
 | n+1=>by rw [blks,List.length_append,blks_len n]; rfl
theorem spG_rems {t:List UInt8}:∀ (n:Nat) (suf:List UInt8) (p:Nat),t.drop p=rems n++suf→spG t p spZ=List.replicate n ⟨[],1⟩++spG t (p+5 * n) spZ∧t.drop (p+5 * n)=suf
 | 0,suf,p,h=>by simp [rems] at h ⊢; exact h
 | n+1,suf,p,h=>by
   rw [rems_succ] at h
   have h0:t.drop p=59::(bys [([32],32),([195,169],233)]++10::(rems n++suf)):=by rw [h]; rfl
   obtain⟨a1,a2⟩:=spG_s (ws:=[]) (e:=0) (c:=1) (f:=0) h0
   obtain⟨b1,b2⟩:=spG_r [([32],32),([195,169],233)] (rems n++suf) (p+1) [] 1 2 (-1) 0 (by decide) a2
   have e5:p+1+(bys [([32],32),([195,169],233)]).length+1=p+5:=by simp [bys]
   rw [e5] at b1 b2
   obtain⟨c1,c2⟩:=spG_rems n suf (p+5) b2
   have ez:(⟨[],0,1,-1,0,false⟩:SpS)=spZ:=rfl
   rw [ez] at a1 b1
   rw [a1,show(1:Int)+1=2 from rfl,b1,c1,show p+5 * (n+1)=p+5+5 * n by omega]
   exact⟨by rw [List.replicate_succ]; rfl,c2⟩
theorem spG_blks {t:List UInt8}:∀ (m:Nat) (suf:List UInt8) (p:Nat) (c:Int),t.drop p=blks m++suf→spG t p ⟨[],0,c,-1,0,false⟩=spG t (p+m) ⟨[],0,c+m,-1,0,false⟩∧t.drop (p+m)=suf
 | 0,suf,p,c,h=>by simp [blks] at h ⊢; exact h
 | m+1,suf,p,c,h=>by
   rw [blks_succ] at h
   obtain⟨a1,a2⟩:=spG_bl (ws:=[]) (e:=0) (c:=c) (f:=0) h
   obtain⟨c1,c2⟩:=spG_blks m suf (p+1) (c+1) a2
   rw [a1,c1,show p+(m+1)=p+1+m by omega]
   refine⟨?_,c2⟩
   congr 2
   simp; omega
theorem spA_pre {n m:Nat} {suf:List UInt8} {t:List UInt8} (ht:t=rems n++(blks m++suf)):spA t=List.replicate n ⟨[],1⟩++spG t (5 * n+m) ⟨[],0,1+(m:Nat),-1,0,false⟩∧t.drop (5 * n+m)=suf:=by
 obtain⟨a1,a2⟩:=spG_rems n (blks m++suf) 0 (t:=t) (by rw [ht]; rfl)
 rw [Nat.zero_add] at a1 a2
 obtain⟨b1,b2⟩:=spG_blks m suf (5 * n) 1 a2
 refine⟨?_,b2⟩
 rw [spA,a1]
 congr 1
theorem rdF_rems:∀ (n i:Nat) (X:List LnS),rdF (List.replicate n ⟨[],1⟩++X) i [] [] []=rdF X (i+n) [] [] []
 | 0,i,X=>by simp
 | n+1,i,X=>by
   rw [List.replicate_succ,List.cons_append,rdF,if_neg (by simp [rnZ])]
   have:=rdF_rems n (i+1) X
   simp only [rnZ]
   rw [this]; congr 1; omega
end
end Go.Lev
/- TextPlaces: what is told of each text -/
namespace Go.Lev
set_option linter.unusedSimpArgs false
set_option linter.unusedVariables false
open Go.RowKit
open Go.Proofs.Tryd (prog)
set_option maxRecDepth 100000
noncomputable section
theorem isn_ee:isnB [195,169,195,169]=true:=by
 unfold isnB
 rw [nmF,dif_pos (by decide),if_pos (by rfl),show 0+xrw [195,169,195,169] 0=2 from rfl]
 rw [nmF,dif_pos (by decide),if_pos (by rfl),show 2+xrw [195,169,195,169] 2=4 from rfl]
 rw [nmF,dif_neg (by decide)]
 rfl
theorem isn_e:isnB [195,169]=true:=by
 unfold isnB
 rw [nmF,dif_pos (by decide),if_pos (by rfl),show 0+xrw [195,169] 0=2 from rfl]
 rw [nmF,dif_neg (by decide)]
 rfl
theorem isn_nobody:isnB [110,111,98,111,100,121]=true:=by
 unfold isnB
 rw [nmF,dif_pos (by decide),if_pos (by rfl),show 0+xrw [110,111,98,111,100,121] 0=1 from rfl]
 rw [nmF,dif_pos (by decide),if_pos (by rfl),show 1+xrw [110,111,98,111,100,121] 1=2 from rfl]
 rw [nmF,dif_pos (by decide),if_pos (by rfl),show 2+xrw [110,111,98,111,100,121] 2=3 from rfl]
 rw [nmF,dif_pos (by decide),if_pos (by rfl),show 3+xrw [110,111,98,111,100,121] 3=4 from rfl]
 rw [nmF,dif_pos (by decide),if_pos (by rfl),show 4+xrw [110,111,98,111,100,121] 4=5 from rfl]
 rw [nmF,dif_pos (by decide),if_pos (by rfl),show 5+xrw [110,111,98,111,100,121] 5=6 from rfl]
 rw [nmF,dif_neg (by decide)]
 rfl
theorem drl_1:drB [49] 7=true:=by
 unfold drB drV
 rw [if_neg (by decide),drF,dif_pos (by decide),if_neg (by decide),if_neg (by decide),if_neg (by decide),if_neg (by decide),if_neg (by decide),show 0+xrw [49] 0=1 from rfl,drF,dif_neg (by decide)]
 rfl
theorem drl_8:drB [56] 7=false:=by
 unfold drB drV
 rw [if_neg (by decide),drF,dif_pos (by decide),if_neg (by decide),if_neg (by decide),if_neg (by decide),if_neg (by decide),if_pos (by decide)]
 rfl
theorem drl_5:drB [53] 18446744073709551615=true:=by
 unfold drB drV
 rw [if_neg (by decide),drF,dif_pos (by decide),if_neg (by decide),if_neg (by decide),if_neg (by decide),if_neg (by decide),if_neg (by decide),show 0+xrw [53] 0=1 from rfl,drF,dif_neg (by decide)]
 rfl
theorem rf_r1:rfB 1 [114,49]=true:=(show rfB 1 [114,49]=drB [49] 7 from rfl).trans drl_1
theorem rf_r8:rfB 1 [114,56]=false:=(show rfB 1 [114,56]=drB [56] 7 from rfl).trans drl_8
theorem rf_5:rfB 7 [53]=true:=(show rfB 7 [53]=drB [53] 18446744073709551615 from rfl).trans drl_5
theorem rf_nobody:rfB 4 [110,111,98,111,100,121]=true:=(show rfB 4 [110,111,98,111,100,121]=isnB [110,111,98,111,100,121] from rfl).trans isn_nobody
theorem op_set:opB [115,101,116]=true∧opW [115,101,116]=1:=⟨rfl,rfl⟩
theorem op_jump:opB [106,117,109,112]=true∧opW [106,117,109,112]=12:=⟨rfl,rfl⟩
theorem riS_set {e ln:Int} {ni:Nat} {ws:List Wd} {x:InX} {J:List MkX}:riS e ln ni (riK 1) ws x J=riS e ln ni [(0,1),(3,7)] ws x J:=by
 rw [show riK 1=[(0,1),(1,0),(2,0),(3,7)] from rfl]
 cases ws with
 | nil=>rw [riS_n (by decide),riS_n (by decide)]
 | cons w ws=>rw [riS_c (by decide),riS_c (by decide),riS_0 rfl,riS_0 rfl]
theorem rn_0 (c1 c2 c3 e ln:Int):rnZ ⟨[([115,195,169,116],c1),([114,49],c2),([53],c3)],e⟩ ln [] [] []=((ln,c1,12),[],[],[]):=by
 simp only [rnZ,show isL [115,195,169,116]=false from rfl,Bool.false_eq_true,if_false]
 unfold riZ
 rw [if_pos (by rfl)]
theorem rn_2 (c1 c2 c3 c4 e ln:Int):(rnZ ⟨[([115,101,116],c1),([114,49],c2),([53],c3),([54],c4)],e⟩ ln [] [] []).1=(ln,c4,12):=by
 simp only [rnZ,show isL [115,101,116]=false from rfl,Bool.false_eq_true,if_false]
 unfold riZ
 rw [if_neg (by decide),if_neg (by decide),op_set.2,riS_set,riS_c (by decide),if_pos rf_r1,riS_c (by decide),if_pos rf_5,riS]
theorem rn_3 (c1 c2 e ln:Int):(rnZ ⟨[([115,101,116],c1),([114,49],c2)],e⟩ ln [] [] []).1=(ln,e,12):=by
 simp only [rnZ,show isL [115,101,116]=false from rfl,Bool.false_eq_true,if_false]
 unfold riZ
 rw [if_neg (by decide),if_neg (by decide),op_set.2,riS_set,riS_c (by decide),if_pos rf_r1,riS_n (by decide)]
theorem rl_any {x:List UInt8} (h:isnB (rlS x)=true):rlB (encL mkC []) x=true:=by
 unfold rlB
 rw [h]; rfl
theorem rn_1 (c1 c2 c3 c4 e ln:Int):(rnZ ⟨[([195,169,195,169,58],c1),([115,101,116],c2),([114,56],c3),([53],c4)],e⟩ ln [] [] []).1=(ln,c3,12):=by
 simp only [rnZ,show isL [195,169,195,169,58]=true from rfl,if_true]
 rw [if_neg (by rw [rl_any (x:=[195,169,195,169,58]) isn_ee]; simp)]
 unfold riZ
 rw [if_neg (by decide),if_neg (by decide),op_set.2,riS_set,riS_c (by decide),if_neg (by rw [rf_r8]; simp)]
theorem rn_4 (c1 c2 c3 e ln:Int):rnZ ⟨[([195,169,58],c1),([106,117,109,112],c2),([110,111,98,111,100,121],c3)],e⟩ ln [] [] []=((0,0,0),[rsX 2 4 ([110,111,98,111,100,121],c3) ⟨12,0,0,0,0⟩],[⟨[195,169],0,0,0⟩],[⟨[110,111,98,111,100,121],0,ln,c3⟩]):=by
 have hz:riZ [106,117,109,112] c2 [([110,111,98,111,100,121],c3)] e ln [] []=((0,0,0),[rsX 2 4 ([110,111,98,111,100,121],c3) ⟨12,0,0,0,0⟩],[⟨[110,111,98,111,100,121],0,ln,c3⟩]):=by
  unfold riZ
  rw [if_neg (by decide),if_neg (by decide),op_jump.2,show riK 12=[(0,0),(1,0),(2,4),(3,0)] from rfl,riS_0 rfl,riS_0 rfl,riS_c (by decide),if_pos rf_nobody,riS_0 rfl,riS]
  rfl
 simp only [rnZ,show isL [195,169,58]=true from rfl,if_true]
 rw [if_neg (by rw [rl_any (x:=[195,169,58]) isn_e]; simp)]
 rw [hz]
 rfl
theorem aim_nob (ln c3:Int) (X:List InX):(aimF [⟨[195,169],0,0,0⟩] [⟨[110,111,98,111,100,121],0,ln,c3⟩] X).1=(ln,c3,12):=rfl
theorem spG_end {t:List UInt8} {p:Nat} {f:Int} (h:t.drop p=[]):spG t p ⟨[],0,1,-1,f,false⟩=[]:=by
 have:¬ p < t.length:=by
  intro k
  rw [List.drop_eq_getElem_cons k] at h
  cases h
 rw [spG,dif_neg this,if_neg (by simp)]
theorem bad_0 (n m:Nat) (rest:List UInt8) (t:List UInt8) (ht:t=rems n++(blks m++([115,195,169,116,32,114,49,32,53]++10::rest))):(rdZ t).1=(((n+1:Nat):Int),(m:Int)+1,12):=by
 obtain⟨a1,a2⟩:=spA_pre ht
 rw [rdZ,a1,rdF_rems,Nat.zero_add]
 clear a1 ht
 generalize 5 * n+m=P at *
 obtain⟨b0,d0⟩:=spG_wb (ws:=[]) (e:=0) (c:=(1+(m:Int))) (f:=0) (x:=([115],115)) (k:=[([195,169],233),([116],116)]) (suf:=[114,49,32,53]++10::rest) (by decide) a2
 rw [b0]
 obtain⟨b1,d1⟩:=spG_wb (ws:=_) (e:=0) (c:=_) (f:=_) (x:=([114],114)) (k:=[([49],49)]) (suf:=[53]++10::rest) (by decide) d0
 rw [b1]
 obtain⟨b2,d2⟩:=spG_wn (ws:=_) (e:=0) (c:=_) (f:=_) (x:=([53],53)) (k:=[]) (suf:=rest) (by decide) d1
 rw [b2]
 change (rdF (⟨[([115,195,169,116],_),([114,49],_),([53],_)],_⟩::_) n [] [] []).1=_
 rw [rdF,if_pos (by rw [rn_0]; simp)]
 rw [rn_0]
 refine Prod.ext rfl (Prod.ext ?_ rfl)
 show(_:Int)=_
 simp
 try omega
theorem bad_1 (n m:Nat) (rest:List UInt8) (t:List UInt8) (ht:t=rems n++(blks m++([195,169,195,169,58,32,115,101,116,32,114,56,32,53]++10::rest))):(rdZ t).1=(((n+1:Nat):Int),(m:Int)+9,12):=by
 obtain⟨a1,a2⟩:=spA_pre ht
 rw [rdZ,a1,rdF_rems,Nat.zero_add]
 clear a1 ht
 generalize 5 * n+m=P at *
 obtain⟨b0,d0⟩:=spG_wb (ws:=[]) (e:=0) (c:=(1+(m:Int))) (f:=0) (x:=([195,169],233)) (k:=[([195,169],233),([58],58)]) (suf:=[115,101,116,32,114,56,32,53]++10::rest) (by decide) a2
 rw [b0]
 obtain⟨b1,d1⟩:=spG_wb (ws:=_) (e:=0) (c:=_) (f:=_) (x:=([115],115)) (k:=[([101],101),([116],116)]) (suf:=[114,56,32,53]++10::rest) (by decide) d0
 rw [b1]
 obtain⟨b2,d2⟩:=spG_wb (ws:=_) (e:=0) (c:=_) (f:=_) (x:=([114],114)) (k:=[([56],56)]) (suf:=[53]++10::rest) (by decide) d1
 rw [b2]
 obtain⟨b3,d3⟩:=spG_wn (ws:=_) (e:=0) (c:=_) (f:=_) (x:=([53],53)) (k:=[]) (suf:=rest) (by decide) d2
 rw [b3]
 change (rdF (⟨[([195,169,195,169,58],_),([115,101,116],_),([114,56],_),([53],_)],_⟩::_) n [] [] []).1=_
 rw [rdF,if_pos (by rw [rn_1]; simp)]
 refine(congrArg (fun x=>x) (rn_1 ..)).trans ?_
 refine Prod.ext rfl (Prod.ext ?_ rfl)
 show(_:Int)=_
 simp
 try omega
theorem bad_2 (n m:Nat) (rest:List UInt8) (t:List UInt8) (ht:t=rems n++(blks m++([115,101,116,32,114,49,32,53,32,54]++10::rest))):(rdZ t).1=(((n+1:Nat):Int),(m:Int)+10,12):=by
 obtain⟨a1,a2⟩:=spA_pre ht
 rw [rdZ,a1,rdF_rems,Nat.zero_add]
 clear a1 ht
 generalize 5 * n+m=P at *
 obtain⟨b0,d0⟩:=spG_wb (ws:=[]) (e:=0) (c:=(1+(m:Int))) (f:=0) (x:=([115],115)) (k:=[([101],101),([116],116)]) (suf:=[114,49,32,53,32,54]++10::rest) (by decide) a2
 rw [b0]
 obtain⟨b1,d1⟩:=spG_wb (ws:=_) (e:=0) (c:=_) (f:=_) (x:=([114],114)) (k:=[([49],49)]) (suf:=[53,32,54]++10::rest) (by decide) d0
 rw [b1]
 obtain⟨b2,d2⟩:=spG_wb (ws:=_) (e:=0) (c:=_) (f:=_) (x:=([53],53)) (k:=[]) (suf:=[54]++10::rest) (by decide) d1
 rw [b2]
 obtain⟨b3,d3⟩:=spG_wn (ws:=_) (e:=0) (c:=_) (f:=_) (x:=([54],54)) (k:=[]) (suf:=rest) (by decide) d2
 rw [b3]
 change (rdF (⟨[([115,101,116],_),([114,49],_),([53],_),([54],_)],_⟩::_) n [] [] []).1=_
 rw [rdF,if_pos (by rw [rn_2]; simp)]
 refine(congrArg (fun x=>x) (rn_2 ..)).trans ?_
 refine Prod.ext rfl (Prod.ext ?_ rfl)
 show(_:Int)=_
 simp
 try omega
theorem bad_3 (n m:Nat) (rest:List UInt8) (t:List UInt8) (ht:t=rems n++(blks m++([115,101,116,32,114,49,32,59,53]++10::rest))):(rdZ t).1=(((n+1:Nat):Int),(m:Int)+8,12):=by
 obtain⟨a1,a2⟩:=spA_pre ht
 rw [rdZ,a1,rdF_rems,Nat.zero_add]
 clear a1 ht
 generalize 5 * n+m=P at *
 obtain⟨b0,d0⟩:=spG_wb (ws:=[]) (e:=0) (c:=(1+(m:Int))) (f:=0) (x:=([115],115)) (k:=[([101],101),([116],116)]) (suf:=[114,49,32,59,53]++10::rest) (by decide) a2
 rw [b0]
 obtain⟨b1,d1⟩:=spG_wb (ws:=_) (e:=0) (c:=_) (f:=_) (x:=([114],114)) (k:=[([49],49)]) (suf:=[59,53]++10::rest) (by decide) d0
 rw [b1]
 obtain⟨b2,d2⟩:=spG_s (ws:=_) (e:=0) (c:=_) (f:=_) (suf:=[53]++10::rest) d1
 rw [b2]
 obtain⟨b3,d3⟩:=spG_r [([53],53)] rest _ _ _ _ _ _ (by decide) d2
 rw [b3]
 change (rdF (⟨[([115,101,116],_),([114,49],_)],_⟩::_) n [] [] []).1=_
 rw [rdF,if_pos (by rw [rn_3]; simp)]
 refine(congrArg (fun x=>x) (rn_3 ..)).trans ?_
 refine Prod.ext rfl (Prod.ext ?_ rfl)
 show(_:Int)=_
 simp
 try omega
theorem bad_4 (n m:Nat) (t:List UInt8) (ht:t=rems n++(blks m++([195,169,58,32,106,117,109,112,32,110,111,98,111,100,121]++10::[]))):(rdZ t).1=(((n+1:Nat):Int),(m:Int)+9,12):=by
 obtain⟨a1,a2⟩:=spA_pre ht
 rw [rdZ,a1,rdF_rems,Nat.zero_add]
 clear a1 ht
 generalize 5 * n+m=P at *
 obtain⟨b0,d0⟩:=spG_wb (ws:=[]) (e:=0) (c:=(1+(m:Int))) (f:=0) (x:=([195,169],233)) (k:=[([58],58)]) (suf:=[106,117,109,112,32,110,111,98,111,100,121]++10::[]) (by decide) a2
 rw [b0]
 obtain⟨b1,d1⟩:=spG_wb (ws:=_) (e:=0) (c:=_) (f:=_) (x:=([106],106)) (k:=[([117],117),([109],109),([112],112)]) (suf:=[110,111,98,111,100,121]++10::[]) (by decide) d0
 rw [b1]
 obtain⟨b2,d2⟩:=spG_wn (ws:=_) (e:=0) (c:=_) (f:=_) (x:=([110],110)) (k:=[([111],111),([98],98),([111],111),([100],100),([121],121)]) (suf:=[]) (by decide) d1
 rw [b2]
 change (rdF (⟨[([195,169,58],_),([106,117,109,112],_),([110,111,98,111,100,121],_)],_⟩::_) n [] [] []).1=_
 rw [rdF,if_neg (by rw [rn_4]; simp),rn_4,spG_end d2,rdF,aim_nob]
 refine Prod.ext rfl (Prod.ext ?_ rfl)
 show(_:Int)=_
 simp
 try omega
end
end Go.Lev
