import Derived.Test.YtnkkkihgljbllaaDoorCPA
import Derived.Test.YtnkkkihgljbllaaDoorCX9
import Derived.Test.YtnkkkihgljbllaaDoorCPD
import Derived.Test.YtnkkkihgljbllaaDoorCXA
/- text: words of the code and of the reference; an instruction of both -/
namespace Go.Lev
set_option linter.unusedSimpArgs false
set_option linter.unusedVariables false
open Go.RowKit
open Go.Proofs.Tryd (prog)
set_option maxRecDepth 100000
noncomputable section
theorem D_ {s:ap} {p:Nat} (h:p < s.length):iL s p=aM s p::iL s (p+aP s p):=by rw [iL,dif_pos h]
theorem xR {s:ap} {p:Nat} (h:s.length≤p):iL s p=[]:=by rw [iL,dif_neg ab]
theorem Dz {s:ap}:∀ (n p:Nat) (k:Int),s.length - p≤n→oW s p k=true→(65533:Int) ∉ iL s p
 | 0,p,k,hn,h=>by rw [xR ab]; simp
 | n+1,p,k,hn,h=>by
   by_cases hp:p < s.length
   ·have hw:=fF hp;rw [oW,dif_pos hp] at h;rw [D_ hp];intro hm;have hl:lZ (65533:Int)=false:=by decide
    rcases eT.1 hm with hm | hm
    ·rw [← hm,hl,av aC] at h;split at h
     ·cases h
     ·rw [av ab,aB ab] at h; cases h
    ·split at h
     ·exact Dz n _ _ ab h hm
     ·split at h
      ·cases h
      ·split at h
       ·cases h
       ·split at h
        ·cases h
        ·exact Dz n _ _ ab h hm
   ·rw [xR ab]; simp
theorem yw {f:Nat→ap} {s:ap}:∀ k,fh f k s≠0→∃ j,1≤j∧j≤k∧f j=s∧fh f k s=(j:Int)
 | 0,h=>absurd rfl h
 | k+1,h=>by
   rw [fh] at h ⊢;cases hq:f (k+1) == s with
   | true=>exact⟨k+1,ab,aR _,eq_of_beq hq,rfl⟩
   | false =>
     rw [hq] at h;obtain⟨j,h1,h2,h3,h4⟩:=yw k h;exact⟨j,h1,ab,h3,h4⟩
theorem Tp:∀ j:Fin 24,(jO j.1).all (fun b=>decide (b.toNat < 128))=true:=by decide
theorem Sv:∀ j:Fin 13,(dj j.1).all (fun b=>decide (b.toNat < 128))=true:=by decide
theorem Vk {s:ap} (h:iB s=true):vY s:=by
 obtain⟨j,h1,h2,h3,_⟩:=yw 23 (by simpa [iB] using h);have:=Tp ⟨j,ab⟩;rw [h3,j_] at this;exact fun b hb=>by simpa using this b hb
theorem VH {s:ap} (h:mz s=true):vY s:=by
 obtain⟨j,h1,h2,h3,_⟩:=yw 12 (by simpa [mz] using h);have:=Sv ⟨j,ab⟩;rw [h3,j_] at this;exact fun b hb=>by simpa using this b hb
def nQ (x:ap):Prop:=(65533:Int)∈iL x 0
theorem An {x:ap} (h:nQ x):¬ vY x:=fun k=>Sa k 0 h
theorem Em {x:ap} (h:nQ x):dW x=false:=by
 cases hb:dW x with
 | false=>rfl
 | true=>exact absurd h (Dz _ 0 0 (aR _) hb)
theorem H5 {x:ap} (h:nQ x):iB x=false:=by
 cases hb:iB x with
 | false=>rfl
 | true=>exact absurd (Vk hb) (An h)
theorem Sd {x:ap} (h:nQ x):mz x=false:=by
 cases hb:mz x with
 | false=>rfl
 | true=>exact absurd (VH hb) (An h)
theorem H4 {x:ap} {m:Int} (hm:0≤m∧m≤18446744073709551615) (h:nQ x):c_ x m=false:=by
 cases hb:c_ x m with
 | false=>rfl
 | true=>exact absurd (IX hm hb) (An h)
theorem Sc {x:ap} (h:nQ x) (k:Int):dP k x=false:=by
 unfold dP kf;split
 ·split
  ·rfl
  ·split
   ·rfl
   ·rename_i h1 h2;dsimp only;cases hb:c_ (aY x 1 x.length) (ay .u64 (gu k)) with
    | false=>rfl
    | true =>
      exfalso;apply An h;have h2:bz x 0=114:=Decidable.byContradiction h2;have ha:=IX (DI _) hb;cases x with
      | nil=>intro b hb; cases hb
      | cons a r =>
        have e:aY (a::r) 1 (a::r).length=r:=by simp [aY]
        rw [e] at ha;intro b hb;rcases eT.1 hb with hb | hb
        ·have:bz (a::r) 0=(a.toNat:Int):=rfl;rw [hb]; omega
        ·exact ha b hb
 ·split
  ·exact Sd h
  ·split
   ·exact H4 ⟨ab,ab⟩ h
   ·exact H4 (DI _) h
theorem Sb {x:ap} (h:nQ x) (k:Int):gE k x=false:=by
 unfold gE;cases decide (k=4)
 ·exact Sc h k
 ·exact Em h
theorem Tj {x:ap} {q:Nat} (h:q < x.length) (hr:aM x q=65533) (he:q+aP x q=x.length):bz x (x.length - 1)≠58:=by
 intro hb;rw [xD] at he;rw [vd] at hr;have hr:(f8 (gf x q) (x.length - q)).1=65533:=ab;have hl:gf x q (x.length - 1 - q)=58:=by
  have e:q+(x.length - 1 - q)=x.length - 1:=ab;unfold gf; rw [e];unfold bz at hb; omega
 rcases Fv (gf x q) (x.length - q) (DM x q) ab with⟨e,e1,e2⟩ | ⟨v,e,w1,w2⟩
 ·rw [e] at he;have:x.length - 1 - q=0:=by simp only at he; omega
  rw [this] at hl; omega
 ·rw [hr] at e;have e' : [239,191,189]=(List.range (f8 (gf x q) (x.length - q)).2).map (gf x q):=e;have hlen:=congrArg List.length e';simp at hlen;rw [← hlen] at e' he;simp only [List.range,List.range.loop,List.map,iJ,kG] at e';have:x.length - 1 - q=2:=ab;rw [this] at hl; omega
theorem IL {x:ap} (hb:bz x (x.length - 1)=58):∀ (n p:Nat),x.length - p≤n→(65533:Int)∈iL x p→(65533:Int)∈iL (aY x 0 (x.length - 1)) p
 | 0,p,hn,h=>by rw [xR ab] at h; cases h
 | n+1,p,hn,h=>by
   by_cases hp:p < x.length
   ·have hw:=fF hp;rw [D_ hp] at h;by_cases he:p+aP x p=x.length
    ·rcases eT.1 h with h | h
     ·exact absurd hb (Tj hp h.symm he)
     ·rw [he,xR (aR _)] at h; cases h
    ·obtain⟨e1,e2⟩:=IR (t:=x) (s:=0) (p:=x.length - 1) (q:=p) (bk _) ab ab hp;rw [Nat.sub_zero] at e1 e2;rw [D_ (by rw [Aq ab]; omega),e1,e2];rcases eT.1 h with h | h
     ·exact eT.2 (.inl h)
     ·exact eT.2 (.inr (IL hb n _ ab h))
   ·rw [xR ab] at h; cases h
structure Wr (ln:Int) (w:RW) (x:Wd):Prop where
 cl:w.cl=x.2
 ln:w.ln=ln
 tx:(w.bd=false∧w.s=x.1)∨(w.bd=true∧nQ x.1)
inductive Al (ln:Int):List RW→List Wd→Prop
 | nil:Al ln [] []
 | cons {w:RW} {x:Wd} {ws:List RW} {xs:List Wd} (h:Wr ln w x) (r:Al ln ws xs):Al ln (w::ws) (x::xs)
theorem Al.snoc {ln:Int} {ws:List RW} {xs:List Wd} (h:Al ln ws xs) {w:RW} {x:Wd} (k:Wr ln w x):Al ln (ws++[w]) (xs++[x]):=by
 induction h with
 | nil=>exact .cons k .nil
 | cons a r ih=>exact .cons a ih
/- a field of both -/
def kd (op f:Int):Int:=if f=0 then fA op else if f=1 then fB op else if f=2 then fC op else fD op
def un (op f:Int):Int:=if f=0 then rA op else if f=1 then rB op else rC op
abbrev KP (op f k:Int):Prop :=
 (gV op f=decide (k≠0))∧(kq op f=decide (k=4)) ∧
 (k=1∨k=2→f≠3∧¬ (op=23∧f=0)∧¬ (((op=8∨op=9)∧f=2)∨(op=23∧f=1))∧un op f=gu k) ∧
 (k=3∨k=5→f≠3∧¬ (op=23∧f=0)∧(((op=8∨op=9)∧f=2)∨(op=23∧f=1))∧un op f=gu k) ∧
 (k=6→f≠3∧op=23∧f=0)∧(k=7→f=3)∧(f=3→k=0∨k=7)∧(0≤k∧k≤7)
theorem NP:∀ i:Fin 24,∀ f:Fin 4,1≤i.1→gV (i.1:Int) (f.1:Int)=decide (kd (i.1:Int) (f.1:Int)≠0):=by decide
theorem NQ:∀ i:Fin 24,∀ f:Fin 4,1≤i.1→kq (i.1:Int) (f.1:Int)=decide (kd (i.1:Int) (f.1:Int)=4):=by decide
theorem Q_:∀ i:Fin 24,∀ f:Fin 4,1≤i.1→(kd (i.1:Int) (f.1:Int)=1∨kd (i.1:Int) (f.1:Int)=2)→(f.1:Int)≠3:=by decide
theorem Ra:∀ i:Fin 24,∀ f:Fin 4,1≤i.1→(kd (i.1:Int) (f.1:Int)=1∨kd (i.1:Int) (f.1:Int)=2)→¬ ((i.1:Int)=23∧(f.1:Int)=0):=by decide
theorem Rb:∀ i:Fin 24,∀ f:Fin 4,1≤i.1→(kd (i.1:Int) (f.1:Int)=1∨kd (i.1:Int) (f.1:Int)=2)→¬ ((((i.1:Int)=8∨(i.1:Int)=9)∧(f.1:Int)=2)∨((i.1:Int)=23∧(f.1:Int)=1)):=by decide
theorem Rd:∀ i:Fin 24,∀ f:Fin 4,1≤i.1→(kd (i.1:Int) (f.1:Int)=1∨kd (i.1:Int) (f.1:Int)=2)→un (i.1:Int) (f.1:Int)=gu (kd (i.1:Int) (f.1:Int)):=by decide
theorem Re:∀ i:Fin 24,∀ f:Fin 4,1≤i.1→(kd (i.1:Int) (f.1:Int)=3∨kd (i.1:Int) (f.1:Int)=5)→(f.1:Int)≠3:=by decide
theorem Rf:∀ i:Fin 24,∀ f:Fin 4,1≤i.1→(kd (i.1:Int) (f.1:Int)=3∨kd (i.1:Int) (f.1:Int)=5)→¬ ((i.1:Int)=23∧(f.1:Int)=0):=by decide
theorem Rg:∀ i:Fin 24,∀ f:Fin 4,1≤i.1→(kd (i.1:Int) (f.1:Int)=3∨kd (i.1:Int) (f.1:Int)=5)→((((i.1:Int)=8∨(i.1:Int)=9)∧(f.1:Int)=2)∨((i.1:Int)=23∧(f.1:Int)=1)):=by decide
theorem Rh:∀ i:Fin 24,∀ f:Fin 4,1≤i.1→(kd (i.1:Int) (f.1:Int)=3∨kd (i.1:Int) (f.1:Int)=5)→un (i.1:Int) (f.1:Int)=gu (kd (i.1:Int) (f.1:Int)):=by decide
theorem NS:∀ i:Fin 24,∀ f:Fin 4,1≤i.1→(kd (i.1:Int) (f.1:Int)=6→(f.1:Int)≠3∧(i.1:Int)=23∧(f.1:Int)=0)∧(kd (i.1:Int) (f.1:Int)=7→(f.1:Int)=3):=by decide
theorem NT:∀ i:Fin 24,∀ f:Fin 4,1≤i.1→((f.1:Int)=3→kd (i.1:Int) (f.1:Int)=0∨kd (i.1:Int) (f.1:Int)=7)∧(0≤kd (i.1:Int) (f.1:Int)∧kd (i.1:Int) (f.1:Int)≤7):=by decide
theorem kp {op f:Int} (h1:1≤op) (h2:op≤23) (h3:0≤f) (h4:f≤3):KP op f (kd op f):=by
 have e1:((op.toNat:Nat):Int)=op:=ab;have e2:((f.toNat:Nat):Int)=f:=ab;have a:=NP ⟨op.toNat,ab⟩ ⟨f.toNat,ab⟩ lr;have b:=NQ ⟨op.toNat,ab⟩ ⟨f.toNat,ab⟩ lr;have ca:=Q_ ⟨op.toNat,ab⟩ ⟨f.toNat,ab⟩ lr;have cb:=Ra ⟨op.toNat,ab⟩ ⟨f.toNat,ab⟩ lr;have cc:=Rb ⟨op.toNat,ab⟩ ⟨f.toNat,ab⟩ lr;have cd:=Rd ⟨op.toNat,ab⟩ ⟨f.toNat,ab⟩ lr;have da:=Re ⟨op.toNat,ab⟩ ⟨f.toNat,ab⟩ lr;have db:=Rf ⟨op.toNat,ab⟩ ⟨f.toNat,ab⟩ lr;have dc:=Rg ⟨op.toNat,ab⟩ ⟨f.toNat,ab⟩ lr;have dd:=Rh ⟨op.toNat,ab⟩ ⟨f.toNat,ab⟩ lr;have e:=NS ⟨op.toNat,ab⟩ ⟨f.toNat,ab⟩ lr;have g:=NT ⟨op.toNat,ab⟩ ⟨f.toNat,ab⟩ lr;simp only [e1,e2] at a b ca cb cc cd da db dc dd e g;exact⟨a,b,fun h=>⟨ca h,cb h,cc h,cd h⟩,fun h=>⟨da h,db h,dc h,dd h⟩,e.1,e.2,g.1,g.2⟩
theorem SM {y:ap} {m:Int} (hm:0≤m∧m≤9):iC y m=if y.length=1∧48≤bz y 0∧bz y 0 - 48≤m then some (bz y 0 - 48) else none:=by
 have hm2:0≤m∧m≤18446744073709551615:=ab;unfold iC;by_cases h0:y.length=0
 ·have:y=[]:=fY.1 h0;subst this;rw [aB (by rfl),av aC]
 by_cases hq:kn y=true
 ·rw [aB hq];have hl:1 < y.length:=by
   by_cases q:1 < y.length
   ·exact q
   ·exfalso;have e:bA .eql y []=false:=by
     cases y with
     | nil=>simp at h0
     | cons a r=>rfl
    simp [kn,q,e] at hq
  rw [av ab]
 ·rw [av hq,vI ab hm2 ⟨ab,ab⟩];by_cases h1:y.length=1
  ·by_cases hc:48≤bz y 0∧bz y 0≤57∧bz y 0 - 48≤m∧(0:Int)≤(m - (bz y 0 - 48)) / 10
   ·rw [aB hc,aB ⟨h1,hc.1,hc.2.2.1⟩,jP,dif_neg ab]
    congr 1; omega
   ·rw [av hc,av ab]
  ·rw [av (c:=y.length=1∧_) ab];split
   ·rename_i c;rw [vI ab hm2 ⟨ab,ab⟩,av];intro c2;have h48:bz y 0≠48:=by
     intro e;apply hq;unfold kn;rw [show ad .eql (bz y 0) 48=true from cD e];simp; omega
    omega
   ·rfl
theorem Ix {s:ap} {k M:Int} (hk:k=1∨k=2) (hM:M=gu k):decide (0≤kv s M)=dP k s∧(dP k s=true→kv s M=ay .i64 (f7 k s)):=by
 have hM9:0≤M∧M≤9:=by rw [hM]; rcases hk with rfl | rfl <;> decide
 have hx:ay .u64 (gu k)=M:=by rw [← hM]; exact lS ab ab
 have key:=SM (y:=aY s 1 s.length) hM9;have hlen:(aY s 1 s.length).length=s.length - 1:=by simp [aY]
 have hby:bz (aY s 1 s.length) 0=bz s 1:=by
  unfold bz aY;cases s with
  | nil=>rfl
  | cons a r=>cases r <;> simp
 rw [hlen,hby] at key;unfold dP f7 kf;rw [aB hk,hx];by_cases h1:s.length < 1
 ·rw [aB h1];have:kv s M = -1:=by unfold kv; rw [av ab]
  rw [this]; exact⟨rfl,fun h=>by cases h⟩
 rw [av h1];by_cases h2:bz s 0=114
 ·rw [av (fun q=>q h2)];dsimp only;by_cases hc:s.length - 1=1∧48≤bz s 1∧bz s 1 - 48≤M
  ·rw [aB hc] at key;have er:kv s M=bz s 1 - 48:=by unfold kv; rw [aB ab]
   have hb:c_ (aY s 1 s.length) M=true:=by unfold c_; rw [key]; rfl
   have hn:dL (aY s 1 s.length) M=bz s 1 - 48:=by unfold dL; rw [key]; rfl
   rw [hb,hn,er];refine⟨by simp; omega,fun _=>?_⟩;have:=II s 1;exact(pz ab ab).symm
  ·rw [av hc] at key;have er:kv s M = -1:=by unfold kv; rw [av ab]
   have hb:c_ (aY s 1 s.length) M=false:=by unfold c_; rw [key]; rfl
   rw [hb,er]; exact⟨rfl,fun h=>by cases h⟩
 ·rw [aB h2];have:kv s M = -1:=by unfold kv; rw [av ab]
  rw [this]; exact⟨rfl,fun h=>by cases h⟩
theorem Ia {s:ap} {m v:Int} (hm:0≤m∧m≤18446744073709551615):∀ (k p:Nat) (n:Int),s.length - p≤k→0≤n→n≤m→jP s m p n=some v→0≤v∧v≤m
 | 0,p,n,hk,h0,hn,h=>by rw [jP,dif_neg ab] at h; cases h; omega
 | k+1,p,n,hk,h0,hn,h=>by
   by_cases hp:p < s.length
   ·rw [vI hp hm ⟨ab,ab⟩] at h;split at h
    ·rename_i c;exact Ia hm k (p+1) _ ab ab ab h
    ·cases h
   ·rw [jP,dif_neg hp] at h; cases h; omega
theorem SK {s:ap} {m:Int} (hm:0≤m∧m≤18446744073709551615) (h:c_ s m=true):0≤dL s m∧dL s m≤m:=by
 unfold c_ at h; unfold dL;obtain⟨v,hv⟩:=Option.isSome_iff_exists.1 h;rw [hv];unfold iC at hv;split at hv
 ·cases hv
 ·exact Ia hm s.length 0 0 ab ab ab hv
theorem Is {s:ap} {k M:Int} (hk:k=3∨k=5) (hM:M=gu k):decide (0≤p_ s M)=dP k s∧(dP k s=true→p_ s M=ay .i64 (f7 k s)):=by
 have hM9:0≤M∧M≤15:=by rw [hM]; rcases hk with rfl | rfl <;> decide
 have hx:ay .u64 M=M:=lS ab ab;unfold dP f7 kf;rw [av ab,av ab,av ab,← hM,hx]
 try dsimp only
 unfold p_;rw [hx];cases hb:c_ s M with
 | true =>
   have:=SK ab hb;rw [aB rfl];refine⟨?_,fun _=>rfl⟩;rw [show ay .i64 (dL s M)=dL s M from pz ab ab];simp; omega
 | false=>rw [av aC]; exact⟨rfl,fun h=>by cases h⟩
theorem Si (s:ap):decide (0≤oZ s 12)=dP 6 s∧(dP 6 s=true→oZ s 12=ay .i64 (f7 6 s)):=by
 unfold dP f7 kf;rw [av ab,aB rfl]
 try dsimp only
 unfold oZ mz sH;by_cases h:fh dj 12 s=0
 ·rw [aB h]; simp [h]
 ·obtain⟨j,h1,h2,_,h4⟩:=yw 12 h;rw [av h,h4];refine⟨by simp; omega,fun _=>?_⟩;rw [show ay .u64 (j:Int)=(j:Int) from lS ab ab];exact(pz ab ab).symm
theorem SV {op f:Int} (hp:KP op f (kd op f)) (hf:f=0∨f=1∨f=2∨f=3) (h0:kd op f≠0) (h4:kd op f≠4) {w:RW} (hb:w.bd=false) (x:bL) :
  kr op f w=gE (kd op f) w.s∧(kr op f w=true→∀ (c:Int),im op f w x=kK f (kd op f) (w.s,c) x):=by
 obtain⟨_,_,p12,p35,p6,p7,p3,pb⟩:=hp;generalize hk:kd op f=k at *;have er:gE k w.s=dP k w.s:=by unfold gE; rw [show decide (k=4)=false from by simp [h4]]; rfl
 rw [er];by_cases h3:f=3
 ·subst h3;obtain rfl:k=7:=by rcases p3 rfl with q | q <;> omega
  have e1:kr op 3 w=c_ w.s 18446744073709551615:=by simp [kr,dr,hb]
  refine⟨e1,fun _ c=>?_⟩;simp [im,kK,bl,cy,hb,f7,kf]
 have hfn:∀ v,ji op f w.s (un op f)=v→oY op f w.s (rA op) (rB op) (rC op)=v:=fun v h=>h
 have fin:∀ v,ji op f w.s (un op f)=v→decide (0≤v)=dP k w.s∧(dP k w.s=true→v=ay .i64 (f7 k w.s))→kr op f w=dP k w.s∧(kr op f w=true→∀ (c:Int),im op f w x=kK f k (w.s,c) x):=fun v hv ⟨q1,q2⟩=>by
  have e1:kr op f w=decide (0≤v):=by simp [kr,dr,hb,h3,hfn v hv]
  refine⟨by rw [e1,q1],fun ho c=>?_⟩;rw [e1] at ho;have ev:=q2 (by rw [← q1]; exact ho);have ho:0≤v:=by simpa using ho
  have h4':decide (k=4)=false:=by simp [h4]
  rcases hf with rfl | rfl | rfl | rfl
  iterate 3
   ·simp [im,kK,bl,cy,hb,hfn v hv,ho,h4',ev.symm]
  ·exact absurd rfl h3
 have hk':k=1∨k=2∨k=3∨k=5∨k=6∨k=7:=ab;rcases hk' with q | q | q | q | q | q
 ·obtain⟨_,a,b,c⟩:=p12 (.inl q);exact fin _ (by rw [ji,av a,av b]) (Ix (.inl q) c)
 ·obtain⟨_,a,b,c⟩:=p12 (.inr q);exact fin _ (by rw [ji,av a,av b]) (Ix (.inr q) c)
 ·obtain⟨_,a,b,c⟩:=p35 (.inl q);exact fin _ (by rw [ji,av a,aB b]) (Is (.inl q) c)
 ·obtain⟨_,a,b,c⟩:=p35 (.inr q);exact fin _ (by rw [ji,av a,aB b]) (Is (.inr q) c)
 ·obtain⟨_,a⟩:=p6 q;subst q;exact fin _ (by rw [ji,aB a]) (Si w.s)
 ·exact absurd (p7 q) h3
def lB (j:bq):RW:=⟨j.nm,j.ln,j.cl,false⟩
def JR (J0 J:List bq) (ni:Nat) (j:RW):Bool→Prop
 | false=>J=J0∧j=kJ
 | true=>∃ m:bq,J=J0++[m]∧j=lB m∧m.nm≠[]∧m.pl=(ni:Int)
def zv:List Int→Bool→Prop
 | [],_=>True
 | k::r,p=>(k=4→p=false)∧zv r (p || decide (k=4))
theorem zp {op e ln:Int} {ni:Nat} {J0:List bq} (hop:1≤op∧op≤23):∀ (L:List Int),(∀ f∈L,f=0∨f=1∨f=2∨f=3)→∀ (ws:List RW) (ys:List Wd) (x:bL) (j:RW) (J:List bq) (p:Bool),zv (L.map (kd op)) p→Al ln ws ys→JR J0 J ni j p →
  (∃ c a b a' b' a2 b2,gH e op L ws x j=(some c,a,b,a2)∧gq e ln ni (L.map fun f=>(f,kd op f)) ys x J=(some c,a',b',b2)) ∨
  (∃ ws' ys' x' j' J' p',gH e op L ws x j=(none,ws',x',j')∧gq e ln ni (L.map fun f=>(f,kd op f)) ys x J=(none,ys',x',J')∧Al ln ws' ys'∧JR J0 J' ni j' p')
 | [],_,ws,ys,x,j,J,p,_,hA,hJ=>.inr ⟨ws,ys,x,j,J,p,rfl,rfl,hA,hJ⟩
 | f::L,hL,ws,ys,x,j,J,p,h4,hA,hJ=>by
   have hf:=hL f aC;have hL':∀ g∈L,g=0∨g=1∨g=2∨g=3:=fun g hg=>hL g (by simp [hg])
   have hp:=kp (op:=op) (f:=f) hop.1 hop.2 ab ab;have hp':=hp;obtain⟨pa,pj,_⟩:=hp';obtain⟨o1,o2⟩:=h4;simp only [lp];by_cases k0:kd op f=0
   ·rw [xL (by rw [pa]; simp [k0]),u3 k0];have:(p || decide (kd op f=4))=p:=by simp [k0]
    rw [this] at o2;exact zp hop L hL' ws ys x j J p o2 hA hJ
   have ha:gV op f=true:=by rw [pa]; simp [k0]
   cases hA with
   | nil=>rw [KW ha,u5 k0]; exact .inl ⟨e,_,_,_,_,_,_,rfl,rfl⟩
   | @cons w y ws ys hw hA =>
     rw [xK ha,u4 k0];by_cases k4:kd op f=4
     ·have hpf:=o1 k4;subst hpf;obtain⟨rfl,rfl⟩:=hJ;rw [aB (by rw [pj]; simp [k4])];have er:gE (kd op f) y.1=dW y.1:=by rw [k4]; rfl
      rcases hw.tx with⟨t1,t2⟩ | ⟨t1,t2⟩
      ·have eo:mF w=dW y.1:=by simp [mF,t1,t2]
       rw [eo,er];cases hn:dW y.1 with
       | false=>exact Gk
       | true =>
         rw [aB rfl,aB rfl];have ex:kK f (kd op f) y x=x:=by rw [k4]; rfl
         have eJ:fb (kd op f) y ni ln J=J++[⟨y.1,ni,ln,y.2⟩]:=by rw [k4]; rfl
         rw [ex,eJ];have o2':zv (L.map (kd op)) true:=by simpa [k4] using o2
         refine zp hop L hL' ws ys x w _ true o2' hA ⟨⟨y.1,ni,ln,y.2⟩,rfl,?_,?_,rfl⟩
         ·obtain⟨s,l,c,b⟩:=w;have q1:=hw.cl; have q2:=hw.ln;simp only at q1 q2 t1 t2;subst q1 q2 t1 t2;rfl
         ·intro hz;have hz:y.1=[]:=hz;rw [hz] at hn;have:dW []=false:=by unfold dW; rw [oW,dif_neg aC]; rfl
          rw [this] at hn; cases hn
      ·have eo:mF w=false:=by simp [mF,t1]
       rw [eo,er,Em t2,av aC,av aC];exact .inl ⟨y.2,_,_,_,_,_,_,by rw [hw.cl],rfl⟩
     ·rw [av (by rw [pj]; simp [k4])];have:(p || decide (kd op f=4))=p:=by simp [k4]
      rw [this] at o2;rcases hw.tx with⟨t1,t2⟩ | ⟨t1,t2⟩
      ·obtain⟨q1,q2⟩:=SV hp hf k0 k4 t1 x;rw [q1,t2];cases hr:gE (kd op f) y.1 with
       | false=>exact Gk
       | true =>
         rw [aB rfl,aB rfl];have ex:im op f w x=kK f (kd op f) y x:=by rw [q2 (by rw [q1,t2,hr]) y.2,t2]
         have eJ:fb (kd op f) y ni ln J=J:=by unfold fb; rw [av k4]
         rw [ex,eJ];exact zp hop L hL' ws ys _ j J p o2 hA hJ
      ·have eo:kr op f w=false:=by simp [kr,dr,t1]
       rw [eo,Sb t2,av aC,av aC];exact .inl ⟨y.2,_,_,_,_,_,_,by rw [hw.cl],rfl⟩
theorem Vj:∀ i:Fin 24,fA (i.1:Int)≠4∧fB (i.1:Int)≠4∧fD (i.1:Int)≠4:=by decide
theorem S8 {e ln:Int} {v:RW} {ws:List RW} {y:Wd} {ys:List Wd} (hv:Wr ln v y) (hA:Al ln ws ys) (I:List bL) (J:List bq) :
  (ma e ln (I.length:Int) (v::ws)).2.2=(cL y.1 y.2 ys e ln I J).1∧((cL y.1 y.2 ys e ln I J).1.2.2=0→(cL y.1 y.2 ys e ln I J).2.1=I++[(ma e ln (I.length:Int) (v::ws)).1]∧∃ p,JR J (cL y.1 y.2 ys e ln I J).2.2 I.length (ma e ln (I.length:Int) (v::ws)).2.1 p):=by
 have hO:iP (jN v)=iB y.1∧(iB y.1=true→jN v=dV y.1):=by
  rcases hv.tx with⟨t1,t2⟩ | ⟨t1,t2⟩
  ·have ex:jN v=dV y.1:=by simp [jN,t1,t2]
   refine⟨?_,fun _=>ex⟩;rw [ex];unfold iB dV;by_cases h:fh jO 23 y.1=0
   ·rw [h]; rfl
   ·obtain⟨j,h1,h2,_,h4⟩:=yw 23 h;rw [h4];have e1:iP (j:Int)=true:=by simp only [iP]; exact decide_eq_true ab
    rw [e1]; simp; omega
  ·rw [H5 t2];exact⟨by simp [jN,t1]; rfl,fun h=>by cases h⟩
 unfold ma cL;dsimp only;cases ho:iB y.1 with
 | false =>
   rw [aB (by rw [hO.1,ho]),aB rfl];exact⟨by rw [hv.cl],fun h=>by cases h⟩
 | true =>
   have ex:=hO.2 ho;obtain⟨o1,o2⟩:=Iu ho;rw [av (c:=iP (jN v)=false) (by rw [hO.1,ho]; simp),av (c:=true=false) aC,ex];by_cases h40:40≤I.length
   ·rw [aB ab,aB h40];exact⟨by rw [hv.cl],fun h=>by cases h⟩
   rw [av ab,av h40];generalize dV y.1=op at *;have h4:zv (([0,1,2,3]:List Int).map (kd op)) false:=by
    have:=Vj ⟨op.toNat,ab⟩;simp only [show((op.toNat:Nat):Int)=op by omega] at this;obtain⟨n1,n2,n3⟩:=this;refine⟨fun _=>rfl,fun _=>?_,fun _=>?_,fun q=>absurd q n3,trivial⟩
    ·show(false || decide (fA op=4))=false;simp [n1]
    ·show(false || decide (fA op=4) || decide (fB op=4))=false;simp [n1,n2]
   have F:=zp (J0:=J) (ni:=I.length) (e:=e) ⟨o1,o2⟩ [0,1,2,3] aC ws ys ⟨op,0,0,0,0⟩ kJ J false h4 hA ⟨rfl,rfl⟩;change (∃ c a b a' b' a2 b2,gH e op [0,1,2,3] ws ⟨op,0,0,0,0⟩ kJ=(some c,a,b,a2)∧gq e ln I.length (nv op) ys ⟨op,0,0,0,0⟩ J=(some c,a',b',b2)) ∨
    (∃ ws' ys' x' j' J' p',gH e op [0,1,2,3] ws ⟨op,0,0,0,0⟩ kJ=(none,ws',x',j')∧gq e ln I.length (nv op) ys ⟨op,0,0,0,0⟩ J=(none,ys',x',J')∧Al ln ws' ys'∧JR J J' I.length j' p') at F
   rcases F with⟨c,a,b,a',b',a2,b2,e1,e2⟩ | ⟨ws',ys',x',j',J',p',e1,e2,hA',hJ'⟩
   ·rw [e1,e2];exact⟨rfl,fun h=>by cases h⟩
   ·rw [e1,e2];cases hA' with
    | nil=>exact⟨rfl,fun _=>⟨rfl,p',hJ'⟩⟩
    | cons hw r=>exact⟨by dsimp only [w7]; rw [hw.cl],fun h=>by cases h⟩
theorem VU (l:List Tk) (x:Tk):fy (l++[x])=if fy l=l then(if x.1=59 then l else l++[x]) else fy l:=by
 induction l with
 | nil =>
   by_cases h:x.1=59 <;> simp [fy,h]
 | cons a r ih =>
   unfold fy at ih ⊢;rw [lq,List.takeWhile_cons,List.takeWhile_cons];by_cases h:a.1=59
   ·simp [h]
   ·have hd:decide (a.1≠59)=true:=by simp [h]
    rw [aB hd,aB hd,ih];by_cases hr:List.takeWhile (fun x=>decide (x.1≠59)) r=r
    ·rw [aB hr,hr,aB (c:=a::r=a::r) rfl];split <;> rfl
    ·rw [av hr,av (by simpa using hr)]
theorem UR (ln:Int) (l:List Tk) (x:Tk):jf ln (l++[x])=je ln (jf ln l) x:=by
 unfold jf; rw [List.foldl_append]; rfl
def Mn (t:ap) (p:Nat) (C:CS) (S:eE):Prop:=(C.l=[]∧S.s = -1)∨(C.l≠[]∧∃ s:Nat,S.s=(s:Int)∧s≤t.length∧c7w t s p C.l∧S.f=C.f)
theorem Dv {t:ap} {p:Nat} {ln:Int} {C:CS} {S:eE} (h:Mn t p C S) (hA:Al ln C.ws S.ws):Al ln (mH ln C) (g_ t S p):=by
 unfold mH g_;rcases h with⟨h1,h2⟩ | ⟨h1,s,h2,h3,h4,h5⟩
 ·rw [aB h1,aB h2]; exact hA
 ·rw [av h1,av ab];refine hA.snoc ⟨h5.symm,rfl,?_⟩;rw [h2,show ae (s:Int)=s from kI s];show((C.l.any (·.2))=false∧gY (C.l.map (·.1))=aY t s p)∨((C.l.any (·.2))=true∧nQ (aY t s p));cases hb:C.l.any (·.2) with
  | false =>
    refine .inl ⟨rfl,h4.good h3 fun x hx=>?_⟩;rw [List.any_eq_false] at hb;simpa using hb x hx
  | true =>
    refine .inr ⟨rfl,h4.bad h3 ?_ h4.wr⟩;obtain⟨x,hx,h⟩:=List.any_eq_true.1 hb;exact⟨x,hx,h⟩
structure Sim (t:ap) (ln:Int) (p:Nat) (l:List Tk) (S:eE):Prop where
 hp:p≤t.length
 c:S.c=(l.length:Int)+1
 st:(fy l≠l∧S.m=true∧Al ln (gU ln l) S.ws∧S.e=((fy l).length:Int)+1)∨(fy l=l∧S.m=false∧(jf ln l).c=(l.length:Int)+1∧Al ln (jf ln l).ws S.ws∧Mn t p (jf ln l) S)
theorem Sim.fresh {t:ap} {ln f:Int} {p:Nat} (h:p≤t.length):Sim t ln p [] ⟨[],0,1,-1,f,false⟩ :=
 ⟨h,rfl,.inr ⟨rfl,rfl,rfl,.nil,.inl ⟨rfl,rfl⟩⟩⟩
theorem Sim.line {t:ap} {ln:Int} {p:Nat} {l:List Tk} {S:eE} (h:Sim t ln p l S):Al ln (gU ln l) (fZ t S p).ws∧(fZ t S p).e=((fy l).length:Int)+1:=by
 unfold fZ;rcases h.st with⟨h1,h2,h3,h4⟩ | ⟨h1,h2,h3,h4,h5⟩
 ·rw [aB h2]; exact⟨h3,h4⟩
 ·rw [av (by rw [h2]; simp)];refine⟨?_,by rw [h1]; exact h.c⟩;unfold gU; rw [h1]; exact Dv h5 h4
theorem Sim.next {t:ap} {ln:Int} {p:Nat} {l:List Tk} {S:eE} (h:Sim t ln p l S) (hp:p < t.length):Sim t ln (p+aP t p) (l++[(aM t p,fw t p)]) (eW t S p (aM t p)):=by
 have hw:=fF hp;have hlen:(l++[(aM t p,fw t p)]).length=l.length+1:=aC;have hE:=VU l (aM t p,fw t p);have hseg:∀ s C,c7w t s p C→c7w t s (p+aP t p) (C++[(aM t p,fw t p)]):=fun s C q=>q.snoc hp
 generalize aM t p=r at *;refine⟨hw.2,?_,?_⟩
 ·rw [hlen];have:=h.c;unfold eW
  repeat' split
  all_goals (simp only; omega)
 ·rcases h.st with⟨h1,h2,h3,h4⟩ | ⟨h1,h2,h3,h4,h5⟩
  ·left
   rw [av h1] at hE;unfold eW;rw [aB h2];refine⟨?_,h2,?_,by rw [hE]; exact h4⟩
   ·intro q;rw [q] at hE;have q1:=congrArg List.length hE;have q2:=IQ l;rw [hlen] at q1; omega
   ·unfold gU; rw [hE]; exact h3
  ·rw [aB h1] at hE;unfold eW;rw [av (by rw [h2]; simp)];by_cases r59:r=59
   ·left
    rw [aB r59] at hE ⊢;refine⟨?_,rfl,?_,?_⟩
    ·intro q;rw [q] at hE;have q1:=congrArg List.length hE;rw [hlen] at q1; omega
    ·unfold gU; rw [hE]; exact Dv h5 h4
    ·rw [hE]; exact h.c
   ·right
    rw [av r59] at hE ⊢;refine⟨hE,?_⟩;rw [UR,hlen];unfold je;by_cases hb:r=32∨r=9
    ·have hbl:jg r=true:=by rcases hb with rfl | rfl <;> rfl
     rw [aB hb,aB (c:=jg (r,fw t p).1=true) hbl];exact⟨rfl,by dsimp only; omega,Dv h5 h4,.inl ⟨rfl,rfl⟩⟩
    ·have hbl:jg r=false:=by simp [jg]; omega
     rw [av hb,av (c:=jg (r,fw t p).1=true) (by dsimp only; rw [hbl]; simp)];rcases h5 with⟨k1,k2⟩ | ⟨k1,s,k2,k3,k4,k5⟩
     ·rw [aB k2];refine⟨rfl,by dsimp only; omega,h4,.inr ⟨aC,p,rfl,Nat.le_of_lt hp,?_,?_⟩⟩
      ·dsimp only;rw [k1];exact hseg p [] .nil
      ·dsimp only;rw [aB k1,h3]; exact h.c
     ·rw [av ab];refine⟨h2,by dsimp only; omega,h4,.inr ⟨aC,s,k2,k3,?_,?_⟩⟩
      ·exact hseg s _ k4
      ·dsimp only;rw [av k1]; exact k5
theorem WA {ρ : a4c} {b c n:Nat} (h : ρ b=some (.drop c 4 1)):LVW ρ (.slo b 0 n 0) (.slo c 4 n 1):=by simp [LVW,h]
theorem Vc {ρ : a4c} {c:Nat} {cs0 cs:al} (h1:4+cs0.length≤cs.length) (h2:cs0=bf cs 4 cs0.length) (h3:a1u cs0=true):LBW ρ (.drop c 4 1) (.cells cs0 (some 4)) (some (.cells cs (some 4))):=⟨rfl,rfl,h1,.inl ⟨h2,h3⟩,ym h3⟩
def nG (j:bq):oK:=(j.nm,j.pl)
theorem IJ (B:List bq) (s:ap):m9 (B.map nG) s=match eY B s with | none => -1 | some pl=>pl:=by
 induction B with
 | nil=>rfl
 | cons b r ih =>
   show(if b.nm == s then b.pl else m9 (r.map nG) s)=_;unfold eY;split
   ·rfl
   ·exact ih
theorem I3 {B:List bq} {s:ap} {pl:Int} (h:eY B s=some pl):∃ b∈B,b.pl=pl:=by
 induction B with
 | nil=>cases h
 | cons b r ih =>
   unfold eY at h;split at h
   ·cases h; exact⟨b,aC,rfl⟩
   ·obtain⟨c,h1,h2⟩:=ih h;exact⟨c,by simp [h1],h2⟩
theorem U5 (r:Int):(Utf8.encode r).data.toList.length≤4∧1≤(Utf8.encode r).data.toList.length:=by
 unfold Utf8.encode;simp only
 repeat' split
 all_goals simp
theorem Lk:∀ l:List Int,(gY l).length≤4 * l.length
 | []=>by simp [gY]
 | x::r=>by
   have:=U5 x; have:=Lk r;simp only [gY,cg,cZ]; omega
theorem US {ln:Int} {C:CS} {x:Tk} {N:Nat} (h1:∀ w∈C.ws,w.s.length≤4 * N) (h2:C.l.length≤N) (h3:C.ws.length+C.l.length≤N):(∀ w∈(je ln C x).ws,w.s.length≤4 * (N+1))∧(je ln C x).l.length≤N+1∧(je ln C x).ws.length+(je ln C x).l.length≤N+1:=by
 have hw:∀ w∈mH ln C,w.s.length≤4 * (N+1):=fun w hw=>by
  unfold mH at hw;split at hw
  ·have:=h1 w hw; omega
  ·rcases gz.1 hw with hw | hw
   ·have:=h1 w hw; omega
   ·exact Gj
 have hwl:(mH ln C).length≤N+1:=by
  unfold mH;split
  ·omega
  ·rename_i hne;have:1≤C.l.length:=by rcases hC:C.l with _ | ⟨a,b⟩; exact absurd hC hne; simp
   rw [cg]; simp; omega
 unfold je;split
 ·exact⟨hw,aC,by simpa using hwl⟩
 ·refine⟨fun w hw=>?_,?_,?_⟩
  ·have:=h1 w hw; omega
  iterate 2
   ·simp only [cg,kH]; omega
theorem KU {ln:Int}:∀ (l:List Tk) (C:CS) (N:Nat),(∀ w∈C.ws,w.s.length≤4 * N)→C.l.length≤N→C.ws.length+C.l.length≤N→(∀ w∈(l.foldl (je ln) C).ws,w.s.length≤4 * (N+l.length))∧(l.foldl (je ln) C).l.length≤N+l.length∧(l.foldl (je ln) C).ws.length+(l.foldl (je ln) C).l.length≤N+l.length
 | [],C,N,h1,h2,h3=>⟨h1,h2,h3⟩
 | x::r,C,N,h1,h2,h3=>by
   obtain⟨a,b,c⟩:=US (x:=x) (ln:=ln) h1 h2 h3;have:=KU (ln:=ln) r (je ln C x) (N+1) a b c;rw [sA,cZ,show N+(r.length+1)=N+1+r.length by omega];exact this
theorem UQ (ln:Int) (l:List Tk):(∀ w∈gU ln l,w.s.length≤4 * l.length)∧(gU ln l).length≤l.length:=by
 obtain⟨a,b,c⟩:=KU (ln:=ln) (fy l) ⟨[],[],1,0⟩ 0 aC aC aC;have hE:=IQ l;rw [bV] at a b c;unfold gU jf;generalize List.foldl (je ln) ⟨[],[],1,0⟩ (fy l)=C at *;unfold mH;split
 ·exact⟨fun w hw=>by have:=a w hw; omega,ab⟩
 ·rename_i hne;have:1≤C.l.length:=by rcases hC:C.l with _ | ⟨x,y⟩; exact absurd hC hne; simp
  refine⟨fun w hw=>?_,by rw [cg]; simp; omega⟩;rcases gz.1 hw with hw | hw
  ·have:=a w hw; omega
  ·exact Gj
/- a line of both -/
def Bn (z:(Int×Int×Int)×List bL×List bq×List bq) (e ln:Int) (I:List bL) (J B':List bq) (W:List RW):Prop :=
 (W=[]∧z=((0,0,0),I,B',J))∨(∃ v ws y ys,W=v::ws∧Wr ln v y∧Al ln ws ys∧z=((cL y.1 y.2 ys e ln I J).1,(cL y.1 y.2 ys e ln I J).2.1,B',(cL y.1 y.2 ys e ln I J).2.2))
def o4 (v:RW):Bool:=decide (0 < v.s.length) && decide (bz v.s (v.s.length - 1)=58)
theorem Ju {x:ap} (h:nQ x) (c:Int) (ys:List Wd) (e ln:Int) (I:List bL) (J:List bq):cL x c ys e ln I J=((ln,c,12),I,J):=by
 unfold cL; rw [aB (H5 h)]
theorem I9 {x:ap} (h:nQ x) (hl:nH x=true):dW (cP x)=false:=by
 refine Em (IL ?_ _ 0 (aR _) h);unfold nH at hl;rw [lQ] at hl;simpa using hl
theorem Ik {L:ic} {e ln:Int} {v:RW} {ws:List RW} (hA:Al ln (v::ws) L.ws) (he:L.e=e) (I:List bL) (B J:List bq) (hl:o4 v=false):Bn (cQ L ln I B J) e ln I J B (v::ws):=by
 obtain⟨lw,le⟩:=L;simp only at hA he;subst he;cases hA with
 | @cons _ y _ ys hw hA =>
   refine .inr ⟨v,ws,y,ys,rfl,hw,hA,?_⟩;unfold cQ;dsimp only;rcases hw.tx with⟨t1,t2⟩ | ⟨t1,t2⟩
   ·have:nH y.1=false:=by
     cases hq:nH y.1 with
     | false=>rfl
     | true =>
       exfalso;unfold nH at hq;rw [lQ,← t2] at hq;have hq:bz v.s (v.s.length - 1)=58:=by simpa using hq
       have h0:¬ v.s.length=0:=by
        intro h0;have:v.s=[]:=fY.1 h0;rw [this] at hq; revert hq; decide
       simp [o4,hq] at hl;exact h0 (by rw [hl]; rfl)
    rw [this,av aC]
   ·cases hq:nH y.1 with
    | false=>rw [av aC]
    | true =>
      have:gD (aj a_ B) y.1=false:=by unfold gD; rw [I9 t2 hq]; rfl
      rw [aB rfl,aB this,Ju t2]
theorem Va {L:ic} {e ln:Int} {v:RW} {ws:List RW} (hA:Al ln (v::ws) L.ws) (he:L.e=e) (I:List bL) (B J:List bq) (hl:o4 v=true) :
  (v.bd=true→(cQ L ln I B J).1=(ln,v.cl,12))∧(v.bd=false→(dW (cP v.s)=false→(cQ L ln I B J).1=(ln,v.cl,12))∧(dW (cP v.s)=true→eY B (cP v.s)≠none→(cQ L ln I B J).1=(ln,v.cl,12)) ∧
  (dW (cP v.s)=true→eY B (cP v.s)=none→Bn (cQ L ln I B J) e ln I J (B++[⟨cP v.s,I.length,0,0⟩]) ws)):=by
 obtain⟨lw,le⟩:=L;simp only at hA he;subst he;simp only [o4,bg,cu] at hl;cases hA with
 | @cons _ y _ ys hw hA =>
   have hcl:=hw.cl;refine⟨fun hb=>?_,fun hb=>?_⟩
   ·rcases hw.tx with⟨t1,t2⟩ | ⟨t1,t2⟩
    ·rw [hb] at t1; cases t1
    ·unfold cQ;dsimp only;rw [hcl];cases hq:nH y.1 with
     | false=>rw [av aC,Ju t2]
     | true =>
       have:gD (aj a_ B) y.1=false:=by unfold gD; rw [I9 t2 hq]; rfl
       rw [aB rfl,aB this]
   ·rcases hw.tx with⟨t1,t2⟩ | ⟨t1,t2⟩
    ·have hL:nH y.1=true:=by unfold nH; rw [lQ,← t2]; exact decide_eq_true hl.2
     have hr:gD (aj a_ B) y.1=(dW (cP v.s) && !(eY B (cP v.s)).isSome):=by unfold gD nS; rw [me,t2]
     refine⟨fun h=>?_,fun h1 h2=>?_,fun h1 h2=>?_⟩
     ·unfold cQ;dsimp only;rw [hL,aB rfl,aB (by rw [hr,h]; rfl),hcl]
     ·unfold cQ;dsimp only;have:(eY B (cP v.s)).isSome=true:=by cases hq:eY B (cP v.s); exact absurd hq h2; rfl
      rw [hL,aB rfl,aB (by rw [hr,h1,this]; rfl),hcl]
     ·unfold cQ Bn;dsimp only;rw [hL,aB rfl,av (by rw [hr,h1,h2]; simp),← t2];cases hA with
      | nil=>exact .inl ⟨rfl,rfl⟩
      | @cons w y2 ws2 ys2 h r=>exact .inr ⟨w,ws2,y2,ys2,rfl,h,r,rfl⟩
    ·rw [hb] at t1; cases t1
end
end Go.Lev
