/- chapter 11: blocks and lists of words, in lists -/
import Derived.Test.YtkbaelndiimmpaaGreatDoorLc
import Derived.Test.YtkbaelndiimmpaaGreatDoorChecked
import Derived.KernelRfl
namespace Go.Lev
set_option linter.unusedSimpArgs false
set_option linter.unusedVariables false
open Go.RowKit
open Go.Proofs.Tryz (prog)
set_option maxRecDepth 100000
noncomputable section
def decIu64:List LV→List Int
 | .int _ a::r=>a::decIu64 r
 | _=>[]
theorem decIu64_enc:∀ xs,decIu64 (encL (cI .u64) xs)=xs
 | []=>rfl
 | x::r=>by simp [encL,cI,decIu64,decIu64_enc r]
theorem encIu64_len (xs:List Int):(encL (cI .u64) xs).length=xs.length:=by rw [encL_length (cI_len .u64)]; omega
theorem encIu64_nth {xs:List Int} {i:Nat} (h:i < xs.length):nthD (encL (cI .u64) xs) i=.int .u64 xs[i]:=by
 have:=encL_nth (cI_len .u64) (j:=0) h (by omega)
 simp only [Nat.mul_one,Nat.add_zero] at this
 exact this
theorem noIds_Iu64 (xs:List Int):noIds (encL (cI .u64) xs)=true:=noIds_encL (fun _=>rfl) xs
def decIi64:List LV→List Int
 | .int _ a::r=>a::decIi64 r
 | _=>[]
theorem decIi64_enc:∀ xs,decIi64 (encL (cI .i64) xs)=xs
 | []=>rfl
 | x::r=>by simp [encL,cI,decIi64,decIi64_enc r]
theorem encIi64_len (xs:List Int):(encL (cI .i64) xs).length=xs.length:=by rw [encL_length (cI_len .i64)]; omega
theorem encIi64_push (xs:List Int) (y:Int):xcat (xcut (encL (cI .i64) xs) 0 xs.length) [.int .i64 y]=encL (cI .i64) (xs++[y]):=by
 rw [xcut_all (by rw [encIi64_len]; omega),encL_append]; rfl
theorem encIi64_nth {xs:List Int} {i:Nat} (h:i < xs.length):nthD (encL (cI .i64) xs) i=.int .i64 xs[i]:=by
 have:=encL_nth (cI_len .i64) (j:=0) h (by omega)
 simp only [Nat.mul_one,Nat.add_zero] at this
 exact this
theorem noIds_Ii64 (xs:List Int):noIds (encL (cI .i64) xs)=true:=noIds_encL (fun _=>rfl) xs
abbrev Blk:=Int×Int×Bool
def hdOk (h:Int):Prop:=(1≤h∧h≤4)∨(9≤h∧h≤12)
instance (h:Int):Decidable (hdOk h):=inferInstanceAs (Decidable (_∨_))
def hdC (h:Int):Int:=if h≤4 then h else h - 8
def hdN (h:Int):Nat:=2 ^ (hdC h).toNat
def hdB (p:Nat) (h:Int):Blk:=(((p+1:Nat):Int),hdC h,decide (8 < h))
def bkW (ws:List Int) (e p:Nat) (acc:List Blk):Option (List Blk) :=
 if p < e then
  if hdOk (ws.getD p 0)∧p+1+hdN (ws.getD p 0)≤e then bkW ws e (p+1+hdN (ws.getD p 0)) (acc++[hdB p (ws.getD p 0)]) else none
 else some acc
termination_by e - p
theorem bkW_end {ws:List Int} {e p:Nat} {acc:List Blk} (h:¬ p < e):bkW ws e p acc=some acc:=by rw [bkW,if_neg h]
theorem bkW_bad {ws:List Int} {e p:Nat} {acc:List Blk} (h:p < e) (k:¬ (hdOk (ws.getD p 0)∧p+1+hdN (ws.getD p 0)≤e)):bkW ws e p acc=none:=by rw [bkW,if_pos h,if_neg k]
theorem bkW_go {ws:List Int} {e p:Nat} {acc:List Blk} (h:p < e) (k:hdOk (ws.getD p 0)) (k2:p+1+hdN (ws.getD p 0)≤e):bkW ws e p acc=bkW ws e (p+1+hdN (ws.getD p 0)) (acc++[hdB p (ws.getD p 0)]):=by
 rw [bkW,if_pos h,if_pos ⟨k,k2⟩]
structure WfB (bs:List Blk) (p:Nat):Prop where
 inc:bs.Pairwise fun a b=>a.1 < b.1
 at':∀ b∈bs,15≤b.1∧b.1 < p
 cl:∀ b∈bs,1≤b.2.1∧b.2.1≤4
theorem hdC_b {h:Int} (k:hdOk h):1≤hdC h∧hdC h≤4:=by unfold hdC; rcases k with k | k <;> split <;> omega
theorem hdN_b {h:Int} (k:hdOk h):2≤hdN h∧hdN h≤16:=by
 have hc:=hdC_b k
 unfold hdN
 have:(hdC h).toNat=1∨(hdC h).toNat=2∨(hdC h).toNat=3∨(hdC h).toNat=4:=by omega
 rcases this with e | e | e | e <;> rw [e] <;> omega
theorem WfB.push {bs:List Blk} {p:Nat} {h:Int} (w:WfB bs p) (hp:14≤p) (k:hdOk h):WfB (bs++[hdB p h]) (p+1+hdN h):=by
 have hn:=hdN_b k
 refine⟨?_,fun b hb=>?_,fun b hb=>?_⟩
 ·rw [List.pairwise_append]
  refine⟨w.inc,List.pairwise_singleton _ _,fun a ha b hb=>?_⟩
  rw [List.mem_singleton.1 hb]
  have:=(w.at' a ha).2
  show a.1 < ((p+1:Nat):Int); omega
 ·rcases List.mem_append.1 hb with hb | hb
  ·have:=w.at' b hb; omega
  ·rw [List.mem_singleton.1 hb]
   show 15≤((p+1:Nat):Int)∧((p+1:Nat):Int) < ((p+1+hdN h:Nat):Int); omega
 ·rcases List.mem_append.1 hb with hb | hb
  ·exact w.cl b hb
  ·rw [List.mem_singleton.1 hb]; exact hdC_b k
theorem bkW_wf {ws:List Int} {e p:Nat} {acc bs:List Blk} (hp:14≤p) (hpe:p≤e) (w:WfB acc p) (h:bkW ws e p acc=some bs):WfB bs e:=by
 by_cases c:p < e
 ·by_cases k:hdOk (ws.getD p 0)∧p+1+hdN (ws.getD p 0)≤e
  ·rw [bkW_go c k.1 k.2] at h
   exact bkW_wf (by omega) k.2 (w.push hp k.1) h
  ·rw [bkW_bad c k] at h; cases h
 ·rw [bkW_end c] at h; cases h
  have:p=e:=by omega
  subst this; exact w
termination_by e - p
def bkF (ws:List Int):Option (List Blk) :=
 if 32≤ws.length∧ws.length≤256∧14≤ws.getD 5 0∧ws.getD 5 0≤ws.length then bkW ws (ws.getD 5 0).toNat 14 [] else none
theorem bkF_wf {ws:List Int} {bs:List Blk} (h:bkF ws=some bs):WfB bs ws.length∧ws.length≤256:=by
 unfold bkF at h
 split at h
 ·rename_i c
  have w:=bkW_wf (Nat.le_refl _) (by omega) ⟨List.Pairwise.nil,fun b hb=>(by cases hb),fun b hb=>(by cases hb)⟩ h
  exact⟨⟨w.inc,fun b hb=>by have:=w.at' b hb; omega,w.cl⟩,c.2.1⟩
 ·cases h
def isBk (bs:List Blk) (c p:Int):Prop:=∃ b∈bs,b.1=p∧b.2.1=c∧b.2.2=false
instance (bs:List Blk) (c p:Int):Decidable (isBk bs c p):=inferInstanceAs (Decidable (∃ b∈bs,_))
theorem uniq_of {bs:List Blk} (h:bs.Pairwise fun a b=>a.1 < b.1) {a b:Blk} (ha:a∈bs) (hb:b∈bs) (e:a.1=b.1):a=b:=by
 induction bs with
 | nil=>cases ha
 | cons x r ih =>
   rw [List.pairwise_cons] at h
   rcases List.mem_cons.1 ha with rfl | ha' <;> rcases List.mem_cons.1 hb with rfl | hb'
   ·rfl
   ·have:=h.1 b hb'; omega
   ·have:=h.1 a ha'; omega
   ·exact ih h.2 ha' hb'
theorem isBk_uniq {bs:List Blk} {p:Nat} (w:WfB bs p) {c d q:Int} (h1:isBk bs c q) (h2:isBk bs d q):c=d:=by
 obtain⟨a,a1,a2,a3,_⟩:=h1
 obtain⟨b,b1,b2,b3,_⟩:=h2
 have:=uniq_of w.inc a1 b1 (a2.trans b2.symm)
 subst this; rw [← a3,b3]
def lft (bs:List Blk) (row:List Int):Nat:=(bs.filter fun b=>decide (b.1 ∉ row)).length
theorem lft_lt {bs:List Blk} {row:List Int} {c p:Int} (h:isBk bs c p) (k:p ∉ row):lft bs (row++[p]) < lft bs row:=by
 obtain⟨b,b1,b2,_,_⟩:=h
 unfold lft
 have hle:∀ l:List Blk,(l.filter fun b=>decide (b.1 ∉ row++[p])).length≤(l.filter fun b=>decide (b.1 ∉ row)).length:=fun l=>by
  induction l with
  | nil=>simp
  | cons x r ih =>
    by_cases e1:x.1∈row
    ·simpa [List.filter_cons,e1] using ih
    ·by_cases e2:x.1=p
     ·simp only [List.filter_cons]; simp [e1,e2]; subst e2; simp [e1]; simp at ih; omega
     ·simp only [List.filter_cons]; simp [e1,e2]; simp at ih; omega
 induction bs with
 | nil=>cases b1
 | cons x r ih =>
   rcases List.mem_cons.1 b1 with rfl | b1'
   ·have:=hle r
    simp only [List.filter_cons]
    subst b2
    simp [k]; simp at this; omega
   ·have:=ih b1'
    by_cases e1:x.1∈row
    ·simpa [List.filter_cons,e1] using this
    ·by_cases e2:x.1=p
     ·simp only [List.filter_cons]; simp [e1,e2]; subst e2; simp [e1]; simp at this; omega
     ·simp only [List.filter_cons]; simp [e1,e2]; simp at this; omega
def lsW (ws:List Int) (bs:List Blk) (c a:Int) (row:List Int):Option (List Int) :=
 if a=0 then some row
 else if h:isBk bs c a∧a ∉ row then lsW ws bs c (ws.getD a.toNat 0) (row++[a]) else none
termination_by lft bs row
decreasing_by exact lft_lt h.1 h.2
theorem lsW_end {ws:List Int} {bs:List Blk} {c:Int} {row:List Int}:lsW ws bs c 0 row=some row:=by rw [lsW,if_pos rfl]
theorem lsW_bad {ws:List Int} {bs:List Blk} {c a:Int} {row:List Int} (h:a≠0) (k:¬ (isBk bs c a∧a ∉ row)):lsW ws bs c a row=none:=by rw [lsW,if_neg h,dif_neg k]
theorem lsW_go {ws:List Int} {bs:List Blk} {c a:Int} {row:List Int} (h:a≠0) (k:isBk bs c a∧a ∉ row):lsW ws bs c a row=lsW ws bs c (ws.getD a.toNat 0) (row++[a]):=by rw [lsW,if_neg h,dif_pos k]
theorem lsW_cl {ws:List Int} {bs:List Blk} {c a:Int} {row r:List Int} (hr:∀ x∈row,isBk bs c x) (h:lsW ws bs c a row=some r):∀ x∈r,isBk bs c x:=by
 by_cases e:a=0
 ·subst e; rw [lsW_end] at h; cases h; exact hr
 ·by_cases k:isBk bs c a∧a ∉ row
  ·rw [lsW_go e k] at h
   exact lsW_cl (fun x hx=>by rcases List.mem_append.1 hx with hx | hx; exact hr x hx; rw [List.mem_singleton.1 hx]; exact k.1) h
  ·rw [lsW_bad e k] at h; cases h
termination_by lft bs row
decreasing_by exact lft_lt k.1 k.2
def ls1 (ws:List Int) (bs:List Blk) (c:Nat):Option (List Int):=lsW ws bs c (ws.getD c 0) []
def clA (bs:List Blk) (done:List Int) (p:Int):Int:=if p∈done then 0 else match bs.find? (fun b=>decide (b.1=p∧b.2.2=false)) with | some b=>b.2.1 | none=>0
theorem clA_iff {bs:List Blk} {e:Nat} (w:WfB bs e) {done:List Int} {p c:Int} (hc:1≤c):clA bs done p=c↔isBk bs c p∧p ∉ done:=by
 unfold clA
 by_cases d:p∈done
 ·simp only [if_pos d]; constructor
  ·intro h; omega
  ·exact fun h=>absurd d h.2
 ·simp only [if_neg d]
  cases h:bs.find? (fun b=>decide (b.1=p∧b.2.2=false)) with
  | none =>
    have hn:=List.find?_eq_none.1 h
    constructor
    ·intro k; dsimp only at k; omega
    ·rintro⟨⟨b,b1,b2,b3,b4⟩,_⟩
     exact absurd (by simpa using ⟨b2,b4⟩) (hn b b1)
  | some b =>
    have hb:=List.mem_of_find?_eq_some h
    have hp:=List.find?_some h
    simp at hp
    dsimp only
    constructor
    ·intro k; exact⟨⟨b,hb,hp.1,k,hp.2⟩,d⟩
    ·rintro⟨h2,_⟩
     exact isBk_uniq w ⟨b,hb,hp.1,rfl,hp.2⟩ h2
def frL (n:Nat) (bs:List Blk) (done:List Int):List Int:=(List.range n).map fun(p:Nat)=>clA bs done (p:Int)
theorem frL_len (n:Nat) (bs:List Blk) (done:List Int):(frL n bs done).length=n:=by simp [frL]
theorem frL_done {n:Nat} {bs:List Blk} {done:List Int} {p:Nat} (h:p < n):(frL n bs done).set p 0=frL n bs (done++[(p:Int)]):=by
 refine List.ext_getElem (by simp [frL]) fun i h1 h2=>?_
 rw [List.getElem_set]
 simp only [frL,List.getElem_map,List.getElem_range]
 by_cases c:p=i
 ·subst c; rw [if_pos rfl,clA,if_pos (by simp)]
 ·rw [if_neg c]
  unfold clA
  have:((i:Int)∈done++[(p:Int)])↔(i:Int)∈done:=by simp; omega
  simp only [this]
theorem frL_live {n:Nat} {bs:List Blk} {b:Blk} (h:b.2.2=true):frL n (bs++[b]) []=frL n bs []:=by
 unfold frL
 refine List.map_congr_left fun p _=>?_
 simp [clA,List.find?_append,h]
theorem frL_free {n p:Nat} {bs:List Blk} {c:Int} (h:p < n) (hn:∀ b∈bs,b.1 < p):frL n (bs++[((p:Int),c,false)]) []=(frL n bs []).set p c:=by
 refine List.ext_getElem (by simp [frL]) fun i h1 h2=>?_
 rw [List.getElem_set]
 simp only [frL,List.getElem_map,List.getElem_range]
 have hno:bs.find? (fun b=>decide (b.1=(p:Int)∧b.2.2=false))=none:=List.find?_eq_none.2 fun b hb=>by have:=hn b hb; simp; omega
 by_cases e:p=i
 ·subst e; rw [if_pos rfl,clA,if_neg (by simp),List.find?_append,hno]; simp
 ·rw [if_neg e]
  have e2:¬ (p:Int)=(i:Int):=by omega
  simp [clA,List.find?_append,e2]
abbrev cB3:Blk→List LV:=fun x=>[.int .i64 x.1,.int .i64 x.2.1,.bool x.2.2]
theorem cB3_len (x:Blk):(cB3 x).length=3:=rfl
theorem b3_0 {xs:List Blk} {i:Nat} (h:i < xs.length):nthD (encL cB3 xs) (i * 3)=.int .i64 xs[i].1:=encL_nth cB3_len (j:=0) h (by omega)
theorem b3_1 {xs:List Blk} {i:Nat} (h:i < xs.length):nthD (encL cB3 xs) (i * 3+1)=.int .i64 xs[i].2.1:=encL_nth cB3_len (j:=1) h (by omega)
theorem b3_2 {xs:List Blk} {i:Nat} (h:i < xs.length):nthD (encL cB3 xs) (i * 3+2)=.bool xs[i].2.2:=encL_nth cB3_len (j:=2) h (by omega)
theorem b3_2' {xs:List Blk} {i:Nat} (h:i < xs.length):nthD (encL cB3 xs) (i * 3+1+1)=.bool xs[i].2.2:=b3_2 h
theorem b3_n (xs:List Blk):(encL cB3 xs).length=xs.length * 3:=encL_length cB3_len xs
theorem b3_push (xs:List Blk) (b:Blk):xcat (xcut (encL cB3 xs) 0 (xs.length * 3)) [.int .i64 b.1,.int .i64 b.2.1,.bool b.2.2]=encL cB3 (xs++[b]):=by
 rw [xcut_all (by rw [b3_n]; omega),encL_append]; rfl
theorem noids_b3 (xs:List Blk):noIds (encL cB3 xs)=true:=noIds_encL (fun _=>rfl) xs
open Classical in
def bkE (wc:List LV):Int:=if(bkF (decIu64 wc)).isSome then 0 else 12
def bkO (wc:List LV):Bool:=(bkF (decIu64 wc)).isSome
def bkN (wc:List LV):Nat:=((bkF (decIu64 wc)).getD []).length
def bkC (wc:List LV):List LV:=encL cB3 ((bkF (decIu64 wc)).getD [])
def szV (c:Int):Int:=if 1≤c∧c≤4 then((2 ^ c.toNat:Nat):Int) else 0
def szW (c:Int):Int:=szV c
def icW (h:Int):Bool:=decide (1≤h∧h≤4)
def ilW (h:Int):Bool:=decide (8 < h) && decide (1≤lwrap .u64 (h - 8)∧lwrap .u64 (h - 8)≤4)
theorem sz_x (c:Int) (K:Fk):(xfun prog (fun _=>none) 40 16 [.int .i64 c] (mkS []) (vF K))=(
 bif xcm .lss c 1 then(
 K (.int .i64 0) [] [])
 else(
 bif xcm .gtr c 4 then(
 K (.int .i64 0) [] [])
 else(
 ck (xnn c) <|
 K (.int .i64 (xsh .shl .i64 1 c)) [] []))):=by kernel_rfl
theorem oz_x (c:Int) (K:Fk):(xfun prog (fun _=>none) 40 18 [.int .i64 c] (mkS []) (vF K))=(
 bif xcm .lss c 1 then(
 K (.int .i64 0) [] [])
 else(
 bif xcm .gtr c 4 then(
 K (.int .i64 0) [] [])
 else(
 ck (xnn (xwr .u64 c)) <|
 K (.int .i64 (xsh .shl .i64 1 (xwr .u64 c))) [] []))):=by kernel_rfl
theorem ic_x (h:Int) (K:Fk):(xfun prog (fun _=>none) 40 28 [.int .u64 h] (mkS []) (vF K))=(
 bif xcm .geq h 1 then(
 K (.bool (xcm .leq h 4)) [] [])
 else(
 K (.bool false) [] [])):=by kernel_rfl
theorem sizeG_f (c:Int):SFun prog 16 [.int .i64 c] (mkS []) fun l s=>l=.int .i64 (szW c)∧s=mkS []:=by
 refine SFun.mono (SFun.vc (Q:=fun l b=>l=.int .i64 (szW c)∧b=[]) noCx_ok (n:=40) 0 rfl ?_) fun l s' ⟨b0,⟨h1,h2⟩,h3⟩=>⟨h1,by rw [h3,h2]⟩
 rw [sz_x]
 by_cases h:1≤c∧c≤4
 ·have hc:c=1∨c=2∨c=3∨c=4:=by omega
  rcases hc with rfl | rfl | rfl | rfl
  ·have e:szW 1=xsh .shl .i64 1 1:=by kernel_rfl
   rw [e]; (refine zR ?_)
   exact⟨rfl,_,[],[],⟨rfl,rfl⟩,by(exact zC)⟩
  ·have e:szW 2=xsh .shl .i64 1 2:=by kernel_rfl
   rw [e]; (refine zR ?_)
   exact⟨rfl,_,[],[],⟨rfl,rfl⟩,by(exact zC)⟩
  ·have e:szW 3=xsh .shl .i64 1 3:=by kernel_rfl
   rw [e]; (refine zR ?_)
   exact⟨rfl,_,[],[],⟨rfl,rfl⟩,by(exact zC)⟩
  ·have e:szW 4=xsh .shl .i64 1 4:=by kernel_rfl
   rw [e]; (refine zR ?_)
   exact⟨rfl,_,[],[],⟨rfl,rfl⟩,by(exact zC)⟩
 ·have e:szW c=0:=if_neg h
  rw [e]
  by_cases h1:c < 1
  ·(refine zR ?_)
   exact⟨rfl,_,[],[],⟨rfl,rfl⟩,by(exact zC)⟩
  ·have h2:4 < c:=by omega
   (refine zR ?_)
   exact⟨rfl,_,[],[],⟨rfl,rfl⟩,by(exact zC)⟩
def sizeG:Gc:=fun args s=>match args,s.g with
 | [.int .i64 c],[]=>some ([],.int .i64 (szW c),s)
 | _,_=>none
theorem sizeG_ok:GOk prog 16 sizeG:=by
 intro args s bs l s' hg hb hfr
 unfold sizeG at hg
 split at hg
 ·rename_i c hgl
  simp only [Option.some.injEq,Prod.mk.injEq] at hg
  obtain⟨rfl,rfl,rfl⟩:=hg
  exact SFun.pure hfr hgl rfl rfl (sizeG_f c)
 ·cases hg
theorem osizeG_f (c:Int):SFun prog 18 [.int .i64 c] (mkS []) fun l s=>l=.int .i64 (szW c)∧s=mkS []:=by
 refine SFun.mono (SFun.vc (Q:=fun l b=>l=.int .i64 (szW c)∧b=[]) noCx_ok (n:=40) 0 rfl ?_) fun l s' ⟨b0,⟨h1,h2⟩,h3⟩=>⟨h1,by rw [h3,h2]⟩
 rw [oz_x]
 by_cases h:1≤c∧c≤4
 ·have hc:c=1∨c=2∨c=3∨c=4:=by omega
  rcases hc with rfl | rfl | rfl | rfl
  ·have e:szW 1=xsh .shl .i64 1 1:=by kernel_rfl
   rw [e]; (refine zR ?_)
   exact⟨rfl,_,[],[],⟨rfl,rfl⟩,by(exact zC)⟩
  ·have e:szW 2=xsh .shl .i64 1 2:=by kernel_rfl
   rw [e]; (refine zR ?_)
   exact⟨rfl,_,[],[],⟨rfl,rfl⟩,by(exact zC)⟩
  ·have e:szW 3=xsh .shl .i64 1 3:=by kernel_rfl
   rw [e]; (refine zR ?_)
   exact⟨rfl,_,[],[],⟨rfl,rfl⟩,by(exact zC)⟩
  ·have e:szW 4=xsh .shl .i64 1 4:=by kernel_rfl
   rw [e]; (refine zR ?_)
   exact⟨rfl,_,[],[],⟨rfl,rfl⟩,by(exact zC)⟩
 ·have e:szW c=0:=if_neg h
  rw [e]
  by_cases h1:c < 1
  ·(refine zR ?_)
   exact⟨rfl,_,[],[],⟨rfl,rfl⟩,by(exact zC)⟩
  ·have h2:4 < c:=by omega
   (refine zR ?_)
   exact⟨rfl,_,[],[],⟨rfl,rfl⟩,by(exact zC)⟩
def osizeG:Gc:=fun args s=>match args,s.g with
 | [.int .i64 c],[]=>some ([],.int .i64 (szW c),s)
 | _,_=>none
theorem osizeG_ok:GOk prog 18 osizeG:=by
 intro args s bs l s' hg hb hfr
 unfold osizeG at hg
 split at hg
 ·rename_i c hgl
  simp only [Option.some.injEq,Prod.mk.injEq] at hg
  obtain⟨rfl,rfl,rfl⟩:=hg
  exact SFun.pure hfr hgl rfl rfl (osizeG_f c)
 ·cases hg
theorem isclG_f (c:Int):SFun prog 28 [.int .u64 c] (mkS []) fun l s=>l=.bool (icW c)∧s=mkS []:=by
 refine SFun.mono (SFun.vc (Q:=fun l b=>l=.bool (icW c)∧b=[]) noCx_ok (n:=40) 0 rfl ?_) fun l s' ⟨b0,⟨h1,h2⟩,h3⟩=>⟨h1,by rw [h3,h2]⟩
 rw [ic_x]
 by_cases h1:1≤c
 ·have e:icW c=xcm .leq c 4:=by rw [xcm_leq,icW]; simp [h1]
  rw [e]; (refine zR ?_)
  exact⟨rfl,_,[],[],⟨rfl,rfl⟩,by(exact zC)⟩
 ·have e:icW c=false:=by rw [icW]; simp; omega
  rw [e]; (refine zR ?_)
  exact⟨rfl,_,[],[],⟨rfl,rfl⟩,by(exact zC)⟩
def isclG:Gc:=fun args s=>match args,s.g with
 | [.int .u64 c],[]=>some ([],.bool (icW c),s)
 | _,_=>none
theorem isclG_ok:GOk prog 28 isclG:=by
 intro args s bs l s' hg hb hfr
 unfold isclG at hg
 split at hg
 ·rename_i c hgl
  simp only [Option.some.injEq,Prod.mk.injEq] at hg
  obtain⟨rfl,rfl,rfl⟩:=hg
  exact SFun.pure hfr hgl rfl rfl (isclG_f c)
 ·cases hg
def cxi:Cx:=cxl [(28,isclG)]
theorem il_x (h:Int) (K:Fk):(xfun prog cxi 40 29 [.int .u64 h] (mkS []) (vF K))=(
 bif xcm .gtr h 8 then(
 K (.bool (icW (xar .sub .u64 h 8))) [] [])
 else(
 K (.bool false) [] [])):=by kernel_rfl
theorem islvG_f (c:Int):SFun prog 29 [.int .u64 c] (mkS []) fun l s=>l=.bool (ilW c)∧s=mkS []:=by
 refine SFun.mono (SFun.vc (Q:=fun l b=>l=.bool (ilW c)∧b=[]) (cx:=cxi) (cxl_ok ⟨isclG_ok,trivial⟩) (n:=40) 0 rfl ?_) fun l s' ⟨b0,⟨h1,h2⟩,h3⟩=>⟨h1,by rw [h3,h2]⟩
 rw [il_x]
 by_cases h1:8 < c
 ·have e:ilW c=icW (xar .sub .u64 c 8):=by rw [ilW,icW,xar_sub]; simp [h1]
  rw [e]; (refine zR ?_)
  exact⟨rfl,_,[],[],⟨rfl,rfl⟩,by(exact zC)⟩
 ·have e:ilW c=false:=by rw [ilW]; simp [h1]
  rw [e]; (refine zR ?_)
  exact⟨rfl,_,[],[],⟨rfl,rfl⟩,by(exact zC)⟩
def islvG:Gc:=fun args s=>match args,s.g with
 | [.int .u64 c],[]=>some ([],.bool (ilW c),s)
 | _,_=>none
theorem islvG_ok:GOk prog 29 islvG:=by
 intro args s bs l s' hg hb hfr
 unfold islvG at hg
 split at hg
 ·rename_i c hgl
  simp only [Option.some.injEq,Prod.mk.injEq] at hg
  obtain⟨rfl,rfl,rfl⟩:=hg
  exact SFun.pure hfr hgl rfl rfl (islvG_f c)
 ·cases hg
def cxb:Cx:=cxl [(28,isclG),(29,islvG),(16,sizeG),(18,osizeG)]
abbrev blL:List Nat:=[0,2,3,4,5,6]
abbrev blT (n e k a:Nat):List (Nat×LV):=[(0,.slo 0 0 n 0),(4,.int .i64 e),(5,.slo 1 0 k 0),(6,.int .i64 a)]
abbrev blH (wc ac:List LV):List LB:=[.ro wc,.cells ac (some 3)]
theorem bl_a (n:Nat) (wc:List LV) (K:Pk):(xsp prog cxb 40 71 (seg (sp prog 19) 0 8) (tm0 [.slo 0 0 n 0]) (mkS [.ro wc]) (vK blL K))=(
 bif xcm .lss (↑n) 32 then(
 K .ret [.slo 0 0 n 0,.nils,.int .i64 12,.tup [],.tup [],.tup []] [some (.ro wc)] [])
 else(
 bif xcm .gtr (↑n) 256 then(
 K .ret [.slo 0 0 n 0,.nils,.int .i64 12,.tup [],.tup [],.tup []] [some (.ro wc)] [])
 else(
 ck (xle 6 n) <|
 ck (xle 6 (xln wc)) <|
 ck (isI .u64 (nthD wc 5)) <|
 bif xcm .lss (asI (nthD wc 5)) 14 then(
 K .ret [.slo 0 0 n 0,.nils,.int .i64 12,.tup [],.tup [],.tup []] [some (.ro wc)] [])
 else(
 ck (xle 6 n) <|
 ck (xle 6 (xln wc)) <|
 ck (isI .u64 (nthD wc 5)) <|
 bif xcm .gtr (asI (nthD wc 5)) (xwr .u64 ↑n) then(
 K .ret [.slo 0 0 n 0,.nils,.int .i64 12,.tup [],.tup [],.tup []] [some (.ro wc)] [])
 else(
 ck (xle 6 n) <|
 ck (xle 6 (xln wc)) <|
 ck (isI .u64 (nthD wc 5)) <|
 K .normal [.slo 0 0 n 0,.nils,.int .i64 0,.int .i64 (xwr .i64 (asI (nthD wc 5))),.nils,.int .i64 14] [some (.ro wc)] []))))):=by kernel_rfl
abbrev bl_b_b1 (k:Nat) (a:Nat) (wc:List LV) (ac:List LV):List (Option LB):=[some (.ro wc),sD,sN [.int .i64 (xar .add .i64 (↑a) 1),.int .i64 (xwr .i64 (xar .rem .u64 (asI (nthD wc (xix 0 (xnat ↑a) 1))) 8)),.bool (ilW (asI (nthD wc (xix 0 (xnat ↑a) 1))))],sN [.int .i64 (xar .add .i64 (↑a) 1),.int .i64 (xwr .i64 (xar .rem .u64 (asI (nthD wc (xix 0 (xnat ↑a) 1))) 8)),.bool (ilW (asI (nthD wc (xix 0 (xnat ↑a) 1))))],sC (xcat (xcut ac 0 (xmul k 3)) [.int .i64 (xar .add .i64 (↑a) 1),.int .i64 (xwr .i64 (xar .rem .u64 (asI (nthD wc (xix 0 (xnat ↑a) 1))) 8)),.bool (ilW (asI (nthD wc (xix 0 (xnat ↑a) 1))))]) 3]
theorem bl_b (n e k a:Nat) (wc ac:List LV) (K:Pk):(xcode prog cxb 40 71 (loopOf (nthC (sp prog 19) 8)) (mkTm 71 (blT n e k a)) (mkS (blH wc ac)) (vK blL K))=(
 bif xcm .lss ↑a ↑e then(
 ck (xle (xadd (xnat ↑a) 1) n) <|
 ck (xle (xadd (xix 0 (xnat ↑a) 1) 1) (xln wc)) <|
 ck (isI .u64 (nthD wc (xix 0 (xnat ↑a) 1))) <|
 bif xnot (icW (asI (nthD wc (xix 0 (xnat ↑a) 1)))) then(
 bif xnot (ilW (asI (nthD wc (xix 0 (xnat ↑a) 1)))) then(
 K .ret [.slo 0 0 n 0,.nils,.int .i64 12,.int .i64 ↑e,.slo 1 0 k 0,.int .i64 ↑a] [some (.ro wc),sC ac 3] [])
 else(
 bif xcm .gtr (xar .add .i64 (↑a) (xar .add .i64 1 (szW (xwr .i64 (xar .rem .u64 (asI (nthD wc (xix 0 (xnat ↑a) 1))) 8))))) ↑e then(
 K .ret [.slo 0 0 n 0,.nils,.int .i64 12,.int .i64 ↑e,.slo 1 0 k 0,.int .i64 (xar .add .i64 (↑a) (xar .add .i64 1 (szW (xwr .i64 (xar .rem .u64 (asI (nthD wc (xix 0 (xnat ↑a) 1))) 8)))))] [some (.ro wc),sC ac 3,sN [.int .i64 (xar .add .i64 (↑a) 1),.int .i64 (xwr .i64 (xar .rem .u64 (asI (nthD wc (xix 0 (xnat ↑a) 1))) 8)),.bool (ilW (asI (nthD wc (xix 0 (xnat ↑a) 1))))]] [])
 else(
 ck (xle (xadd k 1) 1000000) <|
 ck (xle (xadd 0 (xmul k 3)) (xln ac)) <|
 K .normal [.slo 0 0 n 0,.any,.any,.int .i64 ↑e,.slo 4 0 (xadd k 1) 0,.int .i64 (xar .add .i64 (↑a) (xar .add .i64 1 (szW (xwr .i64 (xar .rem .u64 (asI (nthD wc (xix 0 (xnat ↑a) 1))) 8)))))] (bl_b_b1 k a wc ac) [])))
 else(
 bif xcm .gtr (xar .add .i64 (↑a) (xar .add .i64 1 (szW (xwr .i64 (xar .rem .u64 (asI (nthD wc (xix 0 (xnat ↑a) 1))) 8))))) ↑e then(
 K .ret [.slo 0 0 n 0,.nils,.int .i64 12,.int .i64 ↑e,.slo 1 0 k 0,.int .i64 (xar .add .i64 (↑a) (xar .add .i64 1 (szW (xwr .i64 (xar .rem .u64 (asI (nthD wc (xix 0 (xnat ↑a) 1))) 8)))))] [some (.ro wc),sC ac 3,sN [.int .i64 (xar .add .i64 (↑a) 1),.int .i64 (xwr .i64 (xar .rem .u64 (asI (nthD wc (xix 0 (xnat ↑a) 1))) 8)),.bool (ilW (asI (nthD wc (xix 0 (xnat ↑a) 1))))]] [])
 else(
 ck (xle (xadd k 1) 1000000) <|
 ck (xle (xadd 0 (xmul k 3)) (xln ac)) <|
 K .normal [.slo 0 0 n 0,.any,.any,.int .i64 ↑e,.slo 4 0 (xadd k 1) 0,.int .i64 (xar .add .i64 (↑a) (xar .add .i64 1 (szW (xwr .i64 (xar .rem .u64 (asI (nthD wc (xix 0 (xnat ↑a) 1))) 8)))))] (bl_b_b1 k a wc ac) [])))
 else(
 K (.exit 0) [.slo 0 0 n 0,.any,.any,.int .i64 ↑e,.slo 1 0 k 0,.int .i64 ↑a] [some (.ro wc),sC ac 3] [])):=by kernel_rfl
theorem bl_z (n e k a:Nat) (wc ac:List LV) (K:Pk):(xsp prog cxb 40 71 ((sp prog 19).drop 9) (mkTm 71 (blT n e k a)) (mkS (blH wc ac)) (vK blL K))=(
 K .ret [.slo 0 0 n 0,.slo 1 0 k 0,.int .i64 0,.int .i64 ↑e,.slo 1 0 k 0,.int .i64 ↑a] [some (.ro wc),sC ac 3] []):=by kernel_rfl
theorem ol_a (n:Nat) (wc:List LV) (K:Pk):(xsp prog cxb 40 77 (seg (sp prog 22) 0 8) (tm0 [.slo 0 0 n 0]) (mkS [.ro wc]) (vK blL K))=(
 bif xcm .lss (↑n) 32 then(
 K .ret [.slo 0 0 n 0,.nils,.bool false,.tup [],.tup [],.tup []] [some (.ro wc)] [])
 else(
 bif xcm .gtr (↑n) 256 then(
 K .ret [.slo 0 0 n 0,.nils,.bool false,.tup [],.tup [],.tup []] [some (.ro wc)] [])
 else(
 ck (xle 6 n) <|
 ck (xle 6 (xln wc)) <|
 ck (isI .u64 (nthD wc 5)) <|
 bif xcm .geq (asI (nthD wc 5)) 2147483648 then(
 K .ret [.slo 0 0 n 0,.nils,.bool false,.int .i64 (-1),.tup [],.tup []] [some (.ro wc)] [])
 else(
 bif xcm .lss (xwr .i64 (asI (nthD wc 5))) 14 then(
 K .ret [.slo 0 0 n 0,.nils,.bool false,.int .i64 (xwr .i64 (asI (nthD wc 5))),.tup [],.tup []] [some (.ro wc)] [])
 else(
 bif xcm .gtr (xwr .i64 (asI (nthD wc 5))) ↑n then(
 K .ret [.slo 0 0 n 0,.nils,.bool false,.int .i64 (xwr .i64 (asI (nthD wc 5))),.tup [],.tup []] [some (.ro wc)] [])
 else(
 K .normal [.slo 0 0 n 0,.nils,.bool false,.int .i64 (xwr .i64 (asI (nthD wc 5))),.nils,.int .i64 14] [some (.ro wc)] [])))))):=by kernel_rfl
theorem ol_b (n e k a:Nat) (wc ac:List LV) (K:Pk):(xcode prog cxb 40 77 (loopOf (nthC (sp prog 22) 8)) (mkTm 77 (blT n e k a)) (mkS (blH wc ac)) (vK blL K))=(
 bif xcm .lss ↑a ↑e then(
 ck (xle (xadd (xnat ↑a) 1) n) <|
 ck (xle (xadd (xix 0 (xnat ↑a) 1) 1) (xln wc)) <|
 ck (isI .u64 (nthD wc (xix 0 (xnat ↑a) 1))) <|
 bif xcm .gtr (asI (nthD wc (xix 0 (xnat ↑a) 1))) 16 then(
 K .ret [.slo 0 0 n 0,.nils,.bool false,.int .i64 ↑e,.slo 1 0 k 0,.int .i64 ↑a] [some (.ro wc),sC ac 3,sN [.int .i64 (xar .add .i64 (↑a) 1),.int .i64 0,.bool (xcm .gtr (asI (nthD wc (xix 0 (xnat ↑a) 1))) 8)]] [])
 else(
 bif xcm .gtr (asI (nthD wc (xix 0 (xnat ↑a) 1))) 8 then(
 bif xcm .eql (szW (xar .sub .i64 (xwr .i64 (asI (nthD wc (xix 0 (xnat ↑a) 1)))) 8)) 0 then(
 K .ret [.slo 0 0 n 0,.nils,.bool false,.int .i64 ↑e,.slo 1 0 k 0,.int .i64 ↑a] [some (.ro wc),sC ac 3,sN [.int .i64 (xar .add .i64 (↑a) 1),.int .i64 (xar .sub .i64 (xwr .i64 (asI (nthD wc (xix 0 (xnat ↑a) 1)))) 8),.bool (xcm .gtr (asI (nthD wc (xix 0 (xnat ↑a) 1))) 8)]] [])
 else(
 bif xcm .gtr (xar .add .i64 (xar .add .i64 (↑a) 1) (szW (xar .sub .i64 (xwr .i64 (asI (nthD wc (xix 0 (xnat ↑a) 1)))) 8))) ↑e then(
 K .ret [.slo 0 0 n 0,.nils,.bool false,.int .i64 ↑e,.slo 1 0 k 0,.int .i64 ↑a] [some (.ro wc),sC ac 3,sN [.int .i64 (xar .add .i64 (↑a) 1),.int .i64 (xar .sub .i64 (xwr .i64 (asI (nthD wc (xix 0 (xnat ↑a) 1)))) 8),.bool (xcm .gtr (asI (nthD wc (xix 0 (xnat ↑a) 1))) 8)]] [])
 else(
 ck (xle (xadd k 1) 1000000) <|
 ck (xle (xadd 0 (xmul k 3)) (xln ac)) <|
 K .normal [.slo 0 0 n 0,.any,.any,.int .i64 ↑e,.slo 4 0 (xadd k 1) 0,.int .i64 (xar .add .i64 (xar .add .i64 (↑a) 1) (szW (xar .sub .i64 (xwr .i64 (asI (nthD wc (xix 0 (xnat ↑a) 1)))) 8)))] [some (.ro wc),sD,sN [.int .i64 (xar .add .i64 (↑a) 1),.int .i64 (xar .sub .i64 (xwr .i64 (asI (nthD wc (xix 0 (xnat ↑a) 1)))) 8),.bool (xcm .gtr (asI (nthD wc (xix 0 (xnat ↑a) 1))) 8)],sN [.int .i64 (xar .add .i64 (↑a) 1),.int .i64 (xar .sub .i64 (xwr .i64 (asI (nthD wc (xix 0 (xnat ↑a) 1)))) 8),.bool (xcm .gtr (asI (nthD wc (xix 0 (xnat ↑a) 1))) 8)],sC (xcat (xcut ac 0 (xmul k 3)) [.int .i64 (xar .add .i64 (↑a) 1),.int .i64 (xar .sub .i64 (xwr .i64 (asI (nthD wc (xix 0 (xnat ↑a) 1)))) 8),.bool (xcm .gtr (asI (nthD wc (xix 0 (xnat ↑a) 1))) 8)]) 3] [])))
 else(
 bif xcm .eql (szW (xwr .i64 (asI (nthD wc (xix 0 (xnat ↑a) 1))))) 0 then(
 K .ret [.slo 0 0 n 0,.nils,.bool false,.int .i64 ↑e,.slo 1 0 k 0,.int .i64 ↑a] [some (.ro wc),sC ac 3,sN [.int .i64 (xar .add .i64 (↑a) 1),.int .i64 (xwr .i64 (asI (nthD wc (xix 0 (xnat ↑a) 1)))),.bool (xcm .gtr (asI (nthD wc (xix 0 (xnat ↑a) 1))) 8)]] [])
 else(
 bif xcm .gtr (xar .add .i64 (xar .add .i64 (↑a) 1) (szW (xwr .i64 (asI (nthD wc (xix 0 (xnat ↑a) 1)))))) ↑e then(
 K .ret [.slo 0 0 n 0,.nils,.bool false,.int .i64 ↑e,.slo 1 0 k 0,.int .i64 ↑a] [some (.ro wc),sC ac 3,sN [.int .i64 (xar .add .i64 (↑a) 1),.int .i64 (xwr .i64 (asI (nthD wc (xix 0 (xnat ↑a) 1)))),.bool (xcm .gtr (asI (nthD wc (xix 0 (xnat ↑a) 1))) 8)]] [])
 else(
 ck (xle (xadd k 1) 1000000) <|
 ck (xle (xadd 0 (xmul k 3)) (xln ac)) <|
 K .normal [.slo 0 0 n 0,.any,.any,.int .i64 ↑e,.slo 4 0 (xadd k 1) 0,.int .i64 (xar .add .i64 (xar .add .i64 (↑a) 1) (szW (xwr .i64 (asI (nthD wc (xix 0 (xnat ↑a) 1))))))] [some (.ro wc),sD,sN [.int .i64 (xar .add .i64 (↑a) 1),.int .i64 (xwr .i64 (asI (nthD wc (xix 0 (xnat ↑a) 1)))),.bool (xcm .gtr (asI (nthD wc (xix 0 (xnat ↑a) 1))) 8)],sN [.int .i64 (xar .add .i64 (↑a) 1),.int .i64 (xwr .i64 (asI (nthD wc (xix 0 (xnat ↑a) 1)))),.bool (xcm .gtr (asI (nthD wc (xix 0 (xnat ↑a) 1))) 8)],sC (xcat (xcut ac 0 (xmul k 3)) [.int .i64 (xar .add .i64 (↑a) 1),.int .i64 (xwr .i64 (asI (nthD wc (xix 0 (xnat ↑a) 1)))),.bool (xcm .gtr (asI (nthD wc (xix 0 (xnat ↑a) 1))) 8)]) 3] [])))))
 else(
 K (.exit 0) [.slo 0 0 n 0,.any,.any,.int .i64 ↑e,.slo 1 0 k 0,.int .i64 ↑a] [some (.ro wc),sC ac 3] [])):=by kernel_rfl
theorem ol_z (n e k a:Nat) (wc ac:List LV) (K:Pk):(xsp prog cxb 40 77 ((sp prog 22).drop 9) (mkTm 77 (blT n e k a)) (mkS (blH wc ac)) (vK blL K))=(
 K .ret [.slo 0 0 n 0,.slo 1 0 k 0,.bool true,.int .i64 ↑e,.slo 1 0 k 0,.int .i64 ↑a] [some (.ro wc),sC ac 3] []):=by kernel_rfl
end
end Go.Lev
