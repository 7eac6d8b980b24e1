/- chapter 8: writes, in lists: find -/
import Derived.Test.YtopbikapcboigaaLc
import Derived.Test.YtopbikapcboigaaChecked
import Derived.KernelRfl
namespace Go.Lev
set_option linter.unusedSimpArgs false
set_option linter.unusedVariables false
open Go.RowKit
open Go.Proofs.Try (prog)
set_option maxRecDepth 100000
noncomputable section
abbrev cell:Int×Int→List LV:=cII .i64 .u64
theorem cell_len (x:Int×Int):(cell x).length=2:=rfl
def fnd (xs:List (Int×Int)) (a:Int):Int:=match xs.findIdx? (fun x=>x.1 == a) with | some i=>i | none => -1
theorem cell_0 {xs:List (Int×Int)} {i:Nat} (h:i < xs.length):nthD (encL cell xs) (i * 2)=.int .i64 xs[i].1:=encL_nth cell_len (j:=0) h (by omega)
theorem cell_1 {xs:List (Int×Int)} {i:Nat} (h:i < xs.length):nthD (encL cell xs) (i * 2+1)=.int .u64 xs[i].2:=encL_nth cell_len (j:=1) h (by omega)
theorem cell_n (xs:List (Int×Int)):(encL cell xs).length=xs.length * 2:=encL_length cell_len xs
theorem fnd_hit {xs:List (Int×Int)} {a:Int} {k:Nat} (h:k < xs.length) (e:xs[k].1=a) (hno:∀ j (hj:j < xs.length),j < k→xs[j].1≠a):fnd xs a=k:=by
 have:xs.findIdx? (fun x=>x.1 == a)=some k:=by
  rw [List.findIdx?_eq_some_iff_getElem]
  exact⟨h,by simp [e],fun j hj=>by simpa using hno j (by omega) hj⟩
 simp only [fnd,this]
theorem fnd_no {xs:List (Int×Int)} {a:Int} (hno:∀ j (hj:j < xs.length),xs[j].1≠a):fnd xs a = -1:=by
 have:xs.findIdx? (fun x=>x.1 == a)=none:=by
  rw [List.findIdx?_eq_none_iff]
  intro x hx
  obtain⟨j,hj,rfl⟩:=List.getElem_of_mem hx
  simpa using hno j hj
 simp only [fnd,this]
abbrev fL:List Nat:=[0,1,4,10,11,12]
abbrev fT (a:Int) (n k:Nat):List (Nat×LV):=[(0,.ptr 0 0),(1,.int .i64 a),(10,.slo 1 0 n 0),(11,.int .i64 n),(12,.int .i64 k)]
abbrev wS (m:Int) (n:Nat) (cs:List LV):List LB:=[.cells [.int .i64 m,.slo 1 0 n 0] none,.cells cs (some 2)]
theorem find_b (m a:Int) (n k:Nat) (cs:List LV) (K:Pk):(xcode prog (fun _=>none) 40 23 (loopOf (nthC (sp prog 96) 2)) (mkTm 23 [(0,.ptr 0 0),(1,.int .i64 a),(10,.slo 1 0 n 0),(11,.int .i64 n),(12,.int .i64 k)]) (mkS [.cells [.int .i64 m,.slo 1 0 n 0] none,.cells cs (some 2)]) (vK fL K))=(
 bif xcm .lss ↑k ↑n then(
 ck (xle (xadd (xnat ↑k) 1) n) <|
 ck (xle (xadd (xix 0 (xnat ↑k) 2) 2) (xln cs)) <|
 ck (isI .i64 (nthD cs (xix 0 (xnat ↑k) 2))) <|
 ck (isI .u64 (nthD cs (xadd (xix 0 (xnat ↑k) 2) 1))) <|
 bif xcm .eql (asI (nthD cs (xix 0 (xnat ↑k) 2))) a then(
 K .ret [.ptr 0 0,.int .i64 a,.int .i64 ↑k,.slo 1 0 n 0,.int .i64 ↑n,.int .i64 ↑k] [sN [.int .i64 m,.slo 1 0 n 0],sC cs 2,sN [.int .i64 (asI (nthD cs (xix 0 (xnat ↑k) 2))),.int .u64 (asI (nthD cs (xadd (xix 0 (xnat ↑k) 2) 1)))]] [])
 else(
 K .normal [.ptr 0 0,.int .i64 a,.any,.slo 1 0 n 0,.int .i64 ↑n,.int .i64 (xar .add .i64 (↑k) 1)] [sN [.int .i64 m,.slo 1 0 n 0],sC cs 2,sN [.int .i64 (asI (nthD cs (xix 0 (xnat ↑k) 2))),.int .u64 (asI (nthD cs (xadd (xix 0 (xnat ↑k) 2) 1)))]] []))
 else(
 K (.exit 0) [.ptr 0 0,.int .i64 a,.any,.slo 1 0 n 0,.int .i64 ↑n,.int .i64 ↑k] [sN [.int .i64 m,.slo 1 0 n 0],sC cs 2] [])):=by kernel_rfl
theorem find_loop (m a:Int) (xs:List (Int×Int)) (hn:xs.length≤9223372036854775807):SCode prog 23 (nthC (sp prog 96) 2) 2 (mkTm 23 (fT a xs.length 0)) (mkS (wS m xs.length (encL cell xs)))
  (vK fL (toK (σ:={_k:Unit // fnd xs a = -1}) 2 23 fL [] (fun _=>[(0,.ptr 0 0)]) (fun _=>wS m xs.length (encL cell xs)) (endK 2 [4] fL [] (fun l b=>l=.int .i64 (fnd xs a)∧b=wS m xs.length (encL cell xs))))):=by
 refine SCode.loop_vc noCx_ok (n:=40) 0 (by kernel_rfl) (σ:={k:Nat // k≤xs.length∧∀ j (hj:j < xs.length),j < k→xs[j].1≠a}) (fun k=>fT a xs.length k.1) (fun _=>wS m xs.length (encL cell xs)) (fun k=>xs.length - k.1) (fun k=>Nat.le_refl _) (fun⟨k,hk,hno⟩=>?_) ⟨0,Nat.zero_le _,fun j hj h=>absurd h (by omega)⟩
 rw [find_b]
 refine ways (fun h=>?_) (fun h=>?_)
 ·have hk':k < xs.length:=by simpa [xcm_lss] using h
  have e0:=cell_0 hk'
  have e1:=cell_1 hk'
  have el:=cell_n xs
  simp only [wd_nat,wd_ix,wd_add,Nat.zero_add,e0,e1,wd_asI]
  refine must (by(simp only [wd_isI,wd_asI,wd_isB,wd_asB,wd_nat,wd_nn,wd_nni,wd_le,wd_z,wd_eq,wd_add,wd_sub,wd_ix,wd_mul,wd_mn,wd_mx,wd_not,wd_and,wd_bq,wd_ln,xcm_eql,xcm_neq,xcm_lss,xcm_leq,xcm_gtr,xcm_geq,decide_eq_true_eq,decide_eq_false_iff_not,Nat.zero_add,decide_true]); omega) (must (by(simp only [wd_isI,wd_asI,wd_isB,wd_asB,wd_nat,wd_nn,wd_nni,wd_le,wd_z,wd_eq,wd_add,wd_sub,wd_ix,wd_mul,wd_mn,wd_mx,wd_not,wd_and,wd_bq,wd_ln,xcm_eql,xcm_neq,xcm_lss,xcm_leq,xcm_gtr,xcm_geq,decide_eq_true_eq,decide_eq_false_iff_not,Nat.zero_add,decide_true]); rw [el]; omega) (must (by(simp only [wd_isI,wd_asI,wd_isB,wd_asB,wd_nat,wd_nn,wd_nni,wd_le,wd_z,wd_eq,wd_add,wd_sub,wd_ix,wd_mul,wd_mn,wd_mx,wd_not,wd_and,wd_bq,wd_ln,xcm_eql,xcm_neq,xcm_lss,xcm_leq,xcm_gtr,xcm_geq,decide_eq_true_eq,decide_eq_false_iff_not,Nat.zero_add,decide_true])) (must (by(simp only [wd_isI,wd_asI,wd_isB,wd_asB,wd_nat,wd_nn,wd_nni,wd_le,wd_z,wd_eq,wd_add,wd_sub,wd_ix,wd_mul,wd_mn,wd_mx,wd_not,wd_and,wd_bq,wd_ln,xcm_eql,xcm_neq,xcm_lss,xcm_leq,xcm_gtr,xcm_geq,decide_eq_true_eq,decide_eq_false_iff_not,Nat.zero_add,decide_true])) ?_)))
  refine ways (fun h=>?_) (fun h=>?_)
  ·have e:xs[k].1=a:=by simpa [xcm_eql] using h
   have hf:=fnd_hit hk' e hno
   exact⟨trivial,rfl,_,_,[.id 0,.id 1],⟨rfl,rfl⟩,by rw [hf]; (exact zC)⟩
  ·have e:xs[k].1≠a:=by simpa [xcm_eql] using h
   rw [inc_i64 hk' hn]
   exact⟨rfl,⟨k+1,hk',fun j hj hjk=>by rcases Nat.lt_succ_iff_lt_or_eq.1 hjk with h | rfl; exact hno j hj h; exact e⟩,by simp only; omega,[.id 0,.id 1],by(exact zC)⟩
 ·have hk':xs.length≤k:=by simpa [xcm_lss] using h
  have hf:=fnd_no (xs:=xs) (a:=a) fun j hj=>hno j hj (by omega)
  exact⟨rfl,⟨(),hf⟩,[.id 0,.id 1],by(exact zC)⟩
theorem find_a (m a:Int) (n:Nat) (cs:List LV) (K:Pk):(xsp prog (fun _=>none) 40 23 (seg (sp prog 96) 0 2) (tm0 [.ptr 0 0,.int .i64 a]) (mkS [.cells [.int .i64 m,.slo 1 0 n 0] none,.cells cs (some 2)]) (vK fL K))=(
 K .normal [.ptr 0 0,.int .i64 a,.int .i64 0,.slo 1 0 n 0,.int .i64 ↑n,.int .i64 0] [sN [.int .i64 m,.slo 1 0 n 0],sC cs 2] []):=by kernel_rfl
theorem find_z (m:Int) (n:Nat) (cs:List LV) (K:Pk):(xsp prog (fun _=>none) 40 23 ((sp prog 96).drop 3) (mkTm 23 [(0,.ptr 0 0)]) (mkS [.cells [.int .i64 m,.slo 1 0 n 0] none,.cells cs (some 2)]) (vK fL K))=(
 K .ret [.ptr 0 0,.any,.int .i64 (-1),.any,.any,.any] [sN [.int .i64 m,.slo 1 0 n 0],sC cs 2] []):=by kernel_rfl
theorem find_ok (m a:Int) (xs:List (Int×Int)) (hn:xs.length≤9223372036854775807):SFun prog 96 [.ptr 0 0,.int .i64 a] (mkS (wS m xs.length (encL cell xs))) fun l s'=>l=.int .i64 (fnd xs a)∧s'=mkS (wS m xs.length (encL cell xs)):=by
 refine SFun.mono (SFun.pieces (Q:=fun l b=>l=.int .i64 (fnd xs a)∧b=wS m xs.length (encL cell xs)) 23 2 fL [4] (by kernel_rfl) rfl rfl rfl ?_) fun l s' ⟨b0,⟨h1,h2⟩,h3⟩=>⟨h1,by rw [h3,h2]⟩
 refine SSp.to noCx_ok (n:=40) (g:=[]) 2 2 rfl (σ:=Unit) (fun _=>fT a xs.length 0) (fun _=>wS m xs.length (encL cell xs)) (mkS_le (Nat.le_refl _)) (by kernel_rfl) ?_ fun _=>?_
 ·rw [find_a]; exact⟨rfl,(),[.id 0,.id 1],by(exact zC)⟩
 refine SSp.code_to (g:=[]) 3 rfl (σ:={_k:Unit // fnd xs a = -1}) (fun _=>[(0,.ptr 0 0)]) (fun _=>wS m xs.length (encL cell xs)) (by kernel_rfl) (find_loop m a xs hn) fun⟨_,hf⟩=>?_
 refine SSp.last noCx_ok (n:=40) (mkS_le (Nat.le_refl _)) ?_
 rw [find_z]
 exact⟨trivial,rfl,_,_,[.id 0,.id 1],⟨rfl,rfl⟩,by rw [hf]; (exact zC)⟩
def decC:List LV→List (Int×Int)
 | .int _ a::.int _ b::r=>(a,b)::decC r
 | _=>[]
theorem decC_enc:∀ xs,decC (encL cell xs)=xs
 | []=>rfl
 | x::r=>by simp [encL,cell,cII,decC,decC_enc r]
def okC (cs:List LV) (n:Nat):Bool:=@decide (cs=encL cell (decC cs)∧(decC cs).length=n∧n≤9223372036854775807) (Classical.propDecidable _)
theorem okC_iff {cs:List LV} {n:Nat}:okC cs n=true↔∃ xs,cs=encL cell xs∧xs.length=n∧n≤9223372036854775807:=by
 simp only [okC,decide_eq_true_eq]
 exact⟨fun h=>⟨_,h⟩,fun⟨xs,h1,h2⟩=>by subst h1; rw [decC_enc]; exact⟨rfl,h2⟩⟩
def fndW (cs:List LV) (a:Int):Int:=fnd (decC cs) a
def findG (args:List LV) (s:St):Option (List Bool×LV×St):=match args with
 | [.ptr b 0,.int .i64 a]=>(match s.h.get b with
   | some (.cells [.int .i64 m,.slo c 0 n 0] none)=>(match s.h.get c,s.g with
     | some (.cells cs (some 2)),[]=>cond (Nat.beq b c) none (some ([okC cs n],.int .i64 (fndW cs a),s))
     | _,_=>none)
   | _=>none)
 | _=>none
theorem findG_ok:GOk prog 96 findG:=by
 intro args s bs l s' hg hb hfr
 unfold findG at hg
 split at hg
 ·rename_i b a
  split at hg
  ·rename_i m c n hb1
   split at hg
   ·rename_i cs hc1 hgl
    cases hbc:Nat.beq b c with
    | true=>rw [hbc] at hg; cases hg
    | false =>
      rw [hbc] at hg
      simp only [cond_false,Option.some.injEq,Prod.mk.injEq] at hg
      obtain⟨rfl,rfl,rfl⟩:=hg
      obtain⟨xs,rfl,rfl,hn⟩:=okC_iff.1 (allT_cons.1 hb).1
      have hne:b≠c:=fun e=>by subst e; simp [beq_dec] at hbc
      have hlt:∀ x,(s.h.get x).isSome=true→x < s.n:=fun x hx=>by
       rcases Nat.lt_or_ge x s.n with h | h
       ·exact h
       ·rw [hfr x h] at hx; cases hx
      have hs:s=⟨s.h,s.n,[]⟩:=by rw [← hgl]
      refine SFun.lift_ro (ρ:=[b,c]) (bs:=wS m xs.length (encL cell xs)) (args0:=[.ptr 0 0,.int .i64 a]) hfr (by simp [hne]) ⟨⟨hlt b (by rw [hb1]; rfl),_,hb1,by(exact zBk),fun κ hκ=>lb_cells (lws_cons lw_int (lws_cons (lw_slo (hκ 1 c rfl)) lws_nil)) (by simp)⟩,⟨hlt c (by rw [hc1]; rfl),_,hc1,by(exact zBk),fun κ hκ=>by(exact zBk)⟩,trivial⟩ (by(exact zTl)) rfl ?_
      rw [hgl]
      refine SFun.mono (find_ok m a xs hn) fun l s' ⟨h1,h2⟩=>⟨?_,h2⟩
      rw [h1]; simp only [fndW,decC_enc]
   ·cases hg
  ·cases hg
 ·cases hg
theorem cell_push (xs:List (Int×Int)) (a z:Int):xcat (xcut (encL cell xs) 0 (xs.length * 2)) [.int .i64 a,.int .u64 z]=encL cell (xs++[(a,z)]):=by
 rw [xcut_all (by rw [cell_n]; omega),encL_append]; rfl
theorem cell_set {xs:List (Int×Int)} {i:Nat} (h:i < xs.length) (z:Int):xlay (encL cell xs) (i * 2+1) [.int .u64 z]=encL cell (xs.set i (xs[i].1,z)) :=
 encL_set1 cell_len (y:=(xs[i].1,z)) h (j:=1) (by omega) rfl
theorem noids_c (xs:List (Int×Int)):noIds (encL cell xs)=true:=noIds_encL (fun _=>rfl) xs
theorem xnoid_c (xs:List (Int×Int)):xnoid (encL cell xs)=true:=xnoid_encL (fun _=>rfl) xs
theorem okC_enc {xs:List (Int×Int)} (h:xs.length≤9223372036854775807):okC (encL cell xs) xs.length=true:=okC_iff.2 ⟨_,rfl,rfl,h⟩
def isF (F G:OP):Bool:=@decide (F=G) (Classical.propDecidable _)
theorem isF_self (F:OP):isF F F=true:=by simp [isF]
theorem isF_eq {F G:OP} (h:isF F G=true):F=G:=by simpa [isF] using h
abbrev CL:=List (Int×Int)
def pl:CL→Int×Int→CL
 | [],c=>[c]
 | b::r,c=>if b.1=c.1 then(b.1,c.2)::r else b::pl r c
abbrev pls (x l:CL):CL:=l.foldl pl x
def keyIn (a:Int) (x:CL):Prop:=∃ c∈x,c.1=a
theorem key_cons {a:Int} {b:Int×Int} {r:CL}:keyIn a (b::r)↔b.1=a∨keyIn a r:=by simp [keyIn]
theorem key_nil {a:Int}:¬ keyIn a []:=by simp [keyIn]
theorem key_pl {a:Int} {c:Int×Int}:∀ {x:CL},keyIn a (pl x c)↔keyIn a x∨c.1=a
 | []=>by simp [pl,keyIn]
 | b::r=>by
   rw [pl]; split
   ·rename_i h
    simp only [key_cons]
    constructor
    ·rintro(h1 | h1)
     ·exact .inl (.inl h1)
     ·exact .inl (.inr h1)
    ·rintro((h1 | h1) | h1)
     ·exact .inl h1
     ·exact .inr h1
     ·exact .inl (h.trans h1)
   ·simp only [key_cons,key_pl,or_assoc]
def uniq:CL→Prop
 | []=>True
 | b::r=>¬ keyIn b.1 r∧uniq r
theorem uniq_pl {c:Int×Int}:∀ {y:CL},uniq y→uniq (pl y c)
 | [],_=>⟨key_nil,trivial⟩
 | b::r,h=>by
   rw [pl]; split
   ·exact h
   ·rename_i h1
    exact⟨fun e=>(key_pl.1 e).elim h.1 (fun e=>h1 e.symm),uniq_pl h.2⟩
theorem uniq_pls:∀ (l:CL) {y:CL},uniq y→uniq (pls y l)
 | [],_,h=>h
 | c::r,_,h=>uniq_pls r (uniq_pl h)
theorem pl_len (x:CL) (c:Int×Int):(pl x c).length≤x.length+1:=by
 induction x with
 | nil=>simp [pl]
 | cons b r ih=>rw [pl]; split <;> simp <;> omega
theorem pls_len:∀ (l x:CL),(pls x l).length≤x.length+l.length
 | [],x=>by simp
 | c::r,x=>by
   have h1:=pls_len r (pl x c)
   have h2:=pl_len x c
   show(pls (pl x c) r).length≤_
   simp only [List.length_cons]; omega
theorem pl_set:∀ (xs:CL) (a z:Int) (i:Nat) (h:i < xs.length),xs[i].1=a→(∀ j (hj:j < xs.length),j < i→xs[j].1≠a)→pl xs (a,z)=xs.set i (a,z)
 | b::r,a,z,0,h,e,_=>by simp at e; simp [pl,e]
 | b::r,a,z,i+1,h,e,hn=>by
   have h1:b.1≠a:=hn 0 (by simp) (by omega)
   have ih:=pl_set r a z i (by simpa using h) (by simpa using e) fun j hj hji=>hn (j+1) (by simp; omega) (by omega)
   simp [pl,h1,ih]
theorem pl_app:∀ (xs:CL) (a z:Int),(∀ j (hj:j < xs.length),xs[j].1≠a)→pl xs (a,z)=xs++[(a,z)]
 | [],a,z,_=>rfl
 | b::r,a,z,hn=>by
   have h1:b.1≠a:=hn 0 (by simp)
   have ih:=pl_app r a z fun j hj=>hn (j+1) (by simp; omega)
   simp [pl,h1,ih]
def fndV:CL→Int→Option Int
 | [],_=>none
 | x::r,s=>if x.1=s then some x.2 else fndV r s
theorem fndV_no {xs:CL} {s:Int} (h:∀ j (hj:j < xs.length),xs[j].1≠s):fndV xs s=none:=by
 induction xs with
 | nil=>rfl
 | cons x r ih=>rw [fndV,if_neg (show ¬ x.1=s from h 0 (by simp)),ih fun j hj=>h (j+1) (by simp; omega)]
theorem fndV_hit {xs:CL} {s:Int} {i:Nat} (hi:i < xs.length) (h:∀ j (hj:j < xs.length),j < i→xs[j].1≠s) (e:xs[i].1=s):fndV xs s=some xs[i].2:=by
 induction xs generalizing i with
 | nil=>simp at hi
 | cons x r ih =>
   cases i with
   | zero=>rw [fndV,if_pos (by simpa using e)]; rfl
   | succ i =>
     rw [fndV,if_neg (show ¬ x.1=s from h 0 (by simp) (by omega)),ih (i:=i) (by simpa using hi) (fun j hj hji=>h (j+1) (by simp; omega) (by omega)) (by simpa using e)]; rfl
theorem fndV_key {xs:CL} {s:Int}:fndV xs s=none↔¬ keyIn s xs:=by
 induction xs with
 | nil=>simp [fndV,keyIn]
 | cons x r ih =>
   rw [fndV,key_cons]
   by_cases h:x.1=s
   ·simp [h]
   ·simp [h,ih]
theorem fnd_cases (xs:CL) (a:Int):(∃ i,∃ h:i < xs.length,xs[i].1=a∧fnd xs a=i∧fndV xs a=some xs[i].2∧∀ z,pl xs (a,z)=xs.set i (xs[i].1,z))∨(fnd xs a = -1∧fndV xs a=none∧∀ z,pl xs (a,z)=xs++[(a,z)]):=by
 cases h:xs.findIdx? (fun x=>x.1 == a) with
 | some i =>
   obtain⟨h1,h2,h3⟩:=List.findIdx?_eq_some_iff_getElem.1 h
   have e:xs[i].1=a:=by simpa using h2
   have hn:∀ j (hj:j < xs.length),j < i→xs[j].1≠a:=fun j hj hji=>by simpa using h3 j hji
   exact .inl ⟨i,h1,e,fnd_hit h1 e hn,fndV_hit h1 hn e,fun z=>by rw [pl_set xs a z i h1 e hn,e]⟩
 | none =>
   have hn:∀ j (hj:j < xs.length),xs[j].1≠a:=fun j hj=>by
    have:=List.findIdx?_eq_none_iff.1 h _ (List.getElem_mem hj)
    simpa using this
   exact .inr ⟨fnd_no hn,fndV_no hn,fun z=>pl_app xs a z hn⟩
def fV (xs:CL) (s:Int):Int:=(fndV xs s).getD 0
def fB (xs:CL) (s:Int):Bool:=(fndV xs s).isSome
def wPe (m:Int) (xs:CL) (a:Int):Int:=if a < 1∨256≤a then 2 else if(fndV xs a).isSome then 0 else if m≤xs.length then 5 else 0
def wPc (m:Int) (xs:CL) (a v:Int):CL:=if wPe m xs a=0 then pl xs (a,v) else xs
def wTk (m:Int):CL→CL→Int×CL
 | xs,[]=>(0,xs)
 | xs,c::l=>if wPe m xs c.1=0 then wTk m (pl xs c) l else(wPe m xs c.1,xs)
def wTc (m:Int) (xs l:CL):CL:=if(wTk m xs l).1=0 then(wTk m xs l).2 else xs
end
end Go.Lev
