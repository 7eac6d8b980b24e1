import Derived.Test.YtnkkkihgljbllaaDoorCY3
import Derived.Test.YtnkkkihgljbllaaDoorLc
import Derived.Test.YtnkkkihgljbllaaDoorChecked
import Derived.KernelRfl
/- the draws of programs: a program, whole -/
namespace Go.Lev
set_option linter.unusedSimpArgs false
set_option linter.unusedVariables false
open Go.RowKit
open Go.Proofs.Tryd (prog)
set_option maxRecDepth 100000
noncomputable section
theorem gC_nil (l:List InsR):∀ f,gC f l []=l
 | 0=>rfl
 | f+1=>by rw [gC,if_pos rfl]
theorem pg_switch2 (ks:List KinR) (m:Int) (calm:Bool) (np i:Nat) (x:KinR) (l:List InsR) (o junk:List Int) (h5:o.length≤5) (hl:l.length+2 * o.length≤995) {σ : Type} (T2 : σ→List (Nat×LV)) (H2 : σ→List LB) (el:List Int→σ)
  (hT:∀ j,T2 (el j)=pgT np m calm (gst calm x l o).1.length (gst calm x l o).2.length i) (hH:∀ j,H2 (el j)=pgS ks (gst calm x l o).1 (gst calm x l o).2 j) {Φ : Pk} :
  SCode prog 226 (nthC pgB 5) 1 (mkTm 226 (pgA np m calm l.length o.length i (wthV x.w 0 40))) (mkS (pgX ks x l o junk)) (vK pgL (blkK 1 (toK (σ:=σ) 1 226 pgL [] T2 H2 Φ))):=by
 refine SCode.mono (pg_switch ks m calm np i x l o junk h5 hl (Φ:=Φ)) fun x tm s h=>?_
 cases x with
 | normal=>obtain⟨h1,j,ρ,h2⟩:=h; exact⟨h1,el j,ρ,by rw [hT,hH]; exact h2⟩
 | exit k =>
   have h':cond (Nat.beq k 1) (toK (σ:=List Int) 1 226 pgL [] (fun _=>pgT np m calm (gst calm x l o).1.length (gst calm x l o).2.length i) (fun j=>pgS ks (gst calm x l o).1 (gst calm x l o).2 j) Φ .normal (slotsOf pgL tm) (blksOf s) s.g) (Φ (.exit k) (slotsOf pgL tm) (blksOf s) s.g):=h
   show cond (Nat.beq k 1) (toK (σ:=σ) 1 226 pgL [] T2 H2 Φ .normal (slotsOf pgL tm) (blksOf s) s.g) (Φ (.exit k) (slotsOf pgL tm) (blksOf s) s.g)
   cases hk:Nat.beq k 1 with
   | true=>rw [hk] at h'; obtain⟨h1,j,ρ,h2⟩:=h'; exact⟨h1,el j,ρ,by rw [hT,hH]; exact h2⟩
   | false=>rw [hk] at h'; exact h'
 | ret=>exact h
def progQ (ks:List KinR) (m:Int) (calm:Bool) (l:LV) (b:List LB):Prop:=(gF ks m calm).length≤1001∧l=.agg [.slo 1 0 (gF ks m calm).length 0]∧b=[.ro (encL kinE ks),.cells (encL insE (gF ks m calm)) (some 5)]
set_option maxHeartbeats 8000000 in
theorem prog_fun (ks:List KinR) (m:Int) (calm:Bool) (hm:m≤1000) (hk:ks.length≤9223372036854775807):SFun prog 11 [.slo 0 0 ks.length 0,.int .i64 m,.bool calm] (mkS [.ro (encL kinE ks)]) fun l s=>∃ b,progQ ks m calm l b∧s=mkS b:=by
 refine SFun.piecesC (Q:=progQ ks m calm) 226 1 6 33 pgL (by kernel_rfl) rfl rfl rfl ?_
 have nk:noIds (encL kinE ks)=true:=kin_noids ks
 have nI:∀ P:List InsR,noIds (encL insE P)=true:=ins_noids
 have nO:∀ q:List Int,noIds (encL (cI .i64) q)=true:=fun q=>noIds_Ii64 q
 refine SSp.to cxPy_ok (n:=60) (g:=[]) 4 4 rfl (σ:=Unit) (fun _=>pgT ks.length m calm 0 0 0) (fun _=>pgH (encL kinE ks) [] []) (mkS_le (Nat.le_refl _)) (by kernel_rfl) ?_ fun _=>?_
 ·rw [pg_a]
  exact⟨rfl,(),[.id 0,.id 1,.none,.none],by(exact zC)⟩
 refine SSp.code_to (g:=[]) 5 rfl (σ:=PGu ks m calm) (fun p=>pgU p.1.1.length p.1.2.1.length) (fun p=>pgS ks p.1.1 p.1.2.1 p.1.2.2) (by kernel_rfl) ?_ fun⟨⟨l0,o0,junk0⟩,h5,hl0,hR⟩=>?_
 ·refine SCode.loop_sp 0 (by kernel_rfl) (σ:=PGt ks m calm) (fun p=>pgT ks.length m calm p.1.2.1.length p.1.2.2.1.length p.1.1) (fun p=>pgS ks p.1.2.1 p.1.2.2.1 p.1.2.2.2) (fun p=>ks.length - p.1.1) (fun _=>Nat.le_of_ble_eq_true rfl) (fun⟨⟨i,l,o,junk⟩,hi,h5,hl,hR⟩=>?_) ⟨(0,[],[],[]),Nat.zero_le _,by simp,by simp,by simp⟩
  dsimp only at hi h5 hl hR ⊢
  have n1:=nI l
  have n2:=nO (o++junk)
  refine SSp.to cxPy_ok (n:=60) (g:=[]) 2 2 rfl (σ:={_k:Unit // i < ks.length}) (fun _=>pgT ks.length m calm l.length o.length i) (fun _=>pgS ks l o junk) (mkS_le (Nat.le_of_ble_eq_true rfl)) (by kernel_rfl) ?_ fun⟨_,hlt⟩=>?_
  ·rw [pg_h]
   by_cases hlt:i < ks.length
   ·(refine zR ?_)
    exact⟨rfl,⟨(),hlt⟩,[.id 0,.id 1,.id 2,.id 3],by(exact zC)⟩
   ·(refine zR ?_)
    have e:(l,o)=gL m calm ks [] []:=by rw [← hR,List.drop_of_length_le (by omega)]; rfl
    exact⟨rfl,⟨(l,o,junk),h5,hl,e⟩,[.id 0,.id 1,.id 2,.id 3],by(exact zC)⟩
  have hd:=List.drop_eq_getElem_cons hlt
  rw [hd,gL] at hR
  refine SSp.code_to (g:=[]) 3 rfl (σ:={j:List Int // ¬ (m < (l.length:Int)+2 * (o.length:Int)+5)}) (fun _=>pgT ks.length m calm (gst calm ks[i] l o).1.length (gst calm ks[i] l o).2.length i) (fun j=>pgS ks (gst calm ks[i] l o).1 (gst calm ks[i] l o).2 j.1) (by kernel_rfl) ?_ fun⟨j2,hb⟩=>?_
  ·refine SCode.block_sp 1 (by kernel_rfl) ?_
   refine SSp.to cxPy_ok (n:=60) (g:=[]) 5 5 rfl (σ:={_k:Unit // ¬ (m < (l.length:Int)+2 * (o.length:Int)+5)}) (fun _=>pgA ks.length m calm l.length o.length i (wthV ks[i].w 0 40)) (fun _=>pgX ks ks[i] l o junk) (mkS_le (Nat.le_of_ble_eq_true rfl)) (by kernel_rfl) ?_ fun⟨_,hb⟩=>?_
   ·have c0:=kin_0 hlt
    have c1:=kin_1 hlt
    have c2:nthD (encL kinE ks) (i * 5+1+1)=.int .i64 ks[i].b:=kin_2 hlt
    have c3:nthD (encL kinE ks) (i * 5+1+1+1)=.int .i64 ks[i].c:=kin_3 hlt
    have c4:nthD (encL kinE ks) (i * 5+1+1+1+1)=.int .u64 ks[i].n:=kin_4 hlt
    have ee:xar .add .i64 (xar .add .i64 (l.length:Int) (xar .mul .i64 2 (o.length:Int))) 5=(l.length:Int)+2 * (o.length:Int)+5:=by
     rw [mul_i64 (by omega) (by omega),add_i64 (x:=(l.length:Int)) (by omega) (by omega),add_i64 (by omega) (by omega)]
    rw [pg_b]; simp only [pg_b_b1]
    simp only [wd_nat,wd_asV,wd_isV,wd_ix,wd_add,wd_mul,wd_ln,Nat.zero_add,Nat.mul_one,wd_isI,wd_asI,wd_isB,wd_asB,wd_nn,cI_tlen,cB_tlen,cII_tlen,decide_true,cond_true,wd_not_t,wd_not_f,wd_and_t,wd_and_f,c0,c1,c2,c3,c4,kin_n,ee]
    by_cases hb:m < (l.length:Int)+2 * (o.length:Int)+5
    ·rw [if_pos hb] at hR
     (refine zR ?_)
     exact⟨rfl,⟨(l,o,junk),h5,hl,hR⟩,[.id 0,.id 1,.id 2,.id 3],by(exact zC)⟩
    ·(refine zR ?_)
     exact⟨rfl,⟨(),hb⟩,[.id 0,.id 1,.id 2,.id 3,.id 4],by(exact zC)⟩
   refine SSp.code_last (by kernel_rfl) ?_
   exact pg_switch2 ks m calm ks.length i ks[i] l o junk h5 (by omega) _ _ (fun j=>⟨j,hb⟩) (fun _=>rfl) (fun _=>rfl)
  refine zE cxPy_ok ?_
  rw [if_neg hb] at hR
  have hG:=gst_GI (calm:=calm) (x:=ks[i]) (l:=l) (o:=o) (n:=1000) h5 (by omega)
  have n3:=nI (gst calm ks[i] l o).1
  have n4:=nO ((gst calm ks[i] l o).2++j2)
  rw [pg_n,inc_i64 hlt hk]
  exact⟨rfl,⟨(i+1,(gst calm ks[i] l o).1,(gst calm ks[i] l o).2,j2),hlt,hG.1,hG.2.1,hR⟩,by simp only; omega,[.id 0,.id 1,.id 2,.id 3],by(exact zC)⟩
 dsimp only at h5 hl0 hR ⊢
 have hF:gF ks m calm=if gC 20 l0 o0=[] then [⟨1,0,0,0,1⟩] else gC 20 l0 o0:=by rw [gF,← hR]
 have hw0:=gwt_le o0
 refine SSp.code_to (g:=[]) 6 rfl (σ:={j:List Int // (gC 20 l0 o0).length≤1000}) (fun _=>pgV (gC 20 l0 o0).length) (fun j=>pgH (encL kinE ks) (encL insE (gC 20 l0 o0)) (encL (cI .i64) j.1)) (by kernel_rfl) ?_ fun⟨j3,h3⟩=>?_
 ·refine SCode.loop_vc cxPy_ok (n:=60) 3 (by kernel_rfl) (σ:={p:Nat×List InsR×List Int×List Int // gwt p.2.2.1≤p.1∧p.2.2.1.length≤5∧p.2.1.length+gwt p.2.2.1≤1000∧gC p.1 p.2.1 p.2.2.1=gC 20 l0 o0}) (fun p=>pgU p.1.2.1.length p.1.2.2.1.length) (fun p=>pgS ks p.1.2.1 p.1.2.2.1 p.1.2.2.2) (fun p=>p.1.1) (fun _=>Nat.le_of_ble_eq_true rfl) (fun⟨⟨f,l,o,junk⟩,hf,h5,hl,hC⟩=>?_) ⟨(20,l0,o0,junk0),by simp only; omega,h5,by simp only; omega,rfl⟩
  dsimp only at hf h5 hl hC ⊢
  have n1:=nI l
  have n2:=nO (o++junk)
  rw [pg_c]
  rcases nil_snoc o with rfl | ⟨o2,y,rfl⟩
  ·rw [gC_nil] at hC
   have h1000:(gC 20 l0 o0).length≤1000:=by rw [← hC]; omega
   simp only [List.length_nil]
   (refine zR ?_)
   exact⟨rfl,⟨junk,h1000⟩,[.id 0,.id 1,.id 2,.id 3],by simp only [← hC]; (exact zC)⟩
  ·have hs:=shS_w (l:=l) (o':=o2) (x:=y)
   have le:(o2++[y]).length=o2.length+1:=by simp
   rw [le] at h5
   obtain⟨f,rfl⟩:∃ g,f=g+1:=⟨f - 1,by omega⟩
   rw [gC,if_neg (by simp)] at hC
   have sb:xar .sub .i64 ((o2.length+1:Nat):Int) 1=((o2.length:Nat):Int):=by rw [sub_i64 (by omega) (by omega)]; omega
   have cl:=nthO o2 y junk
   have ln:(o2++[y]++junk).length=o2.length+1+junk.length:=by simp; omega
   have hj:o2++[y]++junk=o2++(y::junk):=by simp
   have cc:xcut (encL (cI .i64) (o2++[y]++junk)) 0 o2.length=encL (cI .i64) o2:=by rw [hj]; exact cutO o2 _
   have pp:xcat (xcut (encL (cI .i64) o2) 0 o2.length) [.int .i64 18]=encL (cI .i64) (o2++[18]):=by have:=pushO o2 [] 18; rwa [List.append_nil] at this
   have p15:=kin_push1 l 15 0 0 0 0
   have p18:=kin_push1 l 18 0 0 0 0
   have p19:=kin_push1 l 19 0 0 0 0
   have n15:=nI (l++[⟨15,0,0,0,0⟩])
   have n18:=nI (l++[⟨18,0,0,0,0⟩])
   have n19:=nI (l++[⟨19,0,0,0,0⟩])
   have n4:=nO (o2++[18])
   have n5:=nO (o2++(y::junk))
   have hg:shS l (o2++[y])=shS l (o2++[y]):=rfl
   have hsu:∀ G,shS l (o2++[y])=G→gwt G.2≤f∧G.2.length≤5∧G.1.length+gwt G.2≤1000∧gC f G.1 G.2=gC 20 l0 o0:=fun G e=>by
    subst e; exact⟨by omega,by omega,by omega,hC⟩
   have e15:y=14→shS l (o2++[y])=(l++[⟨15,0,0,0,0⟩],o2):=fun e=>by unfold shS; rw [inm_snoc,List.dropLast_concat,if_pos e]; rfl
   have e18:¬ y=14→y=17→shS l (o2++[y])=(l++[⟨18,0,0,0,0⟩],o2++[18]):=fun e e'=>by unfold shS; rw [inm_snoc,List.dropLast_concat,if_neg e,if_pos e']; rfl
   have e19:¬ y=14→¬ y=17→shS l (o2++[y])=(l++[⟨19,0,0,0,0⟩],o2):=fun e e'=>by unfold shS; rw [inm_snoc,List.dropLast_concat,if_neg e,if_neg e']; rfl
   simp only [wd_nat,wd_asV,wd_isV,wd_ix,wd_add,wd_mul,wd_ln,Nat.zero_add,Nat.mul_one,wd_isI,wd_asI,wd_isB,wd_asB,wd_nn,cI_tlen,cB_tlen,cII_tlen,decide_true,cond_true,wd_not_t,wd_not_f,wd_and_t,wd_and_f,le,sb,cl,encIi64_len,ln,p15,p18,p19,cc,pp,ins_n,wd_sub,Nat.sub_zero]
   by_cases y1:y=14
   ·have hu:=hsu _ (e15 y1)
    rw [hj]
    (refine zR ?_)
    exact⟨rfl,⟨(f,l++[⟨15,0,0,0,0⟩],o2,y::junk),hu⟩,by simp only; omega,[.id 0,.id 1,.id 5,.id 3],by simp only [pgS,List.length_append,List.length_singleton]; (exact zC)⟩
   by_cases y2:y=17
   ·have hu:=hsu _ (e18 y1 y2)
    by_cases z:o2.length=0
    ·have e2:o2=[]:=List.length_eq_zero_iff.1 z
     subst e2
     (refine zR ?_)
     exact⟨rfl,⟨(f,l++[⟨18,0,0,0,0⟩],[]++[18],[]),hu⟩,by simp only; omega,[.id 0,.id 1,.id 8,.id 6],by simp only [pgS,List.length_append,List.length_singleton,List.append_nil]; (exact zC)⟩
    ·(refine zR ?_)
     exact⟨rfl,⟨(f,l++[⟨18,0,0,0,0⟩],o2++[18],[]),hu⟩,by simp only; omega,[.id 0,.id 1,.id 8,.id 6],by simp only [pgS,List.length_append,List.length_singleton,List.append_nil]; (exact zC)⟩
   have hu:=hsu _ (e19 y1 y2)
   rw [hj]
   (refine zR ?_)
   exact⟨rfl,⟨(f,l++[⟨19,0,0,0,0⟩],o2,y::junk),hu⟩,by simp only; omega,[.id 0,.id 1,.id 5,.id 3],by simp only [pgS,List.length_append,List.length_singleton]; (exact zC)⟩
 refine zE cxPy_ok ?_
 rw [pg_z]
 generalize gC 20 l0 o0=R at *
 have n1:=nI R
 have n2:=nO j3
 have n3:=nI (gF ks m calm)
 by_cases hz:R.length=0
 ·have e:R=[]:=List.length_eq_zero_iff.1 hz
  rw [if_pos e] at hF
  have p1:xcat (xcut (encL insE R) 0 (R.length * 5)) [.int .i64 1,.int .i64 0,.int .i64 0,.int .i64 0,.int .u64 1]=encL insE (gF ks m calm):=by rw [kin_push1,hF,e]; rfl
  have hq:(gF ks m calm).length=R.length+1:=by rw [hF,hz]; rfl
  (refine zN2 @p1 @ins_n ?_)
  (refine zR ?_)
  exact⟨trivial,rfl,1,[.slo 5 0 (R.length+1) 0],none,.agg [.slo 5 0 (R.length+1) 0],.agg [.slo 1 0 (gF ks m calm).length 0],[.ro _,.cells (encL insE (gF ks m calm)) (some 5)],[.id 0,.id 5],rfl,rfl,by kernel_rfl,⟨by omega,rfl,rfl⟩,by rw [hq]; (exact zC)⟩
 ·have hne:¬ R=[]:=fun e=>hz (by rw [e]; rfl)
  rw [if_neg hne] at hF
  (refine zR ?_)
  exact⟨trivial,rfl,1,[.slo 2 0 R.length 0],none,.agg [.slo 2 0 R.length 0],.agg [.slo 1 0 (gF ks m calm).length 0],[.ro _,.cells (encL insE (gF ks m calm)) (some 5)],[.id 0,.id 2],rfl,rfl,by kernel_rfl,⟨by rw [hF]; omega,rfl,rfl⟩,by rw [hF]; (exact zC)⟩
end
end Go.Lev
/- programs of draws, as a contract -/
namespace Go.Lev
set_option linter.unusedSimpArgs false
set_option linter.unusedVariables false
open Go.RowKit
open Go.Proofs.Tryd (prog)
set_option maxRecDepth 100000
noncomputable section
def decKin:List LV→List KinR
 | .int _ a::.int _ b::.int _ c::.int _ d::.int _ e::r=>⟨a,b,c,d,e⟩::decKin r
 | _=>[]
theorem decKin_enc:∀ xs,decKin (encL kinE xs)=xs
 | []=>rfl
 | x::r=>by simp [encL,kinE,decKin,decKin_enc r]
def okKin (n:Nat) (ks:List LV) (m:Int):Bool:=@decide (∃ K,ks=encL kinE K∧K.length=n∧n≤9223372036854775807∧m≤1000) (Classical.propDecidable _)
def gN (ks:List LV) (m:Int) (calm:Bool):Nat:=(gF (decKin ks) m calm).length
def gW (ks:List LV) (m:Int) (calm:Bool):List LV:=encL insE (gF (decKin ks) m calm)
theorem okKin_iff {n:Nat} {ks:List LV} {m:Int}:okKin n ks m=true↔∃ K,ks=encL kinE K∧K.length=n∧n≤9223372036854775807∧m≤1000:=by simp only [okKin,decide_eq_true_eq]
theorem okKin_no {n:Nat} {ks:List LV} {m:Int} (h:okKin n ks m=true):noIds ks=true:=by obtain⟨K,rfl,_⟩:=okKin_iff.1 h; exact kin_noids K
theorem prog_in {n:Nat} {ks:List LV} {m:Int} (calm:Bool) (h:okKin n ks m=true):SFun prog 11 [.slo 0 0 n 0,.int .i64 m,.bool calm] (mkS [.ro ks]) fun l s=>l=.agg [.slo 1 0 (gN ks m calm) 0]∧s=mkS [.ro ks,.cells (gW ks m calm) (some 5)]:=by
 obtain⟨K,rfl,rfl,h1,h2⟩:=okKin_iff.1 h
 refine SFun.mono (prog_fun K m calm h2 h1) fun l s ⟨b,hb,hs⟩=>?_
 rw [gN,gW,decKin_enc]; exact⟨hb.2.1,by rw [hs,hb.2.2]⟩
def progG:Gc:=fun args s=>match args,s.g with
 | [.slo a 0 n 0,.int .i64 m,.bool calm],[]=>(match s.h.get a with
   | some (.ro ks)=>(match s.lay [a] [.ro ks] [.cells (gW ks m calm) (some 5)] with
     | some s'=>some ([okKin n ks m],.agg [.slo s.n 0 (gN ks m calm) 0],s')
     | none=>none)
   | _=>none)
 | _,_=>none
theorem progG_ok:GOk prog 11 progG:=by
 intro args s bs l s' hg hb hfr
 unfold progG at hg
 split at hg
 ·rename_i a n m calm hgl
  split at hg
  ·rename_i ks hb0
   split at hg
   ·rename_i s1 hs1
    simp only [Option.some.injEq,Prod.mk.injEq] at hg
    obtain⟨rfl,rfl,rfl⟩:=hg
    simp only [allT_cons] at hb
    obtain⟨k1,_⟩:=hb
    have no:=okKin_no k1
    refine SFun.lay (bs:=[.ro ks]) (args0:=[.slo 0 0 n 0,.int .i64 m,.bool calm]) (bs':=[.ro ks,.cells (gW ks m calm) (some 5)]) (v0:=.agg [.slo 1 0 (gN ks m calm) 0]) hfr hs1 (by simp)
     ⟨⟨there hfr hb0,_,hb0,lb_ro (by(exact zId)),fun κ hκ=>lb_ro (by(exact zId))⟩,trivial⟩ (by(exact zTl)) ?_
     fun κ h1 h2=>⟨⟨lb_ro (by(exact zId)),lb_same (ins_noids _),trivial⟩,(lw_agg (lws_cons (lw_slo (h2 0 (by simp))) lws_nil))⟩
    rw [hgl]; exact prog_in calm k1
   ·cases hg
  ·cases hg
 ·cases hg
end
end Go.Lev
