/- the draws of programs: a program, shown -/
import Derived.Test.YtnkkkihgljbllaaDoorCY2
import Derived.Test.YtnkkkihgljbllaaDoorLc
import Derived.Test.YtnkkkihgljbllaaDoorChecked
import Derived.KernelRfl
namespace Go.Lev
set_option linter.unusedSimpArgs false
set_option linter.unusedVariables false
open Go.RowKit
open Go.Proofs.Tryd (prog)
set_option maxRecDepth 100000
noncomputable section
structure KinR where
 w:Int
 a:Int
 b:Int
 c:Int
 n:Int
abbrev kinE (x:KinR):List LV:=[.int .i64 x.w,.int .i64 x.a,.int .i64 x.b,.int .i64 x.c,.int .u64 x.n]
theorem kinE_len (x:KinR):(kinE x).length=5:=rfl
theorem kin_0 {xs:List KinR} {i:Nat} (h:i < xs.length):nthD (encL kinE xs) (i * 5)=.int .i64 xs[i].w:=encL_nth kinE_len (j:=0) h (by omega)
theorem kin_1 {xs:List KinR} {i:Nat} (h:i < xs.length):nthD (encL kinE xs) (i * 5+1)=.int .i64 xs[i].a:=encL_nth kinE_len (j:=1) h (by omega)
theorem kin_2 {xs:List KinR} {i:Nat} (h:i < xs.length):nthD (encL kinE xs) (i * 5+2)=.int .i64 xs[i].b:=encL_nth kinE_len (j:=2) h (by omega)
theorem kin_3 {xs:List KinR} {i:Nat} (h:i < xs.length):nthD (encL kinE xs) (i * 5+3)=.int .i64 xs[i].c:=encL_nth kinE_len (j:=3) h (by omega)
theorem kin_4 {xs:List KinR} {i:Nat} (h:i < xs.length):nthD (encL kinE xs) (i * 5+4)=.int .u64 xs[i].n:=encL_nth kinE_len (j:=4) h (by omega)
theorem kin_n (xs:List KinR):(encL kinE xs).length=xs.length * 5:=encL_length kinE_len xs
theorem kin_noids (xs:List KinR):noIds (encL kinE xs)=true:=noIds_encL (fun _=>rfl) xs
def kin_bd (x:KinR):Prop:=(IntKind.i64.min≤x.w∧x.w≤IntKind.i64.max)∧(IntKind.i64.min≤x.a∧x.a≤IntKind.i64.max)∧(IntKind.i64.min≤x.b∧x.b≤IntKind.i64.max)∧(IntKind.i64.min≤x.c∧x.c≤IntKind.i64.max)∧(IntKind.u64.min≤x.n∧x.n≤IntKind.u64.max)
def I1 (op:Int):InsR:=⟨op,0,0,0,0⟩
def shS (l:List InsR) (o:List Int):List InsR×List Int :=
 if inm o=14 then(l++[I1 15],o.dropLast) else if inm o=17 then(l++[I1 18],o.dropLast++[18]) else(l++[I1 19],o.dropLast)
def gst (calm:Bool) (x:KinR) (l:List InsR) (o:List Int):List InsR×List Int :=
 if wthV x.w 0 40=20∧o.length < 5 then(l++[I1 14],o++[14])
 else if(wthV x.w 0 40=21∨wthV x.w 0 40=22)∧o.length < 5 then(l++[I1 17],o++[17])
 else if(wthV x.w 0 40=23∨wthV x.w 0 40=24)∧0 < o.length then shS l o
 else if wthV x.w 0 40=25∧0 < o.length∧inm o=14 then(l++[I1 16],o)
 else if(wthV x.w 0 40=26∨wthV x.w 0 40=27)∧calm=false∧0 < o.length then(l++[⟨13,wthV x.a 0 6,0,((l.length+2:Nat):Int),0⟩,I1 20],o)
 else if wthV x.w 0 40=28∧calm=false then(l++[⟨13,wthV x.a 0 6,0,((l.length+2:Nat):Int),0⟩,I1 20],o)
 else if wthV x.w 0 40=29∧calm=false then(l++[⟨13,wthV x.a 0 6,0,((l.length+2:Nat):Int),0⟩,I1 22],o)
 else if wthV x.w 0 40=30∨wthV x.w 0 40=31 then(l++[⟨13,wthV x.b 0 6,0,((l.length+2:Nat):Int),0⟩,simF x.w x.a x.b x.c x.n],o)
 else if wthV x.w 0 40=32∧calm=false then(l++[simF x.w x.a x.b x.c x.n,⟨13,wthV x.b 0 6,0,(l.length:Int),0⟩],o)
 else(l++[simF x.w x.a x.b x.c x.n],o)
def gL (m:Int) (calm:Bool):List KinR→List InsR→List Int→List InsR×List Int
 | [],l,o=>(l,o)
 | x::r,l,o=>if m < (l.length:Int)+2 * (o.length:Int)+5 then(l,o) else gL m calm r (gst calm x l o).1 (gst calm x l o).2
def gC:Nat→List InsR→List Int→List InsR
 | 0,l,o=>l
 | f+1,l,o=>if o=[] then l else gC f (shS l o).1 (shS l o).2
def gF (ks:List KinR) (m:Int) (calm:Bool):List InsR :=
 if gC 20 (gL m calm ks [] []).1 (gL m calm ks [] []).2=[] then [⟨1,0,0,0,1⟩] else gC 20 (gL m calm ks [] []).1 (gL m calm ks [] []).2
def gwt:List Int→Nat
 | []=>0
 | x::r=>(if x=17 then 2 else 1)+gwt r
theorem gwt_app:∀ a b:List Int,gwt (a++b)=gwt a+gwt b
 | [],b=>by simp [gwt]
 | x::r,b=>by rw [List.cons_append,gwt,gwt,gwt_app r b]; omega
theorem gwt_le:∀ a:List Int,a.length≤gwt a∧gwt a≤2 * a.length
 | []=>by simp [gwt]
 | x::r=>by
   have:=gwt_le r
   rw [gwt,List.length_cons]; split <;> omega
theorem nil_snoc (o:List Int):o=[]∨∃ (o2:List Int) (y:Int),o=o2++[y]:=by
 rcases List.eq_nil_or_concat o with h | ⟨a,b,h⟩
 ·exact .inl h
 ·exact .inr ⟨a,b,by rw [h,List.concat_eq_append]⟩
theorem shS_w {l:List InsR} {o':List Int} {x:Int}:(shS l (o'++[x])).1.length=l.length+1∧gwt (shS l (o'++[x])).2+1=gwt (o'++[x])∧(shS l (o'++[x])).2.length≤o'.length+1:=by
 unfold shS
 rw [inm_snoc,List.dropLast_concat,gwt_app]
 split
 ·rename_i h; subst h; simp [gwt]
 ·split
  ·rename_i h; subst h; simp [gwt,gwt_app]
  ·rename_i h; simp [gwt,h]
theorem gst_GI {calm:Bool} {x:KinR} {l:List InsR} {o:List Int} {n:Nat} (h5:o.length≤5) (h:l.length+2 * o.length+5≤n):(gst calm x l o).2.length≤5∧(gst calm x l o).1.length+2 * (gst calm x l o).2.length≤n∧(gst calm x l o).1.length≤l.length+2:=by
 unfold gst
 split
 ·simp; omega
 split
 ·simp; omega
 split
 ·rename_i hh
  rcases List.eq_nil_or_concat o with rfl | ⟨o',y,rfl⟩
  ·simp at hh
  ·rw [List.concat_eq_append] at *
   have:=shS_w (l:=l) (o':=o') (x:=y)
   simp only [List.length_append,List.length_singleton] at h5 h
   omega
 repeat (split; · simp; omega)
 simp; omega
theorem kin_push1 (P:List InsR) (a b c d e:Int):xcat (xcut (encL insE P) 0 (P.length * 5)) [.int .i64 a,.int .i64 b,.int .i64 c,.int .i64 d,.int .u64 e]=encL insE (P++[⟨a,b,c,d,e⟩]):=by
 rw [xcut_all (by rw [ins_n]; omega),encL_append]; rfl
theorem kin_push2 (P:List InsR) (a b c d e a' b' c' d' e':Int):xcat (xcut (encL insE P) 0 (P.length * 5)) [.int .i64 a,.int .i64 b,.int .i64 c,.int .i64 d,.int .u64 e,.int .i64 a',.int .i64 b',.int .i64 c',.int .i64 d',.int .u64 e']=encL insE (P++[⟨a,b,c,d,e⟩,⟨a',b',c',d',e'⟩]):=by
 rw [xcut_all (by rw [ins_n]; omega),encL_append]; rfl
theorem cutO (a b:List Int):xcut (encL (cI .i64) (a++b)) 0 a.length=encL (cI .i64) a:=by
 rw [encL_append,xcut,List.drop_zero,List.take_append_of_le_length (by rw [encIi64_len]; omega),List.take_of_length_le (by rw [encIi64_len]; omega)]
theorem pushO (a b:List Int) (y:Int):xcat (xcut (encL (cI .i64) (a++b)) 0 a.length) [.int .i64 y]=encL (cI .i64) (a++[y]):=by
 rw [cutO,encL_append]; rfl
theorem nthO (o:List Int) (x:Int) (b:List Int):nthD (encL (cI .i64) (o++[x]++b)) o.length=.int .i64 x:=by
 rw [encIi64_nth (show o.length < (o++[x]++b).length by simp)]
 simp
abbrev pgS (ks:List KinR) (l:List InsR) (o junk:List Int):List LB:=pgH (encL kinE ks) (encL insE l) (encL (cI .i64) (o++junk))
abbrev pgX (ks:List KinR) (x:KinR) (l:List InsR) (o junk:List Int):List LB:=pgJ (encL kinE ks) (encL insE l) (encL (cI .i64) (o++junk)) x.w x.a x.b x.c x.n
abbrev PGt (ks:List KinR) (m:Int) (calm:Bool):={p:Nat×List InsR×List Int×List Int // p.1≤ks.length∧p.2.2.1.length≤5∧p.2.1.length+2 * p.2.2.1.length≤1000∧gL m calm (ks.drop p.1) p.2.1 p.2.2.1=gL m calm ks [] []}
abbrev PGu (ks:List KinR) (m:Int) (calm:Bool):={p:List InsR×List Int×List Int // p.2.1.length≤5∧p.1.length+2 * p.2.1.length≤1000∧(p.1,p.2.1)=gL m calm ks [] []}
theorem sm_eta (w a b c n:Int):(⟨smO w a b c n,smA w a b c n,smB w a b c n,smC w a b c n,smN w a b c n⟩:InsR)=simF w a b c n:=rfl
set_option maxHeartbeats 8000000 in
theorem pg_switch (ks:List KinR) (m:Int) (calm:Bool) (np i:Nat) (x:KinR) (l:List InsR) (o junk:List Int) (h5:o.length≤5) (hl:l.length+2 * o.length≤995) {Φ : Pk} :
  SCode prog 226 (nthC pgB 5) 1 (mkTm 226 (pgA np m calm l.length o.length i (wthV x.w 0 40))) (mkS (pgX ks x l o junk)) (vK pgL (blkK 1 (toK (σ:=List Int) 1 226 pgL [] (fun _=>pgT np m calm (gst calm x l o).1.length (gst calm x l o).2.length i) (fun j=>pgS ks (gst calm x l o).1 (gst calm x l o).2 j) Φ))):=by
 refine SCode.block_sp 2 (by kernel_rfl) ?_
 have nk:noIds (encL kinE ks)=true:=kin_noids ks
 have nI:∀ P:List InsR,noIds (encL insE P)=true:=ins_noids
 have nO:∀ q:List Int,noIds (encL (cI .i64) q)=true:=fun q=>noIds_Ii64 q
 have n1:=nI l
 have n2:=nO (o++junk)
 obtain⟨G,hG⟩:∃ G,gst calm x l o=G:=⟨_,rfl⟩
 rw [hG]
 have hg:=hG
 unfold gst at hg
 generalize hw:wthV x.w 0 40=w at *
 have el2:(l.length:Int)+2=((l.length+2:Nat):Int):=by omega
 have ea:xar .add .i64 (l.length:Int) 2=((l.length+2:Nat):Int):=by rw [add_i64 (by omega) (by omega)]; omega
 refine SSp.to cxPy_ok (n:=60) (g:=[]) 1 1 rfl (σ:={q:Bool // q=true↔w=20∧o.length < 5}) (fun q=>(41,.bool q.1)::pgA np m calm l.length o.length i w) (fun _=>pgX ks x l o junk) (mkS_le (Nat.le_of_ble_eq_true rfl)) (by kernel_rfl) ?_ fun⟨q0,h0⟩=>?_
 ·clear hg hG
  show xsp _ _ _ _ _ _ (mkS (pgJ (encL kinE ks) (encL insE l) (encL (cI .i64) (o++junk)) x.w x.a x.b x.c x.n)) _
  rw [pt_0]
  by_cases a:w=20
  ·by_cases b:o.length < 5
   ·simp only [show xcm .lss (o.length:Int) 5=true from t_lss (by omega)]
    (refine zR ?_)
    exact⟨rfl,⟨true,(by constructor <;> intro h <;> (first | omega | (simp at h; done) | (simp_all; done) | (simp_all; omega)))⟩,[.id 0,.id 1,.id 2,.id 3,.id 4],by(exact zC)⟩
   ·simp only [show xcm .lss (o.length:Int) 5=false from f_lss (by omega)]
    (refine zR ?_)
    exact⟨rfl,⟨false,(by constructor <;> intro h <;> (first | omega | (simp at h; done) | (simp_all; done) | (simp_all; omega)))⟩,[.id 0,.id 1,.id 2,.id 3,.id 4],by(exact zC)⟩
  ·(refine zR ?_)
   exact⟨rfl,⟨false,(by constructor <;> intro h <;> (first | omega | (simp at h; done) | (simp_all; done) | (simp_all; omega)))⟩,[.id 0,.id 1,.id 2,.id 3,.id 4],by(exact zC)⟩
 refine SSp.code_last (by kernel_rfl) ?_
 refine SCode.ways (t:=41) (q:=q0) (by kernel_rfl) rfl (fun e0=>?_) (fun e0=>?_)
 ·have c0:=h0.1 e0
  refine SCode.vc cxPy_ok (n:=60) (mkS_le (Nat.le_of_ble_eq_true rfl)) ?_
  show xcode _ _ _ _ _ _ (mkS (pgJ (encL kinE ks) (encL insE l) (encL (cI .i64) (o++junk)) x.w x.a x.b x.c x.n)) _
  rw [pa_0]
  rw [if_pos c0] at hg
  subst hg
  have p1:=kin_push1 l 14 0 0 0 0
  have p2:=pushO o junk 14
  have n3:=nI (l++[⟨14,0,0,0,0⟩])
  have n4:=nO (o++[14]++[])
  rw [List.append_nil] at n4
  simp only [wd_nat,wd_asV,wd_isV,wd_ix,wd_add,wd_mul,wd_ln,Nat.zero_add,Nat.mul_one,wd_isI,wd_asI,wd_isB,wd_asB,wd_nn,cI_tlen,cB_tlen,cII_tlen,decide_true,cond_true,wd_not_t,wd_not_f,wd_and_t,wd_and_f,p1,p2,ins_n,encIi64_len,List.length_append]
  (refine zR ?_)
  exact⟨rfl,[],[.id 0,.id 1,.id 6,.id 8],by simp only [pgS,List.length_append,List.length_singleton,List.length_cons,List.length_nil,List.append_nil,I1]; (exact zC)⟩
 have m0:¬ (w=20∧o.length < 5):=fun c=>by rw [h0.2 c] at e0; cases e0
 refine SCode.of_spine0 ?_
 refine SSp.to cxPy_ok (n:=60) (g:=[]) 1 1 rfl (σ:={q:Bool // q=true↔(w=21∨w=22)∧o.length < 5}) (fun q=>(55,.bool q.1)::pgA np m calm l.length o.length i w) (fun _=>pgX ks x l o junk) (mkS_le (Nat.le_of_ble_eq_true rfl)) (by kernel_rfl) ?_ fun⟨q1,h1⟩=>?_
 ·clear hg hG
  show xsp _ _ _ _ _ _ (mkS (pgJ (encL kinE ks) (encL insE l) (encL (cI .i64) (o++junk)) x.w x.a x.b x.c x.n)) _
  rw [pt_1]
  by_cases b:o.length < 5
  ·simp only [show xcm .lss (o.length:Int) 5=true from t_lss (by omega)]
   by_cases a:w=21
   ·(refine zR ?_)
    exact⟨rfl,⟨true,(by constructor <;> intro h <;> (first | omega | (simp at h; done) | (simp_all; done) | (simp_all; omega)))⟩,[.id 0,.id 1,.id 2,.id 3,.id 4],by(exact zC)⟩
   ·by_cases a2:w=22
    ·(refine zR ?_)
     exact⟨rfl,⟨true,(by constructor <;> intro h <;> (first | omega | (simp at h; done) | (simp_all; done) | (simp_all; omega)))⟩,[.id 0,.id 1,.id 2,.id 3,.id 4],by(exact zC)⟩
    ·(refine zR ?_)
     exact⟨rfl,⟨false,(by constructor <;> intro h <;> (first | omega | (simp at h; done) | (simp_all; done) | (simp_all; omega)))⟩,[.id 0,.id 1,.id 2,.id 3,.id 4],by(exact zC)⟩
  ·simp only [show xcm .lss (o.length:Int) 5=false from f_lss (by omega)]
   by_cases a:w=21
   ·(refine zR ?_)
    exact⟨rfl,⟨false,(by constructor <;> intro h <;> (first | omega | (simp at h; done) | (simp_all; done) | (simp_all; omega)))⟩,[.id 0,.id 1,.id 2,.id 3,.id 4],by(exact zC)⟩
   ·by_cases a2:w=22
    ·(refine zR ?_)
     exact⟨rfl,⟨false,(by constructor <;> intro h <;> (first | omega | (simp at h; done) | (simp_all; done) | (simp_all; omega)))⟩,[.id 0,.id 1,.id 2,.id 3,.id 4],by(exact zC)⟩
    ·(refine zR ?_)
     exact⟨rfl,⟨false,(by constructor <;> intro h <;> (first | omega | (simp at h; done) | (simp_all; done) | (simp_all; omega)))⟩,[.id 0,.id 1,.id 2,.id 3,.id 4],by(exact zC)⟩
 refine SSp.code_last (by kernel_rfl) ?_
 refine SCode.ways (t:=55) (q:=q1) (by kernel_rfl) rfl (fun e1=>?_) (fun e1=>?_)
 ·have c1:=h1.1 e1
  refine SCode.vc cxPy_ok (n:=60) (mkS_le (Nat.le_of_ble_eq_true rfl)) ?_
  show xcode _ _ _ _ _ _ (mkS (pgJ (encL kinE ks) (encL insE l) (encL (cI .i64) (o++junk)) x.w x.a x.b x.c x.n)) _
  rw [pa_1]
  rw [if_neg m0,if_pos c1] at hg
  subst hg
  have p1:=kin_push1 l 17 0 0 0 0
  have p2:=pushO o junk 17
  have n3:=nI (l++[⟨17,0,0,0,0⟩])
  have n4:=nO (o++[17]++[])
  rw [List.append_nil] at n4
  simp only [wd_nat,wd_asV,wd_isV,wd_ix,wd_add,wd_mul,wd_ln,Nat.zero_add,Nat.mul_one,wd_isI,wd_asI,wd_isB,wd_asB,wd_nn,cI_tlen,cB_tlen,cII_tlen,decide_true,cond_true,wd_not_t,wd_not_f,wd_and_t,wd_and_f,p1,p2,ins_n,encIi64_len,List.length_append]
  (refine zR ?_)
  exact⟨rfl,[],[.id 0,.id 1,.id 6,.id 8],by simp only [pgS,List.length_append,List.length_singleton,List.length_cons,List.length_nil,List.append_nil,I1]; (exact zC)⟩
 have m1:¬ ((w=21∨w=22)∧o.length < 5):=fun c=>by rw [h1.2 c] at e1; cases e1
 refine SCode.of_spine0 ?_
 refine SSp.to cxPy_ok (n:=60) (g:=[]) 1 1 rfl (σ:={q:Bool // q=true↔(w=23∨w=24)∧0 < o.length}) (fun q=>(73,.bool q.1)::pgA np m calm l.length o.length i w) (fun _=>pgX ks x l o junk) (mkS_le (Nat.le_of_ble_eq_true rfl)) (by kernel_rfl) ?_ fun⟨q2,h2⟩=>?_
 ·clear hg hG
  show xsp _ _ _ _ _ _ (mkS (pgJ (encL kinE ks) (encL insE l) (encL (cI .i64) (o++junk)) x.w x.a x.b x.c x.n)) _
  rw [pt_2]
  by_cases b:0 < o.length
  ·simp only [show xcm .gtr (o.length:Int) 0=true from t_gtr (by omega)]
   by_cases a:w=23
   ·(refine zR ?_)
    exact⟨rfl,⟨true,(by constructor <;> intro h <;> (first | omega | (simp at h; done) | (simp_all; done) | (simp_all; omega)))⟩,[.id 0,.id 1,.id 2,.id 3,.id 4],by(exact zC)⟩
   ·by_cases a2:w=24
    ·(refine zR ?_)
     exact⟨rfl,⟨true,(by constructor <;> intro h <;> (first | omega | (simp at h; done) | (simp_all; done) | (simp_all; omega)))⟩,[.id 0,.id 1,.id 2,.id 3,.id 4],by(exact zC)⟩
    ·(refine zR ?_)
     exact⟨rfl,⟨false,(by constructor <;> intro h <;> (first | omega | (simp at h; done) | (simp_all; done) | (simp_all; omega)))⟩,[.id 0,.id 1,.id 2,.id 3,.id 4],by(exact zC)⟩
  ·simp only [show xcm .gtr (o.length:Int) 0=false from f_gtr (by omega)]
   by_cases a:w=23
   ·(refine zR ?_)
    exact⟨rfl,⟨false,(by constructor <;> intro h <;> (first | omega | (simp at h; done) | (simp_all; done) | (simp_all; omega)))⟩,[.id 0,.id 1,.id 2,.id 3,.id 4],by(exact zC)⟩
   ·by_cases a2:w=24
    ·(refine zR ?_)
     exact⟨rfl,⟨false,(by constructor <;> intro h <;> (first | omega | (simp at h; done) | (simp_all; done) | (simp_all; omega)))⟩,[.id 0,.id 1,.id 2,.id 3,.id 4],by(exact zC)⟩
    ·(refine zR ?_)
     exact⟨rfl,⟨false,(by constructor <;> intro h <;> (first | omega | (simp at h; done) | (simp_all; done) | (simp_all; omega)))⟩,[.id 0,.id 1,.id 2,.id 3,.id 4],by(exact zC)⟩
 refine SSp.code_last (by kernel_rfl) ?_
 refine SCode.ways (t:=73) (q:=q2) (by kernel_rfl) rfl (fun e2=>?_) (fun e2=>?_)
 ·have c2:=h2.1 e2
  refine SCode.vc cxPy_ok (n:=60) (mkS_le (Nat.le_of_ble_eq_true rfl)) ?_
  show xcode _ _ _ _ _ _ (mkS (pgJ (encL kinE ks) (encL insE l) (encL (cI .i64) (o++junk)) x.w x.a x.b x.c x.n)) _
  rw [pa_2]
  rw [if_neg m0,if_neg m1,if_pos c2] at hg
  rcases nil_snoc o with rfl | ⟨o2,y,rfl⟩
  ·simp at c2
  have le:(o2++[y]).length=o2.length+1:=by simp
  have sb:xar .sub .i64 ((o2.length+1:Nat):Int) 1=((o2.length:Nat):Int):=by rw [sub_i64 (by omega) (by omega)]; omega
  have cl:=nthO o2 y junk
  have ln:(o2++[y]++junk).length=o2.length+1+junk.length:=by simp; omega
  have hj:o2++[y]++junk=o2++(y::junk):=by simp
  have cc:xcut (encL (cI .i64) (o2++[y]++junk)) 0 o2.length=encL (cI .i64) o2:=by rw [hj]; exact cutO o2 _
  have pp:xcat (xcut (encL (cI .i64) o2) 0 o2.length) [.int .i64 18]=encL (cI .i64) (o2++[18]):=by have:=pushO o2 [] 18; rwa [List.append_nil] at this
  have p15:=kin_push1 l 15 0 0 0 0
  have p18:=kin_push1 l 18 0 0 0 0
  have p19:=kin_push1 l 19 0 0 0 0
  have n15:=nI (l++[⟨15,0,0,0,0⟩])
  have n18:=nI (l++[⟨18,0,0,0,0⟩])
  have n19:=nI (l++[⟨19,0,0,0,0⟩])
  have n4:=nO (o2++[18])
  have n5:=nO (o2++(y::junk))
  unfold shS at hg
  rw [inm_snoc,List.dropLast_concat] at hg
  simp only [wd_nat,wd_asV,wd_isV,wd_ix,wd_add,wd_mul,wd_ln,Nat.zero_add,Nat.mul_one,wd_isI,wd_asI,wd_isB,wd_asB,wd_nn,cI_tlen,cB_tlen,cII_tlen,decide_true,cond_true,wd_not_t,wd_not_f,wd_and_t,wd_and_f,le,sb,cl,encIi64_len,ln,p15,p18,p19,cc,pp,ins_n,wd_sub,Nat.sub_zero]
  by_cases y1:y=14
  ·rw [if_pos y1] at hg
   subst hg
   rw [hj]
   (refine zR ?_)
   exact⟨rfl,(y::junk),[.id 0,.id 1,.id 6,.id 3],by simp only [pgS,List.length_append,List.length_singleton,I1]; (exact zC)⟩
  rw [if_neg y1] at hg
  by_cases y2:y=17
  ·rw [if_pos y2] at hg
   subst hg
   by_cases z:o2.length=0
   ·have e2:o2=[]:=List.length_eq_zero_iff.1 z
    subst e2
    (refine zR ?_)
    exact⟨rfl,[],[.id 0,.id 1,.id 9,.id 7],by simp only [pgS,List.length_append,List.length_singleton,I1,List.append_nil]; (exact zC)⟩
   ·(refine zR ?_)
    exact⟨rfl,[],[.id 0,.id 1,.id 9,.id 7],by simp only [pgS,List.length_append,List.length_singleton,I1,List.append_nil]; (exact zC)⟩
  rw [if_neg y2] at hg
  subst hg
  rw [hj]
  (refine zR ?_)
  exact⟨rfl,(y::junk),[.id 0,.id 1,.id 6,.id 3],by simp only [pgS,List.length_append,List.length_singleton,I1]; (exact zC)⟩
 have m2:¬ ((w=23∨w=24)∧0 < o.length):=fun c=>by rw [h2.2 c] at e2; cases e2
 refine SCode.of_spine0 ?_
 refine SSp.to cxPy_ok (n:=60) (g:=[]) 1 1 rfl (σ:={q:Bool // q=true↔w=25∧0 < o.length∧inm o=14}) (fun q=>(90,.bool q.1)::pgA np m calm l.length o.length i w) (fun _=>pgX ks x l o junk) (mkS_le (Nat.le_of_ble_eq_true rfl)) (by kernel_rfl) ?_ fun⟨q3,h3⟩=>?_
 ·clear hg hG
  show xsp _ _ _ _ _ _ (mkS (pgJ (encL kinE ks) (encL insE l) (encL (cI .i64) (o++junk)) x.w x.a x.b x.c x.n)) _
  rw [pt_3]
  by_cases a:w=25
  ·rcases nil_snoc o with rfl | ⟨o2,y,rfl⟩
   ·simp only [List.length_nil]
    (refine zR ?_)
    exact⟨rfl,⟨false,(by simp)⟩,[.id 0,.id 1,.id 2,.id 3,.id 4],by(exact zC)⟩
   ·have le:(o2++[y]).length=o2.length+1:=by simp
    have sb:xar .sub .i64 ((o2.length+1:Nat):Int) 1=((o2.length:Nat):Int):=by rw [sub_i64 (by omega) (by omega)]; omega
    have cl:=nthO o2 y junk
    have ln:(o2++[y]++junk).length=o2.length+1+junk.length:=by simp; omega
    (refine zN5 @le @sb @cl @encIi64_len @ln ?_)
    by_cases b:y=14
    ·simp only [show xcm .eql y 14=true from t_eql b]
     (refine zR ?_)
     exact⟨rfl,⟨true,(by rw [inm_snoc]; simp [a,b])⟩,[.id 0,.id 1,.id 2,.id 3,.id 4],by(exact zC)⟩
    ·simp only [show xcm .eql y 14=false from f_eql b]
     (refine zR ?_)
     exact⟨rfl,⟨false,(by rw [inm_snoc]; simp [b])⟩,[.id 0,.id 1,.id 2,.id 3,.id 4],by(exact zC)⟩
  ·(refine zR ?_)
   exact⟨rfl,⟨false,(by simp [a])⟩,[.id 0,.id 1,.id 2,.id 3,.id 4],by(exact zC)⟩
 refine SSp.code_last (by kernel_rfl) ?_
 refine SCode.ways (t:=90) (q:=q3) (by kernel_rfl) rfl (fun e3=>?_) (fun e3=>?_)
 ·have c3:=h3.1 e3
  refine SCode.vc cxPy_ok (n:=60) (mkS_le (Nat.le_of_ble_eq_true rfl)) ?_
  show xcode _ _ _ _ _ _ (mkS (pgJ (encL kinE ks) (encL insE l) (encL (cI .i64) (o++junk)) x.w x.a x.b x.c x.n)) _
  rw [pa_3]
  rw [if_neg m0,if_neg m1,if_neg m2,if_pos c3] at hg
  subst hg
  have p1:=kin_push1 l 16 0 0 0 0
  have n3:=nI (l++[⟨16,0,0,0,0⟩])
  (refine zN2 @p1 @ins_n ?_)
  (refine zR ?_)
  exact⟨rfl,junk,[.id 0,.id 1,.id 6,.id 3],by simp only [pgS,List.length_append,List.length_singleton,List.length_cons,List.length_nil,I1]; (exact zC)⟩
 have m3:¬ (w=25∧0 < o.length∧inm o=14):=fun c=>by rw [h3.2 c] at e3; cases e3
 refine SCode.of_spine0 ?_
 refine SSp.to cxPy_ok (n:=60) (g:=[]) 1 1 rfl (σ:={q:Bool // q=true↔(w=26∨w=27)∧calm=false∧0 < o.length}) (fun q=>(109,.bool q.1)::pgA np m calm l.length o.length i w) (fun _=>pgX ks x l o junk) (mkS_le (Nat.le_of_ble_eq_true rfl)) (by kernel_rfl) ?_ fun⟨q4,h4⟩=>?_
 ·clear hg hG
  show xsp _ _ _ _ _ _ (mkS (pgJ (encL kinE ks) (encL insE l) (encL (cI .i64) (o++junk)) x.w x.a x.b x.c x.n)) _
  rw [pt_4]; simp only [pt_4_b1]
  cases calm
  ·simp only [wd_not_f]
   by_cases b:0 < o.length
   ·simp only [show xcm .gtr (o.length:Int) 0=true from t_gtr (by omega)]
    by_cases a:w=26
    ·(refine zR ?_)
     exact⟨rfl,⟨true,(by constructor <;> intro h <;> (first | omega | (simp at h; done) | (simp_all; done) | (simp_all; omega)))⟩,[.id 0,.id 1,.id 2,.id 3,.id 4],by(exact zC)⟩
    ·by_cases a2:w=27
     ·(refine zR ?_)
      exact⟨rfl,⟨true,(by constructor <;> intro h <;> (first | omega | (simp at h; done) | (simp_all; done) | (simp_all; omega)))⟩,[.id 0,.id 1,.id 2,.id 3,.id 4],by(exact zC)⟩
     ·(refine zR ?_)
      exact⟨rfl,⟨false,(by constructor <;> intro h <;> (first | omega | (simp at h; done) | (simp_all; done) | (simp_all; omega)))⟩,[.id 0,.id 1,.id 2,.id 3,.id 4],by(exact zC)⟩
   ·simp only [show xcm .gtr (o.length:Int) 0=false from f_gtr (by omega)]
    by_cases a:w=26
    ·(refine zR ?_)
     exact⟨rfl,⟨false,(by constructor <;> intro h <;> (first | omega | (simp at h; done) | (simp_all; done) | (simp_all; omega)))⟩,[.id 0,.id 1,.id 2,.id 3,.id 4],by(exact zC)⟩
    ·by_cases a2:w=27
     ·(refine zR ?_)
      exact⟨rfl,⟨false,(by constructor <;> intro h <;> (first | omega | (simp at h; done) | (simp_all; done) | (simp_all; omega)))⟩,[.id 0,.id 1,.id 2,.id 3,.id 4],by(exact zC)⟩
     ·(refine zR ?_)
      exact⟨rfl,⟨false,(by constructor <;> intro h <;> (first | omega | (simp at h; done) | (simp_all; done) | (simp_all; omega)))⟩,[.id 0,.id 1,.id 2,.id 3,.id 4],by(exact zC)⟩
  ·simp only [wd_not_t]
   by_cases a:w=26
   ·(refine zR ?_)
    exact⟨rfl,⟨false,(by constructor <;> intro h <;> (first | omega | (simp at h; done) | (simp_all; done) | (simp_all; omega)))⟩,[.id 0,.id 1,.id 2,.id 3,.id 4],by(exact zC)⟩
   ·by_cases a2:w=27
    ·(refine zR ?_)
     exact⟨rfl,⟨false,(by constructor <;> intro h <;> (first | omega | (simp at h; done) | (simp_all; done) | (simp_all; omega)))⟩,[.id 0,.id 1,.id 2,.id 3,.id 4],by(exact zC)⟩
    ·(refine zR ?_)
     exact⟨rfl,⟨false,(by constructor <;> intro h <;> (first | omega | (simp at h; done) | (simp_all; done) | (simp_all; omega)))⟩,[.id 0,.id 1,.id 2,.id 3,.id 4],by(exact zC)⟩
 refine SSp.code_last (by kernel_rfl) ?_
 refine SCode.ways (t:=109) (q:=q4) (by kernel_rfl) rfl (fun e4=>?_) (fun e4=>?_)
 ·have c4:=h4.1 e4
  refine SCode.vc cxPy_ok (n:=60) (mkS_le (Nat.le_of_ble_eq_true rfl)) ?_
  show xcode _ _ _ _ _ _ (mkS (pgJ (encL kinE ks) (encL insE l) (encL (cI .i64) (o++junk)) x.w x.a x.b x.c x.n)) _
  rw [pa_4]
  rw [if_neg m0,if_neg m1,if_neg m2,if_neg m3,if_pos c4] at hg
  subst hg
  have p1:=kin_push2 l 13 (wthV x.a 0 6) 0 ((l.length+2:Nat):Int) 0 20 0 0 0 0
  have n3:=nI (l++[⟨13,wthV x.a 0 6,0,((l.length+2:Nat):Int),0⟩,⟨20,0,0,0,0⟩])
  (refine zN3 @ea @p1 @ins_n ?_)
  (refine zR ?_)
  exact⟨rfl,junk,[.id 0,.id 1,.id 6,.id 3],by simp only [pgS,List.length_append,List.length_singleton,List.length_cons,List.length_nil,I1]; (exact zC)⟩
 have m4:¬ ((w=26∨w=27)∧calm=false∧0 < o.length):=fun c=>by rw [h4.2 c] at e4; cases e4
 refine SCode.of_spine0 ?_
 refine SSp.to cxPy_ok (n:=60) (g:=[]) 1 1 rfl (σ:={q:Bool // q=true↔w=28∧calm=false}) (fun q=>(135,.bool q.1)::pgA np m calm l.length o.length i w) (fun _=>pgX ks x l o junk) (mkS_le (Nat.le_of_ble_eq_true rfl)) (by kernel_rfl) ?_ fun⟨q5,h5⟩=>?_
 ·clear hg hG
  show xsp _ _ _ _ _ _ (mkS (pgJ (encL kinE ks) (encL insE l) (encL (cI .i64) (o++junk)) x.w x.a x.b x.c x.n)) _
  rw [pt_5]
  cases calm
  ·simp only [wd_not_f]
   by_cases a:w=28
   ·(refine zR ?_)
    exact⟨rfl,⟨true,(by constructor <;> intro h <;> (first | omega | (simp at h; done) | (simp_all; done) | (simp_all; omega)))⟩,[.id 0,.id 1,.id 2,.id 3,.id 4],by(exact zC)⟩
   ·(refine zR ?_)
    exact⟨rfl,⟨false,(by constructor <;> intro h <;> (first | omega | (simp at h; done) | (simp_all; done) | (simp_all; omega)))⟩,[.id 0,.id 1,.id 2,.id 3,.id 4],by(exact zC)⟩
  ·simp only [wd_not_t]
   by_cases a:w=28
   ·(refine zR ?_)
    exact⟨rfl,⟨false,(by constructor <;> intro h <;> (first | omega | (simp at h; done) | (simp_all; done) | (simp_all; omega)))⟩,[.id 0,.id 1,.id 2,.id 3,.id 4],by(exact zC)⟩
   ·(refine zR ?_)
    exact⟨rfl,⟨false,(by constructor <;> intro h <;> (first | omega | (simp at h; done) | (simp_all; done) | (simp_all; omega)))⟩,[.id 0,.id 1,.id 2,.id 3,.id 4],by(exact zC)⟩
 refine SSp.code_last (by kernel_rfl) ?_
 refine SCode.ways (t:=135) (q:=q5) (by kernel_rfl) rfl (fun e5=>?_) (fun e5=>?_)
 ·have c5:=h5.1 e5
  refine SCode.vc cxPy_ok (n:=60) (mkS_le (Nat.le_of_ble_eq_true rfl)) ?_
  show xcode _ _ _ _ _ _ (mkS (pgJ (encL kinE ks) (encL insE l) (encL (cI .i64) (o++junk)) x.w x.a x.b x.c x.n)) _
  rw [pa_5]
  rw [if_neg m0,if_neg m1,if_neg m2,if_neg m3,if_neg m4,if_pos c5] at hg
  subst hg
  have p1:=kin_push2 l 13 (wthV x.a 0 6) 0 ((l.length+2:Nat):Int) 0 20 0 0 0 0
  have n3:=nI (l++[⟨13,wthV x.a 0 6,0,((l.length+2:Nat):Int),0⟩,⟨20,0,0,0,0⟩])
  (refine zN3 @ea @p1 @ins_n ?_)
  (refine zR ?_)
  exact⟨rfl,junk,[.id 0,.id 1,.id 6,.id 3],by simp only [pgS,List.length_append,List.length_singleton,List.length_cons,List.length_nil,I1]; (exact zC)⟩
 have m5:¬ (w=28∧calm=false):=fun c=>by rw [h5.2 c] at e5; cases e5
 refine SCode.of_spine0 ?_
 refine SSp.to cxPy_ok (n:=60) (g:=[]) 1 1 rfl (σ:={q:Bool // q=true↔w=29∧calm=false}) (fun q=>(153,.bool q.1)::pgA np m calm l.length o.length i w) (fun _=>pgX ks x l o junk) (mkS_le (Nat.le_of_ble_eq_true rfl)) (by kernel_rfl) ?_ fun⟨q6,h6⟩=>?_
 ·clear hg hG
  show xsp _ _ _ _ _ _ (mkS (pgJ (encL kinE ks) (encL insE l) (encL (cI .i64) (o++junk)) x.w x.a x.b x.c x.n)) _
  rw [pt_6]
  cases calm
  ·simp only [wd_not_f]
   by_cases a:w=29
   ·(refine zR ?_)
    exact⟨rfl,⟨true,(by constructor <;> intro h <;> (first | omega | (simp at h; done) | (simp_all; done) | (simp_all; omega)))⟩,[.id 0,.id 1,.id 2,.id 3,.id 4],by(exact zC)⟩
   ·(refine zR ?_)
    exact⟨rfl,⟨false,(by constructor <;> intro h <;> (first | omega | (simp at h; done) | (simp_all; done) | (simp_all; omega)))⟩,[.id 0,.id 1,.id 2,.id 3,.id 4],by(exact zC)⟩
  ·simp only [wd_not_t]
   by_cases a:w=29
   ·(refine zR ?_)
    exact⟨rfl,⟨false,(by constructor <;> intro h <;> (first | omega | (simp at h; done) | (simp_all; done) | (simp_all; omega)))⟩,[.id 0,.id 1,.id 2,.id 3,.id 4],by(exact zC)⟩
   ·(refine zR ?_)
    exact⟨rfl,⟨false,(by constructor <;> intro h <;> (first | omega | (simp at h; done) | (simp_all; done) | (simp_all; omega)))⟩,[.id 0,.id 1,.id 2,.id 3,.id 4],by(exact zC)⟩
 refine SSp.code_last (by kernel_rfl) ?_
 refine SCode.ways (t:=153) (q:=q6) (by kernel_rfl) rfl (fun e6=>?_) (fun e6=>?_)
 ·have c6:=h6.1 e6
  refine SCode.vc cxPy_ok (n:=60) (mkS_le (Nat.le_of_ble_eq_true rfl)) ?_
  show xcode _ _ _ _ _ _ (mkS (pgJ (encL kinE ks) (encL insE l) (encL (cI .i64) (o++junk)) x.w x.a x.b x.c x.n)) _
  rw [pa_6]
  rw [if_neg m0,if_neg m1,if_neg m2,if_neg m3,if_neg m4,if_neg m5,if_pos c6] at hg
  subst hg
  have p1:=kin_push2 l 13 (wthV x.a 0 6) 0 ((l.length+2:Nat):Int) 0 22 0 0 0 0
  have n3:=nI (l++[⟨13,wthV x.a 0 6,0,((l.length+2:Nat):Int),0⟩,⟨22,0,0,0,0⟩])
  (refine zN3 @ea @p1 @ins_n ?_)
  (refine zR ?_)
  exact⟨rfl,junk,[.id 0,.id 1,.id 6,.id 3],by simp only [pgS,List.length_append,List.length_singleton,List.length_cons,List.length_nil,I1]; (exact zC)⟩
 have m6:¬ (w=29∧calm=false):=fun c=>by rw [h6.2 c] at e6; cases e6
 refine SCode.of_spine0 ?_
 refine SSp.to cxPy_ok (n:=60) (g:=[]) 1 1 rfl (σ:={q:Bool // q=true↔w=30∨w=31}) (fun q=>(171,.bool q.1)::pgA np m calm l.length o.length i w) (fun _=>pgX ks x l o junk) (mkS_le (Nat.le_of_ble_eq_true rfl)) (by kernel_rfl) ?_ fun⟨q7,h7⟩=>?_
 ·clear hg hG
  show xsp _ _ _ _ _ _ (mkS (pgJ (encL kinE ks) (encL insE l) (encL (cI .i64) (o++junk)) x.w x.a x.b x.c x.n)) _
  rw [pt_7]
  by_cases a:w=30
  ·(refine zR ?_)
   exact⟨rfl,⟨true,(by constructor <;> intro h <;> (first | omega | (simp at h; done) | (simp_all; done) | (simp_all; omega)))⟩,[.id 0,.id 1,.id 2,.id 3,.id 4],by(exact zC)⟩
  ·by_cases a2:w=31
   ·simp only [show xcm .eql w 31=true from t_eql a2]
    (refine zR ?_)
    exact⟨rfl,⟨true,(by constructor <;> intro h <;> (first | omega | (simp at h; done) | (simp_all; done) | (simp_all; omega)))⟩,[.id 0,.id 1,.id 2,.id 3,.id 4],by(exact zC)⟩
   ·simp only [show xcm .eql w 31=false from f_eql a2]
    (refine zR ?_)
    exact⟨rfl,⟨false,(by constructor <;> intro h <;> (first | omega | (simp at h; done) | (simp_all; done) | (simp_all; omega)))⟩,[.id 0,.id 1,.id 2,.id 3,.id 4],by(exact zC)⟩
 refine SSp.code_last (by kernel_rfl) ?_
 refine SCode.ways (t:=171) (q:=q7) (by kernel_rfl) rfl (fun e7=>?_) (fun e7=>?_)
 ·have c7:=h7.1 e7
  refine SCode.vc cxPy_ok (n:=60) (mkS_le (Nat.le_of_ble_eq_true rfl)) ?_
  show xcode _ _ _ _ _ _ (mkS (pgJ (encL kinE ks) (encL insE l) (encL (cI .i64) (o++junk)) x.w x.a x.b x.c x.n)) _
  rw [pa_7]
  rw [if_neg m0,if_neg m1,if_neg m2,if_neg m3,if_neg m4,if_neg m5,if_neg m6,if_pos c7] at hg
  subst hg
  have p1:=kin_push2 l 13 (wthV x.b 0 6) 0 ((l.length+2:Nat):Int) 0 (smO x.w x.a x.b x.c x.n) (smA x.w x.a x.b x.c x.n) (smB x.w x.a x.b x.c x.n) (smC x.w x.a x.b x.c x.n) (smN x.w x.a x.b x.c x.n)
  have n3:=nI (l++[⟨13,wthV x.b 0 6,0,((l.length+2:Nat):Int),0⟩,simF x.w x.a x.b x.c x.n])
  rw [sm_eta] at p1
  (refine zN3 @ea @p1 @ins_n ?_)
  (refine zR ?_)
  exact⟨rfl,junk,[.id 0,.id 1,.id 6,.id 3],by simp only [pgS,List.length_append,List.length_singleton,List.length_cons,List.length_nil]; (exact zC)⟩
 have m7:¬ (w=30∨w=31):=fun c=>by rw [h7.2 c] at e7; cases e7
 refine SCode.of_spine0 ?_
 refine SSp.to cxPy_ok (n:=60) (g:=[]) 1 1 rfl (σ:={q:Bool // q=true↔w=32∧calm=false}) (fun q=>(190,.bool q.1)::pgA np m calm l.length o.length i w) (fun _=>pgX ks x l o junk) (mkS_le (Nat.le_of_ble_eq_true rfl)) (by kernel_rfl) ?_ fun⟨q8,h8⟩=>?_
 ·clear hg hG
  show xsp _ _ _ _ _ _ (mkS (pgJ (encL kinE ks) (encL insE l) (encL (cI .i64) (o++junk)) x.w x.a x.b x.c x.n)) _
  rw [pt_8]
  cases calm
  ·simp only [wd_not_f]
   by_cases a:w=32
   ·(refine zR ?_)
    exact⟨rfl,⟨true,(by constructor <;> intro h <;> (first | omega | (simp at h; done) | (simp_all; done) | (simp_all; omega)))⟩,[.id 0,.id 1,.id 2,.id 3,.id 4],by(exact zC)⟩
   ·(refine zR ?_)
    exact⟨rfl,⟨false,(by constructor <;> intro h <;> (first | omega | (simp at h; done) | (simp_all; done) | (simp_all; omega)))⟩,[.id 0,.id 1,.id 2,.id 3,.id 4],by(exact zC)⟩
  ·simp only [wd_not_t]
   by_cases a:w=32
   ·(refine zR ?_)
    exact⟨rfl,⟨false,(by constructor <;> intro h <;> (first | omega | (simp at h; done) | (simp_all; done) | (simp_all; omega)))⟩,[.id 0,.id 1,.id 2,.id 3,.id 4],by(exact zC)⟩
   ·(refine zR ?_)
    exact⟨rfl,⟨false,(by constructor <;> intro h <;> (first | omega | (simp at h; done) | (simp_all; done) | (simp_all; omega)))⟩,[.id 0,.id 1,.id 2,.id 3,.id 4],by(exact zC)⟩
 refine SSp.code_last (by kernel_rfl) ?_
 refine SCode.ways (t:=190) (q:=q8) (by kernel_rfl) rfl (fun e8=>?_) (fun e8=>?_)
 ·have c8:=h8.1 e8
  refine SCode.vc cxPy_ok (n:=60) (mkS_le (Nat.le_of_ble_eq_true rfl)) ?_
  show xcode _ _ _ _ _ _ (mkS (pgJ (encL kinE ks) (encL insE l) (encL (cI .i64) (o++junk)) x.w x.a x.b x.c x.n)) _
  rw [pa_8]
  rw [if_neg m0,if_neg m1,if_neg m2,if_neg m3,if_neg m4,if_neg m5,if_neg m6,if_neg m7,if_pos c8] at hg
  subst hg
  have p1:=kin_push2 l (smO x.w x.a x.b x.c x.n) (smA x.w x.a x.b x.c x.n) (smB x.w x.a x.b x.c x.n) (smC x.w x.a x.b x.c x.n) (smN x.w x.a x.b x.c x.n) 13 (wthV x.b 0 6) 0 (l.length:Int) 0
  have n3:=nI (l++[simF x.w x.a x.b x.c x.n,⟨13,wthV x.b 0 6,0,(l.length:Int),0⟩])
  rw [sm_eta] at p1
  (refine zN2 @p1 @ins_n ?_)
  (refine zR ?_)
  exact⟨rfl,junk,[.id 0,.id 1,.id 6,.id 3],by simp only [pgS,List.length_append,List.length_singleton,List.length_cons,List.length_nil]; (exact zC)⟩
 have m8:¬ (w=32∧calm=false):=fun c=>by rw [h8.2 c] at e8; cases e8
 refine SCode.vc cxPy_ok (n:=60) (mkS_le (Nat.le_of_ble_eq_true rfl)) ?_
 show xcode _ _ _ _ _ _ (mkS (pgJ (encL kinE ks) (encL insE l) (encL (cI .i64) (o++junk)) x.w x.a x.b x.c x.n)) _
 rw [pa_9]
 rw [if_neg m0,if_neg m1,if_neg m2,if_neg m3,if_neg m4,if_neg m5,if_neg m6,if_neg m7,if_neg m8] at hg
 subst hg
 have p1:=kin_push1 l (smO x.w x.a x.b x.c x.n) (smA x.w x.a x.b x.c x.n) (smB x.w x.a x.b x.c x.n) (smC x.w x.a x.b x.c x.n) (smN x.w x.a x.b x.c x.n)
 have n3:=nI (l++[simF x.w x.a x.b x.c x.n])
 rw [sm_eta] at p1
 (refine zN2 @p1 @ins_n ?_)
 (refine zR ?_)
 exact⟨rfl,junk,[.id 0,.id 1,.id 6,.id 3],by simp only [pgS,List.length_append,List.length_singleton,List.length_cons,List.length_nil]; (exact zC)⟩
end
end Go.Lev
