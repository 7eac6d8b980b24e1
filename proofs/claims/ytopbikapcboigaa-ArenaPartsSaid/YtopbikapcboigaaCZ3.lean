/- chapter 11: a function's entrance told as a lesser state; Take of a row that is written out -/
import Derived.Test.YtopbikapcboigaaCZ2
import Derived.Test.YtopbikapcboigaaLc
import Derived.Test.YtopbikapcboigaaChecked
import Derived.KernelRfl
namespace Go.Lev
set_option linter.unusedSimpArgs false
set_option linter.unusedVariables false
open Go.RowKit
open Go.Proofs.Try (prog)
set_option maxRecDepth 100000
noncomputable section
theorem SFun.sub {P:Program} {f:Nat} {args args0:List LV} {s s0:St} {Q:LV→St→Prop} {ρ : Srcs} (h:Sub s.n ρ s s0) (hv:LVWs ρ args0 args) (k:SFun P f args0 s0 Q):SFun P f args s Q:=by
 intro W0 r w us hI hvs
 obtain⟨h1,h2⟩:=hI.sub h
 exact(k W0 (ρ.ren r) w us h1 (LVWs.sound hv hvs)).mono fun e w' ⟨l,s',v,r',q,he,hu,hi,hE⟩=>⟨l,s',v,r',q,he,hu,hi,ExtB.ext hI (h2.trans (ExtB.of hE h.n))⟩
theorem mkS_hfr {bs:List LB} {g:Glb}:∀ b,(mkS bs g).n≤b→(mkS bs g).h.get b=none:=fun b hb=>by rw [mkS_n] at hb; rw [mkS_get,List.getElem?_eq_none hb]
abbrev cL2 (a x b y:Int):List LV:=[.int .i64 a,.int .u64 x,.int .i64 b,.int .u64 y]
abbrev vtH2 (sz n:Nat) (kc sc:List LV) (nd most:Int) (d:Nat) (cs c:List LV):List LB:=[.cells [.slo 1 0 n 0,.slo 2 0 sz 0,.int .i64 nd,.ptr 3 0] none,.cells kc (some 2),.cells sc (some 1),.cells [.int .i64 most,.slo 4 0 d 0] none,.obj lvF cs 5,.dead,.cells c none]
abbrev vtH3 (sz n:Nat) (kc sc:List LV) (nd most:Int) (d:Nat) (cs c:List LV):List LB:=[.cells [.slo 1 0 n 0,.slo 2 0 sz 0,.int .i64 nd,.ptr 3 0] none,.cells kc (some 2),.cells sc (some 1),.cells [.int .i64 most,.slo 4 0 d 0] none,.obj lvF cs 5,.dead,.dead,.cells c (some 2)]
abbrev vtO3 (sz n:Nat) (kc sc:List LV) (nd most:Int) (d:Nat) (cs c:List LV):List LB:=[.cells [.slo 1 0 n 0,.slo 2 0 sz 0,.int .i64 nd,.ptr 3 0] none,.cells kc (some 2),.cells sc (some 1),.cells [.int .i64 most,.slo 4 0 d 0] none,.obj lvF cs 8,.dead,.dead,.cells c (some 2),.dead]
def laid (o:Option St):St:=o.getD (mkS [])
def vtS3 (sz n:Nat) (kc sc:List LV) (nd most:Int) (d:Nat) (cs c:List LV):St:=laid ((mkS (vtH3 sz n kc sc nd most d cs c)).lay [0,1,2,3,4,5,7] [.cells [.slo 1 0 n 0,.slo 2 0 sz 0,.int .i64 nd,.ptr 3 0] none,.cells kc (some 2),.cells sc (some 1),.cells [.int .i64 most,.slo 4 0 (vtDW sz most cs c) 0] none,.obj lvF (vtCW sz most cs c) 8,.dead,.cells c (some 2)] [.dead])
theorem vt3_c (sz n nc:Nat) (kc sc:List LV) (nd most:Int) (d:Nat) (cs c:List LV) (k1:okK sz n kc=true) (k2:eqL sc (spW sz kc)=true) (k3:okR most cs d=true) (k4:okC c nc=true) (k5:xle nc 800000=true):SFun prog 46 [.ptr 0 0,.slo 7 0 nc 0] (mkS (vtH3 sz n kc sc nd most d cs c)) fun l t=>l=.int .i64 (vtEW sz most cs c)∧t=mkS (vtO3 sz n kc sc nd most (vtDW sz most cs c) (vtCW sz most cs c) c):=by
 have no:noIds kc=true:=okK_noids k1
 have no2:noIds sc=true:=by rw [eqL_eq k2]; exact spW_noids _ _
 have no3:noIds c=true:=noids_ok k4
 have hb:allT [okK sz n kc,eqL sc (spW sz kc),okR most cs d,okC c nc,xle nc 800000,isF lvF lvF]:=by
  simp only [allT_cons]
  exact⟨k1,k2,k3,k4,k5,isF_self lvF,fun b h=>by cases h⟩
 have hg:vtkG [.ptr 0 0,.slo 7 0 nc 0] (mkS (vtH3 sz n kc sc nd most d cs c))=some ([okK sz n kc,eqL sc (spW sz kc),okR most cs d,okC c nc,xle nc 800000,isF lvF lvF],.int .i64 (vtEW sz most cs c),vtS3 sz n kc sc nd most d cs c):=by kernel_rfl
 refine SFun.conv (vtkG_ok _ _ _ _ _ hg hb mkS_hfr) fun l s' ⟨e1,e2⟩=>?_
 subst e1 e2
 refine⟨_,vtO3 sz n kc sc nd most (vtDW sz most cs c) (vtCW sz most cs c) c,[.id 0,.id 1,.id 2,.id 3,.id 4,.id 5,.id 6,.id 7,.id 8],⟨rfl,congrArg (fun g=>mkS (vtO3 sz n kc sc nd most (vtDW sz most cs c) (vtCW sz most cs c) c) g) (by kernel_rfl)⟩,?_⟩
 rw [show blksOf (vtS3 sz n kc sc nd most d cs c)=[sN [.slo 1 0 n 0,.slo 2 0 sz 0,.int .i64 nd,.ptr 3 0],sC kc 2,sC sc 1,sN [.int .i64 most,.slo 4 0 (vtDW sz most cs c) 0],some (.obj lvF (vtCW sz most cs c) 8),sD,sD,sC c 2,sD] from by kernel_rfl]
 (exact zC)
theorem vt2_c (sz n:Nat) (kc sc:List LV) (nd most:Int) (d:Nat) (cs:List LV) (a x b y:Int) (k1:okK sz n kc=true) (k2:eqL sc (spW sz kc)=true) (k3:okR most cs d=true):SFun prog 46 [.ptr 0 0,.sl 6 0 2 2] (mkS (vtH2 sz n kc sc nd most d cs (cL2 a x b y))) fun l t=>l=.int .i64 (vtEW sz most cs (cL2 a x b y))∧t=mkS (vtO3 sz n kc sc nd most (vtDW sz most cs (cL2 a x b y)) (vtCW sz most cs (cL2 a x b y)) (cL2 a x b y)):=by
 have no:noIds kc=true:=okK_noids k1
 have no2:noIds sc=true:=by rw [eqL_eq k2]; exact spW_noids _ _
 have k4:okC (cL2 a x b y) 2=true:=okC_enc (xs:=[(a,x),(b,y)]) (by simp)
 refine SFun.sub (ρ:=lsrc [.id 0,.id 1,.id 2,.id 3,.id 4,.id 5,.id 6,.cap 6 0 2]) (s0:=mkS (vtH3 sz n kc sc nd most d cs (cL2 a x b y))) (args0:=[.ptr 0 0,.slo 7 0 2 0]) ?_ (lws_cons (lw_ptr rfl) (lws_cons (lw_cap rfl (Nat.le_refl _)) lws_nil)) (vt3_c sz n 2 kc sc nd most d cs (cL2 a x b y) k1 k2 k3 k4 (t_le (by omega)))
 refine @Sub.of_ok _ 1 [] [] _ [] _ _ mkS_hfr ?_
 show convOk 7 1 [] [] [sN [.slo 1 0 n 0,.slo 2 0 sz 0,.int .i64 nd,.ptr 3 0],sC kc 2,sC sc 1,sN [.int .i64 most,.slo 4 0 d 0],some (.obj lvF cs 5),sD,sN (cL2 a x b y)] _ [] _
 (exact zD)
end
end Go.Lev
