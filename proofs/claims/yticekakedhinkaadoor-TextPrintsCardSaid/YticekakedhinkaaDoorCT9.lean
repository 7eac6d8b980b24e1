/- text: TextPrints (P16.3): for any program, however ill, and any program made of the given bytes, text.Print and the document's own Print answer the same. Condition: the listed package-level variables hold what the program's text lays. -/
import Derived.Test.YticekakedhinkaaDoorCT8
import Derived.Test.YticekakedhinkaaDoorLc
import Derived.Test.YticekakedhinkaaDoorChecked
import Derived.KernelRfl
import Derived.Test.YticekakedhinkaaDoorLc
import Derived.Test.YticekakedhinkaaDoorLc
import Derived.Test.YticekakedhinkaaDoorRows
import Derived.Lib.LaidTab
namespace Go.Lev
set_option linter.unusedSimpArgs false
set_option linter.unusedVariables false
open Go.RowKit
open Go.Proofs.Tryd (prog)
set_option maxRecDepth 100000
noncomputable section
theorem cxTP_ok:CtrOk prog (ctrOf cxTP):=cxl_ok ⟨rnG_ok,prtA_ok,prtB_ok,trivial⟩
def nrI (x:Int):InsR:=⟨xar .add .i64 1 (xar .rem .i64 (xwr .i64 x) 22),xar .rem .i64 (xwr .i64 x) 9,0,xar .rem .i64 (xar .quo .i64 (xwr .i64 x) 4) 42,0⟩
instance (x:InsR):Decidable (ins_bd x):=by unfold ins_bd; infer_instance
theorem nrI_all:∀ m:Fin 256,ins_bd (nrI (m.1:Int)):=by decide +kernel
theorem nrI_bd {x:Int} (h:0≤x∧x≤255):ins_bd (nrI x):=by
 obtain⟨m,rfl⟩:=Int.eq_ofNat_of_zero_le h.1
 exact nrI_all ⟨m,by omega⟩
def mkM (xs:List Int) (i:Nat):List InsR:=(xs.take i).map nrI
theorem mkM_len {xs:List Int} {i:Nat} (h:i≤xs.length):(mkM xs i).length=i:=by simp [mkM]; omega
theorem mkM_push {xs:List Int} {i:Nat} (h:i < xs.length):xcat (xcut (encL insE (mkM xs i)) 0 (i * 5)) [.int .i64 (xar .add .i64 1 (xar .rem .i64 (xwr .i64 xs[i]) 22)),.int .i64 (xar .rem .i64 (xwr .i64 xs[i]) 9),.int .i64 0,.int .i64 (xar .rem .i64 (xar .quo .i64 (xwr .i64 xs[i]) 4) 42),.int .u64 0]=encL insE (mkM xs (i+1)):=by
 rw [xcut_all (by rw [ins_n,mkM_len (by omega)]; exact Nat.le_refl _)]
 unfold mkM
 rw [List.take_add_one,List.getElem?_eq_getElem h]
 simp only [Option.toList_some,List.map_append,List.map_cons,List.map_nil,encL_append]
 rfl
theorem str_self (s:List UInt8):xstr .eql s s=true:=by show(s == s)=true; simp
theorem u8_noids (xs:List Int):noIds (encL (cI .u8) xs)=true:=noIds_encL (fun _=>rfl) xs
theorem u8_len (xs:List Int):(encL (cI .u8) xs).length=xs.length:=by rw [encL_length (cI_len .u8)]; omega
theorem u8_nth {xs:List Int} {i:Nat} (h:i < xs.length):nthD (encL (cI .u8) xs) i=.int .u8 xs[i]:=by
 have:=encL_nth (cI_len .u8) (j:=0) h (by omega)
 rw [Nat.mul_one,Nat.add_zero] at this
 exact this
set_option maxHeartbeats 4000000 in
theorem prints_fun (L:List InsR) (xs:List Int) (n k:Nat) (en:L.length=n) (ek:xs.length=k) (hn:n≤9223372036854775807) (hk:k≤9223372036854775807) (hL:∀ x∈L,ins_bd x) (hb:∀ y∈xs,0≤y∧y≤255) :
  SFun prog 4 [.slo 0 0 n 0,.slo 1 0 k 0] (mkS [.ro (encL insE L),.ro (encL (cI .u8) xs)] gt4) fun l _=>l=.bool true:=by
 subst en ek
 refine SFun.mono (SFun.pieces (Q:=fun l _=>l=.bool true) 57 2 tpL [4] (by kernel_rfl) rfl rfl rfl ?_) fun l s' ⟨b0,h1,_⟩=>h1
 have nl:noIds (encL insE L)=true:=ins_noids L
 have nx:=u8_noids xs
 have f1:=isFt_self
 have k1:okI5 L.length (encL insE L)=true:=okI5_iff.2 ⟨L,rfl,rfl,hL⟩
 refine SSp.to cxTP_ok (n:=40) (g:=gt4) 7 7 rfl (σ:={_u:Unit // xs.length≤60}) (fun _=>tpT L.length xs.length 0) (fun _=>tpH (encL insE L) (encL (cI .u8) xs) (encL insE (mkM xs 0))) (mkS_le (Nat.le_of_ble_eq_true rfl)) (by kernel_rfl) ?_ fun⟨_,h60⟩=>?_
 ·rw [tp_a,f1]
  by_cases c1:60 < L.length
  ·(refine zR ?_)
   exact⟨trivial,rfl,.bool true,[.ro _,.ro _],[.id 0,.id 1],rfl,by(exact zC)⟩
  ·by_cases c2:60 < xs.length
   ·(refine zR ?_)
    exact⟨trivial,rfl,.bool true,[.ro _,.ro _],[.id 0,.id 1],rfl,by(exact zC)⟩
   ·(refine zR ?_)
    exact⟨rfl,⟨(),by omega⟩,[.id 0,.id 1,.none],by(exact zC)⟩
 refine SSp.code_to (g:=gt4) 8 rfl (σ:=Unit) (fun _=>tpT L.length xs.length xs.length) (fun _=>tpH (encL insE L) (encL (cI .u8) xs) (encL insE (mkM xs xs.length))) (by kernel_rfl) ?_ fun _=>?_
 ·refine SCode.loop_vc cxTP_ok (n:=40) 0 (by kernel_rfl) (σ:={i:Nat // i≤xs.length}) (fun i=>tpT L.length xs.length i.1) (fun i=>tpH (encL insE L) (encL (cI .u8) xs) (encL insE (mkM xs i.1))) (fun i=>xs.length - i.1) (fun _=>Nat.le_of_ble_eq_true rfl) (fun⟨i,hi⟩=>?_) ⟨0,by omega⟩
  dsimp only
  have n1:=ins_noids (mkM xs i)
  have n2:=ins_noids (mkM xs (i+1))
  have lm:=mkM_len hi
  have lx:=u8_len xs
  rw [tp_l]
  by_cases hlt:i < xs.length
  ·have c0:=u8_nth hlt
   have i1:xar .add .i64 (i:Int) 1=((i+1:Nat):Int):=inc_i64 hlt (by omega)
   have e:=mkM_push hlt
   (refine zN6 @c0 @lx @lm @ins_n @i1 @e ?_)
   (refine zR ?_)
   exact⟨rfl,⟨i+1,hlt⟩,by simp only; omega,[.id 0,.id 1,.id 4],by(exact zC)⟩
  ·obtain rfl:i=xs.length:=by omega
   (refine zR ?_)
   exact⟨rfl,(),[.id 0,.id 1,.id 2],by(exact zC)⟩
 have nm:=ins_noids (mkM xs xs.length)
 have k2:okI5 xs.length (encL insE (mkM xs xs.length))=true:=okI5_iff.2 ⟨_,rfl,mkM_len (Nat.le_refl _),fun x hx=>by
  simp only [mkM,List.take_length,List.mem_map] at hx
  obtain⟨y,hy,rfl⟩:=hx
  exact nrI_bd (hb y hy)⟩
 have es:=str_self
 refine SSp.last cxTP_ok (n:=40) (mkS_le (Nat.le_of_ble_eq_true rfl)) ?_
 rw [tp_z,f1,k1,k2,es,es]
 exact⟨trivial,rfl,.bool true,[.ro _,.ro _],[.id 0,.id 1],rfl,by(exact zC)⟩
def gtab:Glb:=[(4,flatD Go.Proofs.YticekakedhinkaaDoor.Rows.laid_math_bits_deBruijn32tab),(5,flatD Go.Proofs.YticekakedhinkaaDoor.Rows.laid_math_bits_deBruijn64tab),(3,flatD Go.Proofs.YticekakedhinkaaDoor.Rows.laid_internal_strconv_uint64pow10),(0,formsL),(2,callsL),(1,namesL)]
theorem gt4_of {W:World} (hg:Gl W gtab) (hp:powF W):Gl W gt4:=fun x hx=>by
 rcases List.mem_cons.1 hx with h | hx
 ·exact hg x (by rw [h]; exact .tail _ (.tail _ (.tail _ (.head _))))
 rcases List.mem_cons.1 hx with h | hx
 ·exact hg x (by rw [h]; exact .tail _ (.tail _ (.tail _ (.tail _ (.head _)))))
 rcases List.mem_cons.1 hx with h | hx
 ·exact hg x (by rw [h]; exact .tail _ (.tail _ (.tail _ (.tail _ (.tail _ (.head _))))))
 rcases List.mem_cons.1 hx with h | hx
 ·exact .inl ⟨powF,by rw [h],hp⟩
 ·cases hx
theorem tab_third {P:Program} {W:World} {ps:List MemPlace} {n0 n1 name:String} {d0 d1:DataW Unit} {k:IntKind} {zs:List Int} {rest:List (String×DataW Unit)} {g:Nat} {t e:TypeId} {n:Nat}
  (hg:P.globalNamed name=some g) (hty:(P.globals[g]?).map (·.type)=some t) (ht:P.underlying t=some (.array n e)) (he:P.underlying e=some (.int k)) (hce:P.cellsOf e=1) (hct:P.cellsOf t=n)
  (h:DataW.LaidVars P W ((n0,d0)::(n1,d1)::(name,Lib.tabData k zs)::rest) ps):Lib.TabIs P W name k zs:=by
 obtain⟨_,_,_,_,_,_,_,_,_,_,h,_⟩:=h
 obtain⟨_,_,_,_,_,_,_,_,_,_,h,_⟩:=h
 obtain⟨g',t',cs,fuel,p,q,hg',ht',hvar,hd,_,_⟩:=h
 obtain rfl:=Option.some.inj (hg.symm.trans hg')
 obtain rfl:=Option.some.inj (hty.symm.trans ht')
 unfold Lib.TabIs
 rw [hvar,← Lib.cells_of_tab ht he hce hct hd]
theorem prints_any {H:Type} {enc:TypeId×Value→H} {W:World} {a1:Option Addr} {len1 cap1:Nat} {d1:DataW H} {p1:List MemPlace} {a2:Option Addr} {len2 cap2:Nat} {d2:DataW H} {p2:List MemPlace}
  (hg:Gl W gtab) (hp:Lib.TabIs prog W "internal/strconv.uint64pow10" .u64 Lib.pow10Tab)
  (h1:DataW.Trod enc prog W 0 (fun _=>true) true 22 (.slice a1 len1 cap1) d1 p1) (h2:DataW.Trod enc prog W 0 (fun _=>true) true 33 (.slice a2 len2 cap2) d2 p2) :
  Calls prog 4 #[.slice a1 len1 cap1,.slice a2 len2 cap2] W fun e W'=>e=.returned (.bool true)∧Below W.heap.size W W':=by
 obtain⟨L,e1,n1,q1,r1⟩:=ins_row h1
 obtain⟨xs,e2,n2,q2,r2⟩:=row_arg (f:=cI .u8) (ok:=fun y:Int=>IntKind.u8.min≤y∧y≤IntKind.u8.max) (cI_len .u8) (by omega) Go.Proofs.Tryd.underlying33 (by kernel_rfl) h2 (el_int Go.Proofs.Tryd.underlying5)
 refine SFun.top (rows:=[(.slice a1 len1 cap1,len1,encL insE L),(.slice a2 len2 cap2,len2,encL (cI .u8) xs)]) (g:=gt4) (us:=[.slice a1 len1 cap1,.slice a2 len2 cap2]) ⟨r1,r2,trivial⟩ (gt4_of hg hp) (fun r h=>?_) (prints_fun L xs len1 len2 e1 e2 n1 n2 q1 (fun y hy=>q2 y hy))
 simp only [VRs,VR]
 exact⟨_,_,rfl,h 0 _ _ _ rfl,_,_,rfl,h 1 _ _ _ rfl,rfl⟩
theorem pow_tab {W:World} {ps:List MemPlace} (hl:DataW.LaidVars prog W Go.Proofs.YticekakedhinkaaDoor.Rows.textPrintsRow.laid ps):Lib.TabIs prog W "internal/strconv.uint64pow10" .u64 Lib.pow10Tab:=by
 refine tab_third (P:=prog) (ps:=ps) (n0 := "math/bits.deBruijn32tab") (n1 := "math/bits.deBruijn64tab") (d0:=Go.Proofs.YticekakedhinkaaDoor.Rows.laid_math_bits_deBruijn32tab) (d1:=Go.Proofs.YticekakedhinkaaDoor.Rows.laid_math_bits_deBruijn64tab) (rest:=[("quietus/code.forms",Go.Proofs.YticekakedhinkaaDoor.Rows.laid_quietus_code_forms),("quietus/code.calls",Go.Proofs.YticekakedhinkaaDoor.Rows.laid_quietus_code_calls),("quietus/quietusref13.names",Go.Proofs.YticekakedhinkaaDoor.Rows.laid_quietus_quietusref13_names)]) (g:=3) (t:=114) (e:=28) (n:=20) (by kernel_rfl) (by kernel_rfl) (by kernel_rfl) (by kernel_rfl) (by kernel_rfl) (by kernel_rfl) ?_
 have e:Go.Proofs.YticekakedhinkaaDoor.Rows.textPrintsRow.laid=[("math/bits.deBruijn32tab",Go.Proofs.YticekakedhinkaaDoor.Rows.laid_math_bits_deBruijn32tab),("math/bits.deBruijn64tab",Go.Proofs.YticekakedhinkaaDoor.Rows.laid_math_bits_deBruijn64tab),("internal/strconv.uint64pow10",Lib.tabData .u64 Lib.pow10Tab),("quietus/code.forms",Go.Proofs.YticekakedhinkaaDoor.Rows.laid_quietus_code_forms),("quietus/code.calls",Go.Proofs.YticekakedhinkaaDoor.Rows.laid_quietus_code_calls),("quietus/quietusref13.names",Go.Proofs.YticekakedhinkaaDoor.Rows.laid_quietus_quietusref13_names)]:=by kernel_rfl
 rw [e] at hl
 exact hl
end
end Go.Lev
