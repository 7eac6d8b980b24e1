import Derived.Test.YtnkkkihgljbllaaDoorLc
import Derived.Test.YtnkkkihgljbllaaDoorChecked
import Derived.KernelRfl
import Derived.Lib.ItoaNum
import Derived.Test.YtnkkkihgljbllaaDoorSh
import Derived.Lib.AppendIntMem
/- the reference's Decimal: the numeral -/
namespace Go.Lev
set_option linter.unusedSimpArgs false
set_option linter.unusedVariables false
open Go.RowKit
open Go.Proofs.Tryd (prog)
set_option maxRecDepth 100000
noncomputable section
theorem Nj (n:Int) (K:Pk):(bc prog (fun _=>none) 40 22 (bS (sp prog 17) 0 2) (cO [.int .u64 n]) (ai []) (vK [0,2,3] K))=(
 K .normal [.int .u64 n,.str [],.sl 0 0 1 1] [sN [.int .u8 (ay .u8 (au .add .u64 48 (au .rem .u64 n 10)))]] []):=ak
theorem Nk (m:Int) (k:Nat) (cs:al) (K:Pk):(aX prog (fun _=>none) 40 22 (ce (bi (sp prog 17) 2)) (aF 22 [(0,.int .u64 m),(3,.slo 0 0 k 0)]) (ai [.cells cs (some 1)]) (vK [0,2,3] K))=(
 cond (ad .geq m 10) (ck (ag (aa 0 (aJ k 1)) (aG cs)) <|
 cond (ag (aa 1 k) 1) (ck (ag (aa 1 (aG (bf cs 0 (aJ k 1)))) 1) <|
 K .normal [.int .u64 (au .quo .u64 m 10),.any,.sl 1 0 (aa 1 k) 1] [sC cs 1,sN (gt [.int .u8 (ay .u8 (au .add .u64 48 (au .rem .u64 (au .quo .u64 m 10) 10)))] 1 (bf cs 0 (aJ k 1)))] []) (ck (ag (aa 1 k) 1000000) <|
 K .normal [.int .u64 (au .quo .u64 m 10),.any,.slo 2 0 (aa 1 k) 0] [sC cs 1,sN [.int .u8 (ay .u8 (au .add .u64 48 (au .rem .u64 (au .quo .u64 m 10) 10)))],sC (bM [.int .u8 (ay .u8 (au .add .u64 48 (au .rem .u64 (au .quo .u64 m 10) 10)))] (bf cs 0 (aJ k 1))) 1] [])) (K (.exit 0) [.int .u64 m,.any,.slo 0 0 k 0] [sC cs 1] [])):=ak
theorem Nl (k:Nat) (cs:al) (K:Pk):(bc prog (fun _=>none) 40 22 ((sp prog 17).drop 3) (aF 22 [(3,.slo 0 0 k 0)]) (ai [.cells cs (some 1)]) (vK [0,2,3] K))=(
 ck (ag (aa 0 (aJ k 1)) (aG cs)) <|
 ck (ph (bf cs 0 (aJ k 1))) <|
 K .ret [.any,.str (kD (bf cs 0 (aJ k 1))),.slo 0 0 k 0] [sC cs 1] []):=ak
theorem Dy:∀ (k u:Nat),u < 10 ^ (k+1)→Lib.nDigits u≤k+1
 | 0,u,h=>by rw [Lib.nDigits_small pN]; omega
 | k+1,u,h=>by
   by_cases c:u < 10
   ·rw [Lib.nDigits_small c]; omega
   ·rw [Lib.nDigits_big c];have:=Dy k (u / 10) (by rw [Nat.pow_succ] at h; omega);omega
def aE (n:Int):ap:=Lib.decDigits n.toNat
theorem xV (u:Nat):aE (u:Int)=Lib.decDigits u:=by rw [aE,kI]
theorem mg {n:Int} (h0:0≤n) (h1:n≤18446744073709551615):(aE n).length≤20:=by
 rw [aE,Lib.decDigits_length];exact Dy 19 _ ab
abbrev oc (xs:List Int):ap:=xs.map fun x=>UInt8.ofNat x.toNat
theorem LE:∀ xs:List Int,kD (aj (cI .u8) xs)=oc xs
 | []=>rfl
 | x::r=>by
   show UInt8.ofNat x.toNat::kD (aj (cI .u8) r)=_;rw [LE r]; rfl
theorem KD:∀ xs:List Int,ph (aj (cI .u8) xs)=true
 | []=>rfl
 | x::r=>by
   have:=KD r;simp only [ph] at this;simp only [ph,aj,cI,lq,lU,List.all_cons,this,a7,Bool.and_true];rfl
def nZ (m:Nat):ap:=if m < 10 then [] else Lib.decDigits (m / 10)
theorem Jq (m:Nat):Lib.decDigits m=nZ m++[UInt8.ofNat (48+m % 10)]:=by
 unfold nZ;by_cases c:m < 10
 ·rw [aB c,Lib.decDigits_one c,Nat.mod_eq_of_lt c]; rfl
 ·rw [av c,Lib.decDigits,dif_neg c]
theorem IW (m:Nat):ay .u8 (au .add .u64 48 (au .rem .u64 (m:Int) 10))=((48+m % 10:Nat):Int):=by
 rw [AI _ _ _ ab,Int.tmod_eq_emod_of_nonneg ab,ES,lS ab ab];exact(JK ab ab).trans ab
theorem V6 (m:Nat) (h:m≤18446744073709551615):au .quo .u64 (m:Int) 10=((m / 10:Nat):Int):=by
 rw [JM _ _ _ ab,Int.tdiv_eq_ediv_of_nonneg ab,lS ab ab];omega
theorem Qa (N:Nat) (hN:N≤18446744073709551615):a0j prog 17 [.int .u64 (N:Int)] (ai []) fun l s=>l=.str (aE (N:Int))∧s=ai []:=by
 refine a0j.mono (a0j.i3y (Q:=fun l b=>l=.str (aE (N:Int))∧b=[]) 22 0 [0,2,3] [2] ak rfl rfl rfl ?_) fun l s' ⟨b0,⟨h1,h2⟩,h3⟩=>⟨h1,by rw [h3,h2]⟩
 have hlen:∀ (m:Nat) (xs:List Int),Lib.decDigits N=nZ m++oc xs→xs.length≤20:=fun m xs h=>by
  have h1:=congrArg List.length h;have h2:=mg (n:=(N:Int)) ab ab;rw [xV] at h2;simp only [cg,oc,ii] at h1;omega
 refine SSp.to cJ (n:=40) (g:=[]) 2 2 rfl (σ:={p:Nat×List Int // p.1≤N∧1≤p.2.length∧Lib.decDigits N=nZ p.1++oc p.2}) (fun p=>[(0,.int .u64 (p.1.1:Int)),(3,.slo 0 0 p.1.2.length 0)]) (fun p=>[.cells (aj (cI .u8) p.1.2) (some 1)]) (bk _) ak ?_ fun⟨⟨m0,xs0⟩,hm0,hx0,he0⟩=>?_
 ·have n1:a1u (aj (cI .u8) [((48+N % 10:Nat):Int)])=true:=rfl;rw [Nj,IW];exact⟨rfl,⟨(N,[((48+N % 10:Nat):Int)]),aR _,aR _,by rw [Jq]; simp only [oc,lp,List.map_nil,kI]⟩,[.cap 0 0 1],by dsimp only; rw [show aj (cI .u8) [((48+N % 10:Nat):Int)]=[.int .u8 ((48+N % 10:Nat):Int)] from rfl]; (exact zD)⟩
 refine SSp.code_to (g:=[]) 3 rfl (σ:={xs:List Int // 1≤xs.length∧Lib.decDigits N=oc xs}) (fun xs=>[(3,.slo 0 0 xs.1.length 0)]) (fun xs=>[.cells (aj (cI .u8) xs.1) (some 1)]) ak ?_ fun⟨xs,hx,he⟩=>?_
 ·refine a0n.i3g cJ (n:=40) (n0:=0) 0 ak (σ:={p:Nat×List Int // p.1≤N∧1≤p.2.length∧Lib.decDigits N=nZ p.1++oc p.2}) (fun p=>[(0,.int .u64 (p.1.1:Int)),(3,.slo 0 0 p.1.2.length 0)]) (fun p=>[.cells (aj (cI .u8) p.1.2) (some 1)]) (fun p=>p.1.1) (fun _=>bk _) (fun⟨⟨m,xs⟩,hm,hx,he⟩=>?_) ⟨(m0,xs0),hm0,hx0,he0⟩;dsimp only;have hx:1≤xs.length:=hx;have hm:m≤N:=hm;have he:Lib.decDigits N=nZ m++oc xs:=he;have nx:a1u (aj (cI .u8) xs)=true:=iu (fun _=>rfl) _;have hl:=hlen m xs he;have ll:(aj (cI .u8) xs).length=xs.length:=by rw [iW (w:=1) (fun _=>rfl)]; omega
  rw [Nk,V6 m ab,IW];by_cases c:10≤m
  ·have hc:bf (aj (cI .u8) xs) 0 xs.length=aj (cI .u8) xs:=j0 ab;have e1:m / 10≤N:=ab;have nx2:a1u (aj (cI .u8) (((48+m / 10 % 10:Nat):Int)::xs))=true:=iu (fun _=>rfl) _;have ec:bM [.int .u8 ((48+m / 10 % 10:Nat):Int)] (aj (cI .u8) xs)=aj (cI .u8) (((48+m / 10 % 10:Nat):Int)::xs):=rfl;have he2:Lib.decDigits N=nZ (m / 10)++oc (((48+m / 10 % 10:Nat):Int)::xs):=by
    rw [he];have:nZ m=nZ (m / 10)++[UInt8.ofNat (48+m / 10 % 10)]:=by rw [← Jq]; unfold nZ; rw [av ab]
    rw [this,mW];simp only [oc,lp,kI,lq,lU]
   have k1:ag (1+xs.length) 1=false:=by rw [xB]; exact decide_eq_false ab
   have k2:ag (1+xs.length) 1000000=true:=aO ab;have e7:1+xs.length=xs.length+1:=ab;simp only [ct,fj,fm,cC,bP,cm,b_,bV,cU,cz,cf,fk,fi,eA,fo,dS,fp,bD,aw,ej,eh,fr,fq,hc,ll,ec,k1,k2]
   (refine zR ?_)
   exact⟨rfl,⟨(m / 10,((48+m / 10 % 10:Nat):Int)::xs),e1,aC,he2⟩,by simp only; omega,[.id 2],by dsimp only; rw [cZ,← e7]; (exact zC)⟩
  ·(refine zR ?_)
   exact⟨rfl,⟨xs,hx,by rw [he]; unfold nZ; rw [aB ab]; rfl⟩,[.id 0],by dsimp only; (exact zC)⟩
 ·have hl:xs.length≤20:=by
   have h2:=mg (n:=(N:Int)) ab ab;rw [xV,he] at h2;simpa [oc] using h2
  have ll:(aj (cI .u8) xs).length=xs.length:=by rw [iW (w:=1) (fun _=>rfl)]; omega
  have hc:bf (aj (cI .u8) xs) 0 xs.length=aj (cI .u8) xs:=j0 ab;have h8:=KD xs;refine SSp.last cJ (n:=40) (bk _) ?_;rw [Nl]
  (refine Gb @hc @ll @h8 @LE ?_)
  (refine zR ?_)
  exact⟨trivial,rfl,_,_,[],⟨by rw [xV,he],rfl⟩,by(exact zC)⟩
end
end Go.Lev
/- strconv.FormatUint in tens: the numeral -/
namespace Go.Lev
set_option linter.unusedSimpArgs false
set_option linter.unusedVariables false
open Go.RowKit Go.Proofs Go.Shelf Go.Sort
abbrev uN (w:World):Prop:=Lib.TabIs Go.Proofs.Tryd.prog w "internal/strconv.uint64pow10" .u64 Lib.pow10Tab
theorem VW (w:World) (o:Obj) (dk:Array UInt8) (k:Nat):Below w.heap.size w ((putRow (fun(b:UInt8)=>Value.int .u8 (b.toNat:Int)) (w.alloc o) w.heap.size 0 dk).drewN k):=by
 rw [alloc_eq_grow];obtain⟨os',_,e⟩:=putRow_grow_new (fun(b:UInt8)=>Value.int .u8 (b.toNat:Int)) w #[o] w.heap.size 0 dk (aR _);rw [e];refine⟨rfl,rfl,rfl,by simp [World.drewN,grow],fun b hb=>?_⟩;simp only [World.drewN,grow];rw [sv hb]
set_option maxHeartbeats 4000000 in
set_option maxRecDepth 100000 in
theorem QW (u:Nat) (hu64:u < 18446744073709551616) (w:World) (htab:uN w) :
  Calls Go.Proofs.Tryd.prog 66 #[.int .u64 u,.z 10] w fun e w'=>e=.returned (.string ⟨(Lib.decDigits u).toArray⟩)∧Below w.heap.size w w':=by
 by_cases hs:u < 100
 ·go_enter Go.Proofs.Tryd.func66,Go.Proofs.Tryd.ntmps66
  go_wp2_with (go_at_call 72; refine(Go.Proofs.Tryd.internal_strconv_small u hs _).mono ?_; rintro e w' ⟨rfl,rfl⟩)
  go_ret
  exact⟨rfl,Below.refl _ _⟩
 ·have hu1:1≤u:=ab;have hnd20:Lib.nDigits u≤20:=by have:=Lib.numDigits_eq u hu1 hu64; split at this <;> omega
  have hal:Go.Proofs.Tryd.prog.arrayLen 142=24:=by simp [Program.arrayLen,Go.Proofs.Tryd.underlying142]
  have hsl1:∀ W,(Instr.sliceAt 142 (.pointer (some ⟨w.heap.size,0,none⟩)) none (some (.z (Lib.nDigits u:Int))) none).run Go.Proofs.Tryd.prog W=.ok (.slice (some ⟨w.heap.size,0,none⟩) (Lib.nDigits u) 24) W:=fun W=>by
   rw [run_sliceAt_array_h W 142 ⟨w.heap.size,0,none⟩ (by simp [Program.arrayLen,Program.elem,Go.Proofs.Tryd.underlying142]) .i64 (Lib.nDigits u:Int) ab (by rw [hal]; omega)]
   go_simp
  have hH0:=Lib.holds_zero0 w 142 (Lib.nDigits u) ab;have hfmt:=Go.Proofs.Tryd.internal_strconv_formatBase10 w.heap.size 0 24 u (Array.replicate (Lib.nDigits u) 0) (w.alloc (.cells Lib.zeros24 142)) hH0 (by rw [Array.size_replicate]; exact Lib.lt_pow_nDigits u) hu64 (by rw [Array.size_replicate]; omega);rw [Array.size_replicate] at hfmt;have HH0:=Lib.hid hH0;clear hH0 hal
  go_enter Go.Proofs.Tryd.func66,Go.Proofs.Tryd.ntmps66
  go_wp2_with (first
   | (go_at_call 73; refine(Go.Proofs.Tryd.internal_strconv_numDigits u hu1 hu64 _ (Lib.tabIs_alloc htab _)).mono ?_; rintro e w' ⟨rfl,rfl⟩))
  go_at_call 74
  refine hfmt.mono ?_
  rintro e w' ⟨rfl,k,v',dk,rfl,hF⟩
  have hcv:(convert 22 9 (.slice (some ⟨w.heap.size,0,none⟩) (Lib.nDigits u) 24)).run Go.Proofs.Tryd.prog ((putRow (fun(b:UInt8)=>Value.int .u8 (b.toNat:Int)) (w.alloc (.cells Lib.zeros24 142)) w.heap.size 0 dk).drewN k)=.ok (.string ⟨(Lib.decDigits u).toArray⟩) ((putRow (fun(b:UInt8)=>Value.int .u8 (b.toNat:Int)) (w.alloc (.cells Lib.zeros24 142)) w.heap.size 0 dk).drewN k):=by
   have h:=run_convert_bytes_back (P:=Go.Proofs.Tryd.prog) ((putRow (fun(b:UInt8)=>Value.int .u8 (b.toNat:Int)) (w.alloc (.cells Lib.zeros24 142)) w.heap.size 0 dk).drewN k) 22 9 5 ⟨w.heap.size,0,none⟩ 24 (Lib.decDigits u) Go.Proofs.Tryd.underlying22 Go.Proofs.Tryd.underlying5 Go.Proofs.Tryd.underlying9 (fun j hj=>by
    rw [Lib.row_is_numeral hF j hj,Lib.add_plain,World.cell?_drewN];exact cell?_putRow (fun(b:UInt8)=>Value.int .u8 (b.toNat:Int)) _ w.heap.size 0 _ dk HH0.out (by rw [hF.size,Array.size_replicate]) j (by rw [hF.size]; rw [Lib.decDigits_length] at hj; exact hj))
   rw [Lib.decDigits_length] at h;exact h
  have hfin:=VW w (.cells Lib.zeros24 142) dk k
  go_wp2
  go_ret
  exact⟨rfl,hfin⟩
end Go.Lev
/- strconv's FormatUint and Itoa as contracts -/
namespace Go.Lev
set_option linter.unusedSimpArgs false
set_option linter.unusedVariables false
open Go.RowKit
open Go.Proofs.Tryd (prog)
set_option maxRecDepth 100000
noncomputable section
theorem Iv {W w:World} (h:uN W) (hb:Below W.heap.size W w):uN w:=by
 unfold uN Lib.TabIs World.var? at *;cases hg:prog.globalNamed "internal/strconv.uint64pow10" with
 | none=>simp [hg] at h
 | some g =>
   simp only [hg,Option.bind_some] at h ⊢;have hlt:g < W.heap.size:=by
    rcases jH g W.heap.size with h' | h'
    ·exact h'
    ·rw [Array.getElem?_eq_none h'] at h; simp at h
   rw [hb.block g hlt];exact h
def dZ:World→Prop:=fun w=>Lib.TabIs prog w "internal/strconv.uint64pow10" .u64 Lib.pow10Tab
def dm (F:World→Prop):Bool:=@decide (F=dZ) (Classical.propDecidable _)
theorem qG:dm dZ=true:=by simp [dm]
theorem mP {F:World→Prop} (h:dm F=true):F=dZ:=by simpa [dm] using h
def Dm:Gc:=fun args s=>match args,s.g with
 | [.int .u64 n,.int .i64 10],_::_::_::(_,[.fact F])::_=>some ([dm F,ad .leq 0 n,ad .leq n 18446744073709551615],.str (aE n),s)
 | _,_=>none
def Cw:Gc:=fun args s=>match args with
 | [.int .i64 n]=>some ([ad .leq 0 n,ad .lss n 100],.str (aE n),s)
 | _=>none
def z6:Gc:=fun args s=>match args,s.g with
 | [.int .u64 n],[]=>some ([ad .leq 0 n,ad .leq n 18446744073709551615],.str (aE n),s)
 | _,_=>none
set_option maxHeartbeats 1000000 in
theorem S0 (u:Nat) (hu:u < 18446744073709551616) (w:World) (htab:uN w) :
  Calls prog 53 #[.int .u64 u,.z 10] w fun e w'=>e=.returned (.string ⟨(Lib.decDigits u).toArray⟩)∧Below w.heap.size w w':=by
 go_enter Go.Proofs.Tryd.func53,Go.Proofs.Tryd.ntmps53
 go_wp2_with (go_at_call 66; refine(QW u hu _ htab).mono ?_; rintro e w' ⟨rfl,hb⟩)
 go_ret
 exact⟨rfl,hb⟩
theorem SZ:bX prog 53 Dm:=by
 intro args s bs l s' hg hb hfr;unfold Dm at hg;split at hg
 ·rename_i n x1 x2 x3 k F rest hgl;simp only [a8,bn] at hg;obtain⟨rfl,rfl,rfl⟩:=hg;obtain⟨k1,k2⟩:=bv.1 hb;obtain⟨k2,k3⟩:=bv.1 k2;obtain⟨k3,_⟩:=bv.1 k3;have hF:=mP k1;have q1:0≤n:=by rwa [iq,cu] at k2
  have q2:n≤18446744073709551615:=by rwa [iq,cu] at k3
  obtain⟨u,rfl⟩:∃ u:Nat,n=(u:Int):=⟨n.toNat,ab⟩;refine a0j.i3z fun W0 r w us hI hv=>?_
  simp only [VRs,VR] at hv;obtain⟨u1,us1,rfl,rfl,u2,us2,rfl,rfl,rfl⟩:=hv;have hp:uN W0:=by
   have:=hI.gl (k,[.fact F]) (by rw [hgl]; simp);rcases this with⟨F',e,h⟩ | ⟨c,e,f,_,h⟩
   ·simp only [iJ,LV.fact.injEq,kG] at e;subst e; rw [hF] at h; exact h
   ·have:=(h 0 _ rfl).2;obtain⟨v,_,h2⟩:=this;have:=h2 (fun _=>none);simp only [VR] at this
  refine(S0 u ab w (Iv hp hI.below)).mono fun e w' ⟨h1,h2⟩=>⟨_,h1,?_,h2⟩
  rw [xV]; simp only [VR]
 ·cases hg
set_option maxHeartbeats 1000000 in
theorem Q9 (u:Nat) (hu:u < 100) (w:World) :
  Calls prog 65 #[.z u,.z 10] w fun e w'=>e=.returned (.string ⟨(Lib.decDigits u).toArray⟩)∧w'=w:=by
 go_enter Go.Proofs.Tryd.func65,Go.Proofs.Tryd.ntmps65
 go_wp2_with (go_at_call 72; refine(Go.Proofs.Tryd.internal_strconv_small u hu _).mono ?_; rintro e w' ⟨rfl,rfl⟩)
 go_ret
 exact⟨rfl,rfl⟩
set_option maxHeartbeats 1000000 in
theorem Ta (u:Nat) (hu:u < 100) (w:World) :
  Calls prog 52 #[.z u] w fun e w'=>e=.returned (.string ⟨(Lib.decDigits u).toArray⟩)∧w'=w:=by
 go_enter Go.Proofs.Tryd.func52,Go.Proofs.Tryd.ntmps52
 go_wp2_with (go_at_call 65; refine(Q9 u hu _).mono ?_; rintro e w' ⟨rfl,rfl⟩)
 go_ret
 exact⟨rfl,rfl⟩
set_option maxHeartbeats 1000000 in
theorem Tb (u:Nat) (hu:u < 100) (w:World) :
  Calls prog 40 #[.z u] w fun e w'=>e=.returned (.string ⟨(Lib.decDigits u).toArray⟩)∧w'=w:=by
 go_enter Go.Proofs.Tryd.func40,Go.Proofs.Tryd.ntmps40
 go_wp2_with (go_at_call 52; refine(Ta u hu _).mono ?_; rintro e w' ⟨rfl,rfl⟩)
 go_ret
 exact⟨rfl,rfl⟩
theorem S_:bX prog 40 Cw:=by
 intro args s bs l s' hg hb hfr;unfold Cw at hg;split at hg
 ·rename_i n;simp only [a8,bn] at hg;obtain⟨rfl,rfl,rfl⟩:=hg;obtain⟨k1,k2⟩:=bv.1 hb;obtain⟨k2,_⟩:=bv.1 k2;have q1:0≤n:=by rwa [iq,cu] at k1
  have q2:n < 100:=by rwa [oz,cu] at k2
  obtain⟨u,rfl⟩:∃ u:Nat,n=(u:Int):=⟨n.toNat,ab⟩;refine a0j.i3z fun W0 r w us hI hv=>?_
  simp only [VRs,VR] at hv;obtain⟨u1,us1,rfl,rfl,rfl⟩:=hv;refine(Tb u ab w).mono fun e w' ⟨h1,h2⟩=>⟨_,h1,?_,by rw [h2]; exact Below.refl _ _⟩
  rw [xV]; simp only [VR]
 ·cases hg
theorem H_:bX prog 17 z6:=by
 intro args s bs l s' hg hb hfr;unfold z6 at hg;split at hg
 ·rename_i n hgl;simp only [a8,bn] at hg;obtain⟨rfl,rfl,rfl⟩:=hg;obtain⟨k1,k2⟩:=bv.1 hb;obtain⟨k2,_⟩:=bv.1 k2;have q1:0≤n:=by rwa [iq,cu] at k1
  have q2:n≤18446744073709551615:=by rwa [iq,cu] at k2
  obtain⟨u,rfl⟩:∃ u:Nat,n=(u:Int):=⟨n.toNat,ab⟩;exact a0j.i3s hfr hgl rfl rfl (Qa u ab)
 ·cases hg
end
end Go.Lev
