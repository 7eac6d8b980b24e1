import Derived.Test.YtnkkkihgljbllaaDoorLb
import Derived.Deep.Slices
import Derived.Lib.SmallJoins
import Derived.KernelRfl
import Derived.Deep.Fields
import Derived.OpenShut
import Derived.ChangeArms
import Derived.FnData
namespace Go.Lev
abbrev bE:=List (Option LB)
abbrev ap:=List UInt8
abbrev al:=List LV
abbrev a9:=List LB
abbrev LV.z (n:Int):LV:=.int .i64 n
abbrev _root_.Go.Value.z (n:Int):Go.Value:=.int .i64 n
abbrev LV.b (n:Bool):LV:=.bool n
abbrev _root_.Go.Value.b (n:Bool):Go.Value:=.bool n
theorem dG {G:Prop} (h:G:=by exact h.elim):G:=h
theorem yS {G:Prop} (h:G:=by exact⟨_,_,_,rfl,by simpa [aX] using h⟩):G:=h
theorem uc {G:Prop} (h:G:=by exact⟨_,_,_,by simp only [dI,h1],h2⟩):G:=h
theorem yR {G:Prop} (h:G:=by exact hK _ tm' s' r' a' w' q1 q2 q3 q4):G:=h
theorem sG {G:Prop} (h:G:=by rw [hc] at h2; simp [LBW] at h2):G:=h
theorem GN {G:Prop} (h:G:=by obtain⟨y,q1,q2⟩:=h2.get (r:=r) hl;obtain⟨g1,u,g2,g3⟩:=k2 i y q1;have hv:=q2 u g3;exact⟨hv.plain_of (g3.one g1) fun e=>hna wu,u,g2,hv⟩):G:=h
theorem GI {G:Prop} (h:G:=by rw [Array.getElem?_append_right ke];simp only [sw,Array.getElem?_replicate];rw [aB ab]):G:=h
theorem yM {G:Prop} (h:G:=by exact .inl ⟨q1,by simp only [hk,q2]⟩):G:=h
theorem GH {G:Prop} (h:G:=by simp at k3; subst k3;exact⟨by rw [cN]; simp [mf]; omega,(ft.1 k6).1⟩):G:=h
theorem wm {G:Prop} (h:G:=by rw [b8,gO MT]):G:=h
theorem GG {G:Prop} (h:G:=by exact .inr ⟨_,k3,cc,e,f,k6,fun i l hi=>let ⟨q1,u,q2,q3⟩:=k7 i l hi; ⟨q1,u,q2,q3.mono fun b x hb=>by cases hb⟩⟩):G:=h
theorem BI {G:Prop} (h:G:=by exact⟨l0,b0,ρ,⟨b0,q,by rw [e]⟩,k⟩):G:=h
theorem GF {G:Prop} (h:G:=by exact⟨_,_,v,r',⟨rfl,rfl⟩,he,hv,⟨hi.below,hi.dom,hi.own,hi.fresh,hi.inj,hi.cells,hi.iter,hI.gl,hi.ro,hi.ob.step (Ren.le_refl r') (fun _ _ _ _ k=>k) (fun _ _ k1 k2=>.inl ⟨k1,k2⟩) (aR _) fun _ _=>rfl⟩,⟨hE.le,hE.n,hE.size,hE.img,hE.keep⟩⟩):G:=h
theorem BH {G:Prop} (h:G:=by rw [cN] at ht; rw [b8,gO ht]):G:=h
theorem GE {G:Prop} (h:G:=by exact .inr ⟨y,hle _ _ q1,c,e,f,q2,fun i l hl=>let ⟨g1,u,g2,g3⟩:=q3 i l hl; ⟨g1,u,g2,g3.mono hle⟩⟩):G:=h
theorem BG {G:Prop} (h:G:=by subst hv; obtain⟨_,a,n,c,e⟩:=hv'; cases e):G:=h
theorem wl {G:Prop} (h:G:=by exact⟨ab,by simp only; omega⟩):G:=h
theorem GD {G:Prop} (h:G:=by exact⟨trivial,rfl,_,_,[.id 0,.id 1],⟨rfl,rfl⟩,by rw [hs]; (exact zC)⟩):G:=h
theorem qT {G:Prop} (h:G:=by rw [hbc] at hg; cases hg):G:=h
theorem eZ {G:Prop} (h:G:=by rw [hc] at hg; cases hg):G:=h
theorem GC {G:Prop} (h:G:=by obtain⟨k,hk⟩:∃ k,op.toNat=k+24:=⟨op.toNat - 24,ab⟩;rw [hk]; rfl):G:=h
theorem eu {G:Prop} (h:G:=by subst e; exact⟨rfl,_,_,[],⟨rfl,rfl⟩,F7 rfl rfl⟩):G:=h
theorem gB {G:Prop} (h:G:=by exact a0j.lf (fuel:=300) rfl rfl ak):G:=h
theorem GB {G:Prop} (h:G:=by rw [aB h1] at hN;simp only [show ad .eql k 0=true from cD h1,aw];exact⟨trivial,rfl,.b false,[],[],⟨by rw [← hN],rfl⟩,by(exact zC)⟩):G:=h
theorem GA {G:Prop} (h:G:=by rw [aB h2] at hN;simp only [show ad .lss (aM s p) 48=true from ga h2,aw];exact⟨trivial,rfl,.b false,[],[],⟨by rw [← hN],rfl⟩,by(exact zC)⟩):G:=h
theorem Gz {G:Prop} (h:G:=by rw [aB h3] at hN;simp only [show ad .gtr (aM s p) 57=true from iR h3,aw];exact⟨trivial,rfl,.b false,[],[],⟨by rw [← hN],rfl⟩,by(exact zC)⟩):G:=h
theorem Gy {G:Prop} (h:G:=by rw [av h3] at hN;simp only [show ad .gtr (aM s p) 57=false from ia ab,aD];exact⟨rfl,⟨(p+aP s p,k+1),hw.2,by dsimp only; omega,by dsimp only; omega,hN⟩,by dsimp only; omega,[.id 0],by(exact zC)⟩):G:=h
theorem Gx {G:Prop} (h:G:=by rw [dif_neg h] at hN;have y0:ag (aa p 1) (am s)=false:=uS (show s.length < p+1 by omega);simp only [y0,aD];have hM:=hN;obtain rfl:p=s.length:=ab;exact⟨rfl,⟨k,hM⟩,[.id 0],by(exact zC)⟩):G:=h
theorem Gw {G:Prop} (h:G:=by simp only [show ad .geq k 1=false from qk ab,aD];refine⟨trivial,rfl,.b false,[],[],⟨?_,rfl⟩,by(exact zC)⟩;rw [← hk]; simp [h]):G:=h
theorem wk {G:Prop} (h:G:=by exact⟨rfl,_,[],[],⟨rfl,rfl⟩,by(exact zC)⟩):G:=h
theorem Gv {G:Prop} (h:G:=by exact⟨rfl,⟨1,ab⟩,by simp only; omega,[.id 0,.id 1],by dsimp only; rw [e]; (exact zC)⟩):G:=h
theorem Gu {G:Prop} (h:G:=by exact⟨rfl,⟨2,ab⟩,by simp only; omega,[.id 0,.id 1],by dsimp only; rw [e]; (exact zC)⟩):G:=h
theorem GL {G:Prop} (h:G:=by exact⟨rfl,⟨3,ab⟩,by simp only; omega,[.id 0,.id 1],by dsimp only; rw [e]; (exact zC)⟩):G:=h
theorem GK {G:Prop} (h:G:=by exact⟨rfl,⟨4,ab⟩,by simp only; omega,[.id 0,.id 1],by dsimp only; rw [e]; (exact zC)⟩):G:=h
theorem ua {G:Prop} (h:G:=by exact⟨rfl,⟨1,ab⟩,by simp only; omega,[.id 0,.id 1,.id 2],by dsimp only; rw [e]; (exact zC)⟩):G:=h
theorem t_ {G:Prop} (h:G:=by exact⟨rfl,⟨2,ab⟩,by simp only; omega,[.id 0,.id 1,.id 2],by dsimp only; rw [e]; (exact zC)⟩):G:=h
theorem sF {G:Prop} (h:G:=by exact⟨rfl,⟨3,ab⟩,by simp only; omega,[.id 0,.id 1,.id 2],by dsimp only; rw [e]; (exact zC)⟩):G:=h
theorem yP {G:Prop} (h:G:=by exact⟨trivial,rfl,.b false,_,[.id 0],⟨by rw [hF],rfl⟩,by(exact zC)⟩):G:=h
theorem BJ {G:Prop} (h:G:=by exact⟨rfl,⟨i+1,hlt,hn⟩,by simp only; omega,[.id 0,.id 1],by(exact zC)⟩):G:=h
theorem GJ {G:Prop} (h:G:=by exact⟨trivial,rfl,.str [],_,[.id 0],⟨by rw [Fg hno],rfl⟩,by(exact zC)⟩):G:=h
theorem yO {G:Prop} (h:G:=by exact⟨rfl,⟨i+1,hlt⟩,by simp only; omega,[.id 0,.id 1,.id 2],by(exact zC)⟩):G:=h
theorem yN {G:Prop} (h:G:=by exact⟨trivial,rfl,_,_,[.id 0],⟨by rw [ez],rfl⟩,by(exact zC)⟩):G:=h
theorem BE {G:Prop} (h:G:=by exact⟨trivial,rfl,.str [],_,[.id 0],⟨by rw [hF],rfl⟩,by(exact zC)⟩):G:=h
theorem Gr {G:Prop} (h:G:=by exact⟨rfl,⟨i+1,hlt,hn⟩,by simp only; omega,[.id 0,.id 1,.id 2],by(exact zC)⟩):G:=h
theorem yK {G:Prop} (h:G:=by exact⟨h1,hw.2,⟨by first | exact .inl rfl | (simp only; omega) | (exact .inl trivial) | (dsimp only; omega),by first | exact .inl rfl | (simp only; omega) | (exact .inl trivial) | (dsimp only; omega)⟩,⟨by first | exact .inl rfl | (simp only; omega) | (exact .inl trivial) | (dsimp only; omega),by first | exact .inl rfl | (simp only; omega) | (exact .inl trivial) | (dsimp only; omega)⟩,by first | exact .inl rfl | (simp only; omega) | (exact .inl trivial) | (dsimp only; omega),by first | exact .inl rfl | (simp only; omega) | (exact .inl trivial) | (dsimp only; omega)⟩):G:=h
theorem t9 {G:Prop} (h:G:=by simp only at h2; omega):G:=h
theorem BD {G:Prop} (h:G:=by simp only [show ad .eql op 23=false from cF o1,aD];exact⟨rfl,⟨false,by simp [o1]⟩,[.id 0,.id 1,.id 2,.id 3],by(exact zC)⟩):G:=h
theorem Gq {G:Prop} (h:G:=by simp only [show ad .eql op 23=true from cD o23,show ad .eql op 8=false from cF ab,show ad .eql op 9=false from cF ab,aw,aD];exact⟨rfl,⟨false,by first | (simp; done) | (simp; omega)⟩,[.id 0,.id 1,.id 2,.id 3],by(exact zC)⟩):G:=h
theorem Gp {G:Prop} (h:G:=by simp only [show ad .eql op 23=false from cF o23,show ad .eql op 8=true from cD o8,aw,aD];exact⟨rfl,⟨false,by first | (simp; done) | (simp; omega)⟩,[.id 0,.id 1,.id 2,.id 3],by(exact zC)⟩):G:=h
theorem Gn {G:Prop} (h:G:=by simp only [show ad .eql op 23=false from cF o23,show ad .eql op 8=false from cF o8,show ad .eql op 9=true from cD o9,aw,aD];exact⟨rfl,⟨false,by first | (simp; done) | (simp; omega)⟩,[.id 0,.id 1,.id 2,.id 3],by(exact zC)⟩):G:=h
theorem BC {G:Prop} (h:G:=by simp only [show ad .eql op 23=false from cF o23,show ad .eql op 8=false from cF o8,show ad .eql op 9=false from cF o9,aw,aD];exact⟨rfl,⟨false,by first | (simp; done) | (simp; omega)⟩,[.id 0,.id 1,.id 2,.id 3],by(exact zC)⟩):G:=h
theorem BB {G:Prop} (h:G:=by exact⟨trivial,rfl,[dq op a b c n,.b false],z,[],[],ak,⟨rfl,rfl⟩,by rw [hR]; (exact zC)⟩):G:=h
theorem Gm {G:Prop} (h:G:=by simp only [show ad .eql op 23=true from cD o1,aw];exact⟨rfl,⟨false,by simp [o1]⟩,[.id 0,.id 1,.id 2,.id 3],by(exact zC)⟩):G:=h
theorem yJ {G:Prop} (h:G:=by rw [mo hkm,KW ha] at hR;have hz2:=fin _ _ _ _ hR;subst hz2;simp only [show ad .geq ((k:Nat):Int) ((L.length:Nat):Int)=true from qn ab,aw];exact⟨trivial,rfl,[gI x,eH [] 0 0 false,fT (ln,e,12)],LV.tup [gI x,eH [] 0 0 false,fT (ln,e,12)],[.cells wx (some 4)],[.id 0],ak,⟨rfl,rfl⟩,by(exact zC)⟩):G:=h
theorem Gk {G:Prop} (h:G:=by rw [av aC,av aC]; exact .inl ⟨y.2,_,_,_,_,_,_,by rw [hw.cl],rfl⟩):G:=h
theorem Gj {G:Prop} (h:G:=by rw [k_.1 hw];have:=Lk (C.l.map (·.1));rw [ii] at this;show(gY (C.l.map (·.1))).length≤_;omega):G:=h
theorem wj {G:Prop} (h:G:=by exact yH h (FM (Lj ab))):G:=h
theorem BA {G:Prop} (h:G:=by exact yH h (Fl (Fu ab ab) (Lj ab))):G:=h
theorem Gi {G:Prop} (h:G:=by dsimp only; exact(zd _ _ _ _).2 ⟨ab,ab,ab,ab,ab,ab,.inl rfl⟩):G:=h
theorem Gh {G:Prop} (h:G:=by dsimp only; exact(Cm _ _ _ _).2 ⟨ab,ab,ab,ab,ab,ab,.inr rfl⟩):G:=h
theorem Gg {G:Prop} (h:G:=by dsimp only; exact(Cl _ _ _ _).2 ⟨ab,ab,ab,ab,ab,ab,.inr rfl⟩):G:=h
theorem wi {G:Prop} (h:G:=by exact h.one (L7 ab) oN):G:=h
theorem Bz {G:Prop} (h:G:=by exact h.two (FE ab ab) (AK (L7 ab) oN)):G:=h
theorem Gf {G:Prop} (h:G:=by simp only [aw]; exact⟨trivial,rfl,.b true,[.ro _],[.id 0],⟨rfl,rfl⟩,by(exact zC)⟩):G:=h
theorem mv {G:Prop} (h:G:=by exact⟨rfl,⟨true,GM⟩,[.id 0,.id 1,.id 2,.id 3,.id 4],by(exact zC)⟩):G:=h
theorem iz {G:Prop} (h:G:=by exact⟨rfl,⟨false,GM⟩,[.id 0,.id 1,.id 2,.id 3,.id 4],by(exact zC)⟩):G:=h
theorem Ge {G:Prop} (h:G:=by exact⟨rfl,[],[.id 0,.id 1,.id 6,.id 8],by simp only [jM,cg,kH,cZ,eU,fR,I1]; (exact zC)⟩):G:=h
theorem Gd {G:Prop} (h:G:=by exact⟨rfl,(y::junk),[.id 0,.id 1,.id 6,.id 3],by simp only [jM,cg,kH,I1]; (exact zC)⟩):G:=h
theorem Gt {G:Prop} (h:G:=by exact⟨rfl,[],[.id 0,.id 1,.id 9,.id 7],by simp only [jM,cg,kH,I1,fR]; (exact zC)⟩):G:=h
theorem yL {G:Prop} (h:G:=by exact⟨rfl,junk,[.id 0,.id 1,.id 6,.id 3],by simp only [jM,cg,kH,cZ,eU,I1]; (exact zC)⟩):G:=h
theorem BF {G:Prop} (h:G:=by exact⟨rfl,junk,[.id 0,.id 1,.id 6,.id 3],by simp only [jM,cg,kH,cZ,eU]; (exact zC)⟩):G:=h
theorem Gs {G:Prop} (h:G:=by exact .inl ⟨q1,by simp only [kS,av e1,av e2]; exact q2⟩):G:=h
theorem ab {G:Prop} (h:G:=by omega):G:=h
theorem ak {G:Prop} (h:G:=by kernel_rfl):G:=h
theorem GM {G:Prop} (h:G:=by constructor <;> intro h <;> (first | omega | (simp at h; done) | (simp_all; done) | (simp_all; omega))):G:=h
theorem aC {G:Prop} (h:G:=by simp):G:=h
theorem bF {G:Prop} (h:G:=by(exact MS)):G:=h
theorem jI {G:Prop} (h:G:=by simp only [cZ,eU]; omega):G:=h
theorem ub {G:Prop} (h:G:=by simp only [am,aA,cg,cZ,eU]; omega):G:=h
theorem fv {G:Prop} (h:G:=by(exact MP)):G:=h
theorem fu {G:Prop} (h:G:=by assumption):G:=h
theorem qU {G:Prop} (h:G:=by simp only [cZ]; omega):G:=h
theorem lr {G:Prop} (h:G:=by simp only; omega):G:=h
theorem wu {G:Prop} (h:G:=by rw [← e]; exact fS hl):G:=h
theorem ke {G:Prop} (h:G:=by simp; omega):G:=h
theorem wt {G:Prop} (h:G:=by have:=hO.hs; dsimp only at this; unfold ae; omega):G:=h
theorem wq {G:Prop} (h:G:=by have:=hO.hw; have:=hO.ht; dsimp only at *; omega):G:=h
theorem pP {G:Prop} (h:G:=by rw [← eS]; exact hO2):G:=h
theorem pO {G:Prop} (h:G:=by rw [hR,← eS]; rfl):G:=h
theorem oN {G:Prop} (h:G:=by simp [I1]):G:=h
theorem wo {G:Prop} (h:G:=by have:=hO.hs; dsimp only at this; omega):G:=h
theorem iZ {G:Prop} (h:G:=by decide):G:=h
theorem pN {G:Prop} (h:G:=by simpa using h):G:=h
theorem MT {G:Prop} (h:G:=by rw [cN] at hb; exact hb):G:=h
theorem BM {G:Prop} (h:G:=by simp only [mq]; omega):G:=h
theorem BL {G:Prop} (h:G:=by first | exact hR | (rw [hR]; rfl)):G:=h
theorem BK {G:Prop} (h:G:=by rw [hG,hR]; first | done | rfl):G:=h
theorem yQ {G:Prop} (h:G:=by rw [h2.length]; rfl):G:=h
theorem BO {G:Prop} (h:G:=by rw [hw,pI]; omega):G:=h
theorem BN {G:Prop} (h:G:=by((repeat refine aV (by(first | exact oG | exact cH | exact ir | exact gM rfl | exact bC rfl | exact sm | exact oH | exact sg | exact oJ | exact sn | exact qD rfl | exact si | exact sk | exact cY rfl | exact jA rfl (aR _) | exact jA rfl ab | assumption | exact pu (by((repeat refine aV (by(first | exact oG | exact cH | exact ir | exact gM rfl | exact bC rfl | exact sm | exact oH | exact sg | exact oJ | exact sn | exact qD rfl | exact si | exact sk | exact cY rfl | exact jA rfl (aR _) | exact jA rfl ab | assumption)) ?_); exact cA)) | exact tJ (by((repeat refine aV (by(first | exact oG | exact cH | exact ir | exact gM rfl | exact bC rfl | exact sm | exact oH | exact sg | exact oJ | exact sn | exact qD rfl | exact si | exact sk | exact cY rfl | exact jA rfl (aR _) | exact jA rfl ab | assumption | exact pu (by((repeat refine aV (by(first | exact oG | exact cH | exact ir | exact gM rfl | exact bC rfl | exact sm | exact oH | exact sg | exact oJ | exact sn | exact qD rfl | exact si | exact sk | exact cY rfl | exact jA rfl (aR _) | exact jA rfl ab | assumption)) ?_); exact cA)))) ?_); exact cA)) | exact z7 (by((repeat refine aV (by(first | exact oG | exact cH | exact ir | exact gM rfl | exact bC rfl | exact sm | exact oH | exact sg | exact oJ | exact sn | exact qD rfl | exact si | exact sk | exact cY rfl | exact jA rfl (aR _) | exact jA rfl ab | assumption | exact pu (by((repeat refine aV (by(first | exact oG | exact cH | exact ir | exact gM rfl | exact bC rfl | exact sm | exact oH | exact sg | exact oJ | exact sn | exact qD rfl | exact si | exact sk | exact cY rfl | exact jA rfl (aR _) | exact jA rfl ab | assumption)) ?_); exact cA)))) ?_); exact cA)))) ?_); exact cA)):G:=h
set_option linter.unusedSimpArgs false
set_option linter.unusedVariables false
section
open Go.RowKit
variable {P:Program}
theorem X1 {t:TypeId} {x v:LV} {f:Nat} (h:FA P t x f=some v):v6 P t x f=some v:=by
 unfold FA at h;split at h
 iterate 2
  ·rename_i e; unfold v6; rw [e]; exact h
 ·exact h
theorem xX {n:Int} (h:b9 n=true):n=.ofNat (ae n):=by
 obtain⟨m,rfl,e⟩:=JN (qH.1 h);rw [e]
theorem X2 {t:TypeId} {x ix v:LV} {bs:List Bool} (h:FB P t x ix=some (bs,v)) (hb:bN bs):yx P t x ix=some v:=by
 unfold FB at h;split at h
 all_goals first | (simp at h; done) | skip
 all_goals
  rename_i e;split at h
  case h_2=>simp at h
  rename_i z hz;simp only [a8,bn] at h;obtain⟨rfl,rfl⟩:=h;rw [bv,bv] at hb;obtain⟨m,rfl,e2⟩:=JN (qH.1 hb.1);have h2:=hb.2.1;simp only [eC,aa,iE,e2] at h2;unfold yx;rw [e]
  try simp only [hz,e2,ah,aJ,h2,aw]
  try simp only [hz,e2,ah,aJ,dh h2,aw]
theorem W8 {s:ap} {i:Nat} (h:i < s.length):tG s i=some (s.getD i 0):=by
 rw [Fm,cq h];simp [List.getD,cq h]
theorem XG {t:TypeId} {x ix v:LV} {bs:List Bool} (h:Eg P t x ix=some (bs,v)) (hb:bN bs):vk P t x ix=some v:=by
 unfold Eg at h;split at h
 ·rename_i len elem cs k n e;split at h
  case h_2=>simp at h
  rename_i z hz;split at h
  case h_2=>simp at h
  rename_i bs' v' hp;simp only [a8,bn] at h;obtain⟨rfl,rfl⟩:=h;rw [bv,bv] at hb;have h1:=xX hb.1;have h2:=eC.1 hb.2.1;have h3:=FW hp hb.2.2;unfold vk;rw [e,h1];simp only [aa] at h2;simp only [hz,dh h2,aw];exact h3
 ·rename_i s k n e;simp only [a8,bn] at h;obtain⟨rfl,rfl⟩:=h;rw [bv,bv] at hb;have h1:=xX hb.1;have h2:=eC.1 hb.2.1;simp only [aa,am] at h2;unfold vk;rw [e,h1];simp only [W8 (show ae n < s.length by omega)];have:ae (Int.ofNat (ae n))=ae n:=rfl;simp only [bz,this]
 ·simp at h
theorem oI {d:Nat} {x:Option LV} {bs:List Bool} {n:Nat} (h:qu d x=some (bs,n)) (hb:bN bs):dE d x=some n:=by
 unfold qu at h;split at h
 ·simp at h; obtain⟨rfl,rfl⟩:=h; rfl
 ·simp at h; obtain⟨rfl,rfl⟩:=h;rw [bv] at hb;rw [xX hb.1]; rfl
 ·simp at h
theorem XJ {t:TypeId} {x v:LV} {lo hi mx:Option LV} {bs:List Bool} (h:Ej P t x lo hi mx=some (bs,v)) (hb:bN bs):pq P t x lo hi mx=some v:=by
 unfold Ej at h;split at h
 ·rename_i s e;split at h
  case h_2=>simp at h
  rename_i p l q hh h1 h2;simp only [a8,bn] at h;obtain⟨rfl,rfl⟩:=h;rw [iv,iv,bv,bv] at hb;unfold pq;rw [e];simp only [oI h1 hb.1,show dE s.length hi=some hh from oI h2 hb.2.1,aY];have k1:=eC.1 hb.2.2.1;have k2:=eC.1 hb.2.2.2.1;simp only [am] at k2;simp [dh k1,dh k2]
 ·rename_i elem b o len d e;split at h
  case h_2=>simp at h
  rename_i p l q hh n h1 h2 hn;unfold pq;rw [e];cases lo with
  | none =>
    simp only [a8,bn] at h;obtain⟨rfl,rfl⟩:=h;rw [iv,iv,bv] at hb;have k2:=eC.1 hb.2.2.1;have hl:=oI h1 hb.1;simp only [hl,oI h2 hb.2.1,hn];simp only [dE,a8] at hl; subst hl;simp [dh k2,dh (bk hh),b7,ah,dR,aa]
  | some lo =>
    simp only [a8,bn] at h;obtain⟨rfl,rfl⟩:=h;rw [iv,iv,bv,bv] at hb;have k1:=eC.1 hb.2.2.1;have k2:=eC.1 hb.2.2.2.1;simp only [oI h1 hb.1,oI h2 hb.2.1,hn];simp [dh k2,dh k1,ah,dR,aa]
 ·rename_i elem b o len cap e;split at h
  case h_2=>simp at h
  rename_i p l q hh n h1 h2 hn;unfold pq;rw [e];cases lo with
  | none =>
    simp only [a8,bn] at h;obtain⟨rfl,rfl⟩:=h;rw [iv,iv,bv] at hb;have k2:=eC.1 hb.2.2.1;have hl:=oI h1 hb.1;simp only [hl,oI h2 hb.2.1,hn];simp only [dE,a8] at hl; subst hl;have hm:∀ m:Nat,(bif Nat.beq m 0 then o else o+0 * n)=o:=fun m=>by cases Nat.beq m 0 <;> simp
    simp [dE,dh k2,dh (bk hh),dh (aR cap)]
  | some lo =>
    simp only [a8,bn] at h;obtain⟨rfl,rfl⟩:=h;rw [iv,iv,bv,bv,bv] at hb;have k0:=eC.1 hb.2.2.1;have k1:=eC.1 hb.2.2.2.1;have k2:=eC.1 hb.2.2.2.2.1;simp only [aa] at k0;simp only [oI h1 hb.1,oI h2 hb.2.1,hn];simp [dE,b7,show ¬ cap=l by omega,dh k2,dh k1,dh (aR cap),ah,dR]
 ·rename_i n elem b o e;split at h
  case h_2=>simp at h
  rename_i hk;simp only [a8,bn] at h;obtain⟨rfl,rfl⟩:=h;unfold pq;rw [e];simp [dE,hk,b7,dh (bk n),dh (aR n)]
 ·rename_i elem v0 e;split at h
  case h_2=>simp at h
  rename_i p l n h1 hn;simp only [a8,bn] at h;obtain⟨rfl,rfl⟩:=h;rw [iv,bv] at hb;unfold pq;rw [e];simp only [oI h1 hb.1,hn,show xj v0 l=true from hb.2.1,aw];rfl
 ·split at h
  ·rename_i h1; simp at h; obtain⟨rfl,rfl⟩:=h; exact h1
  ·simp at h
theorem yG {s:St} {size:Nat} {y:LV} {bs:List Bool} {cs:al} (h:pA s size y=some (bs,cs)) (hb:bN bs):iX s size y=some cs:=by
 unfold pA at h;unfold iX;split at h
 iterate 2
  ·simp at h; rw [← h.2]
 all_goals first | (simp at h; done) | skip
 all_goals
  rename_i b o len c;cases hl:s.look b with
  | none=>simp [hl] at h
  | some ds =>
    simp only [hl,a8,bn] at h ⊢;obtain⟨rfl,rfl⟩:=h;rw [bv] at hb;have h1:=eC.1 hb.1;simp only [aa,aJ,aG] at h1;exact vi _ _ _ h1
theorem Fs:∀ {cs:al},ph cs=true→dJ cs=some (kD cs)
 | [],h=>rfl
 | c::cs,h=>by
   simp only [ph,List.all_cons,bg] at h;have ih:=Fs (cs:=cs) h.2;cases c <;> simp [a7] at h
   rename_i k n;obtain⟨rfl,_⟩:=h;simp [dJ,ih,kD,ar]
theorem XX {s:St} {src dst:TypeId} {x v:LV} {bs:List Bool} (h:Ft P s src dst x=some (bs,v)) (hb:bN bs):mS P s src dst x=some v:=by
 unfold Ft at h;split at h
 ·rename_i e1 e2; unfold mS; rw [e1,e2]; simp at h; rw [← h.2]; rfl
 ·rename_i e1 e2; unfold mS; rw [e1,e2]; simp at h; rw [← h.2]
 ·rename_i e b o l c e1 e2;cases hu:kR P e with
  | false=>simp [hu] at h
  | true =>
    simp only [hu,aw] at h;cases hc:pA s 1 (.sl b o l c) with
    | none=>simp [hc] at h
    | some p =>
      obtain⟨p,cs⟩:=p;simp only [hc,a8,bn] at h;obtain⟨rfl,rfl⟩:=h;rw [iv,bv] at hb;unfold mS;rw [e1,e2];simp only [hu,aw,yG hc hb.1,Fs hb.2.1]
 ·rename_i e b o l c e1 e2;cases hu:kR P e with
  | false=>simp [hu] at h
  | true =>
    simp only [hu,aw] at h;cases hc:pA s 1 (.slo b o l c) with
    | none=>simp [hc] at h
    | some p =>
      obtain⟨p,cs⟩:=p;simp only [hc,a8,bn] at h;obtain⟨rfl,rfl⟩:=h;rw [iv,bv] at hb;unfold mS;rw [e1,e2];simp only [hu,aw,yG hc hb.1,Fs hb.2.1]
 iterate 2
  ·rename_i e e1 e2;cases hu:kR P e with
   | false=>simp [hu] at h
   | true =>
     simp only [hu,aw,a8,bn] at h;obtain⟨rfl,rfl⟩:=h;unfold mS; rw [e1,e2]; simp [hu]
 ·simp at h
theorem KB:∀ {cs:al},u7 cs=true→py cs=some (cs.map ar)
 | [],h=>rfl
 | c::cs,h=>by
   simp only [u7,List.all_cons,bg] at h;have ih:=KB (cs:=cs) h.2;cases c <;> simp [a7] at h
   rename_i k n;obtain⟨rfl,_⟩:=h;simp [py,ih,ar]
theorem Ii {e:TypeId} (h:n8 P e=true):kR P e=false:=by
 have:=Fw h;unfold kR;rw [this]
theorem Xo {s:St} {src dst:TypeId} {x v:LV} {bs:List Bool} (h:DK P s src dst x=some (bs,v)) (hb:bN bs):oB P s src dst x=some v:=by
 unfold DK at h;split at h
 ·rename_i e b o l c e1 e2;cases hu:n8 P e with
  | false=>simp [hu] at h
  | true =>
    simp only [hu,aw] at h;cases hc:pA s 1 (.slo b o l c) with
    | none=>simp [hc] at h
    | some p =>
      obtain⟨p,cs⟩:=p;simp only [hc,a8,bn] at h;obtain⟨rfl,rfl⟩:=h;rw [iv,bv] at hb;have h0:mS P s src dst (.slo b o l c)=none:=by
       unfold mS;rw [e1,e2];simp only [Ii hu,aD]
      unfold oB;rw [h0];unfold xx;rw [e1,e2];simp only [hu,aw,yG hc hb.1,KB hb.2.1];rfl
 ·cases h
theorem Mf {s:St} {src dst:TypeId} {x v:LV} {bs:List Bool} (h:AX P s src dst x=some (bs,v)) (hb:bN bs):oB P s src dst x=some v:=by
 unfold AX at h;split at h
 ·rename_i p e;simp at h; subst h;unfold oB;rw [XX e hb]
 ·exact Xo h hb
theorem W5 {ts:List TypeId} {x v:LV} (h:Dk P ts x=some v):th P ts x=some v:=by
 unfold Dk at h;split at h
 ·split at h
  iterate 2
   ·rename_i e; unfold th; simp only; rw [e]; exact h
  ·exact h
 ·simp at h
theorem Mi {mx:Bool}:∀ {ls:al} {x v:LV},rX mx x ls=some v→ov mx x ls=some v
 | [],x,v,h=>by cases x <;> simpa [rX,ov] using h
 | y::ls,x,v,h=>by
   cases x <;> try (simp [rX] at h; done)
   cases y <;> try (simp [rX] at h; done)
   simp only [rX] at h;have:=Mi h;cases mx <;> simpa [ov,GP,GO,HU,HV] using this
theorem XL {s:St} {t:TypeId} {x:Value} {k:Nat} {bs:List Bool} {v:LV} (h:El P s t x k=some (bs,v)) (hb:bN bs):xO P s t x k=some v:=by
 unfold El at h;unfold xO;split at h
 ·rename_i F n hF hn;split at h
  ·rename_i bs' l hp;simp only [a8,bn] at h;obtain⟨rfl,rfl⟩:=h;rw [bv] at hb;rw [hF,hn];simp only;rw [show rz F x k n=true from hb.1,aw];exact FW hp hb.2
  ·cases h
 ·cases h
theorem LG {ev:Operand→Option LV} {o:Op} {s:St} {bs:List Bool} {v:LV} (h:zN P ev o s=some (bs,v)) (hb:bN bs) (hL:bm o=true∨∃ a b x,o=.convert a b x):fH P ev o s=some v:=by
 unfold zN at h;split at h
 iterate 2
  ·rename_i x; cases he:ev x <;> simp [he] at h; simp [fH,he,h.2]
 ·rename_i t a;split at h
  ·rename_i he; simp only [fH,he]; exact LQ h hb
  ·rename_i g o he;simp only [fH,he];split at h
   ·rename_i hg; simp at h; rw [← h.2]; exact hg
   ·simp at h
  ·rename_i x k he;simp only [fH,he];exact XL h hb
  ·simp at h
 ·split at h
  ·rename_i h1 h2; simp only [fH,h1,h2]; exact W4 h hb
  ·simp at h
 ·split at h
  ·rename_i h1;split at h
   ·rename_i h2; simp at h; simp only [fH,h1]; rw [← h.2]; exact WP h2
   ·simp at h
  ·simp at h
 ·split at h
  ·rename_i h1; simp only [fH,h1]; exact Mf h hb
  ·simp at h
 ·split at h
  ·rename_i h1 h2 h3 h4; simp only [fH,h1,h2,h3,h4]; exact XJ h hb
  ·simp at h
 ·split at h
  ·rename_i h1;split at h
   ·rename_i h2; simp at h; simp only [fH,h1]; rw [← h.2]; exact X1 h2
   ·simp at h
  ·simp at h
 ·split at h
  ·rename_i h1 h2; simp only [fH,h1,h2]; exact X2 h hb
  ·simp at h
 ·split at h
  ·rename_i h1 h2; simp only [fH,h1,h2]; exact XG h hb
  ·simp at h
 ·rename_i c;split at h
  ·rename_i h1 h2;simp only [fH,h1,h2];split at h
   ·rename_i h3; simp at h; rw [← h.2]; exact W5 h3
   ·simp at h
  iterate 2
   ·rename_i h1 h2;simp only [fH,h1,h2];split at h
    ·rename_i h3; simp at h; rw [← h.2]; exact Mi h3
    ·simp at h
  ·simp at h
 ·simp at h
 ·split at h
  ·rename_i h1; simp at h; rw [← h.2]; exact h1
  ·simp at h
end
section
open Go.RowKit
variable {P:Program}
theorem XQ {s:St} {ts:List TypeId} {x y:LV} {K:LV→St→Prop} (h:ER P s ts x y K):∃ v s',vw P s ts x y=some (v,s')∧K v s':=by
 unfold ER at h;unfold vw;split at h
 case h_2=>exact h.elim
 rename_i t u;split at h
 case h_2=>exact h.elim
 rename_i elem du ht hu;simp only [ht,hu];cases hd:xM du with
 | true=>rw [hd] at h; exact h.elim
 | false =>
   rw [hd] at h;simp only [aD] at h ⊢;split at h
   case h_2=>exact h.elim
   rename_i es zero bytes n hes hz hb hn;simp only [hes,hz,hb,hn];rw [jV] at h;obtain⟨hc,h⟩:=h;simp only [hc,aw];split at h
   case h_2=>exact h.elim
   rename_i bs new hx;rw [lR] at h;obtain⟨hbs,h⟩:=h;simp only [yG hx hbs];split at h
   ·rw [jV] at h;obtain⟨h1,h⟩:=h;rw [jV] at h;obtain⟨h2,h⟩:=h;have e1:(Nat.ble (n * bytes) 140737488355328 && Nat.ble n 140737488355328)=true:=by rw [show Nat.ble (n * bytes) 140737488355328=true from h1,show Nat.ble n 140737488355328=true from h2]; rfl
    simp only [e1,aw];split at h
    ·rename_i s' hs; simp only [hs]; exact⟨_,_,rfl,h⟩
    ·exact dG
   ·cases hzn:xz n with
    | true =>
      have e:Nat.beq n 0=true:=hzn;simp only [hzn,aw] at h;simp only [e,aw]; exact⟨_,_,rfl,h⟩
    | false =>
      have e:Nat.beq n 0=false:=hzn;simp only [hzn,aD] at h;rw [jV] at h;obtain⟨h1,h⟩:=h;have e1:Nat.ble n 1000000=true:=h1;simp only [e,aD,e1,aw];split at h
      ·rename_i s' hs; simp only [hs]; exact⟨_,_,rfl,h⟩
      ·exact dG
   ·rename_i b o len cap;split at h
    case h_2=>exact h.elim
    rename_i cs op hb';simp only [hb'];cases hcap:ag (aa len n) cap with
    | true =>
      have e:Nat.ble (len+n) cap=true:=hcap;simp only [hcap,aw] at h;rw [jV] at h;obtain⟨h1,h⟩:=h;have h1:=eC.1 h1;simp only [aa,ah,aG] at h1;simp only [e,aw,rQ cs (o+len * es) new h1];split at h
      ·rename_i s' hs;have hs':s.put b (.cells (gt cs (o+len * es) new) op)=some s':=hs;simp only [hs']; exact⟨_,_,rfl,h⟩
      ·exact dG
    | false =>
      have e:Nat.ble (len+n) cap=false:=hcap;simp only [hcap,aD] at h;rw [jV,jV] at h;obtain⟨h1,h2,h⟩:=h;have e1:Nat.ble (len+n) 1000000=true:=h1;have h2:=eC.1 h2;simp only [aa,aJ,aG] at h2;simp only [e,aD,e1,aw,vi cs o (len * es) h2];split at h
      ·rename_i s' hs;have hs':s.new (.cells (bf cs o (len * es)++new) (some es))=some s':=hs;simp only [hs']; exact⟨_,_,rfl,h⟩
      ·exact dG
   ·rename_i b o len d;split at h
    case h_2=>exact h.elim
    rename_i cs es' hb';simp only [hb'];rw [jV,lR] at h;obtain⟨h0,h1,h⟩:=h;have h1:=(show bN _ from h1);rw [bv,bv,bv] at h1;obtain⟨k1,k2,k3,_⟩:=h1;have e1:Nat.beq (d * es) o=true:=k1;have e2:Nat.ble (len+n) 1000000=true:=k2;have h2:=eC.1 k3;simp only [aa,aJ,aG] at h2;simp only [h0,e1,e2,qR,aw,vi cs o (len * es) h2];split at h
    ·rename_i s1 hs1;simp only [hs1];split at h
     ·rename_i s' hs;have hs':s1.new (.cells (bf cs o (len * es)++new) (some es))=some s':=hs;simp only [hs']; exact⟨_,_,rfl,h⟩
     ·exact dG
    ·exact dG
   ·exact dG
theorem XK {s:St} {t:TypeId} {b o:Nat} {v:LV} {K:St→Prop} (h:Ek P s t b o v K):∃ s',vm P s t b o v=some s'∧K s':=by
 unfold Ek at h;unfold vm;split at h
 ·rename_i cs op vs n h1 h2 h3;simp only [h1,h2,h3];rw [jV,jV] at h;obtain⟨k1,k2,h⟩:=h;have k2:=eC.1 k2;simp only [aa,aG] at k2;have hl:vs.length=n:=by simpa [b7] using k1
  simp only [k1,aw,rQ cs o vs ab];split at h
  ·rename_i s' hs; simp only [hs]; exact⟨_,rfl,h⟩
  ·exact dG
 ·exact dG
theorem Xn {s:St} {ts:List TypeId} {x y:LV} {K:LV→St→Prop} (h:DJ P s ts x y K):∃ v s',uY P s ts x y=some (v,s')∧K v s':=by
 unfold DJ at h;unfold uY;split at h
 case h_2=>exact h.elim
 rename_i t ts';split at h
 case h_2=>exact h.elim
 rename_i elem ht;simp only [ht];split at h
 case h_2=>exact h.elim
 rename_i es dl sl hes hdl hsl;simp only [hes,hdl,hsl];split at h
 case h_2=>exact h.elim
 rename_i y' hy;have hy2:vq y (Nat.min sl dl)=some y':=hy;simp only [hy2];split at h
 case h_2=>exact h.elim
 rename_i bs new hx;rw [lR] at h;obtain⟨hbs,h⟩:=h;simp only [yG hx hbs];split at h
 case h_2=>exact h.elim
 split at h
 case h_2=>exact h.elim
 rename_i cs op hcs;simp only [hcs];rw [jV] at h;obtain⟨h1,h⟩:=h;have h1':=eC.1 h1;simp only [aa,aG] at h1';rw [rQ cs _ new h1'];simp only [];split at h
 case h_2=>exact h.elim
 rename_i s' hs;simp only [hs];exact⟨_,_,rfl,h⟩
theorem XI {s:St} {src dst:TypeId} {x:LV} {K:LV→St→Prop} (h:Ei P s src dst x K):∃ v s',oB P s src dst x=none∧vl P s src dst x=some (v,s')∧K v s':=by
 unfold Ei at h;split at h
 ·rename_i d e t e1 e2;cases hu:n8 P e with
  | false=>simp [hu] at h
  | true =>
    simp only [hu,aw] at h;rw [lR] at h;obtain⟨hb,h⟩:=h;have hb:=(show bN _ from hb);rw [bv] at hb;have q1:Nat.ble t.length 1000000=true:=hb.1;split at h
    ·rename_i s' hs;refine⟨_,_,?_,?_,h⟩
     ·unfold oB mS xx;rw [e1,e2];cases d <;> rfl
     ·have h0:xN P s src dst (.str t)=none:=by
       unfold xN;rw [e1,e2];simp only [Ii hu,Bool.false_and,aD]
      unfold vl;rw [h0];unfold Af;rw [e1,e2];simp only [hu,q1,qR,aw];rw [show((qr t).map fun n=>LV.int .i32 n)=xk t from rfl,hs];rfl
    ·exact dG
 ·exact dG
theorem X3 {s:St} {t:TypeId} {l c:LV} {K:LV→St→Prop} (h:FC P s t l c K):∃ v s',sf P s t l c=some (v,s')∧K v s':=by
 unfold FC at h;split at h
 ·rename_i elem k n k' m hu;split at h
  ·rename_i size zero bytes h1 h2 h3;rw [jV,lR] at h;obtain⟨h0,hb,h⟩:=h;have hb:=(show bN _ from hb);rw [bv,bv,bv,bv] at hb;obtain⟨q1,q2,q3,q4,_⟩:=hb;have e1:=xX q1;have e2:=xX q2;have q3:Nat.ble (ae n) (ae m)=true:=q3;have q4:Nat.ble (ae m) 100000=true:=q4;simp only [bg] at h0;unfold sf;rw [hu,e1,e2];simp only [h1,h2,h3,h0.1.1,h0.1.2,h0.2,q3,q4,qR,aw];split at h
   ·rename_i s' hs;have hs':s.new (.cells (gQ (ae m) zero) none)=some s':=hs;simp only [hs']; exact⟨_,_,rfl,h⟩
   ·exact dG
  ·exact dG
 ·exact dG
theorem WN {ev:Operand→Option LV} {o:Op} {s:St} {K:LN→St→Prop} (h:BS P ev o s K):∃ n s',gT P ev o s=some (n,s')∧K n s':=by
 unfold BS at h;unfold gT;cases hL:bm o with
 | true =>
   simp only [hL] at h ⊢;split at h
   ·rename_i c a b;split at h
    ·rename_i q x y h1 h2 h3;cases q with
     | true=>exact⟨_,_,by simp only [fH,h1,h2],h⟩
     | false=>exact⟨_,_,by simp only [fH,h1,h3],h⟩
    ·exact dG
   ·split at h
    ·rename_i bs v hv;rw [lR] at h;exact⟨_,_,by rw [LG hv h.1 (.inl hL)],h.2⟩
    ·exact dG
 | false =>
   simp only [hL] at h ⊢;split at h
   ·split at h
    ·rename_i h1 h2;obtain⟨s',k1,k2⟩:=XK h;exact⟨_,_,by simp only [h1,h2,k1],k2⟩
    ·exact dG
   ·split at h
    ·rename_i h1 h2;obtain⟨v,s',k1,k2⟩:=X3 h;exact⟨_,_,by simp only [h1,h2,k1],k2⟩
    ·exact dG
   ·split at h
    ·rename_i h1;split at h
     ·rename_i h2;rw [lR] at h;exact⟨_,_,by simp only [h1,Mf h2 h.1],h.2⟩
     ·obtain⟨v,s',k1,k2,k3⟩:=XI h;exact⟨_,_,by simp only [h1,k1,k2],k3⟩
    ·exact dG
   ·rename_i c;split at h
    ·rename_i hc;split at h
     ·rename_i h1;obtain⟨v,s',k1,k2⟩:=XQ h;exact⟨_,_,by simp only [rL,h1,hc,k1],k2⟩
     ·exact dG
    ·rename_i hc;split at h
     ·rename_i h1;obtain⟨v,s',k1,k2⟩:=Xn h;exact⟨_,_,by simp only [rL,h1,hc,k1],k2⟩
     ·exact dG
    ·exact dG
    ·split at h
     ·rename_i h1; exact⟨_,_,h1,h⟩
     ·exact dG
   ·split at h
    ·rename_i h1;split at h
     ·rename_i l pos hb;simp only [hL,h1,hb];cases hc:ag (aa pos 1) (am l) with
      | true =>
        rw [hc] at h;have hc':Nat.ble (pos+1) l.length=true:=hc;rw [hc'];simp only [aw] at h ⊢;split at h
        ·rename_i s' hs;have hs':s.put _ (.iter l (pos+(Utf8.decode ⟨l.toArray⟩ pos).2))=some s':=hs;simp only [hs'];exact⟨_,_,rfl,h⟩
        ·exact dG
      | false =>
        rw [hc] at h;have hc':Nat.ble (pos+1) l.length=false:=hc;rw [hc'];simp only [aD] at h ⊢;exact⟨_,_,rfl,h⟩
     ·exact dG
    ·exact dG
   ·rename_i n1 n2 n3 n4 n5;split at h
    ·rename_i n s' h1;refine⟨n,s',?_,h⟩;unfold gT at h1;simp only [hL] at h1;exact h1
    ·exact dG
def I4 (ops:Array Oper) (o:Oper):Option (Option Nat×Bool) :=
 match o.guard with
 | none=>none
 | some (j,want)=>match ops[j]? with
   | some g=>some (g.dst,want)
   | none=>some (none,want)
def zM (call:Nat→al→St→(LV→St→Prop)→Prop) (P:Program) (tm:Tm) (o:Oper) (s:St) (K:LV→St→Prop):Prop :=
 BS P (f9 (aQ tm)) o.op s fun n s'=>match n with
  | .val v=>K v s'
  | .skip=>K .undef s'
  | .enter f args=>call f args s' K
def Dl (call:Nat→al→St→(LV→St→Prop)→Prop) (P:Program) (ops:Array Oper) (tm:Tm) (o:Oper) (s:St) (K:Tm→LV→St→Prop):Prop :=
 match I4 ops o with
 | none=>zM call P tm o s (K tm)
 | some (none,_)=>K tm .undef s
 | some (some d,want)=>match aQ tm d with
   | .bool b=>cond b
     (match tm.set 16 d (.bool true) with | some tm'=>(match want with | true=>zM call P tm' o s (K tm') | false=>K tm' .undef s) | none=>False)
     (match tm.set 16 d (.bool false) with | some tm'=>(match want with | false=>zM call P tm' o s (K tm') | true=>K tm' .undef s) | none=>False)
   | .any=>False
   | .unb=>False
   | _=>K tm .undef s
def tf (call:Nat→al→St→(LV→St→Prop)→Prop) (P:Program) (nt:Nat) (ops:Array Oper):List Oper→Tm→St→List Rc→(Tm→St→List Rc→Prop)→Prop
 | [],tm,s,rs,K=>K tm s rs
 | o::rest,tm,s,rs,K=>Dl call P ops tm o s fun tm v s' =>
   match md nt tm o.dst v with
   | some tm'=>tf call P nt ops rest tm' s' (⟨tm,s,v⟩::rs) K
   | none=>False
theorem Tr.i3w {α : Type}:∀ (d:Nat) (t t':Tr α) (n:Nat) (b : α),Tr.set d t n b=some t'→t.get n=some b→t'=t
 | 0,t,t',n,b,h,hg=>by simp [Tr.set] at h
 | d+1,.leaf,t',n,b,h,hg=>by simp [Tr.i3p] at hg
 | d+1,.node l v r,t',n,b,h,hg=>by
   have e0:Nat.beq n 0=decide (n=0):=b7 n 0;have e1:Nat.beq (Nat.mod n 2) 1=decide (n % 2=1):=by
    have:Nat.mod n 2=n % 2:=rfl;rw [this]; exact b7 _ _
   have e2:Nat.div (Nat.sub n 1) 2=(n - 1) / 2:=rfl;rw [Tr.i4b] at hg;simp only [Tr.set,e0,e1,e2] at h;by_cases h0:n=0
   ·simp [h0] at h hg; subst h; rw [hg]
   ·rw [av h0] at hg;simp only [h0,fX,aD] at h;by_cases h1:n % 2=1
    ·rw [aB h1] at hg;simp only [h1,bD,aw] at h;cases hs:Tr.set d l ((n - 1) / 2) b with
     | none=>simp [hs] at h
     | some u=>simp [hs] at h; subst h; rw [Tr.i3w d l u _ b hs hg]
    ·rw [av h1] at hg;simp only [h1,fX,aD] at h;cases hs:Tr.set d r ((n - 1) / 2) b with
     | none=>simp [hs] at h
     | some u=>simp [hs] at h; subst h; rw [Tr.i3w d r u _ b hs hg]
theorem LC {tm:Tm} {d:Nat} {v:LV} (h:aQ tm d=v) (hv:v≠.undef):tm.get d=some v:=by
 unfold aQ at h;cases hg:tm.get d with
 | none=>rw [hg] at h; exact absurd h.symm hv
 | some u=>rw [hg] at h; simpa using h
def xq (xcall:Nat→al→St→(LV→St→Prop)→Prop) (call:Nat→al→St→Option (LV×St)):Prop :=
 ∀ f args s K,xcall f args s K→∃ v s',call f args s=some (v,s')∧K v s'
theorem FD {xcall:Nat→al→St→(LV→St→Prop)→Prop} {call:Nat→al→St→Option (LV×St)} (hc:xq xcall call) {tm:Tm} {o:Oper} {s:St} {K:LV→St→Prop} (h:zM xcall P tm o s K) :
  ∃ v s',(match gT P (f9 (aQ tm)) o.op s with
  | some (.val v,s')=>some (v,s')
  | some (.skip,s')=>some (.undef,s')
  | some (.enter f args,s')=>call f args s'
  | none=>none)=some (v,s')∧K v s':=by
 obtain⟨n,s',h1,h2⟩:=WN h;rw [h1];cases n with
 | val v=>exact⟨v,s',rfl,h2⟩
 | skip=>exact⟨_,s',rfl,h2⟩
 | enter f args =>
   obtain⟨v,s2,k1,k2⟩:=hc f args s' K h2;exact⟨v,s2,k1,k2⟩
theorem W6 {xcall:Nat→al→St→(LV→St→Prop)→Prop} {call:Nat→al→St→Option (LV×St)} (hc:xq xcall call) {ops:Array Oper} {tm:Tm} {o:Oper} {s:St} {K:Tm→LV→St→Prop} (h:Dl xcall P ops tm o s K) :
  ∃ v s',dH call P ops (aQ tm) o s=some (v,s')∧K tm v s':=by
 unfold Dl I4 at h;unfold dH mh lP;cases hg:o.guard with
 | none =>
   simp only [hg] at h ⊢;exact FD hc h
 | some jw =>
   obtain⟨j,want⟩:=jw;simp only [hg] at h ⊢;cases hj:ops[j]? with
   | none=>simp only [hj] at h ⊢; exact⟨_,_,rfl,h⟩
   | some g =>
     simp only [hj] at h ⊢;cases hd:g.dst with
     | none=>simp only [hd] at h ⊢; exact⟨_,_,rfl,h⟩
     | some d =>
       simp only [hd] at h ⊢;split at h
       ·rename_i b hb;simp only [hb];cases b with
        | true =>
          simp only [aw] at h;split at h
          ·rename_i tm' ht;have:=Tr.i3w _ _ _ _ _ ht (LC hb (by simp [LV.undef]));subst this;cases want with
           | true=>exact FD hc h
           | false=>exact⟨_,_,rfl,h⟩
          ·exact dG
        | false =>
          simp only [aD] at h;split at h
          ·rename_i tm' ht;have:=Tr.i3w _ _ _ _ _ ht (LC hb (by simp [LV.undef]));subst this;cases want with
           | false=>exact FD hc h
           | true=>exact⟨_,_,rfl,h⟩
          ·exact dG
       iterate 2
        ·exact dG
       ·rename_i n1 n2 n3;split
        ·rename_i e; first | (cases e; done) | (split at e <;> simp_all)
        ·split
         ·exact⟨_,_,rfl,h⟩
         ·rename_i e; first | (cases e; done) | (split at e <;> simp_all)
theorem yA {xcall:Nat→al→St→(LV→St→Prop)→Prop} {call:Nat→al→St→Option (LV×St)} (hc:xq xcall call) {nt:Nat} {ops:Array Oper}:∀ {l:List Oper} {tm:Tm} {s:St} {rs:List Rc} {K:Tm→St→List Rc→Prop},tf xcall P nt ops l tm s rs K →
  ∃ tm' s' rs',jk call P nt ops l tm s rs=some (tm',s',rs')∧K tm' s' rs'
 | [],tm,s,rs,K,h=>⟨tm,s,rs,rfl,h⟩
 | o::l,tm,s,rs,K,h=>by
   simp only [tf] at h;obtain⟨v,s',h1,h2⟩:=W6 hc h;simp only [jk,h1];split at h2
   ·rename_i tm' ht;simp only [ht];exact yA hc h2
   ·exact h2.elim
end
section
open Go.RowKit
noncomputable section
variable {P:Program}
mutual
def fN:LV→LV→List Bool
 | .bool a,.bool b=>[ge a b]
 | .int j a,.int k b=>[decide (j=k),ad .eql a b]
 | .str a,.str b=>[bA .eql a b]
 | .nilp,.nilp=>[]
 | .ptr a b,.ptr c d=>[Nat.beq a c,bR b d]
 | .gptr a b,.gptr c d=>[Nat.beq a c,bR b d]
 | .nils,.nils=>[]
 | .sle,.sle=>[]
 | .sl a b c d,.sl a' b' c' d'=>[Nat.beq a a',bR b b',bR c c',bR d d']
 | .slo a b c d,.slo a' b' c' d'=>[Nat.beq a a',bR b b',bR c c',bR d d']
 | .nilFunc,.nilFunc=>[]
 | .nilIface,.nilIface=>[]
 | .iface t a,.iface u b=>Nat.beq t u::fN a b
 | .agg a,.agg b=>tE a b
 | .tup a,.tup b=>tE a b
 | .val a,.val b=>[HE a b]
 | _,_=>[false]
def tE:al→al→List Bool
 | [],[]=>[]
 | a::as,b::bs=>fN a b++tE as bs
 | _,_=>[false]
end
mutual
theorem Fz:∀ {a b:LV},bN (fN a b)→LV.eqb a b=true
 | .bool a,b,h=>by cases b <;> simp [fN,bN] at h; simpa [LV.eqb,ge] using h
 | .int j a,b,h=>by cases b <;> simp [fN,bN] at h; simpa [LV.eqb,ad,o5] using h
 | .str a,b,h=>by cases b <;> simp [fN,bN] at h; simpa [LV.eqb,bA,tz] using h
 | .nilp,b,h=>by cases b <;> simp [fN,bN] at h; rfl
 | .ptr a c,b,h=>by cases b <;> simp [fN,bN] at h; simpa [LV.eqb,bR] using h
 | .gptr a c,b,h=>by cases b <;> simp [fN,bN] at h; simpa [LV.eqb,bR] using h
 | .nils,b,h=>by cases b <;> simp [fN,bN] at h; rfl
 | .sle,b,h=>by cases b <;> simp [fN,bN] at h; rfl
 | .any,b,h=>by cases b <;> simp [fN,bN] at h
 | .unb,b,h=>by cases b <;> simp [fN,bN] at h
 | .val _,b,h=>by cases b <;> simp [fN,bN] at h; simpa [LV.eqb,HE] using h
 | .sln _,b,h=>by cases b <;> simp [fN,bN] at h
 | .vp _ _,b,h=>by cases b <;> simp [fN,bN] at h
 | .fact _,b,h=>by cases b <;> simp [fN,bN] at h
 | .sl _ _ _ _,b,h=>by cases b <;> simp [fN,bN] at h; simpa [LV.eqb,bR,and_assoc] using h
 | .slo _ _ _ _,b,h=>by cases b <;> simp [fN,bN] at h; simpa [LV.eqb,bR,and_assoc] using h
 | .fn _ _,b,h=>by cases b <;> simp [fN,bN] at h
 | .nilFunc,b,h=>by cases b <;> simp [fN,bN] at h; rfl
 | .nilIface,b,h=>by cases b <;> simp [fN,bN] at h; rfl
 | .iface t a,.iface u b,h=>by
   simp only [fN,bv] at h;simp only [LV.eqb,h.1,Fz h.2,qR]
 | .agg a,.agg b,h=>by simp only [fN] at h; simp only [LV.eqb]; exact FK h
 | .tup a,.tup b,h=>by simp only [fN] at h; simp only [LV.eqb]; exact FK h
 | .iface _ _,.bool _,h | .iface _ _,.int _ _,h | .iface _ _,.str _,h | .iface _ _,.nilp,h | .iface _ _,.ptr _ _,h | .iface _ _,.gptr _ _,h | .iface _ _,.nils,h | .iface _ _,.sle,h | .iface _ _,.any,h | .iface _ _,.unb,h | .iface _ _,.val _,h | .iface _ _,.sln _,h | .iface _ _,.vp _ _,h | .iface _ _,.fact _,h | .iface _ _,.sl _ _ _ _,h | .iface _ _,.slo _ _ _ _,h | .iface _ _,.fn _ _,h | .iface _ _,.nilFunc,h | .iface _ _,.nilIface,h | .iface _ _,.agg _,h | .iface _ _,.tup _,h=>by simp [fN,bN] at h
 | .agg _,.bool _,h | .agg _,.int _ _,h | .agg _,.str _,h | .agg _,.nilp,h | .agg _,.ptr _ _,h | .agg _,.gptr _ _,h | .agg _,.nils,h | .agg _,.sle,h | .agg _,.any,h | .agg _,.unb,h | .agg _,.val _,h | .agg _,.sln _,h | .agg _,.vp _ _,h | .agg _,.fact _,h | .agg _,.sl _ _ _ _,h | .agg _,.slo _ _ _ _,h | .agg _,.fn _ _,h | .agg _,.nilFunc,h | .agg _,.nilIface,h | .agg _,.iface _ _,h | .agg _,.tup _,h=>by simp [fN,bN] at h
 | .tup _,.bool _,h | .tup _,.int _ _,h | .tup _,.str _,h | .tup _,.nilp,h | .tup _,.ptr _ _,h | .tup _,.gptr _ _,h | .tup _,.nils,h | .tup _,.sle,h | .tup _,.any,h | .tup _,.unb,h | .tup _,.val _,h | .tup _,.sln _,h | .tup _,.vp _ _,h | .tup _,.fact _,h | .tup _,.sl _ _ _ _,h | .tup _,.slo _ _ _ _,h | .tup _,.fn _ _,h | .tup _,.nilFunc,h | .tup _,.nilIface,h | .tup _,.iface _ _,h | .tup _,.agg _,h=>by simp [fN,bN] at h
theorem FK:∀ {a b:al},bN (tE a b)→aU a b=true
 | [],[],h=>rfl
 | a::as,b::bs,h=>by
   simp only [tE,iv] at h;simp only [aU,Fz h.1,FK h.2,qR]
 | [],_::_,h=>by simp [tE,bN] at h
 | _::_,[],h=>by simp [tE,bN] at h
end
def vR (P:Program) (ops:Array Oper) (o:Oper) (tm:Nat→LV) (v:LV) (s:St):List Bool :=
 match lP ops tm o with
 | false=>[]
 | true=>match zN P (f9 tm) o.op s with
   | some (bs,u)=>bs++fN u v
   | none=>[false]
theorem Bi {ops:Array Oper} {o:Oper} {tm:Nat→LV} {v:LV} {s:St} (hL:bm o.op=true) (h:bN (vR P ops o tm v s)):gZ P ops o tm v s=true:=by
 unfold vR at h;unfold gZ;split at h
 ·rename_i e; rw [e]
 ·rename_i e;rw [e];split at h
  ·rename_i bs u hv;rw [iv] at h;simp only [LG hv h.1 (.inl hL)];exact Fz h.2
  ·simp [bN] at h
def tP (P:Program) (ops:Array Oper) (b:Array Nat) (o:Oper) (k:Nat) (tm:Nat→LV) (v:LV):Nat→List Oper→List St→List Bool
 | j,h::hs,s::s'::ss =>
   cond (bm h.op || (b.getD j 0).testBit k || (b.getD k 0).testBit j) (tP P ops b o k tm v (j+1) hs (s'::ss))
    (vR P ops o tm v s++(vR P ops o tm v s'++tP P ops b o k tm v (j+1) hs (s'::ss)))
 | _,[],_=>[]
 | _,_,_=>[false]
theorem FV {ops:Array Oper} {b:Array Nat} {o:Oper} {k:Nat} {tm:Nat→LV} {v:LV} (hL:bm o.op=true):∀ {hs:List Oper} {j:Nat} {ss:List St},bN (tP P ops b o k tm v j hs ss)→rU P ops b o k tm v j hs ss=true
 | [],j,ss,h=>by cases ss <;> simp [rU]
 | x::hs,j,[],h=>by simp [tP,bN] at h
 | x::hs,j,[_],h=>by simp [tP,bN] at h
 | x::hs,j,s::s'::ss,h=>by
   simp only [tP] at h;simp only [rU];cases hc:(bm x.op || (b.getD j 0).testBit k || (b.getD k 0).testBit j) with
   | true =>
     simp only [hc,aw] at h;simp only [Bool.true_or,li];exact FV hL h
   | false =>
     simp only [hc,aD,iv] at h;simp only [mp,Bi hL h.1,Bi hL h.2.1,qR,li];exact FV hL h.2.2
def tF (P:Program) (ops:Array Oper) (b:Array Nat) (ss:List St):Nat→List Oper→List Rc→List Bool
 | k,o::rest,r::rs=>cond (iT o.op) (tP P ops b o k (aQ r.tm) r.v 0 ops.toList ss++tF P ops b ss (k+1) rest rs) (tF P ops b ss (k+1) rest rs)
 | _,[],[]=>[]
 | _,_,_=>[false]
theorem LR {o:Op} (h:iT o=true):bm o=true:=by cases o <;> simp [iT] at h <;> rfl
theorem FL {ops:Array Oper} {b:Array Nat} {ss:List St}:∀ {l:List Oper} {k:Nat} {rs:List Rc},bN (tF P ops b ss k l rs)→rR P ops b ss k l rs=true
 | [],k,[],h=>rfl
 | [],k,_::_,h=>by simp [tF,bN] at h
 | _::_,k,[],h=>by simp [tF,bN] at h
 | o::l,k,r::rs,h=>by
   simp only [tF] at h;simp only [rR];cases hl:iT o.op with
   | true =>
     simp only [hl,aw,iv] at h;simp only [oM,mp,FV (LR hl) h.1,li];exact FL h.2
   | false =>
     simp only [hl,aD] at h;simp only [pH,Bool.true_or,li];exact FL h
def tY (P:Program) (ops:Array Oper) (b:Array Nat) (o:Oper) (k:Nat) (tm:Nat→LV) (v:LV):List (Oper×Nat)→List St→List Bool
 | h::hs,s::s'::ss =>
   cond (bm h.1.op || bO b h.2 k || bO b k h.2) (tY P ops b o k tm v hs (s'::ss))
    (vR P ops o tm v s++(vR P ops o tm v s'++tY P ops b o k tm v hs (s'::ss)))
 | [],_=>[]
 | _,_=>[false]
theorem FZ {ops:Array Oper} {b:Array Nat} {o:Oper} {k:Nat} {tm:Nat→LV} {v:LV} (hL:bm o.op=true):∀ {hs:List (Oper×Nat)} {ss:List St},bN (tY P ops b o k tm v hs ss)→rZ P ops b o k tm v hs ss=true
 | [],ss,h=>by cases ss <;> simp [rZ]
 | x::hs,[],h=>by simp [tY,bN] at h
 | x::hs,[_],h=>by simp [tY,bN] at h
 | x::hs,s::s'::ss,h=>by
   simp only [tY] at h;simp only [rZ];cases hc:(bm x.1.op || bO b x.2 k || bO b k x.2) with
   | true =>
     simp only [hc,aw] at h;simp only [Bool.true_or,li];exact FZ hL h
   | false =>
     simp only [hc,aD,iv] at h;simp only [mp,Bi hL h.1,Bi hL h.2.1,qR,li];exact FZ hL h.2.2
def rT (P:Program) (ops:Array Oper) (b:Array Nat) (W:List (Oper×Nat)) (ss:List St):List (Oper×Nat)→List Rc→List Bool
 | u::rest,r::rs=>cond (iT u.1.op) (tY P ops b u.1 u.2 (aQ r.tm) r.v W ss++rT P ops b W ss rest rs) (rT P ops b W ss rest rs)
 | [],[]=>[]
 | _,_=>[false]
theorem Be {ops:Array Oper} {b:Array Nat} {W:List (Oper×Nat)} {ss:List St}:∀ {l:List (Oper×Nat)} {rs:List Rc},bN (rT P ops b W ss l rs)→qA P ops b W ss l rs=true
 | [],[],h=>rfl
 | [],_::_,h=>by simp [rT,bN] at h
 | _::_,[],h=>by simp [rT,bN] at h
 | o::l,r::rs,h=>by
   simp only [rT] at h;simp only [qA];cases hl:iT o.1.op with
   | true =>
     simp only [hl,aw,iv] at h;simp only [oM,mp,FZ (LR hl) h.1,li];exact Be h.2
   | false =>
     simp only [hl,aD] at h;simp only [pH,Bool.true_or,li];exact Be h
def KC (call:Nat→al→St→(LV→St→Prop)→Prop) (P:Program) (nt:Nat) (ops:Array Oper) (tm:Tm) (s:St) (K:Tm→St→Prop):Prop :=
 match r7 (CheckFast.beforeF ops) ops.toList.zipIdx ops.toList.zipIdx with
 | none=>False
 | some (A0,x,B0)=>match r5 (CheckFast.beforeF ops) x.2 B0 with
   | (B1,B2) =>
     cond (P.follows .mixedOrders && lL ops && Region.noSelect ops && qw x.1.op && x.1.guard.isNone && x.1.dst.isSome && tW ops (CheckFast.beforeF ops) x.2 ((A0++B1)++x::B2) && xW (CheckFast.beforeF ops) x.2 (A0++B1) B2)
      (tf call P nt ops (((A0++B1)++x::B2).map (·.1)) tm s [] fun tm' s' rs =>
       ko (rT P ops (CheckFast.beforeF ops) ((A0++B1)++x::B2) ((s'::rs.map (·.s)).reverse) ((A0++B1)++x::B2) rs.reverse) (K tm' s')) False
def EV (call:Nat→al→St→(LV→St→Prop)→Prop) (P:Program) (nt:Nat) (ops:Array Oper) (draw:Bool) (tm:Tm) (s:St) (K:Tm→St→Prop):Prop :=
 match draw with
 | false=>tf call P nt ops ops.toList tm s [] fun tm' s' _=>K tm' s'
 | true=>cond (P.follows .mixedOrders && vA ops)
   (tf call P nt ops ops.toList tm s [] fun tm' s' rs=>ko (tF P ops (Go.CheckFast.beforeF ops) ((s'::rs.map (·.s)).reverse) 0 ops.toList rs.reverse) (K tm' s'))
   (KC call P nt ops tm s K)
theorem XR {xcall:Nat→al→St→(LV→St→Prop)→Prop} {call:Nat→al→St→Option (LV×St)} (hc:xq xcall call) {nt:Nat} {ops:Array Oper} {d:Bool} {tm:Tm} {s:St} {K:Tm→St→Prop} (h:EV xcall P nt ops d tm s K) :
  ∃ tm' s',vz call P nt ops d tm s=some (tm',s')∧K tm' s':=by
 unfold EV at h;unfold vz;cases d with
 | false =>
   simp only at h ⊢;obtain⟨tm',s',rs,h1,h2⟩:=yA hc h;exact⟨tm',s',by simp only [h1],h2⟩
 | true =>
   simp only at h ⊢;cases ho:(P.follows .mixedOrders && vA ops) with
   | true =>
     simp only [ho,aw] at h ⊢;obtain⟨tm',s',rs,h1,h2⟩:=yA hc h;rw [lR] at h2;exact⟨tm',s',by simp only [h1,FL h2.1,aw],h2.2⟩
   | false =>
     simp only [ho,aD] at h ⊢;unfold KC at h;unfold yj;split at h
     ·exact dG
     ·rename_i A0 x B0 hf;split at h;rename_i B1 B2 hs;rw [jV] at h;obtain⟨hk,h⟩:=h;obtain⟨tm',s',rs,h1,h2⟩:=yA hc h;rw [lR] at h2;refine⟨tm',s',?_,h2.2⟩;simp only [hf,hs,h1,hk,Be h2.1,qR,aw]
abbrev Cx:=Nat→Option (al→St→Option (List Bool×LV×St))
def uB:List Bool→Bool
 | []=>true
 | b::bs=>b && uB bs
theorem EX:∀ {bs:List Bool},uB bs=true↔bN bs
 | []=>by simp [uB,bN]
 | b::bs=>by simp [uB,bv,EX]
def cv (cx:Cx):sq:=fun f=>match cx f with
 | some g=>some fun args s=>match g args s with
   | some (bs,v,s')=>(match uB bs with | true=>some (v,s') | false=>none)
   | none=>none
 | none=>none
def r6 (P:Program) (tm:Nat→LV) (s:St):List ResultVar→Option (List Bool×al)
 | []=>some ([],[])
 | .tmp t::rest=>(match r6 P tm s rest with | some (bs,vs)=>some (bs,tm t::vs) | none=>none)
 | .cell a t::rest=>(match tm a,r6 P tm s rest with
   | .ptr b o,some (bs,vs)=>(match z5 P s t b o with | some (cs,v)=>some (cs++bs,v::vs) | none=>none)
   | _,_=>none)
theorem Bj {tm:Nat→LV} {s:St}:∀ {l:List ResultVar} {bs:List Bool} {vs:al},r6 P tm s l=some (bs,vs)→bN bs→gm P tm s l=some vs
 | [],bs,vs,h,hb=>by simp [r6] at h; simp [gm,h.2]
 | .tmp t::l,bs,vs,h,hb=>by
   simp only [r6] at h;cases hr:r6 P tm s l with
   | none=>simp [hr] at h
   | some p =>
     obtain⟨cs,us⟩:=p;simp only [hr,a8,bn] at h;obtain⟨rfl,rfl⟩:=h;simp only [gm,Bj hr hb]
 | .cell a t::l,bs,vs,h,hb=>by
   simp only [r6] at h;split at h
   ·rename_i b o cs us ha hr;split at h
    ·rename_i ds v hv;simp only [a8,bn] at h;obtain⟨rfl,rfl⟩:=h;rw [iv] at hb;simp only [gm,ha,Bj hr hb.2,LQ hv hb.1]
    ·simp at h
   ·simp at h
mutual
def aX (P:Program) (cx:Cx):Nat→Nat→Code→Tm→St→(LX→Tm→St→Prop)→Prop
 | 0,_,_,_,_,_=>False
 | n+1,nt,c,tm,s,K =>
   match c with
   | .skip=>K .normal tm s
   | .label _=>K .normal tm s
   | .region _ ops d=>EV (fG P cx n) P nt ops d tm s fun tm' s'=>K .normal tm' s'
   | .seq a b=>aX P cx n nt a tm s fun x tm' s'=>match x with
     | .normal=>aX P cx n nt b tm' s' K
     | x=>K x tm' s'
   | .cond x a b=>(match f9 (aQ tm) x with
     | some (.bool q)=>cond q (aX P cx n nt a tm s K) (aX P cx n nt b tm s K)
     | _=>False)
   | .block id b=>aX P cx n nt b tm s fun x tm' s'=>match x with
     | .exit k=>cond (Nat.beq k id) (K .normal tm' s') (K (.exit k) tm' s')
     | x=>K x tm' s'
   | .loop b=>aX P cx n nt b tm s fun x tm' s'=>match x with
     | .normal=>aX P cx n nt (.loop b) tm' s' K
     | x=>K x tm' s'
   | .exit id=>K (.exit id) tm s
   | .ret=>K .ret tm s
   | _=>False
def fG (P:Program) (cx:Cx):Nat→Nat→al→St→(LV→St→Prop)→Prop
 | 0,_,_,_,_=>False
 | n+1,f,args,s,K =>
   match cx f with
   | some g=>(match g args s with | some (bs,v,s')=>ko bs (K v s') | none=>False)
   | none =>
   match P.funcs[f]? with
   | none=>False
   | some fn=>match fn.body,ib args 0 .leaf with
     | some c,some tm=>cond (Nat.ble args.length fn.ntmps) (aX P cx n fn.ntmps c tm s fun x tm' s'=>match x with
       | .exit _=>False
       | _=>match r6 P (aQ tm') s' fn.results.toList with | some (bs,vs)=>ko bs (K (mj vs) s') | none=>False) False
     | _,_=>False
end
theorem xC {cx:Cx}:∀ n,(∀ nt c tm s K,aX P cx n nt c tm s K→∃ x tm' s',dI P (cv cx) n nt c tm s=some (x,tm',s')∧K x tm' s')∧xq (fG P cx n) (mb P (cv cx) n):=by
 intro n
 induction n with
 | zero=>exact⟨fun nt c tm s K h=>by simp [aX] at h,fun f args s K h=>by simp [fG] at h⟩
 | succ n ih =>
   obtain⟨ihc,ihf⟩:=ih;constructor
   ·intro nt c tm s K h;cases c with
    | skip=>exact yS
    | label l=>exact yS
    | exit id=>exact yS
    | ret=>exact yS
    | region id ops d =>
      simp only [aX] at h;obtain⟨tm',s',h1,h2⟩:=XR ihf h;exact⟨_,_,_,by simp only [dI,h1],h2⟩
    | seq a b =>
      simp only [aX] at h;obtain⟨x,tm',s',h1,h2⟩:=ihc _ _ _ _ _ h;cases x with
      | normal =>
        obtain⟨y,tm2,s2,k1,k2⟩:=ihc _ _ _ _ _ h2;exact⟨y,tm2,s2,by simp only [dI,h1]; exact k1,k2⟩
      | exit id=>exact uc
      | ret=>exact uc
    | cond o a b =>
      simp only [aX] at h;split at h
      ·rename_i q he;cases q with
       | true =>
         obtain⟨x,tm',s',h1,h2⟩:=ihc _ _ _ _ _ h;exact⟨x,tm',s',by simp only [dI,he]; exact h1,h2⟩
       | false =>
         obtain⟨x,tm',s',h1,h2⟩:=ihc _ _ _ _ _ h;exact⟨x,tm',s',by simp only [dI,he]; exact h1,h2⟩
      ·exact dG
    | block id b =>
      simp only [aX] at h;obtain⟨x,tm',s',h1,h2⟩:=ihc _ _ _ _ _ h;cases x with
      | normal=>exact uc
      | ret=>exact uc
      | exit k =>
        simp only at h2;cases hk:Nat.beq k id with
        | true=>rw [hk] at h2; exact⟨_,_,_,by simp only [dI,h1,hk,aw],h2⟩
        | false=>rw [hk] at h2; exact⟨_,_,_,by simp only [dI,h1,hk,aD],h2⟩
    | loop b =>
      simp only [aX] at h;obtain⟨x,tm',s',h1,h2⟩:=ihc _ _ _ _ _ h;cases x with
      | normal =>
        obtain⟨y,tm2,s2,k1,k2⟩:=ihc _ _ _ _ _ h2;exact⟨y,tm2,s2,by simp only [dI,h1]; exact k1,k2⟩
      | exit id=>exact uc
      | ret=>exact uc
    | rangeFunc=>simp [aX] at h
    | scope=>simp [aX] at h
    | goto=>simp [aX] at h
    | refuse=>simp [aX] at h
   ·intro f args s K h;simp only [fG] at h;simp only [mb,cv];cases hx:cx f with
    | some g =>
      simp only [hx] at h ⊢;split at h
      ·rename_i bs v s' hg;rw [lR] at h;exact⟨v,s',by simp only [hg,EX.2 h.1],h.2⟩
      ·exact dG
    | none =>
      simp only [hx] at h ⊢;cases hf:P.funcs[f]? with
      | none=>simp [hf] at h
      | some fn =>
        simp only [hf] at h ⊢;split at h
        ·rename_i c tm hb ht;simp only [hb,ht];rw [jV] at h;obtain⟨hle,h⟩:=h;simp only [hle,aw];obtain⟨x,tm',s',h1,h2⟩:=ihc _ _ _ _ _ h;cases x with
         | exit id=>exact h2.elim
         | normal =>
           simp only at h2;split at h2
           ·rename_i bs vs hr;rw [lR] at h2;exact⟨_,_,by simp only [h1]; simp only [Bj hr h2.1],h2.2⟩
           ·exact h2.elim
         | ret =>
           simp only at h2;split at h2
           ·rename_i bs vs hr;rw [lR] at h2;exact⟨_,_,by simp only [h1]; simp only [Bj hr h2.1],h2.2⟩
           ·exact h2.elim
        ·exact dG
end
end
section
open Go.RowKit
variable {P:Program}
structure c0w (n0:Nat) (r:Ren) (s:St) (w:World) (r':Ren) (s':St) (w':World):Prop where
 le:∀ b x,b < n0→r b=some x→r' b=some x
 n:n0≤s'.n
 size:w.heap.size≤w'.heap.size
 img:∀ B,B < w.heap.size→a4j r' s' B→a4j r s B
 keep:∀ B,B < w.heap.size→¬ a4j r s B→w'.heap[B]? = w.heap[B]?
theorem c0w.of {n0:Nat} {r r':Ren} {s s':St} {w w':World} (h:Ext r s w r' s' w') (hn:n0≤s.n):c0w n0 r s w r' s' w' :=
 ⟨fun b x _ hb=>h.le b x hb,kc hn h.n,h.size,h.img,h.keep⟩
theorem c0w.trans {n0:Nat} {r r' r'':Ren} {s s' s'':St} {w w' w'':World} (h:c0w n0 r s w r' s' w') (k:c0w n0 r' s' w' r'' s'' w''):c0w n0 r s w r'' s'' w'':=by
 refine⟨fun b x hn hb=>k.le b x hn (h.le b x hn hb),k.n,kc h.size k.size,fun B hB ho=>h.img B hB (k.img B (mt hB h.size) ho),fun B hB hno=>?_⟩;rw [k.keep B (mt hB h.size) fun ho=>hno (h.img B hB ho),h.keep B hB hno]
theorem c0w.ext {W0:World} {r r':Ren} {s s':St} {w w':World} (hI:Inv W0 r s w) (h:c0w s.n r s w r' s' w'):Ext r s w r' s' w' :=
 ⟨fun b x hb=>h.le b x (hI.dom b x hb).1 hb,h.n,h.size,h.img,h.keep⟩
def a0n (P:Program) (nt:Nat) (c:Code) (n0:Nat) (tm:Tm) (s:St) (Q:LX→Tm→St→Prop):Prop :=
 ∀ (W0:World) (r:Ren) (a:Act) (w:World),Inv W0 r s w→AR r (aQ tm) nt a→∀ K:Exit→Act→World→Prop,
   (∀ x tm' s' r' a' w',Q x tm' s'→Inv W0 r' s' w'→c0w n0 r s w r' s' w'→AR r' (aQ tm') nt a'→K (tH x) a' w')→c.wp P K a w
def Conv (n0 nt:Nat) (tm:Tm) (s:St) (cO:Tm) (s0:St):Prop :=
 ∀ (W0:World) (r:Ren) (a:Act) (w:World),Inv W0 r s w→AR r (aQ tm) nt a→∃ r0,Inv W0 r0 s0 w∧AR r0 (aQ cO) nt a∧c0w n0 r s w r0 s0 w
theorem a0n.mono {nt n0:Nat} {c:Code} {tm:Tm} {s:St} {Q Q':LX→Tm→St→Prop} (h:a0n P nt c n0 tm s Q) (hq:∀ x tm s,Q x tm s→Q' x tm s):a0n P nt c n0 tm s Q' :=
 fun W0 r a w hI hA K hK=>h W0 r a w hI hA K fun x tm' s' r' a' w' q=>hK x tm' s' r' a' w' (hq _ _ _ q)
theorem a0n.of_x {cx:Cx} (hcx:cT P (cv cx)) {n nt n0:Nat} {c:Code} {tm:Tm} {s:St} {Q:LX→Tm→St→Prop} (hn:n0≤s.n) (h:aX P cx n nt c tm s Q):a0n P nt c n0 tm s Q:=by
 intro W0 r a w hI hA K hK;obtain⟨x,tm',s',h1,h2⟩:=(xC (P:=P) (cx:=cx) n).1 _ _ _ _ _ h;exact(qI hcx n).1 W0 nt c tm tm' s s' x h1 r a w hI hA K fun r' a' w' k1 k2 k3=>hK x tm' s' r' a' w' h2 k1 (c0w.of k2 hn) k3
theorem a0n.conv {nt n0:Nat} {c:Code} {tm cO:Tm} {s s0:St} {Q:LX→Tm→St→Prop} (h:Conv n0 nt tm s cO s0) (k:a0n P nt c n0 cO s0 Q):a0n P nt c n0 tm s Q:=by
 intro W0 r a w hI hA K hK;obtain⟨r0,h1,h2,h3⟩:=h W0 r a w hI hA;exact k W0 r0 a w h1 h2 K fun x tm' s' r' a' w' q1 q2 q3 q4=>hK x tm' s' r' a' w' q1 q2 (h3.trans q3) q4
theorem a0n.seq {nt n0:Nat} {c d:Code} {tm:Tm} {s:St} {Q:LX→Tm→St→Prop} (h:a0n P nt c n0 tm s fun x tm' s'=>match x with
  | .normal=>a0n P nt d n0 tm' s' Q
  | x=>Q x tm' s'):a0n P nt (.seq c d) n0 tm s Q:=by
 intro W0 r a w hI hA K hK;refine wp_seq (h W0 r a w hI hA _ fun x tm' s' r' a' w' q1 q2 q3 q4=>?_);cases x with
 | normal=>exact q1 W0 r' a' w' q2 q4 K fun y tm2 s2 r2 a2 w2 p1 p2 p3 p4=>hK y tm2 s2 r2 a2 w2 p1 p2 (q3.trans p3) p4
 | exit id=>exact yR
 | ret=>exact yR
theorem a0n.block {nt n0 id:Nat} {c:Code} {tm:Tm} {s:St} {Q:LX→Tm→St→Prop} (h:a0n P nt c n0 tm s fun x tm' s'=>match x with
  | .exit k=>cond (Nat.beq k id) (Q .normal tm' s') (Q (.exit k) tm' s')
  | x=>Q x tm' s'):a0n P nt (.block id c) n0 tm s Q:=by
 intro W0 r a w hI hA K hK;refine wp_block (h W0 r a w hI hA _ fun x tm' s' r' a' w' q1 q2 q3 q4=>?_);cases x with
 | normal=>exact hK .normal tm' s' r' a' w' q1 q2 q3 q4
 | ret=>exact hK .ret tm' s' r' a' w' q1 q2 q3 q4
 | exit k =>
   simp only [tH,Exit.inBlock];simp only [b7] at q1;by_cases hk:k=id
   ·simp only [hk,bD,aw] at q1;rw [aB hk]; exact hK .normal tm' s' r' a' w' q1 q2 q3 q4
   ·simp only [hk,fX,aD] at q1;rw [av hk]; exact hK (.exit k) tm' s' r' a' w' q1 q2 q3 q4
theorem a0n.loop {nt n0:Nat} {b:Code} {Q:LX→Tm→St→Prop} {σ : Type} (T : σ→Tm) (H : σ→St) (μ : σ→Nat) (hn:∀ a,n0≤(H a).n)
  (hr:∀ a,a0n P nt b n0 (T a) (H a) fun x tm s=>match x with
   | .normal=>∃ a',μ a' < μ a∧Conv n0 nt tm s (T a') (H a')
   | x=>Q x tm s) (a : σ):a0n P nt (.loop b) n0 (T a) (H a) Q:=by
 intro W0 r act w hI hA K hK;refine wp_loop_ghost (fun m a1 w1=>∃ a',μ a'=m∧∃ r1,Inv W0 r1 (H a') w1∧c0w n0 r (H a) w r1 (H a') w1∧AR r1 (aQ (T a')) nt a1) (μ a) ⟨a,rfl,r,hI,?_,hA⟩ ?_
 ·exact⟨fun b x _ hb=>hb,hn a,aR _,fun _ _ h=>h,fun _ _ _=>rfl⟩
 ·rintro m a1 w1 ⟨a',rfl,r1,hI1,hE1,hA1⟩
  refine hr a' W0 r1 a1 w1 hI1 hA1 _ fun x tm s r2 a2 w2 q1 q2 q3 q4=>?_
  cases x with
  | normal =>
    obtain⟨a2',hlt,hc⟩:=q1;obtain⟨r3,g1,g2,g3⟩:=hc W0 r2 a2 w2 q2 q4;exact⟨_,hlt,a2',rfl,r3,g1,(hE1.trans q3).trans g3,g2⟩
  | exit id=>exact hK _ tm s r2 a2 w2 q1 q2 (hE1.trans q3) q4
  | ret=>exact hK _ tm s r2 a2 w2 q1 q2 (hE1.trans q3) q4
end
section
open Go.RowKit
variable {P:Program}
inductive Src where
 | id (b:Nat)
 | none
 | cap (b o k:Nat)
 | drop (b o d:Nat)
def Src.under:Src→Option Nat
 | .id b=>some b
 | .none=>Option.none
 | .cap b _ _=>some b
 | .drop b _ _=>some b
def Src.ren (r:Ren):Src→Option (Nat×Nat×Nat)
 | .id b=>r b
 | .none=>Option.none
 | .cap b o k=>match r b with | some (B,w,_)=>some (B,w+o,k) | Option.none=>Option.none
 | .drop b o d=>match r b with | some (B,w,c)=>some (B,w+o,c - d) | Option.none=>Option.none
abbrev a4c:=Nat→Option Src
def a4c.ren (ρ : a4c) (r:Ren):Ren:=fun b=>match ρ b with | some s=>s.ren r | none=>none
mutual
def LVW (ρ : a4c):LV→LV→Prop
 | .any,_=>True
 | .unb,.unb=>True
 | .unb,.bool _=>True
 | .bool a,.bool b=>a=b
 | .int k a,.int j b=>k=j∧a=b
 | .str a,.str b=>a=b
 | .val a,.val b=>a=b
 | .val a,.nils=>a=.slice none 0 0
 | .sln n,.sln m=>n=m
 | .sln n,.slo _ _ m _=>n=m
 | .sln n,.sl _ _ m _=>n=m
 | .sln n,.nils=>n=0
 | .nilp,.nilp=>True
 | .vp a k,.vp b j=>a=b∧k=j
 | .gptr g o,.gptr g' o'=>g=g'∧o=o'
 | .ptr b o,.ptr b' o'=>(match ρ b with
   | some (.id c)=>c=b'∧o=o'
   | some (.cap c o1 _)=>c=b'∧o1+o=o'
   | some (.drop c o1 _)=>c=b'∧o1+o=o'
   | _=>False)
 | .nils,.nils=>True
 | .sle,.sle=>True
 | .sle,.nils=>True
 | .sl b o len cap,.sl b' o' len' cap'=>(match ρ b with
   | some (.id c)=>c=b'∧o=o'∧len=len'∧cap=cap'
   | _=>False)
 | .slo b o len d,.slo b' o' len' d'=>(match ρ b with
   | some (.id c)=>c=b'∧o=o'∧len=len'∧d=d'
   | some (.drop c o1 d1)=>c=b'∧o1+o=o'∧len=len'∧d1+d=d'
   | _=>False)
 | .slo b o len d,.sl b' o' len' cap'=>(match ρ b with
   | some (.cap c o1 k)=>c=b'∧o1+o=o'∧len=len'∧d+len≤k∧cap'=k - d
   | _=>False)
 | .slo _ _ len _,.nils=>len=0
 | .slo _ _ len _,.sle=>len=0
 | .nilFunc,.nilFunc=>True
 | .nilIface,.nilIface=>True
 | .iface t a,.iface u b=>t=u∧LVW ρ a b
 | .fn f a,.fn g b=>f=g∧a7h ρ a b
 | .agg a,.agg b=>a7h ρ a b
 | .tup a,.tup b=>a7h ρ a b
 | _,_=>False
def a7h (ρ : a4c):al→al→Prop
 | [],[]=>True
 | a::as,b::bs=>LVW ρ a b∧a7h ρ as bs
 | _,_=>False
end
mutual
theorem LVW.sound {ρ : a4c} {r:Ren}:∀ {l0 l:LV} {v:Value},LVW ρ l0 l→VR r l v→VR (ρ.ren r) l0 v
 | .any,l,v,h,hv=>by simp only [VR]
 | .val a,l,v,h,hv=>by
   cases l <;> simp only [LVW] at h
   ·subst h; simp only [VR] at hv ⊢; subst hv; exact⟨by first | rfl | trivial,_,_,_,rfl⟩
   ·subst h; simpa only [VR] using hv
 | .fact a,l,v,h,hv=>by cases l <;> simp only [LVW] at h
 | .vp a k,l,v,h,hv=>by cases l <;> simp only [LVW] at h; obtain⟨rfl,rfl⟩:=h; simpa only [VR] using hv
 | .sln n,l,v,h,hv=>by
   cases l <;> simp only [LVW] at h <;> simp only [VR] at hv ⊢
   ·subst h; exact⟨none,0,hv⟩
   ·subst h; exact hv
   ·subst h; obtain⟨B,w,c,_,rfl⟩:=hv; exact⟨_,_,rfl⟩
   ·subst h; rcases hv with⟨B,w,c,_,_,rfl⟩ | ⟨h0,rfl | ⟨a,rfl⟩⟩
    ·exact⟨_,_,rfl⟩
    iterate 2
     ·subst h0; exact⟨_,_,rfl⟩
 | .unb,l,v,h,hv=>by
   cases l <;> simp only [LVW] at h <;> simp only [VR] at hv ⊢
   ·rename_i b; cases b <;> simp [hv]
   ·exact hv
 | .bool a,l,v,h,hv=>by cases l <;> simp only [LVW] at h; subst h; simpa only [VR] using hv
 | .int k a,l,v,h,hv=>by cases l <;> simp only [LVW] at h; obtain⟨rfl,rfl⟩:=h; simpa only [VR] using hv
 | .str a,l,v,h,hv=>by cases l <;> simp only [LVW] at h; subst h; simpa only [VR] using hv
 | .nilp,l,v,h,hv=>by cases l <;> simp only [LVW] at h; simpa only [VR] using hv
 | .gptr g o,l,v,h,hv=>by cases l <;> simp only [LVW] at h; obtain⟨rfl,rfl⟩:=h; simpa only [VR] using hv
 | .nils,l,v,h,hv=>by cases l <;> simp only [LVW] at h; simpa only [VR] using hv
 | .sle,l,v,h,hv=>by
   cases l <;> simp only [LVW] at h
   ·simp only [VR] at hv ⊢; exact .inl hv
   ·simpa only [VR] using hv
 | .nilFunc,l,v,h,hv=>by cases l <;> simp only [LVW] at h; simpa only [VR] using hv
 | .nilIface,l,v,h,hv=>by cases l <;> simp only [LVW] at h; simpa only [VR] using hv
 | .fn f cs,l,v,h,hv=>by
   cases l <;> simp only [LVW] at h
   obtain⟨rfl,h⟩:=h;simp only [VR] at hv ⊢;obtain⟨us,rfl,hv⟩:=hv;exact⟨us,rfl,a7h.sound h hv⟩
 | .ptr b o,l,v,h,hv=>by
   cases l <;> simp only [LVW] at h
   rename_i b' o';simp only [VR] at hv ⊢;obtain⟨B,w,c,hr,rfl⟩:=hv;split at h
   ·rename_i c' e; obtain⟨rfl,rfl⟩:=h; exact⟨B,w,c,by simp [a4c.ren,e,Src.ren,hr],rfl⟩
   ·rename_i c' o1 k e; obtain⟨rfl,rfl⟩:=h; exact⟨B,w+o1,k,by simp [a4c.ren,e,Src.ren,hr],by rw [iy]⟩
   ·rename_i c' o1 k e; obtain⟨rfl,rfl⟩:=h; exact⟨B,w+o1,c - k,by simp [a4c.ren,e,Src.ren,hr],by rw [iy]⟩
   ·exact dG
 | .sl b o len cap,l,v,h,hv=>by
   cases l <;> simp only [LVW] at h
   simp only [VR] at hv ⊢;obtain⟨B,w,c,hr,rfl⟩:=hv;split at h
   ·rename_i c' e; obtain⟨rfl,rfl,rfl,rfl⟩:=h; exact⟨B,w,c,by simp [a4c.ren,e,Src.ren,hr],rfl⟩
   ·exact dG
 | .slo b o len d,l,v,h,hv=>by
   cases l <;> simp only [LVW] at h
   ·simp only [VR] at hv ⊢; exact .inr ⟨h,.inl hv⟩
   ·simp only [VR] at hv ⊢; exact .inr ⟨h,hv⟩
   ·rename_i b' o' len' cap';simp only [VR] at hv ⊢;obtain⟨B,w,c,hr,rfl⟩:=hv;split at h
    ·rename_i c' o1 k e;obtain⟨rfl,rfl,rfl,h1,rfl⟩:=h;exact .inl ⟨B,w+o1,k,by simp [a4c.ren,e,Src.ren,hr],h1,by rw [iy]⟩
    ·exact dG
   ·rename_i b' o' len' d';simp only [VR] at hv ⊢;split at h
    ·rename_i c' e;obtain⟨rfl,rfl,rfl,rfl⟩:=h;rcases hv with⟨B,w,c,hr,hle,rfl⟩ | hv
     ·exact .inl ⟨B,w,c,by simp [a4c.ren,e,Src.ren,hr],hle,rfl⟩
     ·exact .inr hv
    ·rename_i c' o1 d1 e;obtain⟨rfl,rfl,rfl,rfl⟩:=h;rcases hv with⟨B,w,c,hr,hle,rfl⟩ | hv
     ·exact .inl ⟨B,w+o1,c - d1,by simp [a4c.ren,e,Src.ren,hr],ab,by rw [iy,Nat.sub_sub]⟩
     ·exact .inr hv
    ·exact dG
 | .iface t a,l,v,h,hv=>by
   cases l <;> simp only [LVW] at h
   obtain⟨rfl,h⟩:=h;simp only [VR] at hv ⊢;obtain⟨u,rfl,hv⟩:=hv;exact⟨u,rfl,LVW.sound h hv⟩
 | .agg a,l,v,h,hv=>by
   cases l <;> simp only [LVW] at h
   simp only [VR] at hv ⊢;obtain⟨us,rfl,hv⟩:=hv;exact⟨us,rfl,a7h.sound h hv⟩
 | .tup a,l,v,h,hv=>by
   cases l <;> simp only [LVW] at h
   simp only [VR] at hv ⊢;obtain⟨us,rfl,hv⟩:=hv;exact⟨us,rfl,a7h.sound h hv⟩
theorem a7h.sound {ρ : a4c} {r:Ren}:∀ {a b:al} {vs:List Value},a7h ρ a b→VRs r b vs→VRs (ρ.ren r) a vs
 | [],[],vs,h,hv=>by simpa only [VRs] using hv
 | a::as,b::bs,vs,h,hv=>by
   simp only [a7h] at h;simp only [VRs] at hv ⊢;obtain⟨u,us,rfl,h1,h2⟩:=hv;exact⟨u,us,rfl,LVW.sound h.1 h1,a7h.sound h.2 h2⟩
 | [],_::_,vs,h,hv=>by simp only [a7h] at h
 | _::_,[],vs,h,hv=>by simp only [a7h] at h
end
theorem a7h.length {ρ : a4c}:∀ {a b:al},a7h ρ a b→a.length=b.length
 | [],[],h=>rfl
 | a::as,b::bs,h=>by simp only [a7h] at h; simp [a7h.length h.2]
 | [],_::_,h=>by simp only [a7h] at h
 | _::_,[],h=>by simp only [a7h] at h
theorem a7h.get {ρ : a4c}:∀ {a b:al} {i:Nat} {x:LV},a7h ρ a b→a[i]? = some x→∃ y,b[i]? = some y∧LVW ρ x y
 | [],b,i,x,h,hi=>by simp at hi
 | a::as,[],i,x,h,hi=>by simp only [a7h] at h
 | a::as,b::bs,0,x,h,hi=>by simp only [a7h] at h; simp at hi; subst hi; exact⟨b,rfl,h.1⟩
 | a::as,b::bs,i+1,x,h,hi=>by simp only [a7h] at h; simp at hi ⊢; exact a7h.get h.2 hi
mutual
def b4m:LV→Bool
 | .bool _=>true
 | .int _ _=>true
 | .str _=>true
 | .nilp=>true
 | .gptr _ _=>true
 | .nils=>true
 | .nilFunc=>true
 | .nilIface=>true
 | .unb=>true
 | .val _=>true
 | .sln _=>true
 | .vp _ _=>true
 | .iface _ a=>b4m a
 | .agg a=>a1u a
 | .tup a=>a1u a
 | _=>false
def a1u:al→Bool
 | []=>true
 | a::as=>b4m a && a1u as
end
mutual
theorem b4m.sound {r r':Ren}:∀ {l:LV} {v:Value},b4m l=true→VR r l v→VR r' l v
 | .bool a,v,h,hv | .int _ _,v,h,hv | .str _,v,h,hv | .nilp,v,h,hv | .gptr _ _,v,h,hv | .nils,v,h,hv | .nilFunc,v,h,hv | .nilIface,v,h,hv | .unb,v,h,hv | .val _,v,h,hv | .sln _,v,h,hv | .vp _ _,v,h,hv=>by simpa only [VR] using hv
 | .fact _,v,h,hv | .sle,v,h,hv | .any,v,h,hv | .ptr _ _,v,h,hv | .sl _ _ _ _,v,h,hv | .slo _ _ _ _,v,h,hv | .fn _ _,v,h,hv=>by simp [b4m] at h
 | .iface t a,v,h,hv=>by
   simp only [b4m] at h;simp only [VR] at hv ⊢;obtain⟨u,rfl,hv⟩:=hv;exact⟨u,rfl,b4m.sound h hv⟩
 | .agg a,v,h,hv=>by
   simp only [b4m] at h;simp only [VR] at hv ⊢;obtain⟨u,rfl,hv⟩:=hv;exact⟨u,rfl,a1u.sound h hv⟩
 | .tup a,v,h,hv=>by
   simp only [b4m] at h;simp only [VR] at hv ⊢;obtain⟨u,rfl,hv⟩:=hv;exact⟨u,rfl,a1u.sound h hv⟩
theorem a1u.sound {r r':Ren}:∀ {a:al} {vs:List Value},a1u a=true→VRs r a vs→VRs r' a vs
 | [],vs,h,hv=>by simpa only [VRs] using hv
 | a::as,vs,h,hv=>by
   simp only [a1u,bg] at h;simp only [VRs] at hv ⊢;obtain⟨u,us,rfl,h1,h2⟩:=hv;exact⟨u,us,rfl,b4m.sound h.1 h1,a1u.sound h.2 h2⟩
end
theorem ml:∀ {a:al},a1u a=true↔∀ l∈a,b4m l=true
 | []=>by simp [a1u]
 | a::as=>by simp [a1u,ml]
def CW (ρ : a4c) (cs0 cs:al):Prop:=(cs0=cs∧a1u cs0=true)∨a7h ρ cs0 cs
theorem CW.length {ρ : a4c} {a b:al} (h:CW ρ a b):a.length=b.length:=h.elim (fun h=>by rw [h.1]) a7h.length
theorem CW.get {ρ : a4c} {r:Ren} {a b:al} (h:CW ρ a b) {i:Nat} {x:LV} (hi:a[i]? = some x):∃ y,b[i]? = some y∧∀ v,VR r y v→VR (ρ.ren r) x v:=by
 rcases h with⟨rfl,h⟩ | h
 ·exact⟨x,hi,fun v hv=>b4m.sound (ml.1 h x (fS hi)) hv⟩
 ·obtain⟨y,h1,h2⟩:=h.get hi;exact⟨y,h1,fun v hv=>h2.sound hv⟩
theorem VR.plain_of {r:Ren} {l:LV} {v:Value} (h:VR r l v) (ho:v.oneCell'=true) (ha:l≠.any):l.plain=true:=by
 cases l <;> simp only [VR] at h <;> first
  | rfl
  | (exact absurd rfl ha)
  | (obtain⟨us,rfl,_⟩:=h; simp [Value.oneCell'] at ho)
def LBW (ρ : a4c) (src:Src) (L0:LB) (L:Option LB):Prop :=
 match src,L0,L with
 | _,.dead,_=>True
 | .id _,.cells cs0 op0,some (.cells cs op)=>op0=op∧CW ρ cs0 cs∧LV.any ∉ cs0
 | .id _,.ro cs0,some (.ro cs)=>CW ρ cs0 cs∧LV.any ∉ cs0
 | .id _,.iter t p,some (.iter t' p')=>t=t'∧p=p'
 | .id _,.obj F0 cs0 g0,some (.obj F cs g)=>F0=F∧cs0=cs∧ρ g0=some (.id g)
 | .none,.cells cs0 _,_=>cs0=[]
 | .cap _ o k,.cells cs0 (some es),some (.cells cs none)=>cs0.length≤k * es∧o+k * es≤cs.length∧CW ρ cs0 (bf cs o cs0.length)∧LV.any ∉ cs0
 | .drop _ o d,.cells cs0 (some es),some (.cells cs (some es'))=>es=es'∧o=d * es∧o+cs0.length≤cs.length∧CW ρ cs0 (bf cs o cs0.length)∧LV.any ∉ cs0
 | _,_,_=>False
structure Sub (n0:Nat) (ρ : a4c) (s s0:St):Prop where
 n:n0≤s0.n
 old:∀ b,b < n0→ρ b=some (.id b)
 dom:∀ b src,ρ b=some src→b < s0.n
 fresh:∀ b,s0.n≤b→s0.h.get b=none
 blk:∀ b L0,s0.h.get b=some L0→∃ src,ρ b=some src∧LBW ρ src L0 (match src.under with | some c=>s.h.get c | none=>none)
 inj:∀ b b' src src' c,s0.lives b→s0.lives b'→ρ b=some src→ρ b'=some src'→src.under=some c→src'.under=some c→b=b'
 g:s0.g=s.g
theorem LBW.lives {ρ : a4c} {src:Src} {L0:LB} {L:Option LB} (h:LBW ρ src L0 L) (hl:L0.live=true) (hc:src.under≠Option.none):∃ M,L=some M∧M.live=true:=by
 unfold LBW at h;split at h
 ·cases hl
 ·exact⟨_,rfl,rfl⟩
 ·cases hl
 iterate 2
  ·exact⟨_,rfl,rfl⟩
 ·exact absurd rfl hc
 iterate 2
  ·exact⟨_,rfl,rfl⟩
 ·exact dG
theorem Src.i4k {r:Ren} {src:Src} {x:Nat×Nat×Nat} (h:src.ren r=some x):∃ c y,src.under=some c∧r c=some y∧y.1=x.1:=by
 cases src with
 | id b=>exact⟨b,x,rfl,h,rfl⟩
 | none=>simp [Src.ren] at h
 | cap b o k =>
   simp only [Src.ren] at h;split at h
   ·rename_i B w c e; simp at h; subst h; exact⟨b,_,rfl,e,rfl⟩
   ·simp at h
 | drop b o d =>
   simp only [Src.ren] at h;split at h
   ·rename_i B w c e; simp at h; subst h; exact⟨b,_,rfl,e,rfl⟩
   ·simp at h
theorem KA {cs:al} {o n i:Nat} (h:i < n):(bf cs o n)[i]? = cs[o+i]?:=by
 simp only [bf,List.getElem?_take_of_lt h,sB]
theorem Inv.sub {W0:World} {r:Ren} {s s0:St} {w:World} (hI:Inv W0 r s w) {n0:Nat} {ρ : a4c} (h:Sub n0 ρ s s0):Inv W0 (ρ.ren r) s0 w∧c0w n0 r s w (ρ.ren r) s0 w:=by
 have hren:∀ b x,ρ.ren r b=some x→∃ src c y,ρ b=some src∧src.under=some c∧r c=some y∧y.1=x.1∧src.ren r=some x:=fun b x hb=>by
  simp only [a4c.ren] at hb;cases hs : ρ b with
  | none=>simp [hs] at hb
  | some src =>
    simp only [hs] at hb;obtain⟨c,y,h1,h2,h3⟩:=Src.i4k hb;exact⟨src,c,y,rfl,h1,h2,h3,hb⟩
 have hlives:∀ b x,s0.lives b→ρ.ren r b=some x→∃ src c y,ρ b=some src∧src.under=some c∧s.lives c∧r c=some y∧y.1=x.1:=fun b x ⟨L,hL,hl⟩ hb=>by
  obtain⟨src,c,y,h1,h2,h3,h4,_⟩:=hren b x hb;obtain⟨src',k1,k2⟩:=h.blk b L hL;rw [h1] at k1; cases k1;simp only [h2] at k2;obtain⟨M,m1,m2⟩:=k2.lives hl (by rw [h2]; simp);exact⟨src,c,y,h1,h2,⟨M,m1,m2⟩,h3,h4⟩
 have hobj:∀ b F cs g0,s0.h.get b=some (.obj F cs g0)→∃ c g,ρ b=some (.id c)∧s.h.get c=some (.obj F cs g)∧∀ B,Own (ρ.ren r) g0 B↔Own r g B:=fun b F cs g0 hb=>by
  obtain⟨src,h1,h2⟩:=h.blk b _ hb;cases src <;> simp only [Src.under] at h2 <;> try (simp [LBW] at h2; done)
  rename_i c;cases hc:s.h.get c with
  | none=>exact sG
  | some L =>
    rw [hc] at h2;cases L <;> simp only [LBW] at h2
    rename_i F' cs' g;obtain⟨rfl,rfl,h3⟩:=h2;exact⟨c,g,h1,hc,fun B=>by simp only [Own,a4c.ren,h3,Src.ren]⟩
 refine⟨⟨hI.below,fun b x hb=>?_,fun b x hl hb=>?_,h.fresh,fun b b' x x' hl hl' hb hb' he=>?_,fun b cs0 op0 hb=>?_,fun b t p hb=>?_,by rw [h.g]; exact hI.gl,fun b cs0 hb=>?_,fun b F cs g0 hb=>?_,fun B hB=>?_,fun b F cs g0 b' x' hb hl' hx' hO=>?_,fun b F cs g0 b' F' cs' g0' B hb hb' h1 h2=>?_⟩,⟨fun b x hn hb=>?_,h.n,aR _,fun B hlt hB=>?_,fun _ _ _=>rfl⟩⟩
 ·obtain⟨src,c,y,h1,h2,h3,h4,_⟩:=hren b x hb;exact⟨h.dom b src h1,by rw [← h4]; exact(hI.dom c y h3).2⟩
 ·obtain⟨src,c,y,h1,h2,h3,h4,h5⟩:=hlives b x hl hb;rw [← h5]; exact hI.own c y h3 h4
 ·obtain⟨src,c,y,h1,h2,h3,h4,h5⟩:=hlives b x hl hb;obtain⟨src',c',y',h1',h2',h3',h4',h5'⟩:=hlives b' x' hl' hb';have:c=c':=hI.inj c c' y y' h3 h3' h4 h4' (by rw [h5,h5']; exact he);subst this;exact h.inj b b' src src' c hl hl' h1 h1' h2 h2'
 ·obtain⟨src,h1,h2⟩:=h.blk b _ hb;cases src with
  | none =>
    simp only [LBW,Src.under] at h2;exact .inl ⟨h2,by simp [a4c.ren,h1,Src.ren]⟩
  | id c =>
    simp only [Src.under] at h2;cases hc:s.h.get c with
    | none=>exact sG
    | some L =>
      rw [hc] at h2;cases L <;> simp only [LBW] at h2
      rename_i cs op;obtain⟨rfl,h2,hna⟩:=h2;have hren' : ρ.ren r b=r c:=by simp [a4c.ren,h1,Src.ren]
      rcases hI.cells c cs op0 hc with⟨rfl,hr⟩ | ⟨x,hx,⟨cc,e,lo,hi,k1,k2,k3,k4,k5⟩,k6⟩
      ·exact .inl ⟨fY.1 yQ,by rw [hren',hr]⟩
      ·have hlen:=h2.length;refine .inr ⟨x,by rw [hren',hx],⟨cc,e,lo,hi,k1,fun i l hl=>?_,?_,?_,k5⟩,?_⟩
       ·exact GN
       ·rw [qF hlen]; exact k3
       ·rw [qF hlen]; exact k4
       ·rw [hlen,qF hlen]; exact k6
  | cap c o k =>
    simp only [Src.under] at h2;cases hc:s.h.get c with
    | none=>rw [hc] at h2; cases op0 <;> simp [LBW] at h2
    | some L =>
      rw [hc] at h2;cases L <;> cases op0 <;> simp only [LBW] at h2
      rename_i cs op es;cases op <;> simp only [LBW] at h2
      obtain⟨h3,h4,h5,hna⟩:=h2;rcases hI.cells c cs none hc with⟨rfl,hr⟩ | ⟨x,hx,⟨cc,e,lo,hi,k1,k2,k3,k4,k5⟩,k6⟩
      ·have hke:o+k * es≤0:=h4;refine .inl ⟨fY.1 ab,by simp [a4c.ren,h1,Src.ren,hr]⟩
      ·obtain⟨B,q,cp⟩:=x;simp only [dv] at k3 k4 k6;refine .inr ⟨(B,q+o,k),by simp [a4c.ren,h1,Src.ren,hx],⟨cc,e,lo,hi,k1,fun i l hl=>?_,fun i hi'=>?_,?_,k5⟩,by simpa [dv] using h3⟩
       ·have hi0:=(bU.1 hl).1;obtain⟨y,q1,q2⟩:=h5.get (r:=r) hl;rw [KA hi0] at q1;obtain⟨g1,u,g2,g3⟩:=k2 (o+i) y q1;have hv:=q2 u g3;exact⟨hv.plain_of (g3.one g1) fun e=>hna wu,u,by rw [iy]; exact g2,hv⟩
       ·simp only [dv] at hi';have:=k3 (o+i) ab;simp only; omega
       ·simp only [dv]; omega
  | drop c o d =>
    simp only [Src.under] at h2;cases hc:s.h.get c with
    | none=>rw [hc] at h2; cases op0 <;> simp [LBW] at h2
    | some L =>
      rw [hc] at h2;cases L <;> cases op0 <;> simp only [LBW] at h2
      rename_i cs op es;cases op <;> simp only [LBW] at h2
      rename_i es';obtain⟨rfl,rfl,h4,h5,hna⟩:=h2;rcases hI.cells c cs (some es) hc with⟨rfl,hr⟩ | ⟨x,hx,⟨cc,e,lo,hi,k1,k2,k3,k4,k5⟩,k6⟩
      ·have hke:d * es+cs0.length≤0:=h4;refine .inl ⟨fY.1 ab,by simp [a4c.ren,h1,Src.ren,hr]⟩
      ·obtain⟨B,q,cp⟩:=x;simp only [dv] at k3 k4 k6;have hmul:(cp - d) * es=cp * es - d * es:=Nat.sub_mul _ _ _;refine .inr ⟨(B,q+d * es,cp - d),by simp [a4c.ren,h1,Src.ren,hx],⟨cc,e,lo,hi,k1,fun i l hl=>?_,fun i hi'=>?_,?_,k5⟩,by simp only [dv]; omega⟩
       ·have hi0:=(bU.1 hl).1;obtain⟨y,q1,q2⟩:=h5.get (r:=r) hl;rw [KA hi0] at q1;obtain⟨g1,u,g2,g3⟩:=k2 (d * es+i) y q1;have hv:=q2 u g3;exact⟨hv.plain_of (g3.one g1) fun e=>hna wu,u,by rw [iy]; exact g2,hv⟩
       ·simp only [dv] at hi';have:=k3 (d * es+i) ab;simp only; omega
       ·simp only [dv]; omega
 ·obtain⟨src,h1,h2⟩:=h.blk b _ hb;cases src <;> simp only [Src.under] at h2 <;> try (simp [LBW] at h2; done)
  rename_i c;cases hc:s.h.get c with
  | none=>exact sG
  | some L =>
    rw [hc] at h2;cases L <;> simp only [LBW] at h2
    obtain⟨rfl,rfl⟩:=h2;obtain⟨x,k1,k2,k3⟩:=hI.iter c _ _ hc;exact⟨x,by simp [a4c.ren,h1,Src.ren,k1],k2,k3⟩
 ·obtain⟨src,h1,h2⟩:=h.blk b _ hb;cases src <;> simp only [Src.under] at h2 <;> try (simp [LBW] at h2; done)
  rename_i c;cases hc:s.h.get c with
  | none=>exact sG
  | some L =>
    rw [hc] at h2;cases L <;> simp only [LBW] at h2
    rename_i cs;obtain⟨h2,hna⟩:=h2;rcases hI.ro c cs hc with⟨rfl,k1⟩ | ⟨x,k1,cc,e,f,k2,k3⟩
    ·exact .inl ⟨fY.1 yQ,by simp [a4c.ren,h1,Src.ren,k1]⟩
    refine .inr ⟨x,by simp [a4c.ren,h1,Src.ren,k1],cc,e,f,k2,fun i l hl=>?_⟩;obtain⟨y,q1,q2⟩:=h2.get (r:=r) hl;obtain⟨g1,u,g2,g3⟩:=k3 i y q1;have hv:=q2 u g3;exact⟨hv.plain_of (g3.one g1) fun e=>hna wu,u,g2,hv⟩
 ·obtain⟨c,g,h1,h2,h3⟩:=hobj b F cs g0 hb;obtain⟨x,k1,k2,k3⟩:=hI.ob.holds c F cs g h2;have e:Own (ρ.ren r) g0=Own r g:=funext fun B=>propext (h3 B)
  exact⟨x,by simp [a4c.ren,h1,Src.ren,k1],(h3 _).2 k2,fun w' q1 q2 q3=>by rw [e]; exact k3 w' q1 q2 fun B hB=>q3 B ((h3 B).2 hB)⟩
 ·obtain⟨b,F,cs,g0,h1,h2⟩:=hB;obtain⟨c,g,k1,k2,k3⟩:=hobj b F cs g0 h1;exact hI.ob.inside B ⟨c,F,cs,g,k2,(k3 B).1 h2⟩
 ·obtain⟨c,g,k1,k2,k3⟩:=hobj b F cs g0 hb;obtain⟨src,c',y,h1,h2,h3,h4,h5⟩:=hlives b' x' hl' hx';have:=hI.ob.apart c F cs g c' y k2 h3 h4 (by rw [h5]; exact(k3 _).1 hO);subst this;exact h.inj b' b src (.id c') c' hl' ⟨_,hb,rfl⟩ h1 k1 h2 rfl
 ·obtain⟨c,g,k1,k2,k3⟩:=hobj b F cs g0 hb;obtain⟨c',g',k1',k2',k3'⟩:=hobj b' F' cs' g0' hb';have:=hI.ob.two c F cs g c' F' cs' g' B k2 k2' ((k3 B).1 h1) ((k3' B).1 h2);subst this;exact h.inj b b' (.id c) (.id c) c ⟨_,hb,rfl⟩ ⟨_,hb',rfl⟩ k1 k1' rfl rfl
 ·simp [a4c.ren,h.old b hn,Src.ren,hb]
 ·rcases hB with⟨b,x,hl,hb,rfl⟩ | ⟨b,F,cs,g0,h1,h2⟩
  ·obtain⟨src,c,y,h1,h2,h3,h4,h5⟩:=hlives b x hl hb;exact .inl ⟨c,y,h3,h4,h5⟩
  ·obtain⟨c,g,k1,k2,k3⟩:=hobj b F cs g0 h1;exact .inr ⟨c,F,cs,g,k2,(k3 B).1 h2⟩
end
section
open Go.RowKit
variable {P:Program}
section
variable {α : Type}
def rE:List α→List α
 | []=>[]
 | [x]=>[x]
 | x::_::r=>x::rE r
def pX:List α→List α
 | []=>[]
 | [_]=>[]
 | _::y::r=>y::pX r
theorem IZ:∀ (l:List α) (i:Nat),(rE l)[i]? = l[2 * i]?
 | [],i=>by simp [rE]
 | [x],0=>rfl
 | [x],i+1=>by simp [rE]
 | x::y::r,0=>rfl
 | x::y::r,i+1=>by simp only [rE,eG,IZ r i]; rw [show 2 * (i+1)=2 * i+1+1 by omega]; simp
theorem Jf:∀ (l:List α) (i:Nat),(pX l)[i]? = l[2 * i+1]?
 | [],i=>by simp [pX]
 | [x],i=>by simp [pX]
 | x::y::r,0=>rfl
 | x::y::r,i+1=>by simp only [pX,eG,Jf r i]; rw [show 2 * (i+1)=2 * i+1+1 by omega]; simp
theorem Lo:∀ (l:List α),(rE l).length≤l.length
 | []=>aR _
 | [x]=>aR _
 | x::y::r=>by have:=Lo r; simp [rE]; omega
theorem Lv:∀ (l:List α),(pX l).length≤l.length
 | []=>aR _
 | [x]=>by simp [pX]
 | x::y::r=>by have:=Lv r; simp [pX]; omega
def ri:Nat→List (Option α)→Tr α
 | 0,_=>.leaf
 | _+1,[]=>.leaf
 | d+1,v::r=>.node (ri d (rE r)) v (ri d (pX r))
theorem AN:∀ (d:Nat) (l:List (Option α)) (n:Nat),l.length≤d→(ri d l).get n=(l[n]?).join
 | 0,l,n,h=>by have:l=[]:=fY.1 ab; subst this; simp [ri,Tr.i3p]
 | d+1,[],n,h=>by simp [ri,Tr.i3p]
 | d+1,v::r,n,h=>by
   simp only [cZ] at h;simp only [ri,Tr.i4b];by_cases h0:n=0
   ·subst h0; simp
   ·rw [av h0];obtain⟨m,rfl⟩:∃ m,n=m+1:=⟨n - 1,ab⟩;simp only [Nat.add_sub_cancel,eG];by_cases h1:(m+1) % 2=1
    ·rw [aB h1,AN d _ _ (kc (Lo r) ab),IZ,show 2 * (m / 2)=m by omega]
    ·rw [av h1,AN d _ _ (kc (Lv r) ab),Jf,show 2 * (m / 2)+1=m by omega]
end
def tD:a9→bE
 | []=>[]
 | b::bs=>some b::tD bs
theorem Lf:∀ (l:a9) (n:Nat),(tD l)[n]? = (l[n]?).map some
 | [],n=>by simp [tD]
 | b::bs,0=>rfl
 | b::bs,n+1=>by simpa [tD] using Lf bs n
theorem L5:∀ (l:a9),(tD l).length=l.length
 | []=>rfl
 | b::bs=>by simp [tD,L5 bs]
def sX:a9→Nat
 | []=>0
 | _::l=>Nat.succ (sX l)
theorem xY:∀ l:a9,sX l=l.length
 | []=>rfl
 | _::l=>by simp [sX,xY l]
def ai (bs:a9) (g:List (Nat×al):=[]):St:=⟨ri (sX bs) (tD bs),sX bs,g⟩
theorem b8 (bs:a9) (g:List (Nat×al)) (b:Nat):(ai bs g).h.get b=bs[b]?:=by
 simp only [ai];rw [AN _ _ _ (by rw [L5,xY]; exact aR _),Lf];cases bs[b]? <;> rfl
theorem cN (bs:a9) (g:List (Nat×al)):(ai bs g).n=bs.length:=xY bs
def kC:List (Nat×LV)→Nat→LV
 | [],_=>.any
 | (t,v)::r,n=>cond (Nat.beq t n) v (kC r n)
def r_ (as:List (Nat×LV)):Nat→Nat→List (Option LV)
 | 0,_=>[]
 | k+1,t=>some (kC as t)::r_ as k (Nat.succ t)
theorem Mc (as:List (Nat×LV)):∀ (k t i:Nat),(r_ as k t)[i]? = if i < k then some (some (kC as (t+i))) else none
 | 0,t,i=>by simp [r_]
 | k+1,t,0=>by simp [r_]
 | k+1,t,i+1=>by
   simp only [r_,eG,Mc as k (Nat.succ t) i,Nat.add_lt_add_iff_right];rw [show Nat.succ t+i=t+(i+1) by omega]
theorem Mh (as:List (Nat×LV)):∀ (k t:Nat),(r_ as k t).length=k
 | 0,t=>rfl
 | k+1,t=>by simp [r_,Mh as k]
def aF (nt:Nat) (as:List (Nat×LV)):Tm:=ri nt (r_ as nt 0)
theorem oC (nt:Nat) (as:List (Nat×LV)) (t:Nat):aQ (aF nt as) t=if t < nt then kC as t else .undef:=by
 simp only [aQ,aF];rw [AN _ _ _ (by rw [Mh]; exact aR _),Mc];by_cases h:t < nt <;> simp [h]
def iU:List Nat→Tm→al
 | [],_=>[]
 | t::ts,tm=>aQ tm t::iU ts tm
def vH (s:St):Nat→Nat→bE
 | 0,_=>[]
 | k+1,b=>s.h.get b::vH s k (Nat.succ b)
def fK (s:St):bE:=vH s s.n 0
theorem yF (s:St):∀ (k b i:Nat),(vH s k b)[i]? = if i < k then some (s.h.get (b+i)) else none
 | 0,b,i=>by simp [vH]
 | k+1,b,0=>by simp [vH]
 | k+1,b,i+1=>by
   simp only [vH,eG,yF s k (Nat.succ b) i,Nat.add_lt_add_iff_right];rw [show Nat.succ b+i=b+(i+1) by omega]
def dt (ρ : List Src):a4c:=fun b=>ρ[b]?
def ky (bs:bE) (c:Nat):Option LB:=match bs[c]? with | some b=>b | none=>none
def ou (ρ : List Src) (bs:bE):List Src→a9→Prop
 | [],[]=>True
 | s::ss,L::Ls=>LBW (dt ρ) s L (match s.under with | some c=>ky bs c | none=>none)∧ou ρ bs ss Ls
 | _,_=>False
def rO:Nat→Nat→List Src→Bool
 | 0,_,_=>true
 | k+1,b,.id c::ss=>Nat.beq b c && rO k (Nat.succ b) ss
 | _+1,_,_=>false
def oD:List Src→a9→List Nat
 | s::ss,L::Ls=>(match L.live,s.under with | true,some c=>c::oD ss Ls | _,_=>oD ss Ls)
 | _,_=>[]
def lM (c:Nat):List Nat→Bool
 | []=>true
 | x::xs=>!Nat.beq c x && lM c xs
def gj:List Nat→Bool
 | []=>true
 | x::xs=>lM x xs && gj xs
def kY:List Nat→al→Nat→LV
 | t::ts,v::vs,n=>cond (Nat.beq t n) v (kY ts vs n)
 | _,_,_=>.any
def og (ρ : List Src) (nt:Nat) (L:List Nat) (vs:al):List (Nat×LV)→Prop
 | []=>True
 | (t,l)::as=>LVW (dt ρ) l (kY L vs t)∧og ρ nt L vs as
def gJ (n0 nt:Nat) (L:List Nat) (vs:al) (bs:bE) (ρ : List Src) (as:List (Nat×LV)) (b0:a9):Prop :=
 (Nat.beq (sX b0) ρ.length && Nat.ble n0 (sX b0) && rO n0 0 ρ && gj (oD ρ b0))=true∧og ρ nt L vs as∧ou ρ bs ρ b0
theorem Lx:∀ {k b:Nat} {ss:List Src},rO k b ss=true→∀ i,i < k→ss[i]? = some (.id (b+i))
 | 0,b,ss,h,i,hi=>absurd hi ab
 | k+1,b,.id c::ss,h,i,hi=>by
   simp only [rO,bg,b7,cu] at h;cases i with
   | zero=>simp [h.1]
   | succ i=>simp only [eG]; rw [Lx h.2 i ab]; congr 2; omega
 | k+1,b,[],h,i,hi=>by simp [rO] at h
 | k+1,b,.none::ss,h,i,hi=>by simp [rO] at h
 | k+1,b,.cap _ _ _::ss,h,i,hi=>by simp [rO] at h
 | k+1,b,.drop _ _ _::ss,h,i,hi=>by simp [rO] at h
theorem LK {ρ : List Src} {bs:bE}:∀ {ss:List Src} {Ls:a9},ou ρ bs ss Ls→ss.length=Ls.length∧∀ (i:Nat) (L:LB),Ls[i]? = some L→∃ s,ss[i]? = some s∧LBW (dt ρ) s L (match s.under with | some c=>ky bs c | none=>none)
 | [],[],h=>⟨rfl,fun i L hi=>by simp at hi⟩
 | s::ss,L::Ls,h=>by
   simp only [ou] at h;obtain⟨h1,h2⟩:=LK h.2;refine⟨by simp [h1],fun i M hi=>?_⟩;cases i with
   | zero=>simp at hi; subst hi; exact⟨s,rfl,h.1⟩
   | succ i=>simp at hi ⊢; exact h2 i M hi
 | [],_::_,h=>by simp only [ou] at h
 | _::_,[],h=>by simp only [ou] at h
theorem A6 {c:Nat}:∀ {xs:List Nat},lM c xs=true→c ∉ xs
 | [],h=>by simp
 | x::xs,h=>by
   simp only [lM,bg,pM,b7,v_] at h;simp only [eT,not_or];exact⟨h.1,A6 h.2⟩
theorem FP:∀ {ss:List Src} {Ls:a9} {i:Nat} {s:Src} {L:LB} {c:Nat},ss[i]? = some s→Ls[i]? = some L→L.live=true→s.under=some c→c∈oD ss Ls
 | s::ss,L::Ls,0,s',L',c,h1,h2,h3,h4=>by
   simp at h1 h2; subst h1 h2;simp [oD,h3,h4]
 | s::ss,L::Ls,i+1,s',L',c,h1,h2,h3,h4=>by
   simp at h1 h2;have:=FP h1 h2 h3 h4;simp only [oD];split <;> simp [this]
 | [],_,i,s',L',c,h1,h2,h3,h4=>by simp at h1
 | _::_,[],i,s',L',c,h1,h2,h3,h4=>by simp at h2
theorem L6:∀ {ss:List Src} {Ls:a9},gj (oD ss Ls)=true→∀ {i j:Nat} {s s':Src} {L L':LB} {c:Nat},ss[i]? = some s→Ls[i]? = some L→L.live=true→s.under=some c →
  ss[j]? = some s'→Ls[j]? = some L'→L'.live=true→s'.under=some c→i=j
 | [],_,h,i,j,s,s',L,L',c,h1,h2,h3,h4,k1,k2,k3,k4=>by simp at h1
 | _::_,[],h,i,j,s,s',L,L',c,h1,h2,h3,h4,k1,k2,k3,k4=>by simp at h2
 | s0::ss,L0::Ls,h,i,j,s,s',L,L',c,h1,h2,h3,h4,k1,k2,k3,k4=>by
   have htail:gj (oD ss Ls)=true:=by
    simp only [oD] at h;split at h
    ·simp only [gj,bg] at h; exact h.2
    ·exact h
   cases i with
   | zero =>
     cases j with
     | zero=>rfl
     | succ j =>
       simp at h1 h2 k1 k2; subst h1 h2;simp only [oD,h3,h4,gj,bg] at h;exact absurd (FP k1 k2 k3 k4) (A6 h.1)
   | succ i =>
     cases j with
     | zero =>
       simp at h1 h2 k1 k2; subst k1 k2;simp only [oD,k3,k4,gj,bg] at h;exact absurd (FP h1 h2 h3 h4) (A6 h.1)
     | succ j =>
       simp at h1 h2 k1 k2;rw [L6 htail h1 h2 h3 h4 k1 k2 k3 k4]
theorem LO {tm:Tm}:∀ (L:List Nat) (t:Nat),kY L (iU L tm) t=aQ tm t∨kY L (iU L tm) t=.any
 | [],t=>.inr rfl
 | x::L,t=>by
   simp only [iU,kY,b7];by_cases h:x=t
   ·subst h; simp
   ·simp only [h,fX,aD]; exact LO L t
theorem Up {ρ : a4c} {l:LV} (h:LVW ρ l .any):l=.any:=by cases l <;> simp only [LVW] at h; rfl
theorem Ly {ρ : List Src} {nt:Nat} {L:List Nat} {tm:Tm}:∀ {as:List (Nat×LV)},og ρ nt L (iU L tm) as→∀ t,LVW (dt ρ) (kC as t) (aQ tm t)
 | [],h,t=>by simp only [kC,LVW]
 | (u,l)::as,h,t=>by
   simp only [og] at h;simp only [kC,b7];by_cases e:u=t
   ·subst e;simp only [bD,aw];rcases LO (tm:=tm) L u with h1 | h1
    ·rw [← h1]; exact h.1
    ·rw [h1] at h; rw [Up h.1]; simp only [LVW]
   ·simp only [e,fX,aD]; exact Ly h.2 t
theorem VM (s:St) (hf:∀ b,s.n≤b→s.h.get b=none) (c:Nat):ky (fK s) c=s.h.get c:=by
 simp only [ky,fK,yF,bV];by_cases h:c < s.n
 ·simp [h]
 ·simp [h,hf c ab]
theorem Sub.of_ok {n0 nt:Nat} {L:List Nat} {vs:al} {ρ : List Src} {as:List (Nat×LV)} {b0:a9} {s:St} (hf:∀ b,s.n≤b→s.h.get b=none) (h:gJ n0 nt L vs (fK s) ρ as b0):Sub n0 (dt ρ) s (ai b0 s.g):=by
 obtain⟨h1,h2,h3⟩:=h;simp only [bg,b7,cu] at h1;obtain⟨⟨⟨g1,g2⟩,g3⟩,g4⟩:=h1;have g2:=aS g2;obtain⟨k1,k2⟩:=LK h3;refine⟨by rw [cN]; rw [xY] at g2; exact g2,fun b hb=>?_,fun b src hb=>?_,fun b hb=>?_,fun b L0 hb=>?_,fun b b' src src' c hl hl' hs hs' hu hu'=>?_,rfl⟩
 ·have:=Lx g3 b hb; simpa [dt] using this
 ·rw [cN,← xY,g1]; exact(bU.1 hb).1
 ·rw [cN] at hb; rw [b8]; exact gO hb
 ·rw [b8] at hb;obtain⟨src,q1,q2⟩:=k2 b L0 hb;refine⟨src,q1,?_⟩;cases hu:src.under with
  | none=>simpa [hu] using q2
  | some c=>simp only [hu] at q2 ⊢; rw [VM s hf] at q2; exact q2
 ·obtain⟨M,m1,m2⟩:=hl;obtain⟨M',m1',m2'⟩:=hl';rw [b8] at m1 m1';exact L6 g4 hs m1 m2 hu hs' m1' m2' hu'
theorem Conv.of_ok {n0 nt:Nat} {L:List Nat} {tm:Tm} {s:St} {ρ : List Src} {as:List (Nat×LV)} {b0:a9} (h:gJ n0 nt L (iU L tm) (fK s) ρ as b0):Conv n0 nt tm s (aF nt as) (ai b0 s.g):=by
 intro W0 r a w hI hA;have hs:=Sub.of_ok hI.fresh h;obtain⟨h1,h2⟩:=hI.sub hs;refine⟨_,h1,⟨hA.size,hA.defers,fun t ht=>?_,fun t ht=>?_⟩,h2⟩
 ·obtain⟨v,q1,q2⟩:=hA.get t ht;refine⟨v,q1,?_⟩;rw [oC,aB ht];exact(Ly h.2.1 t).sound q2
 ·rw [oC,av ab]
abbrev h6c:=LX→al→bE→Prop
def h6c.at(Φ : h6c) (L:List Nat) (g:List (Nat×al)):LX→Tm→St→Prop:=fun x tm s=>s.g=g∧Φ x (iU L tm) (fK s)
theorem a0n.i3d {nt n0:Nat} {c:Code} {tm:Tm} {s:St} {Q:LX→Tm→St→Prop} {L:List Nat} {ρ : List Src} {as:List (Nat×LV)} {b0:a9} {g:List (Nat×al)} (hg:s.g=g)
  (h:gJ n0 nt L (iU L tm) (fK s) ρ as b0) (k:a0n P nt c n0 (aF nt as) (ai b0 g) Q):a0n P nt c n0 tm s Q:=by
 subst hg; exact a0n.conv (Conv.of_ok h) k
theorem a0n.i3n {nt n0:Nat} {b:Code} {Q:LX→Tm→St→Prop} {σ : Type} (L:List Nat) (g:List (Nat×al)) (T : σ→List (Nat×LV)) (H : σ→a9) (μ : σ→Nat) (hn:∀ a,n0≤(H a).length)
  (hr:∀ a,a0n P nt b n0 (aF nt (T a)) (ai (H a) g) fun x tm s=>match x with
   | .normal=>s.g=g∧∃ a',μ a' < μ a∧∃ ρ,gJ n0 nt L (iU L tm) (fK s) ρ (T a') (H a')
   | x=>Q x tm s) (a : σ):a0n P nt (.loop b) n0 (aF nt (T a)) (ai (H a) g) Q:=by
 refine a0n.loop (fun a=>aF nt (T a)) (fun a=>ai (H a) g) μ (fun a=>by rw [cN]; exact hn a) (fun a=>(hr a).mono fun x tm s h=>?_) a;cases x with
 | normal =>
   obtain⟨hg,a',h1,ρ,h2⟩:=h;exact⟨a',h1,by rw [← hg]; exact Conv.of_ok h2⟩
 | exit id=>exact h
 | ret=>exact h
def a0j (P:Program) (f:Nat) (args:al) (s:St) (Q:LV→St→Prop):Prop :=
 ∀ (W0:World) (r:Ren) (w:World) (us:List Value),Inv W0 r s w→VRs r args us→Calls P f us.toArray w fun e w'=>∃ l s' v r',Q l s'∧e=.returned v∧VR r' l v∧Inv W0 r' s' w'∧Ext r s w r' s' w'
theorem a0j.mono {f:Nat} {args:al} {s:St} {Q Q':LV→St→Prop} (h:a0j P f args s Q) (hq:∀ l s',Q l s'→Q' l s'):a0j P f args s Q' :=
 fun W0 r w us hI hv=>(h W0 r w us hI hv).mono fun e w' ⟨l,s',v,r',q,k⟩=>⟨l,s',v,r',hq l s' q,k⟩
def uX:LX→Prop
 | .exit _=>False
 | _=>True
theorem a0j.body {f:Nat} {fn:Func} {c:Code} {args:al} {tm:Tm} {s:St} {Q:LV→St→Prop} (hf:P.funcs[f]? = some fn) (hb:fn.body=some c) (ht:ib args 0 .leaf=some tm) (hle:Nat.ble args.length fn.ntmps=true)
  (h:a0n P fn.ntmps c s.n tm s fun x tm' s'=>uX x∧∃ vs,gm P (aQ tm') s' fn.results.toList=some vs∧Q (mj vs) s'):a0j P f args s Q:=by
 intro W0 r w us hI hv;have hle':=aS hle;have hul:=hv.length;have hA:AR r (aQ tm) fn.ntmps { tmps:=us.toArray++Array.replicate (fn.ntmps - us.toArray.size) undef,defers:=[] }:=by
  have hg:=Ba args 0 .leaf tm ht;refine⟨by simp; omega,rfl,fun t htt=>?_,fun t htt=>?_⟩
  ·rw [hg];by_cases h1:t < args.length
   ·rw [aB ab];obtain⟨u,q1,q2⟩:=hv.get (cq h1);refine⟨u,?_,?_⟩
    ·rw [sv ke]; simpa using q1
    ·simpa [h1] using q2
   ·rw [av ab];refine⟨undef,?_,?_⟩
    ·exact GI
    ·simp only [aQ,Tr.i3p]; exact rY
  ·rw [hg,av ab]; simp [aQ,Tr.i3p]
 refine calls_of_wp hf hb (h W0 r _ w hI hA _ fun x tm1 s1 r1 a1 w1 hq hI1 hE1 hA1=>?_);obtain⟨he,vs,hr,hq⟩:=hq;cases x with
 | exit id=>exact he.elim
 | normal =>
   obtain⟨v,q1,q2⟩:=Bg (P:=P) hI1 hA1 hr;exact⟨hA1.defers,v,q1,mj vs,s1,v,r1,hq,rfl,q2,hI1,hE1.ext hI⟩
 | ret =>
   obtain⟨v,q1,q2⟩:=Bg (P:=P) hI1 hA1 hr;exact⟨hA1.defers,v,q1,mj vs,s1,v,r1,hq,rfl,q2,hI1,hE1.ext hI⟩
theorem a0j.conv {f:Nat} {args:al} {s:St} {Q Q':LV→St→Prop} (h:a0j P f args s Q)
  (hq:∀ l s',Q l s'→∃ l0 b0 ρ,Q' l0 (ai b0 s'.g)∧gJ s.n 1 [0] [l] (fK s') ρ [(0,l0)] b0):a0j P f args s Q':=by
 intro W0 r w us hI hv;refine(h W0 r w us hI hv).mono fun e w' ⟨l,s',v,r',q,he,hv',hI',hE'⟩=>?_
 obtain⟨l0,b0,ρ,q1,q2⟩:=hq l s' q;obtain⟨k1,k2⟩:=hI'.sub (Sub.of_ok hI'.fresh q2);have hl:LVW (dt ρ) l0 l:=by
  have:=q2.2.1;simp only [og,kY] at this;exact this.1
 exact⟨l0,_,v,_,q1,he,hl.sound hv',k1,((c0w.of hE' (aR _)).trans k2).ext hI⟩
end
section
open Go.RowKit
variable {P:Program}
theorem LBW.id_cells {W0:World} {r:Ren} {s:St} {w:World} (hI:Inv W0 r s w) {ρ : a4c} {c:Nat} {cs0:al} {op0:Option Nat} (h2:LBW ρ (.id c) (.cells cs0 op0) (s.h.get c)) :
  (cs0=[]∧r c=none)∨∃ x,r c=some x∧d0i (ρ.ren r) w x cs0 op0:=by
 cases hc:s.h.get c with
 | none=>exact sG
 | some L =>
   rw [hc] at h2;cases L <;> simp only [LBW] at h2
   rename_i cs op;obtain⟨rfl,h2,hna⟩:=h2;rcases hI.cells c cs op0 hc with⟨rfl,hr⟩ | ⟨x,hx,⟨cc,e,lo,hi,k1,k2,k3,k4,k5⟩,k6⟩
   ·exact .inl ⟨fY.1 yQ,hr⟩
   ·have hlen:=h2.length;refine .inr ⟨x,hx,⟨cc,e,lo,hi,k1,fun i l hl=>?_,?_,?_,k5⟩,?_⟩
    ·exact GN
    ·rw [qF hlen]; exact k3
    ·rw [qF hlen]; exact k4
    ·rw [hlen,qF hlen]; exact k6
theorem LBW.id_ro {W0:World} {r:Ren} {s:St} {w:World} (hI:Inv W0 r s w) {ρ : a4c} {c:Nat} {cs0:al} (h2:LBW ρ (.id c) (.ro cs0) (s.h.get c)) :
  (cs0=[]∧r c=none)∨∃ x,r c=some x∧∃ cc e f,W0.heap[x.1]? = some (.cells cc e f)∧∀ (i:Nat) l,cs0[i]? = some l→l.plain=true∧∃ u,cc[x.2.1+i]? = some u∧VR (ρ.ren r) l u:=by
 cases hc:s.h.get c with
 | none=>exact sG
 | some L =>
   rw [hc] at h2;cases L <;> simp only [LBW] at h2
   rename_i cs;obtain⟨h2,hna⟩:=h2;rcases hI.ro c cs hc with⟨rfl,k1⟩ | ⟨x,k1,cc,e,f,k2,k3⟩
   ·exact .inl ⟨fY.1 yQ,k1⟩
   refine .inr ⟨x,k1,cc,e,f,k2,fun i l hl=>?_⟩;obtain⟨y,q1,q2⟩:=h2.get (r:=r) hl;obtain⟨g1,u,g2,g3⟩:=k3 i y q1;have hv:=q2 u g3;exact⟨hv.plain_of (g3.one g1) fun e=>hna wu,u,g2,hv⟩
theorem LBW.id_iter {W0:World} {r:Ren} {s:St} {w:World} (hI:Inv W0 r s w) {ρ : a4c} {c:Nat} {t:ap} {p:Nat} (h2:LBW ρ (.id c) (.iter t p) (s.h.get c)) :
  ∃ x,r c=some x∧x.2.1=0∧w.heap[x.1]? = some (.stringIter ⟨t.toArray⟩ p):=by
 cases hc:s.h.get c with
 | none=>exact sG
 | some L =>
   rw [hc] at h2;cases L <;> simp only [LBW] at h2
   obtain⟨rfl,rfl⟩:=h2;exact hI.iter c _ _ hc
structure HF (ρ : List Nat) (κ : Nat→Option Nat) (s s1 s':St):Prop where
 n:s.n≤s'.n
 old:∀ (i b:Nat),ρ[i]? = some b→b < s.n∧κ b=some i
 back:∀ b i,b < s.n→κ b=some i→ρ[i]? = some b
 new:∀ b i,κ b=some i→b < s'.n∧(s.n≤b→ρ.length≤i)
 inj:∀ b b' i,κ b=some i→κ b'=some i→b=b'
 blk:∀ b i L',κ b=some i→s'.h.get b=some L'→LBW (fun b=>(κ b).map .id) (.id i) L' (s1.h.get i)
 frame:∀ b,κ b=none→s'.h.get b=s.h.get b
 fresh:∀ b,s'.n≤b→s'.h.get b=none
 g:s'.g=s.g
theorem Inv.mix {W0:World} {r r1:Ren} {s s1 s':St} {w w':World} {κ : Nat→Option Nat} (hI:Inv W0 r s w) (hI1:Inv W0 r1 s1 w') (hsz:w.heap.size≤w'.heap.size)
  (hrle:r.le (fun b=>match κ b with | some i=>r1 i | none=>r b)) (hn:s.n≤s'.n) (hnew:∀ b i,κ b=some i→∀ x,r1 i=some x→b < s'.n) (hinj:∀ b b' i,κ b=some i→κ b'=some i→b=b')
  (hblk:∀ b i L',κ b=some i→s'.h.get b=some L'→LBW (fun b=>(κ b).map .id) (.id i) L' (s1.h.get i)) (hframe:∀ b,κ b=none→s'.h.get b=s.h.get b) (hfresh:∀ b,s'.n≤b→s'.h.get b=none) (hg:s'.g=s.g)
  (hfar:∀ b B,κ b=none→a2w r s b B→w'.heap[B]? = w.heap[B]?∧¬ a4j r1 s1 B) :
  Inv W0 (fun b=>match κ b with | some i=>r1 i | none=>r b) s' w'∧(∀ B,a4j (fun b=>match κ b with | some i=>r1 i | none=>r b) s' B→a4j r s B∨a4j r1 s1 B) ∧
   ∀ b x,a4c.ren (fun b=>(κ b).map .id) r1 b=some x→(match κ b with | some i=>r1 i | none=>r b)=some x:=by
 have hle:∀ b x,a4c.ren (fun b=>(κ b).map .id) r1 b=some x→(match κ b with | some i=>r1 i | none=>r b)=some x:=fun b x hb=>by
  simp only [a4c.ren] at hb;cases hk : κ b with
  | none=>simp [hk] at hb
  | some i=>simpa [hk,Src.ren] using hb
 have hlv:∀ b i,κ b=some i→s'.lives b→s1.lives i:=fun b i hk ⟨L,h1,h2⟩=>by
  have:=hblk b i L hk h1;obtain⟨M,m1,m2⟩:=this.lives h2 (by simp [Src.under]);exact⟨M,m1,m2⟩
 have hlf:∀ b,κ b=none→s'.lives b→s.lives b:=fun b hk ⟨L,h1,h2⟩=>⟨L,by rw [← hframe b hk]; exact h1,h2⟩
 have hobn:∀ b F cs g,κ b=none→s'.h.get b=some (.obj F cs g)→s.h.get b=some (.obj F cs g)∧∀ B,Own (fun b=>match κ b with | some i=>r1 i | none=>r b) g B↔Own r g B:=fun b F cs g hk hb=>by
  rw [hframe b hk] at hb;obtain⟨x,k1,k2,_⟩:=hI.ob.holds b F cs g hb;exact⟨hb,fun B=>⟨fun k=>k2.back hrle k,fun k=>k.mono hrle⟩⟩
 have hobs:∀ b i F cs g,κ b=some i→s'.h.get b=some (.obj F cs g)→∃ g1,s1.h.get i=some (.obj F cs g1)∧∀ B,Own (fun b=>match κ b with | some i=>r1 i | none=>r b) g B↔Own r1 g1 B:=fun b i F cs g hk hb=>by
  have:=hblk b i _ hk hb;cases hc:s1.h.get i with
  | none=>rw [hc] at this; simp [LBW] at this
  | some L =>
    rw [hc] at this;cases L <;> simp only [LBW] at this
    rename_i F' cs' g1;obtain⟨rfl,rfl,h3⟩:=this;have hkg : κ g=some g1:=by
     cases hq : κ g with
     | none=>simp [hq] at h3
     | some j=>simp [hq] at h3; rw [h3]
    exact⟨g1,rfl,fun B=>by simp only [Own,hkg]⟩
 have hby:∀ b B,a2w (fun b=>match κ b with | some i=>r1 i | none=>r b) s' b B→(κ b=none∧a2w r s b B)∨∃ i,κ b=some i∧a2w r1 s1 i B:=fun b B ho=>by
  cases hk : κ b with
  | none =>
    refine .inl ⟨rfl,?_⟩;rcases ho with⟨h1,x,h2,h3⟩ | ⟨F,cs,g,h1,h2⟩
    ·simp only [hk] at h2; exact .inl ⟨hlf b hk h1,x,h2,h3⟩
    ·obtain⟨k1,k2⟩:=hobn b F cs g hk h1;exact .inr ⟨F,cs,g,k1,(k2 B).1 h2⟩
  | some i =>
    refine .inr ⟨i,rfl,?_⟩;rcases ho with⟨h1,x,h2,h3⟩ | ⟨F,cs,g,h1,h2⟩
    ·simp only [hk] at h2; exact .inl ⟨hlv b i hk h1,x,h2,h3⟩
    ·obtain⟨g1,k1,k2⟩:=hobs b i F cs g hk h1;exact .inr ⟨F,cs,g1,k1,(k2 B).1 h2⟩
 have huq:∀ b b' B,a2w (fun b=>match κ b with | some i=>r1 i | none=>r b) s' b B→a2w (fun b=>match κ b with | some i=>r1 i | none=>r b) s' b' B→b=b':=fun b b' B k k'=>by
  rcases hby b B k with⟨k1,k2⟩ | ⟨i,k1,k2⟩ <;> rcases hby b' B k' with⟨k1',k2'⟩ | ⟨i',k1',k2'⟩
  ·exact hI.one_owner k2 k2'
  ·exact absurd k2'.owned (hfar b B k1 k2).2
  ·exact absurd k2.owned (hfar b' B k1' k2').2
  ·have:=hI1.one_owner k2 k2';subst this;exact hinj b b' i k1 k1'
 refine⟨⟨hI1.below,fun b x hb=>?_,fun b x hl hb=>?_,hfresh,fun b b' x x' hl hl' hb hb' he=>huq b b' x.1 (.inl ⟨hl,x,hb,rfl⟩) (.inl ⟨hl',x',hb',he.symm⟩),fun b cs op hb=>?_,fun b t p hb=>?_,by rw [hg]; exact hI.gl,fun b cs hb=>?_,fun b F cs g hb=>?_,fun B hB=>?_,fun b F cs g b' x' hb hl hb' ho=>(huq b b' x'.1 (.inr ⟨F,cs,g,hb,ho⟩) (.inl ⟨hl,x',hb',rfl⟩)).symm,fun b F cs g b' F' cs' g' B hb hb' k k'=>huq b b' B (.inr ⟨F,cs,g,hb,k⟩) (.inr ⟨F',cs',g',hb',k'⟩)⟩,fun B ho=>?_,hle⟩
 ·cases hk : κ b with
  | none=>simp only [hk] at hb; exact⟨mt (hI.dom b x hb).1 hn,mt (hI.dom b x hb).2 hsz⟩
  | some i=>simp only [hk] at hb; exact⟨hnew b i hk x hb,(hI1.dom i x hb).2⟩
 ·cases hk : κ b with
  | none=>simp only [hk] at hb; exact hI.own b x (hlf b hk hl) hb
  | some i=>simp only [hk] at hb; exact hI1.own i x (hlv b i hk hl) hb
 ·cases hk : κ b with
  | none =>
    rw [hframe b hk] at hb;rcases hI.cells b cs op hb with⟨q1,q2⟩ | ⟨x,q1,q2⟩
    ·exact yM
    ·exact .inr ⟨x,by simp only [hk,q1],q2.mono hrle (hfar b x.1 hk (.inl ⟨⟨_,hb,rfl⟩,x,q1,rfl⟩)).1⟩
  | some i =>
    have:=hblk b i _ hk hb;rcases this.id_cells hI1 with⟨q1,q2⟩ | ⟨x,q1,q2⟩
    ·exact yM
    ·exact .inr ⟨x,by simp only [hk,q1],q2.mono (fun b x hb=>hle b x hb) rfl⟩
 ·cases hk : κ b with
  | none =>
    rw [hframe b hk] at hb;obtain⟨x,q1,q2,q3⟩:=hI.iter b t p hb;refine⟨x,by simp only [hk,q1],q2,?_⟩;rw [(hfar b x.1 hk (.inl ⟨⟨_,hb,rfl⟩,x,q1,rfl⟩)).1];exact q3
  | some i =>
    have:=hblk b i _ hk hb;obtain⟨x,q1,q2,q3⟩:=this.id_iter hI1;exact⟨x,by simp only [hk,q1],q2,q3⟩
 ·cases hk : κ b with
  | none =>
    rw [hframe b hk] at hb;rcases hI.ro b cs hb with⟨q1,q2⟩ | ⟨x,q1,cc,e,f,q2,q3⟩
    ·exact yM
    exact .inr ⟨x,by simp only [hk,q1],cc,e,f,q2,fun i l hl=>let ⟨g1,u,g2,g3⟩:=q3 i l hl; ⟨g1,u,g2,g3.mono hrle⟩⟩
  | some i =>
    have:=hblk b i _ hk hb;rcases this.id_ro hI1 with⟨q1,q2⟩ | ⟨x,q1,cc,e,f,q2,q3⟩
    ·exact yM
    exact .inr ⟨x,by simp only [hk,q1],cc,e,f,q2,fun i l hl=>let ⟨g1,u,g2,g3⟩:=q3 i l hl; ⟨g1,u,g2,g3.mono fun b x hb=>hle b x hb⟩⟩
 ·cases hk : κ b with
  | none =>
    obtain⟨k1,k2⟩:=hobn b F cs g hk hb;obtain⟨x,q1,q2,q3⟩:=hI.ob.holds b F cs g k1;refine⟨x,by simp only [hk,q1],(k2 _).2 q2,fun w2 g1 g2 g3=>?_⟩;rw [funext fun B=>propext (k2 B)];refine q3 w2 g1 (kc hsz g2) fun B hB=>?_
    rw [g3 B ((k2 B).2 hB)];exact(hfar b B hk (.inr ⟨F,cs,g,k1,hB⟩)).1
  | some i =>
    obtain⟨g1,k1,k2⟩:=hobs b i F cs g hk hb;obtain⟨x,q1,q2,q3⟩:=hI1.ob.holds i F cs g1 k1;refine⟨x,by simp only [hk,q1],(k2 _).2 q2,fun w2 p1 p2 p3=>?_⟩;rw [funext fun B=>propext (k2 B)];exact q3 w2 p1 p2 fun B hB=>p3 B ((k2 B).2 hB)
 ·obtain⟨b,F,cs,g,h1,h2⟩:=hB;rcases hby b B (.inr ⟨F,cs,g,h1,h2⟩) with⟨k1,k2⟩ | ⟨i,k1,k2⟩
  ·have:=hI.owned_in k2.owned; exact⟨this.1,mt this.2 hsz⟩
  ·exact hI1.owned_in k2.owned
 ·obtain⟨b,ho⟩:=ho.by;rcases hby b B ho with⟨k1,k2⟩ | ⟨i,k1,k2⟩
  ·exact .inl k2.owned
  ·exact .inr k2.owned
theorem Inv.graft {W0:World} {r r1:Ren} {s s0 s1 s':St} {w w':World} {ρ : List Nat} {κ : Nat→Option Nat} (hI:Inv W0 r s w) (h0:Sub 0 (dt (ρ.map .id)) s s0) (hn:s0.n = ρ.length)
  (hI1:Inv W0 r1 s1 w') (hE:Ext (a4c.ren (dt (ρ.map .id)) r) s0 w r1 s1 w') (h:HF ρ κ s s1 s') :
  Inv W0 (fun b=>match κ b with | some i=>r1 i | none=>r b) s' w'∧Ext r s w (fun b=>match κ b with | some i=>r1 i | none=>r b) s' w' ∧
   ∀ b x,a4c.ren (fun b=>(κ b).map .id) r1 b=some x→(match κ b with | some i=>r1 i | none=>r b)=some x:=by
 have hr0:∀ i b,ρ[i]? = some b→a4c.ren (dt (ρ.map .id)) r i=r b:=fun i b hi=>by simp [a4c.ren,dt,hi,Src.ren]
 have hsub:∀ B,B < w.heap.size→a4j (a4c.ren (dt (ρ.map .id)) r) s0 B→∃ i c,ρ[i]? = some c∧a2w r s c B:=fun B hB ho=>by
  rcases ho with⟨b0,x0,⟨L0,q4,q5⟩,q2,rfl⟩ | ⟨b0,F,cs,g0,q1,q2⟩
  ·obtain⟨src,p1,p2⟩:=h0.blk b0 L0 q4;simp only [dt,oL] at p1;cases hρ : ρ[b0]? with
   | none=>simp [hρ] at p1
   | some c =>
     simp [hρ] at p1; subst p1;rw [hr0 b0 c hρ] at q2;obtain⟨M,m1,m2⟩:=p2.lives q5 (by simp [Src.under]);exact⟨b0,c,hρ,.inl ⟨⟨M,m1,m2⟩,x0,q2,rfl⟩⟩
  ·obtain⟨src,p1,p2⟩:=h0.blk b0 _ q1;simp only [dt,oL] at p1;cases hρ : ρ[b0]? with
   | none=>simp [hρ] at p1
   | some c =>
     simp [hρ] at p1; subst p1;simp only [Src.under] at p2;cases hc:s.h.get c with
     | none=>rw [hc] at p2; simp [LBW] at p2
     | some L =>
       rw [hc] at p2;cases L <;> simp only [LBW] at p2
       rename_i F' cs' g;obtain⟨rfl,rfl,h3⟩:=p2;refine⟨b0,c,hρ,.inr ⟨F,cs,g,hc,?_⟩⟩;simpa only [Own,a4c.ren,h3,Src.ren] using q2
 have hfar:∀ b B,κ b=none→a2w r s b B→¬ a4j (a4c.ren (dt (ρ.map .id)) r) s0 B:=fun b B hk ho h2=>by
  obtain⟨i,c,q1,q2⟩:=hsub B (hI.owned_in ho.owned).2 h2;have:=hI.one_owner ho q2;subst this;rw [(h.old i b q1).2] at hk; cases hk
 have hrle:r.le (fun b=>match κ b with | some i=>r1 i | none=>r b):=fun b x hb=>by
  cases hk : κ b with
  | none=>simpa [hk] using hb
  | some i =>
    simp only [hk];have hbn:=(hI.dom b x hb).1;exact hE.le i x (by rw [hr0 i b (h.back b i hbn hk)]; exact hb)
 obtain⟨m1,m2,m3⟩:=hI.mix hI1 hE.size hrle h.n (fun b i k x _=>(h.new b i k).1) h.inj h.blk h.frame h.fresh h.g fun b B hk ho =>
  have hB:=(hI.owned_in ho.owned).2
  ⟨hE.keep B hB (hfar b B hk ho),fun k=>hfar b B hk ho (hE.img B hB k)⟩
 refine⟨m1,⟨hrle,h.n,hE.size,fun B hB ho=>?_,fun B hB hno=>hE.keep B hB fun ho=>?_⟩,m3⟩
 ·rcases m2 B ho with k | k
  ·exact k
  ·obtain⟨_,c,_,q⟩:=hsub B hB (hE.img B hB k);exact q.owned
 ·obtain⟨_,c,_,q⟩:=hsub B hB ho;exact hno q.owned
theorem a0j.graft {f:Nat} {args args0:al} {s s0:St} {ρ : List Nat} {Q Q':LV→St→Prop} (h0:Sub 0 (dt (ρ.map .id)) s s0) (hn:s0.n = ρ.length) (ha:a7h (dt (ρ.map .id)) args0 args) (h:a0j P f args0 s0 Q)
  (hG:∀ l1 s1,Q l1 s1→∃ l s' κ,Q' l s'∧HF ρ κ s s1 s'∧LVW (fun b=>(κ b).map .id) l l1):a0j P f args s Q':=by
 intro W0 r w us hI hv;obtain⟨k1,k2⟩:=hI.sub h0;refine(h W0 _ w us k1 (ha.sound hv)).mono fun e w' ⟨l1,s1,v,r1,q,he,hv',hI1,hE1⟩=>?_
 obtain⟨l,s',κ,g1,g2,g3⟩:=hG l1 s1 q;obtain⟨m1,m2,m3⟩:=hI.graft h0 hn hI1 hE1 g2;exact⟨l,s',v,_,g1,he,(g3.sound hv').mono fun b x hb=>m3 b x hb,m1,m2⟩
end
section
open Go.RowKit
noncomputable section
variable {P:Program}
theorem a0n.i3k {nt n0:Nat} {o:Operand} {c d:Code} {tm:Tm} {s:St} {Q:LX→Tm→St→Prop} (ho:f9 (aQ tm) o=some .unb) (h1:a0n P nt c n0 tm s Q) (h2:a0n P nt d n0 tm s Q):a0n P nt (.cond o c d) n0 tm s Q:=by
 intro W0 r a w hI hA K hK;have:=hA.eval _ _ ho;simp only [VR] at this;rcases this with h | h
 ·exact wp_cond_true h (h1 W0 r a w hI hA K hK)
 ·exact wp_cond_false h (h2 W0 r a w hI hA K hK)
theorem a0n.cnd {nt n0:Nat} {o:Operand} {q:Bool} {c d:Code} {tm:Tm} {s:St} {Q:LX→Tm→St→Prop} (ho:f9 (aQ tm) o=some (.b q)) (h1:q=true→a0n P nt c n0 tm s Q) (h2:q=false→a0n P nt d n0 tm s Q):a0n P nt (.cond o c d) n0 tm s Q:=by
 intro W0 r a w hI hA K hK;have:=hA.eval _ _ ho;simp only [VR] at this;cases q with
 | true=>exact wp_cond_true this (h1 rfl W0 r a w hI hA K hK)
 | false=>exact wp_cond_false this (h2 rfl W0 r a w hI hA K hK)
def cG:Code→List Code
 | .seq a b=>cG a++cG b
 | c=>[c]
def SSp (P:Program) (nt:Nat):List Code→Nat→Tm→St→(LX→Tm→St→Prop)→Prop
 | [],_,tm,s,Q=>Q .normal tm s
 | c::l,n0,tm,s,Q=>a0n P nt c n0 tm s fun x tm' s'=>match x with
   | .normal=>SSp P nt l n0 tm' s' Q
   | x=>Q x tm' s'
theorem SSp.mono {nt n0:Nat} {Q Q':LX→Tm→St→Prop} (hq:∀ x tm s,Q x tm s→Q' x tm s):∀ {l:List Code} {tm:Tm} {s:St},SSp P nt l n0 tm s Q→SSp P nt l n0 tm s Q'
 | [],tm,s,h=>hq _ _ _ h
 | c::l,tm,s,h=>a0n.mono h fun x tm' s' h'=>by
   cases x with
   | normal=>exact SSp.mono hq h'
   | exit id=>exact hq _ _ _ h'
   | ret=>exact hq _ _ _ h'
theorem SSp.append {nt n0:Nat} {Q:LX→Tm→St→Prop}:∀ {l m:List Code} {tm:Tm} {s:St},SSp P nt (l++m) n0 tm s Q→SSp P nt l n0 tm s fun x tm' s'=>match x with
  | .normal=>SSp P nt m n0 tm' s' Q
  | x=>Q x tm' s'
 | [],m,tm,s,h=>h
 | c::l,m,tm,s,h=>a0n.mono h fun x tm' s' h'=>by
   cases x with
   | normal=>exact SSp.append h'
   | exit id=>exact h'
   | ret=>exact h'
theorem SSp.join {nt n0:Nat} {Q:LX→Tm→St→Prop}:∀ {l m:List Code} {tm:Tm} {s:St},(SSp P nt l n0 tm s fun x tm' s'=>match x with
  | .normal=>SSp P nt m n0 tm' s' Q
  | x=>Q x tm' s')→SSp P nt (l++m) n0 tm s Q
 | [],m,tm,s,h=>h
 | c::l,m,tm,s,h=>a0n.mono h fun x tm' s' h'=>by
   cases x with
   | normal=>exact SSp.join h'
   | exit id=>exact h'
   | ret=>exact h'
theorem a0n.i3u {nt n0:Nat}:∀ {c:Code} {tm:Tm} {s:St} {Q:LX→Tm→St→Prop},SSp P nt (cG c) n0 tm s Q→a0n P nt c n0 tm s Q:=by
 intro c
 induction c with
 | seq a b iha ihb =>
   intro tm s Q h;refine a0n.seq (iha ?_);refine SSp.mono (fun x tm' s' h'=>?_) (SSp.append (l:=cG a) (m:=cG b) h);cases x with
   | normal=>exact ihb h'
   | exit id=>exact h'
   | ret=>exact h'
 | _ =>
   intro tm s Q h;refine a0n.mono h fun x tm' s' h'=>?_
   cases x <;> exact h'
def bc (P:Program) (cx:Cx) (n nt:Nat):List Code→Tm→St→(LX→Tm→St→Prop)→Prop
 | [],tm,s,K=>K .normal tm s
 | c::l,tm,s,K=>aX P cx n nt c tm s fun x tm' s'=>match x with
   | .normal=>bc P cx n nt l tm' s' K
   | x=>K x tm' s'
theorem SSp.of_x {cx:Cx} (hcx:cT P (cv cx)) {n nt n0:Nat}:∀ {l:List Code} {tm:Tm} {s:St} {Q:LX→Tm→St→Prop},n0≤s.n→bc P cx n nt l tm s (fun x tm' s'=>n0≤s'.n→Q x tm' s')→SSp P nt l n0 tm s Q
 | [],tm,s,Q,hn,h=>h hn
 | c::l,tm,s,Q,hn,h=>by
   intro W0 r a w hI hA K hK;obtain⟨x,tm',s',h1,h2⟩:=(xC (P:=P) (cx:=cx) n).1 _ _ _ _ _ h;refine(qI hcx n).1 W0 nt c tm tm' s s' x h1 r a w hI hA K fun r' a' w' k1 k2 k3=>hK x tm' s' r' a' w' ?_ k1 (c0w.of k2 hn) k3
   cases x with
   | normal=>exact SSp.of_x hcx (kc hn k2.n) h2
   | exit id=>exact h2 (kc hn k2.n)
   | ret=>exact h2 (kc hn k2.n)
def z8 (P:Program) (f:Nat):Code:=match P.funcs[f]? with | some fn=>(match fn.body with | some c=>c | none=>.skip) | none=>.skip
def p9 (P:Program) (f:Nat):Nat:=match P.funcs[f]? with | some fn=>fn.ntmps | none=>0
def qh (P:Program) (f:Nat):List ResultVar:=match P.funcs[f]? with | some fn=>fn.results.toList | none=>[]
def sp (P:Program) (f:Nat):List Code:=cG (z8 P f)
def bS (l:List Code) (i j:Nat):List Code:=(l.drop i).take j
def ce:Code→Code
 | .block _ (.loop b)=>b
 | .loop b=>b
 | _=>.skip
def bi:List Code→Nat→Code
 | [],_=>.skip
 | c::_,0=>c
 | _::l,n+1=>bi l n
theorem a0n.i3c {nt n0 id:Nat} {b:Code} {Q:LX→Tm→St→Prop} {σ : Type} (L:List Nat) (g:List (Nat×al)) (T : σ→List (Nat×LV)) (H : σ→a9) (μ : σ→Nat) (hn:∀ a,n0≤(H a).length)
  (hr:∀ a,a0n P nt b n0 (aF nt (T a)) (ai (H a) g) fun x tm s=>match x with
   | .normal=>s.g=g∧∃ a',μ a' < μ a∧∃ ρ,gJ n0 nt L (iU L tm) (fK s) ρ (T a') (H a')
   | .exit k=>cond (Nat.beq k id) (Q .normal tm s) (Q (.exit k) tm s)
   | .ret=>Q .ret tm s) (a : σ):a0n P nt (.block id (.loop b)) n0 (aF nt (T a)) (ai (H a) g) Q:=by
 refine a0n.block (a0n.i3n L g T H μ hn (fun a=>(hr a).mono fun x tm s h=>?_) a);cases x with
 | normal=>exact h
 | exit k=>exact h
 | ret=>exact h
theorem a0j.i3b {f:Nat} {args:al} {tm:Tm} {bs:a9} {g:List (Nat×al)} {Q:LV→St→Prop} (hf:∃ fn c,P.funcs[f]? = some fn∧fn.body=some c∧Nat.ble args.length fn.ntmps=true) (ht:ib args 0 .leaf=some tm)
  (h:SSp P (p9 P f) (sp P f) bs.length tm (ai bs g) fun x tm' s'=>uX x∧∃ vs,gm P (aQ tm') s' (qh P f)=some vs∧Q (mj vs) s'):a0j P f args (ai bs g) Q:=by
 obtain⟨fn,c,h1,h2,h3⟩:=hf;have e1:p9 P f=fn.ntmps:=by simp [p9,h1]
 have e2:qh P f=fn.results.toList:=by simp [qh,h1]
 have e3:z8 P f=c:=by simp [z8,h1,h2]
 rw [e1,e2] at h;simp only [sp,e3] at h;refine a0j.body h1 h2 ht h3 ?_;rw [cN];exact a0n.i3u h
mutual
theorem AP {ρ : a4c}:∀ {l:LV},b4m l=true→LVW ρ l l
 | .bool _,h | .str _,h=>by simp only [LVW]
 | .int _ _,h=>by simp only [LVW]; exact⟨trivial,trivial⟩
 | .gptr _ _,h=>by simp only [LVW]; exact⟨trivial,trivial⟩
 | .vp _ _,h=>by simp only [LVW]; exact⟨trivial,trivial⟩
 | .nilp,h | .nils,h | .nilFunc,h | .nilIface,h | .unb,h | .val _,h | .sln _,h=>by simp only [LVW]
 | .fact _,h | .sle,h | .any,h | .ptr _ _,h | .sl _ _ _ _,h | .slo _ _ _ _,h | .fn _ _,h=>by simp [b4m] at h
 | .iface _ a,h=>by simp only [b4m] at h; simp only [LVW]; exact⟨trivial,AP h⟩
 | .agg a,h=>by simp only [b4m] at h; simp only [LVW]; exact yz h
 | .tup a,h=>by simp only [b4m] at h; simp only [LVW]; exact yz h
theorem yz {ρ : a4c}:∀ {a:al},a1u a=true→a7h ρ a a
 | [],h=>by simp only [a7h]
 | a::as,h=>by
   simp only [a1u,bg] at h;simp only [a7h]; exact⟨AP h.1,yz h.2⟩
end
def mN (ρ : List Nat) (s:St):List Nat→a9→Prop
 | [],[]=>True
 | b::bs,L::Ls=>(b < s.n∧∃ M,s.h.get b=some M∧LBW (dt (ρ.map .id)) (.id b) L (some M)∧∀ κ : a4c,(∀ i c,ρ[i]? = some c→κ c=some (.id i))→LBW κ (.id 0) M (some L))∧mN ρ s bs Ls
 | _,_=>False
theorem yE {ρ : List Nat} {s:St}:∀ {bs:List Nat} {Ls:a9},mN ρ s bs Ls→bs.length=Ls.length∧∀ (i:Nat) (b:Nat) (L:LB),bs[i]? = some b→Ls[i]? = some L →
  (b < s.n∧∃ M,s.h.get b=some M∧LBW (dt (ρ.map .id)) (.id b) L (some M)∧∀ κ : a4c,(∀ i c,ρ[i]? = some c→κ c=some (.id i))→LBW κ (.id 0) M (some L))
 | [],[],h=>⟨rfl,fun i b L h1=>by simp at h1⟩
 | b::bs,L::Ls,h=>by
   simp only [mN] at h;obtain⟨h1,h2⟩:=yE h.2;refine⟨by simp [h1],fun i b' L' k1 k2=>?_⟩;cases i with
   | zero=>simp at k1 k2; subst k1 k2; exact h.1
   | succ i=>simp at k1 k2; exact h2 i b' L' k1 k2
 | [],_::_,h=>by simp only [mN] at h
 | _::_,[],h=>by simp only [mN] at h
theorem LBW.id_any {ρ : a4c} {a b:Nat} {L:LB} {M:Option LB} (h:LBW ρ (.id a) L M):LBW ρ (.id b) L M:=by
 unfold LBW at h ⊢;cases L <;> cases M <;> first | exact h | (rename_i x; cases x <;> exact h)
theorem Sub.lift {ρ : List Nat} {s:St} {bs:a9} (hnd : ρ.Nodup) (h:mN ρ s ρ bs):Sub 0 (dt (ρ.map .id)) s (ai bs s.g):=by
 obtain⟨h1,h2⟩:=yE h;refine⟨bk _,fun b hb=>absurd hb (Nat.not_lt_zero _),fun b src hb=>?_,fun b hb=>?_,fun b L0 hb=>?_,fun b b' src src' c hl hl' hs hs' hu hu'=>?_,rfl⟩
 ·simp only [dt,oL] at hb;cases hρ : ρ[b]? with
  | none=>simp [hρ] at hb
  | some c=>rw [cN,← h1]; exact(bU.1 hρ).1
 ·rw [cN] at hb; rw [b8]; exact gO hb
 ·rw [b8] at hb;have hlt:=(bU.1 hb).1;have hρ : ρ[b]? = some (ρ[b]' ab):=cq ab;obtain⟨q1,M,q2,q3,q4⟩:=h2 b _ L0 hρ hb;exact⟨.id (ρ[b]' ab),by simp [dt,hρ],by simp only [Src.under,q2]; exact q3⟩
 ·simp only [dt,oL] at hs hs';cases hρ : ρ[b]? with
  | none=>simp [hρ] at hs
  | some x =>
    cases hρ' : ρ[b']? with
    | none=>simp [hρ'] at hs'
    | some y =>
      simp [hρ] at hs; simp [hρ'] at hs'; subst hs hs';simp [Src.under] at hu hu'; subst hu hu';have i1:=(bU.1 hρ).1;have i2:=(bU.1 hρ').1;exact(List.getElem?_inj i1 hnd).1 (hρ.trans hρ'.symm)
def qe:List Nat→Nat→Option Nat
 | [],_=>none
 | x::xs,b=>if x=b then some 0 else(qe xs b).map (· + 1)
theorem qJ:∀ {l:List Nat} {b i:Nat},qe l b=some i→l[i]? = some b
 | [],b,i,h=>by simp [qe] at h
 | x::xs,b,i,h=>by
   simp only [qe] at h;by_cases e:x=b
   ·simp [e] at h; subst h; subst e; rfl
   ·simp only [e,dn,mY] at h;obtain⟨j,h1,rfl⟩:=h;simpa using qJ h1
theorem vM:∀ {l:List Nat} {b i:Nat},l.Nodup→l[i]? = some b→qe l b=some i
 | [],b,i,hn,h=>by simp at h
 | x::xs,b,0,hn,h=>by simp at h; subst h; simp [qe]
 | x::xs,b,i+1,hn,h=>by
   simp at h;rw [qP] at hn;have:x≠b:=fun e=>hn.1 (by rw [e]; exact fS h)
   simp only [qe,this,dn,vM hn.2 h,sx]
theorem a0j.i3e {f:Nat} {args args0:al} {s:St} (hfr:∀ b,s.n≤b→s.h.get b=none) {bs:a9} {ρ : List Nat} {v:LV} (hnd : ρ.Nodup) (hl:mN ρ s ρ bs) (ha:a7h (dt (ρ.map .id)) args0 args) (hv:b4m v=true)
  (h:a0j P f args0 (ai bs s.g) fun l s'=>l=v∧s'=ai bs s.g):a0j P f args s fun l s'=>l=v∧s'=s:=by
 obtain⟨h1,h2⟩:=yE hl;refine a0j.graft (Sub.lift hnd hl) (by rw [cN,h1]) ha h fun l1 s1 ⟨e1,e2⟩=>?_
 subst e1 e2;refine⟨l1,s,qe ρ,⟨rfl,rfl⟩,⟨aR _,fun i b hi=>?_,fun b i hb hk=>qJ hk,fun b i hk=>?_,fun b b' i hk hk'=>?_,fun b i L' hk hb=>?_,fun b _=>rfl,hfr,rfl⟩,?_⟩
 ·have hlt:=(bU.1 hi).1;obtain⟨q1,_⟩:=h2 i b (bs[i]' ab) hi (cq ab);exact⟨q1,vM hnd hi⟩
 ·have hi:=qJ hk;have hlt:=(bU.1 hi).1;obtain⟨q1,_⟩:=h2 i b (bs[i]' ab) hi (cq ab);exact⟨q1,fun hb=>absurd q1 ab⟩
 ·have e1:=qJ hk;have e2:=qJ hk';rw [e1] at e2; simpa using e2
 ·have hi:=qJ hk;have hlt:=(bU.1 hi).1;have hL:bs[i]? = some (bs[i]' ab):=cq ab;obtain⟨q1,M,q2,q3,q4⟩:=h2 i b _ hi hL;rw [hb] at q2; cases q2;rw [b8,hL];refine(q4 _ fun j c hj=>?_).id_any;simp only [vM hnd hj,sx]
 ·have:∀ {r:a4c} {l:LV},b4m l=true→LVW r l l:=by
   intro r l;exact AP
  exact this hv
end
end
section
open Go.RowKit
variable {P:Program}
theorem ways {c:Bool} {A B:Prop} (h1:c=true→A) (h2:c=false→B):cond c A B:=by cases c; exact h2 rfl; exact h1 rfl
theorem N4 {c:Bool} {A:Prop} (h1:c=true) (h2:A):cond c A False:=by rw [h1]; exact h2
theorem oo {c:Bool} {A B:Prop} (h1:c=true) (h2:A):cond c A B:=by rw [h1]; exact h2
theorem po {c:Bool} {A B:Prop} (h1:c=false) (h2:B):cond c A B:=by rw [h1]; exact h2
theorem lQ (x y:Int):ad .eql x y=decide (x=y):=by simp only [ad,o5]; rw [mu]; simp
theorem qC (x y:Int):ad .neq x y = !decide (x=y):=by simp only [ad,o5]; rw [mu]; simp
theorem oz (x y:Int):ad .lss x y=decide (x < y):=rfl
theorem iq (x y:Int):ad .leq x y=decide (x≤y):=rfl
theorem tO (x y:Int):ad .gtr x y=decide (y < x):=rfl
theorem rW (x y:Int):ad .geq x y=decide (y≤x):=rfl
theorem ES (k:IntKind) (x y:Int):au .add k x y=iG k (x+y):=rfl
theorem ET (k:IntKind) (x y:Int):au .sub k x y=iG k (x - y):=rfl
theorem JL (k:IntKind) (x y:Int):au .mul k x y=iG k (x * y):=rfl
theorem JM (k:IntKind) (x y:Int) (h:y≠0):au .quo k x y=iG k (x.tdiv y):=by
 have:(y == 0)=false:=by simp [h]
 simp [au,qp,this]
theorem AI (k:IntKind) (x y:Int) (h:y≠0):au .rem k x y=x.tmod y:=by
 have:(y == 0)=false:=by simp [h]
 simp [au,qp,this]
theorem pz {n:Int} (h1 : -9223372036854775808≤n) (h2:n≤9223372036854775807):iG .i64 n=n:=by
 rw [tU];by_cases hn:0≤n
 ·have:n % (18446744073709551616:Int)=n:=t8 hn ab;simp only [IntKind.wrap,IntKind.bits,IntKind.signed,Int.reducePow,Nat.reduceSub,this];rw [av];simp; omega
 ·have:n % (18446744073709551616:Int)=n+18446744073709551616:=ab;simp only [IntKind.wrap,IntKind.bits,IntKind.signed,Int.reducePow,Nat.reduceSub,this];rw [aB]
  ·omega
  ·simp; omega
theorem lS {n:Int} (h1:0≤n) (h2:n≤18446744073709551615):iG .u64 n=n:=by
 rw [tU];have:n % (18446744073709551616:Int)=n:=t8 h1 ab;simp only [IntKind.wrap,IntKind.bits,IntKind.signed,Int.reducePow,this];simp
theorem JK {n:Int} (h1:0≤n) (h2:n≤255):iG .u8 n=n:=by
 rw [tU];have:n % (256:Int)=n:=t8 h1 ab;simp only [IntKind.wrap,IntKind.bits,IntKind.signed,Int.reducePow,this];simp
variable {α : Type}
def aj (f : α→al):List α→al
 | []=>[]
 | x::r=>f x++aj f r
theorem iW {f : α→al} {w:Nat} (hw:∀ x,(f x).length=w):∀ xs:List α,(aj f xs).length=xs.length * w
 | []=>by simp [aj]
 | x::r=>by simp only [aj,cg,hw,iW hw r,cZ]; rw [pI]; omega
theorem Je {l:al} {i:Nat} {v:LV} (h:l[i]? = some v):af l i=v:=by simp only [af,pt,h]
theorem E0 {f : α→al} {w:Nat} (hw:∀ x,(f x).length=w):∀ (xs:List α) (i j:Nat) (h:i < xs.length),j < w→(aj f xs)[i * w+j]? = (f xs[i])[j]?
 | x::r,0,j,h,hj=>by simp only [aj,lh,bV]; rw [iY (by rw [hw]; exact hj)]; rfl
 | x::r,i+1,j,h,hj=>by
   simp only [aj];rw [kb BO,hw,show(i+1) * w+j - w=i * w+j by rw [pI]; omega];simpa using E0 hw r i j pN hj
theorem gc {f : α→al} {w:Nat} (hw:∀ x,(f x).length=w) {xs:List α} {i j:Nat} (h:i < xs.length) (hj:j < w):af (aj f xs) (i * w+j)=af (f xs[i]) j:=by
 have h1:=E0 hw xs i j h hj;have h2:j < (f xs[i]).length:=by rw [hw]; exact hj
 rw [cq h2] at h1;rw [Je h1,Je (cq h2)]
theorem g9 (f : α→al):∀ (xs ys:List α),aj f (xs++ys)=aj f xs++aj f ys
 | [],ys=>rfl
 | x::r,ys=>by simp [aj,g9 f r ys]
theorem E5 {f : α→al} {w:Nat} (hw:∀ x,(f x).length=w):∀ (xs:List α) (i:Nat) (y : α),i < xs.length→gt (aj f xs) (i * w) (f y)=aj f (xs.set i y)
 | x::r,0,y,h=>by
   simp only [gt,aj,lh,List.take_zero,lU,bV,List.set_cons_zero,hw];rw [List.drop_append,mo (by rw [hw]; exact aR _),hw];simp
 | x::r,i+1,y,h=>by
   have ih:=E5 hw r i y pN;simp only [gt,hw] at ih;simp only [gt,aj,List.set_cons_succ,hw,← ih];rw [List.take_append,List.take_of_length_le BO,hw,List.drop_append,mo BO,hw,
    show(i+1) * w - w=i * w by rw [pI]; omega,show(i+1) * w+w - w=i * w+w by rw [pI]; omega]
   simp
theorem Wq {f : α→al} {w:Nat} (hw:∀ x,(f x).length=w) {xs:List α} {i j:Nat} {v:LV} {y : α} (h:i < xs.length) (hj:j < w) (hy:gt (f xs[i]) j [v]=f y):gt (aj f xs) (i * w+j) [v]=aj f (xs.set i y):=by
 rw [← E5 hw xs i y h];have hlen:=iW hw xs;have hin:i * w+w≤(aj f xs).length:=by rw [hlen,← pI]; exact Nat.mul_le_mul_right _ h
 apply List.ext_getElem?;intro k;have e1:=rP _ _ _ _ (rQ (aj f xs) (i * w+j) [v] ke);have e2:=rP _ _ _ _ (rQ (aj f xs) (i * w) (f y) (by rw [hw]; exact hin));have e3:=rP _ _ _ _ (rQ (f xs[i]) j [v] (by rw [hw]; simp; omega));have hl:(gt (f xs[i]) j [v]).length=w:=by rw [hy,hw]
 simp only [← hy] at e2;rw [hl] at e2;have E1:=e1.2.2 k;have E2:=e2.2.2 k;simp only [kH] at E1;rw [← hy,E1,E2];by_cases hk:i * w≤k∧k < i * w+w
 ·obtain⟨m,rfl⟩:∃ m,k=i * w+m:=⟨k - i * w,ab⟩;have E3:=e3.2.2 m;simp only [kH] at E3;have E4:=E0 hw xs i m h ab;have:i * w+m - i * w=m:=ab;rw [aB hk,this,E3];by_cases hm:m=j
  ·subst hm;rw [aB ab,aB ab];simp
  ·rw [av ab,av ab,E4]
 ·rw [av hk,av ab]
theorem iu {f : α→al} (hf:∀ x,a1u (f x)=true):∀ xs:List α,a1u (aj f xs)=true
 | []=>rfl
 | x::r=>by
   have h1:=ml.1 (hf x);have h2:=ml.1 (iu hf r);exact ml.2 fun l hl=>by simp only [aj,gz] at hl; exact hl.elim (h1 l) (h2 l)
theorem ym {cs:al} (h:a1u cs=true):LV.any ∉ cs:=fun hm=>by have:=ml.1 h _ hm; simp [b4m] at this
theorem JU {f : α→al} (z : α):∀ n,tg n (f z)=aj f (List.replicate n z)
 | 0=>rfl
 | n+1=>by
   have:=JU (f:=f) z n;simp only [tg] at this;simp [tg,gQ,List.replicate_succ,aj,this]
end
section
open Go.RowKit
variable {P:Program}
abbrev rM:Ren:=fun _=>none
def a4n (W:World) (v:Value) (len:Nat) (cs:al):Prop :=
 (ie v∧len=0∧cs=[])∨∃ B o cap c e f,v=.slice (some ⟨B,o,none⟩) len cap∧len≤cap∧W.heap[B]? = some (.cells c e f)∧∀ (i:Nat) l,cs[i]? = some l→l.plain=true∧∃ u,c[o+i]? = some u∧VR rM l u
def Ai (W:World):List (Value×Nat×al)→Prop
 | []=>True
 | x::r=>a4n W x.1 x.2.1 x.2.2∧Ai W r
def places:List (Value×Nat×al)→List (Option (Nat×Nat×Nat))
 | []=>[]
 | (.slice (some ⟨B,o,none⟩) len (cap+1),_)::r=>some (B,o,cap+1)::places r
 | _::r=>none::places r
theorem Fy {W:World}:∀ {rows:List (Value×Nat×al)},Ai W rows→∃ xs:List (Option (Nat×Nat×Nat)),xs.length=rows.length∧∀ (i:Nat) v n cs,rows[i]? = some (v,n,cs)→∃ x,xs[i]? = some x ∧
  ((x=none∧cs=[]∧n=0∧ie v)∨∃ B o c cc e f,x=some (B,o,c)∧v=.slice (some ⟨B,o,none⟩) n c∧n≤c∧W.heap[B]? = some (.cells cc e f)∧∀ (i:Nat) l,cs[i]? = some l→l.plain=true∧∃ u,cc[o+i]? = some u∧VR rM l u)
 | [],_=>⟨[],rfl,fun i v n cs h=>by simp at h⟩
 | (v0,n0,cs0)::r,h=>by
   obtain⟨h1,h2⟩:=h;obtain⟨xs,k1,k2⟩:=Fy h2;rcases h1 with⟨q1,q2,q3⟩ | ⟨B,o,cap,c,e,f,q1,q2,q3,q4⟩
   ·refine⟨none::xs,by simp [k1],fun i v n cs hi=>?_⟩;cases i with
    | zero=>simp at hi; obtain⟨rfl,rfl,rfl⟩:=hi; exact⟨none,rfl,.inl ⟨rfl,q3,q2,q1⟩⟩
    | succ i=>simp only [eG] at hi ⊢; exact k2 i v n cs hi
   ·refine⟨some (B,o,cap)::xs,by simp [k1],fun i v n cs hi=>?_⟩;cases i with
    | zero=>simp at hi; obtain⟨rfl,rfl,rfl⟩:=hi; exact⟨_,rfl,.inr ⟨B,o,cap,c,e,f,rfl,q1,q2,q3,q4⟩⟩
    | succ i=>simp only [eG] at hi ⊢; exact k2 i v n cs hi
def mf (rows:List (Value×Nat×al)):a9:=rows.map fun x=>.ro x.2.2
theorem a0j.top {f:Nat} {rows:List (Value×Nat×al)} {g:List (Nat×al)} {W:World} {args:al} {us:List Value} (hr:Ai W rows) (hg:Gl W g)
  (hv:∀ r:Ren,(∀ (i:Nat) v n cs,rows[i]? = some (v,n,cs)→VR r (.slo i 0 n 0) v)→VRs r args us)
  (h:a0j P f args (ai (mf rows) g) fun l _=>l=.b true):Calls P f us.toArray W fun e W'=>e=.returned (.b true)∧Below W.heap.size W W':=by
 obtain⟨xs,hl,hx⟩:=Fy hr;have hnl:∀ b,¬ (ai (mf rows) g).lives b:=fun b ⟨L,h1,h2⟩=>by
  rw [b8] at h1;simp only [mf,oL,mY] at h1;obtain⟨a,_,rfl⟩:=h1;cases h2
 have hI:Inv W (fun b=>match xs[b]? with | some x=>x | none=>none) (ai (mf rows) g) W:=by
  refine⟨Below.refl _ _,fun b x hb=>?_,fun b x hlv=>absurd hlv (hnl b),fun b hb=>?_,fun b b' x x' hlv=>absurd hlv (hnl b),fun b cs op hb=>?_,fun b t p hb=>?_,hg,fun b cs hb=>?_,c2d.none fun b F cs g hb=>hnl b ⟨_,hb,rfl⟩⟩
  ·cases hxb:xs[b]? with
   | none=>simp [hxb] at hb
   | some y =>
     simp only [hxb] at hb;subst hb;have hlt:=(bU.1 hxb).1;obtain⟨⟨v,n,cs⟩,hrow⟩:∃ q,rows[b]? = some q:=⟨_,cq ab⟩;obtain⟨y,k1,k2⟩:=hx b v n cs hrow;rw [hxb] at k1; simp at k1; subst k1;rcases k2 with⟨e,_⟩ | ⟨B,o,c,cc,e,f,k3,k4,k5,k6,k7⟩
     ·cases e
     ·exact GH
  ·exact wm
  iterate 2
   ·rw [b8] at hb; simp [mf] at hb
  ·rw [b8] at hb;simp only [mf,oL,mY] at hb;obtain⟨⟨v,n,ds⟩,hrow,e⟩:=hb;simp at e; subst e;obtain⟨y,k1,k2⟩:=hx b v n ds hrow;simp only [k1];rcases k2 with⟨e1,e2,_⟩ | ⟨B,o,c,cc,e,f,k3,k4,k5,k6,k7⟩
   ·exact .inl ⟨e2,e1⟩
   ·exact GG
 refine(h W _ W us hI (hv _ fun i v n cs hi=>?_)).mono fun e w' ⟨l,s',v,r',q,he,hu,hi,_⟩=>?_
 ·obtain⟨y,k1,k2⟩:=hx i v n cs hi;simp only [VR,k1];rcases k2 with⟨e1,e2,e3,e4⟩ | ⟨B,o,c,cc,e,f,k3,k4,k5,k6,k7⟩
  ·exact .inr ⟨e3,e4⟩
  ·exact .inl ⟨B,o,c,k3,ab,by simp [k4]⟩
 ·subst q;simp only [VR] at hu; subst hu;exact⟨he,hi.below⟩
theorem Ks {α : Type} {f : α→al} {w:Nat} (hw:∀ x,(f x).length=w) {ok : α→Prop} {c:Array Value} {off:Nat}:∀ (len:Nat) (h:∀ i,i < len→∃ x,ok x∧∀ (j:Nat) l,(f x)[j]? = some l→l.plain=true∧∃ u,c[off+i * w+j]? = some u∧VR rM l u),
  ∃ xs:List α,xs.length=len∧(∀ x∈xs,ok x)∧∀ (k:Nat) l,(aj f xs)[k]? = some l→l.plain=true∧∃ u,c[off+k]? = some u∧VR rM l u
 | 0,h=>⟨[],rfl,fun x hx=>by simp at hx,fun k l hk=>by simp [aj] at hk⟩
 | n+1,h=>by
   obtain⟨xs,h1,h2,h3⟩:=Ks hw n fun i hi=>h i ab
   obtain⟨y,k1,k2⟩:=h n ab;refine⟨xs++[y],by simp [h1],fun x hx=>?_,fun k l hk=>?_⟩
   ·rcases gz.1 hx with hx | hx
    ·exact h2 x hx
    ·simp at hx; subst hx; exact k1
   ·rw [g9] at hk;have hlen:=iW hw xs;by_cases hlt:k < (aj f xs).length
    ·rw [iY hlt] at hk; exact h3 k l hk
    ·rw [kb ab] at hk;simp only [aj,fR] at hk;obtain⟨q1,u,q2,q3⟩:=k2 _ _ hk;rw [hlen,h1] at q2;exact⟨q1,u,by rw [← q2]; congr 1; rw [hlen,h1] at hlt; omega,q3⟩
theorem Vw {H:Type} {enc:TypeId×Value→H} {W:World} {t e:TypeId} {a:Option Addr} {len cap:Nat} {d:DataW H} {ps:List MemPlace} {α : Type} {f : α→al} {w:Nat} (hw:∀ x,(f x).length=w) (hp:0 < w) {ok : α→Prop}
  (ht:P.underlying t=some (.slice e)) (hC:P.cellsOf e=w) (h:DataW.Trod enc P W 0 (fun _=>true) true t (.slice a len cap) d ps)
  (hel:∀ cs n x,cs.length=w→DataW.trod enc P W 0 (fun _=>true) true n e cs=some x→∃ y,ok y∧∀ (j:Nat) l,(f y)[j]? = some l→l.plain=true∧∃ u,cs[j]? = some u∧VR rM l u) :
  ∃ xs:List α,xs.length=len∧len≤9223372036854775807∧(∀ x∈xs,ok x)∧a4n W (.slice a len cap) len (aj f xs):=by
 obtain⟨fuel,hf⟩:=h;rcases Go.Deep.open_slice ht hf with⟨hcs,_⟩ | ⟨a',len',cap',m,n,D,Pl,hcs,_,hl,hm,hmm,_,hi⟩
 ·simp [Value.cells] at hcs;obtain⟨rfl,rfl,rfl⟩:=hcs;exact⟨[],rfl,ab,fun x hx=>by simp at hx,.inl ⟨.inl rfl,rfl,rfl⟩⟩
 ·simp [Value.cells] at hcs;obtain⟨rfl,rfl,rfl⟩:=hcs;have hmc:m=cap:=by simpa using hmm
  have hm':cap≤9223372036854775807:=hm;by_cases hz:cap=0
  ·subst hz;obtain rfl:len=0:=ab;exact⟨[],rfl,ab,fun x hx=>by simp at hx,.inl ⟨.inr ⟨_,rfl⟩,rfl,rfl⟩⟩
  have key:∀ i,i < cap→∃ cs' x n',cs'.length=w∧DataW.trod enc P W 0 (fun _=>true) true n' e cs'=some x∧∀ j,j < w→W.cell? (a'.add (i * w+j))=cs'[j]?:=by
   intro i hil;obtain⟨cs',hc,ht'⟩:=hi i ab;rw [hC] at hc;obtain⟨_,hlen,hat⟩:=World.cells?_some hc;exact⟨cs',_,_,ab,ht',fun j hj=>by rw [← Go.Deep.add_add]; exact hat j ab⟩
  obtain⟨b,off,spot⟩:=a';obtain⟨cs0,x0,n0,l0,_,at0⟩:=key 0 ab;have hv:=at0 0 hp;rw [cq ab] at hv;have hspot:spot=none:=by simpa [Addr.add] using World.cell?_spot hv
  subst hspot;have hadd:∀ k,(⟨b,off,none⟩:Addr).add k=⟨b,off+k,none⟩:=fun k=>by unfold Addr.add; split <;> simp_all
  rw [hadd] at hv;cases hB:W.heap[b]? with
  | none=>simp [World.cell?,hB] at hv
  | some o =>
    cases o with
    | cells c e1 f1 =>
      obtain⟨xs,k1,k2,k3⟩:=Ks (c:=c) (off:=off) (ok:=ok) hw len fun i hil=>by
       obtain⟨cs',x,n',q1,q2,q3⟩:=key i ab;obtain⟨y,o1,o2⟩:=hel cs' n' x q1 q2;refine⟨y,o1,fun j l hj=>?_⟩;obtain⟨p1,u,p2,p3⟩:=o2 j l hj;have hjw:j < w:=by have:=(bU.1 hj).1; rw [hw] at this; exact this
       have:=q3 j hjw;rw [hadd,p2] at this;exact⟨p1,u,by simpa [World.cell?,hB,iy] using this,p3⟩
      exact⟨xs,k1,ab,k2,.inr ⟨b,off,cap,c,e1,f1,rfl,hl,hB,k3⟩⟩
    | _=>simp [World.cell?,hB] at hv
theorem VT {cx:Cx} (h:∀ f g,cx f=some g→∀ args s bs l s',g args s=some (bs,l,s')→bN bs→(∀ b,s.n≤b→s.h.get b=none)→a0j P f args s fun l1 s1=>l1=l∧s1=s'):cT P (cv cx):=by
 intro f g hf W0 r args s s' l w us hg hI hv;simp only [cv] at hf;cases hc:cx f with
 | none=>simp [hc] at hf
 | some g0 =>
   simp only [hc,a8] at hf;subst hf;cases hq:g0 args s with
   | none=>simp [hq] at hg
   | some q =>
     obtain⟨bs,v,s1⟩:=q;simp only [hq] at hg;cases ha:uB bs with
     | false=>simp [ha] at hg
     | true =>
       simp only [ha,a8,bn] at hg;obtain⟨rfl,rfl⟩:=hg;exact(h f g0 hc args s bs v s1 hq (EX.1 ha) hI.fresh W0 r w us hI hv).mono fun e w' ⟨l,s',u,r',⟨e1,e2⟩,k⟩=>by subst e1 e2; exact⟨u,r',k⟩
theorem a0j.i3q {fuel f:Nat} {s:St} (hfr:∀ b,s.n≤b→s.h.get b=none) (h:isTrue (lrun P fuel f s.g)=true):a0j P f [] s fun l s'=>l=.b true∧s'=s:=by
 unfold lrun at h;cases hf:mb P xA fuel f [] ⟨.leaf,0,s.g⟩ with
 | none=>simp [hf,isTrue] at h
 | some p =>
   obtain⟨v,s1⟩:=p;simp only [hf] at h;have hv:v=.b true:=by
    unfold isTrue at h;split at h
    ·rename_i e; simpa using e
    ·cases h
   subst hv;have h0:a0j P f [] (ai [] s.g) fun l s'=>l=.b true∧s'=s1:=by
    intro W0 r w us hI hu;have:=(qI (P:=P) Kl fuel).2 W0 r f [] ⟨.leaf,0,s.g⟩ s1 (.b true) w us hf hI hu;exact this.mono fun e w' ⟨u,r',he,k⟩=>⟨_,_,u,r',⟨rfl,rfl⟩,he,k⟩
   refine a0j.graft (ρ:=[]) (Sub.lift (List.nodup_nil) (by simp only [mN])) (by rw [cN]; rfl) (by simp [a7h]) h0 fun l1 s2 ⟨e1,e2⟩=>?_
   subst e1;exact⟨.b true,s,fun _=>none,⟨rfl,rfl⟩,⟨aR _,fun i b hi=>by simp at hi,fun b i hb hk=>by simp at hk,fun b i hk=>by simp at hk,fun b b' i hk=>by simp at hk,fun b i L' hk=>by simp at hk,fun b _=>rfl,hfr,rfl⟩,by simp only [LVW]⟩
end
section
open Go.RowKit
variable {P:Program}
theorem cz (k j:IntKind) (n:Int):a7 k (.int j n)=decide (j=k):=rfl
theorem cf (k:IntKind) (n:Int):ar (.int k n)=n:=rfl
theorem fk (b:Bool):eM (.b b)=true:=rfl
theorem fi (b:Bool):ba (.b b)=b:=rfl
theorem ct (n:Nat):ae (n:Int)=n:=kI n
theorem eA (n:Nat):b9 (n:Int)=true:=by simp [b9]
theorem IC (n:Int):b9 n=decide (0≤n):=rfl
theorem xB (a b:Nat):ag a b=decide (a≤b):=by rw [mu]; simp [ag]
theorem HB (a:Nat):xz a=decide (a=0):=by rw [mu]; simp [xz]
theorem H3 (a b:Nat):bR a b=decide (a=b):=by rw [mu]; simp [bR]
theorem bP (a b:Nat):aa a b=a+b:=rfl
theorem IE (a b:Nat):dR a b=a - b:=rfl
theorem cC (o i n:Nat):ah o i n=o+i * n:=rfl
theorem cm (a b:Nat):aJ a b=a * b:=rfl
theorem Ue (a b:Bool):lK a b=(a && b):=rfl
theorem b_ (cs:al):aG cs=cs.length:=rfl
end
section
open Go.RowKit
variable {P:Program}
theorem cJ:cT P (cv fun _=>none):=fun f g h=>by simp [cv] at h
abbrev aL:=List (Nat×al)
abbrev Pk:=LX→al→bE→aL→Prop
def vK (L:List Nat) (K:Pk):LX→Tm→St→Prop:=fun x tm s=>K x (iU L tm) (fK s) s.g
variable {σ : Type}
def oO (n0 nt:Nat) (L:List Nat) (g:aL) (T : σ→List (Nat×LV)) (H : σ→a9) (Φ : Pk):Pk:=fun x vs bs g'=>match x with
 | .normal=>g'=g∧∃ a ρ,gJ n0 nt L vs bs ρ (T a) (H a)
 | .exit k=>Φ (.exit k) vs bs g'
 | .ret=>Φ .ret vs bs g'
def HT (n0 nt id:Nat) (L:List Nat) (g:aL) (T : σ→List (Nat×LV)) (H : σ→a9) (μ : σ→Nat) (a : σ) (Φ : Pk):Pk:=fun x vs bs g'=>match x with
 | .normal=>g'=g∧∃ a',μ a' < μ a∧∃ ρ,gJ n0 nt L vs bs ρ (T a') (H a')
 | .exit k=>cond (Nat.beq k id) (Φ .normal vs bs g') (Φ (.exit k) vs bs g')
 | .ret=>Φ .ret vs bs g'
def sS (n0:Nat) (ts:List Nat) (L:List Nat) (g:aL) (Q:LV→a9→Prop):Pk:=fun x vs bs g'=>uX x∧g'=g∧∃ l0 b0 ρ,Q l0 b0∧gJ n0 1 [0] [mj (ts.map (kY L vs))] bs ρ [(0,l0)] b0
theorem a0n.vc {cx:Cx} (hcx:cT P (cv cx)) {n nt n0:Nat} {c:Code} {tm:Tm} {s:St} {L:List Nat} {Φ : Pk} (hn:n0≤s.n) (h:aX P cx n nt c tm s (vK L Φ)):a0n P nt c n0 tm s (vK L Φ):=a0n.of_x hcx hn h
theorem SSp.vc {cx:Cx} (hcx:cT P (cv cx)) {n nt n0:Nat}:∀ {l:List Code} {tm:Tm} {s:St} {Q:LX→Tm→St→Prop},n0≤s.n→bc P cx n nt l tm s Q→SSp P nt l n0 tm s Q
 | [],tm,s,Q,hn,h=>h
 | c::l,tm,s,Q,hn,h=>by
   intro W0 r a w hI hA K hK;obtain⟨x,tm',s',h1,h2⟩:=(xC (P:=P) (cx:=cx) n).1 _ _ _ _ _ h;refine(qI hcx n).1 W0 nt c tm tm' s s' x h1 r a w hI hA K fun r' a' w' k1 k2 k3=>hK x tm' s' r' a' w' ?_ k1 (c0w.of k2 hn) k3
   cases x with
   | normal=>exact SSp.vc hcx (kc hn k2.n) h2
   | exit id=>exact h2
   | ret=>exact h2
theorem Ee {nt n0:Nat} {l:List Code} {L:List Nat} {g:aL} {T : σ→List (Nat×LV)} {H : σ→a9} {Φ : Pk} (hl:l≠[]) (h:∀ a,SSp P nt l n0 (aF nt (T a)) (ai (H a) g) (vK L Φ)) {x:LX} {tm:Tm} {s:St} (k:vK L (oO n0 nt L g T H Φ) x tm s) :
  match x with | .normal=>SSp P nt l n0 tm s (vK L Φ) | x=>vK L Φ x tm s:=by
 cases x with
 | normal =>
   obtain⟨hg,a,ρ,hc⟩:=k;have hh:=h a;cases l with
   | nil=>exact absurd rfl hl
   | cons c l=>exact a0n.i3d hg hc hh
 | exit id=>exact k
 | ret=>exact k
theorem EZ (l:List Code) (i j:Nat):l.drop i=bS l i j++l.drop (i+j):=by
 simp only [bS,← List.drop_drop];exact(List.take_append_drop j _).symm
theorem oA:∀ (l:List Code) (k:Nat),k < l.length→l.drop k=bi l k::l.drop (k+1)
 | [],k,h=>absurd h aC
 | c::l,0,h=>rfl
 | c::l,k+1,h=>by simpa [bi] using oA l k pN
theorem SSp.to {cx:Cx} (hcx:cT P (cv cx)) {n nt n0:Nat} {l:List Code} {i:Nat} (j k:Nat) (hk:i+j=k:=by rfl) {tm:Tm} {s:St} {L:List Nat} {g:aL} {Φ : Pk} (T : σ→List (Nat×LV)) (H : σ→a9) (hn:n0≤s.n) (hl:Nat.blt k l.length=true)
  (h1:bc P cx n nt (bS l i j) tm s (vK L (oO n0 nt L g T H Φ))) (h2:∀ a,SSp P nt (l.drop k) n0 (aF nt (T a)) (ai (H a) g) (vK L Φ)):SSp P nt (l.drop i) n0 tm s (vK L Φ):=by
 subst hk;rw [EZ l i j];have:=aS hl;refine SSp.join (SSp.mono (fun x tm s h=>?_) (SSp.vc hcx hn h1));have k:=Ee (fun e=>by have h3:=congrArg List.length e; simp at h3; omega) h2 h;cases x <;> exact k
theorem SSp.code_to {nt n0:Nat} {l:List Code} {i:Nat} (k:Nat) (hk:i+1=k:=by rfl) {tm:Tm} {s:St} {L:List Nat} {g:aL} {Φ : Pk} (T : σ→List (Nat×LV)) (H : σ→a9) (hl:Nat.blt k l.length=true)
  (h1:a0n P nt (bi l i) n0 tm s (vK L (oO n0 nt L g T H Φ))) (h2:∀ a,SSp P nt (l.drop k) n0 (aF nt (T a)) (ai (H a) g) (vK L Φ)):SSp P nt (l.drop i) n0 tm s (vK L Φ):=by
 subst hk;have:=aS hl;rw [oA l i ab];refine a0n.mono h1 fun x tm s h=>?_
 have k:=Ee (fun e=>by have h3:=congrArg List.length e; simp at h3; omega) h2 h;cases x <;> exact k
theorem SSp.last {cx:Cx} (hcx:cT P (cv cx)) {n nt n0:Nat} {l:List Code} {i:Nat} {tm:Tm} {s:St} {L:List Nat} {Φ : Pk} (hn:n0≤s.n) (h:bc P cx n nt (l.drop i) tm s (vK L Φ)):SSp P nt (l.drop i) n0 tm s (vK L Φ):=SSp.vc hcx hn h
def D1 (id:Nat):Code→Bool
 | .block i (.loop _)=>Nat.beq i id
 | _=>false
theorem KY {id:Nat}:∀ {c:Code},D1 id c=true→c=.block id (.loop (ce c))
 | .block i (.loop b),h=>by
   have:=bt h;subst this; rfl
theorem a0n.i3g {cx:Cx} (hcx:cT P (cv cx)) {n nt n0:Nat} (id:Nat) {c:Code} (hc:D1 id c=true) {L:List Nat} {g:aL} {Φ : Pk} (T : σ→List (Nat×LV)) (H : σ→a9) (μ : σ→Nat) (hn:∀ a,n0≤(H a).length)
  (hr:∀ a,aX P cx n nt (ce c) (aF nt (T a)) (ai (H a) g) (vK L (HT n0 nt id L g T H μ a Φ))) (a : σ):a0n P nt c n0 (aF nt (T a)) (ai (H a) g) (vK L Φ):=by
 rw [KY hc];refine a0n.i3c L g T H μ hn (fun a=>a0n.mono (a0n.vc hcx (by rw [cN]; exact hn a) (hr a)) fun x tm s h=>?_) a;cases x with
 | normal=>exact h
 | exit k=>exact h
 | ret=>exact h
theorem a0n.i4d {nt n0:Nat} (id:Nat) {c:Code} (hc:D1 id c=true) {L:List Nat} {g:aL} {Φ : Pk} (T : σ→List (Nat×LV)) (H : σ→a9) (μ : σ→Nat) (hn:∀ a,n0≤(H a).length)
  (hr:∀ a,SSp P nt ((cG (ce c)).drop 0) n0 (aF nt (T a)) (ai (H a) g) (vK L (HT n0 nt id L g T H μ a Φ))) (a : σ):a0n P nt c n0 (aF nt (T a)) (ai (H a) g) (vK L Φ):=by
 rw [KY hc];refine a0n.i3c L g T H μ hn (fun a=>a0n.mono (a0n.i3u (hr a)) fun x tm s h=>?_) a;cases x with
 | normal=>exact h
 | exit k=>exact h
 | ret=>exact h
def tmps:List Nat→List ResultVar
 | []=>[]
 | t::ts=>.tmp t::tmps ts
theorem L8 {tm:Nat→LV} {s:St}:∀ (ts:List Nat),gm P tm s (tmps ts)=some (ts.map tm)
 | []=>rfl
 | t::ts=>by
   have:=L8 (tm:=tm) (s:=s) ts;simp only [tmps,gm,this,lp]
def pk:List Nat→List Nat→Bool
 | [],_=>true
 | t::ts,L=>!lM t L && pk ts L
theorem yp {tm:Tm}:∀ {L:List Nat} {t:Nat},lM t L=false→kY L (iU L tm) t=aQ tm t
 | [],t,h=>by simp [lM] at h
 | x::L,t,h=>by
   simp only [iU,kY,b7];by_cases e:x=t
   ·subst e; simp
   ·simp only [e,fX,aD];refine yp ?_;simp only [lM,b7] at h;simpa [Ne.symm e] using h
theorem EQ {tm:Tm} {L:List Nat}:∀ {ts:List Nat},pk ts L=true→ts.map (kY L (iU L tm))=ts.map (aQ tm)
 | [],h=>rfl
 | t::ts,h=>by
   simp only [pk,bg,pM] at h;simp only [lp,EQ h.2,yp h.1]
def cO (args:al):Tm:=match ib args 0 .leaf with | some tm=>tm | none=>.leaf
def fnOk (P:Program) (f nt:Nat) (ts:List Nat) (na:Nat):Bool:=match P.funcs[f]? with
 | some fn=>(match fn.body with | some _=>Nat.beq fn.ntmps nt && Nat.ble na nt && resEq fn.results.toList ts | none=>false)
 | none=>false
where
 resEq:List ResultVar→List Nat→Bool
  | [],[]=>true
  | .tmp t::r,u::us=>Nat.beq t u && resEq r us
  | _,_=>false
theorem Fi:∀ {r:List ResultVar} {us:List Nat},fnOk.resEq r us=true→r=tmps us
 | [],[],h=>rfl
 | .tmp t::r,u::us,h=>by
   simp only [fnOk.resEq,bg] at h;rw [tmps,← Fi h.2,bt h.1]
 | [],_::_,h=>by simp [fnOk.resEq] at h
 | .tmp _::_,[],h=>by simp [fnOk.resEq] at h
 | .cell _ _::_,_,h=>by simp [fnOk.resEq] at h
theorem a0j.i3y {f:Nat} {args:al} {bs:a9} {g:aL} {Q:LV→a9→Prop} (nt n0:Nat) (L ts:List Nat) (hf:fnOk P f nt ts args.length=true) (hn0:bs.length=n0) (ht:(ib args 0 .leaf).isSome=true)
  (hin:pk ts L=true) (h:SSp P nt ((sp P f).drop 0) n0 (cO args) (ai bs g) (vK L (sS n0 ts L g Q))):a0j P f args (ai bs g) fun l s'=>∃ b0,Q l b0∧s'=ai b0 g:=by
 have ht':ib args 0 .leaf=some (cO args):=by
  unfold cO;cases hi:ib args 0 .leaf with
  | none=>rw [hi] at ht; cases ht
  | some t=>rfl
 obtain⟨fn,c,h1,h2,h3,h4,h5⟩:∃ fn c,P.funcs[f]? = some fn∧fn.body=some c∧fn.ntmps=nt∧args.length≤nt∧fn.results.toList=tmps ts:=by
  unfold fnOk at hf;split at hf
  ·rename_i fn h1;split at hf
   ·rename_i c h2;simp only [bg] at hf;exact⟨fn,c,h1,h2,bt hf.1.1,aS hf.1.2,Fi hf.2⟩
   ·cases hf
  ·cases hf
 have hnt:p9 P f=nt:=by simp only [p9,h1,h3]
 have hres:qh P f=tmps ts:=by simp only [qh,h1,h5]
 have h1':a0j P f args (ai bs g) fun l s'=>s'.g=g∧∃ l0 b0 ρ,Q l0 b0∧gJ (ai bs g).n 1 [0] [l] (fK s') ρ [(0,l0)] b0:=by
  refine a0j.i3b ⟨fn,c,h1,h2,dh ab⟩ ht' ?_;rw [List.drop_zero] at h;rw [hnt,hn0];refine SSp.mono (fun x tm' s' k=>?_) h;obtain⟨k1,k2,l0,b0,ρ,k3,k4⟩:=k;rw [EQ hin] at k4;exact⟨k1,_,by rw [hres]; exact L8 ts,k2,l0,b0,ρ,k3,by rw [cN,hn0]; exact k4⟩
 refine a0j.conv h1' fun l s' ⟨e,l0,b0,ρ,q,k⟩=>?_
 exact BI
theorem bh {bs:a9} {g:aL} {n:Nat} (h:n≤bs.length):n≤(ai bs g).n:=by rw [cN]; exact h
abbrev Gc:=al→St→Option (List Bool×LV×St)
def bX (P:Program) (f:Nat) (g:Gc):Prop:=∀ args s bs l s',g args s=some (bs,l,s')→bN bs→(∀ b,s.n≤b→s.h.get b=none)→a0j P f args s fun l1 s1=>l1=l∧s1=s'
def eP:List (Nat×Gc)→Cx
 | [],_=>none
 | (f,g)::r,k=>cond (Nat.beq k f) (some g) (eP r k)
def CA (P:Program):List (Nat×Gc)→Prop
 | []=>True
 | x::r=>bX P x.1 x.2∧CA P r
theorem H8:∀ {l:List (Nat×Gc)} {f:Nat} {g:Gc},CA P l→eP l f=some g→bX P f g
 | [],f,g,h,e=>by cases e
 | (f0,g0)::r,f,g,h,e=>by
   simp only [eP] at e;cases hb:Nat.beq f f0 with
   | true =>
     rw [hb] at e;simp only [aw,a8] at e;subst e;rw [bt hb]; exact h.1
   | false=>rw [hb] at e; exact H8 h.2 e
theorem fQ {l:List (Nat×Gc)} (h:CA P l):cT P (cv (eP l)):=VT fun f g hf=>H8 h hf
theorem df {s:St} (hfr:∀ b,s.n≤b→s.h.get b=none) {b:Nat} {L:LB} (h:s.h.get b=some L):b < s.n:=by
 rcases jH b s.n with k | k
 ·exact k
 ·rw [hfr b k] at h; cases h
end
section
open Go.RowKit
variable {P:Program}
theorem oG {ρ : a4c} {v:LV}:LVW ρ .any v:=by simp only [LVW]
theorem cH {ρ : a4c} {k:IntKind} {n:Int}:LVW ρ (.int k n) (.int k n):=by simp only [LVW]; exact⟨trivial,trivial⟩
theorem ir {ρ : a4c} {b:Bool}:LVW ρ (.b b) (.b b):=by simp only [LVW]
theorem sg {ρ : a4c} {b:ap}:LVW ρ (.str b) (.str b):=by simp only [LVW]
theorem sm {ρ : a4c}:LVW ρ .nilp .nilp:=by simp only [LVW]
theorem oH {ρ : a4c}:LVW ρ .nils .nils:=by simp only [LVW]
theorem si {ρ : a4c} {b:Bool}:LVW ρ .unb (.b b):=by simp only [LVW]
theorem cY {ρ : a4c} {l:LV} (h:b4m l=true):LVW ρ l l:=AP h
theorem gM {ρ : a4c} {b c o:Nat} (h : ρ b=some (.id c)):LVW ρ (.ptr b o) (.ptr c o):=by simp only [LVW,h]; exact⟨trivial,trivial⟩
theorem xy {ρ : a4c}:LVW ρ (.val (.slice none 0 0)) .nils:=by simp only [LVW]
theorem sk {ρ : a4c} {b o:Nat}:LVW ρ (.gptr b o) (.gptr b o):=by simp only [LVW]; exact⟨trivial,trivial⟩
theorem qD {ρ : a4c} {b c o n m:Nat} (h : ρ b=some (.id c)):LVW ρ (.sl b o n m) (.sl c o n m):=by simp only [LVW,h]; exact⟨trivial,trivial,trivial,trivial⟩
theorem bC {ρ : a4c} {b c o n m:Nat} (h : ρ b=some (.id c)):LVW ρ (.slo b o n m) (.slo c o n m):=by simp only [LVW,h]; exact⟨trivial,trivial,trivial,trivial⟩
theorem oJ {ρ : a4c} {b o m:Nat}:LVW ρ (.slo b o 0 m) .nils:=by simp only [LVW]
theorem sn {ρ : a4c} {b o m:Nat}:LVW ρ (.slo b o 0 m) .sle:=by simp only [LVW]
theorem jA {ρ : a4c} {b c o1 n k:Nat} (h : ρ b=some (.cap c o1 k)) (hn:n≤k):LVW ρ (.slo b 0 n 0) (.sl c o1 n k):=by simp only [LVW,h]; exact⟨trivial,rfl,trivial,ab,rfl⟩
theorem cA {ρ : a4c}:a7h ρ [] []:=by simp only [a7h]
theorem aV {ρ : a4c} {a b:LV} {as bs:al} (h:LVW ρ a b) (k:a7h ρ as bs):a7h ρ (a::as) (b::bs):=by simp only [a7h]; exact⟨h,k⟩
theorem jC {ρ : List Src} {nt:Nat} {L:List Nat} {vs:al}:og ρ nt L vs []:=by simp only [og]
theorem jE {ρ : List Src} {nt:Nat} {L:List Nat} {vs:al} {t:Nat} {l:LV} {as:List (Nat×LV)} (h:LVW (dt ρ) l (kY L vs t)) (k:og ρ nt L vs as):og ρ nt L vs ((t,l)::as):=by simp only [og]; exact⟨h,k⟩
theorem jD {ρ : List Src} {bs:bE}:ou ρ bs [] []:=by simp only [ou]
theorem jF {ρ : List Src} {bs:bE} {s:Src} {ss:List Src} {L:LB} {Ls:a9} (h:LBW (dt ρ) s L (match s.under with | some c=>ky bs c | none=>none)) (k:ou ρ bs ss Ls):ou ρ bs (s::ss) (L::Ls):=by simp only [ou]; exact⟨h,k⟩
theorem eD {ρ : a4c} {s:Src} {M:Option LB}:LBW ρ s .dead M:=by simp only [LBW]
theorem be {ρ : a4c} {c:Nat} {cs:al} {op:Option Nat} (h:a1u cs=true):LBW ρ (.id c) (.cells cs op) (some (.cells cs op)):=by simp only [LBW]; exact⟨trivial,.inl ⟨rfl,h⟩,ym h⟩
theorem dF {ρ : a4c} {c:Nat} {cs0 cs:al} {op:Option Nat} (h:a7h ρ cs0 cs) (k:LV.any ∉ cs0):LBW ρ (.id c) (.cells cs0 op) (some (.cells cs op)):=by simp only [LBW]; exact⟨trivial,.inr h,k⟩
theorem pm {ρ : a4c} {c:Nat} {cs:al} (h:a1u cs=true):LBW ρ (.id c) (.ro cs) (some (.ro cs)):=by simp only [LBW]; exact⟨.inl ⟨rfl,h⟩,ym h⟩
theorem EA {ρ : a4c} {M:Option LB} {op:Option Nat}:LBW ρ .none (.cells [] op) M:=by simp only [LBW]
theorem Tc {ρ : a4c} {c o k es:Nat} {cs0 cs:al} (h1:cs0.length≤k * es) (h2:o+k * es≤cs.length) (h3:cs0=bf cs o cs0.length) (h:a1u cs0=true):LBW ρ (.cap c o k) (.cells cs0 (some es)) (some (.cells cs none)):=by simp only [LBW]; exact⟨h1,h2,.inl ⟨h3,h⟩,ym h⟩
theorem jB {ρ : a4c} {c:Nat} {t:ap} {p:Nat}:LBW ρ (.id c) (.iter t p) (some (.iter t p)):=by simp only [LBW]; exact⟨trivial,trivial⟩
end
section
open Go.RowKit
variable {P:Program} {α : Type}
def uf (g:Nat→α) (i:Nat) (y : α):Nat→α:=fun j=>if j=i then y else g j
theorem Wi (g:Nat→α) (i:Nat) (y : α):uf g i y i=y:=aB rfl
theorem Ud (g:Nat→α) {i j:Nat} (y : α) (h:j≠i):uf g i y j=g j:=av h
def cS (f : α→al) (n:Nat) (g:Nat→α):al:=aj f ((List.range n).map g)
theorem EP {f : α→al} {w:Nat} (hw:∀ x,(f x).length=w) (n:Nat) (g:Nat→α):(cS f n g).length=n * w:=by
 rw [cS,iW hw]; simp
theorem VD {f : α→al} {w:Nat} (hw:∀ x,(f x).length=w) {n i j:Nat} (g:Nat→α) (h:i < n) (hj:j < w):af (cS f n g) (i * w+j)=af (f (g i)) j:=by
 rw [cS,gc hw pN hj]; simp
theorem Wb {f : α→al} {w:Nat} (hw:∀ x,(f x).length=w) {n i:Nat} (g:Nat→α) (h:i < n) (hj:0 < w):af (cS f n g) (i * w)=af (f (g i)) 0:=VD hw g h hj
theorem A3 {f : α→al} {n:Nat} {g g':Nat→α} (h:∀ i,i < n→g i=g' i):cS f n g=cS f n g':=by
 unfold cS
 congr 1
 exact List.map_congr_left fun i hi=>h i (by simpa using hi)
theorem XP (n i:Nat) (g:Nat→α) (y : α) (h:i < n):((List.range n).map g).set i y=(List.range n).map (uf g i y):=by
 apply List.ext_getElem aC;intro k h1 h2;simp only [List.getElem_set,List.getElem_map,List.getElem_range,uf];by_cases e:i=k
 ·subst e; simp
 ·rw [av e,av (Ne.symm e)]
theorem VF {f : α→al} {w:Nat} (hw:∀ x,(f x).length=w) {n i:Nat} (g:Nat→α) (y : α) (h:i < n):gt (cS f n g) (i * w) (f y)=cS f n (uf g i y):=by
 rw [cS,E5 hw _ i y pN,XP n i g y h]; rfl
theorem VE {f : α→al} (z : α) (n:Nat):tg n (f z)=cS f n (fun _=>z):=by
 rw [JU]; unfold cS; congr 1;apply List.ext_getElem aC;intro k h1 h2;simp
theorem yr {f : α→al} (hf:∀ x,a1u (f x)=true) (n:Nat) (g:Nat→α):a1u (cS f n g)=true:=iu hf _
def cI (k:IntKind) (x:Int):al:=[.int k x]
def cB (b:Bool):al:=[.b b]
def KG (k j:IntKind) (x:Int×Int):al:=[.int k x.1,.int j x.2]
theorem DP (k:IntKind) (x:Int):(cI k x).length=1:=rfl
theorem DN (x:Bool):(cB x).length=1:=rfl
theorem Ux (k j:IntKind) (x:Int×Int):(KG k j x).length=2:=rfl
theorem z_ {n i:Nat} (g:Nat→Bool) (h:i < n):af (cS cB n g) i=.b (g i):=by
 have:=Wb DN g h Nat.one_pos;rw [cU] at this;exact this
theorem fo (k:IntKind) (n:Nat) (g:Nat→Int):(cS (cI k) n g).length=n:=by rw [EP (DP k)]; omega
theorem dS (n:Nat) (g:Nat→Bool):(cS cB n g).length=n:=by rw [EP DN]; omega
theorem fp (k j:IntKind) (n:Nat) (g:Nat→Int×Int):(cS (KG k j) n g).length=n * 2:=EP (Ux k j) n g
theorem Sh {n i:Nat} (g:Nat→Bool) (y:Bool) (h:i < n):gt (cS cB n g) i [.b y]=cS cB n (uf g i y):=by
 have:=VF DN g y h;simpa [cB] using this
theorem Fb (n:Nat) (g:Nat→Bool):a1u (cS cB n g)=true:=yr (fun _=>rfl) n g
end
section
open Go.RowKit
variable {P:Program}
theorem IH {n:Int} (h1:0≤n) (h2:n≤18446744073709551615):ay .u64 n=n:=lS h1 h2
theorem gb {x y:Int} (h1 : -9223372036854775808≤x+y) (h2:x+y≤9223372036854775807):au .add .i64 x y=x+y:=pz h1 h2
theorem rV {x y:Int} (h1 : -9223372036854775808≤x - y) (h2:x - y≤9223372036854775807):au .sub .i64 x y=x - y:=pz h1 h2
theorem Vh {x y:Int} (h1 : -9223372036854775808≤x * y) (h2:x * y≤9223372036854775807):au .mul .i64 x y=x * y:=pz h1 h2
theorem kE {k n:Nat} (h:k < n) (hn:n≤9223372036854775807):au .add .i64 (k:Int) 1=((k+1:Nat):Int):=by rw [gb ab ab]; omega
theorem Uf {a b:Nat}:ad .lss (a:Int) (b:Int)=decide (a < b):=by rw [oz]; simp
theorem Ug {a b:Nat}:ad .neq (a:Int) (b:Int) = !decide (a=b):=by
 rw [qC]; congr 1; rw [mu]; simp only [cu]; omega
theorem tK {c:Prop} [Decidable c] {A B:Prop} (h1:c→A) (h2:¬ c→B):cond (decide c) A B:=by
 by_cases h:c
 ·simp only [h,bD,aw]; exact h1 h
 ·simp only [h,fX,aD]; exact h2 h
theorem ej:bu true=false:=rfl
theorem eh:bu false=true:=rfl
theorem fr (b:Bool):lK true b=b:=rfl
theorem fq (b:Bool):lK false b=false:=rfl
theorem aO {a b:Nat} (h:a≤b):ag a b=true:=by rw [xB]; simpa using h
theorem uS {a b:Nat} (h:b < a):ag a b=false:=by rw [xB]; simpa using h
theorem n7 {a b:Nat} (h:a=b):bR a b=true:=by rw [H3]; simpa using h
theorem Nt {a b:Nat} (h:a≠b):bR a b=false:=by rw [H3]; simpa using h
theorem MV {a:Nat} (h:a=0):xz a=true:=by rw [HB]; simpa using h
theorem Uo {a:Nat} (h:a≠0):xz a=false:=by rw [HB]; simpa using h
theorem PP {n:Int} (h:0≤n):b9 n=true:=by rw [IC]; simpa using h
theorem ga {x y:Int} (h:x < y):ad .lss x y=true:=by rw [oz]; simpa using h
theorem f_ {x y:Int} (h:y≤x):ad .lss x y=false:=by rw [oz]; simpa using h
theorem dX {x y:Int} (h:x≤y):ad .leq x y=true:=by rw [iq]; simpa using h
theorem tn {x y:Int} (h:y < x):ad .leq x y=false:=by rw [iq]; simpa using h
theorem iR {x y:Int} (h:y < x):ad .gtr x y=true:=by rw [tO]; simpa using h
theorem ia {x y:Int} (h:x≤y):ad .gtr x y=false:=by rw [tO]; simpa using h
theorem qn {x y:Int} (h:y≤x):ad .geq x y=true:=by rw [rW]; simpa using h
theorem qk {x y:Int} (h:x < y):ad .geq x y=false:=by rw [rW]; simpa using h
theorem cD {x y:Int} (h:x=y):ad .eql x y=true:=by rw [lQ]; simpa using h
theorem cF {x y:Int} (h:x≠y):ad .eql x y=false:=by rw [lQ]; simpa using h
theorem kA {x y:Int} (h:x≠y):ad .neq x y=true:=by rw [qC]; simpa using h
theorem lN {x y:Int} (h:x=y):ad .neq x y=false:=by rw [qC]; simpa using h
end
section
open Go.RowKit
variable {P:Program}
def kW (ρ : List Nat) (n k:Nat) (m:Nat) (b:Nat):Option Nat:=if b < n then qe ρ b else if b < n+m then some (k+(b - n)) else none
structure R8 (ρ : List Nat) (s s':St) (k:Nat) (bs':a9):Prop where
 n:s'.n=s.n+(bs'.length - k)
 g:s'.g=s.g
 frame:∀ b,b < s.n→b ∉ ρ→s'.h.get b=s.h.get b
 fresh:∀ b,s'.n≤b→s'.h.get b=none
 old:∀ (i b:Nat) L',ρ[i]? = some b→s'.h.get b=some L'→LBW (fun b=>(kW ρ s.n k (bs'.length - k) b).map .id) (.id i) L' bs'[i]?
 new:∀ j L',j < bs'.length - k→s'.h.get (s.n+j)=some L'→LBW (fun b=>(kW ρ s.n k (bs'.length - k) b).map .id) (.id (k+j)) L' bs'[k+j]?
theorem a0j.lift {f:Nat} {args args0:al} {s s':St} (hfr:∀ b,s.n≤b→s.h.get b=none) {bs bs':a9} {ρ : List Nat} {v v0:LV} (hnd : ρ.Nodup) (hl:mN ρ s ρ bs) (ha:a7h (dt (ρ.map .id)) args0 args)
  (h:a0j P f args0 (ai bs s.g) fun l t=>l=v0∧t=ai bs' s.g) (hk:bs.length≤bs'.length) (hL:R8 ρ s s' bs.length bs') (hv:LVW (fun b=>(kW ρ s.n bs.length (bs'.length - bs.length) b).map .id) v v0) :
  a0j P f args s fun l t=>l=v∧t=s':=by
 obtain⟨h1,h2⟩:=yE hl;have hlt:∀ (i b:Nat),ρ[i]? = some b→b < s.n∧i < bs.length:=fun i b hi=>by
  have hlt:=(bU.1 hi).1;exact⟨(h2 i b (bs[i]' ab) hi (cq ab)).1,ab⟩
 refine a0j.graft (Sub.lift hnd hl) (by rw [cN,h1]) ha h fun l1 s1 ⟨e1,e2⟩=>?_
 subst e1 e2;refine⟨v,s',kW ρ s.n bs.length (bs'.length - bs.length),⟨rfl,rfl⟩,⟨by rw [hL.n]; omega,fun i b hi=>⟨(hlt i b hi).1,?_⟩,fun b i hb hk=>?_,fun b i hk=>?_,fun b b' i hk hk'=>?_,fun b i L' hk hb=>?_,fun b hk=>?_,hL.fresh,hL.g⟩,hv⟩
 ·simp only [kW,(hlt i b hi).1,eR]; exact vM hnd hi
 ·simp only [kW,hb,eR] at hk; exact qJ hk
 ·simp only [kW] at hk;split at hk
  ·rename_i hb; exact⟨by rw [hL.n]; omega,fun hb'=>absurd hb ab⟩
  ·split at hk
   ·simp only [a8] at hk; exact⟨by rw [hL.n]; omega,fun _=>by omega⟩
   ·cases hk
 ·have key:∀ b,kW ρ s.n bs.length (bs'.length - bs.length) b=some i→(b < s.n∧ρ[i]? = some b)∨(s.n≤b∧i=bs.length+(b - s.n)):=fun b hk=>by
   simp only [kW] at hk;split at hk
   ·rename_i hb; exact .inl ⟨hb,qJ hk⟩
   ·split at hk
    ·simp only [a8] at hk; exact .inr ⟨ab,hk.symm⟩
    ·cases hk
  rcases key b hk with⟨q1,q2⟩ | ⟨q1,q2⟩ <;> rcases key b' hk' with⟨p1,p2⟩ | ⟨p1,p2⟩
  ·rw [q2] at p2; simpa using p2
  ·have:=(hlt i b q2).2; omega
  ·have:=(hlt i b' p2).2; omega
  ·omega
 ·simp only [kW] at hk;rw [b8];split at hk
  ·exact hL.old i b L' (qJ hk) hb
  ·split at hk
   ·simp only [a8] at hk;subst hk;have:=hL.new (b - s.n) L' ab (by rw [show s.n+(b - s.n)=b by omega]; exact hb);exact this
   ·cases hk
 ·simp only [kW] at hk;split at hk
  ·rename_i hb;refine hL.frame b hb fun hm=>?_
   obtain⟨i,hi⟩:=List.getElem?_of_mem hm;rw [vM hnd hi] at hk; cases hk
  ·split at hk
   ·cases hk
   ·rw [hL.fresh b (by rw [hL.n]; omega),hfr b ab]
def DZ:Code→Bool
 | .cond _ _ _=>true
 | _=>false
def zT:Code→Operand
 | .cond o _ _=>o
 | _=>.tmp 0
def jS:Code→Code
 | .cond _ c _=>c
 | _=>.skip
def jR:Code→Code
 | .cond _ _ d=>d
 | _=>.skip
theorem KX:∀ {c:Code},DZ c=true→c=.cond (zT c) (jS c) (jR c)
 | .cond _ _ _,_=>rfl
def HR:Option LV→Bool
 | some .unb=>true
 | _=>false
theorem a0n.unb {cx:Cx} (hcx:cT P (cv cx)) {n nt n0:Nat} {c:Code} {tm:Tm} {s:St} {L:List Nat} {Φ : Pk} (hc:DZ c=true) (ho:HR (f9 (aQ tm) (zT c))=true) (hn:n0≤s.n)
  (h1:aX P cx n nt (jS c) tm s (vK L Φ)) (h2:aX P cx n nt (jR c) tm s (vK L Φ)):a0n P nt c n0 tm s (vK L Φ):=by
 rw [KX hc];refine a0n.i3k ?_ (a0n.vc hcx hn h1) (a0n.vc hcx hn h2);unfold HR at ho;split at ho
 ·rename_i h; exact h
 ·cases ho
theorem j0 {cs:al} {n:Nat} (h:cs.length≤n):bf cs 0 n=cs:=by simp [bf,List.take_of_length_le h]
abbrev Fk:=LV→bE→aL→Prop
def vF (K:Fk):LV→St→Prop:=fun v s=>K v (fK s) s.g
def Pq (n0:Nat) (g:aL) (Q:LV→a9→Prop):Fk:=fun v bs g'=>g'=g∧∃ l0 b0 ρ,Q l0 b0∧gJ n0 1 [0] [v] bs ρ [(0,l0)] b0
theorem a0j.vc {cx:Cx} (hcx:cT P (cv cx)) {n f:Nat} {args:al} {bs:a9} {g:aL} {Q:LV→a9→Prop} (n0:Nat) (hn0:bs.length=n0) (h:fG P cx n f args (ai bs g) (vF (Pq n0 g Q))):a0j P f args (ai bs g) fun l s'=>∃ b0,Q l b0∧s'=ai b0 g:=by
 obtain⟨v,s',h1,h2⟩:=(xC (P:=P) (cx:=cx) n).2 _ _ _ _ h;have h3:a0j P f args (ai bs g) fun l s1=>l=v∧s1=s':=fun W0 r w us hI hv =>
  ((qI hcx n).2 W0 r f args _ s' v w us h1 hI hv).mono fun e w' ⟨u,r',k⟩=>⟨v,s',u,r',⟨rfl,rfl⟩,k⟩
 refine a0j.conv h3 fun l s1 ⟨e1,e2⟩=>?_
 subst e1 e2;obtain⟨hg,l0,b0,ρ,q,k⟩:=h2;exact⟨l0,b0,ρ,⟨b0,q,by rw [hg]⟩,by rw [cN,hn0]; exact k⟩
theorem a0j.i3s {f:Nat} {args:al} {v:LV} {s:St} (hfr:∀ b,s.n≤b→s.h.get b=none) (hg:s.g=[]) (ha:a1u args=true) (hv:b4m v=true) (h:a0j P f args (ai []) fun l s'=>l=v∧s'=ai []):a0j P f args s fun l s'=>l=v∧s'=s :=
 a0j.i3e (ρ:=[]) (bs:=[]) (args0:=args) hfr List.nodup_nil trivial (yz ha) hv (by rw [hg]; exact h)
end
section
open Go.RowKit
variable {P:Program}
def St.puts:St→List Nat→a9→Option St
 | s,[],[]=>some s
 | s,b::bs,L::Ls=>(match s.put b L with | some s'=>St.puts s' bs Ls | none=>none)
 | _,_,_=>none
def St.news:St→a9→Option St
 | s,[]=>some s
 | s,L::Ls=>(match s.new L with | some s'=>St.news s' Ls | none=>none)
def St.lay (s:St) (ρ : List Nat) (olds news:a9):Option St:=match s.puts ρ olds with | some s1=>s1.news news | none=>none
theorem K7:∀ {ρ : List Nat} {olds:a9} {s s':St},s.puts ρ olds=some s'→ρ.Nodup→s'.n=s.n∧s'.g=s.g∧ρ.length=olds.length∧(∀ b,b ∉ ρ→s'.h.get b=s.h.get b)∧∀ (i b:Nat) L,ρ[i]? = some b→olds[i]? = some L→s'.h.get b=some L
 | [],[],s,s',h,hnd=>by simp only [St.puts,a8] at h; subst h; exact⟨rfl,rfl,rfl,fun b _=>rfl,fun i b L hi=>by simp at hi⟩
 | b::bs,L::Ls,s,s',h,hnd=>by
   simp only [St.puts] at h;cases hp:s.put b L with
   | none=>rw [hp] at h; cases h
   | some s1 =>
     rw [hp] at h;rw [qP] at hnd;obtain⟨k1,k2,k3,k4,k5⟩:=K7 h hnd.2;obtain⟨m1,m2⟩:=St.i3h hp;refine⟨k1.trans m1,k2.trans (St.i4f hp),by simp [k3],fun c hc=>?_,fun i c M hi hM=>?_⟩
     ·rw [k4 c fun e=>hc (qS _ e),m2,av (fun e=>hc (by rw [e]; exact pL))]
     ·cases i with
      | zero=>simp at hi hM; subst hi hM; rw [k4 b hnd.1,m2,aB rfl]
      | succ i=>simp at hi hM; exact k5 i c M hi hM
 | [],_::_,s,s',h,hnd=>by simp [St.puts] at h
 | _::_,[],s,s',h,hnd=>by simp [St.puts] at h
theorem K4:∀ {Ls:a9} {s s':St},s.news Ls=some s'→s'.n=s.n+Ls.length∧s'.g=s.g∧(∀ b,b < s.n→s'.h.get b=s.h.get b)∧(∀ j L,Ls[j]? = some L→s'.h.get (s.n+j)=some L)∧((∀ b,s.n≤b→s.h.get b=none)→∀ b,s'.n≤b→s'.h.get b=none)
 | [],s,s',h=>by simp only [St.news,a8] at h; subst h; exact⟨rfl,rfl,fun b _=>rfl,fun j L hj=>by simp at hj,fun h=>h⟩
 | L::Ls,s,s',h=>by
   simp only [St.news] at h;cases hp:s.new L with
   | none=>rw [hp] at h; cases h
   | some s1 =>
     rw [hp] at h;obtain⟨k1,k2,k3,k4,k5⟩:=K4 h;obtain⟨m1,m2⟩:=St.i4g hp;refine⟨by rw [k1,m1]; simp; omega,k2.trans (St.i4a hp),fun c hc=>by rw [k3 c ab,m2,av ab],fun j M hj=>?_,fun hf=>k5 fun c hc=>by rw [m2,av ab]; exact hf c ab⟩;cases j with
     | zero=>simp at hj; subst hj; rw [k3 _ ab,m2,aB ab]
     | succ j=>simp at hj; have:=k4 j M hj; rw [← this]; congr 1; omega
def kZ (κ : a4c):a9→a9→Prop
 | [],[]=>True
 | L::Ls,M::Ms=>LBW κ (.id 0) L (some M)∧kZ κ Ls Ms
 | _,_=>False
theorem vS {κ : a4c}:∀ {Ls Ms:a9},kZ κ Ls Ms→Ls.length=Ms.length∧∀ (i:Nat) L,Ls[i]? = some L→∃ M,Ms[i]? = some M∧LBW κ (.id 0) L (some M)
 | [],[],h=>⟨rfl,fun i L hi=>by simp at hi⟩
 | L::Ls,M::Ms,h=>by
   simp only [kZ] at h;obtain⟨k1,k2⟩:=vS h.2;refine⟨by simp [k1],fun i N hi=>?_⟩;cases i with
   | zero=>simp at hi; subst hi; exact⟨M,rfl,h.1⟩
   | succ i=>simp at hi ⊢; exact k2 i N hi
 | [],_::_,h=>by simp only [kZ] at h
 | _::_,[],h=>by simp only [kZ] at h
theorem a0j.lay {f:Nat} {args args0:al} {s s':St} (hfr:∀ b,s.n≤b→s.h.get b=none) {bs bs' olds news:a9} {ρ : List Nat} {v v0:LV} (hs:s.lay ρ olds news=some s') (hnd : ρ.Nodup) (hl:mN ρ s ρ bs) (ha:a7h (dt (ρ.map .id)) args0 args)
  (h:a0j P f args0 (ai bs s.g) fun l t=>l=v0∧t=ai bs' s.g)
  (hb:∀ κ : a4c,(∀ (i c:Nat),ρ[i]? = some c→κ c=some (.id i))→(∀ j,j < news.length→κ (s.n+j)=some (.id (ρ.length+j)))→kZ κ (olds++news) bs'∧LVW κ v v0):a0j P f args s fun l t=>l=v∧t=s':=by
 obtain⟨h1,h2⟩:=yE hl;unfold St.lay at hs;cases hp:s.puts ρ olds with
 | none=>rw [hp] at hs; cases hs
 | some s1 =>
   rw [hp] at hs;obtain⟨k1,k2,k3,k4,k5⟩:=K7 hp hnd;obtain⟨m1,m2,m3,m4,m5⟩:=K4 hs;have hlt:∀ (i b:Nat),ρ[i]? = some b→b < s.n:=fun i b hi=>by
    have hlt:=(bU.1 hi).1;exact(h2 i b (bs[i]' ab) hi (cq ab)).1
   obtain⟨q1,q2⟩:=hb (fun b=>(kW ρ s.n bs.length news.length b).map .id) (fun i c hi=>by simp only [kW,hlt i c hi,eR,vM hnd hi,sx]) (fun j hj=>by
    have e1:¬ s.n+j < s.n:=ab;have e2:s.n+j < s.n+news.length:=ab;simp only [kW,e1,e2,eR,dn,sx,h1]
    congr 3; omega)
   obtain⟨q3,q4⟩:=vS q1;simp only [cg] at q3;have hlen:bs'.length - bs.length=news.length:=ab;refine a0j.lift hfr hnd hl ha h ab ⟨by rw [m1,k1,hlen],m2.trans k2,fun b hb hbm=>by rw [m3 b ab,k4 b hbm],m5 fun b hb=>?_,fun i b L' hi hL=>?_,fun j L' hj hL=>?_⟩ (by rw [hlen]; exact q2)
   ·rw [k4 b,hfr b ab];intro hm;obtain⟨i,hi⟩:=List.getElem?_of_mem hm;have:=hlt i b hi; omega
   ·rw [hlen];have hil:=(bU.1 hi).1;have hb:=hlt i b hi;rw [m3 b ab,k5 i b (olds[i]' ab) hi (cq ab)] at hL;simp at hL; subst hL;obtain⟨M,p1,p2⟩:=q4 i _ (by rw [iY ab]; exact cq ab);rw [p1]; exact p2.id_any
   ·rw [hlen] at hj ⊢;rw [← k1,m4 j (news[j]'hj) (cq hj)] at hL;simp at hL; subst hL;obtain⟨M,p1,p2⟩:=q4 (olds.length+j) _ (by rw [kb ab,show olds.length+j - olds.length=j by omega]; exact cq hj);rw [show bs.length+j=olds.length+j by omega,p1]; exact p2.id_any
end
section
open Go.RowKit
variable {P:Program}
theorem SSp.i3o {nt n0:Nat} {l:List Code} {i:Nat} (hl:Nat.beq (i+1) l.length=true) {tm:Tm} {s:St} {L:List Nat} {Φ : Pk}
  (h1:a0n P nt (bi l i) n0 tm s (vK L Φ)):SSp P nt (l.drop i) n0 tm s (vK L Φ):=by
 have h2:=bt hl;rw [oA l i ab,mo ab];refine a0n.mono h1 fun x tm s h=>?_
 cases x <;> exact h
def uF (f:TypeId→Option (List (Nat×CT))):List Field→Option (List (Nat×CT))
 | []=>some []
 | x::xs=>match f x.type,uF f xs with
   | some a,some b=>some (a.map (fun p=>(x.offset+p.1,p.2))++b)
   | _,_=>none
def fl (P:Program):Nat→TypeId→Option (List (Nat×CT))
 | 0,_=>none
 | d+1,t=>match P.underlying t with
   | some (.struct fs)=>uF (fl P d) fs.toList
   | some (.int k)=>some [(0,.int k)]
   | some .bool=>some [(0,.bool)]
   | _=>none
def Yb:CT→Value→Prop
 | .int k,v=>∃ z:Int,v=.int k z∧k.min≤z∧z≤k.max
 | .bool,v=>∃ b:Bool,v=.b b
 | _,_=>False
theorem I0 {f:TypeId→Option (List (Nat×CT))}:∀ {l:List Field} {r:List (Nat×CT)} {p:Nat×CT},uF f l=some r→p∈r→∃ (j:Nat) (x:Field) (a:List (Nat×CT)) (q:Nat×CT),l[j]? = some x∧f x.type=some a∧q∈a∧p=(x.offset+q.1,q.2)
 | [],r,p,h,hp=>by simp [uF] at h; subst h; simp at hp
 | x::xs,r,p,h,hp=>by
   simp only [uF] at h;split at h
   ·rename_i a b ha hb;simp only [a8] at h;subst h;rcases gz.1 hp with hp | hp
    ·obtain⟨q,h1,h2⟩:=List.mem_map.1 hp;exact⟨0,x,a,q,rfl,ha,h1,h2.symm⟩
    ·obtain⟨j,y,a',q,h1,h2,h3,h4⟩:=I0 hb hp;exact⟨j+1,y,a',q,by simpa using h1,h2,h3,h4⟩
   ·cases h
theorem HI {H:Type} {enc:TypeId×Value→H} {W:World}:∀ (d:Nat) {t:TypeId} {l:List (Nat×CT)} {cs:List Value} {n:Nat} {x:DataW H×List MemPlace},fl P d t=some l→DataW.trod enc P W 0 (fun _=>true) true n t cs=some x→∀ p∈l,∃ v,cs[p.1]? = some v∧Yb p.2 v
 | 0,t,l,cs,n,x,h,hx=>by simp [fl] at h
 | d+1,t,l,cs,n,x,h,hx=>by
   intro p hp;simp only [fl] at h;split at h
   ·rename_i fs he;obtain⟨ys,n',_,_,hlen,hyl,hg⟩:=DataW.trod_struct he hx;obtain⟨j,f,a,q,h1,h2,h3,h4⟩:=I0 h hp;have hj:fs[j]? = some f:=by simpa using h1
    have h5:=hg j f hj;have hjl:j < fs.size:=(ft.1 hj).1;have hy:j < ys.length:=ab;rw [cq hy] at h5;obtain⟨v,h6,h7⟩:=HI d h2 h5 q h3;subst h4;refine⟨v,?_,h7⟩;have h8:=(bU.1 h6).1;rw [List.getElem?_take] at h6;split at h6
    ·rw [sB] at h6; exact h6
    ·cases h6
   ·rename_i k he;simp only [a8] at h;subst h;simp only [k_] at hp;subst hp;obtain⟨z,h1,h2,h3⟩:=DataW.trod_int he hx;subst h1;exact⟨_,rfl,z,rfl,by simpa [Lit.wf] using h3⟩
   ·rename_i he;simp only [a8] at h;subst h;simp only [k_] at hp;subst hp;obtain⟨z,h1,h2⟩:=DataW.trod_bool he hx;subst h1;exact⟨_,rfl,z,rfl⟩
   ·cases h
def vu:Code→Code
 | .block _ c=>c
 | c=>c
def Q7 (id:Nat):Code→Bool
 | .block i _=>Nat.beq i id
 | _=>false
def CE (id:Nat) (Φ : Pk):Pk:=fun x vs bs g=>match x with
 | .exit k=>cond (Nat.beq k id) (Φ .normal vs bs g) (Φ (.exit k) vs bs g)
 | x=>Φ x vs bs g
theorem a0n.i3v {nt n0:Nat} (id:Nat) {c:Code} (hc:Q7 id c=true) {tm:Tm} {s:St} {L:List Nat} {Φ : Pk}
  (h:SSp P nt ((cG (vu c)).drop 0) n0 tm s (vK L (CE id Φ))):a0n P nt c n0 tm s (vK L Φ):=by
 cases c with
 | block i c =>
   have:=bt hc;subst this;refine a0n.block (a0n.mono (a0n.i3u h) fun x tm s k=>?_);cases x <;> exact k
 | _=>cases hc
theorem I_ {ρ : a4c} {c n es:Nat} {cs:al} (h:cs.length=n * es) (k:a1u cs=true):LBW ρ (.cap c 0 n) (.cells cs (some es)) (some (.cells cs none)) :=
 Tc ab ab (by rw [j0 (aR _)]) k
end
section
open Go.RowKit
variable {P:Program}
def jm (g:Gc):Gc:=fun args s=>match g args ⟨s.h,s.n,[]⟩ with
 | some (bs,l,s')=>some (bs,l,⟨s'.h,s'.n,s.g⟩)
 | none=>none
theorem ju {f:Nat} {g:Gc} (h:bX P f g):bX P f (jm g):=by
 intro args s bs l s' hg hb hfr;unfold jm at hg;split at hg
 ·rename_i bs1 l1 t hg1;simp only [a8,bn] at hg;obtain⟨rfl,rfl,rfl⟩:=hg;have H:=h args ⟨s.h,s.n,[]⟩ _ _ _ hg1 hb hfr;intro W0 r w us hI ha;have hI0:Inv W0 r ⟨s.h,s.n,[]⟩ w:=⟨hI.below,hI.dom,hI.own,hI.fresh,hI.inj,hI.cells,hI.iter,fun x hx=>by simp at hx,hI.ro,hI.ob.step (Ren.le_refl r) (fun _ _ _ _ k=>k) (fun _ _ k1 k2=>.inl ⟨k1,k2⟩) (aR _) fun _ _=>rfl⟩;refine(H W0 r w us hI0 ha).mono ?_
  rintro e w' ⟨l2,s2,v,r',⟨rfl,rfl⟩,he,hv,hi,hE⟩
  exact GF
 ·cases hg
def yI (N n:Nat) (v:Value) (l l0:LV):Prop:=l=l0∨(l=.val v∧l0=.slo N 0 n 0)
def sQ (N n:Nat) (v:Value):al→al→Prop
 | [],[]=>True
 | a::as,b::bs=>yI N n v a b∧sQ N n v as bs
 | _,_=>False
def G1 (N n:Nat) (v:Value):LB→LB→Prop
 | .cells cs op,.cells cs0 op0=>op=op0∧sQ N n v cs cs0
 | L,M=>L=M
def zm (N n:Nat) (v:Value):a9→a9→Prop
 | [],[]=>True
 | a::as,b::bs=>(a=b∨G1 N n v a b)∧zm N n v as bs
 | _,_=>False
theorem KL {N n:Nat} {v:Value}:∀ cs:al,sQ N n v cs cs
 | []=>trivial
 | a::as=>⟨.inl rfl,KL as⟩
theorem KM {N n:Nat} {v:Value}:∀ {cs cs0:al},sQ N n v cs cs0→cs0.length=cs.length∧∀ (i:Nat) l0,cs0[i]? = some l0→∃ l,cs[i]? = some l∧yI N n v l l0
 | [],[],h=>⟨rfl,fun i l0 hi=>by simp at hi⟩
 | a::as,b::bs,h=>by
   obtain⟨h1,h2⟩:=h;obtain⟨k1,k2⟩:=KM h2;refine⟨by simp [k1],fun i l0 hi=>?_⟩;cases i with
   | zero=>simp at hi; subst hi; exact⟨a,rfl,h1⟩
   | succ i=>simp only [eG] at hi ⊢; exact k2 i l0 hi
 | [],_::_,h=>h.elim
 | _::_,[],h=>h.elim
theorem KJ {N n:Nat} {v:Value}:∀ {bs bs0:a9},zm N n v bs bs0→bs0.length=bs.length∧∀ (i:Nat) L0,bs0[i]? = some L0→∃ L,bs[i]? = some L∧(L=L0∨∃ cs cs0 op,L=.cells cs op∧L0=.cells cs0 op∧sQ N n v cs cs0)
 | [],[],h=>⟨rfl,fun i l0 hi=>by simp at hi⟩
 | a::as,b::bs,h=>by
   obtain⟨h1,h2⟩:=h;obtain⟨k1,k2⟩:=KJ h2;refine⟨by simp [k1],fun i l0 hi=>?_⟩;cases i with
   | zero =>
     simp at hi; subst hi;refine⟨a,rfl,?_⟩;rcases h1 with h1 | h1
     ·exact .inl h1
     ·cases a <;> cases b <;> simp only [G1] at h1 <;> first
       | (obtain⟨rfl,h1⟩:=h1; exact .inr ⟨_,_,_,rfl,rfl,h1⟩)
       | exact .inl h1
       | exact .inl rfl
       | (cases h1; done)
   | succ i=>simp only [eG] at hi ⊢; exact k2 i l0 hi
 | [],_::_,h=>h.elim
 | _::_,[],h=>h.elim
theorem Conv.row {nt n0:Nat} {g:aL} {as as':List (Nat×LV)} {bs bs':a9} {v:Value} {n:Nat} {cs:al} (hn:n0≤bs.length)
  (hf:∀ W0,Gl W0 g→a4n W0 v n cs) (hs:∀ u,yI bs.length n v (kC as u) (kC as' u)) (hb:zm bs.length n v bs bs') :
  Conv n0 nt (aF nt as) (ai bs g) (aF nt as') (ai (bs'++[.ro cs]) g):=by
 intro W0 r a w hI hA;have hgl:Gl W0 g:=hI.gl;obtain⟨hlen,hbs⟩:=KJ hb;have hdn:∀ b x,r b=some x→b < bs.length:=fun b x hb=>by have:=(hI.dom b x hb).1; rwa [cN] at this
 have hget:∀ b L,(ai (bs'++[.ro cs]) g).h.get b=some L→(∃ M,(ai bs g).h.get b=some M∧(M=L∨∃ cs cs0 op,M=.cells cs op∧L=.cells cs0 op∧sQ bs.length n v cs cs0)∧b < bs.length)∨(b=bs.length∧L=.ro cs):=fun b L hb=>by
  rw [b8] at hb;rw [b8];by_cases hlt:b < bs.length
  ·rw [iY ab] at hb;obtain⟨M,k1,k2⟩:=hbs b L hb;exact .inl ⟨M,k1,k2,hlt⟩
  ·rw [kb ab] at hb;by_cases e:b=bs.length
   ·subst e; simp [hlen] at hb; exact .inr ⟨rfl,hb.symm⟩
   ·rw [gO ke] at hb; cases hb
 have key:∃ r0:Ren,r.le r0∧(∀ b x,b≠bs.length→r0 b=some x→r b=some x)∧((r0 bs.length=none∧cs=[]∧n=0∧ie v)∨∃ B o cap c e f,r0 bs.length=some (B,o,cap)∧v=.slice (some ⟨B,o,none⟩) n cap∧n≤cap∧W0.heap[B]? = some (.cells c e f)∧∀ (i:Nat) l,cs[i]? = some l→l.plain=true∧∃ u,c[o+i]? = some u∧VR rM l u):=by
  rcases hf W0 hgl with⟨q1,q2,q3⟩ | ⟨B,o,cap,c,e,f,q1,q2,q3,q4⟩
  ·refine⟨r,Ren.le_refl r,fun b x _ h=>h,.inl ⟨?_,q3,q2,q1⟩⟩;cases hr:r bs.length with
   | none=>rfl
   | some x=>exact absurd (hdn _ _ hr) ab
  ·refine⟨fun b=>if b=bs.length then some (B,o,cap) else r b,fun b x hb=>?_,fun b x hne hb=>?_,.inr ⟨B,o,cap,c,e,f,aC,q1,q2,q3,q4⟩⟩
   ·have:=hdn b x hb;simp only [show ¬ b=bs.length by omega,dn]; exact hb
   ·simpa only [hne,dn] using hb
 obtain⟨r0,hle,hback,hrow⟩:=key;have hrep:∀ {l l0:LV} {u:Value},yI bs.length n v l l0→VR r l u→VR r0 l0 u:=fun {l l0 u} h1 h2=>by
  rcases h1 with rfl | ⟨rfl,rfl⟩
  ·exact h2.mono hle
  ·simp only [VR] at h2 ⊢;obtain⟨rfl,_⟩:=h2;rcases hrow with⟨_,_,q3,q4⟩ | ⟨B,o,cap,c,e',f,q,q1,q2,_,_⟩
   ·exact .inr ⟨q3,q4⟩
   ·exact .inl ⟨B,o,cap,q,ab,by simpa using q1⟩
 have hdom:∀ b x,r0 b=some x→b < (ai (bs'++[.ro cs]) g).n∧x.1 < w.heap.size:=fun b x hb=>by
  rw [cN,cg,kH,hlen];by_cases e:b=bs.length
  ·subst e;rcases hrow with⟨q,_⟩ | ⟨B,o,cap,c,e',f,q,_,_,q3,_⟩
   ·rw [q] at hb; cases hb
   ·rw [q] at hb; simp at hb; subst hb;have:=(ft.1 q3).1;have:=hI.below.size;simp only; omega
  ·have:=hI.dom b x (hback b x e hb);have h2:=hdn b x (hback b x e hb);exact⟨ab,this.2⟩
 have hlv:∀ b,(ai (bs'++[.ro cs]) g).lives b→(ai bs g).lives b∧b≠bs.length:=fun b ⟨L,h1,h2⟩=>by
  rcases hget b L h1 with⟨M,q1,q3,q2⟩ | ⟨q1,q2⟩
  ·refine⟨⟨M,q1,?_⟩,ab⟩;rcases q3 with rfl | ⟨_,_,_,rfl,rfl,_⟩
   ·exact h2
   ·rfl
  ·subst q2; cases h2
 have hob:∀ b F cs' g',(ai (bs'++[.ro cs]) g).h.get b=some (.obj F cs' g')→(ai bs g).h.get b=some (.obj F cs' g'):=fun b F cs' g' hb=>by
  rcases hget b _ hb with⟨M,q1,q3,q2⟩ | ⟨q1,q2⟩
  ·rcases q3 with rfl | ⟨_,_,_,rfl,e,_⟩
   ·exact q1
   ·cases e
  ·cases q2
 refine⟨r0,⟨hI.below,hdom,fun b x hl hb=>?_,fun b hb=>?_,fun b b' x x' l l' hb hb' he=>?_,fun b cs' op hb=>?_,fun b t' p hb=>?_,hgl,fun b cs' hb=>?_,hI.ob.step hle hob (fun b x hl hb=>.inl ⟨(hlv b hl).1,hback b x (hlv b hl).2 hb⟩) (aR _) fun _ _=>rfl⟩,?_,⟨fun b x hb h=>hle b x h,by rw [cN,cg,kH]; omega,aR _,a4j.step hI.ob hle hob fun b x hl hb hx=>?_,fun B hB hk=>rfl⟩⟩
 ·exact hI.own b x (hlv b hl).1 (hback b x (hlv b hl).2 hb)
 ·rw [cN] at hb; rw [b8,gO hb]
 ·exact hI.inj b b' x x' (hlv b l).1 (hlv b' l').1 (hback b x (hlv b l).2 hb) (hback b' x' (hlv b' l').2 hb') he
 ·rcases hget _ _ hb with⟨M,q1,q3,q2⟩ | ⟨q1,q2⟩
  ·have hc:∃ cs1,M=.cells cs1 op∧sQ bs.length n v cs1 cs':=by
    rcases q3 with rfl | ⟨c1,c2,op',rfl,e,h⟩
    ·exact⟨cs',rfl,KL _⟩
    ·cases e; exact⟨c1,rfl,h⟩
   obtain⟨cs1,rfl,hc⟩:=hc;obtain⟨hl1,hc⟩:=KM hc;rcases hI.cells b cs1 op q1 with⟨k1,k2⟩ | ⟨x,k1,k2⟩
   ·refine .inl ⟨fY.1 (by rw [hl1,k1]; rfl),?_⟩;cases hr:r0 b with
    | none=>rfl
    | some y=>rw [hback b y ab hr] at k2; cases k2
   ·obtain⟨c,e,lo,hi,j1,j2,j3,j4⟩:=k2.ex;have hroom:dv cs' op x.2.2=dv cs1 op x.2.2:=by unfold dv; split <;> simp [hl1]
    refine .inr ⟨x,hle b x k1,⟨⟨c,e,lo,hi,j1,fun i l hi=>?_,by rw [hroom]; exact j3,by rw [hroom]; exact j4⟩,by rw [hroom,hl1]; exact k2.fits⟩⟩;obtain⟨l1,m1,m2⟩:=hc i l hi;obtain⟨n1,u,n2,n3⟩:=j2 i l1 m1;refine⟨?_,u,n2,hrep m2 n3⟩;rcases m2 with rfl | ⟨_,rfl⟩
    ·exact n1
    ·rfl
  ·cases q2
 ·rcases hget _ _ hb with⟨M,q1,q3,q2⟩ | ⟨q1,q2⟩
  ·obtain rfl:M=.iter t' p:=by
    rcases q3 with rfl | ⟨_,_,_,_,e,_⟩
    ·rfl
    ·cases e
   obtain⟨x,k1,k2⟩:=hI.iter b t' p q1;exact⟨x,hle b x k1,k2⟩
  ·cases q2
 ·rcases hget _ _ hb with⟨M,q1,q3,q2⟩ | ⟨q1,q2⟩
  ·obtain rfl:M=.ro cs':=by
    rcases q3 with rfl | ⟨_,_,_,_,e,_⟩
    ·rfl
    ·cases e
   rcases hI.ro b cs' q1 with⟨k1,k2⟩ | ⟨x,k1,c,e,f,k2,k3⟩
   ·refine .inl ⟨k1,?_⟩;cases hr:r0 b with
    | none=>rfl
    | some y=>rw [hback b y ab hr] at k2; cases k2
   ·exact .inr ⟨x,hle b x k1,c,e,f,k2,fun i l hi=>let ⟨m1,u,m2,m3⟩:=k3 i l hi; ⟨m1,u,m2,m3.mono hle⟩⟩
  ·simp only [LB.ro.injEq] at q2; subst q1; subst q2;rcases hrow with⟨q,q',_⟩ | ⟨B,o,cap,c,e',f,q,_,_,q3,q4⟩
   ·exact .inl ⟨q',q⟩
   ·exact .inr ⟨_,q,c,e',f,q3,fun i l hi=>let ⟨m1,u,m2,m3⟩:=q4 i l hi; ⟨m1,u,m2,m3.mono fun b x hb=>by cases hb⟩⟩
 ·refine⟨hA.size,hA.defers,fun u hu=>?_,fun u hu=>by rw [oC,av ab]⟩;obtain⟨x,k1,k2⟩:=hA.get u hu;refine⟨x,k1,?_⟩;rw [oC,aB hu] at k2 ⊢;exact hrep (hs u) k2
 ·obtain⟨q1,q2⟩:=hlv b hl;exact⟨b,x,q1,hback b x q2 hb,rfl⟩
theorem SSp.row {nt n0:Nat} {l:List Code} {i:Nat} {g:aL} {as as':List (Nat×LV)} {bs bs':a9} {Q:LX→Tm→St→Prop} {v:Value} {n:Nat} {cs:al} (hl:Nat.blt i l.length=true) (hn:n0≤bs.length)
  (hf:∀ W0,Gl W0 g→a4n W0 v n cs) (hs:∀ u,yI bs.length n v (kC as u) (kC as' u)) (hb:zm bs.length n v bs bs')
  (h:SSp P nt (l.drop i) n0 (aF nt as') (ai (bs'++[.ro cs]) g) Q):SSp P nt (l.drop i) n0 (aF nt as) (ai bs g) Q:=by
 have:=aS hl;rw [oA l i ab] at h ⊢;exact a0n.conv (Conv.row hn hf hs hb) h
theorem pu {ρ : a4c} {a b:al} (h:a7h ρ a b):LVW ρ (.tup a) (.tup b):=by simp only [LVW]; exact h
theorem z7 {ρ : a4c} {f:Nat} {a b:al} (h:a7h ρ a b):LVW ρ (.fn f a) (.fn f b):=by simp only [LVW]; exact⟨trivial,h⟩
theorem tJ {ρ : a4c} {a b:al} (h:a7h ρ a b):LVW ρ (.agg a) (.agg b):=by simp only [LVW]; exact h
theorem pC:∀ {xs:List Nat},gj xs=true→xs.Nodup
 | [],_=>List.nodup_nil
 | x::xs,h=>by
   simp only [gj,bg] at h;exact qP.2 ⟨A6 h.1,pC h.2⟩
theorem fj (v:Value):fO (.val v)=v:=rfl
theorem fm (v:Value):uo (.val v)=true:=rfl
end
section
open Go.RowKit
variable {P:Program}
def vW (b:Array Nat) (x:Nat):List Nat→Bool
 | []=>true
 | y::ys=>(Nat.beq x y || !bO b x y) && vW b x ys
def uQ (x:Nat):List Nat→List Nat
 | []=>[]
 | y::ys=>cond (Nat.beq x y) (uQ x ys) (y::uQ x ys)
def Ap (x:Nat):List (List Nat)→List (List Nat)→List (List Nat)
 | [],r=>r
 | l::ls,r=>(x::l)::Ap x ls r
def vE (b:Array Nat) (all:List Nat) (f:Nat→List (List Nat)):List Nat→List (List Nat)
 | []=>[]
 | x::xs=>cond (vW b x all) (Ap x (f x) (vE b all f xs)) (vE b all f xs)
def uM (b:Array Nat):Nat→List Nat→List (List Nat)
 | 0,_=>[[]]
 | n+1,rem=>(match rem with
   | []=>[[]]
   | y::ys=>vE b (y::ys) (fun x=>uM b n (uQ x (y::ys))) (y::ys))
def CB {α : Type} (F : α→Prop):List α→Prop
 | []=>True
 | [x]=>F x
 | x::y::r=>F x∧CB F (y::r)
def JE (b:Array Nat) (x:Nat):List Nat→List Nat×List Nat
 | []=>([],[])
 | u::r=>(match JE b x r with | (p,q)=>cond (bO b x u) (u::p,q) (p,u::q))
def Du (b:Array Nat):List Nat→List Nat→List Nat
 | [],ls=>ls
 | x::σ,ls=>(match JE b x ls with | (p,q)=>p++x::Du b σ q)
def tB (ops:Array Oper):List Nat→List (Oper×Nat)
 | []=>[]
 | i::r=>(match ops[i]? with | some o=>(o,i)::tB ops r | none=>tB ops r)
def pB (W:List (Oper×Nat)):List Nat:=(W.filter (fun u=>!bm u.1.op)).map (·.2)
def Kf (W:List (Oper×Nat)):List Nat:=(W.filter (fun u=>bm u.1.op)).map (·.2)
def Aa:Nat→List Nat→Bool
 | 0,_=>true
 | n+1,is=>!lM n is && Aa n is
def uT:List Nat→List Nat→Bool
 | [],[]=>true
 | a::as,b::bs=>Nat.beq a b && uT as bs
 | _,_=>false
def Ji (ops:Array Oper) (b:Array Nat) (u v:Oper×Nat):Bool:=!bO b u.2 v.2 && (bO b v.2 u.2 || u.1.apart ops v.1)
def AV (ops:Array Oper) (b:Array Nat):List (Oper×Nat)→Bool
 | []=>true
 | u::r=>r.all (Ji ops b u) && AV ops b r
def GY (ops:Array Oper) (b:Array Nat) (σ : List Nat) (W:List (Oper×Nat)):Bool :=
 gj (W.map (·.2)) && Aa ops.size (W.map (·.2)) && AV ops b W && uT (pB W) σ
def JO (call:Nat→al→St→(LV→St→Prop)→Prop) (P:Program) (nt:Nat) (ops:Array Oper) (σ : List Nat) (tm:Tm) (s:St) (K:Tm→St→Prop):Prop :=
 match tB ops (Du (CheckFast.beforeF ops) σ (Kf ops.toList.zipIdx)) with
 | W=>cond (GY ops (CheckFast.beforeF ops) σ W) (tf call P nt ops (W.map (·.1)) tm s [] fun tm' s' rs =>
    ko (rT P ops (CheckFast.beforeF ops) W ((s'::rs.map (·.s)).reverse) W rs.reverse) (K tm' s')) False
def AJ (P:Program) (cx:Cx) (n nt:Nat) (c:Code) (tm:Tm) (s:St) (K:LX→Tm→St→Prop):Prop :=
 match c with
 | .region _ ops true=>cond (P.follows .mixedOrders && lL ops)
   (CB (fun σ=>JO (fG P cx n) P nt ops σ tm s fun tm' s'=>K .normal tm' s') (uM (CheckFast.beforeF ops) (pB ops.toList.zipIdx).length (pB ops.toList.zipIdx))) False
 | _=>False
theorem JP {α : Type} {F : α→Prop}:∀ {l:List α},CB F l→∀ x∈l,F x
 | [],h,x,hx=>by simp at hx
 | [y],h,x,hx=>by simp at hx; subst hx; exact h
 | y::z::r,h,x,hx=>by
   rcases eT.1 hx with rfl | hx
   ·exact h.1
   ·exact JP h.2 x hx
theorem LU {b:Array Nat} {x:Nat}:∀ {l:List Nat},(∀ y∈l,y≠x→bO b x y=false)→vW b x l=true
 | [],h=>rfl
 | y::ys,h=>by
   simp only [vW,bg,lV,b7,cu,pM];refine⟨?_,LU fun z hz=>h z (qS _ hz)⟩;by_cases e:x=y
   ·exact .inl e
   ·exact .inr (h y (pL ..) (Ne.symm e))
theorem E_ {x y:Nat}:∀ {l:List Nat},y∈uQ x l↔y∈l∧y≠x
 | []=>by simp [uQ]
 | z::zs=>by
   simp only [uQ,b7];by_cases e:x=z
   ·subst e;simp only [bD,aw,E_ (l:=zs),eT];exact⟨fun⟨h1,h2⟩=>⟨.inr h1,h2⟩,fun⟨h1,h2⟩=>⟨h1.resolve_left h2,h2⟩⟩
   ·simp only [e,fX,aD,eT,E_ (l:=zs)];constructor
    ·rintro(rfl | ⟨h1,h2⟩)
     ·exact⟨.inl rfl,Ne.symm e⟩
     ·exact⟨.inr h1,h2⟩
    ·rintro⟨rfl | h1,h2⟩
     ·exact .inl rfl
     ·exact .inr ⟨h1,h2⟩
theorem FH {x:Nat} {l:List Nat}:∀ {ls r:List (List Nat)},(l∈ls→(x::l)∈Ap x ls r)∧∀ m∈r,m∈Ap x ls r
 | [],r=>⟨fun h=>by simp at h,fun m h=>h⟩
 | k::ks,r=>by
   obtain⟨h1,h2⟩:=FH (x:=x) (l:=l) (ls:=ks) (r:=r);refine⟨fun h=>?_,fun m h=>qS _ (h2 m h)⟩;rcases eT.1 h with rfl | h
   ·exact pL ..
   ·exact qS _ (h1 h)
theorem LJ {b:Array Nat} {all:List Nat} {f:Nat→List (List Nat)} {x:Nat} {l:List Nat} (hn:vW b x all=true) (hl:l∈f x):∀ {xs:List Nat},x∈xs→(x::l)∈vE b all f xs
 | [],h=>by simp at h
 | y::ys,h=>by
   simp only [vE];by_cases e:x=y
   ·subst e;rw [hn]; exact(FH (r:=vE b all f ys)).1 hl
   ·have:=LJ hn hl (xs:=ys) ((eT.1 h).resolve_left e);cases vW b y all
    ·exact this
    ·exact(FH (l:=l)).2 _ this
theorem Km {b:Array Nat}:∀ {h:List Nat} {n:Nat} {rem:List Nat},h.length≤n→h.Nodup→(∀ x,x∈h↔x∈rem)→h.Pairwise (fun x y=>bO b x y=false)→h∈uM b n rem
 | [],n,rem,hn,hd,hm,hp=>by
   have:rem=[]:=List.eq_nil_iff_forall_not_mem.2 fun x hx=>by simpa using (hm x).2 hx
   subst this;cases n <;> simp [uM]
 | x::h,0,rem,hn,hd,hm,hp=>by simp at hn
 | x::h,n+1,rem,hn,hd,hm,hp=>by
   have hx:x∈rem:=(hm x).1 (pL ..);cases rem with
   | nil=>simp at hx
   | cons y ys =>
     simp only [uM];rw [qP] at hd;rw [List.pairwise_cons] at hp;refine LJ (LU fun z hz hne=>?_) (Km (by simpa using hn) hd.2 (fun z=>?_) hp.2) hx
     ·exact hp.1 z ((eT.1 ((hm z).2 hz)).resolve_left hne)
     ·rw [E_,← hm z,eT];exact⟨fun h1=>⟨.inr h1,fun e=>by subst e; exact hd.1 h1⟩,fun⟨h1,h2⟩=>h1.resolve_left h2⟩
theorem Ib:∀ {a b:List Nat},uT a b=true→a=b
 | [],[],h=>rfl
 | x::a,y::b,h=>by
   simp only [uT,bg,b7,cu] at h;rw [h.1,Ib h.2]
 | [],_::_,h=>by simp [uT] at h
 | _::_,[],h=>by simp [uT] at h
theorem Ln:∀ {n:Nat} {is:List Nat},Aa n is=true→∀ i,i < n→i∈is
 | 0,is,h,i,hi=>absurd hi ab
 | n+1,is,h,i,hi=>by
   simp only [Aa,bg,pM] at h;rcases t7.1 hi with h1 | rfl
   ·exact Ln h.2 i h1
   ·have:=h.1;clear h hi
    induction is with
    | nil=>simp [lM] at this
    | cons x xs ih =>
      simp only [lM,b7,Bool.and_eq_false_iff,Bool.not_eq_false',cu] at this;rcases this with e | e
      ·rw [e]; exact pL ..
      ·exact qS _ (ih e)
theorem Fp {ops:Array Oper}:∀ {is:List Nat} {u:Oper×Nat},u∈tB ops is→ops[u.2]? = some u.1
 | [],u,h=>by simp [tB] at h
 | i::r,u,h=>by
   simp only [tB] at h;cases ho:ops[i]? with
   | none=>rw [ho] at h; exact Fp h
   | some o =>
     rw [ho] at h;rcases eT.1 h with rfl | h
     ·exact ho
     ·exact Fp h
theorem L9 {ops:Array Oper} {b:Array Nat}:∀ {l:List (Oper×Nat)},AV ops b l=true→∀ (i j:Nat) (u v:Oper×Nat),i < j→l[i]? = some u→l[j]? = some v→bO b u.2 v.2=false∧(bO b v.2 u.2=true∨u.1.apart ops v.1=true)
 | [],h,i,j,u,v,hij,h1,h2=>by simp at h1
 | x::l,h,i,j,u,v,hij,h1,h2=>by
   simp only [AV,bg] at h;cases j with
   | zero=>omega
   | succ j =>
     simp only [eG] at h2;cases i with
     | zero =>
       simp at h1; subst h1;have:=j_.1 h.1 v (fS h2);simpa only [Ji,bg,pM,lV] using this
     | succ i =>
       simp only [eG] at h1;exact L9 h.2 i j u v ab h1 h2
theorem WJ {call:Nat→al→St→Option (LV×St)} {nt:Nat} {ops:Array Oper} {W:Pl} {R:List Rc} {tm tm':Tm} {s':St} {b:Array Nat}
  (hlen:R.length=W.length) (huniq:∀ (k k':Nat) (o o':Oper) (m:Nat),W[k]? = some (o,m)→W[k']? = some (o',m)→k=k')
  (hpair:∀ (i j:Nat) (u v:Oper×Nat),i < j→W[i]? = some u→W[j]? = some v→bO b u.2 v.2=false∧(bO b v.2 u.2=true∨u.1.apart ops v.1=true))
  (hstep:∀ (k:Nat) (o:Oper) (m:Nat),W[k]? = some (o,m)→∃ rc,R[k]? = some rc∧dH call P ops (aQ rc.tm) o (cX R s' k)=some (rc.v,cX R s' (k+1))∧md nt rc.tm o.dst rc.v=some (fM R tm' (k+1))∧rc.tm=fM R tm' k)
  (hlex0:∀ k,k≤W.length→TRW W R (aQ tm) (fun m=>∃ a o,a < k∧W[a]? = some (o,m)) (aQ (fM R tm' k)))
  (hok:∀ (k:Nat) (o:Oper) (m:Nat) (rc:Rc),W[k]? = some (o,m)→R[k]? = some rc→iT o.op=true→∀ (j:Nat) (h:Oper×Nat),W[j]? = some h→bm h.1.op=false→bO b h.2 m=false→bO b m h.2=false →
   gZ P ops o (aQ rc.tm) rc.v (cX R s' j)=true∧gZ P ops o (aQ rc.tm) rc.v (cX R s' (j+1))=true)
  {L:Nat→Prop} {f:Nat→LV} {p i mi:Nat} {oi:Oper} (hi:W[i]? = some (oi,mi)) (hun:¬ L mi) (hpre:∀ j,bO b mi j=true→L j) (hpost:∀ (k:Nat) (o:Oper) (m:Nat),W[k]? = some (o,m)→bO b m mi=true→¬ L m)
  (hbelow:bm oi.op=false→∀ (k:Nat) (o:Oper) (m:Nat),W[k]? = some (o,m)→bm o.op=false→k < i→L m)
  (habove:bm oi.op=false→∀ (k:Nat) (o:Oper) (m:Nat),W[k]? = some (o,m)→bm o.op=false→i < k→¬ L m)
  (hT:TRW W R (aQ tm) L f) (hp:p≤W.length) (hH:∀ (k:Nat) (o:Oper) (m:Nat),W[k]? = some (o,m)→bm o.op=false→(L m↔k < p)) :
  ∃ rc p',R[i]? = some rc∧dH call P ops f oi (cX R s' p)=some (rc.v,cX R s' p')∧p'≤W.length ∧
    (∀ (k:Nat) (o:Oper) (m:Nat),W[k]? = some (o,m)→bm o.op=false→((L m∨m=mi)↔k < p')) ∧
    (∀ d,oi.dst=some d→d < nt)∧TRW W R (aQ tm) (fun m=>L m∨m=mi) (fun t=>if oi.dst=some t then rc.v else f t):=by
 have hin:i < W.length:=(bU.1 hi).1
 let S:Nat→St:=cX R s'
 let heavy:Nat→Prop:=fun k=>∃ o m,W[k]? = some (o,m)∧bm o.op=false
 have hlight:∀ (k:Nat) (o:Oper) (m:Nat),W[k]? = some (o,m)→bm o.op=true→S (k+1)=S k:=by
  intro k o m ho hl;obtain⟨rc,g1,g2,_⟩:=hstep k o m ho;exact(mm hl g2).1
 have hconst:∀ c a,a≤c→c≤W.length→(∀ k,a≤k→k < c→¬ heavy k)→S a=S c:=by
  intro c
  induction c with
  | zero=>intro a ha _ _; have:a=0:=ab
          rw [this]
  | succ c ih =>
    intro a ha hc hno;by_cases e:a=c+1
    ·rw [e]
    ·have hlt:c < W.length:=ab;have hob:W[c]? = some (W[c].1,W[c].2):=cq hlt;have hl:bm W[c].1.op=true:=by
      cases hqq:bm W[c].1.op with
      | true=>rfl
      | false=>exact absurd ⟨_,_,hob,hqq⟩ (hno c ab ab)
     rw [hlight c _ _ hob hl];exact ih a ab ab fun k h1 h2=>hno k h1 ab
 obtain⟨rc,g1,g3,g4,g5⟩:=hstep i oi mi hi;have hsame:∀ t∈oi.looksAt ops,f t=aQ rc.tm t:=by
  intro t ht;rw [g5];refine hT.unique (hlex0 i ab) fun k o m ho hd=>?_
  rcases lg k i with e | e | e
  ·refine⟨fun _=>⟨k,o,e,ho⟩,fun _=>?_⟩;rcases(hpair k i _ _ e ho hi).2 with h | h
   ·exact hpre m h
   ·exact absurd ht ((Oper.apart_spec h).1 t hd)
  ·subst e;rw [hi] at ho; cases ho;exact⟨fun h=>absurd h hun,fun⟨a,o',h1,h2⟩=>by have:=huniq _ _ _ _ _ h2 hi; omega⟩
  ·refine⟨fun h=>?_,fun⟨a,o',h1,h2⟩=>by have:=huniq _ _ _ _ _ h2 ho; omega⟩;rcases(hpair i k _ _ e hi ho).2 with h' | h'
   ·exact absurd h (hpost k o m ho h')
   ·exact absurd ht ((Oper.apart_spec h').2.2 t hd)
 obtain⟨q1,q2⟩:=pD g4;have hTs:TRW W R (aQ tm) (fun m=>L m∨m=mi) (fun t=>if oi.dst=some t then rc.v else f t):=by
  refine hT.step huniq hi g1 (fun k=>Iff.rfl) (fun k o m t hk ho h1 h2 h3=>?_) fun t=>rfl
  rcases(hpair i k _ _ hk hi ho).2 with h' | h'
  ·exact hpost k o m ho h' h3
  ·exact(Oper.apart_spec h').2.1 t h1 h2
 cases hl:bm oi.op with
 | false =>
   have hbelow:=hbelow hl;have habove:=habove hl;have hSp:S p=S i:=by
    rcases Nat.le_total p i with e | e
    ·refine hconst i p e ab fun k h1 h2 ⟨o,m,ho,hlk⟩=>?_
     have:=(hH k o m ho hlk).1 (hbelow k o m ho hlk h2);omega
    ·refine(hconst p i e hp fun k h1 h2 ⟨o,m,ho,hlk⟩=>?_).symm;have h3:=(hH k o m ho hlk).2 h2;rcases jH i k with h4 | h4
     ·exact habove k o m ho hlk h4 h3
     ·have:k=i:=ab;subst this; rw [hi] at ho; cases ho; exact hun h3
   refine⟨rc,i+1,g1,by rw [yy hsame]; show dH call P ops (aQ rc.tm) oi (S p)=_; rw [hSp]; exact g3,ab,fun k o m ho hlk=>?_,q1,hTs⟩;rcases lg k i with e | e | e
   ·exact⟨fun _=>by omega,fun _=>.inl (hbelow k o m ho hlk e)⟩
   ·subst e; rw [hi] at ho; cases ho; exact⟨fun _=>by omega,fun _=>.inr rfl⟩
   ·refine⟨fun h=>?_,fun h=>by omega⟩;rcases h with h | h
    ·exact absurd h (habove k o m ho hlk e)
    ·subst h; have:=huniq _ _ _ _ _ hi ho; omega
 | true =>
   have hnh:∀ (k:Nat) (o:Oper) (m:Nat),W[k]? = some (o,m)→bm o.op=false→m≠mi:=fun k o m ho hlk e=>by
    subst e; have:=huniq _ _ _ _ _ hi ho; subst this; rw [hi] at ho; cases ho; rw [hl] at hlk; cases hlk
   refine⟨rc,p,g1,?_,hp,fun k o m ho hlk=>by rw [← hH k o m ho hlk]; exact⟨fun h=>by rcases h with h | h; exact h; exact absurd h (hnh k o m ho hlk),fun h=>.inl h⟩,q1,hTs⟩;rw [yy hsame];have hat:=hok i oi mi rc hi g1;rcases Nat.le_total p i with e | e
   ·by_cases hex:∃ k,p≤k∧k < i∧heavy k
    ·obtain⟨k,hk⟩:=hex;have hfirst:∃ k,(p≤k∧k < i∧heavy k)∧∀ m,m < k→¬ (p≤m∧m < i∧heavy m):=by
      revert hk
      induction k using Nat.strongRecOn with
      | _ k ihk =>
        intro hk;by_cases h:∃ m,m < k∧(p≤m∧m < i∧heavy m)
        ·obtain⟨m,hm,hqq⟩:=h; exact ihk m hm hqq
        ·exact⟨k,hk,fun m hm hqq=>h ⟨m,hm,hqq⟩⟩
     obtain⟨k,⟨k1,k2,o,m,ho,hlo⟩,k4⟩:=hfirst;have hSp:S p=S k:=hconst k p k1 ab fun m h1 h2 hh=>k4 m h2 ⟨h1,ab,hh⟩
     have hnl:¬ L m:=fun h=>by have:=(hH k o m ho hlo).1 h; omega
     have b1:=(hpair k i _ _ k2 ho hi).1;have b2:bO b mi m=false:=by
      cases hb:bO b mi m with
      | false=>rfl
      | true=>exact absurd (hpre m hb) hnl
     show dH call P ops (aQ rc.tm) oi (S p)=some (rc.v,S p);rw [hSp];exact v7 hl g3 fun hld=>(hat hld k _ ho hlo b1 b2).1
    ·have hSp:S p=S i:=hconst i p e ab fun m h1 h2 hh=>hex ⟨m,h1,h2,hh⟩
     show dH call P ops (aQ rc.tm) oi (S p)=some (rc.v,S p);rw [hSp];have:=(mm hl g3).1;rw [this] at g3; exact g3
   ·by_cases hex:∃ k,i≤k∧k < p∧heavy k
    ·have hlast:∃ k,(i≤k∧k < p∧heavy k)∧∀ m,k < m→¬ (i≤m∧m < p∧heavy m):=by
      obtain⟨k,hk⟩:=hex;have:∀ d k,p - k=d→(i≤k∧k < p∧heavy k)→∃ k,(i≤k∧k < p∧heavy k)∧∀ m,k < m→¬ (i≤m∧m < p∧heavy m):=by
       intro d
       induction d using Nat.strongRecOn with
       | _ d ihd =>
         intro k hd hk;by_cases h:∃ m,k < m∧(i≤m∧m < p∧heavy m)
         ·obtain⟨m,hm,hqq⟩:=h; exact ihd (p - m) ab m rfl hqq
         ·exact⟨k,hk,fun m hm hqq=>h ⟨m,hm,hqq⟩⟩
      exact this _ k rfl hk
     obtain⟨k,⟨k1,k2,o,m,ho,hlo⟩,k4⟩:=hlast;have hSp:S (k+1)=S p:=hconst p (k+1) ab hp fun m h1 h2 hh=>k4 m ab ⟨ab,h2,hh⟩
     have hkl:L m:=(hH k o m ho hlo).2 k2;have hki:k≠i:=fun e2=>by subst e2; rw [hi] at ho; cases ho; rw [hl] at hlo; cases hlo
     have b2:=(hpair i k _ _ ab hi ho).1;have b1:bO b m mi=false:=by
      cases hb:bO b m mi with
      | false=>rfl
      | true=>exact absurd hkl (hpost k o m ho hb)
     show dH call P ops (aQ rc.tm) oi (S p)=some (rc.v,S p);rw [← hSp];exact v7 hl g3 fun hld=>(hat hld k _ ho hlo b1 b2).2
    ·have hSp:S i=S p:=hconst p i e hp fun m h1 h2 hh=>hex ⟨m,h1,h2,hh⟩
     show dH call P ops (aQ rc.tm) oi (S p)=some (rc.v,S p);rw [← hSp];have:=(mm hl g3).1;rw [this] at g3; exact g3
structure Ml (ops:Array Oper) (l:List Nat):Prop where
 nd:l.Nodup
 mem:∀ i,i∈l↔i < ops.size
 pre:∀ d i e,l=d++i::e→∀ o,ops[i]? = some o→∀ g∈o.after,Region.binds .any g=true→g.on∈d
theorem Tf {ops:Array Oper} (hlex:lL ops=true):∀ (fuel t:Nat) (listed:Array Bool),listed.size=ops.size→listed.toList.count false=fuel →
  (∀ i o,listed.getD i false=true→ops[i]? = some o→∀ e∈o.after,Region.binds .any e=true→listed.getD e.on false=true) →
  (Region.linearise.go .any ops fuel t listed []).Nodup∧(∀ i,i∈Region.linearise.go .any ops fuel t listed []↔i < ops.size∧listed.getD i false=false) ∧
   ∀ d i e,Region.linearise.go .any ops fuel t listed []=d++i::e→∀ o,ops[i]? = some o→∀ g∈o.after,Region.binds .any g=true→listed.getD g.on false=true∨g.on∈d:=by
 intro fuel
 induction fuel with
 | zero =>
   intro t listed hsz hcnt hD;have hall:∀ i,i < ops.size→listed.getD i false=true:=by
    intro i hi;have hlt:i < listed.size:=ab;cases hv:listed.getD i false with
    | true=>rfl
    | false =>
      have:(false:Bool)∈listed.toList:=by
       simp [hlt] at hv;rw [← hv]; simp
      rw [List.count_eq_zero] at hcnt;exact absurd this hcnt
   refine⟨by simp [Region.linearise.go],fun i=>?_,fun d i e h=>by simp [Region.linearise.go] at h⟩;simp only [Region.linearise.go,List.reverse_nil,List.not_mem_nil,false_iff,not_and,Bool.not_eq_false];exact hall i
 | succ fuel ih =>
   intro t listed hsz hcnt hD;simp only [Region.linearise.go];change (match (Region.ready .any ops listed)[t % (Region.ready .any ops listed).length]? with
    | some i=>Region.linearise.go .any ops fuel (t / (Region.ready .any ops listed).length) (listed.setIfInBounds i true) [i]
    | none=>[].reverse).Nodup∧(∀ i,i∈(match (Region.ready .any ops listed)[t % (Region.ready .any ops listed).length]? with
    | some i=>Region.linearise.go .any ops fuel (t / (Region.ready .any ops listed).length) (listed.setIfInBounds i true) [i]
    | none=>[].reverse)↔_)∧∀ d i e,(match (Region.ready .any ops listed)[t % (Region.ready .any ops listed).length]? with
    | some i=>Region.linearise.go .any ops fuel (t / (Region.ready .any ops listed).length) (listed.setIfInBounds i true) [i]
    | none=>[].reverse)=d++i::e→_
   cases hi:(Region.ready .any ops listed)[t % (Region.ready .any ops listed).length]? with
   | none =>
     have hnil:Region.ready .any ops listed=[]:=by
      cases hr:Region.ready .any ops listed with
      | nil=>rfl
      | cons x xs =>
        rw [hr] at hi;have hlt:t % (x::xs).length < (x::xs).length:=Nat.mod_lt _ aC;simp at hi;simp at hlt;omega
     have hall:∀ i,i < ops.size→listed.getD i false=true:=by
      intro i
      induction i using Nat.strongRecOn with
      | _ i ihi =>
        intro hi';cases hv:listed.getD i false with
        | true=>rfl
        | false =>
          have hoi:ops[i]? = some (ops[i]):=mr hi';have:i∈Region.ready .any ops listed:=by
           rw [mem_ready];refine⟨?_,_,hoi,fun e he hb=>ihi e.on (qK hlex hoi e he hb) (Nat.lt_trans (qK hlex hoi e he hb) hi')⟩;have hlt:i < listed.size:=ab;simp [hlt] at hv ⊢; exact hv
          rw [hnil] at this; cases this
     refine⟨aC,fun i=>?_,fun d i e h=>by simp at h⟩;simp only [List.reverse_nil,List.not_mem_nil,false_iff,not_and,Bool.not_eq_false];exact hall i
   | some i =>
     simp only [];rw [linearise_go_acc,List.reverse_singleton,List.singleton_append];obtain⟨hun,oi,hoi,hedges⟩:=mem_ready.1 (fS hi);have hin:i < ops.size:=(ft.1 hoi).1;have hlt:i < listed.size:=ab;have hun':listed.getD i false=false:=by
      simp [hlt] at hun ⊢; exact hun
     have hset:∀ k,(listed.setIfInBounds i true).getD k false=true↔(listed.getD k false=true∨k=i):=by
      intro k;by_cases e:i=k
      ·subst e;simp [hlt]
      ·simp only [Array.getD_eq_getD_getElem?,mX e];exact⟨fun h=>.inl h,fun h=>by rcases h with h | h; exact h; exact absurd h.symm e⟩
     have hcnt':(listed.setIfInBounds i true).toList.count false=fuel:=by
      have:=Bh listed.toList i (by simp [hlt] at hun; simp [hlt,hun]);rw [Array.toList_setIfInBounds]; omega
     obtain⟨h1,h2,h3⟩:=ih (t / (Region.ready .any ops listed).length) (listed.setIfInBounds i true) (by simpa using hsz) hcnt' fun j o hj ho e he hb=>by
      rw [hset] at hj ⊢;rcases hj with hj | hj
      ·exact .inl (hD j o hj ho e he hb)
      ·subst hj; rw [hoi] at ho; cases ho;exact .inl (hedges e he hb)
     have hni:¬ i∈Region.linearise.go .any ops fuel (t / (Region.ready .any ops listed).length) (listed.setIfInBounds i true) []:=fun h=>by
      have:=((h2 i).1 h).2;rw [(hset i).2 (.inr rfl)] at this; cases this
     refine⟨qP.2 ⟨hni,h1⟩,fun k=>?_,fun d k e h=>?_⟩
     ·rw [eT,h2];constructor
      ·rintro(rfl | ⟨k1,k2⟩)
       ·exact⟨hin,hun'⟩
       ·refine⟨k1,?_⟩;cases hv:listed.getD k false with
        | false=>rfl
        | true=>rw [(hset k).2 (.inl hv)] at k2; cases k2
      ·rintro⟨k1,k2⟩
       by_cases e:k=i
       ·exact .inl e
       ·refine .inr ⟨k1,?_⟩;cases hv:(listed.setIfInBounds i true).getD k false with
        | false=>rfl
        | true =>
          rcases(hset k).1 hv with h | h
          ·rw [k2] at h; cases h
          ·exact absurd h e
     ·intro o ho g hg hb;cases d with
      | nil =>
        simp at h;obtain⟨rfl,_⟩:=h;rw [hoi] at ho; cases ho;exact .inl (hedges g hg hb)
      | cons x d =>
        simp only [lq,iJ] at h;obtain⟨rfl,h⟩:=h;rcases h3 d k e h o ho g hg hb with q | q
        ·rcases(hset _).1 q with q | q
         ·exact .inl q
         ·exact .inr (by rw [q]; exact pL ..)
        ·exact .inr (qS _ q)
theorem Tg {ops:Array Oper} (hlex:lL ops=true) (t:Nat):Ml ops (Region.linearise .any ops t):=by
 have hrep:∀ k,¬ (Array.replicate ops.size false).getD k false=true:=by
  intro k;by_cases h:k < ops.size <;> simp [h]
 obtain⟨h1,h2,h3⟩:=Tf hlex ops.size t (Array.replicate ops.size false) aC aC fun i o h=>absurd h (hrep i)
 refine⟨h1,fun i=>?_,fun d i e h o ho g hg hb=>(h3 d i e h o ho g hg hb).resolve_left (hrep _)⟩;exact(h2 i).trans ⟨fun h=>h.1,fun h=>⟨h,by simpa using hrep i⟩⟩
theorem WB {l:List Nat} (h:l.Nodup) {d e d' e':List Nat} {x:Nat} (h1:l=d++x::e) (h2:l=d'++x::e'):d=d':=by
 subst h1
 induction d generalizing d' with
 | nil =>
   cases d' with
   | nil=>rfl
   | cons y d' =>
     simp only [lU,lq,iJ] at h2;obtain⟨rfl,h2⟩:=h2;simp only [lU,qP] at h;exact absurd (by rw [h2]; simp) h.1
 | cons y d ih =>
   cases d' with
   | nil =>
     simp only [lU,lq,iJ] at h2;obtain⟨rfl,h2⟩:=h2;simp only [lq,qP] at h;exact absurd aC h.1
   | cons z d' =>
     simp only [lq,iJ] at h2;obtain⟨rfl,h2⟩:=h2;simp only [lq,qP] at h;rw [ih h.2 h2]
theorem Xm {call:Nat→al→St→Option (LV×St)} (hcall:qo P call) {W0:World} {nt:Nat} {ops:Array Oper} {Q:Exit→Act→World→Prop} {tm tm':Tm} {s s':St} {w0:World} {a0:Act} {rs:List Rc} {r:Ren} {W:Pl} {l0:List Nat}
  (hlin:Ml ops l0) (hlex:lL ops=true) (hW:∀ u∈W,ops[u.2]? = some u.1) (hnd:(W.map (·.2)).Nodup) (hcov:∀ i,i < ops.size→i∈W.map (·.2))
  (hpair:∀ (i j:Nat) (u v:Oper×Nat),i < j→W[i]? = some u→W[j]? = some v→bO (CheckFast.beforeF ops) u.2 v.2=false∧(bO (CheckFast.beforeF ops) v.2 u.2=true∨u.1.apart ops v.1=true))
  (hord:W.Pairwise (fun u v=>bm u.1.op=false→bm v.1.op=false→∀ d e,l0=d++u.2::e→v.2 ∉ d))
  (hrun:jk call P nt ops (W.map (·.1)) tm s []=some (tm',s',rs)) (hrec:qA P ops (CheckFast.beforeF ops) W ((s'::rs.map (·.s)).reverse) W rs.reverse=true)
  (hI:Inv W0 r s w0) (hA:AR r (aQ tm) nt a0) (hQ:∀ r' a' w',Inv W0 r' s' w'→Ext r s w0 r' s' w'→AR r' (aQ tm') nt a'→Q .normal a' w') :
  wpOps P ops Q l0 a0 w0:=by
 obtain⟨R,e1,e2,e3,e4,e5⟩:=AM hrun;simp only [fR] at e1;subst e1;rw [ii] at e2
 let S:Nat→St:=cX R s'
 have hpos:∀ (m:Nat) (o:Oper),ops[m]? = some o→∃ k,W[k]? = some (o,m):=fun m o h=>by
  obtain⟨u,hu,rfl⟩:=List.mem_map.1 (hcov m (ft.1 h).1);obtain⟨k,hk,e⟩:=pJ hu;have:=hW u hu;rw [h] at this; cases this;exact⟨k,by rw [cq hk,e]⟩
 have hWk:∀ (k:Nat) (o:Oper) (m:Nat),W[k]? = some (o,m)→ops[m]? = some o:=fun k o m h=>hW _ (fS h)
 have huniq:∀ (k k':Nat) (o o':Oper) (m:Nat),W[k]? = some (o,m)→W[k']? = some (o',m)→k=k':=fun k k' o o' m h h'=>by
  have hk:=(bU.1 h).1;have hk':=(bU.1 h').1;have e1:(W.map (·.2))[k]'(by simpa using hk)=m:=by simp [(bU.1 h).2]
  have e2:(W.map (·.2))[k']'(by simpa using hk')=m:=by simp [(bU.1 h').2]
  have hpw:=wg.1 hnd;rcases lg k k' with h3 | h3 | h3
  ·exact absurd (e1.trans e2.symm) (hpw k k' (by simpa using hk) (by simpa using hk') h3)
  ·exact h3
  ·exact absurd (e2.trans e1.symm) (hpw k' k (by simpa using hk') (by simpa using hk) h3)
 have hstep:∀ (k:Nat) (o:Oper) (m:Nat),W[k]? = some (o,m)→∃ rc,R[k]? = some rc∧dH call P ops (aQ rc.tm) o (cX R s' k)=some (rc.v,cX R s' (k+1))∧md nt rc.tm o.dst rc.v=some (fM R tm' (k+1))∧rc.tm=fM R tm' k:=by
  intro k o m ho;obtain⟨rc,g1,g2,g3⟩:=e5 k o (by simp [ho]);have hs:cX R s' k=rc.s:=by simp [cX,g1]
  exact⟨rc,g1,by rw [hs]; exact g2,g3,by simp [fM,g1]⟩
 have hlex0:∀ k,k≤W.length→TRW W R (aQ tm) (fun m=>∃ a o,a < k∧W[a]? = some (o,m)) (aQ (fM R tm' k)):=by
  intro k
  induction k with
  | zero=>intro _ t; exact .inr ⟨fun k o m _ _ h=>by obtain⟨a,o',h1,_⟩:=h; omega,by rw [e3]⟩
  | succ k ih =>
    intro hk;have hok:W[k]? = some (W[k].1,W[k].2):=cq ab;obtain⟨rc,g1,g2,g4,g5⟩:=hstep k _ _ hok;refine(ih ab).step huniq hok g1 (fun m=>?_) (fun j o m t hj ho _ _ h=>?_) fun t=>?_
    ·constructor
     ·rintro⟨a,o,h1,h2⟩
      by_cases e:a=k
      ·subst e; rw [hok] at h2; simp at h2; exact .inr h2.2.symm
      ·exact .inl ⟨a,o,ab,h2⟩
     ·rintro(⟨a,o,h1,h2⟩ | h)
      ·exact⟨a,o,ab,h2⟩
      ·exact⟨k,W[k].1,ab,by rw [hok,h]⟩
    ·obtain⟨a,o',h1,h2⟩:=h;have:=huniq _ _ _ _ _ h2 ho;omega
    ·rw [(pD g4).2 t,← g5]
 have hss:∀ m,m≤W.length→((s'::R.reverse.map (·.s)).reverse)[m]? = some (cX R s' m):=by
  intro m hm;have:(s'::R.reverse.map (·.s)).reverse=R.map (·.s)++[s']:=aC;rw [this];by_cases h:m < R.length
  ·rw [iY pN];simp [cX,cq h]
  ·have:m=R.length:=ab;subst this;rw [kb aC];simp [cX]
 have hok:∀ (k:Nat) (o:Oper) (m:Nat) (rc:Rc),W[k]? = some (o,m)→R[k]? = some rc→iT o.op=true→∀ (j:Nat) (h:Oper×Nat),W[j]? = some h→bm h.1.op=false→bO (CheckFast.beforeF ops) h.2 m=false→bO (CheckFast.beforeF ops) m h.2=false →
   gZ P ops o (aQ rc.tm) rc.v (cX R s' j)=true∧gZ P ops o (aQ rc.tm) rc.v (cX R s' (j+1))=true:=by
  intro k o m rc ho hr hl j h hj hlj h1 h2;have hok:=FO _ _ hrec k (o,m) rc ho (by simpa using hr) hl;have hjl:=(bU.1 hj).1;exact FT _ _ hok j h _ _ hj (hss j ab) (hss (j+1) ab) hlj h1 h2
 have hconst:∀ c a,a≤c→c≤W.length→(∀ (k:Nat) (o:Oper) (m:Nat),a≤k→k < c→W[k]? = some (o,m)→bm o.op=true)→S a=S c:=by
  intro c
  induction c with
  | zero=>intro a ha _ _; have:a=0:=ab
          rw [this]
  | succ c ih =>
    intro a ha hc hno;by_cases e:a=c+1
    ·rw [e]
    ·have hob:W[c]? = some (W[c].1,W[c].2):=cq ab;obtain⟨rc,g1,g2,_⟩:=hstep c _ _ hob;have:=(mm (hno c _ _ ab ab hob) g2).1;show S a=S (c+1);rw [show S (c+1)=S c from this];exact ih a ab ab fun k o m h1 h2 h3=>hno k o m h1 ab h3
 have hclosed:∀ d e,l0=d++e→∀ i o,i∈d→ops[i]? = some o→∀ g∈o.after,Region.binds .any g=true→g.on∈d:=by
  intro d e h i o hi ho g hg hb;obtain⟨d1,d2,rfl⟩:=List.append_of_mem hi;have:=hlin.pre d1 i (d2++e) (by rw [h]; simp) o ho g hg hb;exact List.mem_append_left _ this
 have main:∀ (rest done:List Nat),l0=done++rest→∀ (a:Act) (w:World) (r':Ren) (f:Nat→LV) (p:Nat),Inv W0 r' (S p) w→Ext r s w0 r' (S p) w→AR r' f nt a→TRW W R (aQ tm) (· ∈ done) f→p≤W.length →
   (∀ (k:Nat) (o:Oper) (m:Nat),W[k]? = some (o,m)→bm o.op=false→(m∈done↔k < p))→wpOps P ops Q rest a w:=by
  intro rest
  induction rest with
  | nil =>
    intro done hl a w r' f p j1 j2 j3 j4 j5 j6;rw [fR] at hl;subst hl;have hall:∀ (k:Nat) (o:Oper) (m:Nat),W[k]? = some (o,m)→m∈l0:=fun k o m ho=>(hlin.mem m).2 (ft.1 (hWk k o m ho)).1
    have hend:R[W.length]? = none:=gO ab;have hS:S p=s':=by
     rw [hconst W.length p j5 (aR _) fun k o m h1 h2 ho=>by
      cases hl:bm o.op with
      | true=>rfl
      | false =>
        have:=(j6 k o m ho hl).1 (hall k o m ho);omega]
     simp [S,cX,hend]
    have hf:f=aQ tm':=by
     funext t
     have h1:=hlex0 W.length (aR _);have h2:fM R tm' W.length=tm':=by simp [fM,hend]
     rw [h2] at h1;refine j4.unique h1 fun k o m ho _=>?_
     exact⟨fun _=>⟨k,o,(bU.1 ho).1,ho⟩,fun _=>hall k o m ho⟩
    rw [hS] at j1 j2;rw [hf] at j3;simp only [wpOps];exact hQ r' a w j1 j2 j3
  | cons i rest ih =>
    intro done hl a w r' f p j1 j2 j3 j4 j5 j6;have hnd':=hlin.nd;rw [hl] at hnd';have hil:i∈l0:=by rw [hl]; simp
    have hin:=(hlin.mem i).1 hil;have hoi:ops[i]? = some ops[i]:=mr hin;generalize ops[i]=oi at hoi;obtain⟨ki,hki⟩:=hpos i oi hoi;have hun:i ∉ done:=fun h=>by
     rw [List.nodup_append] at hnd';exact hnd'.2.2 i h i (pL ..) rfl
    have hpre:∀ j,bO (CheckFast.beforeF ops) i j=true→j∈done:=fun j hj =>
     t6 hlex (D:=(· ∈ done)) (fun k o hk ho=>hclosed done _ hl k o hk ho) i j hoi (fun g hg hb=>hlin.pre done i rest hl oi hoi g hg hb) hj
    have hpost:∀ (k:Nat) (o:Oper) (m:Nat),W[k]? = some (o,m)→bO (CheckFast.beforeF ops) m i=true→¬ m∈done:=fun k o m ho hj hm =>
     hun (t6 hlex (D:=(· ∈ done)) (fun k o hk ho=>hclosed done _ hl k o hk ho) m i (hWk k o m ho) (hclosed done _ hl m o hm (hWk k o m ho)) hj)
    have hw:=wg.1 hord;have hb:bm oi.op=false→∀ (k:Nat) (o:Oper) (m:Nat),W[k]? = some (o,m)→bm o.op=false→k < ki→m∈done:=by
     intro hlo k o m ho hlk hk;have hk1:=(bU.1 ho).1;have hk2:=(bU.1 hki).1;have e1:=(bU.1 ho).2;have e2:=(bU.1 hki).2;have h:=hw k ki hk1 hk2 hk;rw [e1,e2] at h;have hml:m∈l0:=(hlin.mem m).2 (ft.1 (hWk k o m ho)).1;rw [hl] at hml;rcases gz.1 hml with h1 | h1
     ·exact h1
     ·rcases eT.1 h1 with h1 | h1
      ·subst h1; have:=huniq _ _ _ _ _ ho hki; omega
      ·obtain⟨x,y,rfl⟩:=List.append_of_mem h1;exact absurd aC (h hlk hlo (done++i::x) y (by rw [hl]; simp))
    have ha:bm oi.op=false→∀ (k:Nat) (o:Oper) (m:Nat),W[k]? = some (o,m)→bm o.op=false→ki < k→¬ m∈done:=by
     intro hlo k o m ho hlk hk;have hk1:=(bU.1 ho).1;have hk2:=(bU.1 hki).1;have e1:=(bU.1 ho).2;have e2:=(bU.1 hki).2;have h:=hw ki k hk2 hk1 hk;rw [e1,e2] at h;exact h hlo hlk done rest hl
    obtain⟨rc,p',l1,l2,l3,l6,l7,l8⟩:=WJ (P:=P) e2 huniq hpair hstep hlex0 hok (L:=(· ∈ done)) hki hun hpre hpost hb ha j4 j5 j6;rw [wpOps_cons];refine A5 hcall j1 j3 hoi l2 fun r'' w' u hI'' hE'' hv=>?_
    refine ih (done++[i]) (by rw [hl]; simp) _ _ r'' _ p' hI'' (j2.trans hE'') ((j3.mono hE''.le).put hv l7 fun t=>rfl) ?_ l3 fun k o m ho hlk=>by
     rw [← l6 k o m ho hlk]; simp
    have:(fun m=>m∈done++[i])=fun m=>m∈done∨m=i:=by funext m; simp
    rw [this]; exact l8
 exact main l0 [] rfl a0 w0 r (aQ tm) 0 (by simp only [S,e4]; exact hI) (by simp only [S,e4]; exact Ext.refl _ _ _) hA (fun t=>.inr ⟨fun k o m _ _ h=>by simp at h,rfl⟩) ab fun k o m _ _=>⟨fun h=>by simp at h,fun h=>by omega⟩
theorem a0n.i4c {cx:Cx} (hcx:cT P (cv cx)) {n nt n0:Nat} {c:Code} {tm:Tm} {s:St} {L:List Nat} {Φ : Pk} (hn:n0≤s.n) (h:AJ P cx n nt c tm s (vK L Φ)):a0n P nt c n0 tm s (vK L Φ):=by
 unfold AJ at h;split at h
 ·rename_i id ops;rw [jV,bg] at h;obtain⟨⟨hm,hlex⟩,h⟩:=h;intro W0 r a w hI hA K hK;refine wp_region_draw fun t=>?_
  simp only [Region.schedule,hm,Bool.true_or,eR];have hlin:=Tg hlex t;generalize hl0:Region.linearise .any ops t=l0 at hlin ⊢
  let hv:Nat→Bool:=fun i=>match ops[i]? with | some o=>!bm o.op | none=>false
  have hH:∀ x,x∈pB ops.toList.zipIdx↔x < ops.size∧hv x=true:=by
   intro x;simp only [pB,List.mem_map,List.mem_filter,hv];constructor
   ·rintro⟨u,⟨h1,h2⟩,rfl⟩
    rw [wh] at h1;have h1:ops[u.2]? = some u.1:=by simpa using h1
    rw [h1];exact⟨(ft.1 h1).1,h2⟩
   ·rintro⟨h1,h2⟩
    have ho:ops[x]? = some ops[x]:=mr h1;rw [ho] at h2;exact⟨(ops[x],x),⟨by rw [wh]; simp,h2⟩,rfl⟩
  have hσd:(l0.filter hv).Nodup:=hlin.nd.filter _;have hzn:(pB ops.toList.zipIdx).Nodup:=by
   refine List.Sublist.nodup (List.Sublist.map _ List.filter_sublist) ?_;simp [List.zipIdx_map_snd,List.nodup_range']
  have hmem:∀ x,x∈l0.filter hv↔x∈pB ops.toList.zipIdx:=fun x=>by rw [List.mem_filter,hlin.mem,hH]
  have hclosed:∀ d e,l0=d++e→∀ i o,i∈d→ops[i]? = some o→∀ g∈o.after,Region.binds .any g=true→g.on∈d:=by
   intro d e h i o hi ho g hg hb;obtain⟨d1,d2,rfl⟩:=List.append_of_mem hi;have:=hlin.pre d1 i (d2++e) (by rw [h]; simp) o ho g hg hb;exact List.mem_append_left _ this
  have hlp:l0.Pairwise (fun x y=>∀ d e,l0=d++x::e→y ∉ d):=by
   rw [wg];intro i j hi hj hij d e he hy;have h1:l0=l0.take i++l0[i]::l0.drop (i+1):=by rw [← jG hi,List.take_append_drop]
   have h2:=WB hlin.nd h1 he;rw [← h2] at hy;obtain⟨k,hk,e'⟩:=pJ hy;simp only [sr] at hk;rw [List.getElem_take] at e';have:=(wg.1 hlin.nd) k j ab hj ab;exact this e'
  have hσp:(l0.filter hv).Pairwise (fun x y=>bO (CheckFast.beforeF ops) x y=false):=by
   refine(hlp.filter hv).imp_of_mem fun {x y} hx hy h=>?_
   cases hb:bO (CheckFast.beforeF ops) x y with
   | false=>rfl
   | true =>
     have hxl:=(List.mem_filter.1 hx).1;obtain⟨d,e,he⟩:=List.append_of_mem hxl;have hxs:=(hlin.mem x).1 hxl;have ho:ops[x]? = some ops[x]:=mr hxs;have:=t6 hlex (D:=(· ∈ d)) (fun k o hk ho=>hclosed d _ he k o hk ho) x y ho (fun g hg hb=>hlin.pre d x e he _ ho g hg hb) hb;exact absurd this (h d e he)
  have hin:l0.filter hv∈uM (CheckFast.beforeF ops) (pB ops.toList.zipIdx).length (pB ops.toList.zipIdx):=by
   refine Km ?_ hσd hmem hσp;exact Nat.le_of_eq ((List.perm_ext_iff_of_nodup hσd hzn).2 hmem).length_eq
  have h1:=JP h _ hin;unfold JO at h1;generalize hW:tB ops (Du (CheckFast.beforeF ops) (l0.filter hv) (Kf ops.toList.zipIdx))=W at h1;simp only [jV] at h1;obtain⟨h2,h3⟩:=h1;simp only [GY,bg] at h2;obtain⟨⟨⟨c1,c2⟩,c3⟩,c4⟩:=h2;have hWm:∀ u∈W,ops[u.2]? = some u.1:=fun u hu=>by rw [← hW] at hu; exact Fp hu
  obtain⟨tm',s',rs,k1,k2⟩:=yA (xC (P:=P) (cx:=cx) n).2 h3;rw [lR] at k2;obtain⟨k2,k3⟩:=k2;have hord:W.Pairwise (fun u v=>bm u.1.op=false→bm v.1.op=false→∀ d e,l0=d++u.2::e→v.2 ∉ d):=by
   have q:=hlp.filter hv;rw [← Ib c4,pB,List.pairwise_map,List.pairwise_filter] at q;exact q.imp fun {u v} h hu hv=>h (by simp [hu]) (by simp [hv])
  refine Xm (fun W0 r' g args s1 s2 v w' us=>(qI hcx n).2 W0 r' g args s1 s2 v w' us) hlin hlex hWm (pC c1) (fun i hi=>Ln c2 i hi) (L9 c3) hord k1 (Be k2) (hI.draw _) hA fun r' a' w' q1 q2 q3=>?_
  exact hK .normal tm' s' r' a' w' k3 q1 (c0w.of ((Ext.draw _).trans q2) hn) q3
 ·exact dG
end
section
open Go.RowKit
variable {P:Program}
def Dp (P:Program):Nat→TypeId→Option (List (Nat×CT))
 | 0,_=>none
 | d+1,t=>match P.underlying t with
   | some (.struct fs)=>uF (Dp P d) fs.toList
   | some (.int k)=>some [(0,.int k)]
   | some .bool=>some [(0,.bool)]
   | _=>some []
theorem Vb {ρ : a4c} {c o k es:Nat} {cs0 cs:al} (h1:cs0.length≤k * es) (h2:o+k * es≤cs.length) (h3:a7h ρ cs0 (bf cs o cs0.length)) (h:LV.any ∉ cs0):LBW ρ (.cap c o k) (.cells cs0 (some es)) (some (.cells cs none)):=⟨h1,h2,.inr h3,h⟩
theorem Xj {ρ : a4c} {b c n m:Nat} (h : ρ b=some (.drop c 0 0)):LVW ρ (.slo b 0 n m) (.slo c 0 n m):=by simp [LVW,h]
theorem V0 {ρ : a4c} {c es:Nat} {cs0 cs:al} (h1:cs0.length≤cs.length) (h3:a7h ρ cs0 (bf cs 0 cs0.length)) (h:LV.any ∉ cs0):LBW ρ (.drop c 0 0) (.cells cs0 (some es)) (some (.cells cs (some es))):=⟨rfl,(lh _).symm,ab,.inr h3,h⟩
end
section
open Go.RowKit
variable {P:Program}
mutual
def fits (P:Program):Nat→TypeId→DataW Unit→al→Bool
 | 0,_,_,_=>false
 | k+1,t,d,ls =>
   match P.underlying t,d,ls with
   | some .bool,.lit (.bool b),[.bool b']=>b == b'
   | some (.int q),.lit (.int _ n),[.int q' n']=>decide (q=q') && n == n'
   | some .string,.lit (.string bs),[.str s]=>bs == s
   | some (.struct fs),.agg ds,ls=>rK P k (P.cellsOf t) 0 fs.toList ds ls
   | some (.array n e),.agg ds,ls=>decide (n * P.cellsOf e=P.cellsOf t) && decide (ds.length=n) && uV P k e (P.cellsOf e) ds ls
   | _,_,_=>false
def rK (P:Program):Nat→Nat→Nat→List Field→List (DataW Unit)→al→Bool
 | 0,_,_,_,_,_=>false
 | k+1,total,off,[],[],ls=>decide (off=total) && ls.isEmpty
 | k+1,total,off,f::fs,d::ds,ls=>decide (f.offset=off) && (match cut ls 0 (P.cellsOf f.type) with | some c=>fits P k f.type d c | none=>false) && rK P k total (off+P.cellsOf f.type) fs ds (ls.drop (P.cellsOf f.type))
 | _,_,_,_,_,_=>false
def uV (P:Program):Nat→TypeId→Nat→List (DataW Unit)→al→Bool
 | 0,_,_,_,_=>false
 | k+1,e,n,[],ls=>ls.isEmpty
 | k+1,e,n,d::ds,ls=>(match cut ls 0 n with | some c=>fits P k e d c | none=>false) && uV P k e n ds (ls.drop n)
end
theorem JT {ls c:al} {n:Nat} (h:cut ls 0 n=some c):ls=c++ls.drop n:=by
 obtain⟨h1,h2⟩:=kB _ _ _ _ h;have hlen:n≤ls.length:=by
  rcases Nat.eq_zero_or_pos n with e | e
  ·omega
  ·have:=h2 (n - 1) ab;rw [cq ab] at this;have:=(bU.1 this.symm).1;omega
 have:c=ls.take n:=by
  apply List.ext_getElem?;intro i;by_cases hi:i < n
  ·rw [h2 i hi,List.getElem?_take_of_lt hi]; simp
  ·rw [gO ab,gO ke]
 rw [this,List.take_append_drop]
theorem VV {r:Ren} {w:World} {sp:Nat→Bool}:∀ k,
  (∀ (t:TypeId) (d:DataW Unit) (ls:al),fits P k t d ls=true→∀ (m:Nat) (vs:List Value) (ps:List MemPlace),DataW.trod (fun _=>()) P w 0 sp false m t vs=some (d,ps)→VRs r ls vs) ∧
  (∀ (total off:Nat) (fs:List Field) (ds:List (DataW Unit)) (ls:al),rK P k total off fs ds ls=true→∀ (m:Nat) (vs:List Value) (xs:List (DataW Unit×List MemPlace)),vs.length=total→ds=xs.map (·.1) →
   (∀ (i:Nat) (f:Field),fs[i]? = some f→DataW.trod (fun _=>()) P w 0 sp false m f.type ((vs.drop f.offset).take (P.cellsOf f.type))=xs[i]?)→VRs r ls (vs.drop off)) ∧
  (∀ (e:TypeId) (n:Nat) (ds:List (DataW Unit)) (ls:al),uV P k e n ds ls=true→∀ (m j:Nat) (vs:List Value) (xs:List (DataW Unit×List MemPlace)),vs.length=(j+ds.length) * n→ds=xs.map (·.1) →
   (∀ (i:Nat),i < ds.length→DataW.trod (fun _=>()) P w 0 sp false m e ((vs.drop ((j+i) * n)).take n)=xs[i]?)→VRs r ls (vs.drop (j * n))):=by
 intro k
 induction k with
 | zero=>exact⟨fun t d ls h=>by simp [fits] at h,fun _ _ _ _ ls h=>by simp [rK] at h,fun _ _ _ ls h=>by simp [uV] at h⟩
 | succ k ih =>
   obtain⟨ih1,ih2,ih3⟩:=ih;refine⟨fun t d ls h m vs ps hd=>?_,fun total off fs ds ls h m vs xs hl hx hf=>?_,fun e n ds ls h m j vs xs hl hx hf=>?_⟩
   ·unfold fits at h;split at h
    ·rename_i b b' e1;obtain⟨c,rfl,e2⟩:=DataW.trod_bool e1 hd;simp at e2 h;obtain⟨rfl,_⟩:=e2;subst h;simp [VRs,VR]
    ·rename_i q q0 n q' n' e1;obtain⟨z,rfl,e2,_⟩:=DataW.trod_int e1 hd;simp at e2 h;obtain⟨⟨_,rfl⟩,_⟩:=e2;obtain⟨rfl,rfl⟩:=h;simp [VRs,VR]
    ·rename_i bs s e1;obtain⟨z,rfl,e2,_⟩:=DataW.trod_string e1 hd;simp at e2 h;obtain⟨rfl,_⟩:=e2;subst h;simp [VRs,VR]
    ·rename_i fs ds e1;obtain⟨xs,n,rfl,e2,e3,e4,e5⟩:=DataW.trod_struct e1 hd;simp at e2;have:=ih2 _ 0 fs.toList ds _ h n vs xs e3 e2.1 (fun i f hf=>e5 i f (by simpa using hf));simpa using this
    ·rename_i n e ds e1;obtain⟨xs,m',rfl,e2,e3,e4,e5⟩:=DataW.trod_array e1 hd;simp at e2;simp only [bg,cu] at h;obtain⟨⟨h1,h2⟩,h3⟩:=h;have:=ih3 e (P.cellsOf e) ds _ h3 m' 0 vs xs (by rw [e3,← h1,h2]; simp) e2.1 (fun i hi=>by simpa using e5 i ab);simpa using this
    ·cases h
   ·cases fs with
    | nil =>
      cases ds with
      | cons d ds=>simp [rK] at h
      | nil =>
        simp only [rK,bg,cu,List.isEmpty_iff] at h;obtain⟨h1,h2⟩:=h;subst h2 h1;rw [mo ab]; simp [VRs]
    | cons f fs =>
      cases ds with
      | nil=>simp [rK] at h
      | cons d ds =>
        simp only [rK,bg,cu] at h;obtain⟨⟨h1,h2⟩,h3⟩:=h;cases xs with
        | nil=>simp at hx
        | cons x xs =>
          simp at hx;obtain⟨rfl,rfl⟩:=hx;cases hc:cut ls 0 (P.cellsOf f.type) with
          | none=>simp [hc] at h2
          | some c =>
            simp only [hc] at h2;have e0:=hf 0 f rfl;rw [h1] at e0;obtain⟨x1,x2⟩:=x;have a1:=ih1 f.type x1 c h2 m _ x2 (by simpa using e0);have a2:=ih2 total (off+P.cellsOf f.type) fs (xs.map (·.1)) (ls.drop (P.cellsOf f.type)) h3 m vs xs hl rfl (fun i g hg=>by simpa using hf (i+1) g (by simpa using hg));rw [JT hc,← List.take_append_drop (P.cellsOf f.type) (vs.drop off)];refine a1.append ?_;rw [List.drop_drop]; exact a2
   ·cases ds with
    | nil =>
      simp only [uV,List.isEmpty_iff] at h;subst h;rw [mo (by simp at hl; omega)]; simp [VRs]
    | cons d ds =>
      simp only [uV,bg] at h;obtain⟨h2,h3⟩:=h;cases xs with
      | nil=>simp at hx
      | cons x xs =>
        simp at hx;obtain⟨rfl,rfl⟩:=hx;cases hc:cut ls 0 n with
        | none=>simp [hc] at h2
        | some c =>
          simp only [hc] at h2;have e0:=hf 0 aC;obtain⟨x1,x2⟩:=x;have a1:=ih1 e x1 c h2 m _ x2 (by simpa using e0);have a2:=ih3 e n (xs.map (·.1)) (ls.drop n) h3 m (j+1) vs xs (by rw [hl]; congr 1; simp; omega) rfl (fun i hi=>by
           have:=hf (i+1) (by simp at hi ⊢; omega);rw [show j+(i+1)=j+1+i by omega] at this;simpa using this)
          rw [JT hc,← List.take_append_drop n (vs.drop (j * n))];refine a1.append ?_;rw [List.drop_drop,show j * n+n=(j+1) * n by rw [pI]]; exact a2
mutual
def tp:DataW Unit→al
 | .lit (.bool b)=>[.b b]
 | .lit (.int k n)=>[.int k n]
 | .lit (.string bs)=>[.str bs]
 | .agg ds=>Ig ds
 | _=>[]
def Ig:List (DataW Unit)→al
 | []=>[]
 | d::ds=>tp d++Ig ds
end
def D3 (P:Program):List (String×DataW Unit)→List (Nat×al)→Bool
 | [],[]=>true
 | (n,d)::l,(g,ls)::r=>(match P.globalNamed n with
   | some g'=>Nat.beq g g' && (match (P.globals[g]?).map (·.type) with | some t=>fits P 100 t d ls | none=>false)
   | none=>false) && tR ls && D3 P l r
 | _,_=>false
theorem Gl_of_laid {W:World}:∀ {l:List (String×DataW Unit)} {g:List (Nat×al)} {ps:List MemPlace},D3 P l g=true→DataW.LaidVars P W l ps→Gl W g
 | [],[],ps,h,hl=>fun x hx=>by cases hx
 | (n,d)::l,(g,ls)::r,ps,h,hl=>by
   obtain⟨g1,t,cs,fuel,p,q,h1,h2,h3,h4,h5,h6⟩:=hl;simp only [D3,bg,h1] at h;obtain⟨⟨⟨k1,k2⟩,k3⟩,k4⟩:=h;have:g=g1:=by simpa [b7] using k1
   subst this;rw [h2] at k2;simp only at k2;intro x hx;rcases eT.1 hx with hx | hx
   ·subst hx;have hvr:=fun r=>((VV (P:=P) (r:=r) (w:=W) (sp:=fun _=>true) 100).1 t d ls k2 fuel cs.toList p h4)
    simp only [World.var?,h1,Option.bind_some] at h3;split at h3
    ·rename_i cc e f hc;cases h3;refine .inr ⟨cs,e,f,hc,fun i lv hi=>⟨Bc k3 _ (fS hi),?_⟩⟩;obtain⟨u,q1,q2⟩:=(hvr (fun _=>none)).get hi;refine⟨u,by simpa using q1,fun r=>?_⟩;obtain⟨u',q1',q2'⟩:=(hvr r).get hi;rw [q1] at q1'; cases q1';exact q2'
    ·cases h3
   ·exact Gl_of_laid k4 h5 x hx
end
section
open Go.RowKit
section
variable {P:Program}
def s5:List ResultVar→Nat→Nat→Bool
 | [.cell b u],a,t=>Nat.beq b a && Nat.beq u t
 | _,_,_=>false
theorem Vu:∀ {r:List ResultVar} {a t:Nat},s5 r a t=true→r=[.cell a t]
 | [.cell b u],a,t,h=>by
   simp only [s5,bg] at h;rw [bt h.1,bt h.2]
 | [],_,_,h=>by simp [s5] at h
 | [.tmp _],_,_,h=>by simp [s5] at h
 | .tmp _::_::_,_,_,h=>by simp [s5] at h
 | .cell _ _::_::_,_,_,h=>by simp [s5] at h
def HJ (P:Program) (f nt a t:Nat) (na:Nat):Bool:=match P.funcs[f]? with
 | some fn=>(match fn.body with | some _=>Nat.beq fn.ntmps nt && Nat.ble na nt && s5 fn.results.toList a t | none=>false)
 | none=>false
def Nr (P:Program) (n0 a t:Nat) (L:List Nat) (g:aL) (Q:LV→a9→Prop):Pk:=fun x vs bs g'=>uX x∧g'=g∧∃ (b:Nat) (cs:al) (op:Option Nat) (v l0:LV) (b0:a9) (ρ : List Src),kY L vs a=.ptr b 0∧bs[b]? = some (some (.cells cs op))∧h_ P t cs 0=some v∧Q l0 b0∧gJ n0 1 [0] [v] bs ρ [(0,l0)] b0
theorem KI {s:St} {b:Nat} {cs:al} {op:Option Nat} (h:(fK s)[b]? = some (some (.cells cs op))):s.look b=some cs:=by
 rw [fK,yF] at h;split at h
 ·rw [bV] at h;rw [St.look,Option.some.inj h]
 ·cases h
theorem a0j.i4e {f:Nat} {args:al} {bs:a9} {g:aL} {Q:LV→a9→Prop} (nt n0 a t:Nat) (L:List Nat) (hf:HJ P f nt a t args.length=true) (hn0:bs.length=n0) (ht:(ib args 0 .leaf).isSome=true)
  (hin:lM a L=false) (h:SSp P nt ((sp P f).drop 0) n0 (cO args) (ai bs g) (vK L (Nr P n0 a t L g Q))):a0j P f args (ai bs g) fun l s'=>∃ b0,Q l b0∧s'=ai b0 g:=by
 have ht':ib args 0 .leaf=some (cO args):=by
  unfold cO;cases hi:ib args 0 .leaf with
  | none=>rw [hi] at ht; cases ht
  | some t=>rfl
 obtain⟨fn,c,h1,h2,h3,h4,h5⟩:∃ fn c,P.funcs[f]? = some fn∧fn.body=some c∧fn.ntmps=nt∧args.length≤nt∧fn.results.toList=[.cell a t]:=by
  unfold HJ at hf;split at hf
  ·rename_i fn h1;split at hf
   ·rename_i c h2;simp only [bg] at hf;exact⟨fn,c,h1,h2,bt hf.1.1,aS hf.1.2,Vu hf.2⟩
   ·cases hf
  ·cases hf
 have hnt:p9 P f=nt:=by simp only [p9,h1,h3]
 have hres:qh P f=[.cell a t]:=by simp only [qh,h1,h5]
 have h1':a0j P f args (ai bs g) fun l s'=>s'.g=g∧∃ l0 b0 ρ,Q l0 b0∧gJ (ai bs g).n 1 [0] [l] (fK s') ρ [(0,l0)] b0:=by
  refine a0j.i3b ⟨fn,c,h1,h2,dh ab⟩ ht' ?_;rw [List.drop_zero] at h;rw [hnt,hn0];refine SSp.mono (fun x tm' s' k=>?_) h;obtain⟨k1,k2,b,cs,op,v,l0,b0,ρ,k3,k4,k5,k6,k7⟩:=k;rw [yp hin] at k3;have hl:n_ P s' t b 0=some v:=by rw [n_,KI k4]; exact k5
  refine⟨k1,[v],?_,k2,l0,b0,ρ,k6,by rw [cN,hn0]; exact k7⟩;rw [hres];simp only [gm,k3,hl]
 refine a0j.conv h1' fun l s' ⟨e,l0,b0,ρ,q,k⟩=>?_
 exact BI
theorem a0n.i3x {nt n0:Nat} {c:Code} {tm:Tm} {s:St} {Q:LX→Tm→St→Prop} (h:SSp P nt ((cG c).drop 0) n0 tm s Q):a0n P nt c n0 tm s Q:=a0n.i3u h
def Q8 (t:Nat):Operand→Bool
 | .tmp u=>Nat.beq u t
 | _=>false
theorem a0n.ways {nt n0 t:Nat} {c:Code} {tm:Tm} {s:St} {Q:LX→Tm→St→Prop} {q:Bool} (hc:(DZ c && Q8 t (zT c))=true) (hq:aQ tm t=.b q) (h1:q=true→a0n P nt (jS c) n0 tm s Q) (h2:q=false→a0n P nt (jR c) n0 tm s Q):a0n P nt c n0 tm s Q:=by
 rw [bg] at hc;rw [KX hc.1];refine a0n.cnd ?_ h1 h2;cases ho:zT c with
 | tmp u =>
   rw [ho] at hc;have:=bt hc.2;subst this;rw [f9,hq]
 | const v=>rw [ho] at hc; cases hc.2
 | func f=>rw [ho] at hc; cases hc.2
 | global g=>rw [ho] at hc; cases hc.2
end
end
section
open Go.RowKit
section
variable {A B:Prop}
theorem MO {a b:Nat} (k:A) (h:a≤b:=by omega):cond (ag a b) A B:=oo (aO h) k
theorem MN {a b:Nat} (k:B) (h:b < a:=by omega):cond (ag a b) A B:=po (uS h) k
theorem MM {a b:Nat} (k:A) (h:a=b:=by omega):cond (bR a b) A B:=oo (n7 h) k
theorem ML {a b:Nat} (k:B) (h:a≠b:=by omega):cond (bR a b) A B:=po (Nt h) k
theorem MK {a:Nat} (k:A) (h:a=0:=by omega):cond (xz a) A B:=oo (MV h) k
theorem MJ {a:Nat} (k:B) (h:a≠0:=by omega):cond (xz a) A B:=po (Uo h) k
theorem MI {a:Int} (k:A) (h:0≤a:=by omega):cond (b9 a) A B:=oo (PP h) k
theorem MH {x y:Int} (k:A) (h:x < y:=by omega):cond (ad .lss x y) A B:=oo (ga h) k
theorem MG {x y:Int} (k:B) (h:y≤x:=by omega):cond (ad .lss x y) A B:=po (f_ h) k
theorem MF {x y:Int} (k:A) (h:x≤y:=by omega):cond (ad .leq x y) A B:=oo (dX h) k
theorem ME {x y:Int} (k:B) (h:y < x:=by omega):cond (ad .leq x y) A B:=po (tn h) k
theorem MD {x y:Int} (k:A) (h:y < x:=by omega):cond (ad .gtr x y) A B:=oo (iR h) k
theorem MC {x y:Int} (k:B) (h:x≤y:=by omega):cond (ad .gtr x y) A B:=po (ia h) k
theorem MB {x y:Int} (k:A) (h:y≤x:=by omega):cond (ad .geq x y) A B:=oo (qn h) k
theorem MA {x y:Int} (k:B) (h:x < y:=by omega):cond (ad .geq x y) A B:=po (qk h) k
theorem Mz {x y:Int} (k:A) (h:x=y:=by omega):cond (ad .eql x y) A B:=oo (cD h) k
theorem My {x y:Int} (k:B) (h:x≠y:=by omega):cond (ad .eql x y) A B:=po (cF h) k
theorem Mx {x y:Int} (k:A) (h:x≠y:=by omega):cond (ad .neq x y) A B:=oo (kA h) k
theorem Mw {x y:Int} (k:B) (h:x=y:=by omega):cond (ad .neq x y) A B:=po (lN h) k
theorem Mv (k:A):cond true A B:=k
theorem Mu (k:B):cond false A B:=k
theorem Mt (k:A):cond (bu false) A B:=k
theorem Mr (k:B):cond (bu true) A B:=k
theorem Mq {c:Bool} (k:A) (h:c=true:=by assumption):cond c A B:=oo h k
theorem Mp {c:Bool} (k:B) (h:c=false:=by assumption):cond c A B:=po h k
end
section
variable {ρ : a4c} {c c' b o n m es:Nat} {cs cs0:al} {op:Option Nat} {M:Option LB}
theorem Bx (h:a1u cs=true:=by first | assumption | exact iu (fun _=>rfl) _ | exact yr (fun _=>rfl) _ _ | rfl):LBW ρ (.id c) (.cells cs op) (some (.cells cs op)):=be h
theorem Bw (h:a1u cs=true:=by first | assumption | exact iu (fun _=>rfl) _ | exact yr (fun _=>rfl) _ _ | rfl):LBW ρ (.id c) (.ro cs) (some (.ro cs)):=pm h
theorem Bv (h:a7h ρ cs0 cs) (k:LV.any ∉ cs0:=by simp):LBW ρ (.id c) (.cells cs0 op) (some (.cells cs op)):=dF h k
theorem Bu (h:cs.length=n * es:=by assumption) (k:a1u cs=true:=by first | assumption | exact iu (fun _=>rfl) _ | exact yr (fun _=>rfl) _ _ | rfl):LBW ρ (.cap c 0 n) (.cells cs (some es)) (some (.cells cs none)):=I_ h k
theorem Bt (h : ρ b=some (.id c):=by rfl):LVW ρ (.ptr b o) (.ptr c o):=gM h
theorem Bs (h : ρ b=some (.id c):=by rfl):LVW ρ (.slo b o n m) (.slo c o n m):=bC h
theorem Br (h : ρ b=some (.id c):=by rfl):LVW ρ (.sl b o n m) (.sl c o n m):=qD h
theorem Bq {l:LV} (h:b4m l=true:=by rfl):LVW ρ l l:=cY h
theorem Bp (h : ρ b=some (.cap c c' n):=by rfl):LVW ρ (.slo b 0 n 0) (.sl c c' n n):=jA h (aR _)
end
section
theorem zE {P:Program} {cx:Cx} (hcx:cT P (cv cx)) {nt n0:Nat} {l:List Code} {i:Nat} {tm:Tm} {s:St} {L:List Nat} {Φ : Pk} (h:bc P cx 60 nt (l.drop i) tm s (vK L Φ)) (hn:n0≤s.n:=by exact bh (aS rfl)):SSp P nt (l.drop i) n0 tm s (vK L Φ):=SSp.last hcx hn h
theorem MP {G:Prop} (h:G:=by((repeat refine aV (by(first | exact oG | exact cH | exact ir | exact gM rfl | exact bC rfl | exact sm | exact oH | exact xy | exact sg | exact oJ | exact sn | exact qD rfl | exact si | exact sk | exact cY rfl | exact jA rfl (aR _) | exact jA rfl ab | assumption | exact pu (by((repeat refine aV (by(first | exact oG | exact cH | exact ir | exact gM rfl | exact bC rfl | exact sm | exact oH | exact xy | exact sg | exact oJ | exact sn | exact qD rfl | exact si | exact sk | exact cY rfl | exact jA rfl (aR _) | exact jA rfl ab | assumption)) ?_); exact cA)))) ?_); exact cA)):G:=h
theorem MS {G:Prop} (h:G:=by(first | assumption | exact yr (fun _=>rfl) _ _ | exact iu (fun _=>rfl) _ | rfl)):G:=h
theorem zC {G:Prop} (h:G:=by(refine⟨ak,?_,?_⟩ <;> repeat first | exact jC | refine jE ?_ ?_ | exact jD | refine jF ?_ ?_ | exact cA | refine aV ?_ ?_ | exact eD | exact Bx | exact Bw | exact EA | exact jB | exact Bo | refine Bv ?_ | exact Bu | exact oG | exact cH | exact ir | exact Bt | exact Bs | exact oH | exact xy | exact oJ | exact Br | exact Bq | exact Bp | refine pu ?_ | refine tJ ?_ | refine z7 ?_ | assumption)):G:=h
theorem zD {G:Prop} (h:G:=by(refine⟨ak,?_,?_⟩ <;> repeat first | exact jC | refine jE ?_ ?_ | exact jD | refine jF ?_ ?_ | exact cA | refine aV ?_ ?_ | exact eD | exact Bx | exact Bw | exact EA | exact jB | refine Vb aC aC ?_ aC | refine V0 aC ?_ aC | exact Xj rfl | exact Bo | refine Bv ?_ | exact Bu | exact oG | exact cH | exact ir | exact Bt | exact Bs | exact oH | exact xy | exact oJ | exact Br | exact Bq | exact Bp | refine pu ?_ | refine tJ ?_ | refine z7 ?_ | assumption)):G:=h
structure ZB (R:Prop):Prop where
 out:R
theorem zR {P R:Prop} (h:R) (t:ZB R→P:=by(intro hh; (with_reducible repeat first | refine MO ?_ | refine MN ?_ | refine MM ?_ | refine ML ?_ | refine MK ?_ | refine MJ ?_ | refine MI ?_ | refine MH ?_ | refine MG ?_ | refine MF ?_ | refine ME ?_ | refine MD ?_ | refine MC ?_ | refine MB ?_ | refine MA ?_ | refine Mz ?_ | refine My ?_ | refine Mx ?_ | refine Mw ?_ | refine Mv ?_ | refine Mu ?_ | refine Mt ?_ | refine Mr ?_ | refine Mq ?_ | refine Mp ?_); exact hh.out)):P:=t ⟨h⟩
theorem v9 {F0 F1 P R:Prop} (f0:F0) (f1:F1) (h:R) (t:F0→F1→ZB R→P:=by(intro f0 f1 hh; simp only [ct,fj,fm,cC,bP,cm,b_,bV,cU,cz,cf,fk,fi,eA,fo,dS,fp,bD,aw,ej,eh,fr,fq,eU,lh,f0,f1]; exact hh.out)):P:=t f0 f1 ⟨h⟩
theorem v8 {F0 F1 F2 P R:Prop} (f0:F0) (f1:F1) (f2:F2) (h:R) (t:F0→F1→F2→ZB R→P:=by(intro f0 f1 f2 hh; simp only [ct,fj,fm,cC,bP,cm,b_,bV,cU,cz,cf,fk,fi,eA,fo,dS,fp,bD,aw,ej,eh,fr,fq,eU,lh,f0,f1,f2]; exact hh.out)):P:=t f0 f1 f2 ⟨h⟩
theorem Gb {F0 F1 F2 F3 P R:Prop} (f0:F0) (f1:F1) (f2:F2) (f3:F3) (h:R) (t:F0→F1→F2→F3→ZB R→P:=by(intro f0 f1 f2 f3 hh; simp only [ct,fj,fm,cC,bP,cm,b_,bV,cU,cz,cf,fk,fi,eA,fo,dS,fp,bD,aw,ej,eh,fr,fq,eU,lh,f0,f1,f2,f3]; exact hh.out)):P:=t f0 f1 f2 f3 ⟨h⟩
theorem MR {F0 F1 F2 F3 F4 P R:Prop} (f0:F0) (f1:F1) (f2:F2) (f3:F3) (f4:F4) (h:R) (t:F0→F1→F2→F3→F4→ZB R→P:=by(intro f0 f1 f2 f3 f4 hh; simp only [ct,fj,fm,cC,bP,cm,b_,bV,cU,cz,cf,fk,fi,eA,fo,dS,fp,bD,aw,ej,eh,fr,fq,eU,lh,f0,f1,f2,f3,f4]; exact hh.out)):P:=t f0 f1 f2 f3 f4 ⟨h⟩
theorem MQ {F0 F1 F2 F3 F4 F5 P R:Prop} (f0:F0) (f1:F1) (f2:F2) (f3:F3) (f4:F4) (f5:F5) (h:R) (t:F0→F1→F2→F3→F4→F5→ZB R→P:=by(intro f0 f1 f2 f3 f4 f5 hh; simp only [ct,fj,fm,cC,bP,cm,b_,bV,cU,cz,cf,fk,fi,eA,fo,dS,fp,bD,aw,ej,eh,fr,fq,eU,lh,f0,f1,f2,f3,f4,f5]; exact hh.out)):P:=t f0 f1 f2 f3 f4 f5 ⟨h⟩
end
abbrev ck (c:Bool) (p:Prop):Prop:=bif c then p else False
abbrev sC (cs:al) (n:Nat):Option LB:=some (.cells cs (some n))
abbrev sN (cs:al):Option LB:=some (.cells cs none)
abbrev sD:Option LB:=some .dead
end
section
open Go.RowKit
section
variable {P:Program}
def resEq:List ResultVar→List ResultVar→Bool
 | [],[]=>true
 | .tmp t::r,.tmp u::q=>Nat.beq t u && resEq r q
 | .cell a t::r,.cell b u::q=>Nat.beq a b && Nat.beq t u && resEq r q
 | _,_=>false
theorem Fh:∀ {r q:List ResultVar},resEq r q=true→r=q
 | [],[],_=>rfl
 | .tmp t::r,.tmp u::q,h=>by
   simp only [resEq,bg] at h;rw [bt h.1,Fh h.2]
 | .cell a t::r,.cell b u::q,h=>by
   simp only [resEq,bg] at h;rw [bt h.1.1,bt h.1.2,Fh h.2]
 | [],.tmp _::_,h=>by simp [resEq] at h
 | [],.cell _ _::_,h=>by simp [resEq] at h
 | .tmp _::_,[],h=>by simp [resEq] at h
 | .cell _ _::_,[],h=>by simp [resEq] at h
 | .tmp _::_,.cell _ _::_,h=>by simp [resEq] at h
 | .cell _ _::_,.tmp _::_,h=>by simp [resEq] at h
def HK (P:Program) (f nt:Nat) (rs:List ResultVar) (na:Nat):Bool:=match P.funcs[f]? with
 | some fn=>(match fn.body with | some _=>Nat.beq fn.ntmps nt && Nat.ble na nt && resEq fn.results.toList rs | none=>false)
 | none=>false
def u0 (L:List Nat):List ResultVar→Bool
 | []=>true
 | .tmp t::r=>!(lM t L) && u0 L r
 | .cell a _::r=>!(lM a L) && u0 L r
def s4 (P:Program) (L:List Nat) (vs:al) (bs:bE):List ResultVar→Option al
 | []=>some []
 | .tmp t::r=>(match s4 P L vs bs r with | some l=>some (kY L vs t::l) | none=>none)
 | .cell a t::r=>(match kY L vs a,s4 P L vs bs r with
   | .ptr b o,some l=>(match bs[b]? with
     | some (some (.cells cs op))=>(match h_ P t cs o with | some v=>some (v::l) | none=>none)
     | _=>none)
   | _,_=>none)
theorem EJ {L:List Nat} {tm:Tm} {s:St}:∀ {rs:List ResultVar} {l:al},u0 L rs=true→s4 P L (iU L tm) (fK s) rs=some l→gm P (aQ tm) s rs=some l
 | [],l,_,h=>by simpa [s4,gm] using h
 | .tmp t::r,l,hi,h=>by
   simp only [u0,bg,pM] at hi;simp only [s4] at h;split at h
   ·rename_i l' hl;rw [yp hi.1] at h;simp only [gm,EJ hi.2 hl]; exact h
   ·cases h
 | .cell a t::r,l,hi,h=>by
   simp only [u0,bg,pM] at hi;simp only [s4] at h;split at h
   ·rename_i b o l' hp hl;rw [yp hi.1] at hp;split at h
    ·rename_i cs op hb;split at h
     ·rename_i v hv;have hl2:n_ P s t b o=some v:=by rw [n_,KI hb]; exact hv
      simp only [gm,hp,EJ hi.2 hl,hl2]; exact h
     ·cases h
    ·cases h
   ·cases h
def Ns (P:Program) (n0:Nat) (rs:List ResultVar) (L:List Nat) (g:aL) (Q:LV→a9→Prop):Pk:=fun x vs bs g'=>uX x∧g'=g∧∃ (l:al) (l0:LV) (b0:a9) (ρ : List Src),s4 P L vs bs rs=some l∧Q l0 b0∧gJ n0 1 [0] [mj l] bs ρ [(0,l0)] b0
theorem a0j.i4j {f:Nat} {args:al} {bs:a9} {g:aL} {Q:LV→a9→Prop} (nt n0:Nat) (rs:List ResultVar) (L:List Nat) (hf:HK P f nt rs args.length=true) (hn0:bs.length=n0) (ht:(ib args 0 .leaf).isSome=true)
  (hin:u0 L rs=true) (h:SSp P nt ((sp P f).drop 0) n0 (cO args) (ai bs g) (vK L (Ns P n0 rs L g Q))):a0j P f args (ai bs g) fun l s'=>∃ b0,Q l b0∧s'=ai b0 g:=by
 have ht':ib args 0 .leaf=some (cO args):=by
  unfold cO;cases hi:ib args 0 .leaf with
  | none=>rw [hi] at ht; cases ht
  | some t=>rfl
 obtain⟨fn,c,h1,h2,h3,h4,h5⟩:∃ fn c,P.funcs[f]? = some fn∧fn.body=some c∧fn.ntmps=nt∧args.length≤nt∧fn.results.toList=rs:=by
  unfold HK at hf;split at hf
  ·rename_i fn h1;split at hf
   ·rename_i c h2;simp only [bg] at hf;exact⟨fn,c,h1,h2,bt hf.1.1,aS hf.1.2,Fh hf.2⟩
   ·cases hf
  ·cases hf
 have hnt:p9 P f=nt:=by simp only [p9,h1,h3]
 have hres:qh P f=rs:=by simp only [qh,h1,h5]
 have h1':a0j P f args (ai bs g) fun l s'=>s'.g=g∧∃ l0 b0 ρ,Q l0 b0∧gJ (ai bs g).n 1 [0] [l] (fK s') ρ [(0,l0)] b0:=by
  refine a0j.i3b ⟨fn,c,h1,h2,dh ab⟩ ht' ?_;rw [List.drop_zero] at h;rw [hnt,hn0];refine SSp.mono (fun x tm' s' k=>?_) h;obtain⟨k1,k2,l,l0,b0,ρ,k5,k6,k7⟩:=k;refine⟨k1,l,?_,k2,l0,b0,ρ,k6,by rw [cN,hn0]; exact k7⟩;rw [hres];exact EJ hin k5
 refine a0j.conv h1' fun l s' ⟨e,l0,b0,ρ,q,k⟩=>?_
 exact BI
end
end
section
open Go.RowKit
variable {P:Program}
noncomputable def q9 (P:Program) (ctr:sq) (n nt:Nat):List Code→Tm→St→Option (LX×Tm×St)
 | [],tm,s=>some (.normal,tm,s)
 | c::l,tm,s=>match dI P ctr n nt c tm s with
   | some (.normal,tm',s')=>q9 P ctr n nt l tm' s'
   | r=>r
theorem SSp.lrun {cx:Cx} (hcx:cT P (cv cx)) {n nt n0:Nat}:∀ {l:List Code} {tm:Tm} {s:St} {x:LX} {tm':Tm} {s':St} {Q:LX→Tm→St→Prop},n0≤s.n→q9 P (cv cx) n nt l tm s=some (x,tm',s')→Q x tm' s'→SSp P nt l n0 tm s Q
 | [],tm,s,x,tm',s',Q,hn,h,hq=>by
   simp only [q9,a8,bn] at h;obtain⟨rfl,rfl,rfl⟩:=h;exact hq
 | c::l,tm,s,x,tm',s',Q,hn,h,hq=>by
   intro W0 r a w hI hA K hK;rw [q9] at h;cases hc:dI P (cv cx) n nt c tm s with
   | none=>rw [hc] at h; cases h
   | some p =>
     obtain⟨y,tm1,s1⟩:=p;rw [hc] at h;refine(qI hcx n).1 W0 nt c tm tm1 s s1 y hc r a w hI hA K fun r' a' w' k1 k2 k3=>hK y tm1 s1 r' a' w' ?_ k1 (c0w.of k2 hn) k3
     cases y with
     | normal=>exact SSp.lrun hcx (kc hn k2.n) h hq
     | exit id =>
       simp only [a8,bn] at h;obtain⟨rfl,rfl,rfl⟩:=h;exact hq
     | ret =>
       simp only [a8,bn] at h;obtain⟨rfl,rfl,rfl⟩:=h;exact hq
end
section
open Go.RowKit
variable {P:Program}
theorem FG (p:Nat→Prop):∀ N:Nat,∃ m:Nat,∀ B,m.testBit B=true↔(B < N∧p B)
 | 0=>⟨0,fun B=>by simp⟩
 | N+1=>by
   obtain⟨m,hm⟩:=FG p N;by_cases h:p N
   ·refine⟨m ||| 2 ^ N,fun B=>?_⟩;rw [Nat.testBit_or,su,lV,hm B,cu];constructor
    ·rintro(⟨h1,h2⟩ | rfl)
     ·exact⟨ab,h2⟩
     ·exact⟨ab,h⟩
    ·rintro⟨h1,h2⟩
     rcases t7.1 h1 with h3 | rfl
     ·exact .inl ⟨h3,h2⟩
     ·exact .inr rfl
   ·refine⟨m,fun B=>?_⟩;rw [hm B];constructor
    ·rintro⟨h1,h2⟩; exact⟨ab,h2⟩
    ·rintro⟨h1,h2⟩
     rcases t7.1 h1 with h3 | rfl
     ·exact⟨h3,h2⟩
     ·exact absurd h2 h
theorem Inv.local {W0:World} {r:Ren} {s:St} {w w':World} (h:Inv W0 r s w) (hb:Below W0.heap.size W0 w') (hs:w.heap.size≤w'.heap.size) (hk:∀ B,a4j r s B→w'.heap[B]? = w.heap[B]?):Inv W0 r s w' :=
 ⟨hb,fun b x e=>⟨(h.dom b x e).1,mt (h.dom b x e).2 hs⟩,h.own,h.fresh,h.inj,
  fun b cs op e=>(h.cells b cs op e).imp id fun⟨x,h1,h2⟩=>⟨x,h1,h2.mono r.le_refl (hk _ (.inl ⟨b,x,⟨_,e,rfl⟩,h1,rfl⟩))⟩,
  fun b t p e=>let ⟨x,h1,h2,h3⟩:=h.iter b t p e; ⟨x,h1,h2,by rw [hk _ (.inl ⟨b,x,⟨_,e,rfl⟩,h1,rfl⟩)]; exact h3⟩,h.gl,h.ro,
  h.ob.step r.le_refl (fun _ _ _ _ k=>k) (fun _ _ k1 k2=>.inl ⟨k1,k2⟩) hs fun B hB=>hk B (.inr hB)⟩
structure Kd where
 σ : Type
 enc : σ→al
 sh : σ→Nat→Nat→LB×a9
def Kd.bs (K:Kd) (v:K.σ) (b k:Nat):a9:=(K.sh v b k).1::(K.sh v b k).2
def Kd.F (K:Kd):OP:=⟨0,fun cs W0 w x own=>∃ v:K.σ,cs=K.enc v∧∃ r,Inv W0 r (ai (K.bs v 0 1)) w∧r 0=some x∧∀ B,own B↔a4j r (ai (K.bs v 0 1)) B,fun h=>absurd h iZ,fun h=>absurd h iZ⟩
structure Kd.Ok (K:Kd):Prop where
 re:∀ v b k b' k' (ρ : a4c),ρ b=some (.id b')→(∀ i,i < (K.sh v b k).2.length→ρ (k+i)=some (.id (k'+i)))→kZ ρ (K.bs v b k) (K.bs v b' k')
 root:∀ v b k,∃ c cs op,(K.sh v b k).1=.cells (c::cs) op
theorem Kd.Ok.len {K:Kd} (h:K.Ok) (v:K.σ) (b k b' k':Nat) (hb:b < k):(K.sh v b k).2.length=(K.sh v b' k').2.length:=by
 have:=(vS (h.re v b k b' k' (fun t=>if t=b then some (.id b') else some (.id (k'+(t - k)))) aC fun i _=>by
  rw [av ab]; congr 3; omega)).1
 simpa [Kd.bs] using this
theorem Inv.unpack {W0:World} {r:Ren} {bs:a9} {g:aL} {w:World} {K:Kd} (hK:K.Ok) (hI:Inv W0 r (ai bs g) w) {b:Nat} {cs:al} {γ : Nat} (hb:bs[b]? = some (.obj K.F cs γ)) :
  ∃ v r',K.enc v=cs∧Inv W0 r' (ai (bs.set b (K.sh v b bs.length).1++(K.sh v b bs.length).2) g) w∧r.le r'∧∀ B,a4j r' (ai (bs.set b (K.sh v b bs.length).1++(K.sh v b bs.length).2) g) B→a4j r (ai bs g) B:=by
 have hbl:b < bs.length:=(bU.1 hb).1;have hg0:(ai bs g).h.get b=some (.obj K.F cs γ):=by rw [b8]; exact hb
 obtain⟨x,h1,h2,h3⟩:=hI.ob.holds b _ _ _ hg0;obtain⟨v,rfl,rc,hIc,hr0,hown⟩:=h3 w hI.below (aR _) fun _ _=>rfl
 have hlen:=hK.len v b bs.length 0 1 hbl
 let κ : Nat→Option Nat:=fun t=>if t=b then some 0 else if t < bs.length then none else some (1+(t - bs.length))
 have κb : κ b=some 0:=aB rfl;have κn:∀ t,t < bs.length→t≠b→κ t=none:=fun t q1 q2=>by simp only [κ,av q2,aB q1]
 have κh:∀ t,bs.length≤t→κ t=some (1+(t - bs.length)):=fun t q=>by simp only [κ,av (show ¬ t=b by omega),av (show ¬ t < bs.length by omega)]
 have κi:∀ t,κ t=none→t < bs.length∧t≠b:=fun t q=>by
  by_cases e:t=b
  ·subst e; rw [κb] at q; cases q
  ·rcases jH t bs.length with q1 | q1
   ·exact⟨q1,e⟩
   ·rw [κh t q1] at q; cases q
 have hle:r.le (fun t=>match κ t with | some i=>rc i | none=>r t):=fun t y hy=>by
  have ht:=(hI.dom t y hy).1;rw [cN] at ht;by_cases e:t=b
  ·subst e; simp only [κb,hr0]; rw [h1] at hy; exact hy
  ·simp only [κn t ht e]; exact hy
 have hre:=vS (hK.re v b bs.length 0 1 (fun t=>(κ t).map .id) (by simp only [κb,sx]) fun i _=>by
  rw [κh _ (Nat.le_add_right _ _)]; simp)
 have hfr:∀ B,a4j rc (ai (K.bs v 0 1)) B→a2w r (ai bs g) b B:=fun B hB=>.inr ⟨_,_,_,hg0,(hown B).2 hB⟩
 obtain⟨m1,m2,_⟩:=hI.mix (κ:=κ) (s':=ai (bs.set b (K.sh v b bs.length).1++(K.sh v b bs.length).2) g) hIc (aR _) hle (by simp only [cN,cg,mn]; omega)
  (fun t i hk y hy=>by
   have hd:=(hIc.dom i y hy).1;simp only [cN,Kd.bs,cZ,← hlen] at hd;simp only [cN,cg,mn];rcases jH t bs.length with q | q
   ·omega
   ·rw [κh t q] at hk; cases hk; omega)
  (fun t t' i hk hk'=>by
   simp only [κ] at hk hk';split at hk <;> split at hk' <;> (try split at hk) <;> (try split at hk') <;> simp at hk hk' <;> omega)
  (fun t i L' hk hL=>by
   rw [b8] at hL ⊢;have key:(K.bs v b bs.length)[i]? = some L':=by
    rcases jH t bs.length with q | q
    ·have e:t=b:=by
      by_cases e:t=b
      ·exact e
      ·rw [κn t q e] at hk; cases hk
     subst e;rw [κb] at hk; cases hk;rw [iY (by simpa using q),pK q] at hL;simpa [Kd.bs] using hL
    ·rw [κh t q] at hk; cases hk;rw [kb (by simpa using q)] at hL;simp only [mn] at hL;rw [show 1+(t - bs.length)=(t - bs.length)+1 by omega];simpa [Kd.bs] using hL
   obtain⟨M,k1,k2⟩:=hre.2 i L' key;rw [k1]; exact k2.id_any)
  (fun t hk=>by
   obtain⟨q1,q2⟩:=κi t hk;rw [b8,b8,iY (by simpa using q1),mV (Ne.symm q2)])
  (fun t ht=>by rw [cN] at ht; rw [b8,gO ht]) rfl
  (fun t B hk ho=>⟨rfl,fun k=>(κi t hk).2 (hI.one_owner ho (hfr B k))⟩)
 exact⟨v,_,rfl,m1,hle,fun B hB=>(m2 B hB).elim id fun k=>(hfr B k).owned⟩
theorem Inv.pack {W0:World} {r:Ren} {bs hid:a9} {g:aL} {w:World} {K:Kd} (hK:K.Ok) {b:Nat} {v:K.σ} (hI:Inv W0 r (ai (bs++hid) g) w) (hb:bs[b]? = some (K.sh v b bs.length).1) (hh:hid=(K.sh v b bs.length).2)
  (hcl:∀ ρ : a4c,(∀ t,t < bs.length→ρ t=some (.id t))→kZ ρ (bs.set b .dead) (bs.set b .dead)) :
  ∃ r',Inv W0 r' (ai (bs.set b (.obj K.F (K.enc v) bs.length)++[.dead]) g) w∧(∀ t,t < bs.length→r' t=r t)∧∀ B,a4j r' (ai (bs.set b (.obj K.F (K.enc v) bs.length)++[.dead]) g) B→a4j r (ai (bs++hid) g) B:=by
 have hbl:b < bs.length:=(bU.1 hb).1;have hSb:(ai (bs++hid) g).h.get b=some (K.sh v b bs.length).1:=by rw [b8,iY hbl]; exact hb
 obtain⟨x,hx⟩:∃ x,r b=some x:=by
  obtain⟨c,cs,op,e⟩:=hK.root v b bs.length;rw [e] at hSb;rcases hI.cells b _ _ hSb with⟨k,_⟩ | ⟨x,k,_⟩
  ·cases k
  ·exact⟨x,k⟩
 have hlen:=hK.len v b bs.length 0 1 hbl
 let ρ0:a4c:=fun t=>if t=0 then some (.id b) else if t < 1+hid.length then some (.id (bs.length+(t - 1))) else none
 have hre:=vS (hK.re v 0 1 b bs.length ρ0 (aB rfl) fun i hi=>by
  have:i < hid.length:=by rw [hh,hlen]; exact hi
  simp only [ρ0];rw [av ab,aB ab]; congr 3; omega)
 have hat:∀ c M,(K.bs v b bs.length)[c]? = some M→∃ t,ρ0 c=some (.id t)∧(t=b∨bs.length≤t)∧(ai (bs++hid) g).h.get t=some M:=fun c M hc=>by
  cases c with
  | zero=>simp [Kd.bs] at hc; subst hc; exact⟨b,aB rfl,.inl rfl,hSb⟩
  | succ c =>
    simp only [Kd.bs,eG,← hh] at hc;have hcl:=(bU.1 hc).1;refine⟨bs.length+c,?_,.inr ab,?_⟩
    ·simp only [ρ0]; rw [av ab,aB ab]; congr 3
    ·rw [b8,kb ab,← hc]; congr 1; omega
 have hsc:Sub 0 ρ0 (ai (bs++hid) g) (ai (K.bs v 0 1) g):=by
  refine⟨bk _,fun t ht=>absurd ht (Nat.not_lt_zero _),fun t src ht=>?_,fun t ht=>?_,fun t L0 ht=>?_,fun t t' src src' c hl hl' hs hs' hu hu'=>?_,rfl⟩
  ·simp only [cN,Kd.bs,cZ,← hlen,← hh];simp only [ρ0] at ht;split at ht
   ·omega
   ·split at ht
    ·omega
    ·cases ht
  ·exact BH
  ·rw [b8] at ht;obtain⟨M,k1,k2⟩:=hre.2 t L0 ht;obtain⟨t',q1,_,q3⟩:=hat t M k1;exact⟨_,q1,by simp only [Src.under,q3]; exact k2.id_any⟩
  ·simp only [ρ0] at hs hs';split at hs <;> split at hs' <;> (try split at hs) <;> (try split at hs') <;> first
    | (cases hs; done)
    | (cases hs'; done)
    | (cases hs; cases hs'; simp only [Src.under,a8] at hu hu'; omega)
 obtain⟨hIc,_⟩:=hI.sub hsc;have hIc:Inv W0 (ρ0.ren r) (ai (K.bs v 0 1)) w:=⟨hIc.below,hIc.dom,hIc.own,hIc.fresh,hIc.inj,hIc.cells,hIc.iter,fun x hx=>(by cases hx),hIc.ro,hIc.ob.step (Ren.le_refl _) (fun _ _ _ _ k=>k) (fun _ _ k1 k2=>.inl ⟨k1,k2⟩) (aR _) fun _ _=>rfl⟩;have hr0 : ρ0.ren r 0=some x:=by simp [a4c.ren,ρ0,Src.ren,hx]
 have hroot:(ai (K.bs v 0 1)).lives 0:=by
  obtain⟨c,cs,op,e⟩:=hK.root v 0 1;exact⟨.cells (c::cs) op,by rw [b8]; simp [Kd.bs,e],rfl⟩
 have hco:∀ B,a4j (ρ0.ren r) (ai (K.bs v 0 1)) B→∃ t,(t=b∨bs.length≤t)∧a2w r (ai (bs++hid) g) t B:=fun B hB=>by
  rcases hB with⟨c,y,⟨L,hL,hl⟩,hy,rfl⟩ | ⟨c,F,cs,γ,hL,ho⟩
  ·rw [b8] at hL;obtain⟨M,k1,k2⟩:=hre.2 c L hL;obtain⟨t,q1,q2,q3⟩:=hat c M k1;obtain⟨M',e,m2⟩:=k2.lives hl (by simp [Src.under]);cases e;exact⟨t,q2,.inl ⟨⟨_,q3,m2⟩,y,by simpa [a4c.ren,q1,Src.ren] using hy,rfl⟩⟩
  ·rw [b8] at hL;obtain⟨M,k1,k2⟩:=hre.2 c _ hL;obtain⟨t,q1,q2,q3⟩:=hat c M k1;cases M <;> simp only [LBW] at k2
   rename_i F' cs' γ';obtain⟨rfl,rfl,e⟩:=k2;exact⟨t,q2,.inr ⟨_,_,_,q3,by simpa only [Own,a4c.ren,e,Src.ren] using ho⟩⟩
 let ρ2:a4c:=fun t=>if t < bs.length then some (.id t) else none
 have hcl2:=vS (hcl ρ2 fun t ht=>aB ht);have hsr:Sub 0 ρ2 (ai (bs++hid) g) (ai (bs.set b .dead) g):=by
  refine⟨bk _,fun t ht=>absurd ht (Nat.not_lt_zero _),fun t src ht=>?_,fun t ht=>?_,fun t L0 ht=>?_,fun t t' src src' c hl hl' hs hs' hu hu'=>?_,rfl⟩
  ·simp only [ρ2] at ht;split at ht
   ·simpa [cN] using ‹_›
   ·cases ht
  ·exact BH
  ·rw [b8] at ht;have hlt:t < bs.length:=by have:=(bU.1 ht).1; simpa using this
   refine⟨.id t,aB hlt,?_⟩;by_cases e:t=b
   ·subst e; rw [pK hlt] at ht; cases ht; simp only [LBW]
   ·obtain⟨M,k1,k2⟩:=hcl2.2 t L0 ht;rw [ht] at k1; cases k1;rw [mV (Ne.symm e)] at ht;simp only [Src.under,b8,iY hlt,ht];exact k2.id_any
  ·simp only [ρ2] at hs hs';split at hs <;> split at hs' <;> first
    | (cases hs; done)
    | (cases hs'; done)
    | (cases hs; cases hs'; simp only [Src.under,a8] at hu hu'; omega)
 obtain⟨hI2,_⟩:=hI.sub hsr;have r2:∀ t,t < bs.length→ρ2.ren r t=r t:=fun t ht=>by simp [a4c.ren,ρ2,ht,Src.ren]
 have r2n:∀ t y,ρ2.ren r t=some y→t < bs.length:=fun t y h=>by have:=(hI2.dom t y h).1; simpa [cN] using this
 have get2:∀ t L,L≠.dead→(ai (bs.set b .dead) g).h.get t=some L→t≠b∧t < bs.length∧(ai (bs++hid) g).h.get t=some L:=fun t L hL ht=>by
  rw [b8] at ht;have hlt:t < bs.length:=by have:=(bU.1 ht).1; simpa using this
  by_cases e:t=b
  ·subst e; rw [pK hlt] at ht; cases ht; exact absurd rfl hL
  ·rw [mV (Ne.symm e)] at ht;exact⟨e,hlt,by rw [b8,iY hlt]; exact ht⟩
 have by2:∀ t B,a2w (ρ2.ren r) (ai (bs.set b .dead) g) t B→t≠b∧t < bs.length∧a2w r (ai (bs++hid) g) t B:=fun t B ho=>by
  rcases ho with⟨⟨L,h1,h2⟩,y,h3,h4⟩ | ⟨F,cs,γ,h1,h2⟩
  ·obtain⟨k1,k2,k3⟩:=get2 t L (fun e=>by subst e; cases h2) h1;exact⟨k1,k2,.inl ⟨⟨L,k3,h2⟩,y,by rw [← r2 t k2]; exact h3,h4⟩⟩
  ·obtain⟨k1,k2,k3⟩:=get2 t _ (fun e=>by cases e) h1;obtain⟨y,y1,y2⟩:=h2;exact⟨k1,k2,.inr ⟨F,cs,γ,k3,y,by rw [← r2 γ (r2n γ y y1)]; exact y1,y2⟩⟩
 obtain⟨m,hm⟩:=FG (a4j (ρ0.ren r) (ai (K.bs v 0 1))) w.heap.size;have hm':∀ B,m.testBit B=true↔a4j (ρ0.ren r) (ai (K.bs v 0 1)) B:=fun B=>(hm B).trans ⟨fun k=>k.2,fun k=>⟨(hIc.owned_in k).2,k⟩⟩
 let R:Ren:=fun t=>if t=bs.length then some (x.1,0,m) else ρ2.ren r t
 have hRn:R bs.length=some (x.1,0,m):=aB rfl;have hR:∀ t,t≠bs.length→R t = ρ2.ren r t:=fun t e=>av e
 have hle:(ρ2.ren r).le R:=fun t y hy=>by rw [hR t (by have:=r2n t y hy; omega)]; exact hy
 have hown:∀ B,Own R bs.length B↔a4j (ρ0.ren r) (ai (K.bs v 0 1)) B:=fun B=>by
  rw [← hm' B];constructor
  ·rintro⟨y,y1,y2⟩; rw [hRn] at y1; cases y1; exact y2
  ·intro k; exact⟨_,hRn,k⟩
 have getR:∀ t L,L≠.dead→(ai (bs.set b (.obj K.F (K.enc v) bs.length)++[.dead]) g).h.get t=some L→(t=b∧L=.obj K.F (K.enc v) bs.length)∨(t≠b∧t < bs.length∧(ai (bs.set b .dead) g).h.get t=some L):=fun t L hL ht=>by
  rw [b8] at ht;rcases jH t bs.length with q | q
  ·rw [iY (by simpa using q)] at ht;by_cases e:t=b
   ·subst e; rw [pK q] at ht; cases ht; exact .inl ⟨rfl,rfl⟩
   ·rw [mV (Ne.symm e)] at ht;exact .inr ⟨e,q,by rw [b8,mV (Ne.symm e)]; exact ht⟩
  ·rw [kb (by simpa using q)] at ht;simp only [mn] at ht;by_cases e:t=bs.length
   ·subst e; simp at ht; exact absurd ht.symm hL
   ·rw [gO ke] at ht; cases ht
 have byR:∀ t B,a2w R (ai (bs.set b (.obj K.F (K.enc v) bs.length)++[.dead]) g) t B→(t=b∧a4j (ρ0.ren r) (ai (K.bs v 0 1)) B)∨(t≠b∧t < bs.length∧a2w (ρ2.ren r) (ai (bs.set b .dead) g) t B):=fun t B ho=>by
  rcases ho with⟨⟨L,h1,h2⟩,y,h3,rfl⟩ | ⟨F,cs,γ,h1,h2⟩
  ·rcases getR t L (fun e=>by subst e; cases h2) h1 with⟨k1,k2⟩ | ⟨k1,k2,k3⟩
   ·subst k1;rw [hR t ab,r2 t hbl,hx] at h3; cases h3;exact .inl ⟨rfl,.inl ⟨0,x,hroot,hr0,rfl⟩⟩
   ·rw [hR t ab] at h3;exact .inr ⟨k1,k2,.inl ⟨⟨L,k3,h2⟩,y,h3,rfl⟩⟩
  ·rcases getR t _ (fun e=>by cases e) h1 with⟨k1,k2⟩ | ⟨k1,k2,k3⟩
   ·cases k2; exact .inl ⟨k1,(hown B).1 h2⟩
   ·obtain⟨y,q1,q2,_⟩:=hI2.ob.holds t F cs γ k3;exact .inr ⟨k1,k2,.inr ⟨F,cs,γ,k3,q2.back hle h2⟩⟩
 have up:∀ t B,a2w R (ai (bs.set b (.obj K.F (K.enc v) bs.length)++[.dead]) g) t B→∃ t',a2w r (ai (bs++hid) g) t' B∧((t=b∧(t'=b∨bs.length≤t'))∨(t≠b∧t'=t∧t < bs.length)):=fun t B ho=>by
  rcases byR t B ho with⟨k1,k2⟩ | ⟨k1,k2,k3⟩
  ·obtain⟨t',q1,q2⟩:=hco B k2; exact⟨t',q2,.inl ⟨k1,q1⟩⟩
  ·exact⟨t,(by2 t B k3).2.2,.inr ⟨k1,rfl,k2⟩⟩
 have huq:∀ t t' B,a2w R (ai (bs.set b (.obj K.F (K.enc v) bs.length)++[.dead]) g) t B→a2w R (ai (bs.set b (.obj K.F (K.enc v) bs.length)++[.dead]) g) t' B→t=t':=fun t t' B k k'=>by
  obtain⟨u,q1,q2⟩:=up t B k;obtain⟨u',q1',q2'⟩:=up t' B k';have:=hI.one_owner q1 q1';omega
 have hld:(ai (bs.set b (.obj K.F (K.enc v) bs.length)++[.dead]) g).n=bs.length+1:=by simp [cN]
 refine⟨R,⟨hI.below,fun t y hy=>?_,fun t y hl hy=>?_,fun t ht=>?_,fun t t' y y' hl hl' hy hy' he=>huq t t' y.1 (.inl ⟨hl,y,hy,rfl⟩) (.inl ⟨hl',y',hy',he.symm⟩),fun t cs op ht=>?_,fun t q p ht=>?_,hI.gl,fun t cs ht=>?_,fun t F cs γ ht=>?_,fun B hB=>?_,
  fun t F cs γ t' y ht hl hy ho=>(huq t t' y.1 (.inr ⟨F,cs,γ,ht,ho⟩) (.inl ⟨hl,y,hy,rfl⟩)).symm,fun t F cs γ t' F' cs' γ' B ht ht' k k'=>huq t t' B (.inr ⟨F,cs,γ,ht,k⟩) (.inr ⟨F',cs',γ',ht',k'⟩)⟩,fun t ht=>by rw [hR t ab,r2 t ht],fun B hB=>?_⟩
 ·rw [hld];by_cases e:t=bs.length
  ·subst e; rw [hRn] at hy; cases hy;exact⟨ab,(hI.dom b x hx).2⟩
  ·rw [hR t e] at hy;have:=r2n t y hy;exact⟨ab,(hI2.dom t y hy).2⟩
 ·obtain⟨u,q1,_⟩:=up t y.1 (.inl ⟨hl,y,hy,rfl⟩);exact(hI.owned_in q1.owned).1
 ·exact BH
 ·rcases getR t _ (fun e=>by cases e) ht with⟨k1,k2⟩ | ⟨k1,k2,k3⟩
  ·cases k2
  ·rcases hI2.cells t cs op k3 with⟨q1,q2⟩ | ⟨y,q1,q2⟩
   ·exact .inl ⟨q1,by rw [hR t ab]; exact q2⟩
   ·exact .inr ⟨y,hle _ _ q1,q2.mono hle rfl⟩
 ·rcases getR t _ (fun e=>by cases e) ht with⟨k1,k2⟩ | ⟨k1,k2,k3⟩
  ·cases k2
  ·obtain⟨y,q1,q2⟩:=hI2.iter t q p k3;exact⟨y,hle _ _ q1,q2⟩
 ·rcases getR t _ (fun e=>by cases e) ht with⟨k1,k2⟩ | ⟨k1,k2,k3⟩
  ·cases k2
  ·rcases hI2.ro t cs k3 with⟨q1,q2⟩ | ⟨y,q1,c,e,f,q2,q3⟩
   ·exact .inl ⟨q1,by rw [hR t ab]; exact q2⟩
   ·exact GE
 ·rcases getR t _ (fun e=>by cases e) ht with⟨k1,k2⟩ | ⟨k1,k2,k3⟩
  ·cases k2;subst k1;refine⟨x,by rw [hR t ab,r2 t hbl]; exact hx,(hown _).2 (.inl ⟨0,x,hroot,hr0,rfl⟩),fun w' q1 q2 q3=>⟨v,rfl,ρ0.ren r,hIc.local q1 q2 fun B hB=>q3 B ((hown B).2 hB),hr0,hown⟩⟩
  ·obtain⟨y,q1,q2,q3⟩:=hI2.ob.holds t F cs γ k3;have e:Own R γ = Own (ρ2.ren r) γ:=funext fun B=>propext ⟨fun k=>q2.back hle k,fun k=>k.mono hle⟩
   exact⟨y,hle _ _ q1,q2.mono hle,by rw [e]; exact q3⟩
 ·obtain⟨t,F,cs,γ,h1,h2⟩:=hB;obtain⟨u,q1,_⟩:=up t B (.inr ⟨F,cs,γ,h1,h2⟩);exact hI.owned_in q1.owned
 ·obtain⟨t,ht⟩:=hB.by;obtain⟨u,q1,_⟩:=up t B ht;exact q1.owned
theorem a0j.unpack {f:Nat} {args:al} {bs:a9} {g:aL} {Q:LV→St→Prop} {K:Kd} (hK:K.Ok) (b:Nat) {cs:al} {γ : Nat} (hb:bs[b]? = some (.obj K.F cs γ))
  (h:∀ v,K.enc v=cs→a0j P f args (ai (bs.set b (K.sh v b bs.length).1++(K.sh v b bs.length).2) g) Q):a0j P f args (ai bs g) Q:=by
 intro W0 r w us hI hv;obtain⟨v,r1,h1,h2,h3,h4⟩:=hI.unpack hK hb;refine(h v h1 W0 r1 w us h2 (hv.mono h3)).mono fun e w' ⟨l,s',u,r',q,he,hu,hi,hE⟩=>⟨l,s',u,r',q,he,hu,hi,Ren.le_trans h3 hE.le,?_,hE.size,fun B hB ho=>h4 B (hE.img B hB ho),fun B hB ho=>hE.keep B hB fun k=>ho (h4 B k)⟩
 have:=hE.n;simp only [cN,cg,mn] at this ⊢;omega
theorem a0j.pack {f:Nat} {args:al} {bs0:a9} {g:aL} {Q Q':LV→St→Prop} {K:Kd} (hK:K.Ok) (b:Nat) (h:a0j P f args (ai bs0 g) Q)
  (hQ:∀ l t,Q l t→∃ (v:K.σ) (bs hid:a9),t=ai (bs++hid) g∧bs0.length≤bs.length∧bs[b]? = some (K.sh v b bs.length).1∧hid=(K.sh v b bs.length).2 ∧
   (∀ ρ : a4c,(∀ t,t < bs.length→ρ t=some (.id t))→kZ ρ (bs.set b .dead) (bs.set b .dead)∧LVW ρ l l)∧Q' l (ai (bs.set b (.obj K.F (K.enc v) bs.length)++[.dead]) g)):a0j P f args (ai bs0 g) Q':=by
 intro W0 r w us hI hv;refine(h W0 r w us hI hv).mono fun e w' ⟨l,s',u,r',q,he,hu,hi,hE⟩=>?_
 obtain⟨v,bs,hid,rfl,h1,h2,h3,h4,h5⟩:=hQ l s' q;obtain⟨r2,k1,k2,k3⟩:=hi.pack hK h2 h3 fun ρ hρ=>(h4 ρ hρ).1
 refine⟨l,_,u,r2,h5,he,?_,k1,fun t y hy=>?_,?_,hE.size,fun B hB ho=>hE.img B hB (k3 B ho),hE.keep⟩
 ·have:=(h4 (fun t=>if t < bs.length then some (.id t) else none) fun t ht=>aB ht).2.sound hu;refine this.mono fun t y hy=>?_
  simp only [a4c.ren] at hy;split at hy
  ·rename_i e;split at e
   ·cases e; simp only [Src.ren] at hy; rw [k2 _ ‹_›]; exact hy
   ·cases e
  ·cases hy
 ·have:=(hI.dom t y hy).1;rw [cN] at this;rw [k2 t ab]; exact hE.le t y hy
 ·simp only [cN,cg,mn]; omega
theorem gx {ρ : a4c} {c g g':Nat} {F:OP} {cs:al} (h : ρ g=some (.id g')):LBW ρ (.id c) (.obj F cs g) (some (.obj F cs g')):=by simp only [LBW]; exact⟨trivial,trivial,h⟩
theorem Bo {ρ : a4c} {c g g':Nat} {F:OP} {cs:al} (h : ρ g=some (.id g'):=by rfl):LBW ρ (.id c) (.obj F cs g) (some (.obj F cs g')):=gx h
theorem H6 {κ : a4c}:kZ κ [] []:=by simp only [kZ]
theorem Ao {κ : a4c} {L M:LB} {Ls Ms:a9} (h:LBW κ (.id 0) L (some M)) (k:kZ κ Ls Ms):kZ κ (L::Ls) (M::Ms):=by simp only [kZ]; exact⟨h,k⟩
theorem SSp.unpack {nt n0:Nat} {l:List Code} {i:Nat} {tm:Tm} {bs:a9} {g:aL} {Q:LX→Tm→St→Prop} {K:Kd} (hK:K.Ok) (b:Nat) (hl:Nat.blt i l.length=true) (hn:n0≤bs.length) {cs:al} {γ : Nat} (hb:bs[b]? = some (.obj K.F cs γ))
  (h:∀ v,K.enc v=cs→SSp P nt (l.drop i) n0 tm (ai (bs.set b (K.sh v b bs.length).1++(K.sh v b bs.length).2) g) Q):SSp P nt (l.drop i) n0 tm (ai bs g) Q:=by
 have:=aS hl;rw [oA l i ab] at h ⊢;intro W0 r a w hI hA K' hK';obtain⟨v,r1,h1,h2,h3,h4⟩:=hI.unpack hK hb;exact h v h1 W0 r1 a w h2 (hA.mono h3) K' fun x tm' s' r' a' w' q1 q2 q3 q4=>hK' x tm' s' r' a' w' q1 q2 ⟨fun t y ht hy=>q3.le t y ht (h3 t y hy),q3.n,q3.size,fun B hB ho=>h4 B (q3.img B hB ho),fun B hB ho=>q3.keep B hB fun k=>ho (h4 B k)⟩ q4
theorem a0j.shut {f:Nat} {args:al} {bs B:a9} {g:aL} {K:Kd} (hK:K.Ok) (b:Nat) {cs:al} {l:LV} (hn:bs.length≤B.length) (hb:b < B.length)
  (hcl:∀ ρ : a4c,(∀ t,t < B.length→ρ t=some (.id t))→kZ ρ (B.set b .dead) (B.set b .dead)∧LVW ρ l l)
  (h:a0j P f args (ai bs g) fun l1 t=>∃ b0,(l1=l∧∃ v,K.enc v=cs∧b0=B.set b (K.sh v b B.length).1++(K.sh v b B.length).2)∧t=ai b0 g) :
  a0j P f args (ai bs g) fun l1 t=>l1=l∧t=ai (B.set b (.obj K.F cs B.length)++[.dead]) g:=by
 refine a0j.pack hK b h fun l1 t ⟨b0,⟨e1,v,e2,e3⟩,e4⟩=>?_
 subst e1 e2 e3;refine⟨v,B.set b (K.sh v b B.length).1,(K.sh v b B.length).2,e4,by rw [mn]; exact hn,by rw [mn,pK hb],by rw [mn],fun ρ hρ=>?_,rfl,by rw [mn,List.set_set]⟩;rw [List.set_set];exact hcl ρ fun t ht=>hρ t (by rw [mn]; exact ht)
end
section
open Go.RowKit
variable {P:Program}
theorem a0j.i3z {f:Nat} {args:al} {s:St} {l:LV} (h:∀ (W0:World) (r:Ren) (w:World) (us:List Value),Inv W0 r s w→VRs r args us→Calls P f us.toArray w fun e w'=>∃ v,e=.returned v∧VR r l v∧Below w.heap.size w w') :
  a0j P f args s fun l' s'=>l'=l∧s'=s:=by
 intro W0 r w us hI hv;refine(h W0 r w us hI hv).mono fun e w' ⟨v,he,hl,hb⟩=>⟨l,s,v,r,⟨rfl,rfl⟩,he,hl,?_,?_⟩
 ·exact hI.local (hI.below.trans (hb.mono hI.below.size)) hb.size fun B hB=>hb.block B (hI.owned_in hB).2
 ·exact⟨r.le_refl,aR _,hb.size,fun B _ h=>h,fun B hB _=>hb.block B hB⟩
theorem a0j.i4i {cx:Cx} (hcx:cT P (cv cx)) {fuel f:Nat} {s:St} (hfr:∀ b,s.n≤b→s.h.get b=none) (h:isTrue (match mb P (cv cx) fuel f [] ⟨.leaf,0,s.g⟩ with | some (v,_)=>some v | none=>none)=true):a0j P f [] s fun l s'=>l=.b true∧s'=s:=by
 cases hf:mb P (cv cx) fuel f [] ⟨.leaf,0,s.g⟩ with
 | none=>simp [hf,isTrue] at h
 | some p =>
   obtain⟨v,s1⟩:=p;simp only [hf] at h;have hv:v=.b true:=by
    unfold isTrue at h;split at h
    ·rename_i e; simpa using e
    ·cases h
   subst hv;have h0:a0j P f [] (ai [] s.g) fun l s'=>l=.b true∧s'=s1:=by
    intro W0 r w us hI hu;have:=(qI (P:=P) hcx fuel).2 W0 r f [] ⟨.leaf,0,s.g⟩ s1 (.b true) w us hf hI hu;exact this.mono fun e w' ⟨u,r',he,k⟩=>⟨_,_,u,r',⟨rfl,rfl⟩,he,k⟩
   refine a0j.graft (ρ:=[]) (Sub.lift (List.nodup_nil) (by simp only [mN])) (by rw [cN]; rfl) (by simp [a7h]) h0 fun l1 s2 ⟨e1,e2⟩=>?_
   subst e1;exact⟨.b true,s,fun _=>none,⟨rfl,rfl⟩,⟨aR _,fun i b hi=>by simp at hi,fun b i hb hk=>by simp at hk,fun b i hk=>by simp at hk,fun b b' i hk=>by simp at hk,fun b i L' hk=>by simp at hk,fun b _=>rfl,hfr,rfl⟩,by simp only [LVW]⟩
end
section
open Go.RowKit
variable {P:Program}
theorem Inv.kill {W0 w:World} {r:Ren} {bs bs1:a9} {g:aL} (hI:Inv W0 r (ai bs g) w) (hl:bs.length≤bs1.length) (h:∀ (i:Nat) L,bs1[i]? = some L→L=.dead∨bs[i]? = some L) :
  Inv W0 r (ai bs1 g) w∧∀ t B,a2w r (ai bs1 g) t B→a2w r (ai bs g) t B:=by
 have get:∀ {t:Nat} {L:LB},L≠.dead→(ai bs1 g).h.get t=some L→(ai bs g).h.get t=some L:=fun {t L} hd ht=>by
  rw [b8] at ht ⊢;exact(h t L ht).resolve_left hd
 have hlv:∀ t,(ai bs1 g).lives t→(ai bs g).lives t:=fun t ⟨L,h1,h2⟩=>⟨L,get (fun e=>by subst e; cases h2) h1,h2⟩
 refine⟨⟨hI.below,fun b x hb=>?_,fun b x hv=>hI.own b x (hlv b hv),fun b hb=>?_,fun b b' x x' k k'=>hI.inj b b' x x' (hlv b k) (hlv b' k'),fun b cs op hb=>hI.cells b cs op (get (fun e=>by cases e) hb),fun b t p hb=>hI.iter b t p (get (fun e=>by cases e) hb),hI.gl,fun b cs hb=>hI.ro b cs (get (fun e=>by cases e) hb),
  hI.ob.step r.le_refl (fun b F cs γ hb=>get (fun e=>by cases e) hb) (fun b x k1 k2=>.inl ⟨hlv b k1,k2⟩) (aR _) fun _ _=>rfl⟩,fun t B ho=>?_⟩
 ·have:=hI.dom b x hb;rw [cN] at this ⊢;omega
 ·exact wm
 ·rcases ho with⟨k1,k2⟩ | ⟨F,cs,γ,k1,k2⟩
  ·exact .inl ⟨hlv t k1,k2⟩
  ·exact .inr ⟨F,cs,γ,get (fun e=>by cases e) k1,k2⟩
def bG:OP:=⟨2,zG,fun h=>absurd h iZ,fun _=>rfl⟩
structure SQ where
 F:World→Prop
 e:Bool
 h:e=true→∀ W,F W
def e_ (q:SQ) (γ : Nat):LB:=cond q.e .dead (.obj bG [.fact q.F] γ)
def DF:SQ:=⟨fun _=>True,true,fun _ _=>trivial⟩
theorem Inv.newst {W0 w:World} {r:Ren} {bs:a9} {g:aL} (hI:Inv W0 r (ai bs g) w) {x:Nat×Nat×Nat} {m:Nat} {F:World→Prop} (hx:m.testBit x.1=true) (hm:∀ B,m.testBit B=true→W0.heap.size≤B∧B < w.heap.size∧∀ t,¬ a2w r (ai bs g) t B)
  (hF:∀ w',Below W0.heap.size W0 w'→w.heap.size≤w'.heap.size→(∀ B,m.testBit B=true→w'.heap[B]? = w.heap[B]?)→F w') :
  ∃ r',Inv W0 r' (ai (bs++[.obj bG [.fact F] (bs.length+1),.dead]) g) w∧r.le r'∧(∀ t,t < bs.length→r' t=r t)∧∀ B,a4j r' (ai (bs++[.obj bG [.fact F] (bs.length+1),.dead]) g) B→a4j r (ai bs g) B∨m.testBit B=true:=by
 let R:Ren:=fun t=>if t=bs.length then some x else if t=bs.length+1 then some (x.1,0,m) else r t
 have hN:R bs.length=some x:=aB rfl;have hN1:R (bs.length+1)=some (x.1,0,m):=by simp only [R,av (show ¬ bs.length+1=bs.length by omega),eR]
 have hRt:∀ t,t < bs.length→R t=r t:=fun t ht=>by simp only [R,av (show ¬ t=bs.length by omega),av (show ¬ t=bs.length+1 by omega)]
 have hd:∀ t y,r t=some y→t < bs.length:=fun t y h=>by have:=(hI.dom t y h).1; rwa [cN] at this
 have hle:r.le R:=fun t y hy=>by rw [hRt t (hd t y hy)]; exact hy
 have hown:∀ B,Own R (bs.length+1) B↔m.testBit B=true:=fun B=>by
  constructor
  ·rintro⟨y,y1,y2⟩; rw [hN1] at y1; cases y1; exact y2
  ·intro k; exact⟨_,hN1,k⟩
 have get:∀ t L,L≠.dead→(ai (bs++[.obj bG [.fact F] (bs.length+1),.dead]) g).h.get t=some L→(t=bs.length∧L=.obj bG [.fact F] (bs.length+1))∨(t < bs.length∧(ai bs g).h.get t=some L):=fun t L hL ht=>by
  rw [b8] at ht;rcases jH t bs.length with q | q
  ·rw [iY q] at ht; exact .inr ⟨q,by rw [b8]; exact ht⟩
  ·rw [kb q] at ht;cases hk:t - bs.length with
   | zero=>rw [hk] at ht; simp at ht; exact .inl ⟨ab,ht.symm⟩
   | succ k =>
     rw [hk] at ht;cases k with
     | zero=>simp at ht; exact absurd ht.symm hL
     | succ k=>simp at ht
 have hr:∀ γ B,γ < bs.length→(Own R γ B↔Own r γ B):=fun γ B hγ=>by simp only [Own,hRt γ hγ]
 have by':∀ t B,a2w R (ai (bs++[.obj bG [.fact F] (bs.length+1),.dead]) g) t B→(t=bs.length∧m.testBit B=true)∨(t < bs.length∧a2w r (ai bs g) t B):=fun t B ho=>by
  rcases ho with⟨⟨L,h1,h2⟩,y,h3,rfl⟩ | ⟨F',cs,γ,h1,h2⟩
  ·rcases get t L (fun e=>by subst e; cases h2) h1 with⟨k1,k2⟩ | ⟨k1,k2⟩
   ·subst k1; rw [hN] at h3; cases h3; exact .inl ⟨rfl,hx⟩
   ·exact .inr ⟨k1,.inl ⟨⟨L,k2,h2⟩,y,by rw [← hRt t k1]; exact h3,rfl⟩⟩
  ·rcases get t _ (fun e=>by cases e) h1 with⟨k1,k2⟩ | ⟨k1,k2⟩
   ·cases k2; exact .inl ⟨k1,(hown B).1 h2⟩
   ·obtain⟨y,q1,q2,_⟩:=hI.ob.holds t F' cs γ k2;exact .inr ⟨k1,.inr ⟨F',cs,γ,k2,q2.back hle h2⟩⟩
 have uq:∀ t t' B,a2w R (ai (bs++[.obj bG [.fact F] (bs.length+1),.dead]) g) t B→a2w R (ai (bs++[.obj bG [.fact F] (bs.length+1),.dead]) g) t' B→t=t':=fun t t' B k k'=>by
  rcases by' t B k with⟨q1,q2⟩ | ⟨q1,q2⟩ <;> rcases by' t' B k' with⟨p1,p2⟩ | ⟨p1,p2⟩
  ·omega
  ·exact absurd p2 ((hm B q2).2.2 t')
  ·exact absurd q2 ((hm B p2).2.2 t)
  ·exact hI.one_owner q2 p2
 have rng:∀ t B,a2w R (ai (bs++[.obj bG [.fact F] (bs.length+1),.dead]) g) t B→W0.heap.size≤B∧B < w.heap.size:=fun t B k=>by
  rcases by' t B k with⟨q1,q2⟩ | ⟨q1,q2⟩
  ·exact⟨(hm B q2).1,(hm B q2).2.1⟩
  ·exact hI.owned_in q2.owned
 have hn:(ai (bs++[.obj bG [.fact F] (bs.length+1),.dead]) g).n=bs.length+2:=by simp [cN]
 refine⟨R,⟨hI.below,fun t y hy=>?_,fun t y hl hy=>(rng t y.1 (.inl ⟨hl,y,hy,rfl⟩)).1,fun t ht=>?_,fun t t' y y' hl hl' hy hy' he=>uq t t' y.1 (.inl ⟨hl,y,hy,rfl⟩) (.inl ⟨hl',y',hy',he.symm⟩),fun t cs op ht=>?_,fun t q p ht=>?_,hI.gl,fun t cs ht=>?_,fun t F' cs γ ht=>?_,fun B hB=>?_,
  fun t F' cs γ t' y ht hl hy ho=>(uq t t' y.1 (.inr ⟨F',cs,γ,ht,ho⟩) (.inl ⟨hl,y,hy,rfl⟩)).symm,fun t F' cs γ t' F2 cs' γ' B ht ht' k k'=>uq t t' B (.inr ⟨F',cs,γ,ht,k⟩) (.inr ⟨F2,cs',γ',ht',k'⟩)⟩,hle,hRt,fun B hB=>?_⟩
 ·rw [hn];by_cases e:t=bs.length
  ·subst e; rw [hN] at hy; cases hy; exact⟨ab,(hm _ hx).2.1⟩
  ·by_cases e1:t=bs.length+1
   ·subst e1; rw [hN1] at hy; cases hy; exact⟨ab,(hm _ hx).2.1⟩
   ·have:r t=some y:=by simpa only [R,av e,av e1] using hy
    have h2:=hd t y this;exact⟨ab,(hI.dom t y this).2⟩
 ·rw [hn] at ht; rw [b8,gO ke]
 ·rcases get t _ (fun e=>by cases e) ht with⟨k1,k2⟩ | ⟨k1,k2⟩
  ·cases k2
  ·rcases hI.cells t cs op k2 with⟨q1,q2⟩ | ⟨y,q1,q2⟩
   ·exact .inl ⟨q1,by rw [hRt t k1]; exact q2⟩
   ·exact .inr ⟨y,hle _ _ q1,q2.mono hle rfl⟩
 ·rcases get t _ (fun e=>by cases e) ht with⟨k1,k2⟩ | ⟨k1,k2⟩
  ·cases k2
  ·obtain⟨y,q1,q2⟩:=hI.iter t q p k2;exact⟨y,hle _ _ q1,q2⟩
 ·rcases get t _ (fun e=>by cases e) ht with⟨k1,k2⟩ | ⟨k1,k2⟩
  ·cases k2
  ·rcases hI.ro t cs k2 with⟨q1,q2⟩ | ⟨y,q1,c,e,f,q2,q3⟩
   ·exact .inl ⟨q1,by rw [hRt t k1]; exact q2⟩
   ·exact GE
 ·rcases get t _ (fun e=>by cases e) ht with⟨k1,k2⟩ | ⟨k1,k2⟩
  ·cases k2;subst k1;exact⟨x,hN,(hown _).2 hx,fun w' q1 q2 q3=>⟨F,rfl,hF w' q1 q2 fun B hB=>q3 B ((hown B).2 hB)⟩⟩
  ·obtain⟨y,q1,q2,q3⟩:=hI.ob.holds t F' cs γ k2;have e:Own R γ = Own r γ:=funext fun B=>propext ⟨fun k=>q2.back hle k,fun k=>k.mono hle⟩
   exact⟨y,hle _ _ q1,q2.mono hle,by rw [e]; exact q3⟩
 ·obtain⟨t,F',cs,γ,h1,h2⟩:=hB;exact rng t B (.inr ⟨F',cs,γ,h1,h2⟩)
 ·obtain⟨t,ht⟩:=hB.by;rcases by' t B ht with⟨q1,q2⟩ | ⟨q1,q2⟩
  ·exact .inr q2
  ·exact .inl q2.owned
theorem Inv.absorb {W0 w:World} {r:Ren} {bs:a9} {g:aL} {b o γ n:Nat} {cs:al} {op:Option Nat} {q:SQ} {u:Value} (hI:Inv W0 r (ai bs g) w) (hb:bs[b]? = some (.cells cs op)) (ho:bs[o]? = some (e_ q γ)) (hno:a1u cs=true) (hn:n=0→cs=[]) (hu:VR r (.slo b 0 n 0) u) :
  ∃ q':SQ,q'.F=(fun W=>q.F W∧a4n W u n cs)∧∃ r',Inv W0 r' (ai ((bs.set b .dead).set o .dead++[e_ q' (bs.length+1),.dead]) g) w∧r.le r'∧∀ B,a4j r' (ai ((bs.set b .dead).set o .dead++[e_ q' (bs.length+1),.dead]) g) B→a4j r (ai bs g) B:=by
 have hbl:b < bs.length:=(bU.1 hb).1;have hol:o < bs.length:=(bU.1 ho).1;have hlen:((bs.set b .dead).set o .dead).length=bs.length:=aC;have hdead:∀ (i:Nat) L,((bs.set b .dead).set o .dead)[i]? = some L→L=.dead∨(i≠b∧i≠o∧bs[i]? = some L):=fun i L hi=>by
  by_cases e:i=o
  ·subst e; rw [pK (by simpa using hol)] at hi; cases hi; exact .inl rfl
  ·rw [mV (Ne.symm e)] at hi;by_cases e2:i=b
   ·subst e2; rw [pK hbl] at hi; cases hi; exact .inl rfl
   ·rw [mV (Ne.symm e2)] at hi; exact .inr ⟨e2,e,hi⟩
 obtain⟨hK,hKo⟩:=hI.kill (bs1:=(bs.set b .dead).set o .dead) (by rw [hlen]; exact aR _) fun i L hi=>(hdead i L hi).imp id fun h=>h.2.2
 have hdd:∀ t B,a2w r (ai ((bs.set b .dead).set o .dead) g) t B→t≠b∧t≠o:=fun t B k=>by
  have key:∀ L,(ai ((bs.set b .dead).set o .dead) g).h.get t=some L→L≠.dead→t≠b∧t≠o:=fun L hL hd=>by
   rw [b8] at hL;have:=(hdead t L hL).resolve_left hd;exact⟨this.1,this.2.1⟩
  rcases k with⟨⟨L,k1,k2⟩,_⟩ | ⟨F,cs,γ,k1,_⟩
  ·exact key L k1 fun e=>by subst e; cases k2
  ·exact key _ k1 fun e=>by cases e
 have hgb:(ai bs g).h.get b=some (.cells cs op):=by rw [b8]; exact hb
 have hgo:(ai bs g).h.get o=some (e_ q γ):=by rw [b8]; exact ho
 have row:(∀ W,a4n W u n cs)∨∃ B o' c,r b=some (B,o',c)∧∀ w':World,w'.heap[B]? = w.heap[B]?→a4n w' u n cs:=by
  simp only [VR] at hu;rcases hu with⟨B,o',c,h1,h2,h3⟩ | ⟨h1,h2⟩
  ·rcases hI.cells b cs op hgb with⟨_,k⟩ | ⟨x,k1,k2⟩
   ·rw [k] at h1; cases h1
   ·rw [h1] at k1; cases k1;obtain⟨cc,e,lo,hi,j1,j2,_,_⟩:=k2.ex;refine .inr ⟨B,o',c,h1,fun w' hw=>.inr ⟨B,o',c,cc,e,(lo,hi),by simpa using h3,ab,by rw [hw]; exact j1,fun i l hl=>?_⟩⟩;obtain⟨p1,v,p2,p3⟩:=j2 i l hl;exact⟨p1,v,p2,b4m.sound (ml.1 hno l (fS hl)) p3⟩
  ·exact .inl fun W=>.inl ⟨h2,h1,hn h1⟩
 have lob:(ai bs g).lives b:=⟨_,hgb,rfl⟩;obtain⟨m,hm⟩:=FG (fun B=>a2w r (ai bs g) b B∨a2w r (ai bs g) o B) w.heap.size;have hrng:∀ B,(a2w r (ai bs g) b B∨a2w r (ai bs g) o B)→W0.heap.size≤B∧B < w.heap.size:=fun B k=>k.elim (fun k=>hI.owned_in k.owned) fun k=>hI.owned_in k.owned
 have hm':∀ B,m.testBit B=true↔(a2w r (ai bs g) b B∨a2w r (ai bs g) o B):=fun B=>(hm B).trans ⟨fun k=>k.2,fun k=>⟨(hrng B k).2,k⟩⟩
 by_cases hp:∃ B,m.testBit B=true
 ·obtain⟨B0,hB0⟩:=hp;have hf1:∀ B,m.testBit B=true→W0.heap.size≤B∧B < w.heap.size∧∀ t,¬ a2w r (ai ((bs.set b .dead).set o .dead) g) t B:=fun B hB=>by
   have hB':=(hm' B).1 hB;refine⟨(hrng B hB').1,(hrng B hB').2,fun t ht=>?_⟩;obtain⟨d1,d2⟩:=hdd t B ht;rcases hB' with k | k
   ·exact d1 (hI.one_owner (hKo t B ht) k)
   ·exact d2 (hI.one_owner (hKo t B ht) k)
  have hf2:∀ w',Below W0.heap.size W0 w'→w.heap.size≤w'.heap.size→(∀ B,m.testBit B=true→w'.heap[B]? = w.heap[B]?)→q.F w'∧a4n w' u n cs:=fun w' q1 q2 q3=>by
   refine⟨?_,?_⟩
   ·obtain⟨F,e,h⟩:=q;cases e with
    | true=>exact h rfl w'
    | false =>
      obtain⟨x,h1,h2,h3⟩:=hI.ob.holds o bG [.fact F] γ hgo;obtain⟨F',e',hF'⟩:=h3 w' q1 q2 fun B hB=>q3 B ((hm' B).2 (.inr (.inr ⟨_,_,_,hgo,hB⟩)))
      simp only [iJ,LV.fact.injEq,kG] at e';subst e'; exact hF'
   ·rcases row with h | ⟨B,o',c,h1,h2⟩
    ·exact h w'
    ·exact h2 w' (q3 B ((hm' B).2 (.inl (.inl ⟨lob,_,h1,rfl⟩))))
  obtain⟨r',k1,k2,k3,k4⟩:=hK.newst (x:=(B0,0,0)) (m:=m) (F:=fun W=>q.F W∧a4n W u n cs) hB0 hf1 hf2;refine⟨⟨fun W=>q.F W∧a4n W u n cs,false,fun h=>by cases h⟩,rfl,r',?_,k2,fun B hB=>?_⟩
  ·rw [hlen] at k1; exact k1
  ·have hB':a4j r' (ai ((bs.set b .dead).set o .dead++[.obj bG [.fact fun W=>q.F W∧a4n W u n cs] (((bs.set b .dead).set o .dead).length+1),.dead]) g) B:=by rw [hlen]; exact hB
   rcases k4 B hB' with k | k
   ·obtain⟨t,ht⟩:=k.by;exact(hKo t B ht).owned
   ·exact((hm' B).1 k).elim (fun k=>k.owned) fun k=>k.owned
 ·have he:q.e=true:=by
   obtain⟨F,e,h⟩:=q;cases e with
   | true=>rfl
   | false =>
     obtain⟨x,h1,h2,h3⟩:=hI.ob.holds o bG [.fact F] γ hgo;exact absurd ⟨_,(hm' x.1).2 (.inr (.inr ⟨_,_,_,hgo,h2⟩))⟩ hp
  have hr:∀ W,a4n W u n cs:=by
   rcases row with h | ⟨B,o',c,h1,h2⟩
   ·exact h
   ·exact absurd ⟨_,(hm' B).2 (.inl (.inl ⟨lob,_,h1,rfl⟩))⟩ hp
  obtain⟨k1,k2⟩:=hI.kill (bs1:=(bs.set b .dead).set o .dead++[.dead,.dead]) aC fun i L hi=>by
   rcases jH i bs.length with c | c
   ·rw [iY ab] at hi; exact(hdead i L hi).imp id fun h=>h.2.2
   ·rw [kb ab,hlen] at hi
    match h:i - bs.length with
    | 0=>rw [h] at hi; simp at hi; exact .inl hi.symm
    | 1=>rw [h] at hi; simp at hi; exact .inl hi.symm
    | k+2=>rw [h] at hi; simp at hi
  exact⟨⟨fun W=>q.F W∧a4n W u n cs,true,fun _ W=>⟨q.h he W,hr W⟩⟩,rfl,r,k1,r.le_refl,fun B hB=>by obtain⟨t,ht⟩:=hB.by; exact(k2 t B ht).owned⟩
theorem SSp.absorb {nt n0:Nat} {l:List Code} {i:Nat} {as:List (Nat×LV)} {bs:a9} {g:aL} {Q:LX→Tm→St→Prop} (t b o:Nat) {γ n:Nat} {cs:al} {op:Option Nat} {q:SQ} (hl:Nat.blt i l.length=true) (hn0:n0≤bs.length) (ht:t < nt) (hs:kC as t=.slo b 0 n 0)
  (hb:bs[b]? = some (.cells cs op)) (ho:bs[o]? = some (e_ q γ)) (hno:a1u cs=true) (hn:n=0→cs=[])
  (h:∀ (v:Value) (q':SQ),q'.F=(fun W=>q.F W∧a4n W v n cs)→SSp P nt (l.drop i) n0 (aF nt ((t,.val v)::as)) (ai ((bs.set b .dead).set o .dead++[e_ q' (bs.length+1),.dead]) g) Q):SSp P nt (l.drop i) n0 (aF nt as) (ai bs g) Q:=by
 have:=aS hl;rw [oA l i ab] at h ⊢;intro W0 r a w hI hA K' hK';obtain⟨u,hu1,hu2⟩:=hA.get t ht;rw [oC,aB ht,hs] at hu2;obtain⟨q',hq,r1,h2,h3,h4⟩:=hI.absorb hb ho hno hn hu2;have hA1:AR r1 (aQ (aF nt ((t,.val u)::as))) nt a:=by
  refine⟨hA.size,hA.defers,fun t' ht'=>?_,fun t' ht'=>by rw [oC,av ab]⟩;obtain⟨v,k1,k2⟩:=hA.get t' ht';refine⟨v,k1,?_⟩;rw [oC,aB ht'] at k2 ⊢;simp only [kC,b7];by_cases e:t=t'
  ·subst e;rw [hu1] at k1; cases k1;simp only [bD,aw,VR];refine⟨trivial,?_⟩;simp only [VR] at hu2;rcases hu2 with⟨B,w',c,_,_,e⟩ | ⟨_,e | ⟨_,e⟩⟩
   iterate 3
    ·exact⟨_,_,_,e⟩
  ·simp only [e,fX,aD];exact k2.mono h3
 exact h u q' hq W0 r1 a w h2 hA1 K' fun x tm' s' r' a' w' q1 q2 q3 q4=>hK' x tm' s' r' a' w' q1 q2 ⟨fun t y ht hy=>q3.le t y ht (h3 t y hy),q3.n,q3.size,fun B hB ho=>h4 B (q3.img B hB ho),fun B hB ho=>q3.keep B hB fun k=>ho (h4 B k)⟩ q4
def xl:LB→LB
 | .cells cs _=>.ro cs
 | .ro cs=>.ro cs
 | _=>.dead
theorem Inv.freeze {W0 w:World} {r:Ren} {bs:a9} {g g':aL} (hI:Inv W0 r (ai bs g) w) (hg:Gl w g'):Inv w r (ai (bs.map xl) g') w:=by
 have get:∀ {t:Nat} {L:LB},(ai (bs.map xl) g').h.get t=some L→∃ M,(ai bs g).h.get t=some M∧L=xl M:=fun {t L} ht=>by
  rw [b8,oL,mY] at ht;obtain⟨M,h1,h2⟩:=ht;exact⟨M,by rw [b8]; exact h1,h2.symm⟩
 have nolive:∀ t,¬ (ai (bs.map xl) g').lives t:=fun t ⟨L,h1,h2⟩=>by
  obtain⟨M,_,e⟩:=get h1;subst e;cases M <;> cases h2
 refine⟨Below.refl _ _,fun b x hb=>?_,fun b x hl=>absurd hl (nolive b),fun b hb=>?_,fun b b' x x' hl=>absurd hl (nolive b),fun b cs op hb=>?_,fun b t p hb=>?_,hg,fun b cs hb=>?_,c2d.none fun b F cs γ hb=>?_⟩
 ·have:=hI.dom b x hb;rw [cN] at this ⊢;simpa using this
 ·exact wm
 iterate 2
  ·obtain⟨M,_,e⟩:=get hb; cases M <;> cases e
 ·obtain⟨M,h1,e⟩:=get hb;cases M with
  | cells cs' op =>
    cases e;rcases hI.cells b cs op h1 with k | ⟨x,k1,k2⟩
    ·exact .inl k
    ·obtain⟨c,e,lo,hi,j1,j2,_⟩:=k2.ex;exact .inr ⟨x,k1,c,e,(lo,hi),j1,j2⟩
  | ro cs' =>
    cases e;rcases hI.ro b cs h1 with k | ⟨x,k1,c,e,f,k2,k3⟩
    ·exact .inl k
    ·refine .inr ⟨x,k1,c,e,f,?_,k3⟩;rw [hI.below.block _ (ft.1 k2).1]; exact k2
  | _=>cases e
 ·obtain⟨M,_,e⟩:=get hb; cases M <;> cases e
def kQ (P:Program):List Code→(Exit→Act→World→Prop)→Act→World→Prop
 | [],K=>K .normal
 | c::l,K=>c.wp P fun x a w=>match x with
   | .normal=>kQ P l K a w
   | x=>K x a w
theorem SSp.wp {nt n0:Nat} {Q:LX→Tm→St→Prop} {K:Exit→Act→World→Prop} {W0:World}:∀ {l:List Code} {tm:Tm} {s:St} {r:Ren} {a:Act} {w:World},SSp P nt l n0 tm s Q→n0≤s.n→Inv W0 r s w→AR r (aQ tm) nt a →
  (∀ x tm' s' r' a' w',Q x tm' s'→Inv W0 r' s' w'→c0w n0 r s w r' s' w'→AR r' (aQ tm') nt a'→K (tH x) a' w')→kQ P l K a w
 | [],tm,s,r,a,w,h,hn,hI,hA,hK=>hK .normal tm s r a w h hI (c0w.of (Ext.refl _ _ _) hn) hA
 | c::l,tm,s,r,a,w,h,hn,hI,hA,hK=>h W0 r a w hI hA _ fun x tm' s' r' a' w' q1 q2 q3 q4=>by
   cases x with
   | normal=>exact SSp.wp q1 q3.n q2 q4 fun y tm2 s2 r2 a2 w2 p1 p2 p3 p4=>hK y tm2 s2 r2 a2 w2 p1 p2 (q3.trans p3) p4
   | exit id=>exact yR
   | ret=>exact yR
theorem LM {K:Exit→Act→World→Prop}:∀ {l m:List Code} {a:Act} {w:World},kQ P l (fun x a w=>match x with | .normal=>kQ P m K a w | x=>K x a w) a w→kQ P (l++m) K a w
 | [],m,a,w,h=>h
 | c::l,m,a,w,h=>by
   refine Code.wp_mono ?_ h;intro x a' w' h';cases x with
   | normal=>exact LM h'
   | _=>exact h'
abbrev SN:=@Exit.then
theorem W1:∀ {c:Code} {K:Exit→Act→World→Prop} {a:Act} {w:World},kQ P (cG c) K a w→c.wp P K a w:=by
 have split:∀ {l m:List Code} {K:Exit→Act→World→Prop} {a:Act} {w:World},kQ P (l++m) K a w→kQ P l (fun x a w=>match x with | .normal=>kQ P m K a w | x=>K x a w) a w:=by
  intro l
  induction l with
  | nil=>intro m K a w h; exact h
  | cons c l ih =>
    intro m K a w h;refine Code.wp_mono ?_ h;intro x a' w' h';cases x with
    | normal=>exact ih h'
    | _=>exact h'
 have one:∀ {c:Code} {K:Exit→Act→World→Prop} {a:Act} {w:World},kQ P [c] K a w→c.wp P K a w:=by
  intro c K a w h;refine Code.wp_mono ?_ h;intro x a' w' h';cases x <;> exact h'
 have weak:∀ {l:List Code} {K K':Exit→Act→World→Prop} {a:Act} {w:World},(∀ x a w,K x a w→K' x a w)→kQ P l K a w→kQ P l K' a w:=by
  intro l
  induction l with
  | nil=>intro K K' a w hq h; exact hq _ _ _ h
  | cons c l ih =>
    intro K K' a w hq h;refine Code.wp_mono ?_ h;intro x a' w' h';cases x with
    | normal=>exact ih hq h'
    | _=>exact hq _ _ _ h'
 intro c
 induction c with
 | seq a b iha ihb =>
   intro K ac w h;have to:kQ P (cG a++cG b) K ac w→kQ P (cG a) (SN (b.wp P K) K) ac w:=fun h=>by
    refine weak ?_ (split h);intro x a' w' h';cases x with
    | normal=>exact ihb h'
    | _=>exact h'
   refine wp_seq (iha (to h))
 | _=>intro K a w h; exact one h
def Hi (t:Nat) (W0:World) (K:Exit→Act→World→Prop):Prop:=∀ (x:LX) (a:Act) (w:World),uX x→a.defers=[]→a.tmps[t]? = some (.b true)→Below W0.heap.size W0 w→K (tH x) a w
def SW (P:Program) (nt t:Nat) (l:List Code) (tm:Tm) (s:St):Prop:=∀ (W0:World) (r:Ren) (a:Act) (w:World),Inv W0 r s w→AR r (aQ tm) nt a→∀ K:Exit→Act→World→Prop,Hi t W0 K→kQ P l K a w
abbrev ur:LV→a9→Prop:=fun l _=>l=.b true
theorem E6 {n0 t nt:Nat} {L:List Nat} {g:aL} (hin:pk [t] L=true) {x:LX} {tm:Tm} {s:St} (h:vK L (sS n0 [t] L g ur) x tm s) {W0:World} {r:Ren} {a:Act} {w:World} (hI:Inv W0 r s w) (hA:AR r (aQ tm) nt a) (ht:t < nt) {K:Exit→Act→World→Prop} (hK:Hi t W0 K):K (tH x) a w:=by
 obtain⟨h1,h2,l0,b0,ρ,h3,h4⟩:=h;have hl:l0=.b true:=h3;subst hl;rw [EQ hin] at h4;have h5:=h4.2.1;simp only [og,lp,List.map_nil,mj,kY,Nat.beq_refl,aw,kG] at h5;obtain⟨v,k1,k2⟩:=hA.get t ht;have:=h5.sound k2;simp only [VR] at this;subst this;exact hK x a w h1 hA.defers k1 hI.below
theorem SW.of {n0 t nt:Nat} {l:List Code} {tm:Tm} {s:St} {L:List Nat} {g:aL} (hin:pk [t] L=true) (ht:t < nt) (hn:n0≤s.n) (h:SSp P nt l n0 tm s (vK L (sS n0 [t] L g ur))):SW P nt t l tm s :=
 fun W0 r a w hI hA K hK=>SSp.wp h hn hI hA fun x tm' s' r' a' w' q1 q2 q3 q4=>E6 hin q1 q2 q4 ht hK
theorem SW.step {σ : Type} {n0 t nt:Nat} {l m:List Code} {tm:Tm} {s:St} {L:List Nat} {g:aL} {T : σ→List (Nat×LV)} {H : σ→a9} (hin:pk [t] L=true) (ht:t < nt) (hn:n0≤s.n) (h1:SSp P nt l n0 tm s (vK L (oO n0 nt L g T H (sS n0 [t] L g ur)))) (h2:∀ a,SW P nt t m (aF nt (T a)) (ai (H a) g)):SW P nt t (l++m) tm s:=by
 intro W0 r a w hI hA K hK;refine LM (SSp.wp h1 hn hI hA fun x tm' s' r' a' w' q1 q2 q3 q4=>?_);cases x with
 | normal =>
   obtain⟨hg,b,ρ,hc⟩:=q1;obtain⟨r0,k1,k2,_⟩:=Conv.of_ok hc W0 r' a' w' q2 q4;rw [hg] at k1;exact h2 b W0 r0 a' w' k1 k2 K hK
 | exit id=>exact E6 hin q1 q2 q4 ht hK
 | ret=>exact E6 hin q1 q2 q4 ht hK
theorem SW.to {σ : Type} {cx:Cx} (hcx:cT P (cv cx)) {n nt n0 t:Nat} {l:List Code} {i:Nat} (j k:Nat) (hk:i+j=k:=by rfl) {tm:Tm} {s:St} {L:List Nat} {g:aL} (hin:pk [t] L=true) (ht:t < nt) (T : σ→List (Nat×LV)) (H : σ→a9) (hn:n0≤s.n)
  (h1:bc P cx n nt (bS l i j) tm s (vK L (oO n0 nt L g T H (sS n0 [t] L g ur)))) (h2:∀ a,SW P nt t (l.drop k) (aF nt (T a)) (ai (H a) g)):SW P nt t (l.drop i) tm s:=by
 subst hk;rw [EZ l i j];exact SW.step hin ht hn (SSp.vc hcx hn h1) h2
theorem SW.code_to {σ : Type} {nt n0 t:Nat} {l:List Code} {i:Nat} (k:Nat) (hk:i+1=k:=by rfl) {tm:Tm} {s:St} {L:List Nat} {g:aL} (hin:pk [t] L=true) (ht:t < nt) (T : σ→List (Nat×LV)) (H : σ→a9) (hl:Nat.ble k l.length=true) (hn:n0≤s.n)
  (h1:a0n P nt (bi l i) n0 tm s (vK L (oO n0 nt L g T H (sS n0 [t] L g ur)))) (h2:∀ a,SW P nt t (l.drop k) (aF nt (T a)) (ai (H a) g)):SW P nt t (l.drop i) tm s:=by
 subst hk;have:=aS hl;rw [oA l i ab];refine SW.step (l:=[bi l i]) hin ht hn ?_ h2;refine a0n.mono h1 fun x tm s h=>?_
 cases x <;> exact h
theorem SW.last {cx:Cx} (hcx:cT P (cv cx)) {n nt n0 t:Nat} {l:List Code} {i:Nat} {tm:Tm} {s:St} {L:List Nat} {g:aL} (hin:pk [t] L=true) (ht:t < nt) (hn:n0≤s.n) (h:bc P cx n nt (l.drop i) tm s (vK L (sS n0 [t] L g ur))):SW P nt t (l.drop i) tm s :=
 SW.of hin ht hn (SSp.vc hcx hn h)
theorem SW.freeze {nt t o γ : Nat} {l:List Code} {as:List (Nat×LV)} {bs:a9} {g g':aL} {q:SQ} (ho:bs[o]? = some (e_ q γ)) (hg:∀ W w:World,Gl W g→Below W.heap.size W w→q.F w→Gl w g')
  (h:(∃ w,q.F w)→SW P nt t l (aF nt as) (ai (bs.map xl) g')):SW P nt t l (aF nt as) (ai bs g):=by
 intro W0 r a w hI hA K hK;have hF:q.F w:=by
  obtain⟨F,e,hq⟩:=q;cases e with
  | true=>exact hq rfl w
  | false =>
    obtain⟨x,h1,h2,h3⟩:=hI.ob.holds o bG [.fact F] γ (by rw [b8]; exact ho);obtain⟨F',e',hF'⟩:=h3 w hI.below (aR _) fun _ _=>rfl
    simp only [iJ,LV.fact.injEq,kG] at e';subst e'; exact hF'
 exact h ⟨w,hF⟩ w r a w (hI.freeze (hg W0 w hI.gl hI.below hF)) hA K fun x a' w' k1 k2 k3 k4=>hK x a' w' k1 k2 k3 (hI.below.trans (k4.mono hI.below.size))
theorem SW.conv {nt n0 t:Nat} {l:List Code} {tm cO:Tm} {s s0:St} (h:Conv n0 nt tm s cO s0) (k:SW P nt t l cO s0):SW P nt t l tm s:=by
 intro W0 r a w hI hA K hK;obtain⟨r0,h1,h2,_⟩:=h W0 r a w hI hA;exact k W0 r0 a w h1 h2 K hK
theorem SW.law {f:Nat} {rows:List (Value×Nat×al)} {g:List (Nat×al)} {W:World} {args:al} {us:List Value} (nt t:Nat) (hf:fnOk P f nt [t] args.length=true) (hr:Ai W rows) (hg:Gl W g)
  (ht:(ib args 0 .leaf).isSome=true) (htn:t < nt) (hv:∀ r:Ren,(∀ (i:Nat) v n cs,rows[i]? = some (v,n,cs)→VR r (.slo i 0 n 0) v)→VRs r args us)
  (h:SW P nt t ((sp P f).drop 0) (cO args) (ai (mf rows) g)):Calls P f us.toArray W fun e W'=>e=.returned (.b true)∧Below W.heap.size W W':=by
 obtain⟨xs,hl,hx⟩:=Fy hr;have hnl:∀ b,¬ (ai (mf rows) g).lives b:=fun b ⟨L,h1,h2⟩=>by
  rw [b8] at h1;simp only [mf,oL,mY] at h1;obtain⟨a,_,rfl⟩:=h1;cases h2
 have hI:Inv W (fun b=>match xs[b]? with | some x=>x | none=>none) (ai (mf rows) g) W:=by
  refine⟨Below.refl _ _,fun b x hb=>?_,fun b x hlv=>absurd hlv (hnl b),fun b hb=>?_,fun b b' x x' hlv=>absurd hlv (hnl b),fun b cs op hb=>?_,fun b t p hb=>?_,hg,fun b cs hb=>?_,c2d.none fun b F cs g hb=>hnl b ⟨_,hb,rfl⟩⟩
  ·cases hxb:xs[b]? with
   | none=>simp [hxb] at hb
   | some y =>
     simp only [hxb] at hb;subst hb;have hlt:=(bU.1 hxb).1;obtain⟨⟨v,n,cs⟩,hrow⟩:∃ q,rows[b]? = some q:=⟨_,cq ab⟩;obtain⟨y,k1,k2⟩:=hx b v n cs hrow;rw [hxb] at k1; simp at k1; subst k1;rcases k2 with⟨e,_⟩ | ⟨B,o,c,cc,e,f,k3,k4,k5,k6,k7⟩
     ·cases e
     ·exact GH
  ·exact wm
  iterate 2
   ·rw [b8] at hb; simp [mf] at hb
  ·rw [b8] at hb;simp only [mf,oL,mY] at hb;obtain⟨⟨v,n,ds⟩,hrow,e⟩:=hb;simp at e; subst e;obtain⟨y,k1,k2⟩:=hx b v n ds hrow;simp only [k1];rcases k2 with⟨e1,e2,_⟩ | ⟨B,o,c,cc,e,f,k3,k4,k5,k6,k7⟩
   ·exact .inl ⟨e2,e1⟩
   ·exact GG
 have hus:VRs (fun b=>match xs[b]? with | some x=>x | none=>none) args us:=hv _ fun i v n cs hi=>by
  obtain⟨y,k1,k2⟩:=hx i v n cs hi;simp only [VR,k1];rcases k2 with⟨e1,e2,e3,e4⟩ | ⟨B,o,c,cc,e,f,k3,k4,k5,k6,k7⟩
  ·exact .inr ⟨e3,e4⟩
  ·exact .inl ⟨B,o,c,k3,ab,by simp [k4]⟩
 generalize (fun b=>match xs[b]? with | some x=>x | none=>none:Ren)=r at hI hus;have ht':ib args 0 .leaf=some (cO args):=by
  unfold cO;cases hi:ib args 0 .leaf with
  | none=>rw [hi] at ht; cases ht
  | some t=>rfl
 obtain⟨fn,c,h1,h2,h3,h4,h5⟩:∃ fn c,P.funcs[f]? = some fn∧fn.body=some c∧fn.ntmps=nt∧args.length≤nt∧fn.results.toList=tmps [t]:=by
  unfold fnOk at hf;split at hf
  ·rename_i fn h1;split at hf
   ·rename_i c h2;simp only [bg] at hf;exact⟨fn,c,h1,h2,bt hf.1.1,aS hf.1.2,Fi hf.2⟩
   ·cases hf
  ·cases hf
 have hsp:sp P f=cG c:=by simp [sp,z8,h1,h2]
 rw [List.drop_zero,hsp] at h;have hul:=hus.length;have hA:AR r (aQ (cO args)) nt { tmps:=us.toArray++Array.replicate (nt - us.toArray.size) undef,defers:=[] }:=by
  have hg:=Ba args 0 .leaf _ ht';refine⟨by simp; omega,rfl,fun t htt=>?_,fun t htt=>?_⟩
  ·rw [hg];by_cases h1:t < args.length
   ·rw [aB ab];obtain⟨u,q1,q2⟩:=hus.get (cq h1);refine⟨u,?_,?_⟩
    ·rw [sv ke]; simpa using q1
    ·simpa [h1] using q2
   ·rw [av ab];refine⟨undef,?_,?_⟩
    ·exact GI
    ·simp only [aQ,Tr.i3p]; exact rY
  ·rw [hg,av ab]; simp [aQ,Tr.i3p]
 subst h3;refine calls_of_wp h1 h2 (W1 (h W r _ W hI hA _ fun x a' w' k1 k2 k3 k4=>?_));have hrs:fn.results=#[.tmp t]:=by
  have:fn.results.toList=[.tmp t]:=h5;cases hq:fn.results with
  | mk l=>rw [hq] at this; simp only at this; rw [this]
 have hrun:(results fn a'.tmps).run P w'=.ok (.b true) w':=by
  rw [results_tmp hrs];simp [k3]
 cases x with
 | exit id=>exact k1.elim
 | normal=>exact⟨k2,_,hrun,rfl,k4⟩
 | ret=>exact⟨k2,_,hrun,rfl,k4⟩
theorem SW.absorb {nt t0:Nat} {l:List Code} {as:List (Nat×LV)} {bs:a9} {g:aL} (t b o:Nat) {γ n:Nat} {cs:al} {op:Option Nat} {q:SQ} (ht:t < nt) (hs:kC as t=.slo b 0 n 0)
  (hb:bs[b]? = some (.cells cs op)) (ho:bs[o]? = some (e_ q γ)) (hno:a1u cs=true) (hn:n=0→cs=[])
  (h:∀ (v:Value) (q':SQ),q'.F=(fun W=>q.F W∧a4n W v n cs)→SW P nt t0 l (aF nt ((t,.val v)::as)) (ai ((bs.set b .dead).set o .dead++[e_ q' (bs.length+1),.dead]) g)):SW P nt t0 l (aF nt as) (ai bs g):=by
 intro W0 r a w hI hA K hK;obtain⟨u,hu1,hu2⟩:=hA.get t ht;rw [oC,aB ht,hs] at hu2;obtain⟨q',hq,r1,h2,h3,h4⟩:=hI.absorb hb ho hno hn hu2;have hA1:AR r1 (aQ (aF nt ((t,.val u)::as))) nt a:=by
  refine⟨hA.size,hA.defers,fun t' ht'=>?_,fun t' ht'=>by rw [oC,av ab]⟩;obtain⟨v,k1,k2⟩:=hA.get t' ht';refine⟨v,k1,?_⟩;rw [oC,aB ht'] at k2 ⊢;simp only [kC,b7];by_cases e:t=t'
  ·subst e;rw [hu1] at k1; cases k1;simp only [bD,aw,VR];refine⟨trivial,?_⟩;simp only [VR] at hu2;rcases hu2 with⟨B,w',c,_,_,e⟩ | ⟨_,e | ⟨_,e⟩⟩
   iterate 3
    ·exact⟨_,_,_,e⟩
  ·simp only [e,fX,aD];exact k2.mono h3
 exact h u q' hq W0 r1 a w h2 hA1 K hK
def zr (s:St) (b:Nat):Option al:=match s.h.get b with
 | some (.ro c)=>some c
 | some (.cells c _)=>some c
 | _=>none
theorem VX {s:St} {b:Nat} {c:al} (h:zr s b=some c):s.h.get b=some (.ro c)∨∃ op,s.h.get b=some (.cells c op):=by
 unfold zr at h;split at h
 ·rename_i e; cases h; exact .inl e
 ·rename_i e; cases h; exact .inr ⟨_,e⟩
 ·cases h
def xr (ρ : List Nat) (f:Nat→Nat→Nat) (r:Ren):Ren:=fun i=>match ρ[i]? with
 | some b=>(r b).map fun x=>(x.1,x.2.1,f i x.2.2)
 | none=>none
theorem a0j.frozen {f:Nat} {args args0:al} {s:St} (ρ : List Nat) (cs:List al) (fc:Nat→Nat→Nat) {g0:aL} {v:LV} (hv:b4m v=true) (hlen:cs.length = ρ.length)
  (hρ : ∀ (i b:Nat) c,ρ[i]? = some b→cs[i]? = some c→zr s b=some c) (hno:∀ c∈cs,a1u c=true) (hg:∀ W w:World,Gl W s.g→Below W.heap.size W w→Gl w g0) (ha:∀ (r:Ren) us,VRs r args us→VRs (xr ρ fc r) args0 us)
  (h:a0j P f args0 (ai (cs.map .ro) g0) fun l _=>l=v):a0j P f args s fun l s'=>l=v∧s'=s:=by
 refine a0j.i3z fun W0 r w us hI hu=>?_
 have hget:∀ {t:Nat} {L:LB},(ai (cs.map .ro) g0).h.get t=some L→∃ c b,L=.ro c∧cs[t]? = some c∧ρ[t]? = some b∧zr s b=some c:=fun {t L} ht=>by
  rw [b8,oL,mY] at ht;obtain⟨c,h1,h2⟩:=ht;have hl:t < ρ.length:=by rw [← hlen]; exact(bU.1 h1).1
  exact⟨c,ρ[t],h2.symm,h1,cq hl,hρ t _ c (cq hl) h1⟩
 have nolive:∀ t,¬ (ai (cs.map .ro) g0).lives t:=fun t ⟨L,h1,h2⟩=>by
  obtain⟨c,b,e,_⟩:=hget h1;subst e; cases h2
 have hren:∀ t b,ρ[t]? = some b→xr ρ fc r t=(r b).map fun x=>(x.1,x.2.1,fc t x.2.2):=fun t b hb=>by simp [xr,hb]
 have hI0:Inv w (xr ρ fc r) (ai (cs.map .ro) g0) w:=by
  refine⟨Below.refl _ _,fun t x hx=>?_,fun b x hl=>absurd hl (nolive b),fun b hb=>?_,fun b b' x x' hl=>absurd hl (nolive b),fun b ds op hb=>?_,fun b t p hb=>?_,hg W0 w hI.gl hI.below,fun t ds hb=>?_,c2d.none fun b F ds γ hb=>?_⟩
  ·cases hb : ρ[t]? with
   | none=>simp [xr,hb] at hx
   | some b =>
     rw [hren t b hb,mY] at hx;obtain⟨y,hy,rfl⟩:=hx;have:=(bU.1 hb).1;exact⟨by rw [cN]; simp; omega,(hI.dom b y hy).2⟩
  ·exact wm
  iterate 2
   ·obtain⟨c,b',e,_⟩:=hget hb; cases e
  ·obtain⟨c,b,e,h1,h2,h3⟩:=hget hb;cases e;have hn:=hno ds (fS h1);rw [hren t b h2];rcases VX h3 with k | ⟨op,k⟩
   ·rcases hI.ro b ds k with⟨q,q'⟩ | ⟨x,q1,c,e,f,q2,q3⟩
    ·exact .inl ⟨q,by rw [q']; rfl⟩
    ·refine .inr ⟨(x.1,x.2.1,fc t x.2.2),by rw [q1]; rfl,c,e,f,?_,fun i l hi=>let ⟨g1,u,g2,g3⟩:=q3 i l hi; ⟨g1,u,g2,b4m.sound (ml.1 hn l (fS hi)) g3⟩⟩;rw [hI.below.block _ (ft.1 q2).1]; exact q2
   ·rcases hI.cells b ds op k with⟨q,q'⟩ | ⟨x,q1,q2⟩
    ·exact .inl ⟨q,by rw [q']; rfl⟩
    ·obtain⟨c,e,lo,hi,j1,j2,_⟩:=q2.ex;exact .inr ⟨(x.1,x.2.1,fc t x.2.2),by rw [q1]; rfl,c,e,(lo,hi),j1,fun i l hi=>let ⟨g1,u,g2,g3⟩:=j2 i l hi; ⟨g1,u,g2,b4m.sound (ml.1 hn l (fS hi)) g3⟩⟩
  ·obtain⟨c,b',e,_⟩:=hget hb; cases e
 refine(h w _ w us hI0 (ha r us hu)).mono fun e w' ⟨l,s',v',r',hl,he,hvv,hIw,_⟩=>?_
 subst hl;exact⟨v',he,b4m.sound hv hvv,hIw.below⟩
theorem a4n.up {W w:World} {v:Value} {n:Nat} {cs:al} (h:a4n W v n cs) (hb:Below W.heap.size W w):a4n w v n cs:=by
 rcases h with h | ⟨B,o,cap,c,e,f,h1,h2,h3,h4⟩
 ·exact .inl h
 ·exact .inr ⟨B,o,cap,c,e,f,h1,h2,by rw [hb.block _ (ft.1 h3).1]; exact h3,h4⟩
theorem VQ {l:LV} (h:mc l=true) {r r':Ren} {u:Value} (hv:VR r l u):VR r' l u:=by
 cases l <;> simp [mc] at h <;> simpa only [VR] using hv
theorem WR {l l':LV} (h:mc l=true) (h':mc l'=true) {r:Ren} {u:Value} (hv:VR r l u) (hv':VR r l' u):l=l':=by
 cases l <;> simp [mc] at h <;> cases l' <;> simp [mc] at h' <;> simp only [VR] at hv hv'
 ·subst hv; cases hv'; rfl
 iterate 2
  ·subst hv; cases hv'
 ·exact BG
 ·subst hv; cases hv'
 ·subst hv; cases hv'; rfl
 ·subst hv; cases hv'
 ·exact BG
 iterate 2
  ·subst hv; cases hv'
 ·subst hv; simp at hv'; subst hv'; rfl
 ·exact BG
 iterate 3
  ·subst hv'; obtain⟨_,a,n,c,e⟩:=hv; cases e
 ·rw [← hv.1,← hv'.1]
theorem a4n.at' {W:World} {v:Value} {n:Nat} {cs:al} (h:a4n W v n cs) (hc:cs.all mc=true) {k m:Nat} (hk:k+m≤cs.length) (hm:0 < m):Dr W v k ((cs.drop k).take m):=by
 rcases h with⟨_,_,rfl⟩ | ⟨B,o,cap,c,e,f,rfl,_,h3,h4⟩
 ·simp at hk; omega
 ·refine⟨B,o,n,cap,c,e,f,rfl,h3,fun i l hi=>?_⟩;rw [List.getElem?_take] at hi;split at hi
  ·rw [sB] at hi;obtain⟨p1,u,p2,p3⟩:=h4 _ _ hi;have:=j_.1 hc l (fS hi);exact⟨p1,u,by rw [← p2]; congr 1; omega,fun r=>VQ this p3⟩
  ·cases hi
theorem AF {F:World→Prop} {v:Value} {n:Nat} {cs:al} (hs:∃ W,F W) (hF:∀ W,F W→a4n W v n cs) (hc:cs.all mc=true) {k m:Nat} (hk:k+m≤cs.length) (hm:0 < m) :
  ip F v k m=true∧aH F v k m=(cs.drop k).take m:=by
 have hc2:((cs.drop k).take m).all mc=true:=j_.2 fun l hl=>j_.1 hc l (List.mem_of_mem_drop (List.mem_of_mem_take hl))
 have hl:((cs.drop k).take m).length=m:=by rw [sr,List.length_drop]; omega
 have hp:zZ F v k m:=⟨_,hl,hc2,hs,fun W h=>(hF W h).at' hc hk hm⟩;have hok:rz F v k m=true:=by
  unfold rz;exact @decide_eq_true _ (Classical.propDecidable _) hp
 refine⟨hok,?_⟩;obtain⟨k1,k2,k3⟩:=Li hok;obtain⟨W,hW⟩:=hs;obtain⟨B,o,n1,c1,cc,e,f,rfl,q2,q3⟩:=k3 W hW;obtain⟨B',o',n1',c1',cc',e',f',q1',q2',q3'⟩:=(hF W hW).at' hc hk hm;simp only [Value.slice.injEq,a8,Addr.mk.injEq,kG] at q1';obtain⟨⟨rfl,rfl⟩,rfl,rfl⟩:=q1';rw [q2] at q2';cases q2';show o_ F _ k m=_;refine List.ext_getElem? fun i=>?_
 by_cases hi:i < m
 ·have h1:(o_ F (.slice (some ⟨B,o,none⟩) n1 c1) k m)[i]? = some ((o_ F (.slice (some ⟨B,o,none⟩) n1 c1) k m)[i]' ab):=cq ab;have h2:((cs.drop k).take m)[i]? = some (((cs.drop k).take m)[i]' ab):=cq ab;obtain⟨_,u,p1,p2⟩:=q3 i _ h1;obtain⟨_,u',p1',p2'⟩:=q3' i _ h2;rw [p1] at p1'; cases p1';rw [h1,h2]
  congr 1
  exact WR (j_.1 k2 _ (fS h1)) (j_.1 hc2 _ (fS h2)) (p2 rM) (p2' rM)
 ·rw [gO ab,gO ab]
theorem Wj {W:World} {v:Value} {n:Nat} {cs:al} (h:a4n W v n cs):mw v=n:=by
 rcases h with⟨rfl | ⟨a,rfl⟩,rfl,_⟩ | ⟨B,o,cap,c,e,f,rfl,_⟩ <;> rfl
theorem Ky {W:World} {v:Value} {n i:Nat} {cs:al} (h:a4n W v n cs) (hi:i < n):iE v i=true:=by
 rcases h with⟨_,rfl,_⟩ | ⟨B,o,cap,c,e,f,rfl,_⟩
 ·omega
 ·exact dh hi
theorem Inv.pin {W0 w:World} {r:Ren} {bs:a9} {g:aL} {a j b n:Nat} {cs:al} {op:Option Nat} (hI:Inv W0 r (ai bs g) w) (ha:bs[a]? = some (.cells cs op)) (hj:cs[j]? = some (.slo b 0 n 0)) :
  ∃ u,VR r (.slo b 0 n 0) u∧Inv W0 r (ai (bs.set a (.cells (cs.set j (.val u)) op)) g) w∧∀ B,a4j r (ai (bs.set a (.cells (cs.set j (.val u)) op)) g) B→a4j r (ai bs g) B:=by
 have hal:a < bs.length:=(bU.1 ha).1;have hga:(ai bs g).h.get a=some (.cells cs op):=by rw [b8]; exact ha
 rcases hI.cells a cs op hga with⟨q1,_⟩ | ⟨x,k1,k2⟩
 ·subst q1; cases hj
 obtain⟨c,e,lo,hi,j1,j2,j3,j4,j5⟩:=k2.ex;obtain⟨p1,u,p2,p3⟩:=j2 j _ hj;have hjl:j < cs.length:=(bU.1 hj).1;have hu:VR r (.val u) u:=by
  simp only [VR] at p3 ⊢;refine⟨trivial,?_⟩;rcases p3 with⟨B,w',c,_,_,e⟩ | ⟨_,e | ⟨_,e⟩⟩
  iterate 3
   ·exact⟨_,_,_,e⟩
 have get:∀ {t:Nat} {L:LB},(ai (bs.set a (.cells (cs.set j (.val u)) op)) g).h.get t=some L→(t=a∧L=.cells (cs.set j (.val u)) op)∨(ai bs g).h.get t=some L:=fun {t L} ht=>by
  rw [b8] at ht ⊢;by_cases e:t=a
  ·subst e; rw [pK hal] at ht; cases ht; exact .inl ⟨rfl,rfl⟩
  ·rw [mV (Ne.symm e)] at ht; exact .inr ht
 have hlv:∀ t,(ai (bs.set a (.cells (cs.set j (.val u)) op)) g).lives t→(ai bs g).lives t:=fun t ⟨L,h1,h2⟩=>by
  rcases get h1 with⟨rfl,rfl⟩ | h
  ·exact⟨_,hga,rfl⟩
  ·exact⟨L,h,h2⟩
 have obj:∀ t F cs' γ,(ai (bs.set a (.cells (cs.set j (.val u)) op)) g).h.get t=some (.obj F cs' γ)→(ai bs g).h.get t=some (.obj F cs' γ):=fun t F cs' γ h=>by
  rcases get h with⟨_,e⟩ | h
  ·cases e
  ·exact h
 refine⟨u,p3,⟨hI.below,fun t y hy=>?_,fun t y hl=>hI.own t y (hlv t hl),fun t ht=>?_,fun t t' y y' k k'=>hI.inj t t' y y' (hlv t k) (hlv t' k'),fun t ds oq ht=>?_,fun t s p ht=>?_,hI.gl,fun t ds ht=>?_,hI.ob.step r.le_refl obj (fun t y q1 q2=>.inl ⟨hlv t q1,q2⟩) (aR _) fun _ _=>rfl⟩,fun B hB=>?_⟩
 ·have:=hI.dom t y hy;rw [cN] at this ⊢;simpa using this
 ·rw [b8,gO (by rw [cN] at ht; exact ht)]
 ·rcases get ht with⟨rfl,e1⟩ | h
  ·cases e1;refine .inr ⟨x,k1,⟨⟨c,e,lo,hi,j1,fun i l hl=>?_,by simpa [dv] using j3,by simpa [dv] using j4,j5⟩,by simpa [dv] using k2.fits⟩⟩;by_cases ei:i=j
   ·subst ei;rw [pK hjl] at hl; cases hl;exact⟨rfl,u,p2,hu⟩
   ·rw [mV (Ne.symm ei)] at hl;exact j2 i l hl
  ·exact hI.cells t ds oq h
 ·rcases get ht with⟨_,e1⟩ | h
  ·cases e1
  ·exact hI.iter t s p h
 ·rcases get ht with⟨_,e1⟩ | h
  ·cases e1
  ·exact hI.ro t ds h
 ·rcases hB with⟨t,y,hl,hy,e1⟩ | ⟨t,F,ds,γ,h1,h2⟩
  ·exact .inl ⟨t,y,hlv t hl,hy,e1⟩
  ·exact .inr ⟨t,F,ds,γ,obj _ _ _ _ h1,h2⟩
theorem SSp.i3t {nt n0:Nat} {l:List Code} {i:Nat} {tm:Tm} {bs:a9} {g:aL} {Q:LX→Tm→St→Prop} (a j b o:Nat) {γ n:Nat} {ds cs:al} {oa op:Option Nat} {q:SQ} (hl:Nat.blt i l.length=true) (hn0:n0≤bs.length) (ha:bs[a]? = some (.cells ds oa)) (hj:ds[j]? = some (.slo b 0 n 0)) (hab:a≠b) (hao:a≠o)
  (hb:bs[b]? = some (.cells cs op)) (ho:bs[o]? = some (e_ q γ)) (hno:a1u cs=true) (hn:n=0→cs=[])
  (h:∀ (v:Value) (q':SQ),q'.F=(fun W=>q.F W∧a4n W v n cs)→SSp P nt (l.drop i) n0 tm (ai (((bs.set a (.cells (ds.set j (.val v)) oa)).set b .dead).set o .dead++[e_ q' (bs.length+1),.dead]) g) Q):SSp P nt (l.drop i) n0 tm (ai bs g) Q:=by
 have:=aS hl;rw [oA l i ab] at h ⊢;intro W0 r ac w hI hA K' hK';obtain⟨u,hu,hI1,hO1⟩:=hI.pin ha hj;obtain⟨q',hq,r1,h2,h3,h4⟩:=hI1.absorb (b:=b) (o:=o) (by rw [mV hab]; exact hb) (by rw [mV hao]; exact ho) hno hn hu;rw [mn] at h2 h4;exact h u q' hq W0 r1 ac w h2 (hA.mono h3) K' fun x tm' s' r' a' w' q1 q2 q3 q4=>hK' x tm' s' r' a' w' q1 q2 ⟨fun t y ht hy=>q3.le t y ht (h3 t y hy),q3.n,q3.size,fun B hB ho=>hO1 B (h4 B (q3.img B hB ho)),fun B hB ho=>q3.keep B hB fun k=>ho (hO1 B (h4 B k))⟩ q4
theorem SW.unpack {nt t:Nat} {l:List Code} {tm:Tm} {bs:a9} {g:aL} {K:Kd} (hK:K.Ok) (b:Nat) {cs:al} {γ : Nat} (hb:bs[b]? = some (.obj K.F cs γ))
  (h:∀ v,K.enc v=cs→SW P nt t l tm (ai (bs.set b (K.sh v b bs.length).1++(K.sh v b bs.length).2) g)):SW P nt t l tm (ai bs g):=by
 intro W0 r a w hI hA K' hK';obtain⟨v,r1,h1,h2,h3,_⟩:=hI.unpack hK hb;exact h v h1 W0 r1 a w h2 (hA.mono h3) K' hK'
end
section
open Go.RowKit
variable {P:Program}
def Fr (get:Nat→Option LB):Nat→Option Nat
 | 0=>none
 | n+1=>match get n with
   | some (.obj F [.fact _] _)=>cond F.isSt (some n) (Fr get n)
   | _=>Fr get n
def storeAt (s:St):Option Nat:=Fr s.h.get s.n
theorem fF {l:ap} {p:Nat} (h:p < l.length):1≤aP l p∧p+aP l p≤l.length:=by
 have hs:(⟨l.toArray⟩:ByteArray).size=l.length:=rfl;unfold aP Utf8.decode;simp only [hs,bg,cu];split
 ·exact wl
 ·split
  ·rename_i h1;split
   iterate 2
    ·exact wl
  ·split
   ·rename_i h1;split
    iterate 2
     ·exact wl
   ·split
    ·rename_i h1;split
     iterate 2
      ·exact wl
    ·exact wl
theorem Kr {l:ap} {p:Nat} {b:UInt8} (h:l[p]? = some b) (hb:b.toNat < 128):aM l p=(b.toNat:Int)∧aP l p=1:=by
 have h0:p < l.length:=(bU.1 h).1;have hg:((⟨l.toArray⟩:ByteArray).get! (p+0))=b:=by
  simp only [ByteArray.get!,gA];rw [getElem!_pos l.toArray p (by simpa using h0)];have:=(bU.1 h).2;simpa using this
 unfold aM aP Utf8.decode;simp only [hg];rw [aB (show b.toNat < 0x80 by omega)];exact⟨rfl,rfl⟩
theorem Wk {W:World} {v:Value} {n size k:Nat} {cs:al} (h:a4n W v n cs) (hk:k≤n) (hl:cs.length=n * size) :
  mG v k=true∧a4n W (ci v size k) (n - k) (cs.drop (k * size)):=by
 rcases h with⟨he,rfl,rfl⟩ | ⟨B,o,cap,c,e,f,rfl,h1,h2,h3⟩
 ·obtain rfl:k=0:=ab;refine⟨?_,.inl ⟨?_,ab,aC⟩⟩
  ·rcases he with rfl | ⟨a,rfl⟩ <;> rfl
  ·rcases he with rfl | ⟨a,rfl⟩
   ·exact .inl rfl
   ·exact .inr ⟨a,rfl⟩
 ·refine⟨?_,?_⟩
  ·show(Nat.ble k n && Nat.ble n cap)=true;simp [dh hk,dh h1]
  ·by_cases hc:cap=k
   ·refine .inl ⟨.inr ⟨⟨B,o,none⟩,?_⟩,ab,?_⟩
    ·show te _ _ _=_;simp only [te,aB hc]
     congr 1 <;> omega
    ·rw [List.drop_eq_nil_iff,hl];exact Nat.mul_le_mul_right _ ab
   ·refine .inr ⟨B,o+k * size,cap - k,c,e,f,?_,ab,h2,fun i l hi=>?_⟩
    ·show te _ _ _=_;simp only [te,av hc,sx,jp]
    ·rw [sB] at hi;obtain⟨p1,u,p2,p3⟩:=h3 _ _ hi;exact⟨p1,u,by rw [← p2]; congr 1; omega,p3⟩
theorem Inv.known {W0 w:World} {r:Ren} {bs:a9} {g:aL} {q:SQ} {o γ : Nat} (hI:Inv W0 r (ai bs g) w) (ho:bs[o]? = some (e_ q γ)):q.F w:=by
 obtain⟨F,e,hq⟩:=q;cases e with
 | true=>exact hq rfl w
 | false =>
   obtain⟨x,h1,h2,h3⟩:=hI.ob.holds o bG [.fact F] γ (by rw [b8]; exact ho);obtain⟨F',e',hF'⟩:=h3 w hI.below (aR _) fun _ _=>rfl
   simp only [iJ,LV.fact.injEq,kG] at e';subst e'; exact hF'
theorem SSp.known {nt n0:Nat} {l:List Code} {i:Nat} {tm:Tm} {bs:a9} {g:aL} {Q:LX→Tm→St→Prop} (o:Nat) {γ : Nat} {q:SQ} (hl:Nat.blt i l.length=true) (ho:bs[o]? = some (e_ q γ))
  (h:(∃ w,q.F w)→SSp P nt (l.drop i) n0 tm (ai bs g) Q):SSp P nt (l.drop i) n0 tm (ai bs g) Q:=by
 have:=aS hl;rw [oA l i ab] at h ⊢;intro W0 r a w hI hA;exact h ⟨w,hI.known ho⟩ W0 r a w hI hA
end
end Go.Lev
