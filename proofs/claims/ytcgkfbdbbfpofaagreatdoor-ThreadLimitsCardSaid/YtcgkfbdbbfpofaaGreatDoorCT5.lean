/- ThreadLimits: a closed run up to a place, told anew as a lesser state -/
import Derived.Test.YtcgkfbdbbfpofaaGreatDoorCT3
import Derived.Test.YtcgkfbdbbfpofaaGreatDoorLc
import Derived.Test.YtcgkfbdbbfpofaaGreatDoorChecked
import Derived.KernelRfl
import Derived.Test.YtcgkfbdbbfpofaaGreatDoorLc
namespace Go.Lev
set_option linter.unusedSimpArgs false
set_option linter.unusedVariables false
open Go.RowKit
open Go.Proofs.Tryz (prog)
set_option maxRecDepth 100000
noncomputable section
def idAt (ids:List Nat) (b c:Nat):Bool:=match ids[b]? with
 | some x=>Nat.beq x c
 | none=>false
mutual
def lvB (ids:List Nat):LV→LV→Bool
 | .any,_=>true
 | .ptr b o,.ptr c o'=>idAt ids b c && Nat.beq o o'
 | .sl b o n k,.sl c o' n' k'=>idAt ids b c && Nat.beq o o' && Nat.beq n n' && Nat.beq k k'
 | .slo b o n k,.slo c o' n' k'=>idAt ids b c && Nat.beq o o' && Nat.beq n n' && Nat.beq k k'
 | .iface t a,.iface u b=>Nat.beq t u && lvB ids a b
 | a,b=>noId a && LV.eqb a b
def lvsB (ids:List Nat):List LV→List LV→Bool
 | [],[]=>true
 | a::xs,b::bs=>lvB ids a b && lvsB ids xs bs
 | _,_=>false
end
def noAny:List LV→Bool
 | []=>true
 | .any::_=>false
 | _::r=>noAny r
def lbB (ids:List Nat):LB→Option LB→Bool
 | .dead,_=>true
 | .cells cs op,some (.cells cs' op')=>(match op,op' with
   | none,none=>true
   | some a,some b=>Nat.beq a b
   | _,_=>false) && noAny cs && lvsB ids cs cs'
 | _,_=>false
def lbsB (ids:List Nat) (bs:List (Option LB)):List Nat→List LB→Bool
 | [],[]=>true
 | i::is,L::Ls=>lbB ids L (blkAt bs i) && lbsB ids bs is Ls
 | _,_=>false
def tmB (ids:List Nat) (L:List Nat) (vs:List LV):List (Nat×LV)→Bool
 | []=>true
 | (t,l)::xs=>lvB ids l (valAt L vs t) && tmB ids L vs xs
def idsS:List Nat→List Src
 | []=>[]
 | i::is=>.id i::idsS is
theorem idsS_get:∀ (ids:List Nat) (b:Nat),(idsS ids)[b]? = (ids[b]?).map .id
 | [],b=>by simp [idsS]
 | i::is,0=>by simp [idsS]
 | i::is,b+1=>by simpa [idsS] using idsS_get is b
theorem idAt_src {ids:List Nat} {b c:Nat} (h:idAt ids b c=true):lsrc (idsS ids) b=some (.id c):=by
 unfold idAt at h
 unfold lsrc
 rw [idsS_get]
 split at h
 ·rename_i x hx
  have:=Nat.eq_of_beq_eq_true h
  subst this
  rw [hx]; rfl
 ·cases h
mutual
theorem lvB_ok {ids:List Nat}:∀ {a b:LV},lvB ids a b=true→LVW (lsrc (idsS ids)) a b
 | a,b,h=>by
   unfold lvB at h
   split at h
   ·simp only [LVW]
   ·simp only [Bool.and_eq_true] at h
    simp only [LVW,idAt_src h.1]
    exact⟨trivial,Nat.eq_of_beq_eq_true h.2⟩
   ·simp only [Bool.and_eq_true] at h
    simp only [LVW,idAt_src h.1.1.1]
    exact⟨trivial,Nat.eq_of_beq_eq_true h.1.1.2,Nat.eq_of_beq_eq_true h.1.2,Nat.eq_of_beq_eq_true h.2⟩
   ·simp only [Bool.and_eq_true] at h
    simp only [LVW,idAt_src h.1.1.1]
    exact⟨trivial,Nat.eq_of_beq_eq_true h.1.1.2,Nat.eq_of_beq_eq_true h.1.2,Nat.eq_of_beq_eq_true h.2⟩
   ·simp only [Bool.and_eq_true] at h
    simp only [LVW]
    exact⟨Nat.eq_of_beq_eq_true h.1,lvB_ok h.2⟩
   ·simp only [Bool.and_eq_true] at h
    rw [← LV.eqb_eq h.2]
    exact noId_LVW h.1
theorem lvsB_ok {ids:List Nat}:∀ {a b:List LV},lvsB ids a b=true→LVWs (lsrc (idsS ids)) a b
 | [],[],_=>by simp only [LVWs]
 | a::xs,b::bs,h=>by
   simp only [lvsB,Bool.and_eq_true] at h
   simp only [LVWs]
   exact⟨lvB_ok h.1,lvsB_ok h.2⟩
 | [],b::bs,h=>by simp [lvsB] at h
 | a::xs,[],h=>by simp [lvsB] at h
end
theorem noAny_ok:∀ {cs:List LV},noAny cs=true→LV.any ∉ cs
 | [],_=>by simp
 | a::xs,h=>by
   cases a <;> simp only [noAny] at h <;> first
    | (cases h; done)
    | (have:=noAny_ok h; simp [this])
theorem lbB_ok {ids:List Nat} {i:Nat} {L:LB} {M:Option LB} (h:lbB ids L M=true):LBW (lsrc (idsS ids)) (.id i) L M:=by
 unfold lbB at h
 split at h
 ·simp only [LBW]
 ·simp only [Bool.and_eq_true] at h
  obtain⟨⟨h1,h2⟩,h3⟩:=h
  simp only [LBW]
  refine⟨?_,.inr (lvsB_ok h3),noAny_ok h2⟩
  split at h1
  ·rfl
  ·rw [Nat.eq_of_beq_eq_true h1]
  ·cases h1
 ·cases h
theorem lbsB_ok {ids:List Nat} {bs:List (Option LB)}:∀ {is:List Nat} {Ls:List LB},lbsB ids bs is Ls=true→okBlks (idsS ids) bs (idsS is) Ls
 | [],[],_=>by simp only [idsS,okBlks]
 | i::is,L::Ls,h=>by
   simp only [lbsB,Bool.and_eq_true] at h
   simp only [idsS,okBlks]
   exact⟨lbB_ok h.1,lbsB_ok h.2⟩
 | [],L::Ls,h=>by simp [lbsB] at h
 | i::is,[],h=>by simp [lbsB] at h
theorem tmB_ok {ids:List Nat} {nt:Nat} {L:List Nat} {vs:List LV}:∀ {xs:List (Nat×LV)},tmB ids L vs xs=true→okTms (idsS ids) nt L vs xs
 | [],_=>by simp only [okTms]
 | (t,l)::xs,h=>by
   simp only [tmB,Bool.and_eq_true] at h
   simp only [okTms]
   exact⟨lvB_ok h.1,tmB_ok h.2⟩
def convB (L:List Nat) (vs:List LV) (bs:List (Option LB)) (ids:List Nat) (T:List (Nat×LV)) (H:List LB):Bool :=
 Nat.beq (lenB H) (idsS ids).length && nodupB (undersOf (idsS ids) H) && tmB ids L vs T && lbsB ids bs ids H
theorem convB_ok {nt:Nat} {L:List Nat} {vs:List LV} {bs:List (Option LB)} {ids:List Nat} {T:List (Nat×LV)} {H:List LB} (h:convB L vs bs ids T H=true):convOk 0 nt L vs bs (idsS ids) T H:=by
 simp only [convB,Bool.and_eq_true] at h
 obtain⟨⟨⟨h1,h2⟩,h3⟩,h4⟩:=h
 refine⟨?_,tmB_ok h3,lbsB_ok h4⟩
 rw [h1,h2]; rfl
def cutR (L ids:List Nat) (T:List (Nat×LV)) (H:List LB) (o:Option (LX×Tm×St)):Bool×LV:=match o with
 | some (.normal,tm,s)=>(isG s.g && convB L (slotsOf L tm) (blksOf s) ids T H,tmGet tm 1)
 | _=>(false,.any)
theorem cut_to {l:List Code} {i j k nt:Nat} (hk:i+j=k) {tm:Tm} {s:St} {L ids:List Nat} {T:List (Nat×LV)} {H:List LB} {m:Int} {Φ : Pk} (hL:Nat.blt k l.length=true)
  (h:cutR (1::L) ids T H (lsp prog (ctrOf cxr) 20000 nt (seg l i j) tm s)=(true,.int .i64 m))
  (h2:SSp prog nt (l.drop k) 0 (mkTm nt ((1,.int .i64 m)::T)) (mkS H gtab) (vK (1::L) Φ)):SSp prog nt (l.drop i) 0 tm s (vK (1::L) Φ):=by
 subst hk
 rw [drop_seg l i j]
 have:=Nat.le_of_ble_eq_true hL
 cases hr:lsp prog (ctrOf cxr) 20000 nt (seg l i j) tm s with
 | none=>rw [hr] at h; cases h
 | some p =>
   obtain⟨x,tm',s'⟩:=p
   rw [hr] at h
   cases x with
   | exit k=>cases h
   | ret=>cases h
   | normal =>
     simp only [cutR,Prod.mk.injEq,Bool.and_eq_true] at h
     obtain⟨⟨h3,h4⟩,h5⟩:=h
     refine SSp.join (SSp.lrun cxr_ok (Nat.zero_le _) hr ?_)
     have hc:=convB_ok (nt:=nt) h4
     have k:=toK_ok (nt:=nt) (n0:=0) (l:=l.drop (i+j)) (L:=1::L) (g:=gtab) (T:=fun _:Unit=>(1,.int .i64 m)::T) (H:=fun _=>H) (Φ:=Φ) (fun e=>by have h3:=congrArg List.length e; simp at h3; omega) (fun _=>h2) (x:=.normal) (tm:=tm') (s:=s') ⟨isG_eq h3,(),idsS ids,hc.1,⟨by show LVW _ _ (valAt (1::L) (slotsOf (1::L) tm') 1); rw [show valAt (1::L) (slotsOf (1::L) tm') 1=tmGet tm' 1 from rfl,h5]; simp only [LVW]; exact⟨trivial,trivial⟩,hc.2.1⟩,hc.2.2⟩
     exact k
end
end Go.Lev
