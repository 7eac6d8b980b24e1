import Derived.Test.YtnkkkihgljbllaaDoorLc
import Derived.Test.YtnkkkihgljbllaaDoorChecked
import Derived.KernelRfl
import Derived.Shelf.Strings.Builder1
/- strings.Builder: what copyCheck does with a builder of its own block -/
namespace Go.Lev
set_option linter.unusedSimpArgs false
set_option linter.unusedVariables false
open Go.RowKit
open Go.Proofs.Tryd (prog)
theorem IM:(prog.info? 63).map (·.size)=some 2:=ak
theorem Uu:liesAt prog prog.depth 63 (2 / prog.cellsOf 63) 0 63 1=true:=ak
set_option maxHeartbeats 1000000 in
set_option maxRecDepth 100000 in
theorem Uy (b:Nat) (w:World) (h0:w.cell? ⟨b,0,none⟩=some (.pointer (some ⟨b,0,none⟩))) :
  Calls prog 39 #[.pointer (some ⟨b,0,none⟩)] w fun e w'=>e=.returned (.tuple #[])∧w'=w:=by
 obtain⟨j,hj,_⟩:=mY.1 IM
 go_enter Go.Proofs.Tryd.func39,Go.Proofs.Tryd.ntmps39
 go_wp2
 rw [Lib.run_neq_ptr_same w _ Go.Proofs.Tryd.underlying61 hj]
 go_wp2
 go_end0
 exact⟨rfl,rfl⟩
set_option maxHeartbeats 1000000 in
set_option maxRecDepth 100000 in
theorem VS (b:Nat) (w:World) (h0:w.cell? ⟨b,0,none⟩=some (.pointer none)) (hsh:w.shape? b=some (63,2)) (hfz:w.frozen? ⟨b,0,none⟩=false) :
  Calls prog 39 #[.pointer (some ⟨b,0,none⟩)] w fun e w'=>e=.returned (.tuple #[])∧w'=w.setCell ⟨b,0,none⟩ (.pointer (some ⟨b,0,none⟩)):=by
 obtain⟨j,hj,hjs⟩:=mY.1 IM
 go_enter Go.Proofs.Tryd.func39,Go.Proofs.Tryd.ntmps39
 go_wp2
 rw [Lib.run_to_unsafe w ⟨b,0,none⟩ Go.Proofs.Tryd.underlying61 Go.Proofs.Tryd.underlying117 hj (by rw [hjs]; decide) hsh (Nat.zero_lt_succ 1)];simp only [Result.andThen];rw [Oper.upon_value]
 go_wp2
 rw [run_callFunc_extern Go.Proofs.Tryd.func51 ak ak ak (e:=Extern.AbiNoEscape.same) ak,Lib.run_noEscape];simp only [Result.andThen];rw [Oper.upon_value]
 go_wp2
 rw [Lib.run_from_unsafe w ⟨b,0,none⟩ Go.Proofs.Tryd.underlying117 Go.Proofs.Tryd.underlying61 hj hsh Uu];simp only [Result.andThen];rw [Oper.upon_value]
 go_wp2
 go_end0
 exact⟨rfl,rfl⟩
end Go.Lev
/- strings.Builder: WriteString and String of a builder of its own block, with all that stays -/
namespace Go.Lev
set_option linter.unusedSimpArgs false
set_option linter.unusedVariables false
open Go.RowKit
open Go.Proofs.Tryd (prog)
set_option maxRecDepth 100000
abbrev iS (l:ap):List Value:=l.map fun b=>.int .u8 b.toNat
def d9u (e:Nat) (v:Value) (l:ap) (w:World):Prop:=(v=.slice none 0 0∧l=[])∨∃ g cap cur,l≠[]∧v=.slice (some ⟨g,0,none⟩) l.length cap∧w.heap[g]? = some (.cells cur e (0,0))∧l.length≤cap∧cap≤maxLen∧cur.size=cap * 1∧cur.toList.take (l.length * 1)=iS l
theorem d9u.kept {e:Nat} {v:Value} {l:ap} {w w':World} (h:d9u e v l w) (hk:∀ k,v.ownBlock=some k→w'.heap[k]? = w.heap[k]?):d9u e v l w':=by
 rcases h with h | ⟨g,cap,cur,h0,rfl,h1,h2⟩
 ·exact .inl h
 ·exact .inr ⟨g,cap,cur,h0,rfl,by rw [hk g rfl]; exact h1,h2⟩
theorem d9u.lt {e:Nat} {v:Value} {l:ap} {w:World} (h:d9u e v l w) {k:Nat} (hk:v.ownBlock=some k):k < w.heap.size:=by
 rcases h with⟨rfl,_⟩ | ⟨g,cap,cur,_,rfl,h1,_⟩
 ·cases hk
 ·simp only [Value.ownBlock,a8] at hk;subst hk;exact(ft.1 h1).1
theorem d9u.own {e:Nat} {v:Value} {l:ap} {w:World} (h:d9u e v l w):w.ownsRow 0 e 1 v l.length (iS l):=by
 refine⟨by simp [iS],?_⟩;rcases h with⟨rfl,rfl⟩ | ⟨g,cap,cur,_,rfl,h1,h2,h3,h4,h5⟩
 ·exact .inl ⟨rfl,rfl⟩
 ·exact .inr ⟨g,cap,cur,rfl,bk _,h1,h2,h3,h4,h5⟩
section
variable {P:Program} {t u ty e:TypeId} {i:TypeInfo}
theorem R_ (ht:P.underlying t=some (.slice e)) (hu:P.underlying u=some .string) (hi:P.info? e=some i) (hz:i.zero=some (.int .u8 0)) (hs:i.size=1) (hb:i.bytes=1)
  {v:Value} {l:ap} {w:World} (h:d9u e v l w) (s:ByteArray) (hl:l.length+s.size≤1000000) :
  ∃ v' w',(Builtin.append_ #[t,u] ty #[v,.string s]).run P w=.ok v' w'∧d9u e v' (l++s.data.toList) w'∧w.grownBy w' v.ownBlock∧(v'.ownBlock=v.ownBlock∨∃ g,v'.ownBlock=some g∧w.heap.size≤g):=by
 have hml:1000000≤maxLen:=by unfold maxLen; omega
 have hsz:s.size=s.data.toList.length:=by rw [Array.length_toList]; rfl
 have hsc:Lib.strCells s=iS s.data.toList:=rfl;rcases h with⟨rfl,rfl⟩ | ⟨g,cap,cur,h0,rfl,h1,h2,h3,h4,h5⟩
 ·rw [eU] at hl;obtain⟨v',w',k1,k2,k3,k4⟩:=Lib.run_append_own_string (P:=P) (w:=w) w.heap.size t u ty e i ht hu hi hz hs hb (.slice none 0 0) 0 [] (World.ownsRow_nil _ _ _ _) s ab ab (aR _);refine⟨v',w',k1,?_,k3,?_⟩
  ·rcases k2.2 with⟨q1,q2⟩ | ⟨g,cap,cur,q1,q2,q3,q4,q5,q6,q7⟩
   ·have:s.data.toList=[]:=fY.1 (by rw [← hsz]; omega);exact .inl ⟨q1,by rw [this]; rfl⟩
   ·refine .inr ⟨g,cap,cur,fun e=>?_,by rw [q1,lU,← hsz,bV],q3,by simp only [lU,← hsz]; omega,q5,q6,?_⟩
    ·have hz0:s.size=0:=by rw [hsz]; rw [lU] at e; rw [e]; rfl
     have:=(k4.2 ⟨rfl,hz0⟩).symm.trans q1;cases this
    ·have:=q7;simp only [lU,← hsz];rw [show s.size * 1=(0+s.size) * 1 by omega,q7]; rfl
  ·rcases k2.2 with⟨q1,q2⟩ | ⟨g,cap,cur,q1,q2,q3,q4,q5,q6,q7⟩
   ·exact .inl (by rw [q1])
   ·exact .inr ⟨g,by rw [q1]; rfl,q2⟩
 ·have hlen:(iS l++iS s.data.toList).length=(l.length+s.size) * 1:=by rw [cg,iS,iS,ii,ii,hsz,cU]
  have hcat:iS (l++s.data.toList)=iS l++iS s.data.toList:=List.map_append;have hll:(l++s.data.toList).length=l.length+s.size:=by rw [cg,hsz]
  by_cases hroom:l.length+s.size≤cap
  ·have hr:=Lib.run_append_room_string (P:=P) (w:=w) t u ty e i ht hu hi hs g l.length cap cur h1 s hroom ab;refine⟨_,_,hr,.inr ⟨g,cap,_,fun e=>h0 (List.append_eq_nil_iff.1 e).1,by rw [hll],setRow_heap w g cur _ e _ h1,by rw [hll]; exact hroom,h3,?_,?_⟩,⟨rfl,rfl,rfl,by simp [World.setRow],fun k _ hk=>setRow_other w g k _ (fun e=>hk (by simp [Value.ownBlock,e]))⟩,.inl rfl⟩
   ·simp only [sw,cg,sr,List.length_drop,Array.length_toList,Lib.strCells_length];omega
   ·have ht':cur.toList.take l.length=iS l:=by simpa using h5
    rw [ht',hsc,hll,hcat,← hlen];exact List.take_left
  ·have hown:w.ownsRow 0 e 1 (.slice (some ⟨g,0,none⟩) l.length cap) l.length (iS l):=d9u.own (.inr ⟨g,cap,cur,h0,rfl,h1,h2,h3,h4,h5⟩);have holds:∀ j u,(iS l)[j]? = some u→w.cell? ((⟨g,0,none⟩:Addr).add j)=some u:=hown.cells (g:=g) rfl;have hr:=Lib.run_append_grow_string (P:=P) (w:=w) t u ty e i (.int .u8 0) ht hu hi hz ⟨g,0,none⟩ l.length cap (iS l) (by rw [hs]; simp [iS]) holds s ab ab (by rw [hb]; exact growslice_fits ab ab);have hge:=grownCap_ge w (l.length+s.size) cap e;have hcm2:grownCap w (l.length+s.size) cap e≤maxLen:=grownCap_le_maxLen w (l.length+s.size) cap e ab;refine⟨_,_,hr,.inr ⟨w.heap.size,_,_,fun e=>h0 (List.append_eq_nil_iff.1 e).1,by rw [hll],heap_alloc_new w.drew _,by rw [hll]; exact hge,hcm2,?_,?_⟩,⟨rfl,rfl,rfl,aC,fun k hk _=>Lib.alloc_old w.drew _ k hk⟩,.inr ⟨_,rfl,aR _⟩⟩
   ·have hz1:(Value.int IntKind.u8 0).cells.size=1:=rfl;simp only [Array.size_append,sw,size_zeroCells,hz1,iS,ii,Lib.strCells_length];omega
   ·simp only [Array.toList_append,mW];rw [← mW,hsc,hll,hcat,← hlen];exact List.take_left
end
def f4o (T e b:Nat) (p v:Value) (l:ap) (w:World):Prop:=w.heap[b]? = some (.cells #[p,v] T (0,0))∧(p=.pointer none∨p=.pointer (some ⟨b,0,none⟩))∧d9u e v l w∧v.ownBlock≠some b
end Go.Lev
/- strings.Builder: WriteString and String of a builder of its own block -/
namespace Go.Lev
set_option linter.unusedSimpArgs false
set_option linter.unusedVariables false
open Go.RowKit
open Go.Proofs.Tryd (prog)
theorem f4o.check {b:Nat} {p v:Value} {l:ap} {w:World} (h:f4o 63 5 b p v l w) :
  Calls prog 39 #[.pointer (some ⟨b,0,none⟩)] w fun e w'=>e=.returned (.tuple #[])∧f4o 63 5 b (.pointer (some ⟨b,0,none⟩)) v l w'∧w.grownBy w' (some b):=by
 obtain⟨h1,h2,h3,h4⟩:=h;have hlt:b < w.heap.size:=(ft.1 h1).1;rcases h2 with rfl | rfl
 ·refine(VS b w (by rw [Lib.cell_of_heap h1]; rfl) (by simp [World.shape?,h1]) (Lib.frozen_of_heap h1 0)).mono ?_
  rintro e w' ⟨rfl,rfl⟩
  have hk:∀ k,k≠b→(w.setCell ⟨b,0,none⟩ (.pointer (some ⟨b,0,none⟩))).heap[k]? = w.heap[k]?:=fun k hk=>Below.heap_setCell _ _ _ _ (fun e=>hk e)
  refine⟨rfl,⟨?_,.inr rfl,h3.kept fun k hv=>hk k fun e=>h4 (by rw [hv,e]),h4⟩,rfl,rfl,rfl,by simp [World.setCell],fun k _ q=>hk k fun e=>q (by rw [e])⟩;simp [World.setCell,sE,h1]
 ·refine(Uy b w (by rw [Lib.cell_of_heap h1]; rfl)).mono ?_
  rintro e w' ⟨rfl,rfl⟩
  exact⟨rfl,⟨h1,.inr rfl,h3,h4⟩,rfl,rfl,rfl,aR _,fun _ _ _=>rfl⟩
theorem Wo:∃ i,prog.info? 5=some i∧i.zero=some (.int .u8 0)∧i.size=1∧i.bytes=1:=by
 have h:(prog.info? 5).map (fun i=>(i.zero,i.size,i.bytes))=some (some (.int .u8 0),1,1):=ak;obtain⟨i,h1,h2⟩:=mY.1 h;simp only [bn] at h2;exact⟨i,h1,h2⟩
structure Ds (T e b:Nat) (v:Value) (l:ap) (w w':World):Prop where
 at_:∃ v',f4o T e b (.pointer (some ⟨b,0,none⟩)) v' l w'∧(v'.ownBlock=v.ownBlock∨∃ g,v'.ownBlock=some g∧w.heap.size≤g)
 os:w'.os=w.os
 tape:w'.tape=w.tape
 output:w'.output=w.output
 size:w.heap.size≤w'.heap.size
 keep:∀ k,k < w.heap.size→k≠b→v.ownBlock≠some k→w'.heap[k]? = w.heap[k]?
theorem X7 {P:Program} {ops:Array Oper} {rest:List Oper} {o:Oper} {a:Act} {w:World} {Q:Exit→Act→World→Prop} (hgd:o.guard=none) (sl x:Operand) (t u:TypeId)
  (ho:o.op=.call { callee:=.builtin .append,args:=#[sl,x],argTypes:=#[t,u] }) {v y v':Value} {w':World} (hs:a.eval sl=v) (hx:a.eval x=y) (hr:∀ ty,(Builtin.append_ #[t,u] ty #[v,y]).run P w=.ok v' w')
  (h:wpList P ops Q rest (a.put o.dst v') w'):wpList P ops Q (o::rest) a w:=by
 refine wpList_plain hgd fun K hK=>?_
 unfold Oper.wp execOp;simp only [ho,resolve,invoke,builtin,bw,bT,br,List.map_toArray,lp,List.map_nil,hs,hx,hr];exact hK _ _ h
set_option maxHeartbeats 2000000 in
set_option maxRecDepth 100000 in
theorem Uj {b:Nat} {p v:Value} {l:ap} {w:World} (h:f4o 63 5 b p v l w) (s:ByteArray) (hl:l.length+s.size≤1000000) :
  Calls prog 25 #[.pointer (some ⟨b,0,none⟩),.string s] w fun e w'=>e=.returned (.tuple #[.z s.size,.nilIface])∧Ds 63 5 b v (l++s.data.toList) w w':=by
 obtain⟨i0,hi,hz0,hz1,hz2⟩:=Wo
 go_enter Go.Proofs.Tryd.func25,Go.Proofs.Tryd.ntmps25
 go_wp2_with (go_at_call 39; refine(h.check).mono ?_)
 rintro e w1 ⟨rfl,⟨hbk,hp,hrow,hne⟩,hg1⟩
 have c1:w1.cell? ⟨b,1,none⟩=some v:=by rw [Lib.cell_of_heap hbk]; rfl
 have hlt:b < w1.heap.size:=(ft.1 hbk).1;obtain⟨v',w2,hr,hrow',hg2,hown⟩:=R_ (P:=prog) (t:=22) (u:=9) (ty:=22) Go.Proofs.Tryd.underlying22 Go.Proofs.Tryd.underlying9 hi hz0 hz1 hz2 hrow s hl;have hr2:∀ ty,(Builtin.append_ #[22,9] ty #[v,.string s]).run prog w1=.ok v' w2:=fun ty=>by rw [← hr]; rfl
 have hb2:w2.heap[b]? = some (.cells #[.pointer (some ⟨b,0,none⟩),v] 63 (0,0)):=by rw [hg2.block b hlt (fun e=>hne e.symm)]; exact hbk
 have d0:w2.cell? ⟨b,0,none⟩=some (.pointer (some ⟨b,0,none⟩)):=by rw [Lib.cell_of_heap hb2]; rfl
 have d1:w2.cell? ⟨b,1,none⟩=some v:=by rw [Lib.cell_of_heap hb2]; rfl
 have f1:w2.frozen? ⟨b,1,none⟩=false:=Lib.frozen_of_heap hb2 1;have hne':v'.ownBlock≠some b:=by
  rcases hown with e | ⟨g,e,hg⟩
  ·rw [e]; exact hne
  ·rw [e]; intro k; simp only [a8] at k; omega
 have hone:v'.oneCell'=true:=by
  rcases hrow' with⟨rfl,_⟩ | ⟨g,cap,cur,_,rfl,_⟩ <;> rfl
 have hkeep:∀ k,k≠b→(w2.setCell ⟨b,1,none⟩ v').heap[k]? = w2.heap[k]?:=fun k hk=>Below.heap_setCell _ _ _ _ (fun e=>hk e)
 have hfin:Ds 63 5 b v (l++s.data.toList) w (w2.setCell ⟨b,1,none⟩ v'):=by
  refine⟨⟨v',⟨?_,.inr rfl,hrow'.kept fun k hk=>hkeep k fun e=>hne' (by rw [hk,e]),hne'⟩,?_⟩,hg2.os.trans hg1.os,hg2.tape.trans hg1.tape,hg2.output.trans hg1.output,?_,?_⟩
  ·simp [World.setCell,sE,hb2]
  ·exact hown.imp id fun⟨g,e,hg⟩=>⟨g,e,kc hg1.size hg⟩
  ·have:=hg1.size; have:=hg2.size; simp [World.setCell]; omega
  ·intro k hk hkb hkv;rw [hkeep k hkb,hg2.block k (mt hk hg1.size) (fun e=>hkv e.symm),hg1.block k hk (fun e=>hkb (by simpa using e))]
 clear hr hkeep hrow hrow' hg1 hg2 hown hne hne' hp;obtain⟨ao,n',cap,rfl⟩:∃ ao n' cap,v'=.slice ao n' cap:=by
  obtain⟨v2,⟨h2,_,h3,_⟩,_⟩:=hfin.at_;have:v2=v':=by
   have h4:(w2.setCell ⟨b,1,none⟩ v').heap[b]? = some (.cells #[.pointer (some ⟨b,0,none⟩),v'] 63 (0,0)):=by simp [World.setCell,sE,hb2]
   rw [h2] at h4; simp at h4; exact h4
  subst this;rcases h3 with⟨rfl,_⟩ | ⟨g,cap,cur,_,rfl,_⟩
  iterate 2
   ·exact⟨_,_,_,rfl⟩
 go_wp2_with (at_builtin; refine X7 rfl _ _ 22 9 rfl rfl rfl hr2 ?_)
 go_wp2
 go_ret2
 exact⟨rfl,hfin⟩
end Go.Lev
/- strings.Builder: String of a builder that holds something -/
namespace Go.Lev
set_option linter.unusedSimpArgs false
set_option linter.unusedVariables false
open Go.RowKit
open Go.Proofs.Tryd (prog)
theorem WS:prog.cellsOf 5=1:=ak
set_option maxHeartbeats 2000000 in
set_option maxRecDepth 100000 in
theorem T_ {b:Nat} {p v:Value} {l:ap} {w:World} (h:f4o 63 5 b p v l w) (h0:l≠[]) (hl:l.length≤1000000) :
  Calls prog 28 #[.pointer (some ⟨b,0,none⟩)] w fun e w'=>e=.returned (.string ⟨l.toArray⟩)∧w.grownBy w' v.ownBlock:=by
 obtain⟨hbk,hp,hrow,hne⟩:=h;have hl0:l.length≠0:=by simpa using h0
 have hown:=hrow.own;obtain⟨g,cap,cur,rfl,hg,hnc,hcm,hcs,htake⟩:∃ g cap cur,v=.slice (some ⟨g,0,none⟩) l.length cap∧w.heap[g]? = some (.cells cur 5 (0,0))∧l.length≤cap∧cap≤maxLen∧cur.size=cap * 1∧cur.toList.take (l.length * 1)=iS l:=by
  rcases hrow with⟨_,hz⟩ | ⟨g,cap,cur,_,h⟩
  ·exact absurd hz h0
  ·exact⟨g,cap,cur,h⟩
 have hbd:w.drew.heap[b]? = some (.cells #[p,.slice (some ⟨g,0,none⟩) l.length cap] 63 (0,0)):=hbk;have hgd:w.drew.heap[g]? = some (.cells cur 5 (0,0)):=hg;have c1:w.drew.cell? ⟨b,1,none⟩=some (.slice (some ⟨g,0,none⟩) l.length cap):=by rw [Lib.cell_of_heap hbd]; rfl
 have hSD:(Builtin.unsafeSliceData_ #[22] 101 #[.slice (some ⟨g,0,none⟩) l.length cap]).run prog w.drew=.ok (.pointer (some ⟨g,0,none⟩)) w.drew :=
  Lib.run_unsafeSliceData_row _ _ _ _ _ _ ab
 have hUS:(Builtin.unsafeString_ #[101,3] 9 #[.pointer (some ⟨g,0,none⟩),.z l.length]).run prog w.drew=.ok (.string ⟨l.toArray⟩) (w.drew.freeze ⟨g,0,none⟩ l.length):=by
  refine Lib.run_unsafeString_row w.drew 101 3 9 5 Go.Proofs.Tryd.underlying101 WS g cur.size (by simp [World.shape?,hgd]) l h0 ab (by unfold maxLen at hcm; omega) ?_;intro j x hx;exact hown.cells (g:=g) rfl j (.int .u8 x.toNat) (by simp [iS,hx])
 have hfr:w.grownBy (w.drew.freeze ⟨g,0,none⟩ l.length) (some g):=by
  have:=Lib.below_freeze (Below.drew (Below.refl 0 w)) (p:=⟨g,0,none⟩) (bk _) l.length;refine⟨this.os,this.tape,this.output,this.size,fun k _ hk=>?_⟩;have hkg:k≠g:=fun e=>hk (by rw [e])
  unfold World.freeze;split
  ·rfl
  ·simp only [World.drew];rw [sE,av (Ne.symm hkg)]
 have mixed:prog.follows .mixedOrders=true:=ak
 go_enter Go.Proofs.Tryd.func28,Go.Proofs.Tryd.ntmps28
 go_wp2
 go_region_o
 all_goals (go_wp2; go_ret; exact⟨rfl,hfr⟩)
set_option maxHeartbeats 2000000 in
set_option maxRecDepth 100000 in
theorem Ub {b:Nat} {p v:Value} {w:World} (h:f4o 63 5 b p v [] w) :
  Calls prog 28 #[.pointer (some ⟨b,0,none⟩)] w fun e w'=>e=.returned (.string ⟨#[]⟩)∧w.grownBy w' v.ownBlock:=by
 obtain⟨hbk,hp,hrow,hne⟩:=h;obtain rfl:v=.slice none 0 0:=by
  rcases hrow with⟨h,_⟩ | ⟨g,cap,cur,h0,_⟩
  ·exact h
  ·exact absurd rfl h0
 have hbd:w.drew.heap[b]? = some (.cells #[p,.slice none 0 0] 63 (0,0)):=hbk;have c1:w.drew.cell? ⟨b,1,none⟩=some (.slice none 0 0):=by rw [Lib.cell_of_heap hbd]; rfl
 have hSD:(Builtin.unsafeSliceData_ #[22] 101 #[.slice none 0 0]).run prog w.drew=.ok (.pointer none) w.drew:=rfl;have hUS:(Builtin.unsafeString_ #[101,3] 9 #[.pointer none,.z 0]).run prog w.drew=.ok (.string ⟨#[]⟩) w.drew:=Lib.run_unsafeString_none w.drew _ _ _ none;have mixed:prog.follows .mixedOrders=true:=ak
 go_enter Go.Proofs.Tryd.func28,Go.Proofs.Tryd.ntmps28
 go_wp2
 go_region_o
 all_goals (go_wp2; go_ret; exact⟨rfl,rfl,rfl,rfl,aR _,fun _ _ _=>rfl⟩)
end Go.Lev
/- strings.Builder: WriteString and String as contracts -/
namespace Go.Lev
set_option linter.unusedSimpArgs false
set_option linter.unusedVariables false
open Go.RowKit
open Go.Proofs.Tryd (prog)
abbrev lF (l:ap) (T e:Nat):al:=[.str l,.z (.ofNat T),.z (.ofNat e)]
abbrev lE (F:OP) (l:ap) (T e:Nat):a9:=[.obj F (lF l T e) 1,.dead]
abbrev rd (F:OP) (l:ap) (T e:Nat):a9:=[.obj F (lF l T e) 2,.dead,.dead]
theorem JQ {F:OP} (hF:F.isBld=true) {W0:World} {r:Ren} {l:ap} {T e:Nat} {g:aL} {w:World} (hI:Inv W0 r (ai (lE F l T e) g) w) :
  ∃ x p v,r 0=some x∧x.2.1=0∧Own r 1 x.1∧f4o T e x.1 p v l w∧∀ k,v.ownBlock=some k→Own r 1 k:=by
 have hg0:(ai (lE F l T e) g).h.get 0=some (.obj F (lF l T e) 1):=by rw [b8]; rfl
 obtain⟨x,h1,h2,h3⟩:=hI.ob.holds 0 _ _ _ hg0;have hb:=h3 w hI.below (aR _) fun _ _=>rfl
 have hf:=OP.i4l hF;simp only [hf] at hb;obtain⟨l',T',e',hcs,hx0,hox,p,v,hbk,hp,hrow⟩:=hb;simp only [lF,iJ,LV.str.injEq,LV.int.injEq,true_and,kG] at hcs;obtain⟨rfl,e1,e2⟩:=hcs;have e1:T=T':=Int.ofNat.inj e1;have e2:e=e':=Int.ofNat.inj e2;subst e1 e2;refine⟨x,p,v,h1,hx0,hox,⟨hbk,hp,?_,?_⟩,?_⟩
 ·rcases hrow with h | ⟨g,cap,cur,q0,q1,q2,q3,q4,q5,q6,q7⟩
  ·exact .inl h
  ·exact .inr ⟨g,cap,cur,q0,q1,q4,q5,q6,q7⟩
 ·rcases hrow with⟨rfl,_⟩ | ⟨g,cap,cur,_,rfl,q2,_⟩
  ·intro k; cases k
  ·intro k; simp only [Value.ownBlock,a8] at k; exact q2 k
 ·intro k hk;rcases hrow with⟨rfl,_⟩ | ⟨g,cap,cur,_,rfl,q2,q3,_⟩
  ·cases hk
  ·simp only [Value.ownBlock,a8] at hk; subst hk; exact q3
def CD (b:Nat) (v:Value):Nat:=match v.ownBlock with
 | some g=>2 ^ b ||| 2 ^ g
 | none=>2 ^ b
theorem VL {b:Nat} {v:Value} {B:Nat}:(CD b v).testBit B=true↔B=b∨v.ownBlock=some B:=by
 unfold CD;split
 ·rename_i g hg;rw [Nat.testBit_or,lV,su,su,cu,cu,hg];simp only [a8];exact⟨fun h=>h.imp (fun h=>h.symm) id,fun h=>h.imp (fun h=>h.symm) id⟩
 ·rename_i hg;rw [su,cu,hg];simp only [reduceCtorEq,or_false];exact⟨fun h=>h.symm,fun h=>h.symm⟩
theorem Uv {F:OP} (hF:F.isBld=true) {W0:World} {r:Ren} {l l':ap} {T e:Nat} {g:aL} {w w':World} (hI:Inv W0 r (ai (lE F l T e) g) w) {x:Nat×Nat×Nat} {v:Value} (h1:r 0=some x) (hx0:x.2.1=0) (hox:Own r 1 x.1)
  (hov:∀ k,v.ownBlock=some k→Own r 1 k) (hW:Ds T e x.1 v l' w w') :
  ∃ r',Inv W0 r' (ai (rd F l' T e) g) w'∧Ext r (ai (lE F l T e) g) w r' (ai (rd F l' T e) g) w':=by
 obtain⟨⟨v',hA,hvo⟩,hos,htp,hout,hsz,hkp⟩:=hW;have hg0:(ai (lE F l T e) g).h.get 0=some (.obj F (lF l T e) 1):=by rw [b8]; rfl
 have hid:∀ B,Own r 1 B→pG r (ai (lE F l T e) g) B:=fun B h=>⟨0,F,_,1,hg0,h⟩
 have hn:(ai (lE F l T e) g).n=2:=by rw [cN]; rfl
 have hn':(ai (rd F l' T e) g).n=3:=by rw [cN]; rfl
 have hget:∀ t L,(ai (rd F l' T e) g).h.get t=some L→(t=0∧L=.obj F (lF l' T e) 2)∨L=.dead:=fun t L h=>by
  rw [b8] at h
  match t,h with
  | 0,h=>simp at h; exact .inl ⟨rfl,h.symm⟩
  | 1,h=>simp at h; exact .inr h.symm
  | 2,h=>simp at h; exact .inr h.symm
  | t+3,h=>simp at h
 have hfr':∀ B,B < w.heap.size→¬ Own r 1 B→w'.heap[B]? = w.heap[B]?:=fun B hB hn=>hkp B hB (fun e=>hn (by rw [e]; exact hox)) fun e=>hn (hov B e)
 have hWin:∀ B,Own r 1 B→W0.heap.size≤B∧B < w.heap.size:=fun B h=>hI.ob.inside B (hid B h)
 have hx1:=hWin _ hox;have hlt':x.1 < w'.heap.size:=(ft.1 hA.1).1;have hbl:Below W0.heap.size W0 w':=by
  refine hI.below.trans ⟨hos,htp,hout,hsz,fun k hk=>?_⟩;have:=hI.below.size;exact hfr' k ab fun h=>by have:=(hWin k h).1; omega
 let y:Nat×Nat×Nat:=(x.1,0,CD x.1 v')
 have hle:r.le (r.put 2 y):=by have:=Ren.i3m hI y; rw [hn] at this; exact this
 have hO:∀ B,Own (r.put 2 y) 2 B↔B=x.1∨v'.ownBlock=some B:=fun B=>by
  rw [← VL];constructor
  ·rintro⟨z,q1,q2⟩
   simp only [Ren.put,eR,a8] at q1;subst q1; exact q2
  ·intro h; exact⟨y,by simp [Ren.put],h⟩
 have hv'in:∀ B,v'.ownBlock=some B→W0.heap.size≤B∧B < w'.heap.size:=fun B hB=>by
  refine⟨?_,hA.2.2.1.lt hB⟩;rcases hvo with q | ⟨g0,q,q2⟩
  ·rw [q] at hB; exact(hWin B (hov B hB)).1
  ·rw [q] at hB; cases hB; have:=hI.below.size; omega
 have hdom:∀ b z,r.put 2 y b=some z→b < 3∧z.1 < w'.heap.size:=fun b z hz=>by
  by_cases e:b=2
  ·simp [Ren.put,e] at hz; subst hz; exact⟨ab,hlt'⟩
  ·simp only [Ren.put,av e] at hz;have:=hI.dom b z hz;rw [hn] at this;exact⟨ab,ab⟩
 have h0':r.put 2 y 0=some x:=by simp [Ren.put,h1]
 have hlive:∀ b,(ai (rd F l' T e) g).lives b→b=0:=fun b ⟨L,q1,q2⟩=>by
  rcases hget b L q1 with⟨q,_⟩ | q
  ·exact q
  ·subst q; cases q2
 have hobj:∀ b F' cs' g',(ai (rd F l' T e) g).h.get b=some (.obj F' cs' g')→b=0∧F'=F∧cs'=lF l' T e∧g'=2:=fun b F' cs' g' h=>by
  rcases hget b _ h with⟨q1,q2⟩ | q
  ·simp only [LB.obj.injEq] at q2; exact⟨q1,q2⟩
  ·cases q
 have hf:=OP.i4l hF;refine⟨r.put 2 y,⟨hbl,fun b z hz=>by rw [hn']; exact hdom b z hz,fun b z hb hz=>?_,fun b hb=>?_,fun b b' z z' hb hb' _ _ _=>by rw [hlive b hb,hlive b' hb'],fun b cs op hb=>?_,fun b t p hb=>?_,hI.gl,fun b cs hb=>?_,?_⟩,⟨hle,by rw [hn,hn']; omega,hsz,fun B hB ho=>?_,fun B hB hno=>hfr' B hB fun h=>hno (.inr (hid B h))⟩⟩
 ·have:=hlive b hb; subst this;rw [h0'] at hz; cases hz; exact hx1.1
 ·rw [hn'] at hb; rw [b8]; exact gO hb
 iterate 3
  ·rcases hget b _ hb with⟨_,q⟩ | q <;> cases q
 ·refine⟨fun b F' cs' g' hb=>?_,fun B ⟨b,F',cs',g',hb,hB⟩=>?_,fun b F' cs' g' b' x' hb hb' hx' hO'=>?_,fun b F1 c1 g1 b2 F2 c2 g2 B hb hb' _ _=>?_⟩
  ·obtain⟨rfl,rfl,rfl,rfl⟩:=hobj _ _ _ _ hb;refine⟨x,h0',(hO _).2 (.inl rfl),fun w2 k1 k2 k3=>?_⟩;rw [hf];obtain⟨a1,a2,a3,a4⟩:=hA;refine⟨l',T,e,rfl,hx0,(hO _).2 (.inl rfl),_,v',by rw [k3 _ ((hO _).2 (.inl rfl))]; exact a1,a2,?_⟩;rcases a3 with q | ⟨g0,cap,cur,q0,rfl,q1,q2,q3,q4,q5⟩
   ·exact .inl q
   ·exact .inr ⟨g0,cap,cur,q0,rfl,fun e=>a4 (by rw [← e]; rfl),(hO _).2 (.inr rfl),by rw [k3 _ ((hO _).2 (.inr rfl))]; exact q1,q2,q3,q4,q5⟩
  ·obtain⟨rfl,rfl,rfl,rfl⟩:=hobj _ _ _ _ hb;rcases(hO B).1 hB with rfl | q
   ·exact⟨hx1.1,hlt'⟩
   ·exact hv'in B q
  ·rw [hlive _ hb',(hobj _ _ _ _ hb).1]
  ·rw [(hobj _ _ _ _ hb).1,(hobj _ _ _ _ hb').1]
 ·rcases ho with⟨b,z,q1,q2,rfl⟩ | ⟨b,F',cs',g',q1,q2⟩
  ·have:=hlive b q1; subst this;rw [h0'] at q2; cases q2;exact .inr (hid _ hox)
  ·obtain⟨rfl,rfl,rfl,rfl⟩:=hobj _ _ _ _ q1;rcases(hO B).1 q2 with rfl | q
   ·exact .inr (hid _ hox)
   ·rcases hvo with k | ⟨g0,k,k2⟩
    ·rw [k] at q; exact .inr (hid _ (hov B q))
    ·rw [k] at q; cases q; omega
theorem Uk {F:OP} (hF:F.isBld=true) (l t:ap) (hl:l.length+t.length≤1000000) (g:aL):a0j prog 25 [.ptr 0 0,.str t] (ai (lE F l 63 5) g)
  fun a s'=>a=.tup [.z t.length,.nilIface]∧s'=ai (rd F (l++t) 63 5) g:=by
 intro W0 r w us hI hv;obtain⟨x,p,v,h1,hx0,hox,hA,hov⟩:=JQ hF hI;simp only [VRs,VR] at hv;obtain⟨u1,us1,rfl,⟨B,w1,c,hr,rfl⟩,u2,us2,rfl,rfl,rfl⟩:=hv;rw [h1] at hr; cases hr;have e0:w1=0:=hx0;subst e0;refine(Uj hA ⟨t.toArray⟩ (by simpa [ByteArray.size] using hl)).mono fun e w' ⟨he,hW⟩=>?_
 obtain⟨r',k1,k2⟩:=Uv hF hI h1 hx0 hox hov hW;refine⟨_,_,_,r',⟨rfl,rfl⟩,he,?_,k1,k2⟩;simp only [VR,VRs];exact⟨[_,_],rfl,_,_,rfl,rfl,_,_,rfl,rfl,rfl⟩
end Go.Lev
/- strings.Builder: its contracts over any state -/
namespace Go.Lev
set_option linter.unusedSimpArgs false
set_option linter.unusedVariables false
open Go.RowKit
open Go.Proofs.Tryd (prog)
theorem Ua {F:OP} (hF:F.isBld=true) (l:ap) (hl:l.length≤1000000) (g:aL):a0j prog 28 [.ptr 0 0] (ai (lE F l 63 5) g)
  fun a s'=>a=.str l∧s'=ai [.dead,.dead] g:=by
 intro W0 r w us hI hv;obtain⟨x,p,v,h1,hx0,hox,hA,hov⟩:=JQ hF hI;simp only [VRs,VR] at hv;obtain⟨u1,us1,rfl,⟨B,w1,c,hr,rfl⟩,rfl⟩:=hv;rw [h1] at hr; cases hr;have e0:w1=0:=hx0;subst e0;have hg0:(ai (lE F l 63 5) g).h.get 0=some (.obj F (lF l 63 5) 1):=by rw [b8]; rfl
 have hid:∀ B,Own r 1 B→pG r (ai (lE F l 63 5) g) B:=fun B h=>⟨0,F,_,1,hg0,h⟩
 have hn:(ai (lE F l 63 5) g).n=2:=by rw [cN]; rfl
 have hn':(ai [.dead,.dead] g).n=2:=by rw [cN]; rfl
 have hget:∀ t L,(ai [.dead,.dead] g).h.get t=some L→L=.dead:=fun t L h=>by
  rw [b8] at h
  match t,h with
  | 0,h=>simp at h; exact h.symm
  | 1,h=>simp at h; exact h.symm
  | t+2,h=>simp at h
 have hst:Calls prog 28 #[.pointer (some ⟨B,0,none⟩)] w fun e w'=>e=.returned (.string ⟨l.toArray⟩)∧w.grownBy w' v.ownBlock:=by
  cases l with
  | nil=>exact Ub hA
  | cons y r=>exact T_ hA aC hl
 refine hst.mono fun e w' ⟨he,hG⟩=>?_
 have hfr':∀ B,B < w.heap.size→¬ Own r 1 B→w'.heap[B]? = w.heap[B]?:=fun B hB hn=>hG.block B hB fun e=>hn (hov B e.symm)
 have hWin:∀ B,Own r 1 B→W0.heap.size≤B∧B < w.heap.size:=fun B h=>hI.ob.inside B (hid B h)
 have hbl:Below W0.heap.size W0 w':=by
  refine hI.below.trans ⟨hG.os,hG.tape,hG.output,hG.size,fun k hk=>?_⟩;have:=hI.below.size;exact hfr' k ab fun h=>by have:=(hWin k h).1; omega
 have hlive:∀ b,¬ (ai [.dead,.dead] g).lives b:=fun b ⟨L,q1,q2⟩=>by rw [hget b L q1] at q2; cases q2
 have hnob:∀ b F cs g',(ai [.dead,.dead] g).h.get b≠some (.obj F cs g'):=fun b F cs g' h=>by cases hget b _ h
 refine⟨_,_,_,r,⟨rfl,rfl⟩,he,by simp only [VR],⟨hbl,fun b z hz=>?_,fun b z hb=>absurd hb (hlive b),fun b hb=>?_,fun b b' z z' hb=>absurd hb (hlive b),fun b cs op hb=>?_,fun b t p hb=>?_,hI.gl,fun b cs hb=>?_,c2d.none hnob⟩,⟨r.le_refl,by rw [hn,hn']; omega,hG.size,fun B hB ho=>?_,fun B hB hno=>hfr' B hB fun h=>hno (.inr (hid B h))⟩⟩
 ·have:=hI.dom b z hz;rw [hn] at this;rw [hn']; exact⟨this.1,mt this.2 hG.size⟩
 ·rw [hn'] at hb; rw [b8]; exact gO hb
 iterate 3
  ·cases hget b _ hb
 ·rcases ho with⟨b,z,q1,_⟩ | ⟨b,F',cs',g',q1,_⟩
  ·exact absurd q1 (hlive b)
  ·exact absurd q1 (hnob _ _ _ _)
def CI (F:OP):Bool:=F.isBld
def BU (T e:Nat):Gc:=fun args s=>match args with
 | [.ptr b 0,.str t]=>(match s.h.get b with
   | some (.obj F [.str l,.int .i64 (.ofNat T'),.int .i64 (.ofNat e')] γ)=>cond (Nat.beq T' T && Nat.beq e' e) (match s.h.get γ with
     | some .dead=>(match s.put b (.obj F [.str (aA l t),.int .i64 (.ofNat T),.int .i64 (.ofNat e)] s.n) with
       | some s1=>(match s1.new .dead with
         | some s2=>some ([CI F,ag (aa (am l) (am t)) 1000000],.tup [.z (am t:Nat),.nilIface],s2)
         | none=>none)
       | none=>none)
     | _=>none) none
   | _=>none)
 | _=>none
def BX (T e:Nat):Gc:=fun args s=>match args with
 | [.ptr b 0]=>(match s.h.get b with
   | some (.obj F [.str l,.int .i64 (.ofNat T'),.int .i64 (.ofNat e')] γ)=>cond (Nat.beq T' T && Nat.beq e' e) (match s.h.get γ with
     | some .dead=>(match s.put b .dead with
       | some s1=>some ([CI F,ag (am l) 1000000],.str l,s1)
       | none=>none)
     | _=>none) none
   | _=>none)
 | _=>none
theorem IG:bX prog 25 (BU 63 5):=by
 intro args s bs l0 s' hg hb hfr;unfold BU at hg;split at hg
 ·rename_i b t;split at hg
  ·rename_i F l T' e' γ hb1;cases hc:(Nat.beq T' 63 && Nat.beq e' 5) with
   | false=>exact eZ
   | true =>
     rw [hc] at hg;simp only [aw] at hg;simp only [bg] at hc;obtain⟨e1,e2⟩:=hc;have e1:=bt e1;have e2:=bt e2;subst e1 e2;split at hg
     ·rename_i hγ;cases hp:s.put b (.obj F [.str (aA l t),.z (.ofNat 63),.z (.ofNat 5)] s.n) with
      | none=>rw [hp] at hg; cases hg
      | some s1 =>
      rw [hp] at hg;simp only at hg;cases hw:s1.new .dead with
      | none=>rw [hw] at hg; cases hg
      | some s2 =>
      rw [hw] at hg;simp only [a8,bn] at hg;obtain⟨rfl,rfl,rfl⟩:=hg;have hF:F.isBld=true:=(bv.1 hb).1;have k1:ag (l.length+t.length) 1000000=true:=(bv.1 (bv.1 hb).2).1;rw [xB,cu] at k1;obtain⟨p1,p2⟩:=St.i3h hp;obtain⟨m1,m2⟩:=St.i4g hw;have hlb:=df hfr hb1;have hlγ:=df hfr hγ;have hne:b≠γ:=fun e=>by subst e; rw [hb1] at hγ; cases hγ
      have hget:∀ c,s2.h.get c=if c=s.n then some .dead else if c=b then some (.obj F [.str (aA l t),.z (.ofNat 63),.z (.ofNat 5)] s.n) else s.h.get c:=fun c=>by rw [m2,p2,p1]
      refine a0j.lift (ρ:=[b,γ]) (bs:=lE F l 63 5) (bs':=rd F (l++t) 63 5) (args0:=[.ptr 0 0,.str t]) (v0:=.tup [.z t.length,.nilIface]) hfr (by simp [hne]) ⟨⟨hlb,_,hb1,?_,fun κ hκ=>?_⟩,⟨hlγ,_,hγ,?_,fun κ hκ=>?_⟩,trivial⟩ ?_ (Uk hF l t k1 _) aC ⟨?_,?_,?_,?_,?_,?_⟩ ?_
      ·simp only [LBW]; exact⟨trivial,trivial,rfl⟩
      ·simp only [LBW]; exact⟨trivial,trivial,hκ 1 γ rfl⟩
      iterate 2
       ·simp only [LBW]
      ·simp [a7h,LVW,dt]
      ·simp [m1,p1]
      ·rw [St.i4a hw,St.i4f hp]
      ·intro c hc hcb;simp only [eT,List.not_mem_nil,or_false,not_or] at hcb;rw [hget,av ab,av hcb.1]
      ·intro c hc; rw [hget,av ab,av ab]; exact hfr c ab
      ·intro i c L' hi hL
       match i,hi with
       | 0,hi =>
         simp at hi; subst hi;rw [hget,av ab,aB rfl] at hL; cases hL;show LBW _ (.id 0) _ (some (.obj F (lF (l++t) 63 5) 2));simp only [LBW];refine⟨trivial,rfl,?_⟩;simp [kW]
       | 1,hi =>
         simp at hi; subst hi;rw [hget,av ab,av (Ne.symm hne),hγ] at hL; cases hL;simp only [LBW]
       | i+2,hi=>simp at hi
      ·intro j L' hj hL;have hj:j < 1:=by simpa using hj
       obtain rfl:j=0:=ab;rw [hget,aB ab] at hL; cases hL;simp only [LBW]
      ·simp only [LVW,a7h]; exact⟨⟨trivial,rfl⟩,trivial,trivial⟩
     ·cases hg
  ·cases hg
 ·cases hg
theorem IA:bX prog 28 (BX 63 5):=by
 intro args s bs l0 s' hg hb hfr;unfold BX at hg;split at hg
 ·rename_i b;split at hg
  ·rename_i F l T' e' γ hb1;cases hc:(Nat.beq T' 63 && Nat.beq e' 5) with
   | false=>exact eZ
   | true =>
     rw [hc] at hg;simp only [aw] at hg;simp only [bg] at hc;obtain⟨e1,e2⟩:=hc;have e1:=bt e1;have e2:=bt e2;subst e1 e2;split at hg
     ·rename_i hγ;cases hp:s.put b .dead with
      | none=>rw [hp] at hg; cases hg
      | some s1 =>
      rw [hp] at hg;simp only [a8,bn] at hg;obtain⟨rfl,rfl,rfl⟩:=hg;have hF:F.isBld=true:=(bv.1 hb).1;have k2:ag l.length 1000000=true:=(bv.1 (bv.1 hb).2).1;rw [xB,cu] at k2;obtain⟨p1,p2⟩:=St.i3h hp;have hlb:=df hfr hb1;have hlγ:=df hfr hγ;have hne:b≠γ:=fun e=>by subst e; rw [hb1] at hγ; cases hγ
      refine a0j.lift (ρ:=[b,γ]) (bs:=lE F l 63 5) (bs':=[.dead,.dead]) (args0:=[.ptr 0 0]) (v0:=.str l) hfr (by simp [hne]) ⟨⟨hlb,_,hb1,?_,fun κ hκ=>?_⟩,⟨hlγ,_,hγ,?_,fun κ hκ=>?_⟩,trivial⟩ ?_ (Ua hF l k2 _) aC ⟨?_,?_,?_,?_,?_,?_⟩ ?_
      ·simp only [LBW]; exact⟨trivial,trivial,rfl⟩
      ·simp only [LBW]; exact⟨trivial,trivial,hκ 1 γ rfl⟩
      iterate 2
       ·simp only [LBW]
      ·simp [a7h,LVW,dt]
      ·simp [p1]
      ·rw [St.i4f hp]
      ·intro c hc hcb;simp only [eT,List.not_mem_nil,or_false,not_or] at hcb;rw [p2,av hcb.1]
      ·intro c hc; rw [p2,av ab]; exact hfr c ab
      ·intro i c L' hi hL
       match i,hi with
       | 0,hi =>
         simp at hi; subst hi;rw [p2,aB rfl] at hL; cases hL;simp only [LBW]
       | 1,hi =>
         simp at hi; subst hi;rw [p2,av (Ne.symm hne),hγ] at hL; cases hL;simp only [LBW]
       | i+2,hi=>simp at hi
      ·intro j L' hj hL;simp at hj
      ·simp only [LVW]
     ·cases hg
  ·cases hg
 ·cases hg
end Go.Lev
/- strings.Builder: a new one; a closed run around it -/
namespace Go.Lev
set_option linter.unusedSimpArgs false
set_option linter.unusedVariables false
open Go.RowKit
open Go.Proofs.Tryd (prog)
def kS (r:Ren) (n B:Nat):Ren:=fun b=>if b=n then some (B,0,0) else if b=n+1 then some (B,0,2 ^ B) else r b
theorem Inv.newBld {W0:World} {r:Ren} {s s1 s2:St} {w:World} (h:Inv W0 r s w) {T e:Nat} (h1:s.new (.obj uC (lF [] T e) (s.n+1))=some s1) (h2:s1.new .dead=some s2) :
  Inv W0 (kS r s.n w.heap.size) s2 { w with heap:=w.heap.push (.cells #[.pointer none,.slice none 0 0] T (0,0)) }∧Ext r s w (kS r s.n w.heap.size) s2 { w with heap:=w.heap.push (.cells #[.pointer none,.slice none 0 0] T (0,0)) }:=by
 obtain⟨n1,g1⟩:=St.i4g h1;obtain⟨n2,g2⟩:=St.i4g h2;have hg:∀ m,s2.h.get m=if m=s.n+1 then some .dead else if m=s.n then some (.obj uC (lF [] T e) (s.n+1)) else s.h.get m:=fun m=>by rw [g2,g1,n1]
 have hn:s2.n=s.n+2:=ab;have hdom:∀ b x,r b=some x→b≠s.n∧b≠s.n+1:=fun b x hb=>by have:=(h.dom b x hb).1; omega
 have hle:r.le (kS r s.n w.heap.size):=fun b x hb=>by
  obtain⟨e1,e2⟩:=hdom b x hb;simp only [kS,av e1,av e2]; exact hb
 have hback:∀ b x,b≠s.n→b≠s.n+1→kS r s.n w.heap.size b=some x→r b=some x:=fun b x e1 e2 hb=>by
  simpa only [kS,av e1,av e2] using hb
 have hheap:∀ (o:Obj) B,B < w.heap.size→(w.heap.push o)[B]? = w.heap[B]?:=fun o B hB=>by rw [Array.getElem?_push,av ab]
 have hW:=h.below.size;have old:∀ b L,s2.h.get b=some L→L.live=true→b≠s.n→s.h.get b=some L∧b≠s.n+1:=fun b L hb hl hne=>by
  rw [hg] at hb;by_cases e:b=s.n+1
  ·rw [aB e] at hb; cases hb; cases hl
  ·rw [av e,av hne] at hb; exact⟨hb,e⟩
 have old2:∀ b L,s2.h.get b=some L→(∀ F cs g,L≠.obj F cs g)→L≠.dead→s.h.get b=some L∧b≠s.n∧b≠s.n+1:=fun b L hb ho hd=>by
  rw [hg] at hb;by_cases e:b=s.n+1
  ·rw [aB e] at hb; cases hb; exact absurd rfl hd
  ·rw [av e] at hb;by_cases e':b=s.n
   ·rw [aB e'] at hb; cases hb; exact absurd rfl (ho _ _ _)
   ·rw [av e'] at hb; exact⟨hb,e',e⟩
 have lives:∀ b,s2.lives b→b≠s.n→s.lives b∧b≠s.n+1:=fun b ⟨L,q1,q2⟩ hb=>let ⟨k1,k2⟩:=old b L q1 q2 hb; ⟨⟨L,k1,q2⟩,k2⟩
 have hnn:kS r s.n w.heap.size s.n=some (w.heap.size,0,0):=by simp [kS]
 have hng:kS r s.n w.heap.size (s.n+1)=some (w.heap.size,0,2 ^ w.heap.size):=by simp [kS]
 have hobj:∀ b F cs g,s2.h.get b=some (.obj F cs g)→(b=s.n∧F=uC∧cs=lF [] T e∧g=s.n+1)∨(s.h.get b=some (.obj F cs g)∧b≠s.n∧b≠s.n+1):=fun b F cs g hb=>by
  by_cases e:b=s.n
  ·rw [hg,av ab,aB e] at hb;simp only [a8,LB.obj.injEq] at hb;exact .inl ⟨e,hb.1.symm,hb.2.1.symm,hb.2.2.symm⟩
  ·obtain⟨k1,k2⟩:=old b _ hb rfl e;exact .inr ⟨k1,e,k2⟩
 have hOn:∀ B,Own (kS r s.n w.heap.size) (s.n+1) B↔B=w.heap.size:=fun B=>by
  constructor
  ·rintro⟨y,q1,q2⟩
   rw [hng] at q1; cases q1;rw [su,cu] at q2; exact q2.symm
  ·rintro rfl; exact⟨_,hng,by rw [su,cu]⟩
 have hOo:∀ b F cs g B,s.h.get b=some (.obj F cs g)→(Own (kS r s.n w.heap.size) g B↔Own r g B):=fun b F cs g B hb=>by
  obtain⟨x,k1,k2,_⟩:=h.ob.holds b F cs g hb;exact⟨k2.back hle,Own.mono hle⟩
 refine⟨⟨h.below.trans ⟨rfl,rfl,rfl,aC,fun B hB=>hheap _ B ab⟩,fun b x hb=>?_,fun b x hl hb=>?_,fun b hb=>?_,fun b b' x x' hb hb' hx hx' he=>?_,fun b cs op hb=>?_,fun b t p hb=>?_,by rw [St.i4a h2,St.i4a h1]; exact h.gl,fun b cs hb=>?_,?_⟩,
  ⟨hle,ab,aC,fun B hB ho=>?_,fun B hB _=>hheap _ B hB⟩⟩
 ·rw [hn];by_cases e:b=s.n
  ·subst e; rw [hnn] at hb; cases hb; simp
  ·by_cases e':b=s.n+1
   ·subst e'; rw [hng] at hb; cases hb; simp
   ·have:=h.dom b x (hback b x e e' hb);simp; omega
 ·by_cases e:b=s.n
  ·subst e; rw [hnn] at hb; cases hb; exact hW
  ·obtain⟨k1,k2⟩:=lives b hl e;exact h.own b x k1 (hback b x e k2 hb)
 ·rw [hg,av ab,av ab]; exact h.fresh b ab
 ·by_cases e:b=s.n <;> by_cases e':b'=s.n
  ·omega
  ·obtain⟨k1,k2⟩:=lives b' hb' e';have:=(h.dom b' x' (hback b' x' e' k2 hx')).2;subst e; rw [hnn] at hx; cases hx; simp at he; omega
  ·obtain⟨k1,k2⟩:=lives b hb e;have:=(h.dom b x (hback b x e k2 hx)).2;subst e'; rw [hnn] at hx'; cases hx'; simp at he; omega
  ·obtain⟨k1,k2⟩:=lives b hb e;obtain⟨k1',k2'⟩:=lives b' hb' e';exact h.inj b b' x x' k1 k1' (hback b x e k2 hx) (hback b' x' e' k2' hx') he
 ·obtain⟨k1,e1,e2⟩:=old2 b _ hb (fun _ _ _ q=>by cases q) (fun q=>by cases q);rcases h.cells b cs op k1 with⟨q1,q2⟩ | ⟨x,q1,q2⟩
  ·exact Gs
  ·exact .inr ⟨x,hle _ _ q1,q2.mono hle (hheap _ _ (h.dom _ _ q1).2)⟩
 ·obtain⟨k1,e1,e2⟩:=old2 b _ hb (fun _ _ _ q=>by cases q) (fun q=>by cases q);obtain⟨x,q1,q0,q2⟩:=h.iter b t p k1;exact⟨x,hle _ _ q1,q0,by rw [← q2]; exact hheap _ _ (h.dom _ _ q1).2⟩
 ·obtain⟨k1,e1,e2⟩:=old2 b _ hb (fun _ _ _ q=>by cases q) (fun q=>by cases q);rcases h.ro b cs k1 with⟨q1,q2⟩ | ⟨x,q1,c,e',f,q2,q3⟩
  ·exact Gs
  ·exact .inr ⟨x,hle _ _ q1,c,e',f,q2,fun i l hl=>let ⟨k1,u,k2,k3⟩:=q3 i l hl; ⟨k1,u,k2,k3.mono hle⟩⟩
 ·refine⟨fun b F cs g hb=>?_,fun B ⟨b,F,cs,g,hb,hB⟩=>?_,fun b F cs g b' x' hb hb' hx' hO'=>?_,fun b F cs g b' F' cs' g' B hb hb' hB hB'=>?_⟩
  ·rcases hobj b F cs g hb with⟨rfl,rfl,rfl,rfl⟩ | ⟨k1,e1,e2⟩
   ·refine⟨_,hnn,(hOn _).2 rfl,fun w2 q1 q2 q3=>?_⟩;exact⟨[],T,e,rfl,rfl,(hOn _).2 rfl,.pointer none,.slice none 0 0,by rw [q3 _ ((hOn _).2 rfl)]; simp,.inl rfl,.inl ⟨rfl,rfl⟩⟩
   ·obtain⟨x,q1,q2,q3⟩:=h.ob.holds b F cs g k1;refine⟨x,hle _ _ q1,q2.mono hle,fun w2 p1 p2 p3=>?_⟩;have eO:Own (kS r s.n w.heap.size) g=Own r g:=funext fun B=>propext (hOo b F cs g B k1)
    rw [eO] at p3 ⊢;refine q3 w2 p1 (by simp at p2; omega) fun B hB=>?_
    rw [p3 B hB];exact hheap _ B (h.ob.inside B ⟨b,F,cs,g,k1,hB⟩).2
  ·rcases hobj b F cs g hb with⟨rfl,rfl,rfl,rfl⟩ | ⟨k1,e1,e2⟩
   ·rw [(hOn B).1 hB]; exact⟨hW,aC⟩
   ·have:=h.ob.inside B ⟨b,F,cs,g,k1,(hOo b F cs g B k1).1 hB⟩;simp; omega
  ·rcases hobj b F cs g hb with⟨rfl,rfl,rfl,rfl⟩ | ⟨k1,e1,e2⟩
   ·by_cases e:b'=s.n
    ·exact e
    ·obtain⟨p1,p2⟩:=lives b' hb' e;have:=(h.dom b' x' (hback b' x' e p2 hx')).2;rw [(hOn _).1 hO'] at this; omega
   ·have hO:=(hOo b F cs g _ k1).1 hO';by_cases e:b'=s.n
    ·subst e;rw [hnn] at hx'; cases hx';have:=(h.ob.inside _ ⟨b,F,cs,g,k1,hO⟩).2;simp at this
    ·obtain⟨p1,p2⟩:=lives b' hb' e;exact h.ob.apart b F cs g b' x' k1 p1 (hback b' x' e p2 hx') hO
  ·rcases hobj b F cs g hb with⟨rfl,rfl,rfl,rfl⟩ | ⟨k1,e1,e2⟩ <;> rcases hobj b' F' cs' g' hb' with⟨rfl,rfl,rfl,rfl⟩ | ⟨k1',e1',e2'⟩
   ·rfl
   ·have:=(h.ob.inside _ ⟨b',F',cs',g',k1',(hOo _ _ _ _ B k1').1 hB'⟩).2;rw [(hOn B).1 hB] at this; omega
   ·have:=(h.ob.inside _ ⟨b,F,cs,g,k1,(hOo _ _ _ _ B k1).1 hB⟩).2;rw [(hOn B).1 hB'] at this; omega
   ·exact h.ob.two b F cs g b' F' cs' g' B k1 k1' ((hOo _ _ _ _ B k1).1 hB) ((hOo _ _ _ _ B k1').1 hB')
 ·rcases ho with⟨b,x,q1,q2,rfl⟩ | ⟨b,F,cs,g,q1,q2⟩
  ·by_cases e:b=s.n
   ·subst e; rw [hnn] at q2; cases q2; simp at hB
   ·obtain⟨k1,k2⟩:=lives b q1 e;exact .inl ⟨b,x,k1,hback b x e k2 q2,rfl⟩
  ·rcases hobj b F cs g q1 with⟨rfl,rfl,rfl,rfl⟩ | ⟨k1,e1,e2⟩
   ·rw [(hOn B).1 q2] at hB; omega
   ·exact .inr ⟨b,F,cs,g,k1,(hOo _ _ _ _ B k1).1 q2⟩
end Go.Lev
/- strings.Builder: the statement that makes one -/
namespace Go.Lev
set_option linter.unusedSimpArgs false
set_option linter.unusedVariables false
open Go.RowKit
open Go.Proofs.Tryd (prog)
set_option maxRecDepth 100000
noncomputable def I8 (T d:Nat):Code→Bool
 | .region _ ops false=>(match ops.toList with
   | [o]=>(match o.op,o.dst,o.guard with
     | .alloc t,some e,none=>Nat.beq t T && Nat.beq e d
     | _,_,_=>false)
   | _=>false)
 | _=>false
noncomputable def vg (T e nt d:Nat) (tm:Tm) (s:St):Option (Tm×St):=match s.new (.obj uC (lF [] T e) (s.n+1)) with
 | some s1=>(match s1.new .dead with
   | some s2=>(match md nt tm (some d) (.ptr s.n 0) with
     | some tm'=>some (tm',s2)
     | none=>none)
   | none=>none)
 | none=>none
theorem Ll {P:Program} {T e nt d n0:Nat} {c:Code} (hc:I8 T d c=true) (hz:mO P T=some (.agg #[.pointer none,.slice none 0 0])) {tm tm':Tm} {s s':St} (hn:n0≤s.n) (ha:vg T e nt d tm s=some (tm',s')) {Q:LX→Tm→St→Prop} (hq:Q .normal tm' s'):a0n P nt c n0 tm s Q:=by
 intro W0 r a w hI hA K hK;unfold vg at ha;split at ha
 case h_2=>cases ha
 rename_i s1 h1;split at ha
 case h_2=>cases ha
 rename_i s2 h2;split at ha
 case h_2=>cases ha
 rename_i tm2 h3;simp only [a8,bn] at ha;obtain⟨rfl,rfl⟩:=ha;obtain⟨k1,k2⟩:=hI.newBld h1 h2;obtain⟨p1,p2⟩:=pD h3;unfold I8 at hc;split at hc
 case h_2=>cases hc
 rename_i id ops;split at hc
 case h_2=>cases hc
 rename_i o ho;split at hc
 case h_2=>cases hc
 rename_i t e' hop hdst hgd;simp only [bg] at hc;have e1:=bt hc.1;have e2:=bt hc.2;subst e1 e2;refine wp_region_list ?_;rw [ho];refine wpList_plain hgd fun K2 hK2=>?_
 unfold Oper.wp;have hrun:(execOp a.eval o).run P w=.ok (.value (.pointer (some ⟨w.heap.size,0,none⟩))) { w with heap:=w.heap.push (.cells #[.pointer none,.slice none 0 0] t (0,0)) }:=by
  simp [execOp,hop,Instr.alloc,A2 hz,newVar,newRow]; rfl
 rw [hrun,Oper.upon_value];refine hK2 _ _ ?_;refine wpList_nil ?_;rw [hdst];exact hK .normal _ _ _ _ _ hq k1 (c0w.of k2 hn) ((hA.mono k2.le).put (dst:=some e') (v:=.ptr s.n 0) (by simp only [VR]; exact⟨w.heap.size,0,0,by simp [kS],rfl⟩) p1 p2)
end Go.Lev
