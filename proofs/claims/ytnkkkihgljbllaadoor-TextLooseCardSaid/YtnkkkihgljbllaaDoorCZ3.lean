/- strings.Builder: WriteString and String of a builder of its own block -/
import Derived.Test.YtnkkkihgljbllaaDoorCZ2
namespace Go.Lev
set_option linter.unusedSimpArgs false
set_option linter.unusedVariables false
open Go.RowKit
open Go.Proofs.Tryd (prog)
theorem BldA.check {b:Nat} {p v:Value} {l:List UInt8} {w:World} (h:BldA 63 5 b p v l w) :
  Calls prog 39 #[.pointer (some ⟨b,0,none⟩)] w fun e w'=>e=.returned (.tuple #[])∧BldA 63 5 b (.pointer (some ⟨b,0,none⟩)) v l w'∧w.grownBy w' (some b):=by
 obtain⟨h1,h2,h3,h4⟩:=h
 have hlt:b < w.heap.size:=(Array.getElem?_eq_some_iff.1 h1).1
 rcases h2 with rfl | rfl
 ·refine(cc_fresh b w (by rw [Lib.cell_of_heap h1]; rfl) (by simp [World.shape?,h1]) (Lib.frozen_of_heap h1 0)).mono ?_
  rintro e w' ⟨rfl,rfl⟩
  have hk:∀ k,k≠b→(w.setCell ⟨b,0,none⟩ (.pointer (some ⟨b,0,none⟩))).heap[k]? = w.heap[k]?:=fun k hk=>Below.heap_setCell _ _ _ _ (fun e=>hk e)
  refine⟨rfl,⟨?_,.inr rfl,h3.kept fun k hv=>hk k fun e=>h4 (by rw [hv,e]),h4⟩,rfl,rfl,rfl,by simp [World.setCell],fun k _ q=>hk k fun e=>q (by rw [e])⟩
  simp [World.setCell,Array.getElem?_modify,h1]
 ·refine(cc_used b w (by rw [Lib.cell_of_heap h1]; rfl)).mono ?_
  rintro e w' ⟨rfl,rfl⟩
  exact⟨rfl,⟨h1,.inr rfl,h3,h4⟩,rfl,rfl,rfl,Nat.le_refl _,fun _ _ _=>rfl⟩
theorem byte_info:∃ i,prog.info? 5=some i∧i.zero=some (.int .u8 0)∧i.size=1∧i.bytes=1:=by
 have h:(prog.info? 5).map (fun i=>(i.zero,i.size,i.bytes))=some (some (.int .u8 0),1,1):=by kernel_rfl
 obtain⟨i,h1,h2⟩:=Option.map_eq_some_iff.1 h
 simp only [Prod.mk.injEq] at h2
 exact⟨i,h1,h2⟩
structure Wrote (T e b:Nat) (v:Value) (l:List UInt8) (w w':World):Prop where
 at_:∃ v',BldA T e b (.pointer (some ⟨b,0,none⟩)) v' l w'∧(v'.ownBlock=v.ownBlock∨∃ g,v'.ownBlock=some g∧w.heap.size≤g)
 os:w'.os=w.os
 tape:w'.tape=w.tape
 output:w'.output=w.output
 size:w.heap.size≤w'.heap.size
 keep:∀ k,k < w.heap.size→k≠b→v.ownBlock≠some k→w'.heap[k]? = w.heap[k]?
theorem wpList_append_run {P:Program} {ops:Array Oper} {rest:List Oper} {o:Oper} {a:Act} {w:World} {Q:Exit→Act→World→Prop} (hgd:o.guard=none) (sl x:Operand) (t u:TypeId)
  (ho:o.op=.call { callee:=.builtin .append,args:=#[sl,x],argTypes:=#[t,u] }) {v y v':Value} {w':World} (hs:a.eval sl=v) (hx:a.eval x=y) (hr:∀ ty,(Builtin.append_ #[t,u] ty #[v,y]).run P w=.ok v' w')
  (h:wpList P ops Q rest (a.put o.dst v') w'):wpList P ops Q (o::rest) a w:=by
 refine wpList_plain hgd fun K hK=>?_
 unfold Oper.wp execOp
 simp only [ho,resolve,invoke,builtin,Sem.run_bind,Sem.run_pure,Result.andThen_ok,List.map_toArray,List.map_cons,List.map_nil,hs,hx,hr]
 exact hK _ _ h
set_option maxHeartbeats 2000000 in
set_option maxRecDepth 100000 in
theorem ws_any {b:Nat} {p v:Value} {l:List UInt8} {w:World} (h:BldA 63 5 b p v l w) (s:ByteArray) (hl:l.length+s.size≤1000000) :
  Calls prog 25 #[.pointer (some ⟨b,0,none⟩),.string s] w fun e w'=>e=.returned (.tuple #[.int .i64 s.size,.nilIface])∧Wrote 63 5 b v (l++s.data.toList) w w':=by
 obtain⟨i0,hi,hz0,hz1,hz2⟩:=byte_info
 go_enter Go.Proofs.Tryd.func25,Go.Proofs.Tryd.ntmps25
 go_wp2_with (go_at_call 39; refine(h.check).mono ?_)
 rintro e w1 ⟨rfl,⟨hbk,hp,hrow,hne⟩,hg1⟩
 have c1:w1.cell? ⟨b,1,none⟩=some v:=by rw [Lib.cell_of_heap hbk]; rfl
 have hlt:b < w1.heap.size:=(Array.getElem?_eq_some_iff.1 hbk).1
 obtain⟨v',w2,hr,hrow',hg2,hown⟩:=ap_str (P:=prog) (t:=22) (u:=9) (ty:=22) Go.Proofs.Tryd.underlying22 Go.Proofs.Tryd.underlying9 hi hz0 hz1 hz2 hrow s hl
 have hr2:∀ ty,(Builtin.append_ #[22,9] ty #[v,.string s]).run prog w1=.ok v' w2:=fun ty=>by rw [← hr]; rfl
 have hb2:w2.heap[b]? = some (.cells #[.pointer (some ⟨b,0,none⟩),v] 63 (0,0)):=by rw [hg2.block b hlt (fun e=>hne e.symm)]; exact hbk
 have d0:w2.cell? ⟨b,0,none⟩=some (.pointer (some ⟨b,0,none⟩)):=by rw [Lib.cell_of_heap hb2]; rfl
 have d1:w2.cell? ⟨b,1,none⟩=some v:=by rw [Lib.cell_of_heap hb2]; rfl
 have f1:w2.frozen? ⟨b,1,none⟩=false:=Lib.frozen_of_heap hb2 1
 have hne':v'.ownBlock≠some b:=by
  rcases hown with e | ⟨g,e,hg⟩
  ·rw [e]; exact hne
  ·rw [e]; intro k; simp only [Option.some.injEq] at k; omega
 have hone:v'.oneCell'=true:=by
  rcases hrow' with⟨rfl,_⟩ | ⟨g,cap,cur,_,rfl,_⟩ <;> rfl
 have hkeep:∀ k,k≠b→(w2.setCell ⟨b,1,none⟩ v').heap[k]? = w2.heap[k]?:=fun k hk=>Below.heap_setCell _ _ _ _ (fun e=>hk e)
 have hfin:Wrote 63 5 b v (l++s.data.toList) w (w2.setCell ⟨b,1,none⟩ v'):=by
  refine⟨⟨v',⟨?_,.inr rfl,hrow'.kept fun k hk=>hkeep k fun e=>hne' (by rw [hk,e]),hne'⟩,?_⟩,hg2.os.trans hg1.os,hg2.tape.trans hg1.tape,hg2.output.trans hg1.output,?_,?_⟩
  ·simp [World.setCell,Array.getElem?_modify,hb2]
  ·exact hown.imp id fun⟨g,e,hg⟩=>⟨g,e,Nat.le_trans hg1.size hg⟩
  ·have:=hg1.size; have:=hg2.size; simp [World.setCell]; omega
  ·intro k hk hkb hkv
   rw [hkeep k hkb,hg2.block k (Nat.lt_of_lt_of_le hk hg1.size) (fun e=>hkv e.symm),hg1.block k hk (fun e=>hkb (by simpa using e))]
 clear hr hkeep hrow hrow' hg1 hg2 hown hne hne' hp
 obtain⟨ao,n',cap,rfl⟩:∃ ao n' cap,v'=.slice ao n' cap:=by
  obtain⟨v2,⟨h2,_,h3,_⟩,_⟩:=hfin.at_
  have:v2=v':=by
   have h4:(w2.setCell ⟨b,1,none⟩ v').heap[b]? = some (.cells #[.pointer (some ⟨b,0,none⟩),v'] 63 (0,0)):=by simp [World.setCell,Array.getElem?_modify,hb2]
   rw [h2] at h4; simp at h4; exact h4
  subst this
  rcases h3 with⟨rfl,_⟩ | ⟨g,cap,cur,_,rfl,_⟩
  ·exact⟨_,_,_,rfl⟩
  ·exact⟨_,_,_,rfl⟩
 go_wp2_with (at_builtin; refine wpList_append_run rfl _ _ 22 9 rfl rfl rfl hr2 ?_)
 go_wp2
 go_ret2
 exact⟨rfl,hfin⟩
end Go.Lev
