/- FreA, RanA, NewsA, WldB: parts of the proof, one behind the other. -/
import Derived.Test.YtnapboelfimaaaaGreatDoorB32
import Derived.Test.YtnapboelfimaaaaGreatDoorB34
import Derived.Laws.CopyOwn
namespace Go.Proofs.YtnapboelfimaaaaGreatDoor
open Go.RowKit Go.Deep
theorem longR_le (l:List RouteD):longR l≤l.length:=by unfold longR;exact List.length_filter_le _ _
theorem longR_yes {l:List RouteD} {k:Nat} (h:k<l.length) (hy:7<(l.getD k RouteD.zero).len):longR (l.take (k+1))=longR (l.take k)+1:=by
 unfold longR
 rw[take_snocR h,List.filter_append,List.length_append,List.filter_cons_of_pos (by simpa using hy)]
 rfl
theorem longR_no {l:List RouteD} {k:Nat} (h:k<l.length) (hy:¬7<(l.getD k RouteD.zero).len):longR (l.take (k+1))=longR (l.take k):=by
 unfold longR
 rw[take_snocR h,List.filter_append,List.length_append,List.filter_cons_of_neg (by simpa using hy)]
 rfl
set_option maxHeartbeats 2000000 in
set_option maxRecDepth 10000 in
theorem frees_ok (rb:Nat) (d:RefD) (free:Int) (w:World) (hr:RefAt w rb d) (hs:d.small) (hw1:0≤d.words) (hw2:d.words≤65536) (h1:d.words-1280-64*(d.count:Int)≤free) (h2:free≤d.words-(longR d.fours+longR d.sixes:Nat)) :
  Calls Tryz.prog 21 #[.pointer (some ⟨rb,0,none⟩),.int .i64 free] w fun e w'=>e=.returned (.bool true)∧Below w.heap.size w w':=by
 have HR:=hide hr
 obtain⟨a4,a6,c4,c6,hb,h4,h6⟩:=hr
 obtain⟨s4,s6⟩:=hs
 have HO4:=hide h4
 have HO6:=hide h6
 have HB:=hide hb
 have k1:=cell_at hb 1
 have k2:=cell_at hb 2
 simp at k1 k2
 unfold RefD.count at h1
 have H12:=hide (And.intro h1 h2)
 clear hb h4 h6 h1 h2
 obtain⟨n4,e4⟩:∃n,n=d.fours.length:=⟨_,rfl⟩
 obtain⟨n6,e6⟩:∃n,n=d.sixes.length:=⟨_,rfl⟩
 have E4:=hide e4
 have E6:=hide e6
 rw[←e4] at k1 s4
 rw[←e6] at k2 s6
 clear e4 e6
 go_enter Tryz.func21,Tryz.ntmps21
 go_wp2
 go_quiet (fail)
 go_wp2
 go_loopw [6,7] (fun lg i wr=>∃k:Nat,k≤n4∧i=.int .i64 (k:Int)∧lg=.int .i64 (longR (d.fours.take k):Int)∧Below w.heap.size w wr) (fun _ i _=>n4-(intOf i).toNat)
 case atStart=>exact⟨0,Nat.zero_le _,rfl,rfl,drewN_ext _ _⟩
 case round =>
  obtain⟨k,hk,rfl,rfl,hbr⟩:=hrel
  have j0:wr.cell? ⟨rb,0,none⟩=some (.int .i64 d.words):=(cell_at (block_ext HB.out hbr) 0).trans (by simp)
  have j1:wr.cell? ⟨rb,1,none⟩=some (.slice a4 n4 c4):=cell_ext k1 hbr
  have HBR:=hide hbr
  have g4:longR (d.fours.take k)≤n4:=Nat.le_trans (longR_le _) (by rw[E4.out];exact List.length_take_le' _ _)
  by_cases hkl:k<n4
  ·have hkl':k<d.fours.length:=by rw[←E4.out];exact hkl
   obtain⟨g,rfl,hg,_,c11,_⟩:=route_cells (owns_ext HO4.out hbr) hkl'
   have hY:=hide (longR_yes hkl')
   have hN:=hide (longR_no hkl')
   generalize d.fours.getD k RouteD.zero=o at c11 hY hN
   clear hbr
   by_cases ho:7<o.len
   ·have hY':=hide (hY.out ho)
    go_wp2
    go_roundw
    case rel=>exact⟨k+1,by omega,by go_num,by rw[hY'.out];go_num,HBR.out⟩
    case measure=>simp[intOf];omega
   ·have hN':=hide (hN.out ho)
    have ho':o.len≤7:=by omega
    go_wp2
    go_roundw
    case rel=>exact⟨k+1,by omega,by go_num,by rw[hN'.out],HBR.out⟩
    case measure=>simp[intOf];omega
  ·obtain rfl:k=n4:=by omega
   have hL4:longR (d.fours.take k)=longR d.fours:=by rw[E4.out,List.take_length]
   rw[hL4] at g4
   obtain⟨q4,hq4⟩:∃q,q=longR d.fours:=⟨_,rfl⟩
   have Q4:=hide hq4
   rw[hL4,←hq4]
   rw[←hq4] at g4
   clear hbr hL4 hq4 hkl
   go_wp2
   go_loopw [6,8] (fun lg i wx=>∃j:Nat,j≤n6∧i=.int .i64 (j:Int)∧lg=.int .i64 ((q4+longR (d.sixes.take j):Nat):Int)∧Below w.heap.size w wx) (fun _ i _=>n6-(intOf i).toNat)
   case atStart=>exact⟨0,Nat.zero_le _,rfl,rfl,HBR.out⟩
   case round =>
    obtain⟨j,hj,rfl,rfl,hbx⟩:=hrel
    have j0':wr.cell? ⟨rb,0,none⟩=some (.int .i64 d.words):=(cell_at (block_ext HB.out hbx) 0).trans (by simp)
    have j2:wr.cell? ⟨rb,2,none⟩=some (.slice a6 n6 c6):=cell_ext k2 hbx
    have HBX:=hide hbx
    have g6:longR (d.sixes.take j)≤n6:=Nat.le_trans (longR_le _) (by rw[E6.out];exact List.length_take_le' _ _)
    by_cases hjl:j<n6
    ·have hjl':j<d.sixes.length:=by rw[←E6.out];exact hjl
     obtain⟨g,rfl,hg,_,c11,_⟩:=route_cells (owns_ext HO6.out hbx) hjl'
     have hY:=hide (longR_yes hjl')
     have hN:=hide (longR_no hjl')
     generalize d.sixes.getD j RouteD.zero=o at c11 hY hN
     clear hbx
     by_cases ho:7<o.len
     ·have hY':=hide (hY.out ho)
      go_wp2
      go_roundw
      case rel=>exact⟨j+1,by omega,by go_num,by rw[hY'.out];go_num,HBX.out⟩
      case measure=>simp[intOf];omega
     ·have hN':=hide (hN.out ho)
      have ho':o.len≤7:=by omega
      go_wp2
      go_roundw
      case rel=>exact⟨j+1,by omega,by go_num,by rw[hN'.out],HBX.out⟩
      case measure=>simp[intOf];omega
    ·obtain rfl:j=n6:=by omega
     have hL6:longR (d.sixes.take j)=longR d.sixes:=by rw[E6.out,List.take_length]
     rw[hL6] at g6
     obtain⟨q6,hq6⟩:∃q,q=longR d.sixes:=⟨_,rfl⟩
     rw[hL6,←hq6]
     rw[←hq6] at g6
     obtain⟨f1,f2⟩:=H12.out
     rw[←E4.out,←E6.out] at f1
     rw[←Q4.out,←hq6] at f2
     clear hbx hL6 hq6 hjl
     have e1:decide (d.words-1280-64*((k:Int)+(j:Int))≤free)=true:=by simp;omega
     have e2:decide (free≤d.words-((q4:Int)+(q6:Int)))=true:=by simp;omega
     go_wp2
     go_ret
     exact⟨rfl,HBX.out⟩
end Go.Proofs.YtnapboelfimaaaaGreatDoor
namespace Go.Proofs.YtnapboelfimaaaaGreatDoor
open Go.RowKit Go.Deep
def OpD.zero:OpD:=⟨0,0,.empty,0,0⟩
def flatO (l:List OpD):List Value:=l.flatMap OpD.cells
theorem flatO_len (l:List OpD):(flatO l).length=l.length*5:=opsFlat_len l
theorem flatO_get (l:List OpD) (k j:Nat) (hk:k<l.length) (hj:j<5):(flatO l)[k*5+j]?=((l.getD k OpD.zero).cells)[j]?:=by
 unfold flatO
 induction l generalizing k with
 | nil=>simp at hk
 | cons o l ih =>
  rw[List.flatMap_cons]
  cases k with
  | zero =>
   rw[Nat.zero_mul,Nat.zero_add,List.getElem?_append_left (by simp[OpD.cells];omega)]
   rfl
  | succ k =>
   rw[List.getElem?_append_right (by simp[OpD.cells];omega)]
   have e:(k+1)*5+j-o.cells.length=k*5+j:=by simp[OpD.cells];omega
   rw[e,ih k (by simpa using hk)]
   rfl
theorem flatO_one (l:List OpD):∀u∈flatO l,u.oneCell'=true:=by
 intro u hu
 obtain⟨o,_,ho⟩:=List.mem_flatMap.1 hu
 exact op_one o u ho
theorem flatO_append (l m:List OpD):flatO (l++m)=flatO l++flatO m:=by unfold flatO;rw[List.flatMap_append]
theorem made_ops (n:Nat):(madeCells #[.int .i64 0,.int .i64 0,.string .empty,.int .i64 0,.int .i64 0] (n*5)).toList=flatO (List.replicate n OpD.zero):=by
 apply List.ext_getElem?
 intro i
 by_cases hi:i<n*5
 ·obtain⟨k,j,hj,rfl⟩:∃k j,j<5∧i=k*5+j:=⟨i/5,i%5,Nat.mod_lt _ (by decide),by omega⟩
  have hk:k<n:=by omega
  rw[flatO_get _ _ _ (by simpa using hk) hj]
  have e1:(List.replicate n OpD.zero).getD k OpD.zero=OpD.zero:=by
   rw[List.getD_eq_getElem?_getD,List.getElem?_replicate]
   split <;> rfl
  rw[e1]
  unfold madeCells
  simp only[Array.toList_map,List.getElem?_map,Array.getElem?_toList,Array.getElem?_range]
  rw[if_pos hi]
  rcases (by omega:j=0∨j=1∨j=2∨j=3∨j=4) with rfl | rfl | rfl | rfl | rfl <;> simp[OpD.cells,OpD.zero,Nat.mul_add_mod_self_right]
 ·rw[List.getElem?_eq_none (by simp[size_madeCells];omega),List.getElem?_eq_none (by rw[flatO_len];simp;omega)]
def spareO (ops:List OpD):List OpD:=ops++List.replicate 8 OpD.zero
theorem spareO_len (ops:List OpD):(spareO ops).length=ops.length+8:=by simp[spareO]
theorem copied_ops (ops:List OpD):flatO ops++(madeCells #[.int .i64 0,.int .i64 0,.string .empty,.int .i64 0,.int .i64 0] ((ops.length+8)*5)).toList.drop (ops.length*5)=flatO (spareO ops):=by
 rw[made_ops,spareO,flatO_append]
 congr 1
 have e:List.replicate (ops.length+8) OpD.zero=List.replicate ops.length OpD.zero++List.replicate 8 OpD.zero:=by rw[List.replicate_append_replicate]
 rw[e,flatO_append]
 exact List.drop_left' (by rw[flatO_len];simp)
theorem spare_in {ops:List OpD} (h:∀o∈ops,o.ok):OpsIn (flatO (spareO ops)).toArray 0 ops:=by
 refine⟨fun j o hj=>?_,h⟩
 have hl:=(List.getElem?_eq_some_iff.1 hj).1
 have e:(spareO ops).getD j OpD.zero=o:=by
  rw[List.getD_eq_getElem?_getD,spareO,List.getElem?_append_left hl,hj]
  rfl
 have g:=fun i (hi:i<5)=>flatO_get (spareO ops) j i (by rw[spareO_len];omega) hi
 simp only[e] at g
 simp only[List.getElem?_toArray,Nat.zero_add]
 exact⟨g 0 (by omega),g 1 (by omega),g 2 (by omega),g 3 (by omega),g 4 (by omega)⟩
theorem spare_get {ops:List OpD} {j:Nat} (hj:j<ops.length+8):(spareO ops).getD j OpD.zero=if j<ops.length then ops.getD j OpD.zero else OpD.zero:=by
 rw[List.getD_eq_getElem?_getD,List.getD_eq_getElem?_getD,spareO]
 by_cases h:j<ops.length
 ·rw[if_pos h,List.getElem?_append_left h]
 ·rw[if_neg h,List.getElem?_append_right (by omega),List.getElem?_replicate]
  split <;> rfl
theorem spare_owns {w:World} {g:Nat} {ops:List OpD} (h:w.heap[g]?=some (.cells (flatO (spareO ops)).toArray 27 (0,0))) (hl:ops.length≤2932031007402):w.ownsRow 0 27 5 (.slice (some ⟨g,0,none⟩) (ops.length+8) (ops.length+8)) (ops.length+8) (flatO (spareO ops)):=by
 have e:=flatO_len (spareO ops)
 rw[spareO_len] at e
 exact⟨e,.inr ⟨g,_,_,rfl,Nat.zero_le _,h,Nat.le_refl _,by unfold maxLen;omega,by simpa using e,by simp only;rw[←e];exact List.take_length⟩⟩
theorem ans_owns {w:World} {g n:Nat} {X:Array Value} {xs:List Ans} (h:w.heap[g]?=some (.cells X 59 (0,0))) (hA:AnsIn X n xs) (hl:n≤2932031007402):w.ownsRow 0 59 3 (.slice (some ⟨g,0,none⟩) n n) n X.toList :=
 ⟨by simpa using hA.size,.inr ⟨g,_,_,rfl,Nat.zero_le _,h,Nat.le_refl _,by unfold maxLen;omega,hA.size,by rw[←hA.size,←Array.length_toList];exact List.take_length⟩⟩
theorem row_op {w:World} {base k n:Nat} {ao:Option Addr} {cap:Nat} {l:List OpD} (h:w.ownsRow base 27 5 (.slice ao n cap) n (flatO l)) (hk:k<n) (hn:n=l.length) :
  ∃g,ao=some ⟨g,0,none⟩∧g<w.heap.size∧w.cell? ⟨g,k*5,none⟩=some (.int .i64 (l.getD k OpD.zero).code)∧w.cell? ⟨g,k*5+1,none⟩=some (.int .i64 (l.getD k OpD.zero).family)∧w.cell? ⟨g,k*5+2,none⟩=some (.string (l.getD k OpD.zero).bits)∧w.cell? ⟨g,k*5+3,none⟩=some (.int .i64 (l.getD k OpD.zero).len)∧w.cell? ⟨g,k*5+4,none⟩=some (.int .i64 (l.getD k OpD.zero).hop):=by
 subst hn
 rcases h.2 with ⟨e,e0⟩ | ⟨g,cp,cur,e,hb,hh,r⟩
 ·omega
 ·cases e
  have c:=fun j (hj:j<5)=>(h.cellAt (k*5+j) (by omega)).trans (flatO_get l k j hk hj)
  exact⟨g,rfl,lt_of_block hh,c 0 (by omega),c 1 (by omega),c 2 (by omega),c 3 (by omega),c 4 (by omega)⟩
theorem run_copy_ops (w:World) (ty:TypeId) (g dLen dCap n cap:Nat) (src:Option Addr) (cur:Array Value) (ops:List OpD) (hg:w.heap[g]?=some (.cells cur 27 (0,0))) (hn:n=ops.length) (hd:n≤dLen) (hfit:n*5≤cur.size)
  (hown:w.ownsRow 0 27 5 (.slice src n cap) n (flatO ops)) :
  (Builtin.copy_ #[28,28] ty #[.slice (some ⟨g,0,none⟩) dLen dCap,.slice src n cap]).run Tryz.prog w=.ok (goInt n) (w.setRow g (flatO ops++cur.toList.drop (n*5)).toArray):=by
 obtain⟨i0,hi,hz0,hz1,hz2⟩:=info_parts infoOpC
 subst hn
 have hmin:Nat.min ops.length dLen=ops.length:=Nat.min_eq_left hd
 rcases hown.2 with ⟨e,e0⟩ | ⟨g',cp,cur',e,hb,hh,r⟩
 ·have e1:ops=[]:=List.eq_nil_of_length_eq_zero e0
  subst e1
  simp only[Value.slice.injEq] at e
  obtain⟨rfl,_,rfl⟩:=e
  have hst:=run_storeCells_at Tryz.prog g 0 27 [] 0 cur w hg (by simp) (by simp)
  simp only[List.length_nil,Nat.add_zero,List.take_zero,List.nil_append,List.drop_zero] at hst
  simp[Builtin.copy_,run_underlying Tryz.underlying28,Builtin.lenOf,Builtin.firstCells,sizeOf,typeInfo,hi,hst,flatO]
 ·cases e
  have hf:=run_firstCells_some (P:=Tryz.prog) w 5 ops.length ⟨g',0,none⟩ ops.length cap (flatO ops) (flatO_len ops) (hown.cells rfl)
  have hst:=run_storeCells_at Tryz.prog g 0 27 (flatO ops) 0 cur w hg (by rw[flatO_len];omega) (flatO_one ops)
  simp only[Nat.add_zero,Nat.zero_add,List.take_zero,List.nil_append,flatO_len] at hst
  simp[Builtin.copy_,run_underlying Tryz.underlying28,Builtin.lenOf,sizeOf,typeInfo,hi,hz1,hmin,hf,hst]
theorem setRow_frame {w:World} {g:Nat} {C:Array Value}:Fr [g] w (w.setRow g C):=⟨rfl,rfl,rfl,by simp[World.setRow],fun k _ hk=>setRow_other _ _ _ _ (by simpa using hk)⟩
set_option maxHeartbeats 2000000 in
theorem run_zero (fb cp:Nat) (sl:Option Addr) (w:World) :
  Calls Tryz.prog 19 #[.pointer (some ⟨fb,0,none⟩),.slice sl 0 cp] w fun e w'=>e=.returned (.slice (some ⟨w.heap.size,0,none⟩) 0 0)∧w'=w.alloc (.cells (madeCells #[.int .i64 0,.int .i64 0,.int .i64 0] 0) 59):=by
 obtain⟨i0,hi,hz0,hz1,hz2⟩:=info_parts infoAns
 have hmk:∀w,(Instr.makeSlice 55 (.int .i64 0) (.int .i64 0)).run Tryz.prog w=.ok (.slice (some ⟨w.heap.size,0,none⟩) 0 0) (w.alloc (.cells (madeCells #[.int .i64 0,.int .i64 0,.int .i64 0] 0) 59)):=by
  intro w
  have:=run_make (P:=Tryz.prog) w 55 59 i0 (.agg #[.int .i64 0,.int .i64 0,.int .i64 0]) Tryz.underlying55 hi hz0 .i64 .i64 0 0 (by omega) (by omega) (by omega) (by omega)
  rw[hz1] at this
  exact this
 clear hi hz0 hz1 hz2
 go_enter Tryz.func19,Tryz.ntmps19
 go_wp2
 go_loopw [13] (fun v wr=>v=.int .i64 0∧wr=w.alloc (.cells (madeCells #[.int .i64 0,.int .i64 0,.int .i64 0] 0) 59)) (fun _ _=>0)
 case atStart=>exact⟨rfl,rfl⟩
 case round =>
  obtain⟨rfl,rfl⟩:=hrel
  go_wp2
  go_ret
  exact⟨rfl,rfl⟩
theorem run_row (S:St) (os:List OpD) (C:Array Value) (b:FB) (fb ob cap n:Nat) (w:World) (h:b.lies w S.A) (hS:S.ok) (hfb:b.fb=fb) (hb:w.heap[ob]?=some (.cells C 27 (0,0))) (hC:OpsIn C 0 os) (hn:n=os.length) (hl:n≤2932031007402) :
  Calls Tryz.prog 19 #[.pointer (some ⟨fb,0,none⟩),.slice (some ⟨ob,0,none⟩) n cap] w fun e w'=>e=.returned (.slice (some ⟨w.heap.size,0,none⟩) n n)∧∃b':FB,b'.fb=fb∧b.moved b' w w' (S.run os).1.A∧(S.run os).1.ok∧∃X,w'.heap[w.heap.size]?=some (.cells X 59 (0,0))∧AnsIn X n (S.run os).2:=by
 subst hfb hn
 by_cases he:os=[]
 ·subst he
  refine(run_zero b.fb cap _ w).mono ?_
  rintro e w' ⟨rfl,rfl⟩
  obtain⟨b',hm⟩:=FB.move h (show Moved w (w.alloc (.cells (madeCells #[.int .i64 0,.int .i64 0,.int .i64 0] 0) 59)) b.tb b.ab b.wb S.A from ⟨⟨b.ab,b.wb,Or.inl ⟨rfl,rfl⟩,h.tab.ext (ext_alloc _ _)⟩,fr_below (ext_alloc _ _)⟩)
  exact⟨rfl,b',hm.fb,hm,hS,_,heap_alloc_new w _,AnsIn.made 0⟩
 ·have n1:=ty_ne hb h.tab.tab (by decide)
  have n2:=ty_ne hb h.tab.ar.arena (by decide)
  have n3:=ty_ne hb h.tab.ar.words (by decide)
  refine(run_any S os b.fb b.tb b.ab b.wb ob 0 cap C 27 w h hS hb hC n1 n2 n3 (by omega)).mono ?_
  rintro e w' ⟨rfl,hM,hX⟩
  obtain⟨b',hm⟩:=FB.move h hM
  exact⟨rfl,b',hm.fb,hm,(run_ok hS os).1,hX⟩
set_option maxHeartbeats 1000000 in
theorem dump_no (b:FB) (A:Ar) (w:World) (h:b.lies w A) (f:Int) (hf:famBytes f=0) :
  Calls Tryz.prog 23 #[.pointer (some ⟨b.fb,0,none⟩),.int .i64 f] w fun e w'=>e=.returned (.slice none 0 0)∧w'=w:=by
 have hl:=lt_of_block h.fib
 have HA:=hide (show ∀w,Calls Tryz.prog 35 #[.int .i64 f] w fun e w'=>e=.returned (.int .i64 0)∧w'=w from fun w=>by have:=addressBytes_any f w;rw[hf] at this;exact this)
 clear h
 go_enter Tryz.func23,Tryz.ntmps23
 go_wp2_with fail
 refine(HA.out _).mono ?_
 rintro e w' ⟨rfl,rfl⟩
 go_wp2
 go_ret
 exact⟨rfl,rfl⟩
theorem dump_all (S:St) (hS:S.ok) (b:FB) (w:World) (h:b.lies w S.A) (hZ:TzTab w) (fb:Nat) (hfb:b.fb=fb) (f:Int) :
  Calls Tryz.prog 23 #[.pointer (some ⟨fb,0,none⟩),.int .i64 f] w fun e w'=>∃ao cap,e=.returned (.slice ao ((refOf S).routes f).length cap)∧w'.ownsRow w.heap.size 66 3 (.slice ao ((refOf S).routes f).length cap) ((refOf S).routes f).length (flatR ((refOf S).routes f))∧Below w.heap.size w w':=by
 subst hfb
 by_cases hf:famBytes f=0
 ·have e:(refOf S).routes f=[]:=by
   unfold RefD.routes
   unfold famBytes at hf
   by_cases h4:f=4
   ·rw[if_pos h4] at hf;omega
   ·by_cases h6:f=6
    ·rw[if_neg h4,if_pos h6] at hf;omega
    ·rw[if_neg h4,if_neg h6]
  rw[e]
  refine(dump_no b S.A w h f hf).mono ?_
  rintro e w' ⟨rfl,rfl⟩
  exact⟨none,0,rfl,World.ownsRow_nil _ _ _ _,Below.refl _ _⟩
 ·rw[ref_routes S hf]
  refine(dump_any S hS b w h hZ f f rfl hf).mono ?_
  rintro e w' ⟨v,rfl,ho,hb⟩
  obtain⟨ao,cap,rfl⟩:=owns_slice ho
  exact⟨ao,cap,rfl,ho,hb⟩
theorem keep_x (w:World) (b:Nat) (psv:Value) (ao:Option Addr) (cap:Nat) (hs:List HoldD) (h0:HoldD) (x1 x2 x3:List Value) (H:HoldsAt w b psv ao cap hs) (hb:w.heap[h0.hb]?=some (.cells h0.cells 63 (0,0)))
  (h1:w.ownsRow 0 59 3 (.slice h0.a1 h0.l1 h0.c1) h0.l1 x1) (h2:w.ownsRow 0 66 3 (.slice h0.a2 h0.l2 h0.c2) h0.l2 x2) (h3:w.ownsRow 0 27 5 (.slice h0.a3 h0.l3 h0.c3) h0.l3 x3)
  (hn:hs.length≤21000000000000) (hl:h0.l1+3≤2932031007402∧h0.l2+3≤2932031007402∧h0.l3+3≤2932031007402) (ha:∀x∈hs,Apart x h0) :
  Calls Tryz.prog 22 #[.pointer (some ⟨b,0,none⟩),.pointer (some ⟨h0.hb,0,none⟩)] w fun e w'=>e=.returned (.tuple #[])∧∃L ao' cap',HoldsAt w' b psv ao' cap' (hs++L)∧L.length=4∧Fr ([b,h0.hb]++bls ao++h0.rows) w w'∧(∀x∈L,(x.hb=h0.hb∨w.heap.size≤x.hb)∧∀k∈x.rows,k∈h0.rows∨w.heap.size≤k)∧∀k∈bls ao',k∈bls ao∨w.heap.size≤k:=by
 refine(keep_any w b psv ao cap hs h0 x1 x2 x3 H hb h1 h2 h3 hn hl ha).mono ?_
 rintro e w' ⟨rfl,L,cur,ao',cap',K⟩
 exact⟨rfl,L,ao',cap',K.at_,K.len,K.fr,K.new,K.row_new⟩
theorem hold_lt {w:World} {x:HoldD} (h:HoldOk w x):x.hb<w.heap.size∧∀k∈x.rows,k<w.heap.size:=by
 refine⟨h.lt,fun k hk=>?_⟩
 have key:∀ {t size l c:Nat} {ax:Option Addr} {ys:List Value},w.ownsRow 0 t size (.slice ax l c) l ys→k∈bls ax→k<w.heap.size:=by
  intro t size l c ax ys ho hk
  obtain⟨_,c',fz,hc⟩:=owns_type ho k hk
  exact lt_of_block hc
 simp only[HoldD.rows,List.mem_append] at hk
 rcases hk with (hk | hk) | hk
 ·exact key h.2.2.1 hk
 ·exact key h.2.2.2.1 hk
 ·exact key h.2.2.2.2 hk
end Go.Proofs.YtnapboelfimaaaaGreatDoor
namespace Go.Proofs.YtnapboelfimaaaaGreatDoor
open Go.RowKit Go.Deep
set_option maxHeartbeats 400000 in
theorem created_no (b:Nat) (w:World) (k n words f:Int) (ops:Value) (h:words<2048∨65536<words) :
  Calls Tryz.prog 11 #[.pointer (some ⟨b,0,none⟩),.agg #[.int .i64 k,.int .i64 n,.int .i64 words,ops,.int .i64 f]] w fun e w'=>e=.returned (.bool true)∧Below w.heap.size w w':=by
 go_enter Tryz.func11,Tryz.ntmps11
 go_wp2_with (first | (go_at_call 17;refine(bywayNew_no words _ h).mono ?_;rintro e w' ⟨rfl,rfl⟩) | (go_at_call 18;refine(refNew_no words _ h).mono ?_;rintro e w' ⟨rfl,rfl⟩))
 go_ret
 exact⟨rfl,(Below.refl _ _).alloc (Nat.le_refl _) _⟩
end Go.Proofs.YtnapboelfimaaaaGreatDoor
namespace Go.Proofs.YtnapboelfimaaaaGreatDoor
open Go.RowKit Go.Deep
set_option maxHeartbeats 1000000 in
set_option maxRecDepth 10000 in
theorem created_four (b:Nat) (w:World) (k n f:Int) (words:Nat) (ops hv:Value) (h:2048≤words) (h2:words≤65536) (ao:Option Addr) (cap:Nat) (hb:w.heap[b]?=some (.cells #[.slice ao 4 cap,hv] 35 (0,0))) :
  Calls Tryz.prog 11 #[.pointer (some ⟨b,0,none⟩),.agg #[.int .i64 k,.int .i64 n,.int .i64 words,ops,.int .i64 f]] w fun e w'=>e=.returned (.bool true)∧Below w.heap.size w w':=by
 have c0:=cell_two0 hb
 have hlt:=lt_of_block hb
 clear hb
 go_enter Tryz.func11,Tryz.ntmps11
 go_wp2_with fail
 refine(bywayNew_ext words _ h h2).mono ?_
 rintro e w1 ⟨rfl,hb1,hs1,_,_,_⟩
 have d0:w1.cell? ⟨b,0,none⟩=some (.slice ao 4 cap):=(hb1.cell (p:=⟨b,0,none⟩) (by simp;omega)).trans (by rw[World.cell?_alloc_past _ _ _ hlt];exact c0)
 have d2:w1.cell? ⟨w.heap.size,2,none⟩=some (.int .i64 words):=(hb1.cell (p:=⟨w.heap.size,2,none⟩) (by simp)).trans (by simp)
 simp only[World.size_alloc] at hs1
 have hlt1:b<w1.heap.size:=by omega
 have hne1:b≠w1.heap.size:=by omega
 have HE:=hide (show Below w.heap.size w (w1.alloc (.cells #[.int .i64 words,.slice none 0 0,.slice none 0 0] 48)) from ext_trans (ext_trans (ext_alloc w _) hb1) (ext_alloc _ _))
 clear hb1
 go_wp2_with fail
 refine(refNew_yes words _ (by omega) (by omega)).mono ?_
 rintro e w2 ⟨rfl,rfl⟩
 go_wp2_with fail
 go_ret
 exact⟨rfl,HE.out⟩
theorem world_more {K:Nat} {w w':World} {b:Nat} {ps:List PlD} {hs:List HoldD} {pa ha:Option Addr} {pc hc:Nat} (h:WAt K w b ps hs pa pc ha hc) {p:PlD} (hp:PlAt K w p) (hap:∀q∈ps,PlApart q p) (h4:ps.length<4) {pa':Option Addr} {pc':Nat}
  (hrow:w'.ownsRow K 38 1 (.slice pa' (ps.length+1) pc') (ps.length+1) (ps.map PlD.ptr++[p.ptr])) (hf:Fr (bls pa) w w') :
  WAt K (w'.setCell ⟨b,0,none⟩ (.slice pa' (ps.length+1) pc')) b (ps++[p]) hs pa' pc' ha hc∧FrT writes K w (w'.setCell ⟨b,0,none⟩ (.slice pa' (ps.length+1) pc')):=by
 have tb:IsT w b 35:=⟨_,_,h.holds.blk⟩
 have tp:=fun k hk=>(owns_type h.row k hk)
 have hbn:b ∉ bls pa:=fun hk=>(tp b hk).2.ne h.holds.blk (by decide) rfl
 have hblk:=hf.at h.holds.blk hbn
 have hf2:Fr (b :: bls pa) w (w'.setCell ⟨b,0,none⟩ (.slice pa' (ps.length+1) pc')):=(hf.mono (fun k hk _=>by simp[hk])).setCell (Or.inl (by simp)) _
 have hS:∀k∈b :: bls pa,IsT w k 35∨IsT w k 38∨IsT w k 49:=by
  intro k hk
  rcases List.mem_cons.1 hk with rfl | hk
  ·exact .inl tb
  ·exact .inr (.inl (tp k hk).2)
 refine⟨⟨?_,?_,h.hge,h.bge,?_,?_,by simp;omega⟩,?_⟩
 ·rw[List.length_append,List.length_singleton]
  refine h.holds.move hf2 (fun k hk=>?_) ?_
  ·rcases List.mem_cons.1 hk with rfl | hk
   ·exact⟨_,tb,by decide,by decide,by decide,by decide,by decide⟩
   ·exact⟨_,(tp k hk).2,by decide,by decide,by decide,by decide,by decide⟩
  ·rw[heap_setCell_at _ hblk]
   simp
 ·rw[List.length_append,List.length_singleton,List.map_append]
  exact owns_other hrow hblk (by decide)
 ·intro q hq
  rcases List.mem_append.1 hq with hq | hq
  ·exact(h.pl q hq).frW hf2 hS
  ·rw[List.mem_singleton.1 hq]
   exact hp.frW hf2 hS
 ·rw[List.pairwise_append]
  refine⟨h.apart,List.pairwise_singleton _ _,fun q hq r hr=>?_⟩
  rw[List.mem_singleton.1 hr]
  exact hap q hq
 ·refine FrT.of_fr hf2 (fun k hk=>?_)
  rcases List.mem_cons.1 hk with rfl | hk
  ·exact⟨h.bge,_,by decide,tb⟩
  ·exact⟨(tp k hk).1,_,by decide,(tp k hk).2⟩
set_option maxHeartbeats 2000000 in
set_option maxRecDepth 10000 in
theorem created_one (K b:Nat) (w:World) (k n f:Int) (words:Nat) (ops:Value) (h:2048≤words) (h2:words≤65536) (ps:List PlD) (hs:List HoldD) (pa ha:Option Addr) (pc hc:Nat) (hW:WAt K w b ps hs pa pc ha hc) (h4:ps.length<4) (hK:K≤w.heap.size) :
  Calls Tryz.prog 11 #[.pointer (some ⟨b,0,none⟩),.agg #[.int .i64 k,.int .i64 n,.int .i64 words,ops,.int .i64 f]] w fun e w'=>e=.returned (.bool true)∧∃ps' pa' pc',WAt K w' b ps' hs pa' pc' ha hc∧FrT writes K w w':=by
 obtain⟨i0,hi,hz0,hz1,hz2⟩:=info_parts infoPlayer
 have HW:=hide hW
 have hlt:=hW.lt
 obtain⟨np,hnp⟩:∃np,np=ps.length:=⟨_,rfl⟩
 have HNP:=hide hnp
 have c0:w.cell? ⟨b,0,none⟩=some (.slice pa np pc):=by rw[cell_two0 hW.holds.blk,hnp]
 rw[←hnp] at h4
 clear hW hnp
 go_enter Tryz.func11,Tryz.ntmps11
 go_wp2_with fail
 refine(fibNew_any words _ h h2).mono ?_
 rintro e w1 ⟨rfl,hb1,hfib⟩
 have HFIB:=hide hfib
 have hE1:Below w.heap.size w w1:=ext_trans (ext_alloc w _) hb1
 have HE1:=hide hE1
 have d0:w1.cell? ⟨b,0,none⟩=some (.slice pa np pc):=cell_ext c0 hE1
 have d2:w1.cell? ⟨w.heap.size,2,none⟩=some (.int .i64 words):=(hb1.cell (p:=⟨w.heap.size,2,none⟩) (by simp)).trans (by simp)
 have HW1:=hide (HW.out.ext hE1)
 have hfr:=free_two 0 HW1.out.holds.blk
 have hlt1:b<w1.heap.size:=HW1.out.lt
 have hne1:b≠w1.heap.size:=by omega
 have hs1:=hE1.size
 simp only[World.size_alloc] at HFIB
 have hsf:=lt_of_block HFIB.out.fib
 clear hfib hb1 hE1 c0
 go_wp2_with fail
 refine(refNew_yes words _ (by omega) (by omega)).mono ?_
 rintro e w2 ⟨rfl,rfl⟩
 have HFB2:=hide (show FB.lies ⟨w.heap.size+1+3,w.heap.size+1+2,w.heap.size+1+1,w.heap.size+1⟩ (w1.alloc (.cells #[.int .i64 words,.slice none 0 0,.slice none 0 0] 48)) (newAr words) from FB.lies.ext HFIB.out (ext_alloc _ _))
 go_wp2_with fail
 refine(free_x ⟨w.heap.size+1+3,w.heap.size+1+2,w.heap.size+1+1,w.heap.size+1⟩ (newAr words) _ HFB2.out).mono ?_
 rintro e w' ⟨rfl,rfl⟩
 obtain⟨wm,hwm⟩:∃wm:World,wm=((w1.alloc (.cells #[.int .i64 words,.slice none 0 0,.slice none 0 0] 48)).alloc (.cells #[.pointer (some ⟨w.heap.size+1+3,0,none⟩),.pointer (some ⟨w1.heap.size,0,none⟩),.int .i64 (newAr words).free] 44)).alloc (.cells #[.pointer (some ⟨w1.heap.size+1,0,none⟩)] 38):=⟨_,rfl⟩
 have hEm:Below w1.heap.size w1 wm:=by rw[hwm];exact ext_trans (ext_trans (ext_alloc _ _) (ext_alloc _ _)) (ext_alloc _ _)
 have hm0:wm.heap[w1.heap.size]?=some (.cells #[.int .i64 words,.slice none 0 0,.slice none 0 0] 48 (0,0)):=by rw[hwm];simp only[heap_al,World.size_alloc];rw[if_neg (by omega),if_neg (by omega),if_pos trivial]
 have hm1:wm.heap[w1.heap.size+1]?=some (.cells #[.pointer (some ⟨w.heap.size+1+3,0,none⟩),.pointer (some ⟨w1.heap.size,0,none⟩),.int .i64 (newAr words).free] 44 (0,0)):=by rw[hwm];simp only[heap_al,World.size_alloc];simp
 have hm2:wm.heap[w1.heap.size+2]?=some (.cells #[.pointer (some ⟨w1.heap.size+1,0,none⟩)] 38 (0,0)):=by rw[hwm];simp only[heap_al,World.size_alloc];simp
 have hWm:=HW1.out.ext hEm
 have HWm:=hide hWm
 have hPm:PlAt K wm ⟨w1.heap.size+1,⟨w.heap.size+1+3,w.heap.size+1+2,w.heap.size+1+1,w.heap.size+1⟩,w1.heap.size,St.new words⟩:=by
  refine⟨hm1,FB.lies.ext HFIB.out hEm,new_ok h h2,?_,h,h2,⟨?_,?_,?_,?_⟩,?_⟩
  ·have e4:tellL (St.new words) 4=[]:=by unfold tellL;rw[show (St.new words).M=noTab from rfl,dump_none];rfl
   have e6:tellL (St.new words) 6=[]:=by unfold tellL;rw[show (St.new words).M=noTab from rfl,dump_none];rfl
   unfold refOf
   rw[e4,e6]
   exact⟨none,none,0,0,hm0,World.ownsRow_nil _ _ _ _,World.ownsRow_nil _ _ _ _⟩
  ·show K≤w.heap.size+1+3;omega
  ·show K≤w.heap.size+1+2;omega
  ·show K≤w.heap.size+1+1;omega
  ·show K≤w.heap.size+1;omega
  ·show K≤w1.heap.size;omega
 have HPm:=hide hPm
 have hAp:∀q∈ps,PlApart q ⟨w1.heap.size+1,⟨w.heap.size+1+3,w.heap.size+1+2,w.heap.size+1+1,w.heap.size+1⟩,w1.heap.size,St.new words⟩:=by
  intro q hq
  have hq0:=HW.out.pl q hq
  refine⟨FB.apart_new hq0.fib ⟨?_,?_,?_,?_⟩,?_⟩
  ·show w.heap.size≤w.heap.size+1+3;omega
  ·show w.heap.size≤w.heap.size+1+2;omega
  ·show w.heap.size≤w.heap.size+1+1;omega
  ·show w.heap.size≤w.heap.size+1;omega
  ·have:=hq0.ref.lt
   show q.rb≠w1.heap.size
   omega
 have HAp:=hide hAp
 have HWM:=hide hwm
 have hownm:wm.ownsRow K 38 1 (.slice pa np pc) np (ps.map PlD.ptr):=by rw[HNP.out];exact hWm.row
 have HOM:=hide hownm
 have hKm:K≤wm.heap.size:=by have:=hEm.size;omega
 have HM2:=hide hm2
 have HEm:=hide hEm
 clear hEm hm0 hm1 hm2 hWm hPm hAp hwm hownm
 go_wp2_with (at_builtin;rw[←HWM.out];refine wpList_append_own _ rfl _ _ 32 rfl K 38 i0 (.pointer none) 1 8 Tryz.underlying32 hi hz0 hz1 hz2 rfl (by decide) _ _ _ rfl HOM.out ⟨w1.heap.size+1+1,0,none⟩ 1 1 [.pointer (some ⟨w1.heap.size+1,0,none⟩)] rfl rfl ?c1 ?c2 ?c3 ?c4 ?c5 ?_)
 case c1 =>
  intro j u hj
  match j,hj with
  | 0,hj=>simp at hj;subst hj;rw[addr_add];exact(cell_at HM2.out 0).trans rfl
 case c2=>intro u hu;simp at hu;subst hu;rfl
 case c3=>unfold maxLen;omega
 case c4=>omega
 case c5=>exact hKm
 intro v' w3 hown' hgrow _
 obtain⟨ao',cap',hv⟩:∃ao' cap',v'=.slice ao' (np+1) cap':=by
  rcases hown'.2 with ⟨_,h0⟩ | ⟨g,cp,cur,hv,_⟩
  ·omega
  ·exact⟨_,_,hv⟩
 rw[hv] at hown' ⊢
 have hFr:Fr (bls pa) wm w3:=by
  refine⟨hgrow.os,hgrow.tape,hgrow.output,hgrow.size,fun k hk hn=>hgrow.block k hk ?_⟩
  intro e
  rcases HOM.out.2 with ⟨e1,_⟩ | ⟨g,cp,cur,e1,_⟩
  ·rw[e1] at e;simp[Value.ownBlock] at e
  ·rw[e1] at e
   simp only[Value.slice.injEq] at e1
   rw[e1.1] at hn
   simp[Value.ownBlock] at e
   exact hn (by simp[bls,e])
 have hFin:=world_more HWm.out HPm.out HAp.out (by rw[←HNP.out];exact h4) (pa':=ao') (pc':=cap') (by rw[←HNP.out];exact hown') hFr
 rw[←HNP.out] at hFin
 have hb3:=hFr.at HWm.out.holds.blk (fun hk=>(owns_type HWm.out.row b hk).2.ne HWm.out.holds.blk (by decide) rfl)
 have e0:=cell_two0 hb3
 have e1:=free_two 0 hb3
 have HF:=hide (show WAt K _ b _ hs ao' cap' ha hc∧FrT writes K w _ from ⟨hFin.1,(FrT.ext (ext_trans HE1.out HEm.out)).trans hFin.2⟩)
 clear hFin hFr hgrow hown' hb3
 go_wp2
 go_ret
 exact⟨rfl,_,_,_,HF.out⟩
theorem created_all (K b:Nat) (w:World) (k n words f:Int) (ops:Value) (ps:List PlD) (hs:List HoldD) (pa ha:Option Addr) (pc hc:Nat) (hW:WAt K w b ps hs pa pc ha hc) (hK:K≤w.heap.size) :
  Calls Tryz.prog 11 #[.pointer (some ⟨b,0,none⟩),.agg #[.int .i64 k,.int .i64 n,.int .i64 words,ops,.int .i64 f]] w fun e w'=>e=.returned (.bool true)∧∃ps' pa' pc',WAt K w' b ps' hs pa' pc' ha hc∧FrT writes K w w':=by
 by_cases h:words<2048∨65536<words
 ·refine(created_no b w k n words f ops h).mono ?_
  rintro e w' ⟨rfl,hb⟩
  exact⟨rfl,ps,pa,pc,hW.ext hb,FrT.ext hb⟩
 ·obtain⟨m,rfl⟩:=Int.eq_ofNat_of_zero_le (show 0≤words by omega)
  by_cases h4:ps.length<4
  ·exact created_one K b w k n f m ops (by omega) (by omega) ps hs pa ha pc hc hW h4 hK
  ·have h5:ps.length=4:=by have:=hW.np;omega
   have hb:=hW.holds.blk
   rw[h5] at hb
   refine(created_four b w k n f m ops _ (by omega) (by omega) pa pc hb).mono ?_
   rintro e w' ⟨rfl,hb⟩
   exact⟨rfl,ps,pa,pc,hW.ext hb,FrT.ext hb⟩
end Go.Proofs.YtnapboelfimaaaaGreatDoor
