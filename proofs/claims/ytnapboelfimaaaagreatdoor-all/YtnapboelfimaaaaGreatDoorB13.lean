/- KeyN, TrD, TrF, Row: parts of the proof, one behind the other. -/
import Derived.Test.YtnapboelfimaaaaGreatDoorB09
import Derived.Test.YtnapboelfimaaaaGreatDoorB12
import Derived.Deep.AppendSrc
import Derived.Laws.CopyRow
import Derived.Deep.MidRow
import Derived.Laws.Tables
namespace Go.Proofs.YtnapboelfimaaaaGreatDoor
def famBytes (f:Int):Nat:=if f=4 then 4 else if f=6 then 16 else 0
def kbyte (K i:Nat):Nat:=K/2^(8*(16-i))%256
def kfour (K depth:Nat):Nat:=K/2^(124-4*depth)%16
theorem kbyte_lt (K i:Nat):kbyte K i<256:=Nat.mod_lt _ (by decide)
theorem kfour_lt (K d:Nat):kfour K d<16:=Nat.mod_lt _ (by decide)
def digs (d:Nat→Nat):Nat→Nat
 | 0=>0
 | n+1=>256*digs d n+d n
theorem digs_lt {d:Nat→Nat} (h:∀i,d i<256) (n:Nat):digs d n<256^n:=by
 induction n with
 | zero=>simp[digs]
 | succ n ih =>
  have:=h n
  rw[digs,Nat.pow_succ]
  omega
theorem digs_get {d:Nat→Nat} (h:∀i,d i<256) {n i:Nat} (hi:i<n):digs d n/256^(n-1-i)%256=d i:=by
 induction n with
 | zero=>omega
 | succ n ih =>
  have hn:=h n
  by_cases e:i=n
  ·subst e
   rw[show i+1-1-i=0 by omega,Nat.pow_zero,Nat.div_one,digs]
   omega
  ·rw[digs,show n+1-1-i=(n-1-i)+1 by omega,Nat.pow_succ,Nat.mul_comm (256^(n-1-i)),←Nat.div_div_eq_div_mul,show (256*digs d n+d n)/256=digs d n by omega]
   exact ih (by omega)
def sbyte (s:ByteArray) (i:Nat):Nat:=(s.data.toList.getD i 0).toNat
theorem sbyte_lt (s:ByteArray) (i:Nat):sbyte s i<256:=UInt8.toNat_lt _
def keyNum (s:ByteArray):Nat:=digs (sbyte s) 17
theorem keyNum_lt (s:ByteArray):keyNum s<2^136:=by
 have:=digs_lt (sbyte_lt s) 17
 exact this
theorem keyNum_byte (s:ByteArray) (i:Nat) (h:i<17):kbyte (keyNum s) i=sbyte s i:=by
 have:=digs_get (sbyte_lt s) h
 unfold kbyte keyNum
 rw[←this,show (256:Nat)=2^8 from rfl,←Nat.pow_mul]
def zeroN (s:ByteArray) (l n:Nat):Prop:=∀i,l/8≤i→i<n→sbyte s i*2^(l-8*i)%256=0
theorem low_bytes (K:Nat):∀m,m≤16→((K%2^(8*m)=0)↔∀j,16-m<j→j≤16→kbyte K j=0)
 | 0,_=>by
  constructor
  ·intro _ j h1 h2;omega
  ·intro _;rw[Nat.mul_zero,Nat.pow_zero];omega
 | m+1,hm=>by
  have ih:=low_bytes K m (by omega)
  have e:K%2^(8*(m+1))=K%2^(8*m)+2^(8*m)*(K/2^(8*m)%256):=by
   rw[show 8*(m+1)=8*m+8 by omega,Nat.pow_add,Nat.mod_mul]
  have hk:kbyte K (16-m)=K/2^(8*m)%256:=by
   unfold kbyte
   rw[show 16-(16-m)=m by omega]
  have hp:0<2^(8*m):=Nat.pow_pos (by decide)
  constructor
  ·intro h j h1 h2
   rw[e] at h
   have h3:K%2^(8*m)=0:=by omega
   have h4:2^(8*m)*(K/2^(8*m)%256)=0:=by omega
   by_cases hj:j=16-m
   ·subst hj
    rw[hk]
    rcases Nat.mul_eq_zero.1 h4 with h5 | h5
    ·omega
    ·exact h5
   ·exact ih.1 h3 j (by omega) h2
  ·intro h
   rw[e,ih.2 (fun j h1 h2=>h j (by omega) h2),←hk,h (16-m) (by omega) (by omega)]
   omega
theorem shl_zero {x r:Nat} (hx:x<256) (hr:r<8):x*2^r%256=0↔x%2^(8-r)=0:=by
 have h:r=0∨r=1∨r=2∨r=3∨r=4∨r=5∨r=6∨r=7:=by omega
 rcases h with h | h | h | h | h | h | h | h <;> subst h <;> simp only[Nat.reducePow,Nat.reduceSub] <;> omega
theorem sbyte_out {s:ByteArray} {i:Nat} (h:s.size≤i):sbyte s i=0:=by
 unfold sbyte
 have:s.data.toList.length=s.size:=by simp
 rw[List.getD_eq_getElem?_getD,List.getElem?_eq_none (by omega)]
 rfl
theorem zero_iff {s:ByteArray} {l n:Nat} (hn:s.size=n) (h16:n≤16) (hl:l≤8*n):zeroN s l n↔keyNum s%2^(136-l)=0:=by
 have hi:l/8≤16:=by omega
 have e:keyNum s%2^(136-l)=keyNum s%2^(8*(16-l/8))+2^(8*(16-l/8))*(keyNum s/2^(8*(16-l/8))%2^(8-l%8)):=by
  rw[show 136-l=8*(16-l/8)+(8-l%8) by omega,Nat.pow_add,Nat.mod_mul]
 have hb:keyNum s/2^(8*(16-l/8))%2^(8-l%8)=sbyte s (l/8)%2^(8-l%8):=by
  rw[←keyNum_byte s (l/8) (by omega)]
  unfold kbyte
  rw[Nat.mod_mod_of_dvd]
  exact⟨2^(l%8),by rw[←Nat.pow_add,show 8-l%8+l%8=8 by omega]⟩
 have hlow:=low_bytes (keyNum s) (16-l/8) (by omega)
 have hp:0<2^(8*(16-l/8)):=Nat.pow_pos (by decide)
 have h0:=shl_zero (sbyte_lt s (l/8)) (show l%8<8 by omega)
 constructor
 ·intro h
  have h1:keyNum s%2^(8*(16-l/8))=0:=hlow.2 (fun j h1 h2=>by
   rw[keyNum_byte s j (by omega)]
   by_cases hj:j<n
   ·have:=h j (by omega) hj
    rw[show l-8*j=0 by omega,Nat.pow_zero,Nat.mul_one] at this
    have:=sbyte_lt s j
    omega
   ·exact sbyte_out (by omega))
  have h2:sbyte s (l/8)%2^(8-l%8)=0:=by
   by_cases hj:l/8<n
   ·have:=h (l/8) (Nat.le_refl _) hj
    rw[show l-8*(l/8)=l%8 by omega] at this
    exact h0.1 this
   ·rw[sbyte_out (by omega),Nat.zero_mod]
  rw[e,hb,h1,h2,Nat.mul_zero]
 ·intro h i h1 h2
  rw[e] at h
  have h3:keyNum s%2^(8*(16-l/8))=0:=by omega
  have h4:2^(8*(16-l/8))*(keyNum s/2^(8*(16-l/8))%2^(8-l%8))=0:=by omega
  by_cases hj:i=l/8
  ·subst hj
   rw[show l-8*(l/8)=l%8 by omega]
   apply h0.2
   rcases Nat.mul_eq_zero.1 h4 with h5 | h5
   ·omega
   ·rw[←hb];exact h5
  ·have:=hlow.1 h3 i (by omega) (by omega)
   rw[keyNum_byte s i (by omega)] at this
   rw[this,Nat.zero_mul]
end Go.Proofs.YtnapboelfimaaaaGreatDoor
namespace Go.Proofs.YtnapboelfimaaaaGreatDoor
open Go.RowKit Go.Deep
def keyL (K:Nat):List Value:=(List.range 17).map fun i=>Value.int .u8 (kbyte K i:Int)
theorem keyL_get (K i:Nat) (h:i<17):(keyL K)[i]?=some (.int .u8 (kbyte K i:Int)):=by
 unfold keyL
 rw[List.getElem?_map,List.getElem?_range h]
 rfl
theorem key_cell (K:Nat) (w:World) (t:TypeId) (i:Nat) (hi:i<17):(w.alloc (.cells (keyL K).toArray t)).cell? ⟨w.heap.size,i,none⟩=some (.int .u8 (kbyte K i:Int)):=by
 rw[cell_new rfl,List.getElem?_toArray]
 exact keyL_get K i hi
theorem kfour_even {K e:Nat} (h:e≤15):kbyte K (1+e)/16=kfour K (2*e):=by
 unfold kbyte kfour
 have h1:8*(16-(1+e))=120-8*e:=by omega
 have h2:124-4*(2*e)=(120-8*e)+4:=by omega
 rw[h1,h2,Nat.pow_add,←Nat.div_div_eq_div_mul]
 omega
theorem kfour_odd {K e:Nat} (h:e≤15):kbyte K (1+e)%16=kfour K (2*e+1):=by
 unfold kbyte kfour
 have h1:8*(16-(1+e))=120-8*e:=by omega
 have h2:124-4*(2*e+1)=120-8*e:=by omega
 rw[h1,h2]
 omega
theorem i64_and15 (n:Int):bits .and .i64 n 15=n%16:=by
 have h15:(BitVec.ofInt 64 15).toNat=2^4-1:=by decide
 have key:(BitVec.ofInt 64 n &&& BitVec.ofInt 64 15).toNat=(n%((2^64:Nat):Int)).toNat%2^4:=by
  rw[BitVec.toNat_and,BitVec.toNat_ofInt,h15,Nat.and_two_pow_sub_one_eq_mod]
 show IntKind.i64.wrap ((BitVec.ofInt 64 n &&& BitVec.ofInt 64 15).toNat:Nat)=n%16
 rw[key,IntKind.wrap_i64]
 omega
set_option maxHeartbeats 400000 in
set_option maxRecDepth 10000 in
theorem four_any (K depth:Nat) (x:Int) (w:World) (hd:depth≤31) (hx:x=depth):Calls Tryz.prog 115 #[.agg (keyL K).toArray,.int .i64 x] w fun e w'=>e=.returned (.int .i64 (kfour K depth:Nat))∧Below w.heap.size w w':=by
 subst hx
 have hb:=kbyte_lt K (1+depth/2)
 have hc:=key_cell K w 126 (1+depth/2) (by omega)
 have i1:(depth:Int)/2≤15:=by omega
 have i2:(depth:Int)≤31:=by omega
 by_cases h2:depth%2=0
 ·have e2:((depth:Int)%2==0)=true:=by simp;omega
  have H:=hide (show kbyte K (1+depth/2)/16=kfour K depth by
   have:=kfour_even (K:=K) (e:=depth/2) (by omega)
   rw[show 2*(depth/2)=depth by omega] at this
   exact this)
  clear h2
  go_enter Tryz.func115,Tryz.ntmps115
  go_wp2
  go_ret
  exact⟨retI (by have:=H.out;show (kbyte K (1+depth/2):Int)/16=_;omega),ext_alloc _ _⟩
 ·have e2:((depth:Int)%2==0)=false:=by simp;omega
  have H:=hide (show kbyte K (1+depth/2)%16=kfour K depth by
   have:=kfour_odd (K:=K) (e:=depth/2) (by omega)
   rw[show 2*(depth/2)+1=depth by omega] at this
   exact this)
  clear h2
  go_enter Tryz.func115,Tryz.ntmps115
  go_wp2
  go_ret
  exact⟨retI (by have:=H.out;show bits BinOp.and IntKind.i64 (kbyte K (1+depth/2):Int) 15=_;rw[i64_and15];omega),ext_alloc _ _⟩
def prefL (K l:Nat):List Value:=keyL K++[.int .i64 (l:Int)]
theorem pref_len (K l:Nat) (w:World) (t:TypeId):(w.alloc (.cells (prefL K l).toArray t)).cell? ⟨w.heap.size,17,none⟩=some (.int .i64 (l:Int)):=by
 rw[cell_new rfl,List.getElem?_toArray]
 unfold prefL
 rw[List.getElem?_append_right (by simp[keyL])]
 simp[keyL]
set_option maxHeartbeats 400000 in
set_option maxRecDepth 10000 in
theorem short_any (K l:Nat) (w:World) (hl:l≤128):Calls Tryz.prog 96 #[.agg (prefL K l).toArray] w fun e w'=>e=.returned (.bool (decide (l<8)))∧Below w.heap.size w w':=by
 have hc:=pref_len K l w 128
 have hl':(l:Int)≤128:=by omega
 go_enter Tryz.func96,Tryz.ntmps96
 go_wp2
 go_ret
 exact⟨retB (by simp;omega),ext_alloc _ _⟩
set_option maxHeartbeats 400000 in
set_option maxRecDepth 10000 in
theorem depth_any (K l:Nat) (w:World) (hl:l≤128) (h8:8≤l):Calls Tryz.prog 106 #[.agg (prefL K l).toArray] w fun e w'=>e=.returned (.int .i64 (((l-8)/4:Nat):Int))∧Below w.heap.size w w':=by
 have hc:=pref_len K l w 128
 have hl':(l:Int)≤128:=by omega
 have h8':(8:Int)≤l:=by omega
 go_enter Tryz.func106,Tryz.ntmps106
 go_wp2
 go_ret
 exact⟨retI (by show ((l:Int)-8)/4=_;omega),ext_alloc _ _⟩
end Go.Proofs.YtnapboelfimaaaaGreatDoor
namespace Go.Proofs.YtnapboelfimaaaaGreatDoor
open Go.RowKit Go.Deep
theorem keyNum_cells (s:ByteArray) (h:s.size≤17):byteCells s++List.replicate (17-s.size) (Value.int .u8 0)=keyL (keyNum s):=by
 have hl:=byteCells_length s
 apply List.ext_getElem?
 intro i
 by_cases h1:i<17
 ·rw[keyL_get _ i h1,keyNum_byte s i h1]
  by_cases h2:i<s.size
  ·rw[List.getElem?_append_left (by omega)]
   unfold byteCells sbyte
   have h3:i<s.data.toList.length:=by simpa [byteCells] using hl ▸ h2
   rw[List.getElem?_map,List.getD_eq_getElem?_getD,List.getElem?_eq_getElem h3]
   rfl
  ·rw[List.getElem?_append_right (by omega),List.getElem?_replicate,if_pos (by omega)]
   unfold sbyte
   have h3:¬i<s.data.toList.length:=by
    have:s.data.toList.length=s.size:=by simp
    omega
   rw[List.getD_eq_getElem?_getD,List.getElem?_eq_none (by omega)]
   rfl
 ·rw[List.getElem?_eq_none (by simp;omega),List.getElem?_eq_none (by simp[keyL];omega)]
theorem sizeByte:(Tryz.prog.info? 5).map (·.size)=some 1:=by kernel_rfl
theorem results_row {fn:Func} {a:Tmp} {t:TypeId} (h:fn.results=#[.cell a t]) {tmps:Array Value} {ad:Addr} (ht:tmps.getD a undef=.pointer (some ad)) {P:Program} {w:World} {v:Value} (hl:(loadVar t ad).run P w=.ok v w):(results fn tmps).run P w=.ok v w:=by
 unfold results
 rw[h]
 simp only[List.mapM_toArray,List.mapM_cons,List.mapM_nil,ht,Sem.run_bind,Sem.run_pure,asAddr]
 simp[hl]
theorem sizeKeyF:(Tryz.prog.info? 126).map (·.size)=some 17:=by kernel_rfl
theorem copy_str (w:World) (b:Nat) (t:TypeId) (s:ByteArray) (h:w.heap[b]?=some (.cells (List.replicate 17 (Value.int .u8 0)).toArray t (0,0))) (hs:s.size≤17) :
  ∃w',(Builtin.copy_ #[139,9] 3 #[.slice (some ⟨b,0,none⟩) 17 17,.string s]).run Tryz.prog w=.ok (goInt s.size) w'∧w'.heap[b]?=some (.cells (keyL (keyNum s)).toArray t (0,0))∧Fr [b] w w':=by
 have hl:=byteCells_length s
 have hf:=firstCells_string (P:=Tryz.prog) s w
 have hst:=run_storeCells_at (P:=Tryz.prog) b 0 t (byteCells s) 0 (List.replicate 17 (Value.int .u8 0)).toArray w h (by simp;omega) (by
  intro v hv
  obtain⟨x,_,rfl⟩:=List.mem_map.1 hv
  rfl)
 have hn:Nat.min s.size 17=s.size:=Nat.min_eq_left hs
 have hrun:(Builtin.copy_ #[139,9] 3 #[.slice (some ⟨b,0,none⟩) 17 17,.string s]).run Tryz.prog w=.ok (goInt s.size) (w.setRow b (keyL (keyNum s)).toArray):=by
  have hcells:List.take (0+0) (List.replicate 17 (Value.int .u8 0)).toArray.toList++byteCells s++List.drop (0+0+(byteCells s).length) (List.replicate 17 (Value.int .u8 0)).toArray.toList=keyL (keyNum s):=by
   rw[←keyNum_cells s hs,hl]
   show List.take 0 (List.replicate 17 (Value.int .u8 0))++byteCells s++List.drop (0+0+s.size) (List.replicate 17 (Value.int .u8 0))=_
   rw[List.take_zero,List.nil_append,Nat.add_zero,Nat.zero_add,List.drop_replicate]
  rw[hcells] at hst
  cases hq:Tryz.prog.info? 5 with
  | none=>have:=sizeByte;rw[hq] at this;simp at this
  | some i =>
   have hi:i.size=1:=by have:=sizeByte;rw[hq] at this;simpa using this
   simp[Builtin.copy_,run_underlying Tryz.underlying139,Builtin.lenOf,sizeOf,typeInfo,hq,hi,hn,hf,hst]
 refine⟨_,hrun,?_,?_⟩
 ·exact setRow_heap _ _ _ _ _ _ h
 ·exact⟨rfl,rfl,rfl,by simp[World.setRow],fun k _ hk=>setRow_other _ _ _ _ (by simpa using hk)⟩
theorem fr_setCells (w:World) (b o:Nat) (vs:List Value):Fr [b] w (w.setCells b o vs):=by
 induction vs generalizing w o with
 | nil=>exact Fr.refl _ _
 | cons v vs ih=>exact((Fr.refl [b] w).setCell (Or.inl (by simp)) v).trans (ih _ _)
set_option maxHeartbeats 400000 in
set_option maxRecDepth 10000 in
theorem keyOf_any (s:ByteArray) (w:World) (hs:s.size≤17):Calls Tryz.prog 95 #[.string s] w fun e w'=>e=.returned (.agg (keyL (keyNum s)).toArray)∧Below w.heap.size w w':=by
 obtain⟨w2,hrun,hc,hf⟩:=copy_str ((w.alloc (.cells (List.replicate 17 (Value.int .u8 0)).toArray 126)).alloc (.cells (List.replicate 17 (Value.int .u8 0)).toArray 126)) (w.heap.size+1) 126 s (by rw[heap_al,if_pos (by simp)]) hs
 have hr:w2.heap[w.heap.size]?=some (.cells (List.replicate 17 (Value.int .u8 0)).toArray 126 (0,0)):=by
  refine hf.at ?_ (by simp)
  rw[heap_al,if_neg (by simp),heap_al,if_pos rfl]
 have HB:=hide (fr_nil (Fr.after (S:=[]) (((Fr.refl [] w).alloc _).alloc _) hf (by intro y hy;simp at hy;right;omega)))
 have HC:=hide hc
 have HR:=hide hr
 have hz:w.heap.size+1<w2.heap.size:=lt_of_block hc
 have e17:(List.replicate 17 (Value.int .u8 0)).toArray=#[.int .u8 0,.int .u8 0,.int .u8 0,.int .u8 0,.int .u8 0,.int .u8 0,.int .u8 0,.int .u8 0,.int .u8 0,.int .u8 0,.int .u8 0,.int .u8 0,.int .u8 0,.int .u8 0,.int .u8 0,.int .u8 0,.int .u8 0]:=rfl
 rw[e17] at hrun
 have R1:=hide (show w2.rangeAt (w.heap.size+1) 0 (keyL (keyNum s)) from fun j v hj=>by rw[cell_at hc,List.getElem?_toArray,Nat.zero_add];exact hj)
 have R2:=hide (show w2.there w.heap.size 0 (keyL (keyNum s)).length from fun j hj=>by
  have hj':j<17:=by simpa [keyL] using hj
  rw[cell_at hr,Nat.zero_add]
  refine⟨?_,free_at hr _⟩
  rw[List.getElem?_toArray,List.getElem?_replicate,if_pos hj']
  rfl)
 have hi:(Tryz.prog.info? 126).map (·.size)=some (keyL (keyNum s)).length:=by rw[sizeKeyF];simp[keyL]
 have HI:=hide hi
 have ALL:=hide (show (keyL (keyNum s)).toArray.all (·.oneCell')=true from all_oneCell_toArray (by intro v hv;obtain⟨x,_,rfl⟩:=List.mem_map.1 hv;rfl))
 clear hc hf hr e17 hi
 go_enter Tryz.func95,Tryz.ntmps95
 go_wp2_with (first | (show wpList _ _ _ (⟨_,.load 126 _,_,_,_,_⟩ :: _) _ _;refine wpList_load_mid rfl 126 _ rfl (w.heap.size+1) 0 rfl (keyL (keyNum s)) _ R1.out Tryz.underlying126 rfl HI.out ?_) | (show wpList _ _ _ (⟨_,.store 126 _ _,_,_,_,_⟩ :: _) _ _;refine wpList_store_mid rfl 126 _ _ rfl w.heap.size 0 (keyL (keyNum s)).toArray rfl rfl R2.out HI.out ALL.out ?_))
 have hl:(loadVar 126 ⟨w.heap.size,0,none⟩).run Tryz.prog (w2.setCells w.heap.size 0 (keyL (keyNum s)))=.ok (.agg (keyL (keyNum s)).toArray) (w2.setCells w.heap.size 0 (keyL (keyNum s))):=run_loadVar_mid _ _ _ _ _ _ (World.rangeAt_setCells_same _ _ _ _ R2.out) Tryz.underlying126 rfl HI.out
 refine bodyPost_ret (v:=.agg (keyL (keyNum s)).toArray) (results_row rfl rfl hl) rfl ⟨rfl,?_⟩
 exact fr_nil (Fr.after (S:=[]) (Fr.of_below HB.out) (fr_setCells w2 w.heap.size 0 (keyL (keyNum s))) (by intro y hy;simp at hy;right;omega))
end Go.Proofs.YtnapboelfimaaaaGreatDoor
namespace Go.Proofs.YtnapboelfimaaaaGreatDoor
open Go.RowKit Go.Deep
theorem wpList_store_whole {ops:Array Oper} {rest:List Oper} {o:Oper} {a:Act} {w:World} {Q:Exit→Act→World→Prop} (hgd:o.guard=none) (ty:TypeId) (x y:Operand) (ho:o.op=.store ty x y)
  (g:Nat) (L:List Value) (hx:a.eval x=.pointer (some ⟨g,0,none⟩)) (hy:a.eval y=.agg L.toArray)
  (t:TypeId) (old:Array Value) (hg:w.heap[g]?=some (.cells old t (0,0))) (hi:(Tryz.prog.info? ty).map (·.size)=some L.length)
  (hold:old.size=L.length) (h1:∀v∈L,v.oneCell'=true)
  (h:∀w',w'.heap[g]?=some (.cells L.toArray t (0,0))→Fr [g] w w'→w'.heap.size=w.heap.size→wpList Tryz.prog ops Q rest (a.put o.dst undef) w'):wpList Tryz.prog ops Q (o :: rest) a w :=
 wpList_store_row hgd ty x y ho g L.toArray hx hy t old hg (by simpa using hi) (by simpa using hold) (all_oneCell_toArray h1)
  (h _ (setRow_heap _ _ _ _ _ _ hg) ⟨rfl,rfl,rfl,by simp[World.setRow],fun k _ hk=>setRow_other _ _ _ _ (by simpa using hk)⟩ (by simp[World.setRow]))
theorem wpList_load_whole {ops:Array Oper} {rest:List Oper} {op:Oper} {a:Act} {w:World} {Q:Exit→Act→World→Prop} (hgd:op.guard=none) (ty:TypeId) (x:Operand) (ho:op.op=.load ty x)
  (b:Nat) (hx:a.eval x=.pointer (some ⟨b,0,none⟩)) (L:List Value) (d:TypeDesc) (t:TypeId) (fz:Nat × Nat) (hb:w.heap[b]?=some (.cells L.toArray t fz))
  (hu:Tryz.prog.underlying ty=some d) (hd:d.isRow=true) (hi:(Tryz.prog.info? ty).map (·.size)=some L.length)
  (h:wpList Tryz.prog ops Q rest (a.put op.dst (.agg L.toArray)) w):wpList Tryz.prog ops Q (op :: rest) a w :=
 wpList_load_mid hgd ty x ho b 0 hx L d (fun j v hj=>by rw[cell_at hb,List.getElem?_toArray,Nat.zero_add];exact hj) hu hd hi h
theorem key_one (K:Nat):∀v∈keyL K,v.oneCell'=true:=by
 intro v hv
 obtain⟨x,_,rfl⟩:=List.mem_map.1 hv
 rfl
theorem key_info (K:Nat):(Tryz.prog.info? 126).map (·.size)=some (keyL K).length:=by rw[sizeKeyF];simp[keyL]
theorem key_at (K:Nat) {w:World} {b:Nat} {t:TypeId} {fz:Nat × Nat} (h:w.heap[b]?=some (.cells (keyL K).toArray t fz)) (i:Nat) (hi:i<17):w.cell? ⟨b,i,none⟩=some (.int .u8 (kbyte K i:Int)):=by
 rw[cell_at h,List.getElem?_toArray]
 exact keyL_get K i hi
theorem kbyte_zero (K:Nat) (h:K<2^136):kbyte K 0=fitK K 8:=by
 unfold kbyte fitK
 have:K/2^(136-8)<256:=by
  rw[Nat.div_lt_iff_lt_mul (Nat.two_pow_pos _)]
  have:256*2^(136-8)=2^136:=by decide
  omega
 exact Nat.mod_eq_of_lt this
theorem kfour_fit (K d:Nat):kfour K d=fitK K (8+4*d+4)%16:=by
 unfold kfour fitK
 congr 3
 omega
end Go.Proofs.YtnapboelfimaaaaGreatDoor
