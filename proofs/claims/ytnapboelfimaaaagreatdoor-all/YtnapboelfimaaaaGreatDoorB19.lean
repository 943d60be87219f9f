/- Dmp, DmK, ByA, Tel: parts of the proof, one behind the other. -/
import Derived.Test.YtnapboelfimaaaaGreatDoorB12
import Derived.Test.YtnapboelfimaaaaGreatDoorB13
import Derived.Test.YtnapboelfimaaaaGreatDoorB14
import Derived.Test.YtnapboelfimaaaaGreatDoorB15
import Derived.Test.YtnapboelfimaaaaGreatDoorB18
import Derived.Laws.AppendOwn
import Derived.Laws.BytesArg
namespace Go.Proofs.YtnapboelfimaaaaGreatDoor
open Go.RowKit Go.Deep
def keyS (n K:Nat):ByteArray:=⟨(digL K 0 n).toArray⟩
def rdOf (n:Nat) (x:Nat × Nat × Nat):RouteD:=⟨keyS n (addr x),(x.1:Int),(x.2.2:Int)⟩
def rowsOf (n:Nat) (L:List (Nat × Nat × Nat)):List Value:=flatR (L.map (rdOf n))
theorem rows_snoc (n:Nat) (L:List (Nat × Nat × Nat)) (x:Nat × Nat × Nat):rowsOf n (L++[x])=rowsOf n L++(rdOf n x).cells:=by
 unfold rowsOf
 rw[List.map_append]
 exact flatR_snoc _ _
structure DFr (rb:Nat) (w w':World):Prop where
 size:w.heap.size≤w'.heap.size
 block:∀k o,w.heap[k]?=some o→k≠rb→(∀c,o≠.cells c 66 (0,0))→w'.heap[k]?=some o
theorem DFr.refl (rb:Nat) (w:World):DFr rb w w:=⟨Nat.le_refl _,fun _ _ h _ _=>h⟩
theorem DFr.trans {rb:Nat} {a b c:World} (h:DFr rb a b) (k:DFr rb b c):DFr rb a c:=⟨Nat.le_trans h.size k.size,fun i o hi hn hc=>k.block i o (h.block i o hi hn hc) hn hc⟩
theorem DFr.of_fr {rb:Nat} {S:List Nat} {w w':World} (h:Fr S w w') (hS:∀k,k∈S→k<w.heap.size→k=rb):DFr rb w w' :=
 ⟨h.size,fun k _ hk hn _=>h.at hk (fun hm=>hn (hS k hm (lt_of_block hk)))⟩
theorem DFr.grown {rb base size n:Nat} {v:Value} {xs:List Value} {w w':World} (hown:w.ownsRow base 66 size v n xs) (hg:w.grownBy w' v.ownBlock):DFr rb w w':=by
 refine⟨hg.size,fun k o hk hn hc=>?_⟩
 rw[hg.block k (lt_of_block hk) ?_]
 ·exact hk
 ·intro e
  rcases hown.2 with ⟨rfl,_⟩ | ⟨g,cap,cur,rfl,hb,hgg,_⟩
  ·simp[Value.ownBlock] at e
  ·simp[Value.ownBlock] at e
   subst e
   rw[hgg] at hk
   cases hk
   exact hc cur rfl
structure DumpAt (ab rb:Nat) (f:Int) (n:Nat) (w0:World) (L:List (Nat × Nat × Nat)) (w:World):Prop where
 blk:∃(k:Int) (rs:Value),w.heap[rb]?=some (.cells #[.pointer (some ⟨ab,0,none⟩),.int .i64 k,.int .i64 f,rs] 96 (0,0))∧w.ownsRow w0.heap.size 66 3 rs L.length (rowsOf n L)
 fr:Fr [rb] w0 w
structure DumpOk (A:Ar) (ab wb rb:Nat) (w0:World):Prop where
 ar:ArAt w0 ab wb A
 tz:TzTab w0
 na:ab≠rb
 nw:wb≠rb
 n1:1≠rb
theorem DumpOk.arAt {A:Ar} {ab wb rb:Nat} {w0 w:World} (h:DumpOk A ab wb rb w0) (hf:Fr [rb] w0 w):ArAt w ab wb A:=h.ar.fr hf (by simpa using h.na) (by simpa using h.nw)
theorem DumpOk.tzAt {A:Ar} {ab wb rb:Nat} {w0 w:World} (h:DumpOk A ab wb rb w0) (hf:Fr [rb] w0 w):TzTab w:=by
 intro j hj
 have h1:=h.tz j hj
 have hl:=World.block_lt_of_cell? w0 _ h1
 have e:=World.cell?_of_block (a:=⟨1,j,none⟩) (hf.block 1 hl (by simpa using h.n1))
 rw[e]
 exact h1
theorem owns_fr {w w':World} {base:Nat} {e:TypeId} {size:Nat} {v:Value} {n:Nat} {xs:List Value} {S:List Nat} (h:w.ownsRow base e size v n xs) (hf:Fr S w w') (hS:∀g,v.ownBlock=some g→base≤g→g ∉ S):w'.ownsRow base e size v n xs:=by
 refine⟨h.1,?_⟩
 rcases h.2 with h | ⟨g,cap,cur,rfl,hbg,hgg,rest⟩
 ·exact .inl h
 ·exact .inr ⟨g,cap,cur,rfl,hbg,hf.at hgg (hS g rfl hbg),rest⟩
theorem DumpAt.read {ab rb:Nat} {f:Int} {n:Nat} {w0 w w':World} {L:List (Nat × Nat × Nat)} {k':Int} {rs:Value} (hf0:Fr [rb] w0 w) (hown:w.ownsRow w0.heap.size 66 3 rs L.length (rowsOf n L)) (hb:w'.heap[rb]?=some (.cells #[.pointer (some ⟨ab,0,none⟩),.int .i64 k',.int .i64 f,rs] 96 (0,0))) (hf:Fr [rb] w w') (hr:rb<w0.heap.size):DumpAt ab rb f n w0 L w':=by
 refine⟨⟨k',rs,hb,owns_fr hown hf (fun g _ hg=>by simp;omega)⟩,hf0.trans hf⟩
end Go.Proofs.YtnapboelfimaaaaGreatDoor
namespace Go.Proofs.YtnapboelfimaaaaGreatDoor
theorem kid_key {d u f:Nat} (hd:d≤30):withK (u*2^(128-4*d)) d f=(16*u+f)*2^(128-4*(d+1)):=by
 unfold withK
 have e1:128-4*(d+1)=124-4*d:=by omega
 have e2:(2:Nat)^(128-4*d)=16*2^(124-4*d):=by
  rw[show 128-4*d=4+(124-4*d) by omega,Nat.pow_add]
 rw[e1,e2,Nat.add_mul,Nat.mul_comm 16 u,Nat.mul_assoc]
theorem beg_key {d u fu v h:Nat} (hd:d≤30) (hfu:fu≤3):withK (u*2^(128-4*d)) d (v*2^(4-fu))=addr (8+4*d+fu,u*2^fu+v,h):=by
 unfold withK addr
 have e1:136-(8+4*d+fu)=(4-fu)+(124-4*d):=by omega
 have e2:(2:Nat)^(128-4*d)=2^fu*(2^(4-fu)*2^(124-4*d)):=by
  rw[←Nat.pow_add,←Nat.pow_add]
  congr 1
  omega
 rw[e1,Nat.pow_add,e2,Nat.add_mul,←Nat.mul_assoc u,Nat.mul_assoc v]
theorem key_zero (d u:Nat):u*2^(128-4*d)%2^(128-4*d)=0:=Nat.mul_mod_left _ _
theorem short_key {l v h:Nat} (hl:l≤7):v*2^(8-l)*2^128=addr (l,v,h):=by
 unfold addr
 rw[Nat.mul_assoc,←Nat.pow_add]
 congr 2
 omega
end Go.Proofs.YtnapboelfimaaaaGreatDoor
namespace Go.Proofs.YtnapboelfimaaaaGreatDoor
open Go.RowKit Go.Deep
set_option maxHeartbeats 400000 in
theorem addressBytes_any (f:Int) (w:World):Calls Tryz.prog 35 #[.int .i64 f] w fun e w'=>e=.returned (.int .i64 (famBytes f:Nat))∧w'=w:=by
 by_cases h4:f=4
 ·subst h4
  go_enter Tryz.func35,Tryz.ntmps35
  go_wp2
  go_ret
  exact⟨rfl,rfl⟩
 ·by_cases h6:f=6
  ·subst h6
   go_enter Tryz.func35,Tryz.ntmps35
   go_wp2
   go_ret
   exact⟨rfl,rfl⟩
  ·have e4:(f==4)=false:=by simpa using h4
   have e6:(f==6)=false:=by simpa using h6
   go_enter Tryz.func35,Tryz.ntmps35
   go_wp2
   go_ret
   exact⟨retI (by simp[famBytes,h4,h6]),rfl⟩
set_option maxHeartbeats 400000 in
theorem hopFault_any (h:Int) (w:World):Calls Tryz.prog 51 #[.int .i64 h] w fun e w'=>e=.returned (.int .i64 (if 0≤h∧h≤65535 then 0 else 6:Int))∧∃n,w'=w.drewN n:=by
 by_cases h1:h<0
 ·have HE:=hide (show (if 0≤h∧h≤65535 then 0 else 6:Int)=6 by rw[if_neg (by omega)])
  rw[HE.out]
  go_enter Tryz.func51,Tryz.ntmps51
  go_wp2
  go_ret
  exact⟨rfl,0,rfl⟩
 ·by_cases h2:65535<h
  ·have HE:=hide (show (if 0≤h∧h≤65535 then 0 else 6:Int)=6 by rw[if_neg (by omega)])
   rw[HE.out]
   go_enter Tryz.func51,Tryz.ntmps51
   go_wp2
   go_ret
   exact⟨rfl,0,rfl⟩
  ·have HE:=hide (show (if 0≤h∧h≤65535 then 0 else 6:Int)=0 by rw[if_pos (by omega)])
   rw[HE.out]
   go_enter Tryz.func51,Tryz.ntmps51
   go_wp2
   go_ret
   exact⟨rfl,0,rfl⟩
set_option maxHeartbeats 400000 in
set_option maxRecDepth 10000 in
theorem addressFault_any (f:Int) (s:ByteArray) (c:Int) (w:World) (hc:c=if famBytes f=0 then 3 else if s.size=famBytes f then 0 else 5):Calls Tryz.prog 52 #[.int .i64 f,.string s] w fun e w'=>e=.returned (.int .i64 c)∧∃n,w'=w.drewN n:=by
 by_cases h0:famBytes f=0
 ·rw[if_pos h0] at hc
  subst hc
  have e0:(((famBytes f:Nat):Int)==0)=true:=by simp[h0]
  clear h0
  go_enter Tryz.func52,Tryz.ntmps52
  go_wp2_with (go_at_call 35;refine(addressBytes_any f _).mono ?_;rintro e w' ⟨rfl,rfl⟩)
  go_ret
  exact⟨rfl,0,rfl⟩
 ·rw[if_neg h0] at hc
  have e0:(((famBytes f:Nat):Int)==0)=false:=by simp[h0]
  by_cases h1:s.size=famBytes f
  ·rw[if_pos h1] at hc
   subst hc
   have e1:(((s.size:Nat):Int)==((famBytes f:Nat):Int))=true:=by simp[h1]
   clear h0 h1
   go_enter Tryz.func52,Tryz.ntmps52
   go_wp2_with (go_at_call 35;refine(addressBytes_any f _).mono ?_;rintro e w' ⟨rfl,rfl⟩)
   go_ret
   exact⟨rfl,0,rfl⟩
  ·rw[if_neg h1] at hc
   subst hc
   have e1:(((s.size:Nat):Int)==((famBytes f:Nat):Int))=false:=by simp;omega
   clear h0
   go_enter Tryz.func52,Tryz.ntmps52
   go_wp2_with (go_at_call 35;refine(addressBytes_any f _).mono ?_;rintro e w' ⟨rfl,rfl⟩)
   go_ret
   exact⟨rfl,0,rfl⟩
end Go.Proofs.YtnapboelfimaaaaGreatDoor
namespace Go.Proofs.YtnapboelfimaaaaGreatDoor
open Go.RowKit Go.Deep
theorem digs_num (K n:Nat):strOfNums ((List.range n).map fun i=>(kbyte K i:Int))=keyS n K:=by
 unfold strOfNums keyS
 rw[digL_map,List.map_map]
 congr 2
 apply List.map_congr_left
 intro j _
 simp only[Function.comp,Nat.zero_add,Int.toNat_natCast]
 rfl
theorem conv_key (K l n:Nat) (hn:n≤17) (pb cap:Nat) (w:World) (h:w.heap[pb]?=some (.cells (prefL K l).toArray 128 (0,0))) :
  (convert 139 9 (.slice (some ⟨pb,0,none⟩) n cap)).run Tryz.prog w=.ok (.string (keyS n K)) w:=by
 have:=run_convert_bytes_arg (P:=Tryz.prog) w 139 5 (by kernel_rfl) (by kernel_rfl) pb 0 n cap ((List.range n).map fun i=>(kbyte K i:Int)) (by simp) (fun i hi=>by
  rw[Nat.zero_add,pref_at K l h i (by omega)]
  simp[List.getD,List.getElem?_map,List.getElem?_range hi]) 9 (by kernel_rfl)
 rw[this,digs_num K n]
theorem owns_form {w:World} {base:Nat} {e:TypeId} {size:Nat} {v:Value} {n:Nat} {xs:List Value} (h:w.ownsRow base e size v (n+1) xs):∃g cap,v=.slice (some ⟨g,0,none⟩) (n+1) cap:=by
 rcases h.2 with ⟨_,h0⟩ | ⟨g,cap,cur,e,_⟩
 ·omega
 ·exact⟨g,cap,e⟩
theorem wanted_pos {b:Bool} {p q:Prop} (h:b=true) (hp:p):if b=true then p else q:=by rw[if_pos h];exact hp
theorem tell_end {ab rb n pb cb:Nat} {f k2:Int} {w0 w w2 w3:World} {L:List (Nat × Nat × Nat)} {t:Nat × Nat × Nat} {rs:Value} (hfr:Fr [rb] w0 w2) (hf2:Fr [rb] w w2) (hrb:rb<w0.heap.size) (hr2:w2.heap[rb]?=some (.cells #[.pointer (some ⟨ab,0,none⟩),.int .i64 k2,.int .i64 f,rs] 96 (0,0))) (hp:∃(c:Array Value) (y:TypeId),w2.heap[pb]?=some (.cells c y (0,0))∧y≠66) (hc:∃(c:Array Value) (y:TypeId),w2.heap[cb]?=some (.cells c y (0,0))∧y≠66) (hb3:Below w2.heap.size w2 w3) (own3:w3.ownsRow w0.heap.size 66 3 rs L.length (rowsOf n L)) {v':Value} {w5:World} (own5:w5.ownsRow w0.heap.size 66 3 v' (L.length+1) (rowsOf n L++(rdOf n t).cells)) (hg:w3.grownBy w5 rs.ownBlock) :
  w5.heap[pb]?=w2.heap[pb]?∧w5.heap[cb]?=w2.heap[cb]?∧w5.heap[rb]?=some (.cells #[.pointer (some ⟨ab,0,none⟩),.int .i64 k2,.int .i64 f,rs] 96 (0,0))∧DumpAt ab rb f n w0 (L++[t]) (w5.setCell ⟨rb,3,none⟩ v')∧DFr rb w (w5.setCell ⟨rb,3,none⟩ v'):=by
 have hgd:DFr w5.heap.size w3 w5:=DFr.grown own3 hg
 have keep:∀(j:Nat) (c:Array Value) (y:TypeId),w2.heap[j]?=some (.cells c y (0,0))→y≠66→w5.heap[j]?=some (.cells c y (0,0)):=by
  intro j c y hj hy
  have h3:=block_ext hj hb3
  have hl:=lt_of_block h3
  have hz:=hg.size
  refine hgd.block j _ h3 (by omega) ?_
  intro c' e
  cases e
  exact hy rfl
 obtain⟨c1,y1,p1,q1⟩:=hp
 obtain⟨c2,y2,p2,q2⟩:=hc
 have hr5:=keep rb _ _ hr2 (by decide)
 have hrow:∀g,rs.ownBlock=some g→w0.heap.size≤g:=fun g hg'=>(own3.lt g hg').1
 refine⟨by rw[keep pb _ _ p1 q1,p1],by rw[keep cb _ _ p2 q2,p2],hr5,?_,?_⟩
 ·refine⟨⟨k2,v',heap_setCell_at _ hr5,?_⟩,?_⟩
  ·rw[rows_snoc,List.length_append]
   refine owns_fr own5 (S:=[rb]) ((Fr.refl _ _).setCell (Or.inl (by simp)) _) (fun g _ hg'=>by simp;omega)
  ·have h05:Fr [rb] w0 w5:=by
    refine⟨hg.os.trans (hb3.os.trans hfr.os),hg.tape.trans (hb3.tape.trans hfr.tape),hg.output.trans (hb3.output.trans hfr.output),Nat.le_trans hfr.size (Nat.le_trans hb3.size hg.size),fun j hj hn=>?_⟩
    have hz:=hfr.size
    have hz3:=hb3.size
    rw[hg.block j (by omega) (fun e=>by have:=hrow j e.symm;omega),hb3.block j (by omega)]
    exact hfr.block j hj hn
   exact h05.setCell (Or.inl (by simp)) _
 ·have h1:DFr rb w w2:=DFr.of_fr hf2 (fun j hj _=>by simpa using hj)
  have h2:DFr rb w2 w3:=DFr.of_fr (fr_below hb3:Fr [] w2 w3) (fun j hj _=>by cases hj)
  have h3:DFr rb w3 w5:=DFr.grown own3 hg
  have h4:DFr rb w5 (w5.setCell ⟨rb,3,none⟩ v'):=DFr.of_fr (S:=[rb]) ((Fr.refl _ _).setCell (Or.inl (by simp)) _) (fun j hj _=>by simpa using hj)
  exact((h1.trans h2).trans h3).trans h4
theorem slice_key (n:Nat) (hn:n≤16) (b:Nat) (w:World):Sem.run Tryz.prog (Instr.sliceAt 126 (.pointer (some ⟨b,0,none⟩)) none (some (.int .i64 (n:Int))) none) w=.ok (.slice (some ⟨b,0,none⟩) n 17) w:=by
 have h:=run_sliceAt_array_h (P:=Tryz.prog) w 126 ⟨b,0,none⟩ (by kernel_rfl) .i64 (n:Int) (by omega) (by rw[show Tryz.prog.arrayLen 126=17 by kernel_rfl];omega)
 have hz:Sem.run Tryz.prog (sizeOf (Tryz.prog.elem 126)) w=.ok 1 w:=by rw[show Tryz.prog.elem 126=5 by kernel_rfl];go_simp
 rw[h,hz,show Tryz.prog.arrayLen 126=17 by kernel_rfl]
 simp[slicedAt,Addr.add]
set_option maxHeartbeats 2000000 in
set_option maxRecDepth 10000 in
theorem tell_any (A:Ar) (ab wb rb:Nat) (f:Int) (n:Nat) (w0:World) (hD:DumpOk A ab wb rb w0) (hs:Sane A) (hrb:rb<w0.heap.size) (hfn:famBytes f=n) (K l p u:Nat) (x:Int) (hx:x=p) (hp:p<A.size) (hu:u=A.word p) (L:List (Nat × Nat × Nat)) (hL:L.length+1≤4194304) (w:World) (h:DumpAt ab rb f n w0 L w) (t:Nat × Nat × Nat) (ht:rdOf n t=⟨keyS n K,(l:Int),(u:Int)⟩) :
  Calls Tryz.prog 59 #[.pointer (some ⟨rb,0,none⟩),.agg (prefL K l).toArray,.int .i64 x] w fun e w'=>e=.returned (.tuple #[])∧DumpAt ab rb f n w0 (L++[t]) w'∧DFr rb w w':=by
 subst hx
 obtain⟨i0,hi,hz0,hz1,hz2⟩:=info_parts infoRoute
 obtain⟨k,rs,hr,hown⟩:=h.blk
 have hA:=hD.arAt h.fr
 have hla:=hA.la
 have hlw:=hA.lw
 have hlr:=lt_of_block hr
 have hu32:u<4294967296:=by rw[hu];exact hs.word p
 have hn16:n≤16:=by rw[←hfn];unfold famBytes;split <;> (try split) <;> omega
 have hsl:=slice_key n hn16
 have r0:w.cell? ⟨rb,0,none⟩=some (.pointer (some ⟨ab,0,none⟩)):=by rw[cell_at hr];rfl
 have HFR:=hide h.fr
 have HOWN:=hide hown
 have HHI:=hide hi
 have HZ0:=hide hz0
 have HZ1:=hide hz1
 have HZ2:=hide hz2
 clear h hi hz0 hz1 hz2
 go_enter Tryz.func59,Tryz.ntmps59
 go_wp2_with fail
 refine(read1_in A ab wb rb (.int .i64 f) rs _ p (w.heap.size+1) (w.heap.size+1+1) 1 k _ (((hA.alloc _).alloc _).alloc _) hs.size rfl hp ?_ (.int .u32 0) ?_ ?_ (by omega)).mono ?_
 ·exact block_ext hr (ext_trans (ext_trans (ext_alloc _ _) (ext_alloc _ _)) (ext_alloc _ _))
 ·simp only[heap_al,World.size_alloc];simp
 ·simp only[World.cell?,heap_al,World.size_alloc];simp
 rintro e w2 ⟨rfl,hA2,⟨k2,hr2⟩,hc2,hF2⟩
 rw[←hu] at hc2
 have HU:=hide hu
 clear hu
 have bp2:w2.heap[w.heap.size]?=some (.cells (prefL K l).toArray 128 (0,0)):=by
  refine hF2.at ?_ (by simp;omega)
  simp only[heap_al,World.size_alloc]
  rw[if_neg (by omega),if_neg (by omega),if_pos trivial]
 have hf2:Fr [rb] w w2:=Fr.after ((((Fr.refl _ _).alloc _).alloc _).alloc _) hF2 (by
  intro y hy
  simp at hy
  rcases hy with rfl | rfl
  ·left;simp
  ·right;omega)
 have own2:=owns_fr HOWN.out hf2 (fun g _ hg=>by simp;omega)
 have hz2:=hf2.size
 obtain⟨pb,hpb⟩:∃pb,pb=w.heap.size:=⟨_,rfl⟩
 obtain⟨cb,hcb⟩:∃cb,cb=pb+1:=⟨_,rfl⟩
 rw[←hpb] at bp2 hc2 ⊢
 rw[←hcb] at hc2 ⊢
 have hlc:=lt_of_block hc2
 have hlp:=lt_of_block bp2
 have hrlt:=lt_of_block hr2
 have r2:w2.cell? ⟨rb,2,none⟩=some (.int .i64 f):=by rw[cell_at hr2];rfl
 have r3:w2.cell? ⟨rb,3,none⟩=some rs:=by rw[cell_at hr2];rfl
 have r3f:=free_at hr2 3
 have KS:∀w':World,w'.heap[pb]?=w2.heap[pb]?→w'.heap[cb]?=w2.heap[cb]?→w'.cell? ⟨rb,2,none⟩=some (.int .i64 f)→(fun w':World=>w'.heap[pb]?=some (.cells (prefL K l).toArray 128 (0,0))∧w'.cell? ⟨pb,17,none⟩=some (.int .i64 (l:Int))∧w'.cell? ⟨cb,0,none⟩=some (.int .u32 (u:Int))∧w'.cell? ⟨rb,2,none⟩=some (.int .i64 f)) w':=by
  intro w' h1 h2 h3
  rw[bp2] at h1
  rw[hc2] at h2
  exact⟨h1,pref_17 K l h1,by rw[cell_at h2];rfl,h3⟩
 obtain⟨w3,hw3⟩:∃w3,w3=(w2.alloc (.cells #[.string (keyS n K),.int .i64 (l:Int),.int .i64 (u:Int)] 66)).drew:=⟨_,rfl⟩
 have hb3:Below w2.heap.size w2 w3:=by rw[hw3];exact Below.drew (ext_alloc _ _)
 have own3:=owns_ext own2 hb3
 have hnews:∀j u',(rdOf n t).cells[j]?=some u'→w3.cell? ((⟨w2.heap.size,0,none⟩:Addr).add j)=some u':=by
  rw[ht,hw3]
  exact route_news w2 ⟨keyS n K,(l:Int),(u:Int)⟩ 66
 have hbase:w0.heap.size≤w3.heap.size:=Nat.le_trans HFR.out.size (Nat.le_trans hf2.size hb3.size)
 have EWU:IntKind.i64.wrap (u:Int)=(u:Int):=by rw[IntKind.wrap_i64];omega
 have HTE:=hide (fun (v':Value) (w5:World) own5 hg=>tell_end (v':=v') (w5:=w5) (t:=t) (pb:=pb) (cb:=cb) (HFR.out.trans hf2) hf2 hrb hr2 ⟨_,_,bp2,by decide⟩ ⟨_,_,hc2,by decide⟩ hb3 own3 own5 hg)
 have HP3:=hide (And.intro (hb3.block pb hlp) (And.intro (hb3.block cb hlc) ((World.cell?_of_block (a:=⟨rb,2,none⟩) (hb3.block rb hrlt)).trans r2)))
 have HO3:=hide (And.intro own3 (And.intro hnews hbase))
 have HW3:=hide hw3
 have r33:w3.cell? ⟨rb,3,none⟩=some rs:=(World.cell?_of_block (a:=⟨rb,3,none⟩) (hb3.block rb hrlt)).trans r3
 have HNE:=hide (show pb≠rb∧cb≠rb by omega)
 have HR2:=hide hr2
 have HBP:=hide bp2
 have HF2:=hide hf2
 have HO2:=hide own2
 have HPB:=hide hpb
 clear hA2 hF2 hr2 bp2 hf2 own2 hpb hcb hr hA hc2 hw3 hb3 own3 hnews hbase
 go_wp2_with fail
 refine wp_region_held_drew (S:=(fun w':World=>w'.heap[pb]?=some (.cells (prefL K l).toArray 128 (0,0))∧w'.cell? ⟨pb,17,none⟩=some (.int .i64 (l:Int))∧w'.cell? ⟨cb,0,none⟩=some (.int .u32 (u:Int))∧w'.cell? ⟨rb,2,none⟩=some (.int .i64 f))) (by kernel_rfl) (KS _ rfl rfl r2) (fun hHeld=>?_)
 (refine wpAnyH_take (i:=0) (oi:=_) (v:=?_) rfl (by kernel_rfl) (by kernel_rfl) (by kernel_rfl) (fun _ _ _ h=>h) (Or.inl ⟨by rfl,?_⟩) (by assumption) ?_;rotate_left;(intro w hSw;(try dsimp only at hSw);go_simp;try with_reducible rfl);(try simp only[Act.put]);(try simp only[List.setIfInBounds_toArray]))
 (refine wpAnyH_take (i:=1) (oi:=_) (v:=?_) rfl (by kernel_rfl) (by kernel_rfl) (by kernel_rfl) (fun _ _ _ h=>h) (Or.inl ⟨by rfl,?_⟩) (by assumption) ?_;rotate_left;(intro w hSw;(try dsimp only at hSw);go_simp;try with_reducible rfl);(try simp only[Act.put]);(try simp only[List.setIfInBounds_toArray]))
 (refine wpAnyH_take (i:=2) (oi:=_) (v:=?_) rfl (by kernel_rfl) (by kernel_rfl) (by kernel_rfl) (fun _ _ _ h=>h) (Or.inl ⟨by rfl,?_⟩) (by assumption) ?_;rotate_left;(intro w hSw;(try dsimp only at hSw);go_simp;try with_reducible rfl);(try simp only[Act.put]);(try simp only[List.setIfInBounds_toArray]))
 (refine wpAnyH_take (i:=3) (oi:=_) (v:=?_) rfl (by kernel_rfl) (by kernel_rfl) (by kernel_rfl) (fun _ _ _ h=>h) (Or.inl ⟨by rfl,?_⟩) (by assumption) ?_;rotate_left;(intro w hSw;(try dsimp only at hSw);go_simp;try with_reducible rfl);(try simp only[Act.put]);(try simp only[List.setIfInBounds_toArray]))
 (refine wpAnyH_take (i:=5) (oi:=_) (v:=?_) rfl (by kernel_rfl) (by kernel_rfl) (by kernel_rfl) (fun _ _ _ h=>h) (Or.inl ⟨by rfl,?_⟩) (by assumption) ?_;rotate_left;(intro w hSw;(try dsimp only at hSw);go_simp;try with_reducible rfl);(try simp only[Act.put]);(try simp only[List.setIfInBounds_toArray]))
 (refine wpAnyH_take (i:=6) (oi:=_) (v:=?_) rfl (by kernel_rfl) (by kernel_rfl) (by kernel_rfl) (fun _ _ _ h=>h) (Or.inl ⟨by rfl,?_⟩) (by assumption) ?_;rotate_left;(intro w hSw;(try dsimp only at hSw);go_simp;try with_reducible rfl);(try simp only[Act.put]);(try simp only[List.setIfInBounds_toArray]))
 (refine wpAnyH_take (i:=7) (oi:=_) (v:=?_) rfl (by kernel_rfl) (by kernel_rfl) (by kernel_rfl) (fun _ _ _ h=>h) (Or.inl ⟨by rfl,?_⟩) (by assumption) ?_;rotate_left;(intro w hSw;(try dsimp only at hSw);go_simp;try with_reducible rfl);(try simp only[Act.put]);(try simp only[List.setIfInBounds_toArray]))
 (refine wpAnyH_take (i:=8) (oi:=_) (v:=?_) rfl (by kernel_rfl) (by kernel_rfl) (by kernel_rfl) (fun _ _ _ h=>h) (Or.inl ⟨by rfl,?_⟩) (by assumption) ?_;rotate_left;(intro w hSw;(try dsimp only at hSw);go_simp;try with_reducible rfl);(try simp only[Act.put]);(try simp only[List.setIfInBounds_toArray]))
 (refine wpAnyH_take (i:=9) (oi:=_) (v:=?_) rfl (by kernel_rfl) (by kernel_rfl) (by kernel_rfl) (fun _ _ _ h=>h) (Or.inl ⟨by rfl,?_⟩) (by assumption) ?_;rotate_left;(intro w hSw;(try dsimp only at hSw);go_simp;try with_reducible rfl);(try simp only[Act.put]);(try simp only[List.setIfInBounds_toArray]))
 (refine wpAnyH_take (i:=13) (oi:=_) (v:=?_) rfl (by kernel_rfl) (by kernel_rfl) (by kernel_rfl) (fun _ _ _ h=>h) (Or.inl ⟨by rfl,?_⟩) (by assumption) ?_;rotate_left;(intro w hSw;(try dsimp only at hSw);go_simp;try with_reducible rfl);(try simp only[Act.put]);(try simp only[List.setIfInBounds_toArray]))
 (refine wpAnyH_take (i:=14) (oi:=_) (v:=?_) rfl (by kernel_rfl) (by kernel_rfl) (by kernel_rfl) (fun _ _ _ h=>h) (Or.inl ⟨by rfl,?_⟩) (by assumption) ?_;rotate_left;(intro w hSw;(try dsimp only at hSw);go_simp;try with_reducible rfl);(try simp only[Act.put]);(try simp only[List.setIfInBounds_toArray]))
 (refine wpAnyH_take (i:=15) (oi:=_) (v:=?_) rfl (by kernel_rfl) (by kernel_rfl) (by kernel_rfl) (fun _ _ _ h=>h) (Or.inl ⟨by rfl,?_⟩) (by assumption) ?_;rotate_left;(intro w hSw;(try dsimp only at hSw);go_simp;try with_reducible rfl);(try simp only[Act.put]);(try simp only[List.setIfInBounds_toArray]))
 (refine wpAnyH_take (i:=16) (oi:=_) (v:=?_) rfl (by kernel_rfl) (by kernel_rfl) (by kernel_rfl) (fun _ _ _ h=>h) (Or.inl ⟨by rfl,?_⟩) (by assumption) ?_;rotate_left;(intro w hSw;(try dsimp only at hSw);go_simp;try with_reducible rfl);(try simp only[Act.put]);(try simp only[List.setIfInBounds_toArray]))
 (refine wpAnyH_ready (rs:=[4,10]) (by kernel_rfl) (by simp) ?_)
 (refine AllReadyH.cons (o:=_) rfl (fun KK hK=>?_) ?_)
 ·go_simp
  (refine hK.out _ _ (KS _ rfl rfl r2) (fun hHeld=>?_);clear hK KK;(try simp only[Act.put]);(try simp only[List.getElem_toArray]);(try simp only[List.getElem_cons_succ]);(try simp only[List.getElem_cons_zero]);(try simp only[List.setIfInBounds_toArray]))
  ((refine wpAnyH_ready (rs:=[10]) (by kernel_rfl) (by simp) ?_);(refine AllReadyH.cons (o:=_) rfl (fun KK hK=>?_) ?_);rotate_left;exact AllReadyH.nil)
  go_simp
  (go_at_call 35;refine(addressBytes_any f _).mono ?_;rintro e w4 ⟨rfl,rfl⟩;go_wp2_with fail)
  (refine hK.out _ _ (KS _ rfl rfl r2) (fun hHeld=>?_);clear hK KK;(try simp only[Act.put]);(try simp only[List.getElem_toArray]);(try simp only[List.getElem_cons_succ]);(try simp only[List.getElem_cons_zero]);(try simp only[List.setIfInBounds_toArray]))
  (refine wpAnyH_take (i:=11) (oi:=_) (v:=?_) rfl (by kernel_rfl) (by kernel_rfl) (by kernel_rfl) (fun _ _ _ h=>h) (Or.inl ⟨by rfl,?_⟩) (by assumption) ?_;rotate_left;(intro w hSw;(try dsimp only at hSw);go_simp;try with_reducible rfl);(try simp only[Act.put]);(try simp only[List.setIfInBounds_toArray]))
  (refine wpAnyH_take (i:=12) (oi:=_) (v:=.string (keyS n K)) rfl (by kernel_rfl) (by kernel_rfl) (by kernel_rfl) (fun _ _ _ h=>h) (Or.inl ⟨by rfl,?_⟩) (by assumption) ?_;(intro w hSw;have hcv:=conv_key K l n (by omega) pb 17 w hSw.1;clear hSw;go_simp);(try simp only[Act.put]);(try simp only[List.setIfInBounds_toArray]))
  (refine wpAnyH_take (i:=17) (oi:=_) (v:=?_) rfl (by kernel_rfl) (by kernel_rfl) (by kernel_rfl) (fun _ _ _ h=>h) (Or.inl ⟨by rfl,?_⟩) (by assumption) ?_;rotate_left;(intro w hSw;(try dsimp only at hSw);go_simp;try with_reducible rfl);(try simp only[Act.put]);(try simp only[List.setIfInBounds_toArray]))
  ((refine wpAnyH_ready (rs:=[18]) (by kernel_rfl) (by simp) ?_);(refine AllReadyH.cons (o:=_) rfl (fun KK hK=>?_) ?_);rotate_left;exact AllReadyH.nil)
  go_simp
  ((try rw[←HW3.out]);(refine hK.out _ _ (KS _ HP3.out.1 HP3.out.2.1 HP3.out.2.2) (fun hHeld=>?_);clear hK KK;(try simp only[Act.put]);(try simp only[List.getElem_toArray]);(try simp only[List.getElem_cons_succ]);(try simp only[List.getElem_cons_zero]);(try simp only[List.setIfInBounds_toArray]));((refine wpAnyH_ready (rs:=[19]) (by kernel_rfl) (by simp) ?_);(refine AllReadyH.cons (o:=_) rfl (fun KK hK=>?_) ?_);rotate_left;exact AllReadyH.nil);refine wanted_pos rfl (wp_append_own _ _ _ 46 rfl w0.heap.size 66 i0 _ 3 32 Tryz.underlying46 HHI.out HZ0.out HZ1.out HZ2.out rfl (by decide) rs L.length (rowsOf n L) rfl HO3.out.1 ⟨w2.heap.size,0,none⟩ 1 1 (rdOf n t).cells rfl rfl HO3.out.2.1 (route_one _) (by simp only[maxLen];omega) (by omega) HO3.out.2.2 ?_);intro v' w5 own5 gr5 _;obtain⟨g5,cp5,rfl⟩:=owns_form own5;obtain⟨t1,t2,t3,t4,t5⟩:=HTE.out _ w5 own5 gr5;have q2:w5.cell? ⟨rb,2,none⟩=some (.int .i64 f):=(by rw[cell_at t3];rfl);have q3:w5.cell? ⟨rb,3,none⟩=some rs:=(by rw[cell_at t3];rfl);have q4:=free_at t3 3;have q5:=lt_of_block t3;have HT4:=hide (And.intro t4 t5);have KE:=hide (KS (w5.setCell ⟨rb,3,none⟩ (.slice (some ⟨g5,0,none⟩) (L.length+1) cp5)) ((Below.heap_setCell _ _ _ _ HNE.out.1).trans t1) ((Below.heap_setCell _ _ _ _ HNE.out.2).trans t2) (by rw[cell_at (heap_setCell_at _ t3)];rfl));have KD:=hide (KS w5 t1 t2 q2);clear own5 gr5 t1 t2 t3 t4 t5 KS;(refine hK.out _ _ (KD.out) (fun hHeld=>?_);clear hK KK;(try simp only[Act.put]);(try simp only[List.getElem_toArray]);(try simp only[List.getElem_cons_succ]);(try simp only[List.getElem_cons_zero]);(try simp only[List.setIfInBounds_toArray]));(refine wpAnyH_take (i:=20) (oi:=_) (v:=?_) rfl (by kernel_rfl) (by kernel_rfl) (by kernel_rfl) (fun _ _ _ h=>h) (Or.inl ⟨by rfl,?_⟩) (by assumption) ?_;rotate_left;(intro w hSw;(try dsimp only at hSw);go_simp;try with_reducible rfl);(try simp only[Act.put]);(try simp only[List.setIfInBounds_toArray]));(refine wpAnyH_take (i:=21) (oi:=_) (v:=?_) rfl (by kernel_rfl) (by kernel_rfl) (by kernel_rfl) (fun _ _ _ h=>h) (Or.inl ⟨by rfl,?_⟩) (by assumption) ?_;rotate_left;(intro w hSw;(try dsimp only at hSw);go_simp;try with_reducible rfl);(try simp only[Act.put]);(try simp only[List.setIfInBounds_toArray]));((refine wpAnyH_ready (rs:=[22]) (by kernel_rfl) (by simp) ?_);(refine AllReadyH.cons (o:=_) rfl (fun KK hK=>?_) ?_);rotate_left;exact AllReadyH.nil);go_simp;(refine hK.out _ _ (KE.out) (fun hHeld=>?_);clear hK KK;(try simp only[Act.put]);(try simp only[List.getElem_toArray]);(try simp only[List.getElem_cons_succ]);(try simp only[List.getElem_cons_zero]);(try simp only[List.setIfInBounds_toArray]));(refine wpAnyH_done (by kernel_rfl) ?_ _);go_wp2_with fail;go_end0;exact⟨rfl,HT4.out.1,HT4.out.2⟩)
 ·(refine AllReadyH.cons (o:=_) rfl (fun KK hK=>?_) ?_)
  ·go_simp
   (go_at_call 35;refine(addressBytes_any f _).mono ?_;rintro e w4 ⟨rfl,rfl⟩;go_wp2_with fail)
   (refine hK.out _ _ (KS _ rfl rfl r2) (fun hHeld=>?_);clear hK KK;(try simp only[Act.put]);(try simp only[List.getElem_toArray]);(try simp only[List.getElem_cons_succ]);(try simp only[List.getElem_cons_zero]);(try simp only[List.setIfInBounds_toArray]))
   (refine wpAnyH_take (i:=11) (oi:=_) (v:=?_) rfl (by kernel_rfl) (by kernel_rfl) (by kernel_rfl) (fun _ _ _ h=>h) (Or.inl ⟨by rfl,?_⟩) (by assumption) ?_;rotate_left;(intro w hSw;(try dsimp only at hSw);go_simp;try with_reducible rfl);(try simp only[Act.put]);(try simp only[List.setIfInBounds_toArray]))
   (refine wpAnyH_take (i:=12) (oi:=_) (v:=.string (keyS n K)) rfl (by kernel_rfl) (by kernel_rfl) (by kernel_rfl) (fun _ _ _ h=>h) (Or.inl ⟨by rfl,?_⟩) (by assumption) ?_;(intro w hSw;have hcv:=conv_key K l n (by omega) pb 17 w hSw.1;clear hSw;go_simp);(try simp only[Act.put]);(try simp only[List.setIfInBounds_toArray]))
   (refine wpAnyH_take (i:=17) (oi:=_) (v:=?_) rfl (by kernel_rfl) (by kernel_rfl) (by kernel_rfl) (fun _ _ _ h=>h) (Or.inl ⟨by rfl,?_⟩) (by assumption) ?_;rotate_left;(intro w hSw;(try dsimp only at hSw);go_simp;try with_reducible rfl);(try simp only[Act.put]);(try simp only[List.setIfInBounds_toArray]))
   (refine wpAnyH_ready (rs:=[4,18]) (by kernel_rfl) (by simp) ?_)
   (refine AllReadyH.cons (o:=_) rfl (fun KK hK=>?_) ?_)
   ·go_simp
    (refine hK.out _ _ (KS _ rfl rfl r2) (fun hHeld=>?_);clear hK KK;(try simp only[Act.put]);(try simp only[List.getElem_toArray]);(try simp only[List.getElem_cons_succ]);(try simp only[List.getElem_cons_zero]);(try simp only[List.setIfInBounds_toArray]))
    ((refine wpAnyH_ready (rs:=[18]) (by kernel_rfl) (by simp) ?_);(refine AllReadyH.cons (o:=_) rfl (fun KK hK=>?_) ?_);rotate_left;exact AllReadyH.nil)
    go_simp
    ((try rw[←HW3.out]);(refine hK.out _ _ (KS _ HP3.out.1 HP3.out.2.1 HP3.out.2.2) (fun hHeld=>?_);clear hK KK;(try simp only[Act.put]);(try simp only[List.getElem_toArray]);(try simp only[List.getElem_cons_succ]);(try simp only[List.getElem_cons_zero]);(try simp only[List.setIfInBounds_toArray]));((refine wpAnyH_ready (rs:=[19]) (by kernel_rfl) (by simp) ?_);(refine AllReadyH.cons (o:=_) rfl (fun KK hK=>?_) ?_);rotate_left;exact AllReadyH.nil);refine wanted_pos rfl (wp_append_own _ _ _ 46 rfl w0.heap.size 66 i0 _ 3 32 Tryz.underlying46 HHI.out HZ0.out HZ1.out HZ2.out rfl (by decide) rs L.length (rowsOf n L) rfl HO3.out.1 ⟨w2.heap.size,0,none⟩ 1 1 (rdOf n t).cells rfl rfl HO3.out.2.1 (route_one _) (by simp only[maxLen];omega) (by omega) HO3.out.2.2 ?_);intro v' w5 own5 gr5 _;obtain⟨g5,cp5,rfl⟩:=owns_form own5;obtain⟨t1,t2,t3,t4,t5⟩:=HTE.out _ w5 own5 gr5;have q2:w5.cell? ⟨rb,2,none⟩=some (.int .i64 f):=(by rw[cell_at t3];rfl);have q3:w5.cell? ⟨rb,3,none⟩=some rs:=(by rw[cell_at t3];rfl);have q4:=free_at t3 3;have q5:=lt_of_block t3;have HT4:=hide (And.intro t4 t5);have KE:=hide (KS (w5.setCell ⟨rb,3,none⟩ (.slice (some ⟨g5,0,none⟩) (L.length+1) cp5)) ((Below.heap_setCell _ _ _ _ HNE.out.1).trans t1) ((Below.heap_setCell _ _ _ _ HNE.out.2).trans t2) (by rw[cell_at (heap_setCell_at _ t3)];rfl));have KD:=hide (KS w5 t1 t2 q2);clear own5 gr5 t1 t2 t3 t4 t5 KS;(refine hK.out _ _ (KD.out) (fun hHeld=>?_);clear hK KK;(try simp only[Act.put]);(try simp only[List.getElem_toArray]);(try simp only[List.getElem_cons_succ]);(try simp only[List.getElem_cons_zero]);(try simp only[List.setIfInBounds_toArray]));(refine wpAnyH_take (i:=20) (oi:=_) (v:=?_) rfl (by kernel_rfl) (by kernel_rfl) (by kernel_rfl) (fun _ _ _ h=>h) (Or.inl ⟨by rfl,?_⟩) (by assumption) ?_;rotate_left;(intro w hSw;(try dsimp only at hSw);go_simp;try with_reducible rfl);(try simp only[Act.put]);(try simp only[List.setIfInBounds_toArray]));(refine wpAnyH_take (i:=21) (oi:=_) (v:=?_) rfl (by kernel_rfl) (by kernel_rfl) (by kernel_rfl) (fun _ _ _ h=>h) (Or.inl ⟨by rfl,?_⟩) (by assumption) ?_;rotate_left;(intro w hSw;(try dsimp only at hSw);go_simp;try with_reducible rfl);(try simp only[Act.put]);(try simp only[List.setIfInBounds_toArray]));((refine wpAnyH_ready (rs:=[22]) (by kernel_rfl) (by simp) ?_);(refine AllReadyH.cons (o:=_) rfl (fun KK hK=>?_) ?_);rotate_left;exact AllReadyH.nil);go_simp;(refine hK.out _ _ (KE.out) (fun hHeld=>?_);clear hK KK;(try simp only[Act.put]);(try simp only[List.getElem_toArray]);(try simp only[List.getElem_cons_succ]);(try simp only[List.getElem_cons_zero]);(try simp only[List.setIfInBounds_toArray]));(refine wpAnyH_done (by kernel_rfl) ?_ _);go_wp2_with fail;go_end0;exact⟨rfl,HT4.out.1,HT4.out.2⟩)
   ·(refine AllReadyH.cons (o:=_) rfl (fun KK hK=>?_) ?_)
    ·go_simp
     rw[←HW3.out]
     (refine hK.out _ _ (KS _ HP3.out.1 HP3.out.2.1 HP3.out.2.2) (fun hHeld=>?_);clear hK KK;(try simp only[Act.put]);(try simp only[List.getElem_toArray]);(try simp only[List.getElem_cons_succ]);(try simp only[List.getElem_cons_zero]);(try simp only[List.setIfInBounds_toArray]))
     ((refine wpAnyH_ready (rs:=[4]) (by kernel_rfl) (by simp) ?_);(refine AllReadyH.cons (o:=_) rfl (fun KK hK=>?_) ?_);rotate_left;exact AllReadyH.nil)
     go_simp
     ((try rw[←HW3.out]);(refine hK.out _ _ (KS _ HP3.out.1 HP3.out.2.1 HP3.out.2.2) (fun hHeld=>?_);clear hK KK;(try simp only[Act.put]);(try simp only[List.getElem_toArray]);(try simp only[List.getElem_cons_succ]);(try simp only[List.getElem_cons_zero]);(try simp only[List.setIfInBounds_toArray]));((refine wpAnyH_ready (rs:=[19]) (by kernel_rfl) (by simp) ?_);(refine AllReadyH.cons (o:=_) rfl (fun KK hK=>?_) ?_);rotate_left;exact AllReadyH.nil);refine wanted_pos rfl (wp_append_own _ _ _ 46 rfl w0.heap.size 66 i0 _ 3 32 Tryz.underlying46 HHI.out HZ0.out HZ1.out HZ2.out rfl (by decide) rs L.length (rowsOf n L) rfl HO3.out.1 ⟨w2.heap.size,0,none⟩ 1 1 (rdOf n t).cells rfl rfl HO3.out.2.1 (route_one _) (by simp only[maxLen];omega) (by omega) HO3.out.2.2 ?_);intro v' w5 own5 gr5 _;obtain⟨g5,cp5,rfl⟩:=owns_form own5;obtain⟨t1,t2,t3,t4,t5⟩:=HTE.out _ w5 own5 gr5;have q2:w5.cell? ⟨rb,2,none⟩=some (.int .i64 f):=(by rw[cell_at t3];rfl);have q3:w5.cell? ⟨rb,3,none⟩=some rs:=(by rw[cell_at t3];rfl);have q4:=free_at t3 3;have q5:=lt_of_block t3;have HT4:=hide (And.intro t4 t5);have KE:=hide (KS (w5.setCell ⟨rb,3,none⟩ (.slice (some ⟨g5,0,none⟩) (L.length+1) cp5)) ((Below.heap_setCell _ _ _ _ HNE.out.1).trans t1) ((Below.heap_setCell _ _ _ _ HNE.out.2).trans t2) (by rw[cell_at (heap_setCell_at _ t3)];rfl));have KD:=hide (KS w5 t1 t2 q2);clear own5 gr5 t1 t2 t3 t4 t5 KS;(refine hK.out _ _ (KD.out) (fun hHeld=>?_);clear hK KK;(try simp only[Act.put]);(try simp only[List.getElem_toArray]);(try simp only[List.getElem_cons_succ]);(try simp only[List.getElem_cons_zero]);(try simp only[List.setIfInBounds_toArray]));(refine wpAnyH_take (i:=20) (oi:=_) (v:=?_) rfl (by kernel_rfl) (by kernel_rfl) (by kernel_rfl) (fun _ _ _ h=>h) (Or.inl ⟨by rfl,?_⟩) (by assumption) ?_;rotate_left;(intro w hSw;(try dsimp only at hSw);go_simp;try with_reducible rfl);(try simp only[Act.put]);(try simp only[List.setIfInBounds_toArray]));(refine wpAnyH_take (i:=21) (oi:=_) (v:=?_) rfl (by kernel_rfl) (by kernel_rfl) (by kernel_rfl) (fun _ _ _ h=>h) (Or.inl ⟨by rfl,?_⟩) (by assumption) ?_;rotate_left;(intro w hSw;(try dsimp only at hSw);go_simp;try with_reducible rfl);(try simp only[Act.put]);(try simp only[List.setIfInBounds_toArray]));((refine wpAnyH_ready (rs:=[22]) (by kernel_rfl) (by simp) ?_);(refine AllReadyH.cons (o:=_) rfl (fun KK hK=>?_) ?_);rotate_left;exact AllReadyH.nil);go_simp;(refine hK.out _ _ (KE.out) (fun hHeld=>?_);clear hK KK;(try simp only[Act.put]);(try simp only[List.getElem_toArray]);(try simp only[List.getElem_cons_succ]);(try simp only[List.getElem_cons_zero]);(try simp only[List.setIfInBounds_toArray]));(refine wpAnyH_done (by kernel_rfl) ?_ _);go_wp2_with fail;go_end0;exact⟨rfl,HT4.out.1,HT4.out.2⟩)
    ·exact AllReadyH.nil
  ·exact AllReadyH.nil
end Go.Proofs.YtnapboelfimaaaaGreatDoor
