/- NodeB, TrA, TrB, TrC: parts of the proof, one behind the other. -/
import Derived.Test.YtnapboelfimaaaaGreatDoorB07
import Derived.Test.YtnapboelfimaaaaGreatDoorB08
import Derived.Deep.RegionHeld3
namespace Go.Proofs.YtnapboelfimaaaaGreatDoor
open Go.RowKit Go.Deep
set_option maxHeartbeats 400000 in
set_option maxRecDepth 10000 in
theorem hopBlock_any (n:NodeD) (w:World) (hn:n.ok):Calls Tryz.prog 110 #[.agg #[.int .u16 n.routes,.int .u16 n.ways,.int .i64 n.hops,.int .i64 n.children]] w fun e w'=>e=.returned (.agg #[.int .i64 n.hops,.int .i64 (ones 16 n.routes)])∧Below w.heap.size w w':=by
 obtain⟨h1,h2,h3,h4⟩:=hn
 have ho:=ones_le 16 n.routes
 go_enter Tryz.func110,Tryz.ntmps110
 go_wp2
 go_region_with (go_at_call 76;refine(onesCount_any _ _ h1).mono ?_;rintro e w' ⟨rfl,nq,rfl⟩)
 all_goals go_wp2
 all_goals
  refine bodyPost_ret (v:=.agg #[.int .i64 n.hops,.int .i64 (ones 16 n.routes)]) (by simp[results,Tryz.results110,go_sem]) rfl ⟨rfl,?_⟩
  exact((below_drewN (ext_trans (ext_alloc _ _) (ext_alloc _ _)) _).setCell (by simp) _).setCell (by simp) _
set_option maxHeartbeats 400000 in
set_option maxRecDepth 10000 in
theorem childBlock_any (n:NodeD) (w:World) (hn:n.ok):Calls Tryz.prog 108 #[.agg #[.int .u16 n.routes,.int .u16 n.ways,.int .i64 n.hops,.int .i64 n.children]] w fun e w'=>e=.returned (.agg #[.int .i64 n.children,.int .i64 ((2*ones 16 n.ways:Nat):Int)])∧Below w.heap.size w w':=by
 obtain⟨h1,h2,h3,h4⟩:=hn
 have ho:=ones_le 16 n.ways
 go_enter Tryz.func108,Tryz.ntmps108
 go_wp2
 go_region_with (go_at_call 76;refine(onesCount_any _ _ h2).mono ?_;rintro e w' ⟨rfl,nq,rfl⟩)
 all_goals go_wp2
 all_goals
  refine bodyPost_ret (v:=.agg #[.int .i64 n.children,.int .i64 ((2*ones 16 n.ways:Nat):Int)]) (by simp[results,Tryz.results108,go_sem];rw[IntKind.wrap_i64];omega) rfl ⟨rfl,?_⟩
  exact((below_drewN (ext_trans (ext_alloc _ _) (ext_alloc _ _)) _).setCell (by simp) _).setCell (by simp) _
end Go.Proofs.YtnapboelfimaaaaGreatDoor
namespace Go.Proofs.YtnapboelfimaaaaGreatDoor
open Go.RowKit Go.Deep
def NodeD.agg (n:NodeD):Value:=.agg #[.int .u16 n.routes,.int .u16 n.ways,.int .i64 n.hops,.int .i64 n.children]
set_option maxHeartbeats 400000 in
set_option maxRecDepth 10000 in
theorem readNode_any (A:Ar) (ab wb rb:Nat) (x:Int) (p:Nat) (k:Int) (w:World) (h:ArAt w ab wb A) (hs:Sane A) (hx:x=p) (hp:p+1<A.size) (hr:w.heap[rb]?=some (.cells #[.pointer (some ⟨ab,0,none⟩),.int .i64 k] 93 (0,0))) (hk1:0≤k) (hk2:k≤1000000000000) :
  Calls Tryz.prog 66 #[.pointer (some ⟨rb,0,none⟩),.int .i64 x] w fun e w'=>e=.returned (nodeAt A.word p).agg∧ArAt w' ab wb A∧w'.heap[rb]?=some (.cells #[.pointer (some ⟨ab,0,none⟩),.int .i64 (k+1)] 93 (0,0))∧Fr [rb] w w':=by
 subst hx
 have hsz:=hs.size
 have hw1:=hs.word p
 have hw2:=hs.word (p+1)
 have hla:=h.la
 have hlw:=h.lw
 have hlr:=lt_of_block hr
 have E1:=hide (show bits BinOp.and IntKind.u32 (A.word (p+1):Int) 65535=((A.word (p+1)%65536:Nat):Int) by
  have:=u32_and_nat (A.word (p+1)) 65535 hw2 (by omega)
  rw[show (65535:Nat)=2^16-1 from rfl,Nat.and_two_pow_sub_one_eq_mod] at this
  exact this)
 go_enter Tryz.func66,Tryz.ntmps66
 go_wp2_with fail
 refine(read2_any A ab wb rb _ p (w.heap.size+1) (w.heap.size+1+1) (w.heap.size+1+1+1) 2 k _ ((((h.alloc _).alloc _).alloc _).alloc _) hsz rfl hp ?_ hk1 hk2 (.int .u32 0) (.int .u32 0) ?_ ?_ ?_ ?_ (by omega) (by omega) (by omega) (by omega) (by omega)).mono ?_
 ·exact block_ext hr (ext_trans (ext_trans (ext_trans (ext_alloc _ _) (ext_alloc _ _)) (ext_alloc _ _)) (ext_alloc _ _))
 ·simp only[heap_al,World.size_alloc];simp
 ·simp only[heap_al,World.size_alloc];simp
 ·simp only[World.cell?,heap_al,World.size_alloc];simp
 ·simp only[World.cell?,heap_al,World.size_alloc];simp
 rintro e w' ⟨rfl,hA',hr',hc',hd',hF'⟩
 have b0:w'.heap[w.heap.size]?=some (.cells #[.int .u16 0,.int .u16 0,.int .i64 0,.int .i64 0] 142 (0,0)):=by
  refine hF'.at ?_ (by simp;omega)
  simp only[heap_al,World.size_alloc]
  rw[if_neg (by omega),if_neg (by omega),if_neg (by omega),if_pos trivial]
 have d0:=cell_at b0 0
 have d1:=cell_at b0 1
 have d2:=cell_at b0 2
 have d3:=cell_at b0 3
 simp at d0 d1 d2 d3
 have f0:=free_at b0 0
 have f1:=free_at b0 1
 have f2:=free_at b0 2
 have f3:=free_at b0 3
 have k0:=cell_at hc' 0
 have k1:=cell_at hd' 0
 simp at k0 k1
 have HA:=hide hA'
 have HR:=hide hr'
 have HF:=hide hF'
 clear hA' hr' hF' hc' hd' b0
 go_wp2
 have V1:IntKind.u16.wrap (A.word p:Int)=((A.word p%65536:Nat):Int):=by rw[IntKind.wrap_u16];omega
 have V2:wrap64 (bits BinOp.and IntKind.u32 (A.word (p+1):Int) 65535)=((A.word (p+1)%65536:Nat):Int):=by
  rw[E1.out,IntWalk.wrap64_in _ ⟨by omega,by omega⟩]
 have V3:(A.word p:Int)/65536=((A.word p/65536:Nat):Int):=by omega
 have V4:(A.word (p+1):Int)/65536=((A.word (p+1)/65536:Nat):Int):=by omega
 refine bodyPost_ret (v:=(nodeAt A.word p).agg) (by simp[results,Tryz.results66,go_sem,d0,d1,d2,d3];rw[V1,V2,V3,V4];rfl) rfl ⟨rfl,?_,?_,?_⟩
 ·exact(((HA.out.other (by omega) (by omega)).other (by omega) (by omega)).other (by omega) (by omega)).other (by omega) (by omega)
 ·have hne:rb≠w.heap.size:=by omega
  rw[Below.heap_setCell _ _ _ _ hne,Below.heap_setCell _ _ _ _ hne,Below.heap_setCell _ _ _ _ hne,Below.heap_setCell _ _ _ _ hne]
  exact HR.out
 ·have hf:Fr [rb] w w':=Fr.after (((((Fr.refl _ _).alloc _).alloc _).alloc _).alloc _) HF.out (by
   intro y hy
   simp at hy
   rcases hy with rfl | rfl | rfl
   ·left;simp
   ·right;omega
   ·right;omega)
  exact(((hf.setCell (Or.inr (Nat.le_refl _)) _).setCell (Or.inr (Nat.le_refl _)) _).setCell (Or.inr (Nat.le_refl _)) _).setCell (Or.inr (Nat.le_refl _)) _
theorem or_high (a b:Nat) (ha:a<65536) (hb:b<65536):bits BinOp.or IntKind.u32 (a:Int) ((b:Int)*65536)=((a+65536*b:Nat):Int):=by
 have h1:=u32_or_nat a (b*65536) (by omega) (by omega)
 have h2:=Nat.two_pow_add_eq_or_of_lt (i:=16) (b:=a) ha b
 rw[Nat.or_comm] at h2
 rw[show (b:Int)*65536=((b*65536:Nat):Int) by omega,h1,show b*65536=2^16*b by omega,←h2]
 congr 1
 omega
theorem lay_two (W:Nat→Nat) (p a b:Nat):layW W p [a,b]=setW (setW W p a) (p+1) b:=by
 funext x
 unfold layW setW
 by_cases h1:x=p
 ·subst h1;simp
 ·by_cases h2:x=p+1
  ·subst h2;simp
  ·rw[if_neg (by simp;omega),if_neg h2,if_neg h1]
theorem lay_one (W:Nat→Nat) (p a:Nat):layW W p [a]=setW W p a:=by
 funext x
 unfold layW setW
 by_cases h1:x=p
 ·subst h1;simp
 ·rw[if_neg (by simp;omega),if_neg h1]
set_option maxHeartbeats 400000 in
set_option maxRecDepth 10000 in
theorem writeNode_any (A:Ar) (ab wb:Nat) (x:Int) (p:Nat) (n:NodeD) (w:World) (h:ArAt w ab wb A) (hn:n.ok) (hx:x=p) (hp:p+1<A.size) :
  Calls Tryz.prog 121 #[.pointer (some ⟨ab,0,none⟩),.int .i64 x,.agg #[.int .u16 n.routes,.int .u16 n.ways,.int .i64 n.hops,.int .i64 n.children]] w fun e w'=>e=.returned (.tuple #[])∧ArAt w' ab wb (A.putN p n)∧Fr [wb] w w':=by
 subst hx
 obtain⟨n1,n2,n3,n4⟩:=hn
 have hla:=h.la
 have hlw:=h.lw
 have O1:=hide (or_high n.routes n.ways n1 n2)
 have O2:=hide (or_high n.hops n.children n3 n4)
 go_enter Tryz.func121,Tryz.ntmps121
 go_wp2_with fail
 rw[O1.out,O2.out]
 refine(write_any A ab wb _ p 2 2 [n.routes+65536*n.ways,n.hops+65536*n.children] _ _ ((h.alloc _).alloc _) rfl (by simp) rfl hp ?_).mono ?_
 ·intro j v hj
  rw[addr_add]
  match j,hj with
  | 0,hj=>simp[wordVals] at hj;subst hj;rw[cell_new (by simp)];rfl
  | 1,hj=>simp[wordVals] at hj;subst hj;rw[cell_new (by simp)];rfl
  | j+2,hj=>simp[wordVals] at hj
 rintro e w' ⟨rfl,hA',hF'⟩
 rw[lay_two] at hA'
 have HA:=hide hA'
 have HF:=hide (Fr.after (((Fr.refl [wb] w).alloc _).alloc _) hF' (fun y hy=>Or.inl hy))
 clear hA' hF'
 go_wp2
 go_end0
 exact⟨rfl,HA.out,HF.out⟩
end Go.Proofs.YtnapboelfimaaaaGreatDoor
namespace Go.Proofs.YtnapboelfimaaaaGreatDoor
open Go.RowKit Go.Deep
set_option maxHeartbeats 400000 in
set_option maxRecDepth 10000 in
theorem readFirst_any (A:Ar) (ab wb rb:Nat) (x:Int) (p:Nat) (k:Int) (w:World) (h:ArAt w ab wb A) (hs:Sane A) (hx:x=p) (hp:p<A.size) (hsh:A.word p/65536<256) (hr:w.heap[rb]?=some (.cells #[.pointer (some ⟨ab,0,none⟩),.int .i64 k] 93 (0,0))) (hk1:0≤k) (hk2:k≤1000000000000) :
  Calls Tryz.prog 56 #[.pointer (some ⟨rb,0,none⟩),.int .i64 x] w fun e w'=>e=.returned (.agg #[.int .i64 ((A.word p%65536:Nat):Int),.int .u8 ((A.word p/65536:Nat):Int)])∧ArAt w' ab wb A∧w'.heap[rb]?=some (.cells #[.pointer (some ⟨ab,0,none⟩),.int .i64 (k+1)] 93 (0,0))∧Fr [rb] w w':=by
 subst hx
 have hsz:=hs.size
 have hw1:=hs.word p
 have hla:=h.la
 have hlw:=h.lw
 have hlr:=lt_of_block hr
 have E1:=hide (show bits BinOp.and IntKind.u32 (A.word p:Int) 65535=((A.word p%65536:Nat):Int) by
  have:=u32_and_nat (A.word p) 65535 hw1 (by omega)
  rw[show (65535:Nat)=2^16-1 from rfl,Nat.and_two_pow_sub_one_eq_mod] at this
  exact this)
 go_enter Tryz.func56,Tryz.ntmps56
 go_wp2_with fail
 refine(read1_any A ab wb rb _ p (w.heap.size+1) (w.heap.size+1+1) 1 k _ (((h.alloc _).alloc _).alloc _) hsz rfl hp ?_ hk1 hk2 (.int .u32 0) ?_ ?_ (by omega)).mono ?_
 ·exact block_ext hr (ext_trans (ext_trans (ext_alloc _ _) (ext_alloc _ _)) (ext_alloc _ _))
 ·simp only[heap_al,World.size_alloc];simp
 ·simp only[World.cell?,heap_al,World.size_alloc];simp
 rintro e w' ⟨rfl,hA',hr',hc',hF'⟩
 have b0:w'.heap[w.heap.size]?=some (.cells #[.int .i64 0,.int .u8 0] 121 (0,0)):=by
  refine hF'.at ?_ (by simp;omega)
  simp only[heap_al,World.size_alloc]
  rw[if_neg (by omega),if_neg (by omega),if_pos trivial]
 have d0:=cell_two0 b0
 have d1:=cell_two1 b0
 have f0:=free_two 0 b0
 have f1:=free_two 1 b0
 have k0:=cell_at hc' 0
 simp at k0
 have HA:=hide hA'
 have HR:=hide hr'
 have HF:=hide hF'
 clear hA' hr' hF' hc' b0
 go_wp2
 have V2:wrap64 (bits BinOp.and IntKind.u32 (A.word p:Int) 65535)=((A.word p%65536:Nat):Int):=by
  rw[E1.out,IntWalk.wrap64_in _ ⟨by omega,by omega⟩]
 refine bodyPost_ret (v:=.agg #[.int .i64 ((A.word p%65536:Nat):Int),.int .u8 ((A.word p/65536:Nat):Int)]) (by simp[results,Tryz.results56,go_sem,d0,d1];rw[V2];omega) rfl ⟨rfl,?_,?_,?_⟩
 ·exact(HA.out.other (by omega) (by omega)).other (by omega) (by omega)
 ·have hne:rb≠w.heap.size:=by omega
  rw[Below.heap_setCell _ _ _ _ hne,Below.heap_setCell _ _ _ _ hne]
  exact HR.out
 ·have hf:Fr [rb] w w':=Fr.after ((((Fr.refl _ _).alloc _).alloc _).alloc _) HF.out (by
   intro y hy
   simp at hy
   rcases hy with rfl | rfl
   ·left;simp
   ·right;omega)
  exact(hf.setCell (Or.inr (Nat.le_refl _)) _).setCell (Or.inr (Nat.le_refl _)) _
set_option maxHeartbeats 400000 in
set_option maxRecDepth 10000 in
theorem writeFirst_any (A:Ar) (ab wb:Nat) (x:Int) (p nd sh:Nat) (w:World) (h:ArAt w ab wb A) (h1:nd<65536) (h2:sh<256) (hx:x=p) (hp:p<A.size) :
  Calls Tryz.prog 118 #[.pointer (some ⟨ab,0,none⟩),.int .i64 x,.agg #[.int .i64 nd,.int .u8 sh]] w fun e w'=>e=.returned (.tuple #[])∧ArAt w' ab wb { A with word:=setW A.word p (nd+65536*sh) }∧Fr [wb] w w':=by
 subst hx
 have hla:=h.la
 have hlw:=h.lw
 have O1:=hide (or_high nd sh h1 (by omega))
 go_enter Tryz.func118,Tryz.ntmps118
 go_wp2_with fail
 rw[O1.out]
 refine(write_any A ab wb _ p 1 1 [nd+65536*sh] _ _ ((h.alloc _).alloc _) rfl (by simp) rfl hp ?_).mono ?_
 ·intro j v hj
  rw[addr_add]
  match j,hj with
  | 0,hj=>simp[wordVals] at hj;subst hj;rw[cell_new (by simp)];rfl
  | j+1,hj=>simp[wordVals] at hj
 rintro e w' ⟨rfl,hA',hF'⟩
 rw[lay_one] at hA'
 have HA:=hide hA'
 have HF:=hide (Fr.after (((Fr.refl [wb] w).alloc _).alloc _) hF' (fun y hy=>Or.inl hy))
 clear hA' hF'
 go_wp2
 go_end0
 exact⟨rfl,HA.out,HF.out⟩
set_option maxHeartbeats 400000 in
theorem reader_any (ab:Nat) (w:World):Calls Tryz.prog 46 #[.pointer (some ⟨ab,0,none⟩)] w fun e w'=>e=.returned (.agg #[.pointer (some ⟨ab,0,none⟩),.int .i64 0])∧Below w.heap.size w w':=by
 go_enter Tryz.func46,Tryz.ntmps46
 go_wp2
 refine bodyPost_ret (v:=.agg #[.pointer (some ⟨ab,0,none⟩),.int .i64 0]) (by simp[results,Tryz.results46,go_sem]) rfl ⟨rfl,?_⟩
 exact ext_alloc _ _
end Go.Proofs.YtnapboelfimaaaaGreatDoor
namespace Go.Proofs.YtnapboelfimaaaaGreatDoor
open Go.RowKit Go.Deep
structure TabAt (w:World) (tb ab wb:Nat) (A:Ar):Prop where
 tab:w.heap[tb]?=some (.cells #[.pointer (some ⟨ab,0,none⟩)] 81 (0,0))
 ar:ArAt w ab wb A
theorem TabAt.lt {w:World} {tb ab wb:Nat} {A:Ar} (h:TabAt w tb ab wb A):tb<w.heap.size:=lt_of_block h.tab
theorem TabAt.cell {w:World} {tb ab wb:Nat} {A:Ar} (h:TabAt w tb ab wb A):w.cell? ⟨tb,0,none⟩=some (.pointer (some ⟨ab,0,none⟩)):=by rw[cell_at h.tab];rfl
theorem TabAt.na {w:World} {tb ab wb:Nat} {A:Ar} (h:TabAt w tb ab wb A):tb≠ab:=by
 rintro rfl
 have h1:=h.tab
 rw[h.ar.arena] at h1
 simp at h1
theorem TabAt.nw {w:World} {tb ab wb:Nat} {A:Ar} (h:TabAt w tb ab wb A):tb≠wb:=by
 rintro rfl
 have h1:=h.tab
 rw[h.ar.words] at h1
 simp at h1
theorem TabAt.ext {w w':World} {tb ab wb:Nat} {A:Ar} (h:TabAt w tb ab wb A) (hb:Below w.heap.size w w'):TabAt w' tb ab wb A:=⟨block_ext h.tab hb,h.ar.ext hb⟩
theorem TabAt.of {w w':World} {tb ab wb:Nat} {A B:Ar} {S:List Nat} (h:TabAt w tb ab wb A) (hf:Fr S w w') (hn:tb ∉ S) (hB:ArAt w' ab wb B):TabAt w' tb ab wb B:=⟨hf.at h.tab hn,hB⟩
theorem fr_nil {w w':World} (h:Fr [] w w'):Below w.heap.size w w':=h.below (Nat.le_refl _) (by simp)
set_option maxHeartbeats 400000 in
theorem base_any (f:Int) (q:Bool) (w:World) (h:q=decide (f=6)):Calls Tryz.prog 57 #[.int .i64 f] w fun e w'=>e=.returned (.int .i64 (rt q:Nat))∧w'=w:=by
 by_cases h6:f=6
 ·subst h6
  have hq:q=true:=by simp[h]
  subst hq
  clear h
  go_enter Tryz.func57,Tryz.ntmps57
  go_wp2
  go_ret
  exact⟨rfl,rfl⟩
 ·have e6:(f==6)=false:=by simpa using h6
  have hq:q=false:=by simp[h,h6]
  subst hq
  clear h
  go_enter Tryz.func57,Tryz.ntmps57
  go_wp2
  go_ret
  exact⟨rfl,rfl⟩
set_option maxHeartbeats 400000 in
set_option maxRecDepth 10000 in
theorem node_any (A:Ar) (tb ab wb:Nat) (x:Int) (p:Nat) (w:World) (h:TabAt w tb ab wb A) (hs:Sane A) (hx:x=p) (hp:p+1<A.size) :
  Calls Tryz.prog 107 #[.pointer (some ⟨tb,0,none⟩),.int .i64 x] w fun e w'=>e=.returned (nodeAt A.word p).agg∧Below w.heap.size w w':=by
 subst hx
 have c0:=h.cell
 have hlt:=h.lt
 go_enter Tryz.func107,Tryz.ntmps107
 go_wp2_with (go_at_call 46;refine(reader_any ab _).mono ?_;rintro e w1 ⟨rfl,hb1⟩)
 have hl1:w.heap.size+1≤w1.heap.size:=by have:=hb1.size;simpa using this
 refine(readNode_any A ab wb w1.heap.size _ p 0 _ ((h.ar.ext (ext_trans (ext_alloc _ _) hb1)).alloc _) hs rfl hp (heap_alloc_new _ _) (by omega) (by omega)).mono ?_
 rintro e w2 ⟨rfl,hA2,hr2,hF2⟩
 have hB:=fr_nil (Fr.after (S:=[]) (Fr.alloc (Fr.of_below (ext_trans (ext_alloc w _) hb1)) _) hF2 (by intro y hy;simp at hy;right;omega))
 have HB:=hide hB
 have b0:w2.heap[w.heap.size]?=some (.cells #[.int .u16 0,.int .u16 0,.int .i64 0,.int .i64 0] 142 (0,0)):=by
  refine hF2.at ?_ (by simp;omega)
  rw[heap_al,if_neg (by omega),hb1.block _ (by simp)]
  exact heap_alloc_new _ _
 have d0:=cell_at b0 0
 have d1:=cell_at b0 1
 have d2:=cell_at b0 2
 have d3:=cell_at b0 3
 simp at d0 d1 d2 d3
 have f0:=free_at b0 0
 have f1:=free_at b0 1
 have f2:=free_at b0 2
 have f3:=free_at b0 3
 have hlt2:w.heap.size<w2.heap.size:=lt_of_block b0
 clear hB hA2 hr2 hF2 hb1 b0
 unfold NodeD.agg
 go_wp2
 refine bodyPost_ret (v:=(nodeAt A.word p).agg) (by simp[results,Tryz.results107,go_sem,d0,d1,d2,d3];rfl) rfl ⟨rfl,?_⟩
 exact((((HB.out).setCell (by simp) _).setCell (by simp) _).setCell (by simp) _).setCell (by simp) _
set_option maxHeartbeats 400000 in
set_option maxRecDepth 10000 in
theorem first_any (A:Ar) (tb ab wb:Nat) (f:Int) (q:Bool) (b:Nat) (w:World) (h:TabAt w tb ab wb A) (hs:Sane A) (hq:q=decide (f=6)) (hb:b<256) (hsz:2048≤A.size) (hsh:A.word (rt q+b)/65536<256) :
  Calls Tryz.prog 119 #[.pointer (some ⟨tb,0,none⟩),.int .i64 f,.int .u8 b] w fun e w'=>e=.returned (.tuple #[.agg #[.int .i64 ((A.word (rt q+b)%65536:Nat):Int),.int .u8 ((A.word (rt q+b)/65536:Nat):Int)],.int .i64 ((rt q+b:Nat):Int)])∧Below w.heap.size w w':=by
 have c0:=h.cell
 have hlt:=h.lt
 have hr:=rt_le q
 have HQ:=hide hq
 clear hq
 go_enter Tryz.func119,Tryz.ntmps119
 go_wp2_with (first | (go_at_call 46;refine(reader_any ab _).mono ?_;rintro e w1 ⟨rfl,hb1⟩) | (go_at_call 57;refine(base_any f q _ HQ.out).mono ?_;rintro e w' ⟨rfl,rfl⟩))
 have hl1:w.heap.size+1≤w1.heap.size:=by have:=hb1.size;simpa using this
 refine(readFirst_any A ab wb w1.heap.size _ (rt q+b) 0 _ ((h.ar.ext (ext_trans (ext_alloc _ _) hb1)).alloc _) hs (by omega) (by omega) hsh (heap_alloc_new _ _) (by omega) (by omega)).mono ?_
 rintro e w2 ⟨rfl,hA2,hr2,hF2⟩
 have hB:=fr_nil (Fr.after (S:=[]) (Fr.alloc (Fr.of_below (ext_trans (ext_alloc w _) hb1)) _) hF2 (by intro y hy;simp at hy;right;omega))
 have HB:=hide hB
 have b0:w2.heap[w.heap.size]?=some (.cells #[.int .i64 0,.int .u8 0] 121 (0,0)):=by
  refine hF2.at ?_ (by simp;omega)
  rw[heap_al,if_neg (by omega),hb1.block _ (by simp)]
  exact heap_alloc_new _ _
 have d0:=cell_two0 b0
 have d1:=cell_two1 b0
 have f0:=free_two 0 b0
 have f1:=free_two 1 b0
 have hlt2:w.heap.size<w2.heap.size:=lt_of_block b0
 clear hB hA2 hr2 hF2 hb1 b0
 go_wp2
 refine bodyPost_ret (v:=.tuple #[.agg #[.int .i64 ((A.word (rt q+b)%65536:Nat):Int),.int .u8 ((A.word (rt q+b)/65536:Nat):Int)],.int .i64 ((rt q+b:Nat):Int)]) (by simp[results,Tryz.results119,go_sem,d0,d1]) rfl ⟨rfl,?_⟩
 exact((HB.out).setCell (by simp) _).setCell (by simp) _
end Go.Proofs.YtnapboelfimaaaaGreatDoor
