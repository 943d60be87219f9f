/- Cpt, Puc, Puf, Pud: parts of the proof, one behind the other. -/
import Derived.Test.YtnapboelfimaaaaGreatDoorB16
import Derived.Test.YtnapboelfimaaaaGreatDoorB23
namespace Go.Proofs.YtnapboelfimaaaaGreatDoor
open Go.RowKit Go.Deep
theorem made_words (n:Nat):madeCells #[Value.int .u32 0] n=(wordCells (newAr n)).toArray:=by
 unfold madeCells wordCells
 apply Array.ext'
 simp[newAr]
 intro a _
 rw[Nat.mod_one]
 rfl
theorem arena_new (n bw:Nat):arenaCells n bw=(arCells bw (newAr n)).toArray:=by
 unfold arenaCells arCells
 rfl
def stage (W:Nat→Nat) (n:Nat):Nat→Ar
 | 0=>newAr n
 | 1=>copyShorts W false (copyFirsts W false (newAr n) 256)
 | _=>compactN W n
def midst (W:Nat→Nat) (n:Nat):Nat→Ar
 | 0=>copyFirsts W false (newAr n) 256
 | _=>copyFirsts W true (copyShorts W false (copyFirsts W false (newAr n) 256)) 256
theorem src_stage {O:Ar} {M:Bool→Tab} (h:Src O M):Pk (newAr O.size)∧Pk (stage O.word O.size 1)∧(stage O.word O.size 1).size=O.size∧1024≤(stage O.word O.size 1).top∧(stage O.word O.size 1).top+costR O.word (rt true) (dp true)≤O.size:=by
 have h0:Pk (newAr O.size):=pk_new (by have:=h.size;omega) h.size2
 have hf:=h.fits
 have f:=pk_firsts (h.root false) h.wok h0 (Nat.le_refl _) (by show 1024+_≤O.size;omega) 256 (Nat.le_refl _)
 have hc:costR O.word (rt false) (dp false)=sumTo 256 (cost1 O.word (rt false) (dp false)):=rfl
 refine⟨h0,f.1.setw (wok_fill f.1.wok h.wok),f.2.2,?_,?_⟩
 ·show 1024≤(copyFirsts O.word false (newAr O.size) 256).top
  rw[f.2.1]
  exact Nat.le_add_right _ _
 ·show (copyFirsts O.word false (newAr O.size) 256).top+_≤_
  rw[f.2.1]
  show 1024+_+_≤_
  omega
theorem stage_mid (W:Nat→Nat) (n j:Nat) (hj:j<2):({ midst W n j with word:=fillW (midst W n j).word W (512*j+256) (512*j+256) 256 }:Ar)=stage W n (j+1):=by
 match j,hj with
 | 0,_=>rfl
 | 1,_=>rfl
set_option maxHeartbeats 2000000 in
set_option maxRecDepth 10000 in
theorem compact_any (O:Ar) (M:Bool→Tab) (tb ab0 wb0:Nat) (w:World) (h:TabAt w tb ab0 wb0 O) (hS:Src O M) (hsO:Sane O) :
  Calls Tryz.prog 92 #[.pointer (some ⟨tb,0,none⟩)] w fun e w'=>e=.returned (.tuple #[])∧(∃ab wb,w.heap.size≤ab∧w.heap.size≤wb∧TabAt w' tb ab wb (compactN O.word O.size))∧Fr [tb] w w':=by
 obtain⟨pk0,pk1,sz1,tp1,ft1⟩:=src_stage hS
 have hsz:=hS.size
 have hsz2:=hS.size2
 have hfit:=hS.fits
 have HCF:=hide (fun (tb ab wb rb:Nat) (j k:Nat) (hj:j<2) (w:World) (h:Cp w tb ab wb rb ab0 wb0 O (stage O.word O.size j) k) (hk:k≤200000*j)=>(show Calls Tryz.prog 101 #[.pointer (some ⟨tb,0,none⟩),.pointer (some ⟨rb,0,none⟩),.int .i64 (512*(j:Int))] w (fun e w'=>e=.returned (.tuple #[])∧∃k',k'≤200000*j+100000∧Cp w' tb ab wb rb ab0 wb0 O (midst O.word O.size j) k'∧Fr [rb,ab,wb] w w') by
  match j,hj with
  | 0,_ =>
   refine(copyFirsts_any O (newAr O.size) (M false) false tb ab wb rb ab0 wb0 k _ w h hsO (by omega) (hS.root false) (fun b hb h0=>hS.on false hb h0) pk0 (Nat.le_refl _) (by show 1024+_≤O.size;omega) (by rfl) (by omega)).mono ?_
   rintro e w' ⟨he,k',hk',hC,hF⟩
   exact⟨he,k',by omega,hC,hF⟩
  | 1,_ =>
   refine(copyFirsts_any O (stage O.word O.size 1) (M true) true tb ab wb rb ab0 wb0 k _ w h hsO (by omega) (hS.root true) (fun b hb h0=>hS.on true hb h0) pk1 tp1 (by rw[sz1];exact ft1) (by rfl) (by omega)).mono ?_
   rintro e w' ⟨he,k',hk',hC,hF⟩
   exact⟨he,k',by omega,hC,hF⟩))
 have hms:∀j,j<2→(midst O.word O.size j).size=O.size:=by
  intro j hj
  have:=stage_mid O.word O.size j hj
  match j,hj with
  | 0,_=>exact(pk_firsts (hS.root false) hS.wok pk0 (Nat.le_refl _) (by show 1024+_≤O.size;omega) 256 (Nat.le_refl _)).2.2
  | 1,_=>exact((pk_firsts (hS.root true) hS.wok pk1 tp1 (by rw[sz1];exact ft1) 256 (Nat.le_refl _)).2.2).trans sz1
 have HCW:=hide (fun (tb ab wb rb:Nat) (j k:Nat) (hj:j<2) (w:World) (h:Cp w tb ab wb rb ab0 wb0 O (midst O.word O.size j) k) (hk:k≤200000*j+100000)=>(show Calls Tryz.prog 102 #[.pointer (some ⟨tb,0,none⟩),.pointer (some ⟨rb,0,none⟩),.int .i64 (512*(j:Int)+256),.agg #[.int .i64 (512*(j:Int)+256),.int .i64 256]] w (fun e w'=>e=.returned (.tuple #[])∧∃k',k'≤200000*(j+1)∧Cp w' tb ab wb rb ab0 wb0 O (stage O.word O.size (j+1)) k'∧Fr [rb,ab,wb] w w') by
  have hm:=hms j hj
  refine(copyWords_any O (midst O.word O.size j) tb ab wb rb ab0 wb0 (512*j+256) (512*j+256) 256 k _ _ _ w h (by push_cast;rfl) (by push_cast;rfl) rfl (by omega) (by omega) hsz2 (by omega) (by omega)).mono ?_
  rintro e w' ⟨he,hC,hF⟩
  rw[stage_mid O.word O.size j hj] at hC
  exact⟨he,k+256,by omega,hC,hF.mono (fun y hy _=>by simp at hy ⊢;omega)⟩))
 have hla:=h.ar.la
 have hlw:=h.ar.lw
 have hlt:=h.lt
 have hna:=h.na
 have hnw:=h.nw
 have c0:=h.cell
 have ft:=free_at h.tab 0
 have HT:=hide h
 have HSZ:=hide (fun (w:World) (h:ArAt w ab0 wb0 O)=>asize_any O ab0 wb0 w h)
 have HNW:=hide (fun (w:World)=>arenaNew_any O.size w hsz hsz2)
 have hszI:(O.size:Int)≤65536:=by omega
 clear h
 go_enter Tryz.func92,Tryz.ntmps92
 go_wp2_with fail
 refine(reader_any ab0 _).mono ?_
 rintro e w1 ⟨rfl,hb1⟩
 have c1:=(HT.out.ext hb1).cell
 have f1:=free_at (block_ext HT.out.tab hb1) 0
 have hl1:=hb1.size
 have hlt1:tb<w1.heap.size:=by omega
 have HB1:=hide (ext_trans hb1 (ext_alloc w1 (.cells #[.pointer (some ⟨ab0,0,none⟩),.int .i64 0] 93)))
 have HT1:=hide (HT.out.ext HB1.out)
 have HR1:=hide (heap_alloc_new w1 (.cells #[.pointer (some ⟨ab0,0,none⟩),.int .i64 0] 93))
 clear hb1
 go_wp2_with fail
 refine(HSZ.out _ HT1.out.ar).mono ?_
 rintro e w2 ⟨rfl,rfl⟩
 go_wp2_with fail
 refine(HNW.out _).mono ?_
 rintro e w3 ⟨rfl,rfl⟩
 obtain⟨wr,hwr⟩:∃wr,wr=w1.alloc (.cells #[.pointer (some ⟨ab0,0,none⟩),.int .i64 0] 93):=⟨_,rfl⟩
 obtain⟨rb,hrb⟩:∃rb,rb=w1.heap.size:=⟨_,rfl⟩
 rw[←hwr] at HB1 HT1 HR1 ⊢
 rw[←hrb] at HR1
 have hlr:=lt_of_block HR1.out
 obtain⟨wy,hwy⟩:∃wy,wy=(wr.alloc (.cells (madeCells #[.int .u32 0] O.size) 136)).alloc (.cells (arenaCells O.size wr.heap.size) 103):=⟨_,rfl⟩
 have hwor:wy.heap[wr.heap.size]?=some (.cells (wordCells (newAr O.size)).toArray 136 (0,0)):=by rw[hwy,←made_words];exact block_ext (heap_alloc_new _ _) (ext_alloc _ _)
 have harn:wy.heap[wr.heap.size+1]?=some (.cells (arCells wr.heap.size (newAr O.size)).toArray 103 (0,0)):=by
  rw[hwy,←arena_new,←World.size_alloc wr (.cells (madeCells #[.int .u32 0] O.size) 136)]
  exact heap_alloc_new _ _
 have hBy:Below wr.heap.size wr wy:=by rw[hwy];exact ext_trans (ext_alloc _ _) (ext_alloc _ _)
 have hTy:=HT1.out.ext hBy
 have hRy:=block_ext HR1.out hBy
 have hsy:=hBy.size
 have hlta:=lt_of_block harn
 rw[←hwy,←hrb]
 obtain⟨wb,hwb⟩:∃wb,wb=wr.heap.size:=⟨_,rfl⟩
 obtain⟨ab,hab⟩:∃ab,ab=wr.heap.size+1:=⟨_,rfl⟩
 rw[←hab,←hwb] at harn
 rw[←hwb] at hwor
 rw[←hab]
 have hltr:w.heap.size≤rb:=by omega
 have hsr:rb<wr.heap.size:=hlr
 have cy:=hTy.cell
 have fy:=free_at hTy.tab 0
 have hty:=hTy.lt
 have hR2:=(Below.heap_setCell wy ⟨tb,0,none⟩ (.pointer (some ⟨ab,0,none⟩)) rb (by show rb≠tb;omega)).trans hRy
 have hO2:=hTy.ar.other (b:=tb) (off:=0) (v:=.pointer (some ⟨ab,0,none⟩)) (by omega) (by omega)
 have hw2:=(Below.heap_setCell wy ⟨tb,0,none⟩ (.pointer (some ⟨ab,0,none⟩)) wb (by show wb≠tb;omega)).trans hwor
 have ha2:=(Below.heap_setCell wy ⟨tb,0,none⟩ (.pointer (some ⟨ab,0,none⟩)) ab (by show ab≠tb;omega)).trans harn
 have ht2:=heap_setCell_at (off:=0) (.pointer (some ⟨ab,0,none⟩)) hTy.tab
 have hF2:Fr [tb] w (wy.setCell ⟨tb,0,none⟩ (.pointer (some ⟨ab,0,none⟩))):=(fr_below (ext_trans HB1.out hBy):Fr [tb] w wy).setCell (Or.inl (by simp)) _
 obtain⟨wz,hwz⟩:∃wz,wz=wy.setCell ⟨tb,0,none⟩ (.pointer (some ⟨ab,0,none⟩)):=⟨_,rfl⟩
 rw[←hwz] at hR2 hO2 hw2 ha2 ht2 hF2
 have hC2:Cp wz tb ab wb rb ab0 wb0 O (stage O.word O.size 0) 0:=⟨⟨ht2,⟨ha2,hw2⟩⟩,hO2,hR2,by omega,by omega,by omega,by omega⟩
 have HC2:=hide hC2
 have HF2:=hide hF2
 have HWZ:=hide hwz
 have hwwb:w.heap.size≤wb:=by omega
 have hwab:w.heap.size≤ab:=by omega
 clear hwr hrb hwy hwor harn hBy hTy hRy hwb hab hR2 hO2 hw2 ha2 ht2 hF2 hC2 hwz
 go_wp2_with fail
 rw[←HWZ.out]
 clear cy fy
 go_loopw [3] (fun iv wr=>∃(j k:Nat),iv=.int .i64 (512*(j:Int))∧j≤2∧k≤200000*j∧Cp wr tb ab wb rb ab0 wb0 O (stage O.word O.size j) k∧Fr [tb] w wr) (fun iv _=>1024-(intOf iv).toNat)
 case atStart=>exact⟨0,0,rfl,by omega,by omega,HC2.out,HF2.out⟩
 case round =>
  obtain⟨j,k,rfl,hj,hk,hC,hF⟩:=hrel
  have HC:=hide hC
  have HF:=hide hF
  have hww:=hF.size
  clear hC hF
  have hself:∀(w1 w2:World),Fr [tb] w w1→Fr [rb,ab,wb] w1 w2→Fr [tb] w w2:=fun w1 w2 h1 h2=>Fr.after h1 h2 (fun y hy=>by
   simp at hy
   rcases hy with rfl | rfl | rfl
   ·exact Or.inr hltr
   ·exact Or.inr hwab
   ·exact Or.inr hwwb)
  have HSELF:=hide hself
  clear hself
  by_cases hj2:j<2
  ·have hj3:(j:Int)<2:=by omega
   go_wp2_with fail
   refine(HCF.out tb ab wb rb j k hj2 _ HC.out hk).mono ?_
   rintro e w4 ⟨rfl,k4,hk4,hC4,hF4⟩
   have HC4:=hide hC4
   have HF4:=hide (HSELF.out _ _ HF.out hF4)
   clear hC4 hF4
   go_wp2_with fail
   refine(HCW.out tb ab wb rb j k4 hj2 _ HC4.out hk4).mono ?_
   rintro e w5 ⟨rfl,k5,hk5,hC5,hF5⟩
   have HC5:=hide hC5
   have HF5:=hide (HSELF.out _ _ HF4.out hF5)
   clear hC5 hF5
   go_wp2
   go_roundw
   case rel=>exact⟨j+1,k5,congrArg (Value.int .i64) (by omega),by omega,hk5,HC5.out,HF5.out⟩
   case measure=>simp[intOf];omega
  ·have hj3:j=2:=by omega
   subst hj3
   go_wp2
   go_end0
   exact⟨rfl,⟨ab,wb,hwab,hwwb,HC.out.tab⟩,HF.out⟩
end Go.Proofs.YtnapboelfimaaaaGreatDoor
namespace Go.Proofs.YtnapboelfimaaaaGreatDoor
open Go.RowKit Go.Deep
set_option maxHeartbeats 4000000 in
set_option maxRecDepth 10000 in
theorem putChild_more (A:Ar) (F:Nat→List Nat) (M:Tab) (m tb ab wb d len u y k:Nat) (child:NodeD) (B:Ar) (p:Nat) (w:World) (h:TabAt w tb ab wb A) (hG:Good A F m) (hm:m≤3000) (hO:OnF A F M d len u y) (hk:k≤15) (hch:child.ok) (hbit:(nodeAt A.word y).ways.testBit k=false)
  (hgr:A.grow (nodeAt A.word y).children (2*ones 16 (nodeAt A.word y).ways) (2*ones k (nodeAt A.word y).ways) 2=(B,some p)) :
  Calls Tryz.prog 114 #[.pointer (some ⟨tb,0,none⟩),.int .i64 (y:Nat),.int .i64 (k:Nat),.agg #[.int .u16 child.routes,.int .u16 child.ways,.int .i64 child.hops,.int .i64 child.children]] w fun e w'=>e=.returned (.bool true)∧TabAt w' tb ab wb ((B.putN y ((nodeAt A.word y).moreKid k p)).putN (((nodeAt A.word y).moreKid k p).kid k) child)∧Fr [ab,wb] w w':=by
 have hs:=hG.sane (by omega)
 have hlt:=hO.on.lt
 have hok:=hO.on.ok
 have hz:=hs.size
 have hkds:=hO.on.kids
 have h16:=ones16_room (x:=(nodeAt A.word y).ways) (f:=k) (by omega) hbit
 have hmono:=ones_mono (nodeAt A.word y).ways (show k≤16 by omega)
 obtain⟨F',hGB,hgn,hp1,hp2⟩:=good_grow hG (by omega) (by omega) (by omega) (fun q=>by have:=hO.kidsIn q;omega) hO.kidsApart hO.kidsIn hgr
 have hBs:=hgn.size
 have HGR:=hide (fun (x z:Int) (w:World) (h:ArAt w ab wb A) (hx:x=((nodeAt A.word y).children:Nat)) (hz:z=IntKind.i64.wrap (2*(ones k (nodeAt A.word y).ways:Int)))=>grow_some A ab wb (nodeAt A.word y).children (2*ones 16 (nodeAt A.word y).ways) (2*ones k (nodeAt A.word y).ways) 2 x (2*ones 16 (nodeAt A.word y).ways:Nat) z 2 w h hs hx rfl (by rw[hz,IntKind.wrap_i64];omega) rfl (by omega) (by omega) (by omega) hkds.1 hkds.2.1 (good_hB hG (by omega) (by omega) (by omega)) B p hgr)
 obtain⟨wx,hwx⟩:∃wx,wx=w.alloc (.cells #[.int .u16 child.routes,.int .u16 child.ways,.int .i64 child.hops,.int .i64 child.children] 142):=⟨_,rfl⟩
 have bx:wx.heap[w.heap.size]?=some (.cells #[.int .u16 child.routes,.int .u16 child.ways,.int .i64 child.hops,.int .i64 child.children] 142 (0,0)):=by rw[hwx];exact heap_alloc_new _ _
 have HBX:Below w.heap.size w wx:=by rw[hwx];exact ext_alloc _ _
 obtain⟨nn,hn⟩:∃n,n=nodeAt A.word y:=⟨_,rfl⟩
 rw[←hn] at hok hbit HGR h16 hp2 hmono ⊢
 have HND:=hide (node_x A tb ab wb y y nn wx (h.ext HBX) hs rfl hlt.2 hn)
 have hk':(k:Int)≤15:=by omega
 have HT:=hide (h.ext HBX)
 have hnw:=h.nw
 have hna:=h.na
 have hwt:=h.ar.lw
 have hat:=h.ar.la
 have htt:=h.lt
 obtain⟨c1,hc1⟩:∃c,c=2*ones 16 nn.ways:=⟨_,rfl⟩
 obtain⟨c3,hc3⟩:∃c,c=ones k nn.ways:=⟨_,rfl⟩
 have HCB:=hide (fun (w:World)=>childBlock_any nn w hok)
 have HBE:=hide (fun (w:World)=>before_x nn.ways k k w rfl hok.2.1 (by omega))
 rw[←hc1] at HCB HGR hp2
 rw[←hc3] at HBE HGR hmono
 have hc3':(c3:Int)≤15:=by omega
 have hc1':(c1:Int)≤30:=by omega
 have h31:2*c3≤c1:=by omega
 have HOR:=hide (or16 nn.ways k hok.2.1 (by omega))
 have HWK:=hide (wrap16 (k:=k) (by omega))
 have HWX:=hide hwx
 have HBX:=hide HBX
 have hsx:w.heap.size<wx.heap.size:=lt_of_block bx
 have HC3:=hide hc3
 clear hn h hO hG hgr hgn hGB hkds hc1 hc3 hwx
 go_enter Tryz.func114,Tryz.ntmps114
 go_wp2_with (first | rw[←HWX.out] | fail)
 refine HND.out.mono ?_
 rintro e w1 ⟨rfl,hb1⟩
 have hs1:=hb1.size
 obtain⟨wq,hwq⟩:∃wq,wq=w1.alloc (.cells #[.int .u16 nn.routes,.int .u16 nn.ways,.int .i64 nn.hops,.int .i64 nn.children] 142):=⟨_,rfl⟩
 have b2:wq.heap[w1.heap.size]?=some (.cells #[.int .u16 nn.routes,.int .u16 nn.ways,.int .i64 nn.hops,.int .i64 nn.children] 142 (0,0)):=by rw[hwq];exact heap_alloc_new _ _
 have hbq:Below wx.heap.size wx wq:=ext_trans hb1 (by rw[hwq];exact ext_alloc _ _)
 have bc:=block_ext bx hbq
 have HB2:=hide (ext_trans HBX.out hbq)
 have HTW:=hide (HT.out.ext hbq)
 have hw2:w1.heap.size<wq.heap.size:=lt_of_block b2
 have HWQ:=hide hwq
 obtain⟨cb,hcb⟩:∃cb,cb=w.heap.size:=⟨_,rfl⟩
 have HCBD:=hide hcb
 rw[←hcb] at bc
 obtain⟨nb,hnb⟩:∃nb,nb=w1.heap.size:=⟨_,rfl⟩
 have HNB:=hide hnb
 rw[←hnb] at b2 hw2 hs1
 have hnbw:nb≠wb:=by omega
 have hnba:nb≠ab:=by omega
 have hnbt:tb≠nb:=by omega
 have hqa:ab<wq.heap.size:=by omega
 have hqw:wb<wq.heap.size:=by omega
 have hcbw:cb≠wb:=by omega
 have hcba:cb≠ab:=by omega
 have hcbn:cb≠nb:=by omega
 have hw2x:w.heap.size≤nb:=by omega
 clear hnb hcb hb1 hbq hwq bx HND
 have hns:nb ∉ [ab,wb]:=by simp;omega
 have hts:tb ∉ [ab,wb]:=by simp;omega
 have hcs:cb ∉ [ab,wb]:=by simp;omega
 have KS:∀w',Fr [ab,wb] wq w'→(fun w':World=>Fr [ab,wb] wq w'∧w'.cell? ⟨tb,0,none⟩=some (.pointer (some ⟨ab,0,none⟩))∧w'.cell? ⟨nb,0,none⟩=some (.int .u16 nn.routes)∧w'.cell? ⟨nb,1,none⟩=some (.int .u16 nn.ways)∧w'.cell? ⟨nb,2,none⟩=some (.int .i64 nn.hops)∧w'.cell? ⟨nb,3,none⟩=some (.int .i64 nn.children)) w':=fun w' hf=>⟨hf,HTW.out.frw hf hts,cells4n (hf.at b2 hns)⟩
 simp only[] at KS
 go_wp2_with fail
 rw[←HWQ.out,←HNB.out]
 go_cut [10,11] (fun v1 v2 wc=>∃bb,v1=.pointer (some ⟨bb,0,none⟩)∧v2=.bool true∧wq.heap.size≤bb∧wc.heap[bb]?=some (.cells #[.int .i64 (p:Int),.int .i64 ((c1:Int)+2)] 172 (0,0))∧ArAt wc ab wb B∧Fr [ab,wb] wq wc)
 case first =>
  go_region_held3 (fun w':World=>Fr [ab,wb] wq w'∧w'.cell? ⟨tb,0,none⟩=some (.pointer (some ⟨ab,0,none⟩))∧w'.cell? ⟨nb,0,none⟩=some (.int .u16 nn.routes)∧w'.cell? ⟨nb,1,none⟩=some (.int .u16 nn.ways)∧w'.cell? ⟨nb,2,none⟩=some (.int .i64 nn.hops)∧w'.cell? ⟨nb,3,none⟩=some (.int .i64 nn.children)) (with_reducible (first | assumption | exact KS _ (fr_below (drew_ext wq)) | exact KS _ (by assumption) | exact KS _ (fr_below (by assumption)) | exact KS _ (fr_below (ext_trans (by assumption) (ext_alloc _ _))) | exact KS _ (fr_below (Below.drew (ext_alloc _ _))) | exact KS _ (Fr.alloc (by assumption) _) | (refine KS _ (Fr.setCell (Fr.setCell (by assumption) (Or.inr ?_) _) (Or.inr ?_) _) <;> first | assumption | exact Nat.le_refl _))) (first | (go_at_call 108;refine(HCB.out _).mono ?_;rintro e w5 ⟨rfl,hb5⟩;with_reducible (first | (have b5:=new_drew hb5;have S5:=(ext_trans (Below.drew (ext_alloc _ _)) hb5:Below wq.heap.size wq w5)) | (have S5:=(ext_trans (drew_ext wq) hb5:Below wq.heap.size wq w5)));have z5:=S5.size;clear hb5) | (go_at_call 75;refine(HBE.out _).mono ?_;rintro e w6 ⟨rfl,hb6⟩;with_reducible (first | (have b6:=block_ext b5 hb6;have S6:=(ext_trans S5 hb6:Below wq.heap.size wq w6)) | (have b6:=new_plain hb6;have S6:=(ext_trans (ext_trans S5 (ext_alloc _ _)) hb6:Below wq.heap.size wq w6)) | (have S6:=(ext_trans S5 hb6:Below wq.heap.size wq w6)));have z6:=S6.size;clear hb6) | (go_at_call 120;first | (refine(HGR.out _ _ _ (HTW.out.ar.ext S6) rfl rfl).mono ?_;rintro e w7 ⟨rfl,hA7,hF7⟩;first | (have b7:=hF7.at b6 (by simp;omega);have F7:=(Fr.after (fr_below S6) hF7 (fun y hy=>Or.inl hy):Fr [ab,wb] wq w7);obtain⟨g0,g1,g2,g3⟩:=cells2 b7) | (have F7:=(Fr.after (fr_below S6) hF7 (fun y hy=>Or.inl hy):Fr [ab,wb] wq w7));have z7:=F7.size;clear hF7) | (refine(HGR.out _ _ _ (HTW.out.ar.ext (ext_trans S6 (ext_alloc _ _))) rfl rfl).mono ?_;rintro e w7 ⟨rfl,hA7,hF7⟩;have b7:=hF7.at (heap_alloc_new _ _) (by simp;omega);have F7:=(Fr.after (fr_below (ext_trans S6 (ext_alloc _ _))) hF7 (fun y hy=>Or.inl hy):Fr [ab,wb] wq w7);obtain⟨g0,g1,g2,g3⟩:=cells2 b7;have z7:=F7.size;clear hF7)))
  all_goals (go_wp2_with fail;go_meet)
  ·case rel=>exact⟨w7.heap.size,rfl,rfl,z7,heap_alloc_new _ _,hA7.alloc _,F7.alloc _⟩
  ·case rel=>exact⟨w6.heap.size,rfl,rfl,z6,store2 b7,(hA7.other (by omega) (by omega)).other (by omega) (by omega),(F7.setCell (Or.inr z6) _).setCell (Or.inr z6) _⟩
  ·case rel=>exact⟨w5.heap.size,rfl,rfl,z5,store2 b7,(hA7.other (by omega) (by omega)).other (by omega) (by omega),(F7.setCell (Or.inr z5) _).setCell (Or.inr z5) _⟩
  ·case rel=>exact⟨wq.heap.size,rfl,rfl,Nat.le_refl _,store2 b7,(hA7.other (by omega) (by omega)).other (by omega) (by omega),(F7.setCell (Or.inr (Nat.le_refl _)) _).setCell (Or.inr (Nat.le_refl _)) _⟩
 case rest =>
  obtain⟨bb,rfl,rfl,hbb,hblk,hAc,hFc⟩:=hcut
  obtain⟨g0,g1,g2,g3⟩:=cells2 hblk
  have bn:=hFc.at b2 hns
  have bcc:=hFc.at bc hcs
  obtain⟨k0,k1,k2,k3,k4,k5,k6,k7⟩:=cells4 bn
  have hlc:=lt_of_block hblk
  have hln:=lt_of_block bn
  have hbn:bb≠nb:=by omega
  have HAC:=hide hAc
  have HFC:=hide hFc
  have HBN:=hide bn
  have HBC:=hide bcc
  clear hAc hFc hblk bn KS b2 bc bcc
  go_wp2_with fail
  go_region
  rw[HWK.out,HOR.out]
  have bz:=block_kid (k:=k) (p:=p) HBN.out
  have hTc:=HTW.out.of HFC.out hts HAC.out
  have hTz:TabAt (((wc.setCell ⟨nb,3,none⟩ (.int .i64 (p:Int))).setCell ⟨nb,1,none⟩ (.int .u16 ((nn.ways ||| 2^k:Nat):Int))).drew) tb ab wb B:=((hTc.other hnbt hnba.symm hnbw.symm).other hnbt hnba.symm hnbw.symm).ext (drew_ext _)
  have hFz:Fr [ab,wb] w (((wc.setCell ⟨nb,3,none⟩ (.int .i64 (p:Int))).setCell ⟨nb,1,none⟩ (.int .u16 ((nn.ways ||| 2^k:Nat):Int))).drew):=two_setFr (Fr.after (fr_below HB2.out) HFC.out (fun y hy=>Or.inl hy)) hw2x
  have bcz:(((wc.setCell ⟨nb,3,none⟩ (.int .i64 (p:Int))).setCell ⟨nb,1,none⟩ (.int .u16 ((nn.ways ||| 2^k:Nat):Int))).drew).heap[cb]?=some (.cells #[.int .u16 child.routes,.int .u16 child.ways,.int .i64 child.hops,.int .i64 child.children] 142 (0,0)):=((Below.heap_setCell _ _ _ _ hcbn).trans (Below.heap_setCell _ _ _ _ hcbn)).trans HBC.out
  have hlz:=lt_of_block bz
  obtain⟨wq,hwq⟩:∃wz,wz=((wc.setCell ⟨nb,3,none⟩ (.int .i64 (p:Int))).setCell ⟨nb,1,none⟩ (.int .u16 ((nn.ways ||| 2^k:Nat):Int))).drew:=⟨_,rfl⟩
  rw[←hwq] at bz hTz hFz hlz bcz
  have HWQ:=hide hwq
  have hokn:=moreKid_ok (f:=k) (p:=p) hok (by omega) (by omega)
  have hone:ones k (nn.moreKid k p).ways=c3:=by rw[ones_moreKid,HC3.out]
  have hhp:(nn.moreKid k p).children=p:=rfl
  obtain⟨nn,hnn⟩:∃n2,n2=nn.moreKid k p:=⟨_,rfl⟩
  rw[←hnn] at bz hokn hone hhp
  have HHP:=hide hhp
  have HON:=hide hone
  clear hhp hone
  have HNN:=hide hnn
  have HTW:=hide hTz
  have HFZ:=hide hFz
  have hltz:=hTz.lt
  have hns1:nb ∉ [wb]:=by simpa using hnbw
  have hts1:tb ∉ [wb]:=by simpa using hnw
  have hcs1:cb ∉ [wb]:=by simpa using hcbw
  have KS:∀w',Fr [wb] wq w'→(fun w':World=>Fr [wb] wq w'∧w'.cell? ⟨tb,0,none⟩=some (.pointer (some ⟨ab,0,none⟩))∧w'.cell? ⟨nb,0,none⟩=some (.int .u16 nn.routes)∧w'.cell? ⟨nb,1,none⟩=some (.int .u16 nn.ways)∧w'.cell? ⟨nb,2,none⟩=some (.int .i64 nn.hops)∧w'.cell? ⟨nb,3,none⟩=some (.int .i64 nn.children)∧w'.cell? ⟨cb,0,none⟩=some (.int .u16 child.routes)∧w'.cell? ⟨cb,1,none⟩=some (.int .u16 child.ways)∧w'.cell? ⟨cb,2,none⟩=some (.int .i64 child.hops)∧w'.cell? ⟨cb,3,none⟩=some (.int .i64 child.children)) w':=fun w' hf=>⟨hf,HTW.out.frw hf hts1,(cells4n (hf.at bz hns1)).1,(cells4n (hf.at bz hns1)).2.1,(cells4n (hf.at bz hns1)).2.2.1,(cells4n (hf.at bz hns1)).2.2.2,cells4n (hf.at bcz hcs1)⟩
  simp only[] at KS
  clear hwq hnn hTz hFz hTc g0 g1 g2 g3 k0 k1 k2 k3 k4 k5 k6 k7 HBN HAC HFC
  go_wp2_with fail
  rw[←HWQ.out]
  go_region_held3 (fun w':World=>Fr [wb] wq w'∧w'.cell? ⟨tb,0,none⟩=some (.pointer (some ⟨ab,0,none⟩))∧w'.cell? ⟨nb,0,none⟩=some (.int .u16 nn.routes)∧w'.cell? ⟨nb,1,none⟩=some (.int .u16 nn.ways)∧w'.cell? ⟨nb,2,none⟩=some (.int .i64 nn.hops)∧w'.cell? ⟨nb,3,none⟩=some (.int .i64 nn.children)) (with_reducible (first | assumption | exact⟨(KS _ (fr_below (drew_ext wq))).1,(KS _ (fr_below (drew_ext wq))).2.1,cells4n (Fr.at (fr_below (S:=[wb]) (drew_ext wq)) bz hns1)⟩ | exact⟨by assumption,HTW.out.frw (by assumption) hts1,cells4n (Fr.at (by assumption) bz hns1)⟩)) ((go_at_call 121;refine(writeNode_any B ab wb _ y nn _ HTW.out.ar.drew hokn rfl (by omega)).mono ?_;rintro e w5 ⟨rfl,hA5,hF5⟩;have F5:=(Fr.after (fr_below (drew_ext wq)) hF5 (fun y hy=>Or.inl hy):Fr [wb] wq w5);clear hF5))
  have b5:=F5.at bz hns1
  have bc5:=F5.at bcz hcs1
  have hT5:=HTW.out.of F5 hts1 hA5
  have HF5:=hide (Fr.after HFZ.out F5 (fun y hy=>Or.inl (by simp at hy ⊢;exact Or.inr hy)):Fr [ab,wb] w w5)
  clear KS bz hA5 F5 bcz
  obtain⟨wq,hwq⟩:∃wz,wz=w5:=⟨_,rfl⟩
  subst hwq
  have HTW:=hide hT5
  obtain⟨AW,hAW⟩:∃AW,AW=B.putN y nn:=⟨_,rfl⟩
  rw[←hAW] at HTW
  have HAW:=hide hAW
  have hws:AW.size=B.size:=by rw[hAW];rfl
  have hl5:=lt_of_block b5
  have hlc5:=lt_of_block bc5
  have hlt5:=hT5.lt
  obtain⟨off,hoff⟩:∃off,off=nn.children+2*ones k nn.ways:=⟨_,rfl⟩
  have hfit:off+1<AW.size:=by rw[hoff,hws,HHP.out,HON.out,hBs];omega
  have KS:∀w',Fr [wb] wq w'→(fun w':World=>Fr [wb] wq w'∧w'.cell? ⟨tb,0,none⟩=some (.pointer (some ⟨ab,0,none⟩))∧w'.cell? ⟨nb,0,none⟩=some (.int .u16 nn.routes)∧w'.cell? ⟨nb,1,none⟩=some (.int .u16 nn.ways)∧w'.cell? ⟨nb,2,none⟩=some (.int .i64 nn.hops)∧w'.cell? ⟨nb,3,none⟩=some (.int .i64 nn.children)∧w'.cell? ⟨cb,0,none⟩=some (.int .u16 child.routes)∧w'.cell? ⟨cb,1,none⟩=some (.int .u16 child.ways)∧w'.cell? ⟨cb,2,none⟩=some (.int .i64 child.hops)∧w'.cell? ⟨cb,3,none⟩=some (.int .i64 child.children)) w':=fun w' hf=>⟨hf,HTW.out.frw hf hts1,(cells4n (hf.at b5 hns1)).1,(cells4n (hf.at b5 hns1)).2.1,(cells4n (hf.at b5 hns1)).2.2.1,(cells4n (hf.at b5 hns1)).2.2.2,cells4n (hf.at bc5 hcs1)⟩
  simp only[] at KS
  have HOFF:=hide hoff
  clear hoff hAW hT5 hws
  go_wp2_with fail
  rw[←HCBD.out]
  go_region_held3 (fun w':World=>Fr [wb] wq w'∧w'.cell? ⟨tb,0,none⟩=some (.pointer (some ⟨ab,0,none⟩))∧w'.cell? ⟨nb,0,none⟩=some (.int .u16 nn.routes)∧w'.cell? ⟨nb,1,none⟩=some (.int .u16 nn.ways)∧w'.cell? ⟨nb,2,none⟩=some (.int .i64 nn.hops)∧w'.cell? ⟨nb,3,none⟩=some (.int .i64 nn.children)∧w'.cell? ⟨cb,0,none⟩=some (.int .u16 child.routes)∧w'.cell? ⟨cb,1,none⟩=some (.int .u16 child.ways)∧w'.cell? ⟨cb,2,none⟩=some (.int .i64 child.hops)∧w'.cell? ⟨cb,3,none⟩=some (.int .i64 child.children)) (with_reducible (first | assumption | exact KS _ (fr_below (drew_ext wq)) | exact KS _ (by assumption) | exact KS _ (fr_below (by assumption)) | exact KS _ (fr_below (ext_trans (by assumption) (ext_alloc _ _))) | exact KS _ (fr_below (Below.drew (ext_alloc _ _))) | exact KS _ (Fr.alloc (by assumption) _) | (refine KS _ (Fr.setCell (Fr.setCell (by assumption) (Or.inr ?_) _) (Or.inr ?_) _) <;> first | assumption | exact Nat.le_refl _))) (first | (go_at_call 74;refine(childPlace_any nn k _ hokn (by omega)).mono ?_;rintro e w5 ⟨rfl,hb5⟩;have S5:=(ext_trans (drew_ext wq) hb5:Below wq.heap.size wq w5);clear hb5) | (go_at_call 121;refine(writeNode_any AW ab wb _ off child _ (HTW.out.ar.ext S5) hch (by rw[HOFF.out];first | rfl | omega) hfit).mono ?_;rintro e w6 ⟨rfl,hA6,hF6⟩;have F6:=(Fr.after (fr_below S5) hF6 (fun y hy=>Or.inl hy):Fr [wb] wq w6);clear hF6))
  all_goals
   have hX:=HTW.out.of F6 hts1 hA6
   rw[HOFF.out,HAW.out,HNN.out] at hX
   have HX:=hide (And.intro hX (Fr.after HF5.out F6 (fun y hy=>Or.inl (by simp at hy ⊢;exact Or.inr hy)):Fr [ab,wb] w w6))
   clear hX F6 hA6 KS
   go_wp2
   go_ret
   exact⟨rfl,HX.out.1,HX.out.2⟩
end Go.Proofs.YtnapboelfimaaaaGreatDoor
namespace Go.Proofs.YtnapboelfimaaaaGreatDoor
open Go.RowKit Go.Deep
set_option maxHeartbeats 2000000 in
set_option maxRecDepth 10000 in
theorem putFirst_some (A B:Ar) (F:Nat→List Nat) (m tb ab wb b p:Nat) (f:Int) (q:Bool) (nn:NodeD) (w:World) (h:TabAt w tb ab wb A) (hG:Good A F m) (hm:m≤3000) (hq:q=decide (f=6)) (hb:b<256) (hsz:2048≤A.size) (hsh:A.word (rt q+b)/65536<256) (hnok:nn.ok) (hT:A.take 2=(B,some p)) :
  Calls Tryz.prog 113 #[.pointer (some ⟨tb,0,none⟩),.int .i64 f,.int .u8 b,.agg #[.int .u16 nn.routes,.int .u16 nn.ways,.int .i64 nn.hops,.int .i64 nn.children]] w fun e w'=>e=.returned (.bool true)∧TabAt w' tb ab wb { B with word:=setW (putNode B.word p nn) (rt q+b) (p+65536*(putNode B.word p nn (rt q+b)/65536)) }∧Fr [ab,wb] w w':=by
 have hs:=hG.sane (by omega)
 have hz:=hs.size
 have hr:=rt_le q
 obtain⟨F1,hG1,hTk,hp1,hp2⟩:=good_take hG (by omega) (by omega) hT
 have hbs:=hTk.size
 have hap:∀a,inB a p 2+B.frees F1 a≤1:=fun a=>by have h1:=hTk.frees a;have h2:=hG.ok.apart a;omega
 have hG2:=good_put hG1 hnok hap
 have hs2:=hG2.sane (by omega)
 have hwd:putNode B.word p nn (rt q+b)=A.word (rt q+b):=by
  rw[putNode_out (by unfold inB;rw[if_neg (by omega)])]
  exact hTk.word _ (hG1.out _ (Or.inl (by omega)))
 rw[hwd]
 have HFI:=hide (fun (w:World) (h:TabAt w tb ab wb (B.putN p nn))=>first_any (B.putN p nn) tb ab wb f q b w h hs2 hq hb (by show 2048≤B.size;omega) (by show putNode B.word p nn (rt q+b)/65536<256;rw[hwd];exact hsh))
 have hwd2:(B.putN p nn).word (rt q+b)=A.word (rt q+b):=hwd
 rw[hwd2] at HFI
 obtain⟨sh,hshd⟩:∃sh,sh=A.word (rt q+b)/65536:=⟨_,rfl⟩
 obtain⟨nd,hndd⟩:∃nd,nd=A.word (rt q+b)%65536:=⟨_,rfl⟩
 rw[←hshd,←hndd] at HFI
 rw[←hshd] at hsh ⊢
 obtain⟨pl,hpl⟩:∃pl,pl=rt q+b:=⟨_,rfl⟩
 rw[←hpl] at HFI ⊢
 have hplb:pl<B.size:=by omega
 have hna:=h.na
 have hnw:=h.nw
 have hla:=h.ar.la
 have hlw:=h.ar.lw
 have hlt:=h.lt
 obtain⟨wx,hwx⟩:∃wx,wx=w.alloc (.cells #[.int .u16 nn.routes,.int .u16 nn.ways,.int .i64 nn.hops,.int .i64 nn.children] 142):=⟨_,rfl⟩
 have HBX:Below w.heap.size w wx:=by rw[hwx];exact ext_alloc _ _
 have bx:wx.heap[w.heap.size]?=some (.cells #[.int .u16 nn.routes,.int .u16 nn.ways,.int .i64 nn.hops,.int .i64 nn.children] 142 (0,0)):=by rw[hwx];exact heap_alloc_new _ _
 have HT:=hide (h.ext HBX)
 have c0:=(h.ext HBX).cell
 have hsx:=lt_of_block bx
 have HTK:=hide (take_some A ab wb 2 2 wx HT.out.ar hs rfl (by omega) (by omega) B p hT)
 obtain⟨nb,hnb⟩:∃nb,nb=w.heap.size:=⟨_,rfl⟩
 rw[←hnb] at bx
 have HNB:=hide hnb
 have HBX:=hide HBX
 have HWX:=hide hwx
 have HBN:=hide bx
 have hnw1:nb ∉ [ab,wb]:=by simp;omega
 have hnbw:nb ∉ [wb]:=by simp;omega
 have htw:tb ∉ [ab,wb]:=by simp;omega
 have htw1:tb ∉ [wb]:=by simp;omega
 have hnbw0:w.heap.size≤nb:=by omega
 clear h hG hG1 hTk hT hwx bx hap hG2 hwd hwd2 hshd hndd hpl hnb hq
 go_enter Tryz.func113,Tryz.ntmps113
 go_wp2_with (first | rw[←HWX.out] | fail)
 refine HTK.out.mono ?_
 rintro e w1 ⟨rfl,hA1,hF1⟩
 have bn1:=hF1.at HBN.out hnw1
 have hT1:=HT.out.of hF1 htw hA1
 have HF1:=hide (Fr.after (fr_below HBX.out) hF1 (fun y hy=>Or.inl hy):Fr [ab,wb] w w1)
 have hl1:=lt_of_block bn1
 obtain⟨wq,hwq⟩:∃wq,wq=w1.alloc (.cells #[.int .i64 (p:Int),.int .i64 2] 172):=⟨_,rfl⟩
 obtain⟨bb,hbb⟩:∃bb,bb=w1.heap.size:=⟨_,rfl⟩
 have bq:wq.heap[bb]?=some (.cells #[.int .i64 (p:Int),.int .i64 2] 172 (0,0)):=by rw[hwq,hbb];exact heap_alloc_new _ _
 have hB1q:Below w1.heap.size w1 wq:=by rw[hwq];exact ext_alloc _ _
 have bnq:=block_ext bn1 hB1q
 have HTW:=hide (hT1.ext hB1q)
 have HFQ:=hide (Fr.after HF1.out (fr_below (S:=[]) hB1q) (fun y hy=>by cases hy):Fr [ab,wb] w wq)
 rw[←hbb] at hl1
 have HBB:=hide hbb
 have HWQ:=hide hwq
 have hlq:=lt_of_block bq
 have hltq:=HTW.out.lt
 have hbbw:bb ∉ [wb]:=by simp;omega
 clear hA1 hF1 hT1 hB1q hbb hwq bn1
 have KS:∀w',Fr [wb] wq w'→(fun w':World=>Fr [wb] wq w'∧w'.cell? ⟨tb,0,none⟩=some (.pointer (some ⟨ab,0,none⟩))∧w'.cell? ⟨nb,0,none⟩=some (.int .u16 nn.routes)∧w'.cell? ⟨nb,1,none⟩=some (.int .u16 nn.ways)∧w'.cell? ⟨nb,2,none⟩=some (.int .i64 nn.hops)∧w'.cell? ⟨nb,3,none⟩=some (.int .i64 nn.children)∧w'.cell? ⟨bb,0,none⟩=some (.int .i64 (p:Int))) w':=fun w' hf=>⟨hf,HTW.out.frw hf htw1,(cells4n (hf.at bnq hnbw)).1,(cells4n (hf.at bnq hnbw)).2.1,(cells4n (hf.at bnq hnbw)).2.2.1,(cells4n (hf.at bnq hnbw)).2.2.2,(cells2 (hf.at bq hbbw)).1⟩
 simp only[] at KS
 go_wp2_with fail
 rw[←HWQ.out,←HBB.out,←HNB.out]
 go_region_held3 (fun w':World=>Fr [wb] wq w'∧w'.cell? ⟨tb,0,none⟩=some (.pointer (some ⟨ab,0,none⟩))∧w'.cell? ⟨nb,0,none⟩=some (.int .u16 nn.routes)∧w'.cell? ⟨nb,1,none⟩=some (.int .u16 nn.ways)∧w'.cell? ⟨nb,2,none⟩=some (.int .i64 nn.hops)∧w'.cell? ⟨nb,3,none⟩=some (.int .i64 nn.children)∧w'.cell? ⟨bb,0,none⟩=some (.int .i64 (p:Int))) (with_reducible (first | assumption | exact KS _ (fr_below (drew_ext wq)) | exact KS _ (by assumption) | exact KS _ (fr_below (by assumption)) | exact KS _ (fr_below (ext_trans (by assumption) (ext_alloc _ _))) | exact KS _ (fr_below (Below.drew (ext_alloc _ _))) | exact KS _ (Fr.alloc (by assumption) _) | (refine KS _ (Fr.setCell (Fr.setCell (by assumption) (Or.inr ?_) _) (Or.inr ?_) _) <;> first | assumption | exact Nat.le_refl _))) ((go_at_call 121;refine(writeNode_any B ab wb _ p nn _ HTW.out.ar.drew hnok rfl (by omega)).mono ?_;rintro e w5 ⟨rfl,hA5,hF5⟩;have F5:=(Fr.after (fr_below (drew_ext wq)) hF5 (fun y hy=>Or.inl hy):Fr [wb] wq w5);clear hF5))
 have hT5:=HTW.out.of F5 htw1 hA5
 have HF5:=hide (Fr.after HFQ.out F5 (fun y hy=>Or.inl (by simp at hy ⊢;exact Or.inr hy)):Fr [ab,wb] w w5)
 have bq5:=F5.at bq hbbw
 have HT5:=hide hT5
 clear KS F5 hA5 hT5 bnq bq HTW HFQ HWQ
 go_wp2_with fail
 refine(HFI.out _ HT5.out).mono ?_
 rintro e w6 ⟨rfl,hb6⟩
 have bq6:=block_ext bq5 hb6
 obtain⟨k0,k1,k2,k3⟩:=cells2 bq6
 have HT6:=hide (HT5.out.ext hb6)
 have HF6:=hide (Fr.after HF5.out (fr_below (S:=[]) hb6) (fun y hy=>by cases hy):Fr [ab,wb] w w6)
 have hl6:=lt_of_block bq6
 have hlt6:=HT6.out.lt
 have hla6:=HT6.out.ar.la
 have hlw6:=HT6.out.ar.lw
 have hww:=HF6.out.size
 clear hb6 bq5
 obtain⟨fb,hfb⟩:∃fb,fb=w6.heap.size:=⟨_,rfl⟩
 have HFB:=hide hfb
 obtain⟨wq,hwq⟩:∃wq,wq=w6.alloc (.cells #[.int .i64 (p:Int),.int .u8 (sh:Int)] 121):=⟨_,rfl⟩
 have bf:wq.heap[fb]?=some (.cells #[.int .i64 (p:Int),.int .u8 (sh:Int)] 121 (0,0)):=by rw[hwq,hfb];exact heap_alloc_new _ _
 have hBq:Below w6.heap.size w6 wq:=by rw[hwq];exact ext_alloc _ _
 have HWQ:=hide hwq
 have HTW:=hide (HT6.out.ext hBq)
 have HFQ:=hide (Fr.after HF6.out (fr_below (S:=[]) hBq) (fun y hy=>by cases hy):Fr [ab,wb] w wq)
 have hlfq:=lt_of_block bf
 have hfw:fb ∉ [wb]:=by simp;omega
 have KS:∀w',Fr [wb] wq w'→(fun w':World=>Fr [wb] wq w'∧w'.cell? ⟨tb,0,none⟩=some (.pointer (some ⟨ab,0,none⟩))∧w'.cell? ⟨fb,0,none⟩=some (.int .i64 (p:Int))∧w'.cell? ⟨fb,1,none⟩=some (.int .u8 (sh:Int))) w':=fun w' hf=>⟨hf,HTW.out.frw hf htw1,(cells2 (hf.at bf hfw)).1,(cells2 (hf.at bf hfw)).2.1⟩
 simp only[] at KS
 clear hfb hwq hBq
 go_wp2_with fail
 rw[←HWQ.out,←HFB.out]
 go_region_held3 (fun w':World=>Fr [wb] wq w'∧w'.cell? ⟨tb,0,none⟩=some (.pointer (some ⟨ab,0,none⟩))∧w'.cell? ⟨fb,0,none⟩=some (.int .i64 (p:Int))∧w'.cell? ⟨fb,1,none⟩=some (.int .u8 (sh:Int))) (with_reducible (first | assumption | exact KS _ (fr_below (drew_ext wq)) | exact KS _ (by assumption) | exact KS _ (fr_below (by assumption)) | exact KS _ (fr_below (ext_trans (by assumption) (ext_alloc _ _))) | exact KS _ (fr_below (Below.drew (ext_alloc _ _))) | exact KS _ (Fr.alloc (by assumption) _) | (refine KS _ (Fr.setCell (Fr.setCell (by assumption) (Or.inr ?_) _) (Or.inr ?_) _) <;> first | assumption | exact Nat.le_refl _))) ((go_at_call 118;refine(writeFirst_any (B.putN p nn) ab wb _ pl p sh _ HTW.out.ar.drew (by omega) hsh rfl hplb).mono ?_;rintro e w7 ⟨rfl,hA7,hF7⟩;have F7:=(Fr.after (fr_below (drew_ext wq)) hF7 (fun y hy=>Or.inl hy):Fr [wb] wq w7);clear hF7))
 have HX:=hide (And.intro (HTW.out.of F7 htw1 hA7) (Fr.after HFQ.out F7 (fun y hy=>Or.inl (by simp at hy ⊢;exact Or.inr hy)):Fr [ab,wb] w w7))
 clear KS F7 hA7
 go_wp2
 go_ret
 exact⟨rfl,HX.out.1,HX.out.2⟩
set_option maxHeartbeats 2000000 in
set_option maxRecDepth 10000 in
theorem putFirst_no (A B:Ar) (F:Nat→List Nat) (m tb ab wb b:Nat) (f:Int) (nn:NodeD) (w:World) (h:TabAt w tb ab wb A) (hG:Good A F m) (hm:m≤3000) (hT:A.take 2=(B,none)) :
  Calls Tryz.prog 113 #[.pointer (some ⟨tb,0,none⟩),.int .i64 f,.int .u8 b,.agg #[.int .u16 nn.routes,.int .u16 nn.ways,.int .i64 nn.hops,.int .i64 nn.children]] w fun e w'=>e=.returned (.bool false)∧TabAt w' tb ab wb B∧Fr [ab,wb] w w':=by
 have hs:=hG.sane (by omega)
 have hna:=h.na
 have hnw:=h.nw
 obtain⟨wx,hwx⟩:∃wx,wx=w.alloc (.cells #[.int .u16 nn.routes,.int .u16 nn.ways,.int .i64 nn.hops,.int .i64 nn.children] 142):=⟨_,rfl⟩
 have HBX:Below w.heap.size w wx:=by rw[hwx];exact ext_alloc _ _
 have HT:=hide (h.ext HBX)
 have c0:=(h.ext HBX).cell
 have htw:tb ∉ [ab,wb]:=by simp;omega
 have HTK:=hide (take_no A ab wb 2 2 wx HT.out.ar hs rfl (by omega) (by omega) B hT)
 have HBX:=hide HBX
 have HWX:=hide hwx
 have hlt:=HT.out.lt
 clear h hG hT hwx
 go_enter Tryz.func113,Tryz.ntmps113
 go_wp2_with (first | rw[←HWX.out] | fail)
 refine HTK.out.mono ?_
 rintro e w1 ⟨rfl,hA1,hF1⟩
 have HX:=hide (And.intro (HT.out.of hF1 htw hA1) (Fr.after (fr_below HBX.out) hF1 (fun y hy=>Or.inl hy):Fr [ab,wb] w w1))
 clear hA1 hF1
 go_wp2
 go_ret
 exact⟨rfl,HX.out.1.ext (ext_alloc _ _),HX.out.2.alloc _⟩
end Go.Proofs.YtnapboelfimaaaaGreatDoor
namespace Go.Proofs.YtnapboelfimaaaaGreatDoor
open Go.RowKit Go.Deep
set_option maxHeartbeats 4000000 in
set_option maxRecDepth 10000 in
theorem putChild_no (A:Ar) (F:Nat→List Nat) (M:Tab) (m tb ab wb d len u y k:Nat) (child:NodeD) (w:World) (h:TabAt w tb ab wb A) (hG:Good A F m) (hm:m≤3000) (hO:OnF A F M d len u y) (hk:k≤15) (_hch:child.ok) (hbit:(nodeAt A.word y).ways.testBit k=false)
  (hgr:A.grow (nodeAt A.word y).children (2*ones 16 (nodeAt A.word y).ways) (2*ones k (nodeAt A.word y).ways) 2=(A,none)) :
  Calls Tryz.prog 114 #[.pointer (some ⟨tb,0,none⟩),.int .i64 (y:Nat),.int .i64 (k:Nat),.agg #[.int .u16 child.routes,.int .u16 child.ways,.int .i64 child.hops,.int .i64 child.children]] w fun e w'=>e=.returned (.bool false)∧TabAt w' tb ab wb A∧Fr [ab,wb] w w':=by
 have hs:=hG.sane (by omega)
 have hlt:=hO.on.lt
 have hok:=hO.on.ok
 have hz:=hs.size
 have hkds:=hO.on.kids
 have h16:=ones16_room (x:=(nodeAt A.word y).ways) (f:=k) (by omega) hbit
 have hmono:=ones_mono (nodeAt A.word y).ways (show k≤16 by omega)
 have HGR:=hide (fun (x z:Int) (w:World) (h:ArAt w ab wb A) (hx:x=((nodeAt A.word y).children:Nat)) (hz:z=IntKind.i64.wrap (2*(ones k (nodeAt A.word y).ways:Int)))=>grow_no A ab wb (nodeAt A.word y).children (2*ones 16 (nodeAt A.word y).ways) (2*ones k (nodeAt A.word y).ways) 2 x (2*ones 16 (nodeAt A.word y).ways:Nat) z 2 w h hs hx rfl (by rw[hz,IntKind.wrap_i64];omega) rfl (by omega) (by omega) (by omega) hkds.1 hkds.2.1 (good_hB hG (by omega) (by omega) (by omega)) A hgr)
 obtain⟨wx,hwx⟩:∃wx,wx=w.alloc (.cells #[.int .u16 child.routes,.int .u16 child.ways,.int .i64 child.hops,.int .i64 child.children] 142):=⟨_,rfl⟩
 have bx:wx.heap[w.heap.size]?=some (.cells #[.int .u16 child.routes,.int .u16 child.ways,.int .i64 child.hops,.int .i64 child.children] 142 (0,0)):=by rw[hwx];exact heap_alloc_new _ _
 have HBX:Below w.heap.size w wx:=by rw[hwx];exact ext_alloc _ _
 obtain⟨nn,hn⟩:∃n,n=nodeAt A.word y:=⟨_,rfl⟩
 rw[←hn] at hok hbit HGR h16 hmono
 have HND:=hide (node_x A tb ab wb y y nn wx (h.ext HBX) hs rfl hlt.2 hn)
 have hk':(k:Int)≤15:=by omega
 have HT:=hide (h.ext HBX)
 have hnw:=h.nw
 have hna:=h.na
 have hwt:=h.ar.lw
 have hat:=h.ar.la
 have htt:=h.lt
 obtain⟨c1,hc1⟩:∃c,c=2*ones 16 nn.ways:=⟨_,rfl⟩
 obtain⟨c3,hc3⟩:∃c,c=ones k nn.ways:=⟨_,rfl⟩
 have HCB:=hide (fun (w:World)=>childBlock_any nn w hok)
 have HBE:=hide (fun (w:World)=>before_x nn.ways k k w rfl hok.2.1 (by omega))
 rw[←hc1] at HCB HGR
 rw[←hc3] at HBE HGR hmono
 have hc3':(c3:Int)≤15:=by omega
 have hc1':(c1:Int)≤30:=by omega
 have h31:2*c3≤c1:=by omega
 have HOR:=hide (or16 nn.ways k hok.2.1 (by omega))
 have HWK:=hide (wrap16 (k:=k) (by omega))
 have HWX:=hide hwx
 have HBX:=hide HBX
 have hsx:w.heap.size<wx.heap.size:=lt_of_block bx
 have HC3:=hide hc3
 clear hn h hO hG hgr hkds hc1 hc3 hwx
 go_enter Tryz.func114,Tryz.ntmps114
 go_wp2_with (first | rw[←HWX.out] | fail)
 refine HND.out.mono ?_
 rintro e w1 ⟨rfl,hb1⟩
 have hs1:=hb1.size
 obtain⟨wq,hwq⟩:∃wq,wq=w1.alloc (.cells #[.int .u16 nn.routes,.int .u16 nn.ways,.int .i64 nn.hops,.int .i64 nn.children] 142):=⟨_,rfl⟩
 have b2:wq.heap[w1.heap.size]?=some (.cells #[.int .u16 nn.routes,.int .u16 nn.ways,.int .i64 nn.hops,.int .i64 nn.children] 142 (0,0)):=by rw[hwq];exact heap_alloc_new _ _
 have hbq:Below wx.heap.size wx wq:=ext_trans hb1 (by rw[hwq];exact ext_alloc _ _)
 have bc:=block_ext bx hbq
 have HB2:=hide (ext_trans HBX.out hbq)
 have HTW:=hide (HT.out.ext hbq)
 have hw2:w1.heap.size<wq.heap.size:=lt_of_block b2
 have HWQ:=hide hwq
 obtain⟨cb,hcb⟩:∃cb,cb=w.heap.size:=⟨_,rfl⟩
 have HCBD:=hide hcb
 rw[←hcb] at bc
 obtain⟨nb,hnb⟩:∃nb,nb=w1.heap.size:=⟨_,rfl⟩
 have HNB:=hide hnb
 rw[←hnb] at b2 hw2 hs1
 have hnbw:nb≠wb:=by omega
 have hnba:nb≠ab:=by omega
 have hnbt:tb≠nb:=by omega
 have hqa:ab<wq.heap.size:=by omega
 have hqw:wb<wq.heap.size:=by omega
 have hcbw:cb≠wb:=by omega
 have hcba:cb≠ab:=by omega
 have hcbn:cb≠nb:=by omega
 have hw2x:w.heap.size≤nb:=by omega
 clear hnb hcb hb1 hbq hwq bx HND
 have hns:nb ∉ [ab,wb]:=by simp;omega
 have hts:tb ∉ [ab,wb]:=by simp;omega
 have hcs:cb ∉ [ab,wb]:=by simp;omega
 have KS:∀w',Fr [ab,wb] wq w'→(fun w':World=>Fr [ab,wb] wq w'∧w'.cell? ⟨tb,0,none⟩=some (.pointer (some ⟨ab,0,none⟩))∧w'.cell? ⟨nb,0,none⟩=some (.int .u16 nn.routes)∧w'.cell? ⟨nb,1,none⟩=some (.int .u16 nn.ways)∧w'.cell? ⟨nb,2,none⟩=some (.int .i64 nn.hops)∧w'.cell? ⟨nb,3,none⟩=some (.int .i64 nn.children)) w':=fun w' hf=>⟨hf,HTW.out.frw hf hts,cells4n (hf.at b2 hns)⟩
 simp only[] at KS
 go_wp2_with fail
 rw[←HWQ.out,←HNB.out]
 go_cut [10,11] (fun v1 v2 wc=>∃bb,v1=.pointer (some ⟨bb,0,none⟩)∧v2=.bool false∧ArAt wc ab wb A∧Fr [ab,wb] wq wc)
 case first =>
  go_region_held3 (fun w':World=>Fr [ab,wb] wq w'∧w'.cell? ⟨tb,0,none⟩=some (.pointer (some ⟨ab,0,none⟩))∧w'.cell? ⟨nb,0,none⟩=some (.int .u16 nn.routes)∧w'.cell? ⟨nb,1,none⟩=some (.int .u16 nn.ways)∧w'.cell? ⟨nb,2,none⟩=some (.int .i64 nn.hops)∧w'.cell? ⟨nb,3,none⟩=some (.int .i64 nn.children)) (with_reducible (first | assumption | exact KS _ (fr_below (drew_ext wq)) | exact KS _ (by assumption) | exact KS _ (fr_below (by assumption)) | exact KS _ (fr_below (ext_trans (by assumption) (ext_alloc _ _))) | exact KS _ (fr_below (Below.drew (ext_alloc _ _))) | exact KS _ (Fr.alloc (by assumption) _) | (refine KS _ (Fr.setCell (Fr.setCell (by assumption) (Or.inr ?_) _) (Or.inr ?_) _) <;> first | assumption | exact Nat.le_refl _))) (first | (go_at_call 108;refine(HCB.out _).mono ?_;rintro e w5 ⟨rfl,hb5⟩;with_reducible (first | (have b5:=new_drew hb5;have S5:=(ext_trans (Below.drew (ext_alloc _ _)) hb5:Below wq.heap.size wq w5)) | (have S5:=(ext_trans (drew_ext wq) hb5:Below wq.heap.size wq w5)));have z5:=S5.size;clear hb5) | (go_at_call 75;refine(HBE.out _).mono ?_;rintro e w6 ⟨rfl,hb6⟩;with_reducible (first | (have b6:=block_ext b5 hb6;have S6:=(ext_trans S5 hb6:Below wq.heap.size wq w6)) | (have b6:=new_plain hb6;have S6:=(ext_trans (ext_trans S5 (ext_alloc _ _)) hb6:Below wq.heap.size wq w6)) | (have S6:=(ext_trans S5 hb6:Below wq.heap.size wq w6)));have z6:=S6.size;clear hb6) | (go_at_call 120;first | (refine(HGR.out _ _ _ (HTW.out.ar.ext S6) rfl rfl).mono ?_;rintro e w7 ⟨rfl,hA7,hF7⟩;first | (have b7:=hF7.at b6 (by simp;omega);have F7:=(Fr.after (fr_below S6) hF7 (fun y hy=>Or.inl hy):Fr [ab,wb] wq w7);obtain⟨g0,g1,g2,g3⟩:=cells2 b7) | (have F7:=(Fr.after (fr_below S6) hF7 (fun y hy=>Or.inl hy):Fr [ab,wb] wq w7));have z7:=F7.size;clear hF7) | (refine(HGR.out _ _ _ (HTW.out.ar.ext (ext_trans S6 (ext_alloc _ _))) rfl rfl).mono ?_;rintro e w7 ⟨rfl,hA7,hF7⟩;have b7:=hF7.at (heap_alloc_new _ _) (by simp;omega);have F7:=(Fr.after (fr_below (ext_trans S6 (ext_alloc _ _))) hF7 (fun y hy=>Or.inl hy):Fr [ab,wb] wq w7);obtain⟨g0,g1,g2,g3⟩:=cells2 b7;have z7:=F7.size;clear hF7)))
  all_goals (go_wp2_with fail;go_meet)
  ·case rel=>exact⟨w7.heap.size,rfl,rfl,hA7.alloc _,F7.alloc _⟩
  ·case rel=>exact⟨w6.heap.size,rfl,rfl,(hA7.other (by omega) (by omega)).other (by omega) (by omega),(F7.setCell (Or.inr z6) _).setCell (Or.inr z6) _⟩
  ·case rel=>exact⟨w5.heap.size,rfl,rfl,(hA7.other (by omega) (by omega)).other (by omega) (by omega),(F7.setCell (Or.inr z5) _).setCell (Or.inr z5) _⟩
  ·case rel=>exact⟨wq.heap.size,rfl,rfl,(hA7.other (by omega) (by omega)).other (by omega) (by omega),(F7.setCell (Or.inr (Nat.le_refl _)) _).setCell (Or.inr (Nat.le_refl _)) _⟩
 case rest =>
  obtain⟨bb,rfl,rfl,hAc,hFc⟩:=hcut
  have HX:=hide (And.intro (HTW.out.of hFc hts hAc) (Fr.after (fr_below HB2.out) hFc (fun y hy=>Or.inl hy):Fr [ab,wb] w wc))
  clear hAc hFc KS b2
  go_wp2
  go_ret
  exact⟨rfl,HX.out.1,HX.out.2⟩
theorem putChild_any (A:Ar) (F:Nat→List Nat) (M:Tab) (m tb ab wb d len u y f:Nat) (child:NodeD) (x z:Int) (w:World) (h:TabAt w tb ab wb A) (hG:Good A F m) (hm:m≤3000) (hO:OnF A F M d len u y) (hx:x=y) (hz:z=f) (hf:f<16) (hb:(nodeAt A.word y).ways.testBit f=false) (hch:child.ok) (R:Ar × Bool) (hR:putKidN f A y child=R) :
  Calls Tryz.prog 114 #[.pointer (some ⟨tb,0,none⟩),.int .i64 x,.int .i64 z,.agg #[.int .u16 child.routes,.int .u16 child.ways,.int .i64 child.hops,.int .i64 child.children]] w fun e w'=>e=.returned (.bool R.2)∧TabAt w' tb ab wb R.1∧Fr [ab,wb] w w':=by
 subst hx hz hR
 have h16:=ones16_room (x:=(nodeAt A.word y).ways) (f:=f) hf hb
 unfold putKidN
 cases e:A.grow (nodeAt A.word y).children (2*ones 16 (nodeAt A.word y).ways) (2*ones f (nodeAt A.word y).ways) 2 with
 | mk B o =>
  cases o with
  | none =>
   have:=grow_none hG (by omega) (by omega) e
   subst this
   exact putChild_no B F M m tb ab wb d len u y f child w h hG hm hO (by omega) hch hb e
  | some p=>exact putChild_more A F M m tb ab wb d len u y f child B p w h hG hm hO (by omega) hch hb e
def putFirstN (A:Ar) (a:Nat) (n:NodeD):Ar × Bool :=
 match A.take 2 with
 | (C,none)=>(C,false)
 | (C,some y)=>({ C with word:=setW (putNode C.word y n) a (y+65536*(putNode C.word y n a/65536)) },true)
theorem putFirst_any (A:Ar) (F:Nat→List Nat) (m tb ab wb b:Nat) (f:Int) (q:Bool) (nn:NodeD) (w:World) (h:TabAt w tb ab wb A) (hG:Good A F m) (hm:m≤3000) (hq:q=decide (f=6)) (hb:b<256) (hsz:2048≤A.size) (hsh:A.word (rt q+b)/65536<256) (hnok:nn.ok) (R:Ar × Bool) (hR:putFirstN A (rt q+b) nn=R) :
  Calls Tryz.prog 113 #[.pointer (some ⟨tb,0,none⟩),.int .i64 f,.int .u8 b,.agg #[.int .u16 nn.routes,.int .u16 nn.ways,.int .i64 nn.hops,.int .i64 nn.children]] w fun e w'=>e=.returned (.bool R.2)∧TabAt w' tb ab wb R.1∧Fr [ab,wb] w w':=by
 subst hR
 unfold putFirstN
 cases e:A.take 2 with
 | mk B o =>
  cases o with
  | none=>exact putFirst_no A B F m tb ab wb b f nn w h hG hm e
  | some p=>exact putFirst_some A B F m tb ab wb b p f q nn w h hG hm hq hb hsz hsh hnok e
end Go.Proofs.YtnapboelfimaaaaGreatDoor
