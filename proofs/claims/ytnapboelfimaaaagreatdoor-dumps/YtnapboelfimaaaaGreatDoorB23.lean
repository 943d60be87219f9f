/- CoN, CoM, CoA, CoF: parts of the proof, one behind the other. -/
import Derived.Test.YtnapboelfimaaaaGreatDoorB12
import Derived.Test.YtnapboelfimaaaaGreatDoorB22
namespace Go.Proofs.YtnapboelfimaaaaGreatDoor
open Go.RowKit Go.Deep
def withHops (n:NodeD) (p:Nat):NodeD:={ n with hops:=p }
def withKids (n:NodeD) (p:Nat):NodeD:={ n with children:=p }
theorem block_hops {w:World} {b:Nat} {n:NodeD} {p:Nat} {t:TypeId} (h:w.heap[b]?=some (.cells #[.int .u16 n.routes,.int .u16 n.ways,.int .i64 n.hops,.int .i64 n.children] t (0,0))):(w.setCell ⟨b,2,none⟩ (.int .i64 (p:Int))).heap[b]?=some (.cells #[.int .u16 (withHops n p).routes,.int .u16 (withHops n p).ways,.int .i64 (withHops n p).hops,.int .i64 (withHops n p).children] t (0,0)):=by
 rw[heap_setCell_at _ h];rfl
theorem block_kids {w:World} {b:Nat} {n:NodeD} {p:Nat} {t:TypeId} (h:w.heap[b]?=some (.cells #[.int .u16 n.routes,.int .u16 n.ways,.int .i64 n.hops,.int .i64 n.children] t (0,0))):(w.setCell ⟨b,3,none⟩ (.int .i64 (p:Int))).heap[b]?=some (.cells #[.int .u16 (withKids n p).routes,.int .u16 (withKids n p).ways,.int .i64 (withKids n p).hops,.int .i64 (withKids n p).children] t (0,0)):=by
 rw[heap_setCell_at _ h];rfl
theorem Cp.of {w w':World} {tb ab wb rb ab0 wb0:Nat} {O A B:Ar} {k:Nat} (h:Cp w tb ab wb rb ab0 wb0 O A k) (hF:Fr [ab,wb] w w') (hB:TabAt w' tb ab wb B):Cp w' tb ab wb rb ab0 wb0 O B k:=⟨hB,h.old.fr hF (by have:=h.n1;have:=h.n2;simp;omega) (by have:=h.n3;have:=h.n4;simp;omega),hF.at h.rd (by have:=h.ra;have:=h.rw';simp;omega),h.n1,h.n2,h.n3,h.n4⟩
theorem Cp.ofw {w w':World} {tb ab wb rb ab0 wb0:Nat} {O A B:Ar} {k:Nat} (h:Cp w tb ab wb rb ab0 wb0 O A k) (hF:Fr [wb] w w') (hB:TabAt w' tb ab wb B):Cp w' tb ab wb rb ab0 wb0 O B k:=h.of (hF.mono (fun y hy _=>by simp at hy ⊢;exact Or.inr hy)) hB
theorem Cp.read {w w':World} {tb ab wb rb ab0 wb0:Nat} {O A:Ar} {k j:Nat} (h:Cp w tb ab wb rb ab0 wb0 O A k) (hF:Fr [rb] w w') (hO:ArAt w' ab0 wb0 O) (hr:w'.heap[rb]?=some (.cells #[.pointer (some ⟨ab0,0,none⟩),.int .i64 (j:Int)] 93 (0,0))):Cp w' tb ab wb rb ab0 wb0 O A j:=⟨h.tab.of hF (by simpa using h.rt.symm) (h.tab.ar.fr hF (by simpa using h.ra.symm) (by simpa using h.rw'.symm)),hO,hr,h.n1,h.n2,h.n3,h.n4⟩
theorem readNode_cp (O A:Ar) (tb ab wb rb ab0 wb0:Nat) (x:Int) (p k:Nat) (n:NodeD) (w:World) (h:Cp w tb ab wb rb ab0 wb0 O A k) (hs:Sane O) (hx:x=p) (hp:p+1<O.size) (hk:k≤10000000000) (hn:n=nodeAt O.word p) :
  Calls Tryz.prog 66 #[.pointer (some ⟨rb,0,none⟩),.int .i64 x] w fun e w'=>e=.returned (.agg #[.int .u16 n.routes,.int .u16 n.ways,.int .i64 n.hops,.int .i64 n.children])∧Cp w' tb ab wb rb ab0 wb0 O A (k+1)∧Fr [rb] w w':=by
 subst hn
 refine(readNode_any O ab0 wb0 rb x p k w h.old hs hx hp h.rd (by omega) (by omega)).mono ?_
 rintro e w' ⟨rfl,hA,hr,hF⟩
 exact⟨rfl,h.read hF hA (by rw[show ((k+1:Nat):Int)=(k:Int)+1 by omega];exact hr),hF⟩
theorem fr_read {S:List Nat} {rb:Nat} {w w':World} (h:Fr [rb] w w') (hS:rb∈S):Fr S w w':=h.mono (fun y hy _=>by simp at hy;subst hy;exact hS)
set_option maxHeartbeats 4000000 in
set_option maxRecDepth 10000 in
theorem copyNode_step (O A H:Ar) (Bk:Nat→Ar) (cost:Nat→Nat) (tb ab wb rb ab0 wb0 x y r c k:Nat) (nn:NodeD) (w:World) (h:Cp w tb ab wb rb ab0 wb0 O A k) (hsO:Sane O) (hxO:x+1<O.size) (hn:nn=nodeAt O.word x) (hok:nn.ok) (hr:r=ones 16 nn.routes) (hc:c=ones 16 nn.ways) (hs:Sane A) (hfr:A.fresh) (hy:y+1<A.size) (htop:A.top+r+2*c≤A.size) (hhop:nn.hops+r≤O.size) (hk:k+r+1≤1000000000) (E:Ar) (hE:E=if c=0 then H else Bk c) (n2:NodeD) (hn2:n2={ nn with hops:=if r=0 then nn.hops else A.top,children:=if c=0 then nn.children else H.top })
  (hH:H=if r=0 then A else { A.bump r with word:=fillW A.word O.word A.top nn.hops r }) (hsH:Sane H) (hfH:H.fresh) (hHt:H.top+2*c≤A.size) (hB0:Bk 0=H.bump (2*c)) (hBs:∀j,j≤c→(Bk j).size=A.size)
  (hIH:∀j,j<c→∀(w':World) (kk:Nat),kk≤k+1+r+sumTo j cost→Cp w' tb ab wb rb ab0 wb0 O (Bk j) kk→Calls Tryz.prog 117 #[.pointer (some ⟨tb,0,none⟩),.pointer (some ⟨rb,0,none⟩),.int .i64 ((nn.children:Int)+2*(j:Int)),.int .i64 ((H.top:Int)+2*(j:Int))] w' fun e w''=>e=.returned (.tuple #[])∧∃kk',kk'≤kk+cost j∧Cp w'' tb ab wb rb ab0 wb0 O (Bk (j+1)) kk'∧Fr [rb,ab,wb] w' w'') :
  Calls Tryz.prog 117 #[.pointer (some ⟨tb,0,none⟩),.pointer (some ⟨rb,0,none⟩),.int .i64 (x:Nat),.int .i64 (y:Nat)] w fun e w'=>e=.returned (.tuple #[])∧∃k',k'≤k+1+r+sumTo c cost∧Cp w' tb ab wb rb ab0 wb0 O (E.putN y n2) k'∧Fr [rb,ab,wb] w w':=by
 have hr16:r≤16:=by rw[hr];exact ones_le 16 _
 have hc16:c≤16:=by rw[hc];exact ones_le 16 _
 have hra:=h.ra
 have hrw:=h.rw'
 have hrt:=h.rt
 have hra0:=h.ra0
 have hrw0:=h.rw0
 have ne1:=h.n1
 have ne2:=h.n2
 have ne3:=h.n3
 have ne4:=h.n4
 have hla:=h.tab.ar.la
 have hlw:=h.tab.ar.lw
 have hlt:=h.tab.lt
 have hl0:=h.old.la
 have hlw0:=h.old.lw
 have hlr:=h.lr
 have hna:=h.tab.na
 have hnw:=h.tab.nw
 have hz:=hs.size
 have hzO:=hsO.size
 have HRN:=hide (readNode_cp O A tb ab wb rb ab0 wb0 x x k nn w h hsO rfl hxO (by omega) hn)
 have HHB:=hide (fun (w:World)=>hopBlock_any nn w hok)
 rw[←hr] at HHB
 have HIH:=hide hIH
 have hfd:=field_block0
 clear h hn hIH
 go_enter Tryz.func117,Tryz.ntmps117
 go_wp2_with fail
 refine HRN.out.mono ?_
 rintro e w1 ⟨rfl,hC1,hF1⟩
 have bn1:=heap_alloc_new w1 (.cells #[.int .u16 nn.routes,.int .u16 nn.ways,.int .i64 nn.hops,.int .i64 nn.children] 142)
 have HC1:=hide (hC1.ext (ext_alloc w1 (.cells #[.int .u16 nn.routes,.int .u16 nn.ways,.int .i64 nn.hops,.int .i64 nn.children] 142)))
 have hF1':=(fr_read hF1 (by simp):Fr [rb,ab,wb] w w1).alloc (.cells #[.int .u16 nn.routes,.int .u16 nn.ways,.int .i64 nn.hops,.int .i64 nn.children] 142)
 have hw1:=hF1.size
 obtain⟨nb,hnb⟩:∃nb,nb=w1.heap.size:=⟨_,rfl⟩
 rw[←hnb] at bn1 hw1
 have HNB:=hide hnb
 have HF1:=hide hF1'
 have HBN1:=hide bn1
 clear hC1 hF1 hF1' hnb bn1
 go_wp2_with fail
 refine(HHB.out _).mono ?_
 rintro e w2 ⟨rfl,hb2⟩
 have bn2:=block_ext HBN1.out hb2
 have HC2:=hide (HC1.out.ext hb2)
 have HF2:=hide (Fr.after HF1.out (fr_below (S:=[]) hb2) (fun y hy=>by cases hy):Fr [rb,ab,wb] w w2)
 have hl2:=lt_of_block bn2
 clear hb2
 obtain⟨wq,hwq⟩:∃wq,wq=w2.alloc (.cells #[.int .i64 (nn.hops:Int),.int .i64 (r:Int)] 172):=⟨_,rfl⟩
 have hBq:Below w2.heap.size w2 wq:=by rw[hwq];exact ext_alloc _ _
 obtain⟨b1,hb1⟩:∃b1,b1=w2.heap.size:=⟨_,rfl⟩
 have bb1:wq.heap[b1]?=some (.cells #[.int .i64 (nn.hops:Int),.int .i64 (r:Int)] 172 (0,0)):=by rw[hwq,hb1];exact heap_alloc_new _ _
 have bnq:=block_ext bn2 hBq
 have HCQ:=hide (HC2.out.ext hBq)
 have HFQ:=hide (Fr.after HF2.out (fr_below (S:=[]) hBq) (fun y hy=>by cases hy):Fr [rb,ab,wb] w wq)
 have HWQ:=hide hwq
 have HB1:=hide hb1
 rw[←hb1] at hl2
 have hwnb:w.heap.size≤nb:=by omega
 have hwb1:w.heap.size≤b1:=by omega
 have hnbt:tb≠nb:=by omega
 have hnba:ab≠nb:=by omega
 have hnbw:wb≠nb:=by omega
 have hnbr:rb≠nb:=by omega
 have hnba0:ab0≠nb:=by omega
 have hnbw0:wb0≠nb:=by omega
 have hb1n:b1≠nb:=by omega
 have hlb1:=lt_of_block bb1
 have hlnq:=lt_of_block bnq
 obtain⟨q0,q1,q2,q3⟩:=cells4n bn2
 rw[HNB.out] at q0 q1 q2 q3
 have hl2w:w1.heap.size<w2.heap.size:=by rw[←HNB.out,←HB1.out];exact hl2
 clear hwq hBq hb1 bn2
 have hn2ok:n2.ok:=by
  rw[hn2]
  refine⟨hok.1,hok.2.1,?_,?_⟩
  ·simp only
   have:=hok.2.2.1
   split <;> omega
  ·simp only
   have:=hok.2.2.2
   have h2:=hsH.top
   have h3:=hBs 0 (by omega)
   rw[hB0] at h3
   have h4:H.size=A.size:=h3
   split
   ·omega
   ·have h5:H.top≤A.size:=by omega
    have h6:H.top+2*c≤A.size:=hHt
    omega
 have hyE:y+1<E.size:=by
  rw[hE]
  have h3:=hBs 0 (by omega)
  rw[hB0] at h3
  have h4:H.size=A.size:=h3
  have h5:=hBs c (by omega)
  split <;> omega
 have hHs:H.size=A.size:=by
  have h3:=hBs 0 (by omega)
  rw[hB0] at h3
  exact h3
 by_cases hr0:r=0
 ·have hr0':(r:Int)≤0:=by omega
  rw[if_pos hr0] at hH hn2
  subst hH
  obtain⟨n1,hn1⟩:∃n1,n1=nn:=⟨_,rfl⟩
  rw[←hn1] at bnq
  have hn1ok:n1.ok:=by rw[hn1];exact hok
  have HCB:=hide (fun (w:World)=>childBlock_any nn w hok)
  rw[←hc] at HCB
  obtain⟨kq,hkq⟩:∃kq,kq=k+1:=⟨_,rfl⟩
  rw[←hkq] at HCQ
  have hkq':kq≤k+1+r:=by omega
  have HE1:=hide (show withKids n1 H.top={ nn with hops:=nn.hops,children:=H.top } by rw[hn1];rfl)
  have HE2:=hide (show n1={ nn with hops:=nn.hops,children:=nn.children } by rw[hn1])
  clear hkq hn1 HHB hr hc hr0
  go_wp2_with fail
  rw[←HWQ.out,←HNB.out]
  clear q0 q1 q2 q3
  refine(HCB.out _).mono ?_
  rintro e w5 ⟨rfl,hb5⟩
  have bn5:=block_ext bnq hb5
  have HC5:=hide (HCQ.out.ext hb5)
  have HF5:=hide (Fr.after HFQ.out (fr_below (S:=[]) hb5) (fun y hy=>by cases hy):Fr [rb,ab,wb] w w5)
  have hl5:=lt_of_block bn5
  clear hb5 bnq HCQ HFQ
  obtain⟨wz,hwz⟩:∃wz,wz=w5.alloc (.cells #[.int .i64 (nn.children:Int),.int .i64 (2*(c:Int))] 172):=⟨_,rfl⟩
  have hBz:Below w5.heap.size w5 wz:=(by rw[hwz];exact ext_alloc _ _)
  obtain⟨b2,hb2⟩:∃b2,b2=w5.heap.size:=⟨_,rfl⟩
  have bb2:wz.heap[b2]?=some (.cells #[.int .i64 (nn.children:Int),.int .i64 (2*(c:Int))] 172 (0,0)):=(by rw[hwz,hb2];exact heap_alloc_new _ _)
  have bnz:=block_ext bn5 hBz
  have HCZ:=hide (HC5.out.ext hBz)
  have HFZ:=hide (Fr.after HF5.out (fr_below (S:=[]) hBz) (fun y hy=>by cases hy):Fr [rb,ab,wb] w wz)
  have HWZ:=hide hwz
  have HB2:=hide hb2
  have hwb2:w.heap.size≤b2:=(by have:=HF5.out.size;omega)
  have hb2n:b2≠nb:=(by omega)
  obtain⟨q0,q1,q2,q3⟩:=cells4n bn5
  clear hwz hBz hb2 HC5 HF5
  by_cases hc0:c=0
  ·have hc0':(c:Int)≤0:=(by omega)
   rw[if_pos hc0] at hE hn2
   have e2:n1=n2:=HE2.out.trans hn2.symm
   rw[e2] at bnz bn5 q0 q1 q2 q3
   rw[←hE] at HCZ
   have hkE:kq≤k+1+r+sumTo c cost:=(by omega)
   clear hc0 hE hn2 e2
   go_wp2_with fail
   rw[←HWZ.out]
   clear q0 q1 q2 q3 bn5
   obtain⟨wq,hwq⟩:∃wq,wq=wz:=⟨_,rfl⟩
   subst hwq
   have bn5:=bnz
   have HC5:=HCZ
   have HF5:=HFZ
   have hnw1:nb ∉ [wb]:=(by simpa using hnbw.symm);have htw1:tb ∉ [wb]:=(by simpa using hnw);have HTW:=hide HC5.out.tab;have hltq:=HTW.out.lt;have hlnq:=lt_of_block bn5;have KS:∀w',Fr [wb] wq w'→(fun w':World=>Fr [wb] wq w'∧w'.cell? ⟨tb,0,none⟩=some (.pointer (some ⟨ab,0,none⟩))∧w'.cell? ⟨nb,0,none⟩=some (.int .u16 n2.routes)∧w'.cell? ⟨nb,1,none⟩=some (.int .u16 n2.ways)∧w'.cell? ⟨nb,2,none⟩=some (.int .i64 n2.hops)∧w'.cell? ⟨nb,3,none⟩=some (.int .i64 n2.children)) w':=fun w' hf=>⟨hf,HTW.out.frw hf htw1,cells4n (hf.at bn5 hnw1)⟩;simp only[] at KS;go_wp2_with fail;go_region_held3 (fun w':World=>Fr [wb] wq w'∧w'.cell? ⟨tb,0,none⟩=some (.pointer (some ⟨ab,0,none⟩))∧w'.cell? ⟨nb,0,none⟩=some (.int .u16 n2.routes)∧w'.cell? ⟨nb,1,none⟩=some (.int .u16 n2.ways)∧w'.cell? ⟨nb,2,none⟩=some (.int .i64 n2.hops)∧w'.cell? ⟨nb,3,none⟩=some (.int .i64 n2.children)) (with_reducible (first | assumption | exact KS _ (fr_below (drew_ext wq)) | exact KS _ (by assumption) | exact KS _ (fr_below (by assumption)) | exact KS _ (fr_below (ext_trans (by assumption) (ext_alloc _ _))) | exact KS _ (fr_below (Below.drew (ext_alloc _ _))) | exact KS _ (Fr.alloc (by assumption) _) | (refine KS _ (Fr.setCell (Fr.setCell (by assumption) (Or.inr ?_) _) (Or.inr ?_) _) <;> first | assumption | exact Nat.le_refl _))) ((go_at_call 121;refine(writeNode_any E ab wb _ y n2 _ HTW.out.ar.drew hn2ok rfl hyE).mono ?_;rintro e w8 ⟨rfl,hA8,hF8⟩;have F8:=(Fr.after (fr_below (drew_ext wq)) hF8 (fun y hy=>Or.inl hy):Fr [wb] wq w8);clear hF8));have HX:=hide (And.intro (HC5.out.ofw F8 (HTW.out.of F8 htw1 hA8)) (Fr.after HF5.out F8 (fun y hy=>Or.inl (by simp at hy ⊢;exact Or.inr (Or.inr hy))):Fr [rb,ab,wb] w w8));clear KS F8 hA8;go_wp2;go_end0;exact⟨rfl,_,hkE,HX.out.1,HX.out.2⟩
  ·have hc0':(0:Int)<c:=(by omega)
   rw[if_neg hc0] at hE hn2
   have e2:withKids n1 H.top=n2:=HE1.out.trans hn2.symm
   have HMK:=hide (fun (w:World) (h:TabAt w tb ab wb H)=>mustTake_any H tb ab wb (2*(c:Int)) (2*c) w h hsH hfH (by push_cast;rfl) (by omega) (by omega) (by omega))
   have hn2c:n2.children=H.top:=(by rw[←e2];rfl)
   have HI2:=hide (fun (j:Nat) (hj:j<c) (w':World) (kk:Nat) (hkk:kk≤k+1+r+sumTo j cost) (hC:Cp w' tb ab wb rb ab0 wb0 O (Bk j) kk)=>HIH.out j hj w' kk hkk hC)
   rw[←hn2c] at HI2
   clear hc0 hn2 hn2c
   go_wp2_with fail
   rw[←HWZ.out]
   refine(HMK.out _ HCZ.out.tab).mono ?_
   rintro e w6 ⟨rfl,hT6,hF6⟩
   have hns:nb ∉ [ab,wb]:=(by simp;omega)
   have hb2s:b2 ∉ [ab,wb]:=(by have:=lt_of_block bb2;simp;omega)
   have bn6:=hF6.at bnz hns
   have bb6:=hF6.at bb2 hb2s
   have hC6:=HCZ.out.of hF6 hT6
   have hF6':=(Fr.after HFZ.out hF6 (fun y hy=>Or.inl (by simp at hy ⊢;exact Or.inr hy)):Fr [rb,ab,wb] w w6)
   obtain⟨g0,g1,g2,g3,g4,g5,g6,g7⟩:=cells4 bn6
   have bn7:=block_kids (p:=H.top) bn6
   rw[e2] at bn7
   have bb7:=(Below.heap_setCell w6 ⟨nb,3,none⟩ (.int .i64 (H.top:Int)) b2 hb2n).trans bb6
   have hC7:=hC6.other (off:=3) (v:=.int .i64 (H.top:Int)) hnbt hnba hnbw hnbr hnba0 hnbw0
   rw[←hB0] at hC7
   have hF7:=hF6'.setCell (off:=3) (Or.inr hwnb) (.int .i64 (H.top:Int))
   have hl6:=lt_of_block bn6
   obtain⟨wy,hwy⟩:∃wy,wy=w6.setCell ⟨nb,3,none⟩ (.int .i64 (H.top:Int)):=⟨_,rfl⟩
   rw[←hwy] at bn7 bb7 hC7 hF7
   have HWY:=hide hwy
   have HX7:=hide (And.intro hC7 (And.intro bn7 (And.intro bb7 hF7)))
   clear hwy bn6 bb6 hC6 hT6 hF6 hF6' q0 q1 q2 q3 bnz bb2 hC7 bn7 bb7 hF7 bn5
   go_wp2_with fail
   rw[←HWY.out,←HB2.out]
   clear g0 g1 g2 g3 g4 g5 g6 g7
   go_loopw [11] (fun iv wr=>∃(j kk:Nat),iv=.int .i64 (2*(j:Int))∧j≤c∧kk≤k+1+r+sumTo j cost∧Cp wr tb ab wb rb ab0 wb0 O (Bk j) kk∧wr.heap[nb]?=some (.cells #[.int .u16 n2.routes,.int .u16 n2.ways,.int .i64 n2.hops,.int .i64 n2.children] 142 (0,0))∧wr.heap[b2]?=some (.cells #[.int .i64 (nn.children:Int),.int .i64 (2*(c:Int))] 172 (0,0))∧Fr [rb,ab,wb] w wr) (fun iv _=>2*c-(intOf iv).toNat)
   case atStart=>exact⟨0,kq,rfl,by omega,by rw[sumTo];omega,HX7.out⟩
   case round =>
    obtain⟨j,kk,rfl,hj,hkk,hC,bn,bb,hF⟩:=hrel
    obtain⟨k0,k1,k2,k3⟩:=cells2 bb
    obtain⟨g0,g1,g2,g3⟩:=cells4n bn
    have hln:=lt_of_block bn
    have hlb:=lt_of_block bb
    have HC:=hide hC
    have HF:=hide hF
    have HBN:=hide bn
    have HBB:=hide bb
    clear hC hF bn bb
    by_cases hjc:j<c
    ·have hjc':(2:Int)*j<2*c:=(by omega)
     have hch:=hok.2.2.2
     have hn2h:=hn2ok.2.2.2
     go_wp2_with fail
     refine(HI2.out j hjc _ kk hkk HC.out).mono ?_
     rintro e w9 ⟨rfl,kk',hkk',hC9,hF9⟩
     have hns3:nb ∉ [rb,ab,wb]:=(by simp;omega)
     have hb23:b2 ∉ [rb,ab,wb]:=(by simp;omega)
     have HX:=hide (And.intro hC9 (And.intro (hF9.at HBN.out hns3) (And.intro (hF9.at HBB.out hb23) (Fr.after HF.out hF9 (fun y hy=>Or.inl hy):Fr [rb,ab,wb] w w9))))
     clear hC9 hF9 k0 k1 k2 k3 g0 g1 g2 g3
     go_wp2
     go_roundw
     case rel=>exact⟨j+1,kk',congrArg (Value.int .i64) (by omega),by omega,by rw[sumTo];omega,HX.out⟩
     case measure=>simp[intOf];omega
    ·have hjc':j=c:=(by omega)
     subst hjc'
     rw[←hE] at HC
     have hkE:=hkk
     clear hkk hE hj
     go_wp2_with fail
     obtain⟨wq,hwq⟩:∃wq,wq=wr:=⟨_,rfl⟩
     subst hwq
     have bn5:=HBN.out
     have HC5:=HC
     have HF5:=HF
     clear k0 k1 k2 k3 g0 g1 g2 g3
     have hnw1:nb ∉ [wb]:=(by simpa using hnbw.symm);have htw1:tb ∉ [wb]:=(by simpa using hnw);have HTW:=hide HC5.out.tab;have hltq:=HTW.out.lt;have hlnq:=lt_of_block bn5;have KS:∀w',Fr [wb] wq w'→(fun w':World=>Fr [wb] wq w'∧w'.cell? ⟨tb,0,none⟩=some (.pointer (some ⟨ab,0,none⟩))∧w'.cell? ⟨nb,0,none⟩=some (.int .u16 n2.routes)∧w'.cell? ⟨nb,1,none⟩=some (.int .u16 n2.ways)∧w'.cell? ⟨nb,2,none⟩=some (.int .i64 n2.hops)∧w'.cell? ⟨nb,3,none⟩=some (.int .i64 n2.children)) w':=fun w' hf=>⟨hf,HTW.out.frw hf htw1,cells4n (hf.at bn5 hnw1)⟩;simp only[] at KS;go_wp2_with fail;go_region_held3 (fun w':World=>Fr [wb] wq w'∧w'.cell? ⟨tb,0,none⟩=some (.pointer (some ⟨ab,0,none⟩))∧w'.cell? ⟨nb,0,none⟩=some (.int .u16 n2.routes)∧w'.cell? ⟨nb,1,none⟩=some (.int .u16 n2.ways)∧w'.cell? ⟨nb,2,none⟩=some (.int .i64 n2.hops)∧w'.cell? ⟨nb,3,none⟩=some (.int .i64 n2.children)) (with_reducible (first | assumption | exact KS _ (fr_below (drew_ext wq)) | exact KS _ (by assumption) | exact KS _ (fr_below (by assumption)) | exact KS _ (fr_below (ext_trans (by assumption) (ext_alloc _ _))) | exact KS _ (fr_below (Below.drew (ext_alloc _ _))) | exact KS _ (Fr.alloc (by assumption) _) | (refine KS _ (Fr.setCell (Fr.setCell (by assumption) (Or.inr ?_) _) (Or.inr ?_) _) <;> first | assumption | exact Nat.le_refl _))) ((go_at_call 121;refine(writeNode_any E ab wb _ y n2 _ HTW.out.ar.drew hn2ok rfl hyE).mono ?_;rintro e w8 ⟨rfl,hA8,hF8⟩;have F8:=(Fr.after (fr_below (drew_ext wq)) hF8 (fun y hy=>Or.inl hy):Fr [wb] wq w8);clear hF8));have HX:=hide (And.intro (HC5.out.ofw F8 (HTW.out.of F8 htw1 hA8)) (Fr.after HF5.out F8 (fun y hy=>Or.inl (by simp at hy ⊢;exact Or.inr (Or.inr hy))):Fr [rb,ab,wb] w w8));clear KS F8 hA8;go_wp2;go_end0;exact⟨rfl,_,hkE,HX.out.1,HX.out.2⟩
 ·have hr0':(0:Int)<r:=by omega
  rw[if_neg hr0] at hH hn2
  have HMT:=hide (fun (w:World) (h:TabAt w tb ab wb A)=>mustTake_any A tb ab wb r r w h hs hfr rfl (by omega) (by omega) (by omega))
  obtain⟨n1,hn1⟩:∃n1,n1=withHops nn A.top:=⟨_,rfl⟩
  have hAt:A.top<65536:=by omega
  have hn1ok:n1.ok:=by rw[hn1];exact⟨hok.1,hok.2.1,hAt,hok.2.2.2⟩
  have HHB1:=hide (fun (w:World)=>hopBlock_any n1 w hn1ok)
  rw[show ones 16 n1.routes=r by rw[hn1,hr];rfl] at HHB1
  have HCW:=hide (fun (w:World) (h:Cp w tb ab wb rb ab0 wb0 O (A.bump r) (k+1))=>copyWords_any O (A.bump r) tb ab wb rb ab0 wb0 nn.hops A.top r (k+1) nn.hops n1.hops r w h rfl (by rw[hn1];rfl) rfl hhop (by show A.top+r≤A.size;omega) hzO hz (by omega))
  have hn1w:ones 16 n1.ways=c:=by rw[hn1,hc];rfl
  have hn1k:n1.children=nn.children:=by rw[hn1];rfl
  have HCB:=hide (fun (w:World)=>(childBlock_any n1 w hn1ok).mono (R':=fun e w'=>e=.returned (.agg #[.int .i64 (nn.children:Int),.int .i64 ((2*c:Nat):Int)])∧Below w.heap.size w w') (by rintro e w' ⟨rfl,hb⟩;exact⟨by rw[hn1w,hn1k],hb⟩))
  clear hn1w hn1k
  have HE1:=hide (show withKids n1 H.top={ nn with hops:=A.top,children:=H.top } by rw[hn1];rfl)
  have HE2:=hide (show n1={ nn with hops:=A.top,children:=nn.children } by rw[hn1];rfl)
  clear HHB hr hc
  go_wp2_with fail
  rw[←HWQ.out,←HNB.out]
  clear q0 q1 q2 q3
  refine(HMT.out _ HCQ.out.tab).mono ?_
  rintro e w3 ⟨rfl,hT3,hF3⟩
  have hns:nb ∉ [ab,wb]:=by simp;omega
  have hb1s:b1 ∉ [ab,wb]:=by simp;omega
  have bn3:=hF3.at bnq hns
  have bb3:=hF3.at bb1 hb1s
  have hC3:=HCQ.out.of hF3 hT3
  have hF3':=(Fr.after HFQ.out hF3 (fun y hy=>Or.inl (by simp at hy ⊢;exact Or.inr hy)):Fr [rb,ab,wb] w w3)
  obtain⟨g0,g1,g2,g3,g4,g5,g6,g7⟩:=cells4 bn3
  have bn4:=block_hops (p:=A.top) bn3
  rw[←hn1] at bn4
  have bb4:=(Below.heap_setCell w3 ⟨nb,2,none⟩ (.int .i64 (A.top:Int)) b1 hb1n).trans bb3
  have hC4:=hC3.other (off:=2) (v:=.int .i64 (A.top:Int)) hnbt hnba hnbw hnbr hnba0 hnbw0
  have hF4:=hF3'.setCell (off:=2) (Or.inr hwnb) (.int .i64 (A.top:Int))
  have hl3:=lt_of_block bn3
  obtain⟨wr,hwr⟩:∃wr,wr=w3.setCell ⟨nb,2,none⟩ (.int .i64 (A.top:Int)):=⟨_,rfl⟩
  rw[←hwr] at bn4 bb4 hC4 hF4
  have HWR:=hide hwr
  clear hwr bn3 bb3 hC3 hT3 hF3 hF3' bnq bb1 hn1
  go_wp2_with fail
  rw[←HWR.out,←HB1.out]
  clear g0 g1 g2 g3 g4 g5 g6 g7 HWQ HWR
  obtain⟨wq,hwq⟩:∃wz,wz=wr:=⟨_,rfl⟩
  subst hwq
  have hnrw:nb ∉ [rb,wb]:=by simp;omega
  have hbrw:b1 ∉ [rb,wb]:=by simp;omega
  have hlnq:=lt_of_block bn4
  have hlbq:=lt_of_block bb4
  have HC4:=hide hC4
  have HF4:=hide hF4
  have KS:∀w',Fr [rb,wb] wq w'→(fun w':World=>Fr [rb,wb] wq w'∧w'.cell? ⟨b1,0,none⟩=some (.int .i64 nn.hops)∧w'.cell? ⟨nb,0,none⟩=some (.int .u16 n1.routes)∧w'.cell? ⟨nb,1,none⟩=some (.int .u16 n1.ways)∧w'.cell? ⟨nb,2,none⟩=some (.int .i64 n1.hops)∧w'.cell? ⟨nb,3,none⟩=some (.int .i64 n1.children)) w':=fun w' hf=>⟨hf,(cells2 (hf.at bb4 hbrw)).1,cells4n (hf.at bn4 hnrw)⟩
  simp only[] at KS
  clear hC4 hF4
  go_region_held3 (fun w':World=>Fr [rb,wb] wq w'∧w'.cell? ⟨b1,0,none⟩=some (.int .i64 nn.hops)∧w'.cell? ⟨nb,0,none⟩=some (.int .u16 n1.routes)∧w'.cell? ⟨nb,1,none⟩=some (.int .u16 n1.ways)∧w'.cell? ⟨nb,2,none⟩=some (.int .i64 n1.hops)∧w'.cell? ⟨nb,3,none⟩=some (.int .i64 n1.children)) (with_reducible (first | assumption | exact KS _ (fr_below (drew_ext wq)) | exact KS _ (by assumption) | exact KS _ (fr_below (by assumption)) | exact KS _ (fr_below (ext_trans (by assumption) (ext_alloc _ _))) | exact KS _ (fr_below (Below.drew (ext_alloc _ _))) | exact KS _ (Fr.alloc (by assumption) _) | (refine KS _ (Fr.setCell (Fr.setCell (by assumption) (Or.inr ?_) _) (Or.inr ?_) _) <;> first | assumption | exact Nat.le_refl _))) (first | (go_at_call 110;refine(HHB1.out _).mono ?_;rintro e w5 ⟨rfl,hb5⟩;have S5:=(ext_trans (drew_ext wq) hb5:Below wq.heap.size wq w5);clear hb5) | (go_at_call 102;refine(HCW.out _ (HC4.out.ext S5)).mono ?_;rintro e w6 ⟨rfl,hC6,hF6⟩;have F6:=(Fr.after (fr_below S5) hF6 (fun y hy=>Or.inl hy):Fr [rb,wb] wq w6);clear hF6))
  have bnq:=F6.at bn4 hnrw
  have hFq:=(Fr.after HF4.out F6 (fun y hy=>Or.inl (by simp at hy ⊢;rcases hy with rfl | rfl <;> simp)):Fr [rb,ab,wb] w w6)
  have HFQ:=hide hFq
  have hHe:({ A.bump r with word:=fillW (A.bump r).word O.word A.top nn.hops r }:Ar)=H:=by rw[hH];rfl
  rw[hHe] at hC6
  obtain⟨kq,hkq⟩:∃kq,kq=k+1+r:=⟨_,rfl⟩
  rw[←hkq] at hC6
  have hkq':kq≤k+1+r:=by omega
  have HCQ:=hide hC6
  clear KS F6 hC6 hFq hHe hH hkq bn4 bb4 S5
  obtain⟨wq,hwq⟩:∃wz,wz=w6:=⟨_,rfl⟩
  subst hwq
  obtain⟨q0,q1,q2,q3⟩:=cells4n bnq
  have hlnq:=lt_of_block bnq
  go_wp2_with fail
  clear q0 q1 q2 q3
  refine(HCB.out _).mono ?_
  rintro e w5 ⟨rfl,hb5⟩
  have bn5:=block_ext bnq hb5
  have HC5:=hide (HCQ.out.ext hb5)
  have HF5:=hide (Fr.after HFQ.out (fr_below (S:=[]) hb5) (fun y hy=>by cases hy):Fr [rb,ab,wb] w w5)
  have hl5:=lt_of_block bn5
  clear hb5 bnq HCQ HFQ
  obtain⟨wz,hwz⟩:∃wz,wz=w5.alloc (.cells #[.int .i64 (nn.children:Int),.int .i64 (2*(c:Int))] 172):=⟨_,rfl⟩
  have hBz:Below w5.heap.size w5 wz:=(by rw[hwz];exact ext_alloc _ _)
  obtain⟨b2,hb2⟩:∃b2,b2=w5.heap.size:=⟨_,rfl⟩
  have bb2:wz.heap[b2]?=some (.cells #[.int .i64 (nn.children:Int),.int .i64 (2*(c:Int))] 172 (0,0)):=(by rw[hwz,hb2];exact heap_alloc_new _ _)
  have bnz:=block_ext bn5 hBz
  have HCZ:=hide (HC5.out.ext hBz)
  have HFZ:=hide (Fr.after HF5.out (fr_below (S:=[]) hBz) (fun y hy=>by cases hy):Fr [rb,ab,wb] w wz)
  have HWZ:=hide hwz
  have HB2:=hide hb2
  have hwb2:w.heap.size≤b2:=(by have:=HF5.out.size;omega)
  have hb2n:b2≠nb:=(by omega)
  obtain⟨q0,q1,q2,q3⟩:=cells4n bn5
  clear hwz hBz hb2 HC5 HF5
  by_cases hc0:c=0
  ·have hc0':(c:Int)≤0:=(by omega)
   rw[if_pos hc0] at hE hn2
   have e2:n1=n2:=HE2.out.trans hn2.symm
   rw[e2] at bnz bn5 q0 q1 q2 q3
   rw[←hE] at HCZ
   have hkE:kq≤k+1+r+sumTo c cost:=(by omega)
   clear hc0 hE hn2 e2
   go_wp2_with fail
   rw[←HWZ.out]
   clear q0 q1 q2 q3 bn5
   obtain⟨wq,hwq⟩:∃wq,wq=wz:=⟨_,rfl⟩
   subst hwq
   have bn5:=bnz
   have HC5:=HCZ
   have HF5:=HFZ
   have hnw1:nb ∉ [wb]:=(by simpa using hnbw.symm);have htw1:tb ∉ [wb]:=(by simpa using hnw);have HTW:=hide HC5.out.tab;have hltq:=HTW.out.lt;have hlnq:=lt_of_block bn5;have KS:∀w',Fr [wb] wq w'→(fun w':World=>Fr [wb] wq w'∧w'.cell? ⟨tb,0,none⟩=some (.pointer (some ⟨ab,0,none⟩))∧w'.cell? ⟨nb,0,none⟩=some (.int .u16 n2.routes)∧w'.cell? ⟨nb,1,none⟩=some (.int .u16 n2.ways)∧w'.cell? ⟨nb,2,none⟩=some (.int .i64 n2.hops)∧w'.cell? ⟨nb,3,none⟩=some (.int .i64 n2.children)) w':=fun w' hf=>⟨hf,HTW.out.frw hf htw1,cells4n (hf.at bn5 hnw1)⟩;simp only[] at KS;go_wp2_with fail;go_region_held3 (fun w':World=>Fr [wb] wq w'∧w'.cell? ⟨tb,0,none⟩=some (.pointer (some ⟨ab,0,none⟩))∧w'.cell? ⟨nb,0,none⟩=some (.int .u16 n2.routes)∧w'.cell? ⟨nb,1,none⟩=some (.int .u16 n2.ways)∧w'.cell? ⟨nb,2,none⟩=some (.int .i64 n2.hops)∧w'.cell? ⟨nb,3,none⟩=some (.int .i64 n2.children)) (with_reducible (first | assumption | exact KS _ (fr_below (drew_ext wq)) | exact KS _ (by assumption) | exact KS _ (fr_below (by assumption)) | exact KS _ (fr_below (ext_trans (by assumption) (ext_alloc _ _))) | exact KS _ (fr_below (Below.drew (ext_alloc _ _))) | exact KS _ (Fr.alloc (by assumption) _) | (refine KS _ (Fr.setCell (Fr.setCell (by assumption) (Or.inr ?_) _) (Or.inr ?_) _) <;> first | assumption | exact Nat.le_refl _))) ((go_at_call 121;refine(writeNode_any E ab wb _ y n2 _ HTW.out.ar.drew hn2ok rfl hyE).mono ?_;rintro e w8 ⟨rfl,hA8,hF8⟩;have F8:=(Fr.after (fr_below (drew_ext wq)) hF8 (fun y hy=>Or.inl hy):Fr [wb] wq w8);clear hF8));have HX:=hide (And.intro (HC5.out.ofw F8 (HTW.out.of F8 htw1 hA8)) (Fr.after HF5.out F8 (fun y hy=>Or.inl (by simp at hy ⊢;exact Or.inr (Or.inr hy))):Fr [rb,ab,wb] w w8));clear KS F8 hA8;go_wp2;go_end0;exact⟨rfl,_,hkE,HX.out.1,HX.out.2⟩
  ·have hc0':(0:Int)<c:=(by omega)
   rw[if_neg hc0] at hE hn2
   have e2:withKids n1 H.top=n2:=HE1.out.trans hn2.symm
   have HMK:=hide (fun (w:World) (h:TabAt w tb ab wb H)=>mustTake_any H tb ab wb (2*(c:Int)) (2*c) w h hsH hfH (by push_cast;rfl) (by omega) (by omega) (by omega))
   have hn2c:n2.children=H.top:=(by rw[←e2];rfl)
   have HI2:=hide (fun (j:Nat) (hj:j<c) (w':World) (kk:Nat) (hkk:kk≤k+1+r+sumTo j cost) (hC:Cp w' tb ab wb rb ab0 wb0 O (Bk j) kk)=>HIH.out j hj w' kk hkk hC)
   rw[←hn2c] at HI2
   clear hc0 hn2 hn2c
   go_wp2_with fail
   rw[←HWZ.out]
   refine(HMK.out _ HCZ.out.tab).mono ?_
   rintro e w6 ⟨rfl,hT6,hF6⟩
   have hns:nb ∉ [ab,wb]:=(by simp;omega)
   have hb2s:b2 ∉ [ab,wb]:=(by have:=lt_of_block bb2;simp;omega)
   have bn6:=hF6.at bnz hns
   have bb6:=hF6.at bb2 hb2s
   have hC6:=HCZ.out.of hF6 hT6
   have hF6':=(Fr.after HFZ.out hF6 (fun y hy=>Or.inl (by simp at hy ⊢;exact Or.inr hy)):Fr [rb,ab,wb] w w6)
   obtain⟨g0,g1,g2,g3,g4,g5,g6,g7⟩:=cells4 bn6
   have bn7:=block_kids (p:=H.top) bn6
   rw[e2] at bn7
   have bb7:=(Below.heap_setCell w6 ⟨nb,3,none⟩ (.int .i64 (H.top:Int)) b2 hb2n).trans bb6
   have hC7:=hC6.other (off:=3) (v:=.int .i64 (H.top:Int)) hnbt hnba hnbw hnbr hnba0 hnbw0
   rw[←hB0] at hC7
   have hF7:=hF6'.setCell (off:=3) (Or.inr hwnb) (.int .i64 (H.top:Int))
   have hl6:=lt_of_block bn6
   obtain⟨wy,hwy⟩:∃wy,wy=w6.setCell ⟨nb,3,none⟩ (.int .i64 (H.top:Int)):=⟨_,rfl⟩
   rw[←hwy] at bn7 bb7 hC7 hF7
   have HWY:=hide hwy
   have HX7:=hide (And.intro hC7 (And.intro bn7 (And.intro bb7 hF7)))
   clear hwy bn6 bb6 hC6 hT6 hF6 hF6' q0 q1 q2 q3 bnz bb2 hC7 bn7 bb7 hF7 bn5
   go_wp2_with fail
   rw[←HWY.out,←HB2.out]
   clear g0 g1 g2 g3 g4 g5 g6 g7
   go_loopw [11] (fun iv wr=>∃(j kk:Nat),iv=.int .i64 (2*(j:Int))∧j≤c∧kk≤k+1+r+sumTo j cost∧Cp wr tb ab wb rb ab0 wb0 O (Bk j) kk∧wr.heap[nb]?=some (.cells #[.int .u16 n2.routes,.int .u16 n2.ways,.int .i64 n2.hops,.int .i64 n2.children] 142 (0,0))∧wr.heap[b2]?=some (.cells #[.int .i64 (nn.children:Int),.int .i64 (2*(c:Int))] 172 (0,0))∧Fr [rb,ab,wb] w wr) (fun iv _=>2*c-(intOf iv).toNat)
   case atStart=>exact⟨0,kq,rfl,by omega,by rw[sumTo];omega,HX7.out⟩
   case round =>
    obtain⟨j,kk,rfl,hj,hkk,hC,bn,bb,hF⟩:=hrel
    obtain⟨k0,k1,k2,k3⟩:=cells2 bb
    obtain⟨g0,g1,g2,g3⟩:=cells4n bn
    have hln:=lt_of_block bn
    have hlb:=lt_of_block bb
    have HC:=hide hC
    have HF:=hide hF
    have HBN:=hide bn
    have HBB:=hide bb
    clear hC hF bn bb
    by_cases hjc:j<c
    ·have hjc':(2:Int)*j<2*c:=(by omega)
     have hch:=hok.2.2.2
     have hn2h:=hn2ok.2.2.2
     go_wp2_with fail
     refine(HI2.out j hjc _ kk hkk HC.out).mono ?_
     rintro e w9 ⟨rfl,kk',hkk',hC9,hF9⟩
     have hns3:nb ∉ [rb,ab,wb]:=(by simp;omega)
     have hb23:b2 ∉ [rb,ab,wb]:=(by simp;omega)
     have HX:=hide (And.intro hC9 (And.intro (hF9.at HBN.out hns3) (And.intro (hF9.at HBB.out hb23) (Fr.after HF.out hF9 (fun y hy=>Or.inl hy):Fr [rb,ab,wb] w w9))))
     clear hC9 hF9 k0 k1 k2 k3 g0 g1 g2 g3
     go_wp2
     go_roundw
     case rel=>exact⟨j+1,kk',congrArg (Value.int .i64) (by omega),by omega,by rw[sumTo];omega,HX.out⟩
     case measure=>simp[intOf];omega
    ·have hjc':j=c:=(by omega)
     subst hjc'
     rw[←hE] at HC
     have hkE:=hkk
     clear hkk hE hj
     go_wp2_with fail
     obtain⟨wq,hwq⟩:∃wq,wq=wr:=⟨_,rfl⟩
     subst hwq
     have bn5:=HBN.out
     have HC5:=HC
     have HF5:=HF
     clear k0 k1 k2 k3 g0 g1 g2 g3
     have hnw1:nb ∉ [wb]:=(by simpa using hnbw.symm);have htw1:tb ∉ [wb]:=(by simpa using hnw);have HTW:=hide HC5.out.tab;have hltq:=HTW.out.lt;have hlnq:=lt_of_block bn5;have KS:∀w',Fr [wb] wq w'→(fun w':World=>Fr [wb] wq w'∧w'.cell? ⟨tb,0,none⟩=some (.pointer (some ⟨ab,0,none⟩))∧w'.cell? ⟨nb,0,none⟩=some (.int .u16 n2.routes)∧w'.cell? ⟨nb,1,none⟩=some (.int .u16 n2.ways)∧w'.cell? ⟨nb,2,none⟩=some (.int .i64 n2.hops)∧w'.cell? ⟨nb,3,none⟩=some (.int .i64 n2.children)) w':=fun w' hf=>⟨hf,HTW.out.frw hf htw1,cells4n (hf.at bn5 hnw1)⟩;simp only[] at KS;go_wp2_with fail;go_region_held3 (fun w':World=>Fr [wb] wq w'∧w'.cell? ⟨tb,0,none⟩=some (.pointer (some ⟨ab,0,none⟩))∧w'.cell? ⟨nb,0,none⟩=some (.int .u16 n2.routes)∧w'.cell? ⟨nb,1,none⟩=some (.int .u16 n2.ways)∧w'.cell? ⟨nb,2,none⟩=some (.int .i64 n2.hops)∧w'.cell? ⟨nb,3,none⟩=some (.int .i64 n2.children)) (with_reducible (first | assumption | exact KS _ (fr_below (drew_ext wq)) | exact KS _ (by assumption) | exact KS _ (fr_below (by assumption)) | exact KS _ (fr_below (ext_trans (by assumption) (ext_alloc _ _))) | exact KS _ (fr_below (Below.drew (ext_alloc _ _))) | exact KS _ (Fr.alloc (by assumption) _) | (refine KS _ (Fr.setCell (Fr.setCell (by assumption) (Or.inr ?_) _) (Or.inr ?_) _) <;> first | assumption | exact Nat.le_refl _))) ((go_at_call 121;refine(writeNode_any E ab wb _ y n2 _ HTW.out.ar.drew hn2ok rfl hyE).mono ?_;rintro e w8 ⟨rfl,hA8,hF8⟩;have F8:=(Fr.after (fr_below (drew_ext wq)) hF8 (fun y hy=>Or.inl hy):Fr [wb] wq w8);clear hF8));have HX:=hide (And.intro (HC5.out.ofw F8 (HTW.out.of F8 htw1 hA8)) (Fr.after HF5.out F8 (fun y hy=>Or.inl (by simp at hy ⊢;exact Or.inr (Or.inr hy))):Fr [rb,ab,wb] w w8));clear KS F8 hA8;go_wp2;go_end0;exact⟨rfl,_,hkE,HX.out.1,HX.out.2⟩
end Go.Proofs.YtnapboelfimaaaaGreatDoor
namespace Go.Proofs.YtnapboelfimaaaaGreatDoor
structure Pk (A:Ar):Prop where
 fresh:A.fresh
 free:A.free=(A.size:Int)-A.top
 top:A.top≤A.size
 size:A.size≤65536
 wok:WOk A.word
theorem pk_new {n:Nat} (h1:1024≤n) (h2:n≤65536):Pk (newAr n):=⟨fun _ _ _=>rfl,rfl,h1,h2,fun a=>by show (0:Nat)<_;decide⟩
theorem Pk.bump {A:Ar} {n:Nat} (h:Pk A) (ht:A.top+n≤A.size):Pk (A.bump n):=⟨h.fresh,by show A.free-n=_;rw[h.free];show _=(A.size:Int)-((A.top+n:Nat):Int);omega,ht,h.size,h.wok⟩
theorem Pk.hops {A:Ar} {W:Nat→Nat} {x:Nat} (h:Pk A) (hW:WOk W) (ht:A.top+ones 16 (nodeAt W x).routes≤A.size):Pk (copyHops W A x):=by
 have f:=hops_facts W A x
 refine⟨fun s h1 h2=>by rw[f.2.2.1];exact h.fresh s h1 h2,?_,by rw[f.1,f.2.2.2.1];exact ht,by rw[f.2.2.2.1];exact h.size,copyHops_wok h.wok hW⟩
 rw[f.2.1,f.1,f.2.2.2.1,h.free]
 omega
theorem Pk.copied {W:Nat→Nat} {M:Tab} {A B:Ar} {d len u x y:Nat} (h:Pk A) (c:Copied W M A B d len u x y) (hw:WOk B.word) (ht:A.top+costW W d x≤A.size):Pk B:=by
 refine⟨fun s h1 h2=>by rw[c.given];exact h.fresh s h1 h2,?_,by rw[c.top,c.size];exact ht,by rw[c.size];exact h.size,hw⟩
 rw[c.free,c.top,c.size,h.free]
 omega
theorem Pk.put {A:Ar} {y:Nat} {n:NodeD} (h:Pk A) (hn:n.ok):Pk (A.putN y n):=⟨h.fresh,h.free,h.top,h.size,wok_put h.wok hn⟩
theorem Pk.setw {A:Ar} {W:Nat→Nat} (h:Pk A) (hW:WOk W):Pk ({ A with word:=W }:Ar):=⟨h.fresh,h.free,h.top,h.size,hW⟩
def kidB (W:Nat→Nat) (d:Nat) (H:Ar) (x j:Nat):Ar:=(List.range j).foldl (fun B k=>copyN W d B ((nodeAt W x).children+2*k) (H.top+2*k)) (H.bump (2*ones 16 (nodeAt W x).ways))
theorem kidB_succ (W:Nat→Nat) (d:Nat) (H:Ar) (x j:Nat):kidB W d H x (j+1)=copyN W d (kidB W d H x j) ((nodeAt W x).children+2*j) (H.top+2*j):=by
 unfold kidB
 rw[List.range_succ,List.foldl_append]
 rfl
theorem cost_kids (W:Nat→Nat) (d x:Nat):costW W (d+1) x=ones 16 (nodeAt W x).routes+2*ones 16 (nodeAt W x).ways+sumTo (ones 16 (nodeAt W x).ways) (fun k=>costW W d ((nodeAt W x).children+2*k)):=by
 rw[←sum_select (nodeAt W x).ways (fun k=>costW W d ((nodeAt W x).children+2*k)) 16]
 rfl
theorem kidB_facts {W:Nat→Nat} {M:Tab} {d len u x:Nat} {A:Ar} (hr:Rep W M (d+1) len u x) (hW:WOk W) (hA:Pk A) (ht:A.top+costW W (d+1) x≤A.size) :
  ∀j,j≤ones 16 (nodeAt W x).ways→Pk (kidB W d (copyHops W A x) x j)∧(kidB W d (copyHops W A x) x j).top=A.top+ones 16 (nodeAt W x).routes+2*ones 16 (nodeAt W x).ways+sumTo j (fun k=>costW W d ((nodeAt W x).children+2*k))∧(kidB W d (copyHops W A x) x j).size=A.size
 | 0,_=>by
  have f:=hops_facts W A x
  rw[cost_kids] at ht
  refine⟨(hA.hops hW (by omega)).bump (by rw[f.1,f.2.2.2.1];omega),?_,f.2.2.2.1⟩
  show (copyHops W A x).top+2*ones 16 (nodeAt W x).ways=_
  rw[f.1,sumTo]
  omega
 | j+1,hj=>by
  obtain⟨h1,h2,h3⟩:=kidB_facts hr hW hA ht j (by omega)
  obtain⟨f,hf,hb,hfj⟩:=select (w:=(nodeAt W x).ways) (k:=j) (n:=16) (by omega)
  have hk:=hr.2 f hf hb
  have hkid:(nodeAt W x).kid f=(nodeAt W x).children+2*j:=by unfold NodeD.kid;rw[hfj]
  rw[hkid] at hk
  have fH:=hops_facts W A x
  have hsz:=hA.size
  have hbelow:=sum_below (fun k=>costW W d ((nodeAt W x).children+2*k)) (q:=j) (k:=ones 16 (nodeAt W x).ways) (by omega)
  have hc:=cost_kids W d x
  have hy:(copyHops W A x).top+2*j+2≤(kidB W d (copyHops W A x) x j).top:=by rw[fH.1,h2];omega
  have htt:(kidB W d (copyHops W A x) x j).top+costW W d ((nodeAt W x).children+2*j)≤A.size:=by rw[h2];omega
  have c:=copy_ok d (len+4) (16*u+f) ((nodeAt W x).children+2*j) ((copyHops W A x).top+2*j) (kidB W d (copyHops W A x) x j) hk hy (by omega)
  have cw:=copyN_wok hW d (len+4) (16*u+f) ((nodeAt W x).children+2*j) ((copyHops W A x).top+2*j) (kidB W d (copyHops W A x) x j) hk hy (by omega) h1.wok
  rw[kidB_succ]
  refine⟨h1.copied c cw (by rw[h3];omega),?_,by rw[c.size];exact h3⟩
  rw[c.top,h2,sumTo]
  omega
end Go.Proofs.YtnapboelfimaaaaGreatDoor
namespace Go.Proofs.YtnapboelfimaaaaGreatDoor
open Go.RowKit Go.Deep
theorem Pk.sane {A:Ar} (h:Pk A):Sane A:=⟨h.size,h.top,fun s h1 h2=>Or.inl (h.fresh s h1 h2),h.wok,by have:=h.free;have:=h.top;omega,by have:=h.free;have:=h.size;omega⟩
theorem sum_one (n:Nat) (g:Nat→Nat):sumTo n (fun k=>1+g k)=n+sumTo n g:=by
 rw[sumTo_add,sumTo_const]
theorem copyNode_any {M:Tab} {tb ab wb rb ab0 wb0:Nat} (O:Ar) (hsO:Sane O):∀(d len u x y k:Nat) (A:Ar) (w:World),On O M d len u x→Cp w tb ab wb rb ab0 wb0 O A k→Pk A→y+2≤A.top→A.top+costW O.word d x≤A.size→k+1+costW O.word d x≤900000000 →
  Calls Tryz.prog 117 #[.pointer (some ⟨tb,0,none⟩),.pointer (some ⟨rb,0,none⟩),.int .i64 (x:Nat),.int .i64 (y:Nat)] w fun e w'=>e=.returned (.tuple #[])∧∃k',k'≤k+1+costW O.word d x∧Cp w' tb ab wb rb ab0 wb0 O (copyN O.word d A x y) k'∧Fr [rb,ab,wb] w w':=by
 intro d
 have hWO:WOk O.word:=hsO.word
 have step0:∀(d len u x y k:Nat) (A:Ar) (w:World),On O M d len u x→(nodeAt O.word x).ways=0→Cp w tb ab wb rb ab0 wb0 O A k→Pk A→y+2≤A.top→A.top+costW O.word d x≤A.size→k+1+costW O.word d x≤900000000 →
   Calls Tryz.prog 117 #[.pointer (some ⟨tb,0,none⟩),.pointer (some ⟨rb,0,none⟩),.int .i64 (x:Nat),.int .i64 (y:Nat)] w fun e w'=>e=.returned (.tuple #[])∧∃k',k'≤k+1+ones 16 (nodeAt O.word x).routes∧Cp w' tb ab wb rb ab0 wb0 O ((copyHops O.word A x).putN y (copiedNode O.word A x)) k'∧Fr [rb,ab,wb] w w':=by
  intro d len u x y k A w hO hw0 hC hA hy ht hk
  have hown:=own_cost O.word d x
  have hc:ones 16 (nodeAt O.word x).ways=0:=by rw[hw0];decide
  have hr16:=ones_le 16 (nodeAt O.word x).routes
  have fH:=hops_facts O.word A x
  have hH:=hA.hops (x:=x) hWO (by omega)
  have hlt:=hO.lt
  have key:=copyNode_step O A (copyHops O.word A x) (fun _=>(copyHops O.word A x).bump 0) (fun _=>0) tb ab wb rb ab0 wb0 x y (ones 16 (nodeAt O.word x).routes) 0 k (nodeAt O.word x) w hC hsO hlt.2 rfl hO.ok rfl hc.symm hA.sane hA.fresh (by omega) (by omega) hO.hops.1 (by omega) (copyHops O.word A x) (by rw[if_pos rfl]) (copiedNode O.word A x) (by
   unfold copiedNode
   simp only[hc,if_true]) rfl hH.sane hH.fresh (by rw[fH.1];omega) rfl (fun j _=>fH.2.2.2.1) (fun j hj=>by omega)
  refine key.mono ?_
  rintro e w' ⟨he,k',hk',hC',hF'⟩
  exact⟨he,k',by rw[sumTo] at hk';omega,hC',hF'⟩
 induction d with
 | zero =>
  intro len u x y k A w hO hC hA hy ht hk
  refine(step0 0 len u x y k A w hO hO.rep.2 hC hA hy ht hk).mono ?_
  rintro e w' ⟨he,k',hk',hC',hF'⟩
  have hown:=own_cost O.word 0 x
  exact⟨he,k',by omega,hC',hF'⟩
 | succ d ih =>
  intro len u x y k A w hO hC hA hy ht hk
  have hown:=own_cost O.word (d+1) x
  by_cases hc:ones 16 (nodeAt O.word x).ways=0
  ·have hw0:(nodeAt O.word x).ways=0:=by
    have hz:=ones_zero_iff hc
    exact nat_bits16 hO.ok.2.1 (by decide) (fun i hi=>by rw[hz i hi];simp)
   refine(step0 (d+1) len u x y k A w hO hw0 hC hA hy ht hk).mono ?_
   rintro e w' ⟨he,k',hk',hC',hF'⟩
   refine⟨he,k',by omega,?_,hF'⟩
   rw[copyN,if_pos hc]
   exact hC'
  ·have fH:=hops_facts O.word A x
   have hH:=hA.hops (x:=x) hWO (by omega)
   have hlt:=hO.lt
   have hr16:=ones_le 16 (nodeAt O.word x).routes
   have hc16:=ones_le 16 (nodeAt O.word x).ways
   have hck:=cost_kids O.word d x
   have hzA:=hA.size
   have kf:=kidB_facts hO.rep hWO hA ht
   have key:=copyNode_step O A (copyHops O.word A x) (kidB O.word d (copyHops O.word A x) x) (fun j=>1+costW O.word d ((nodeAt O.word x).children+2*j)) tb ab wb rb ab0 wb0 x y (ones 16 (nodeAt O.word x).routes) (ones 16 (nodeAt O.word x).ways) k (nodeAt O.word x) w hC hsO hlt.2 rfl hO.ok rfl rfl hA.sane hA.fresh (by omega) (by omega) hO.hops.1 (by omega) (kidB O.word d (copyHops O.word A x) x (ones 16 (nodeAt O.word x).ways)) (by rw[if_neg hc]) (copiedNode O.word A x) rfl rfl hH.sane hH.fresh (by rw[fH.1];omega) rfl (fun j hj=>(kf j hj).2.2) (by
    intro j hj w' kk hkk hCk
    obtain⟨h1,h2,h3⟩:=kf j (by omega)
    obtain⟨f,hf,hb,hfj⟩:=select (w:=(nodeAt O.word x).ways) (k:=j) (n:=16) hj
    have hOk:=hO.kid hf hb
    have hkid:(nodeAt O.word x).kid f=(nodeAt O.word x).children+2*j:=by unfold NodeD.kid;rw[hfj]
    rw[hkid] at hOk
    have hbelow:=sum_below (fun k=>costW O.word d ((nodeAt O.word x).children+2*k)) (q:=j) (k:=ones 16 (nodeAt O.word x).ways) hj
    have hsj:=sum_one j (fun k=>costW O.word d ((nodeAt O.word x).children+2*k))
    have:=ih (len+4) (16*u+f) ((nodeAt O.word x).children+2*j) ((copyHops O.word A x).top+2*j) kk _ w' hOk hCk h1 (by rw[fH.1,h2];omega) (by rw[h2,h3];omega) (by omega)
    rw[show ((nodeAt O.word x).children:Int)+2*(j:Int)=(((nodeAt O.word x).children+2*j:Nat):Int) by omega,show ((copyHops O.word A x).top:Int)+2*(j:Int)=(((copyHops O.word A x).top+2*j:Nat):Int) by omega]
    refine this.mono ?_
    rintro e w'' ⟨he,k',hk',hC',hF'⟩
    exact⟨he,k',by omega,by rw[kidB_succ];exact hC',hF'⟩)
   refine key.mono ?_
   rintro e w' ⟨he,k',hk',hC',hF'⟩
   have hs1:=sum_one (ones 16 (nodeAt O.word x).ways) (fun k=>costW O.word d ((nodeAt O.word x).children+2*k))
   refine⟨he,k',by omega,?_,hF'⟩
   rw[copyN,if_neg hc]
   exact hC'
end Go.Proofs.YtnapboelfimaaaaGreatDoor
namespace Go.Proofs.YtnapboelfimaaaaGreatDoor
open Go.RowKit Go.Deep
theorem pk_firsts {W:Nat→Nat} {M:Tab} {q:Bool} {A:Ar} (R:Root W M (rt q) (dp q)) (hW:WOk W) (hA:Pk A) (h1:1024≤A.top) (ht:A.top+costR W (rt q) (dp q)≤A.size) (b:Nat) (hb:b≤256):Pk (copyFirsts W q A b)∧(copyFirsts W q A b).top=A.top+sumTo b (cost1 W (rt q) (dp q))∧(copyFirsts W q A b).size=A.size:=by
 have hz:=hA.size
 have f:=firsts_ok R A h1 (by omega) b hb
 have hm:=sum_mono (cost1 W (rt q) (dp q)) hb
 have hc:costR W (rt q) (dp q)=sumTo 256 (cost1 W (rt q) (dp q)):=rfl
 refine⟨⟨fun s h1 h2=>by rw[f.given];exact hA.fresh s h1 h2,?_,by rw[f.top,f.size];omega,by rw[f.size];exact hz,copyFirsts_wok hW R A h1 (by omega) hA.wok b hb⟩,f.top,f.size⟩
 rw[f.free,f.top,f.size,hA.free]
 omega
theorem readFirst_cp (O A:Ar) (tb ab wb rb ab0 wb0:Nat) (x:Int) (p k nd sh:Nat) (w:World) (h:Cp w tb ab wb rb ab0 wb0 O A k) (hs:Sane O) (hx:x=p) (hp:p<O.size) (hk:k≤10000000000) (hnd:nd=O.word p%65536) (hsh:sh=O.word p/65536) (hsl:sh<256) :
  Calls Tryz.prog 56 #[.pointer (some ⟨rb,0,none⟩),.int .i64 x] w fun e w'=>e=.returned (.agg #[.int .i64 (nd:Int),.int .u8 (sh:Int)])∧Cp w' tb ab wb rb ab0 wb0 O A (k+1)∧Fr [rb] w w':=by
 subst hnd hsh
 refine(readFirst_any O ab0 wb0 rb x p k w h.old hs hx hp hsl h.rd (by omega) (by omega)).mono ?_
 rintro e w' ⟨rfl,hA,hr,hF⟩
 exact⟨rfl,h.read hF hA (by rw[show ((k+1:Nat):Int)=(k:Int)+1 by omega];exact hr),hF⟩
set_option maxHeartbeats 4000000 in
set_option maxRecDepth 10000 in
theorem copyFirsts_any (O A:Ar) (M:Tab) (q:Bool) (tb ab wb rb ab0 wb0 k:Nat) (x:Int) (w:World) (h:Cp w tb ab wb rb ab0 wb0 O A k) (hsO:Sane O) (hOs:1024≤O.size) (R:Root O.word M (rt q) (dp q)) (hOn:∀b,b<256→O.word (rt q+b)%65536≠0→On O M (dp q) 8 b (O.word (rt q+b)%65536)) (hA:Pk A) (h1:1024≤A.top) (ht:A.top+costR O.word (rt q) (dp q)≤A.size) (hx:x=rt q) (hk:k+1000000≤800000000) :
  Calls Tryz.prog 101 #[.pointer (some ⟨tb,0,none⟩),.pointer (some ⟨rb,0,none⟩),.int .i64 x] w fun e w'=>e=.returned (.tuple #[])∧∃k',k'≤k+256+costR O.word (rt q) (dp q)∧Cp w' tb ab wb rb ab0 wb0 O (copyFirsts O.word q A 256) k'∧Fr [rb,ab,wb] w w':=by
 have hrt:=rt_le q
 have hzA:=hA.size
 have pk:=pk_firsts R hsO.word hA h1 ht
 have hc:costR O.word (rt q) (dp q)=sumTo 256 (cost1 O.word (rt q) (dp q)):=rfl
 obtain⟨st,hst⟩:∃st,st=rt q:=⟨_,rfl⟩
 rw[←hst] at hx hrt
 subst hx
 have hst':(st:Int)≤512:=by omega
 have hra:=h.ra
 have hrw:=h.rw'
 have hrt2:=h.rt
 have hra0:=h.ra0
 have hrw0:=h.rw0
 have ne1:=h.n1
 have ne2:=h.n2
 have ne3:=h.n3
 have ne4:=h.n4
 have hla:=h.tab.ar.la
 have hlw:=h.tab.ar.lw
 have hlt:=h.tab.lt
 have hl0:=h.old.la
 have hlw0:=h.old.lw
 have hlr:=h.lr
 have hna:=h.tab.na
 have hnw:=h.tab.nw
 have htw1:tb ∉ [wb]:=by simpa using hnw
 have HC0:=hide h
 have HST:=hide hst
 clear h hst
 go_enter Tryz.func101,Tryz.ntmps101
 go_wp2_with fail
 go_loopw [6] (fun iv wr=>∃(b kk:Nat),iv=.int .i64 ((st:Int)+(b:Int))∧b≤256∧kk≤k+b+sumTo b (cost1 O.word (rt q) (dp q))∧Cp wr tb ab wb rb ab0 wb0 O (copyFirsts O.word q A b) kk∧Fr [rb,ab,wb] w wr) (fun iv _=>256-(intOf iv-(st:Int)).toNat)
 case atStart=>exact⟨0,k,congrArg (Value.int .i64) (by omega),by omega,by rw[sumTo];omega,HC0.out,Fr.refl _ _⟩
 case round =>
  obtain⟨b,kk,rfl,hb,hkk,hC,hF⟩:=hrel
  obtain⟨hPk,hTop,hSz⟩:=pk b hb
  have HC:=hide hC
  have HF:=hide hF
  have hwr:=hF.size
  clear hC hF
  by_cases hb2:b<256
  ·have hb3:(b:Int)<256:=by omega
   have hmono:=sum_mono (cost1 O.word (rt q) (dp q)) (show b+1≤256 by omega)
   have hsucc:=copyFirsts_succ O.word q A b
   have hmb:=sum_mono (cost1 O.word (rt q) (dp q)) (show b≤256 by omega)
   have hs1:sumTo (b+1) (cost1 O.word (rt q) (dp q))=sumTo b (cost1 O.word (rt q) (dp q))+cost1 O.word (rt q) (dp q) b:=rfl
   obtain⟨pl,hpl⟩:∃pl,pl=rt q+b:=⟨_,rfl⟩
   obtain⟨nd,hnd⟩:∃nd,nd=O.word pl%65536:=⟨_,rfl⟩
   obtain⟨sh,hsh⟩:∃sh,sh=O.word pl/65536:=⟨_,rfl⟩
   have hshl:sh<256:=by rw[hsh,hpl];exact R.lt b hb2
   have hndl:nd<65536:=by rw[hnd];exact Nat.mod_lt _ (by decide)
   have hstb:st+b=pl:=by rw[HST.out,hpl]
   obtain⟨Af,hAf⟩:∃Af,Af=copyFirsts O.word q A b:=⟨_,rfl⟩
   rw[←hAf] at HC hPk hTop hSz hsucc
   have HRF:=hide (fun (w:World) (h:Cp w tb ab wb rb ab0 wb0 O Af kk)=>readFirst_cp O Af tb ab wb rb ab0 wb0 ((st:Int)+(b:Int)) pl kk nd sh w h hsO (by omega) (by omega) (by omega) hnd hsh hshl)
   have hplA:pl<A.size:=by omega
   go_wp2_with fail
   refine(HRF.out _ HC.out).mono ?_
   rintro e w1 ⟨rfl,hC1,hF1⟩
   have HF1:=hide (Fr.after HF.out hF1 (fun y hy=>Or.inl (by simp at hy ⊢;exact Or.inl hy)):Fr [rb,ab,wb] w w1)
   have HC1:=hide hC1
   have hw1:=HF1.out.size
   have hw1b:=hC1.lr
   clear hC1 hF1
   by_cases hnd0:nd=0
   ·have hnd1:(nd:Int)≤0:=by omega
    obtain⟨p,hp⟩:∃p,p=nd:=⟨_,rfl⟩
    obtain⟨wq,hwq⟩:∃wq,wq=w1.alloc (.cells #[.int .i64 (nd:Int),.int .u8 (sh:Int)] 121):=⟨_,rfl⟩
    obtain⟨fb,hfb⟩:∃fb,fb=w1.heap.size:=⟨_,rfl⟩
    have bf:wq.heap[fb]?=some (.cells #[.int .i64 (p:Int),.int .u8 (sh:Int)] 121 (0,0)):=by rw[hwq,hfb,hp];exact heap_alloc_new _ _
    have hBq:Below w1.heap.size w1 wq:=by rw[hwq];exact ext_alloc _ _
    have HCQ:=hide (HC1.out.ext hBq)
    have HFQ:=hide (Fr.after HF1.out (fr_below (S:=[]) hBq) (fun y hy=>by cases hy):Fr [rb,ab,wb] w wq)
    have HTW:=hide HCQ.out.tab
    have hltq:=HTW.out.lt
    have hlfq:=lt_of_block bf
    have hfw:fb ∉ [wb]:=by simp;omega
    have HWQ:=hide hwq
    have HFB:=hide hfb
    have KS:∀w',Fr [wb] wq w'→(fun w':World=>Fr [wb] wq w'∧w'.cell? ⟨tb,0,none⟩=some (.pointer (some ⟨ab,0,none⟩))∧w'.cell? ⟨fb,0,none⟩=some (.int .i64 (p:Int))∧w'.cell? ⟨fb,1,none⟩=some (.int .u8 (sh:Int))) w':=fun w' hf=>⟨hf,HTW.out.frw hf htw1,(cells2 (hf.at bf hfw)).1,(cells2 (hf.at bf hfw)).2.1⟩
    simp only[] at KS
    have HE:=hide (show ({ Af with word:=setW Af.word pl (p+65536*sh) }:Ar)=copyFirsts O.word q A (b+1) by
     rw[hsucc,hp,hnd0,Nat.zero_add]
     unfold copyFirst1
     rw[←hpl,←hnd,if_pos hnd0,←hsh])
    have hkk2:kk+1≤k+(b+1)+sumTo (b+1) (cost1 O.word (rt q) (dp q)):=by rw[sumTo];omega
    have hpl65:p<65536:=by omega
    clear hwq hfb hBq hp hnd hsh hAf hsucc hnd0 hpl hTop
    go_wp2_with fail
    rw[←HWQ.out,←HFB.out]
    go_region_held3 (fun w':World=>Fr [wb] wq w'∧w'.cell? ⟨tb,0,none⟩=some (.pointer (some ⟨ab,0,none⟩))∧w'.cell? ⟨fb,0,none⟩=some (.int .i64 (p:Int))∧w'.cell? ⟨fb,1,none⟩=some (.int .u8 (sh:Int))) (with_reducible (first | assumption | exact KS _ (fr_below (drew_ext wq)) | exact KS _ (by assumption) | exact KS _ (fr_below (by assumption)) | exact KS _ (fr_below (ext_trans (by assumption) (ext_alloc _ _))) | exact KS _ (fr_below (Below.drew (ext_alloc _ _))) | exact KS _ (Fr.alloc (by assumption) _) | (refine KS _ (Fr.setCell (Fr.setCell (by assumption) (Or.inr ?_) _) (Or.inr ?_) _) <;> first | assumption | exact Nat.le_refl _))) ((go_at_call 118;refine(writeFirst_any Af ab wb ((st:Int)+(b:Int)) pl p sh _ HTW.out.ar.drew (by omega) hshl (by omega) (by omega)).mono ?_;rintro e w7 ⟨rfl,hA7,hF7⟩;have F7:=(Fr.after (fr_below (drew_ext wq)) hF7 (fun y hy=>Or.inl hy):Fr [wb] wq w7);clear hF7))
    have hT7:=HTW.out.of F7 htw1 hA7
    rw[HE.out] at hT7
    have HX:=hide (And.intro (HCQ.out.ofw F7 hT7) (Fr.after HFQ.out F7 (fun y hy=>Or.inl (by simp at hy ⊢;exact Or.inr (Or.inr hy))):Fr [rb,ab,wb] w w7))
    clear KS F7 hA7 hT7
    go_wp2
    go_roundw
    case rel=>exact⟨b+1,kk+1,congrArg (Value.int .i64) (by omega),by omega,hkk2,HX.out⟩
    case measure=>simp[intOf];omega
   ·have hnd1:(0:Int)<(nd:Int):=by omega
    have hcost:cost1 O.word (rt q) (dp q) b=2+costW O.word (dp q) nd:=by
     unfold cost1
     rw[←hpl,←hnd,if_neg hnd0]
    have hOnb:=hOn b hb2 (by rw[←hpl,←hnd];exact hnd0)
    rw[←hpl,←hnd] at hOnb
    have HMT:=hide (fun (w:World) (h:TabAt w tb ab wb Af)=>mustTake_any Af tb ab wb 2 2 w h hPk.sane hPk.fresh rfl (by omega) (by omega) (by omega))
    have hPk2:=hPk.bump (n:=2) (by omega)
    have HCN:=hide (fun (w:World) (h:Cp w tb ab wb rb ab0 wb0 O (Af.bump 2) (kk+1))=>copyNode_any (M:=M) O hsO (dp q) 8 b nd Af.top (kk+1) (Af.bump 2) w hOnb h hPk2 (Nat.le_refl _) (by show Af.top+2+costW O.word (dp q) nd≤Af.size;omega) (by omega))
    obtain⟨p,hp⟩:∃p,p=Af.top:=⟨_,rfl⟩
    rw[←hp] at HMT HCN
    have HE:=hide (show ({ copyN O.word (dp q) (Af.bump 2) nd p with word:=setW (copyN O.word (dp q) (Af.bump 2) nd p).word pl (p+65536*sh) }:Ar)=copyFirsts O.word q A (b+1) by
     rw[hsucc,hp]
     unfold copyFirst1
     rw[←hpl,←hnd,if_neg hnd0,←hsh])
    have hCs:(copyN O.word (dp q) (Af.bump 2) nd p).size=A.size:=by
     have:=(copy_ok (W:=O.word) (M:=M) (dp q) 8 b nd p (Af.bump 2) hOnb.rep (by rw[hp];exact Nat.le_refl _) (by show Af.top+2+costW O.word (dp q) nd≤65536;omega)).size
     rw[this]
     exact hSz
    obtain⟨C,hC⟩:∃C,C=copyN O.word (dp q) (Af.bump 2) nd p:=⟨_,rfl⟩
    rw[←hC] at HCN HE hCs
    have hpA:p<65536:=by omega
    have hkk2:∀k',k'≤kk+1+1+costW O.word (dp q) nd→k'≤k+(b+1)+sumTo (b+1) (cost1 O.word (rt q) (dp q)):=fun k' hk'=>by omega
    have hplC:pl<C.size:=by omega
    obtain⟨w2,hw2⟩:∃w2,w2=w1.alloc (.cells #[.int .i64 (nd:Int),.int .u8 (sh:Int)] 121):=⟨_,rfl⟩
    obtain⟨fb,hfb⟩:∃fb,fb=w1.heap.size:=⟨_,rfl⟩
    have bf:w2.heap[fb]?=some (.cells #[.int .i64 (nd:Int),.int .u8 (sh:Int)] 121 (0,0)):=by rw[hw2,hfb];exact heap_alloc_new _ _
    have hB2:Below w1.heap.size w1 w2:=by rw[hw2];exact ext_alloc _ _
    have HC2:=hide (HC1.out.ext hB2)
    have HF2:=hide (Fr.after HF1.out (fr_below (S:=[]) hB2) (fun y hy=>by cases hy):Fr [rb,ab,wb] w w2)
    have HW2:=hide hw2
    have HFB:=hide hfb
    have hlf2:=lt_of_block bf
    have hfs:fb ∉ [ab,wb]:=by simp;omega
    have hf3:fb ∉ [rb,ab,wb]:=by simp;omega
    have hfw:fb ∉ [wb]:=by simp;omega
    have hft:tb≠fb:=by omega
    have hfa:ab≠fb:=by omega
    have hfw0:wb≠fb:=by omega
    have hfr:rb≠fb:=by omega
    have hfa0:ab0≠fb:=by omega
    have hfw00:wb0≠fb:=by omega
    have hwfb:w.heap.size≤fb:=by omega
    clear hw2 hfb hB2 hnd hsh hAf hsucc hnd0 hpl hTop hC hp hcost hCs hPk2 hOnb
    go_wp2_with fail
    rw[←HW2.out,←HFB.out]
    refine(HMT.out _ HC2.out.tab).mono ?_
    rintro e w3 ⟨rfl,hT3,hF3⟩
    have bf3:=hF3.at bf hfs
    have bb3:=heap_alloc_new w3 (.cells #[.int .i64 (p:Int),.int .i64 2] 172)
    have hB4:=ext_alloc w3 (.cells #[.int .i64 (p:Int),.int .i64 2] 172)
    have HC3:=hide ((HC2.out.of hF3 hT3).ext hB4)
    have HF3:=hide ((Fr.after HF2.out hF3 (fun y hy=>Or.inl (by simp at hy ⊢;exact Or.inr hy)):Fr [rb,ab,wb] w w3).alloc (.cells #[.int .i64 (p:Int),.int .i64 2] 172))
    have bf4:=block_ext bf3 hB4
    have HBF4:=hide bf4
    have HBB3:=hide bb3
    have hlf3:=lt_of_block bf3
    obtain⟨k0,k1,k2,k3⟩:=cells2 bf3
    have hsz3:w.heap.size≤w3.heap.size:=by omega
    clear hT3 hF3 bf4 hB4 bb3 bf bf3
    go_wp2_with fail
    refine(HCN.out _ HC3.out).mono ?_
    rintro e w5 ⟨rfl,k',hk',hC5,hF5⟩
    have hb3:w3.heap.size ∉ [rb,ab,wb]:=by simp;omega
    have bf5:=hF5.at HBF4.out hf3
    have bb5:=hF5.at HBB3.out hb3
    obtain⟨g0,g1,g2,g3⟩:=cells2 bb5
    obtain⟨m0,m1,m2,m3⟩:=cells2 bf5
    have hF5':=(Fr.after HF3.out hF5 (fun y hy=>Or.inl hy):Fr [rb,ab,wb] w w5)
    have hl5:=lt_of_block bf5
    have hlb5:=lt_of_block bb5
    have bfq:=heap_setCell_at (off:=0) (.int .i64 (p:Int)) bf5
    have hCq:=hC5.other (off:=0) (v:=.int .i64 (p:Int)) hft hfa hfw0 hfr hfa0 hfw00
    have hFq:=hF5'.setCell (off:=0) (Or.inr hwfb) (.int .i64 (p:Int))
    obtain⟨wq,hwq⟩:∃wq,wq=w5.setCell ⟨fb,0,none⟩ (.int .i64 (p:Int)):=⟨_,rfl⟩
    rw[←hwq] at bfq hCq hFq
    have bf:wq.heap[fb]?=some (.cells #[.int .i64 (p:Int),.int .u8 (sh:Int)] 121 (0,0)):=bfq
    have HWQ:=hide hwq
    have HCQ:=hide hCq
    have HFQ:=hide hFq
    have HTW:=hide hCq.tab
    have hltq:=HTW.out.lt
    have hlfq:=lt_of_block bf
    have KS:∀w',Fr [wb] wq w'→(fun w':World=>Fr [wb] wq w'∧w'.cell? ⟨tb,0,none⟩=some (.pointer (some ⟨ab,0,none⟩))∧w'.cell? ⟨fb,0,none⟩=some (.int .i64 (p:Int))∧w'.cell? ⟨fb,1,none⟩=some (.int .u8 (sh:Int))) w':=fun w' hf=>⟨hf,HTW.out.frw hf htw1,(cells2 (hf.at bf hfw)).1,(cells2 (hf.at bf hfw)).2.1⟩
    simp only[] at KS
    clear hwq hC5 hF5 hF5' bf5 bb5 bfq hCq hFq k0 k1 k2 k3
    go_wp2_with fail
    rw[←HWQ.out]
    clear g0 g1 g2 g3 m0 m1 m2 m3
    go_region_held3 (fun w':World=>Fr [wb] wq w'∧w'.cell? ⟨tb,0,none⟩=some (.pointer (some ⟨ab,0,none⟩))∧w'.cell? ⟨fb,0,none⟩=some (.int .i64 (p:Int))∧w'.cell? ⟨fb,1,none⟩=some (.int .u8 (sh:Int))) (with_reducible (first | assumption | exact KS _ (fr_below (drew_ext wq)) | exact KS _ (by assumption) | exact KS _ (fr_below (by assumption)) | exact KS _ (fr_below (ext_trans (by assumption) (ext_alloc _ _))) | exact KS _ (fr_below (Below.drew (ext_alloc _ _))) | exact KS _ (Fr.alloc (by assumption) _) | (refine KS _ (Fr.setCell (Fr.setCell (by assumption) (Or.inr ?_) _) (Or.inr ?_) _) <;> first | assumption | exact Nat.le_refl _))) ((go_at_call 118;refine(writeFirst_any C ab wb ((st:Int)+(b:Int)) pl p sh _ HTW.out.ar.drew hpA hshl (by omega) hplC).mono ?_;rintro e w7 ⟨rfl,hA7,hF7⟩;have F7:=(Fr.after (fr_below (drew_ext wq)) hF7 (fun y hy=>Or.inl hy):Fr [wb] wq w7);clear hF7))
    have hT7:=HTW.out.of F7 htw1 hA7
    rw[HE.out] at hT7
    have HX:=hide (And.intro (HCQ.out.ofw F7 hT7) (Fr.after HFQ.out F7 (fun y hy=>Or.inl (by simp at hy ⊢;exact Or.inr (Or.inr hy))):Fr [rb,ab,wb] w w7))
    have hk2:=hkk2 k' hk'
    clear KS F7 hA7 hT7
    go_wp2
    go_roundw
    case rel=>exact⟨b+1,k',congrArg (Value.int .i64) (by omega),by omega,hk2,HX.out⟩
    case measure=>simp[intOf];omega
  ·have hb4:b=256:=by omega
   subst hb4
   go_wp2
   go_end0
   exact⟨rfl,kk,by omega,HC.out,HF.out⟩
end Go.Proofs.YtnapboelfimaaaaGreatDoor
