/- ChaM, PuR, PuG, Ins: parts of the proof, one behind the other. -/
import Derived.Test.YtnapboelfimaaaaGreatDoorB12
import Derived.Test.YtnapboelfimaaaaGreatDoorB17
import Derived.Test.YtnapboelfimaaaaGreatDoorB24
namespace Go.Proofs.YtnapboelfimaaaaGreatDoor
theorem chain_facts {A B:Ar} {F:Nat→List Nat} {M:Tab} {L m l v h len:Nat} {n:NodeD} (hA:Good A F m) (hT:TabOk L M) (hL:L≤128) (hh:h<4294967296) (hl:l≤128) (h1:len≤l) (hany:anyBelow M len (v/2^(l-len))=false) (ec:chainN l v h ((l-len)/4) len A=(B,some n)) :
  ∃F',Good B F' (m+2*((l-len)/4)+1)∧n.ok∧(∀a,A.frees F a=0→B.word a=A.word a)∧B.size=A.size∧∀(M2:Tab) (d len2 u y:Nat),OnF A F M2 d len2 u y→OnF B F' M2 d len2 u y∧nodeAt B.word y=nodeAt A.word y:=by
 have hp:pnum l v (len+4*((l-len)/4))<15:=pnum_lt (by omega) (by omega)
 have hs:=single_new (l:=l) (v:=v) (h:=h) hT hL hany
 obtain⟨⟨F2,k1⟩,k2⟩:=chainN_good (l:=l) (v:=v) (h:=h) (s:=(l-len)/4) (len:=len) hA hh hp
 rcases chainN_ok (h:=h) (d:=0) (live:=edge A) hl (fun a ha=>by have:=hA.ok.size;rw[edge_high (by omega)];omega) hA.ok (by have:=hA.top;omega) hs (show len+4*((l-len)/4)≤l by omega) (by omega) (fun a=>by
  unfold edge
  split
  ·rename_i h;rw[hA.out a h];omega
  ·have:=hA.ok.apart a;omega) with ⟨c1,_⟩ | ⟨B',n',F',tk,c1,C,_⟩
 ·rw[ec] at c1;cases c1
 ·rw[ec] at c1
  simp only[Prod.mk.injEq,Option.some.injEq] at c1
  obtain⟨e1,e2⟩:=c1
  subst e1 e2
  rw[ec] at k1 k2
  have k3:Good B F' (m+2*((l-len)/4)+1):=by
   refine⟨C.ok,k1.wok,?_,k1.top,k1.lo,k1.hi⟩
   intro a ha
   have e1:=C.frees a
   rw[C.size] at ha
   have e2:=hA.out a ha
   omega
  exact⟨F',k3,k2 n rfl,C.word,C.size,fun M2 d len2 u y hO=>hO.chained C⟩
end Go.Proofs.YtnapboelfimaaaaGreatDoor
namespace Go.Proofs.YtnapboelfimaaaaGreatDoor
open Go.RowKit Go.Deep
def afterChain (B:Ar) (o:Option NodeD) (g:NodeD→Ar × Bool):Ar × Bool:=match o with | none=>(B,false) | some n=>g n
set_option maxHeartbeats 2000000 in
set_option maxRecDepth 10000 in
theorem put_none (A B:Ar) (F:Nat→List Nat) (M:Bool→Tab) (tb ab wb:Nat) (f:Int) (q:Bool) (K l hop:Nat) (w:World) (h:TabAt w tb ab wb A) (hI:Inv A F M) (hw:WOk A.word) (hq:q=decide (f=6)) (hK:K<2^136) (h8:8≤l) (hl:l≤8+4*dp q) (hhop:hop<65536) (h0:A.word (rt q+kbyte K 0)%65536=0) (o:Option NodeD) (hc:chainN l (fitK K l) hop ((l-8)/4) 8 A=(B,o)) (R:Ar × Bool) (hR:afterChain B o (putFirstN B (rt q+kbyte K 0))=R):Calls Tryz.prog 99 #[.pointer (some ⟨tb,0,none⟩),.int .i64 f,.agg (prefL K l).toArray,.int .i64 (hop:Nat)] w fun e w'=>e=.returned (.bool R.2)∧TabAt w' tb ab wb R.1∧Fr [ab,wb] w w':=by
 have hd:=dp_le q
 have hG:=hI.good hw
 have hs:=hG.sane (by omega)
 have hk0:=kbyte_lt K 0
 have hr:=rt_le q
 have hsz:=hI.size
 have HDE:=hide (fun (w:World) (h:TabAt w tb ab wb A)=>deepest_none A F M tb ab wb f q K l w h hs hI hq h0)
 have HDP:=hide (fun (w:World)=>depth_any K l w (by omega) h8)
 have HCH:=hide (fun (w:World) (h:TabAt w tb ab wb A)=>chain_any A B F 0 tb ab wb K l 0 ((l-8)/4) hop 0 hop o w h hG (by omega) h8 (by omega) rfl rfl (by omega) hhop hc)
 obtain⟨s,hsd⟩:∃s,s=(l-8)/4:=⟨_,rfl⟩
 rw[←hsd] at HDP
 have hna:=h.na
 have hnw:=h.nw
 have hla:=h.ar.la
 have hlw:=h.ar.lw
 have hlt:=h.lt
 obtain⟨wx,hwx⟩:∃wx,wx=w.alloc (.cells (prefL K l).toArray 128):=⟨_,rfl⟩
 have bp:wx.heap[w.heap.size]?=some (.cells (prefL K l).toArray 128 (0,0)):=by rw[hwx];exact heap_alloc_new _ _
 have HBX:Below w.heap.size w wx:=by rw[hwx];exact ext_alloc _ _
 have HT:=hide (h.ext HBX)
 have HBX:=hide HBX
 have HWX:=hide hwx
 have hsx:=lt_of_block bp
 have hpw:w.heap.size ∉ [ab,wb]:=by simp;omega
 have htw:tb ∉ [ab,wb]:=by simp;omega
 have hs0:((-1:Int)==(s:Int))=false:=by simp
 cases o with
 | none =>
  simp only[afterChain] at hR
  subst hR
  clear h hq hwx h0 hc hI hsd
  go_enter Tryz.func99,Tryz.ntmps99
  go_wp2_with (first | rw[←HWX.out] | (show wpList _ _ _ (⟨_,.load 128 _,_,_,_,_⟩ :: _) _ _;refine wpList_load_whole rfl 128 _ rfl w.heap.size rfl (prefL K l) _ 128 (0,0) (by assumption) Tryz.underlying128 rfl (pref_info K l) ?_) | fail)
  refine(HDE.out _ HT.out).mono ?_
  rintro e w1 ⟨rfl,hb1⟩
  have bp1:=block_ext bp hb1
  have HT1:=hide (HT.out.ext hb1)
  have HB1:=hide (ext_trans HBX.out hb1)
  clear hb1
  go_wp2_with (show wpList _ _ _ (⟨_,.load 128 _,_,_,_,_⟩ :: _) _ _;refine wpList_load_whole rfl 128 _ rfl w.heap.size rfl (prefL K l) _ 128 (0,0) (by assumption) Tryz.underlying128 rfl (pref_info K l) ?_)
  refine(HDP.out _).mono ?_
  rintro e w2 ⟨rfl,hb2⟩
  have bp2:=block_ext bp1 hb2
  have HT2:=hide (HT1.out.ext hb2)
  have HB2:=hide (ext_trans HB1.out hb2)
  clear hb2 bp1
  go_wp2_with (show wpList _ _ _ (⟨_,.load 128 _,_,_,_,_⟩ :: _) _ _;refine wpList_load_whole rfl 128 _ rfl w.heap.size rfl (prefL K l) _ 128 (0,0) (by assumption) Tryz.underlying128 rfl (pref_info K l) ?_)
  refine(HCH.out _ HT2.out).mono ?_
  rintro e w3 ⟨rfl,hT3,hF3⟩
  have HX:=hide (And.intro hT3 (Fr.after (fr_below HB2.out) hF3 (fun y hy=>Or.inl hy):Fr [ab,wb] w w3))
  clear hT3 hF3
  simp only[chainVal]
  go_wp2
  go_ret
  exact⟨rfl,HX.out.1.ext (ext_alloc _ _),HX.out.2.alloc _⟩
 | some nn =>
  simp only[afterChain] at hR
  have hany:anyBelow (M q) 8 (fitK K l/2^(l-8))=false:=by rw[byte_fit hK h8 (by omega)];exact((hI.root q).node _ hk0).1 h0
  obtain⟨F',hGB,hnok,hwd,hBs,_⟩:=chain_facts hG (hI.tab q) (by omega) (by omega) (by omega) h8 hany hc
  have hwd2:=hwd (rt q+kbyte K 0) (hG.out _ (Or.inl (by omega)))
  have HPF:=hide (fun (w:World) (h:TabAt w tb ab wb B)=>putFirst_any B F' _ tb ab wb (kbyte K 0) f q nn w h hGB (by omega) hq hk0 (by omega) (by rw[hwd2];exact(hI.root q).lt _ hk0) hnok R hR)
  clear h hq hwx h0 hc hI hany hGB hwd hwd2 hsd hR
  go_enter Tryz.func99,Tryz.ntmps99
  go_wp2_with (first | rw[←HWX.out] | (show wpList _ _ _ (⟨_,.load 128 _,_,_,_,_⟩ :: _) _ _;refine wpList_load_whole rfl 128 _ rfl w.heap.size rfl (prefL K l) _ 128 (0,0) (by assumption) Tryz.underlying128 rfl (pref_info K l) ?_) | fail)
  refine(HDE.out _ HT.out).mono ?_
  rintro e w1 ⟨rfl,hb1⟩
  have bp1:=block_ext bp hb1
  have HT1:=hide (HT.out.ext hb1)
  have HB1:=hide (ext_trans HBX.out hb1)
  clear hb1
  go_wp2_with (show wpList _ _ _ (⟨_,.load 128 _,_,_,_,_⟩ :: _) _ _;refine wpList_load_whole rfl 128 _ rfl w.heap.size rfl (prefL K l) _ 128 (0,0) (by assumption) Tryz.underlying128 rfl (pref_info K l) ?_)
  refine(HDP.out _).mono ?_
  rintro e w2 ⟨rfl,hb2⟩
  have bp2:=block_ext bp1 hb2
  have HT2:=hide (HT1.out.ext hb2)
  have HB2:=hide (ext_trans HB1.out hb2)
  clear hb2 bp1
  go_wp2_with (show wpList _ _ _ (⟨_,.load 128 _,_,_,_,_⟩ :: _) _ _;refine wpList_load_whole rfl 128 _ rfl w.heap.size rfl (prefL K l) _ 128 (0,0) (by assumption) Tryz.underlying128 rfl (pref_info K l) ?_)
  refine(HCH.out _ HT2.out).mono ?_
  rintro e w3 ⟨rfl,hT3,hF3⟩
  have bp3:=hF3.at bp2 hpw
  have d0:=pref_at K l bp3 0 (by omega)
  have hl3:=lt_of_block bp3
  have HT3:=hide hT3
  have HF3:=hide (Fr.after (fr_below HB2.out) hF3 (fun y hy=>Or.inl hy):Fr [ab,wb] w w3)
  clear hT3 hF3 bp2
  simp only[chainVal]
  go_wp2_with fail
  refine(HPF.out _ (HT3.out.ext (ext_alloc _ _))).mono ?_
  rintro e w4 ⟨rfl,hT4,hF4⟩
  have HX:=hide (And.intro hT4 (Fr.after (HF3.out.alloc _) hF4 (fun y hy=>Or.inl hy):Fr [ab,wb] w w4))
  clear hT4 hF4
  go_wp2
  go_ret
  exact⟨rfl,HX.out.1,HX.out.2⟩
set_option maxHeartbeats 2000000 in
set_option maxRecDepth 10000 in
theorem put_hop (A:Ar) (F:Nat→List Nat) (M:Bool→Tab) (tb ab wb:Nat) (f:Int) (q:Bool) (K l hop y T d2 u:Nat) (w:World) (h:TabAt w tb ab wb A) (hI:Inv A F M) (hw:WOk A.word) (hq:q=decide (f=6)) (hK:K<2^136) (h8:8≤l) (hl:l≤8+4*dp q) (hhop:hop<65536) (h0:A.word (rt q+kbyte K 0)%65536≠0) (hr:reach A.word l (fitK K l) ((l-8)/4) 8 (A.word (rt q+kbyte K 0)%65536)=(y,8+4*T)) (hT:T=(l-8)/4) (hO:OnF A F (M q) d2 (8+4*T) u y) (R:Ar × Bool) (hR:putHopN l (fitK K l) hop (8+4*T) A y=R):Calls Tryz.prog 99 #[.pointer (some ⟨tb,0,none⟩),.int .i64 f,.agg (prefL K l).toArray,.int .i64 (hop:Nat)] w fun e w'=>e=.returned (.bool R.2)∧TabAt w' tb ab wb R.1∧Fr [ab,wb] w w':=by
 have hd:=dp_le q
 have hG:=hI.good hw
 have hs:=hG.sane (by omega)
 have HDE:=hide (fun (w:World) (h:TabAt w tb ab wb A)=>deepest_some A F M tb ab wb f q K l _ y T w h hs hI hq hK h8 hl rfl h0 hr)
 have HDP:=hide (fun (w:World)=>depth_any K l w (by omega) h8)
 rw[←hT] at HDP
 have HNU:=hide (fun (w:World)=>number_any K l w (by omega) h8)
 have hnp:numK K l=pnum l (fitK K l) (8+4*T):=by rw[hT];exact numK_pnum h8 (by omega)
 obtain⟨nk,hnk⟩:∃nk,nk=numK K l:=⟨_,rfl⟩
 rw[←hnk] at HNU hnp
 have HPH:=hide (fun (w:World) (h:TabAt w tb ab wb A)=>putHop_any A F (M q) 0 tb ab wb d2 (8+4*T) u y l (fitK K l) hop y nk hop w h hG (by omega) hO rfl (by rw[hnp]) rfl (by omega) (by omega) hhop R hR)
 have hna:=h.na
 have hnw:=h.nw
 have hla:=h.ar.la
 have hlw:=h.ar.lw
 have hlt:=h.lt
 obtain⟨wx,hwx⟩:∃wx,wx=w.alloc (.cells (prefL K l).toArray 128):=⟨_,rfl⟩
 have bp:wx.heap[w.heap.size]?=some (.cells (prefL K l).toArray 128 (0,0)):=by rw[hwx];exact heap_alloc_new _ _
 have HBX:Below w.heap.size w wx:=by rw[hwx];exact ext_alloc _ _
 have HT:=hide (h.ext HBX)
 have HBX:=hide HBX
 have HWX:=hide hwx
 have hsx:=lt_of_block bp
 clear h hq hwx h0 hI hr hT hR hnk hnp hO
 go_enter Tryz.func99,Tryz.ntmps99
 go_wp2_with (first | rw[←HWX.out] | (show wpList _ _ _ (⟨_,.load 128 _,_,_,_,_⟩ :: _) _ _;refine wpList_load_whole rfl 128 _ rfl w.heap.size rfl (prefL K l) _ 128 (0,0) (by assumption) Tryz.underlying128 rfl (pref_info K l) ?_) | fail)
 refine(HDE.out _ HT.out).mono ?_
 rintro e w1 ⟨rfl,hb1⟩
 have bp1:=block_ext bp hb1
 have HT1:=hide (HT.out.ext hb1)
 have HB1:=hide (ext_trans HBX.out hb1)
 clear hb1
 go_wp2_with (show wpList _ _ _ (⟨_,.load 128 _,_,_,_,_⟩ :: _) _ _;refine wpList_load_whole rfl 128 _ rfl w.heap.size rfl (prefL K l) _ 128 (0,0) (by assumption) Tryz.underlying128 rfl (pref_info K l) ?_)
 refine(HDP.out _).mono ?_
 rintro e w2 ⟨rfl,hb2⟩
 have bp2:=block_ext bp1 hb2
 have HT2:=hide (HT1.out.ext hb2)
 have HB2:=hide (ext_trans HB1.out hb2)
 clear hb2 bp1
 go_wp2_with (show wpList _ _ _ (⟨_,.load 128 _,_,_,_,_⟩ :: _) _ _;refine wpList_load_whole rfl 128 _ rfl w.heap.size rfl (prefL K l) _ 128 (0,0) (by assumption) Tryz.underlying128 rfl (pref_info K l) ?_)
 refine(HNU.out _).mono ?_
 rintro e w3 ⟨rfl,hb3⟩
 have HT3:=hide (HT2.out.ext hb3)
 have HB3:=hide (ext_trans HB2.out hb3)
 clear hb3 bp2
 go_wp2_with fail
 refine(HPH.out _ HT3.out).mono ?_
 rintro e w4 ⟨rfl,hT4,hF4⟩
 have HX:=hide (And.intro hT4 (Fr.after (fr_below HB3.out) hF4 (fun y hy=>Or.inl hy):Fr [ab,wb] w w4))
 clear hT4 hF4
 go_wp2
 go_ret
 exact⟨rfl,HX.out.1,HX.out.2⟩
set_option maxHeartbeats 4000000 in
set_option maxRecDepth 10000 in
theorem put_kid (A B:Ar) (F:Nat→List Nat) (M:Bool→Tab) (tb ab wb:Nat) (f:Int) (q:Bool) (K l hop y T d2 u:Nat) (w:World) (h:TabAt w tb ab wb A) (hI:Inv A F M) (hw:WOk A.word) (hq:q=decide (f=6)) (hK:K<2^136) (h8:8≤l) (hl:l≤8+4*dp q) (hhop:hop<65536) (h0:A.word (rt q+kbyte K 0)%65536≠0) (hr:reach A.word l (fitK K l) ((l-8)/4) 8 (A.word (rt q+kbyte K 0)%65536)=(y,8+4*T)) (hT:T<(l-8)/4) (hO:OnF A F (M q) d2 (8+4*T) u y) (hu:u=fitK K l/2^(l-(8+4*T)))
  (hbit:(nodeAt A.word y).ways.testBit (fourV l (fitK K l) (8+4*T))=false) (o:Option NodeD) (hc:chainN l (fitK K l) hop ((l-(8+4*T+4))/4) (8+4*T+4) A=(B,o)) (R:Ar × Bool) (hR:afterChain B o (putKidN (fourV l (fitK K l) (8+4*T)) B y)=R):Calls Tryz.prog 99 #[.pointer (some ⟨tb,0,none⟩),.int .i64 f,.agg (prefL K l).toArray,.int .i64 (hop:Nat)] w fun e w'=>e=.returned (.bool R.2)∧TabAt w' tb ab wb R.1∧Fr [ab,wb] w w':=by
 have hd:=dp_le q
 have hG:=hI.good hw
 have hs:=hG.sane (by omega)
 have hylt:=hO.on.lt
 have HDE:=hide (fun (w:World) (h:TabAt w tb ab wb A)=>deepest_some A F M tb ab wb f q K l _ y T w h hs hI hq hK h8 hl rfl h0 hr)
 have HDP:=hide (fun (w:World)=>depth_any K l w (by omega) h8)
 have HCH:=hide (fun (w:World) (h:TabAt w tb ab wb A)=>chain_any A B F 0 tb ab wb K l (T+1) ((l-(8+4*T+4))/4) hop ((T:Int)+1) hop o w h hG (by omega) h8 (by omega) (by omega) rfl (by omega) hhop hc)
 have hfv:fourV l (fitK K l) (8+4*T)=kfour K T:=by rw[fourV_key (by omega) (by omega),kfour_fit]
 have hf16:=kfour_lt K T
 obtain⟨s,hsd⟩:∃s,s=(l-8)/4:=⟨_,rfl⟩
 rw[←hsd] at HDP hT
 have hna:=h.na
 have hnw:=h.nw
 have hla:=h.ar.la
 have hlw:=h.ar.lw
 have hlt:=h.lt
 obtain⟨wx,hwx⟩:∃wx,wx=w.alloc (.cells (prefL K l).toArray 128):=⟨_,rfl⟩
 have bp:wx.heap[w.heap.size]?=some (.cells (prefL K l).toArray 128 (0,0)):=by rw[hwx];exact heap_alloc_new _ _
 have HBX:Below w.heap.size w wx:=by rw[hwx];exact ext_alloc _ _
 have HT:=hide (h.ext HBX)
 have HBX:=hide HBX
 have HWX:=hide hwx
 have hsx:=lt_of_block bp
 have hpw:w.heap.size ∉ [ab,wb]:=by simp;omega
 have htw:tb ∉ [ab,wb]:=by simp;omega
 have hTs:(T:Int)<s:=by omega
 have hs30:(s:Int)≤30:=by omega
 have hT30:T≤30:=by omega
 cases o with
 | none =>
  simp only[afterChain] at hR
  subst hR
  clear h hq hwx h0 hc hI hsd hr hO hbit hfv hu
  go_enter Tryz.func99,Tryz.ntmps99
  go_wp2_with (first | rw[←HWX.out] | (show wpList _ _ _ (⟨_,.load 128 _,_,_,_,_⟩ :: _) _ _;refine wpList_load_whole rfl 128 _ rfl w.heap.size rfl (prefL K l) _ 128 (0,0) (by assumption) Tryz.underlying128 rfl (pref_info K l) ?_) | fail)
  refine(HDE.out _ HT.out).mono ?_
  rintro e w1 ⟨rfl,hb1⟩
  have bp1:=block_ext bp hb1
  have HT1:=hide (HT.out.ext hb1)
  have HB1:=hide (ext_trans HBX.out hb1)
  clear hb1
  go_wp2_with (show wpList _ _ _ (⟨_,.load 128 _,_,_,_,_⟩ :: _) _ _;refine wpList_load_whole rfl 128 _ rfl w.heap.size rfl (prefL K l) _ 128 (0,0) (by assumption) Tryz.underlying128 rfl (pref_info K l) ?_)
  refine(HDP.out _).mono ?_
  rintro e w2 ⟨rfl,hb2⟩
  have bp2:=block_ext bp1 hb2
  have HT2:=hide (HT1.out.ext hb2)
  have HB2:=hide (ext_trans HB1.out hb2)
  clear hb2 bp1
  go_wp2_with (show wpList _ _ _ (⟨_,.load 128 _,_,_,_,_⟩ :: _) _ _;refine wpList_load_whole rfl 128 _ rfl w.heap.size rfl (prefL K l) _ 128 (0,0) (by assumption) Tryz.underlying128 rfl (pref_info K l) ?_)
  refine(HCH.out _ HT2.out).mono ?_
  rintro e w3 ⟨rfl,hT3,hF3⟩
  have HX:=hide (And.intro hT3 (Fr.after (fr_below HB2.out) hF3 (fun y hy=>Or.inl hy):Fr [ab,wb] w w3))
  clear hT3 hF3
  simp only[chainVal]
  go_wp2
  go_ret
  exact⟨rfl,HX.out.1.ext (ext_alloc _ _),HX.out.2.alloc _⟩
 | some nn =>
  simp only[afterChain] at hR
  have hany:anyBelow (M q) (8+4*T+4) (fitK K l/2^(l-(8+4*T+4)))=false:=by
   have hnext:=fourV_next (l:=l) (v:=fitK K l) (len:=8+4*T) (by omega) rfl
   have hway:=hO.rep.node.way _ (fourV_lt l (fitK K l) (8+4*T))
   rw[hnext,←hu,←hway]
   exact hbit
  obtain⟨F',hGB,hnok,hwd,hBs,hOB⟩:=chain_facts hG (hI.tab q) (by omega) (by omega) (by omega) (by omega) hany hc
  obtain⟨hO2,hen⟩:=hOB _ _ _ _ _ hO
  have HPC:=hide (fun (w:World) (h:TabAt w tb ab wb B)=>putChild_any B F' (M q) _ tb ab wb d2 (8+4*T) u y (kfour K T) nn y (kfour K T) w h hGB (by omega) hO2 rfl rfl hf16 (by rw[hen,←hfv];exact hbit) hnok R (by rw[←hfv];exact hR))
  have hy0:((y:Int)==0)=false:=by simp;omega
  have HFO:=hide (fun (w:World)=>four_any K T T w (by omega) rfl)
  clear h hq hwx h0 hc hI hany hGB hwd hsd hR hO hO2 hen hOB hfv hr hbit hu
  go_enter Tryz.func99,Tryz.ntmps99
  go_wp2_with (first | rw[←HWX.out] | (show wpList _ _ _ (⟨_,.load 128 _,_,_,_,_⟩ :: _) _ _;refine wpList_load_whole rfl 128 _ rfl w.heap.size rfl (prefL K l) _ 128 (0,0) (by assumption) Tryz.underlying128 rfl (pref_info K l) ?_) | fail)
  refine(HDE.out _ HT.out).mono ?_
  rintro e w1 ⟨rfl,hb1⟩
  have bp1:=block_ext bp hb1
  have HT1:=hide (HT.out.ext hb1)
  have HB1:=hide (ext_trans HBX.out hb1)
  clear hb1
  go_wp2_with (show wpList _ _ _ (⟨_,.load 128 _,_,_,_,_⟩ :: _) _ _;refine wpList_load_whole rfl 128 _ rfl w.heap.size rfl (prefL K l) _ 128 (0,0) (by assumption) Tryz.underlying128 rfl (pref_info K l) ?_)
  refine(HDP.out _).mono ?_
  rintro e w2 ⟨rfl,hb2⟩
  have bp2:=block_ext bp1 hb2
  have HT2:=hide (HT1.out.ext hb2)
  have HB2:=hide (ext_trans HB1.out hb2)
  clear hb2 bp1
  go_wp2_with (show wpList _ _ _ (⟨_,.load 128 _,_,_,_,_⟩ :: _) _ _;refine wpList_load_whole rfl 128 _ rfl w.heap.size rfl (prefL K l) _ 128 (0,0) (by assumption) Tryz.underlying128 rfl (pref_info K l) ?_)
  refine(HCH.out _ HT2.out).mono ?_
  rintro e w3 ⟨rfl,hT3,hF3⟩
  have bp3:=hF3.at bp2 hpw
  have HF3:=hide (Fr.after (fr_below HB2.out) hF3 (fun y hy=>Or.inl hy):Fr [ab,wb] w w3)
  obtain⟨wq,hwq⟩:∃wq,wq=w3.alloc (.cells #[.int .u16 nn.routes,.int .u16 nn.ways,.int .i64 nn.hops,.int .i64 nn.children] 142):=⟨_,rfl⟩
  have hBq:Below w3.heap.size w3 wq:=by rw[hwq];exact ext_alloc _ _
  obtain⟨nb,hnb⟩:∃nb,nb=w3.heap.size:=⟨_,rfl⟩
  have bn:wq.heap[nb]?=some (.cells #[.int .u16 nn.routes,.int .u16 nn.ways,.int .i64 nn.hops,.int .i64 nn.children] 142 (0,0)):=by rw[hwq,hnb];exact heap_alloc_new _ _
  have bpq:=block_ext bp3 hBq
  obtain⟨pb,hpb⟩:∃pb,pb=w.heap.size:=⟨_,rfl⟩
  rw[←hpb] at bpq hpw
  have HTW:=hide (hT3.ext hBq)
  have HFQ:=hide (Fr.after HF3.out (fr_below (S:=[]) hBq) (fun y hy=>by cases hy):Fr [ab,wb] w wq)
  have hl3:=lt_of_block bp3
  have hnbw:nb ∉ [ab,wb]:=by simp;omega
  have HWQ:=hide hwq
  have HNB:=hide hnb
  have HPB:=hide hpb
  have hlq:=lt_of_block bn
  have hlpq:=lt_of_block bpq
  clear hT3 hF3 bp2 bp3 hwq hBq hnb hpb
  have KS:∀w',Fr [ab,wb] wq w'→(fun w':World=>Fr [ab,wb] wq w'∧w'.rangeAt pb 0 (keyL K)∧w'.cell? ⟨nb,0,none⟩=some (.int .u16 nn.routes)∧w'.cell? ⟨nb,1,none⟩=some (.int .u16 nn.ways)∧w'.cell? ⟨nb,2,none⟩=some (.int .i64 nn.hops)∧w'.cell? ⟨nb,3,none⟩=some (.int .i64 nn.children)) w':=fun w' hf=>⟨hf,range_pref K l (hf.at bpq hpw),cells4n (hf.at bn hnbw)⟩
  simp only[] at KS
  have hu:=Tryz.underlying126
  have hi:=key_info K
  simp only[chainVal]
  go_wp2_with fail
  rw[←HWQ.out,←HNB.out,←HPB.out]
  go_region_held3 (fun w':World=>Fr [ab,wb] wq w'∧w'.rangeAt pb 0 (keyL K)∧w'.cell? ⟨nb,0,none⟩=some (.int .u16 nn.routes)∧w'.cell? ⟨nb,1,none⟩=some (.int .u16 nn.ways)∧w'.cell? ⟨nb,2,none⟩=some (.int .i64 nn.hops)∧w'.cell? ⟨nb,3,none⟩=some (.int .i64 nn.children)) (with_reducible (first | assumption | exact KS _ (fr_below (drew_ext wq)) | exact KS _ (by assumption) | exact KS _ (fr_below (by assumption)) | exact KS _ (fr_below (ext_trans (by assumption) (ext_alloc _ _))) | exact KS _ (fr_below (Below.drew (ext_alloc _ _))) | exact KS _ (Fr.alloc (by assumption) _) | (refine KS _ (Fr.setCell (Fr.setCell (by assumption) (Or.inr ?_) _) (Or.inr ?_) _) <;> first | assumption | exact Nat.le_refl _))) (first | (go_at_call 115;refine(HFO.out _).mono ?_;rintro e w5 ⟨rfl,hb5⟩;have S5:=(ext_trans (drew_ext wq) hb5:Below wq.heap.size wq w5);clear hb5) | (go_at_call 114;refine(HPC.out _ (HTW.out.ext S5)).mono ?_;rintro e w6 ⟨rfl,hT6,hF6⟩;have F6:=(Fr.after (fr_below S5) hF6 (fun y hy=>Or.inl hy):Fr [ab,wb] wq w6);clear hF6))
  have HX:=hide (And.intro hT6 (Fr.after HFQ.out F6 (fun y hy=>Or.inl hy):Fr [ab,wb] w w6))
  clear hT6 F6 KS
  go_wp2
  go_ret
  exact⟨rfl,HX.out.1,HX.out.2⟩
theorem put_any (A:Ar) (F:Nat→List Nat) (M:Bool→Tab) (tb ab wb:Nat) (f:Int) (q:Bool) (K l hop:Nat) (w:World) (h:TabAt w tb ab wb A) (hI:Inv A F M) (hw:WOk A.word) (hq:q=decide (f=6)) (hK:K<2^136) (h8:8≤l) (hl:l≤8+4*dp q) (hhop:hop<65536) (R:Ar × Bool) (hR:putRoot A q l (fitK K l) hop=R):Calls Tryz.prog 99 #[.pointer (some ⟨tb,0,none⟩),.int .i64 f,.agg (prefL K l).toArray,.int .i64 (hop:Nat)] w fun e w'=>e=.returned (.bool R.2)∧TabAt w' tb ab wb R.1∧Fr [ab,wb] w w':=by
 have hd:=dp_le q
 have hbf:=byte_fit hK h8 (show l≤128 by omega)
 unfold putRoot at hR
 rw[hbf] at hR
 split at hR
 ·rename_i h0
  cases hc:chainN l (fitK K l) hop ((l-8)/4) 8 A with
  | mk B o =>
   rw[hc] at hR
   refine put_none A B F M tb ab wb f q K l hop w h hI hw hq hK h8 hl hhop h0 o hc R ?_
   cases o with
   | none=>exact hR
   | some n=>exact hR
 ·rename_i h0
  obtain⟨t,d2,y,hr,ht1,ht2,hO,hbit⟩:=(OnF.root hI q (kbyte_lt K 0) h0).reach h8 hl hbf
  unfold putTree at hR
  rw[hr] at hR
  simp only at hR
  split at hR
  ·exact put_hop A F M tb ab wb f q K l hop y t d2 _ w h hI hw hq hK h8 hl hhop h0 hr (by omega) hO R hR
  ·cases hc:chainN l (fitK K l) hop ((l-(8+4*t+4))/4) (8+4*t+4) A with
   | mk B o =>
    rw[hc] at hR
    refine put_kid A B F M tb ab wb f q K l hop y t d2 _ w h hI hw hq hK h8 hl hhop h0 hr (by omega) hO rfl (hbit (by omega)) o hc R ?_
    cases o with
    | none=>exact hR
    | some n=>exact hR
end Go.Proofs.YtnapboelfimaaaaGreatDoor
namespace Go.Proofs.YtnapboelfimaaaaGreatDoor
theorem putKid_no {A B:Ar} {F:Nat→List Nat} {m f y:Nat} {child:NodeD} (hA:Good A F m) (hf:f<16) (hb:(nodeAt A.word y).ways.testBit f=false) (e:putKidN f A y child=(B,false)):B=A:=by
 have h16:=ones16_room (x:=(nodeAt A.word y).ways) hf hb
 unfold putKidN at e
 cases eg:A.grow (nodeAt A.word y).children (2*ones 16 (nodeAt A.word y).ways) (2*ones f (nodeAt A.word y).ways) 2 with
 | mk C o =>
  rw[eg] at e
  cases o with
  | none =>
   have:=grow_none hA (by omega) (by omega) eg
   simp only[Prod.mk.injEq] at e
   rw[←e.1,this]
  | some p=>simp at e
theorem putHop_none {A B:Ar} {F:Nat→List Nat} {m l v h len y:Nat} (hA:Good A F m) (h1:len≤l) (h3:l<len+4) (e:putHopN l v h len A y=(B,false)):B=A:=by
 have hp:=pnum_lt (v:=v) h1 (show l≤len+3 by omega)
 unfold putHopN at e
 split at e
 ·simp at e
 ·rename_i hb
  have hb':(nodeAt A.word y).routes.testBit (pnum l v len)=false:=by simpa using hb
  have h16:=ones16_room (x:=(nodeAt A.word y).routes) (f:=pnum l v len) (by omega) hb'
  cases eg:A.grow (nodeAt A.word y).hops (ones 16 (nodeAt A.word y).routes) (ones (pnum l v len) (nodeAt A.word y).routes) 1 with
  | mk C o =>
   rw[eg] at e
   cases o with
   | none =>
    have:=grow_none hA (by omega) (by omega) eg
    simp only[Prod.mk.injEq] at e
    rw[←e.1,this]
   | some p=>simp at e
theorem putRoot_good {A:Ar} {F:Nat→List Nat} {M:Bool→Tab} (h:Inv A F M) (hw:WOk A.word) (q:Bool) {l v x:Nat} (h1:8≤l) (h3:l≤8+4*dp q) (hv:v<2^l) (hx:x<4294967296) (hf:(putRoot A q l v x).2=false):∃F',Good (putRoot A q l v x).1 F' 200:=by
 have hb:v/2^(l-8)<256:=by
  rw[Nat.div_lt_iff_lt_mul (Nat.two_pow_pos _)]
  have:256*2^(l-8)=2^l:=by rw[show (256:Nat)=2^8 from rfl,←Nat.pow_add];congr 1;omega
  omega
 have hg:=h.good hw
 have hd:=dp_le q
 unfold putRoot at hf ⊢
 split at hf
 ·rename_i h0
  rw[if_pos h0]
  have hp:pnum l v (8+4*((l-8)/4))<15:=pnum_lt (by omega) (by omega)
  obtain⟨⟨F2,k1⟩,k2⟩:=chainN_good (l:=l) (v:=v) (h:=x) (s:=(l-8)/4) (len:=8) hg hx hp
  cases ec:chainN l v x ((l-8)/4) 8 A with
  | mk B o =>
   rw[ec] at k1 k2 hf
   cases o with
   | none=>exact⟨F2,k1.mono (by omega)⟩
   | some n =>
    simp only[] at hf ⊢
    cases et:B.take 2 with
    | mk C o =>
     rw[et] at hf
     cases o with
     | none =>
      have:=good_none k1 (by omega) (by omega) et
      subst this
      exact⟨F2,k1.mono (by omega)⟩
     | some y=>simp at hf
 ·rename_i h0
  rw[if_neg h0]
  have hO:=OnF.root h q hb h0
  obtain⟨t,d2,y,e,q1,q2,O,q5⟩:=hO.reach h1 h3 rfl
  unfold putTree at hf ⊢
  rw[e] at hf ⊢
  simp only[] at hf ⊢
  split at hf
  ·rename_i hlt
   rw[if_pos hlt]
   cases eh:putHopN l v x (8+4*t) A y with
   | mk B r =>
    rw[eh] at hf
    simp only at hf
    subst hf
    have:=putHop_none hg (by omega) hlt eh
    subst this
    exact⟨F,hg.mono (by omega)⟩
  ·rename_i hge
   rw[if_neg hge]
   have hp:pnum l v (8+4*t+4+4*((l-(8+4*t+4))/4))<15:=pnum_lt (by omega) (by omega)
   have hbit:=q5 (by omega)
   have hnext:=fourV_next (l:=l) (v:=v) (len:=8+4*t) (by omega) rfl
   have hany:anyBelow (M q) (8+4*t+4) (v/2^(l-(8+4*t+4)))=false:=by
    have hway:=O.rep.node.way _ (fourV_lt l v (8+4*t))
    rw[hnext,←hway]
    exact hbit
   obtain⟨⟨F2,k1⟩,k2⟩:=chainN_good (l:=l) (v:=v) (h:=x) (s:=(l-(8+4*t+4))/4) (len:=8+4*t+4) hg hx hp
   cases ec:chainN l v x ((l-(8+4*t+4))/4) (8+4*t+4) A with
   | mk B o =>
    rw[ec] at k1 k2 hf
    cases o with
    | none=>exact⟨F2,k1.mono (by omega)⟩
    | some n =>
     simp only[] at hf ⊢
     obtain⟨F',g',_,_,_,hOB⟩:=chain_facts hg (h.tab q) (by omega) hx (by omega) (by omega) hany ec
     obtain⟨_,hen⟩:=hOB _ _ _ _ _ O
     cases ek:putKidN (fourV l v (8+4*t)) B y n with
     | mk C r =>
      rw[ek] at hf
      simp only at hf
      subst hf
      have:=putKid_no g' (fourV_lt _ _ _) (by rw[hen];exact hbit) ek
      subst this
      exact⟨F',g'.mono (by omega)⟩
end Go.Proofs.YtnapboelfimaaaaGreatDoor
namespace Go.Proofs.YtnapboelfimaaaaGreatDoor
open Go.RowKit Go.Deep
theorem wp_store_whole {o:Oper} {a:Act} {w:World} {K:Act→World→Prop} {Q:Exit→Act→World→Prop} (ty:TypeId) (x y:Operand) (ho:o.op=.store ty x y)
  (g:Nat) (L:List Value) (hx:a.eval x=.pointer (some ⟨g,0,none⟩)) (hy:a.eval y=.agg L.toArray)
  (t:TypeId) (old:Array Value) (hg:w.heap[g]?=some (.cells old t (0,0))) (hi:(Tryz.prog.info? ty).map (·.size)=some L.length)
  (hold:old.size=L.length) (h1:∀v∈L,v.oneCell'=true)
  (h:∀w',w'.heap[g]?=some (.cells L.toArray t (0,0))→Fr [g] w w'→K (a.put o.dst undef) w'):o.wp Tryz.prog a w K Q :=
 wp_store_row ty x y ho g L.toArray hx hy t old hg (by simpa using hi) (by simpa using hold) (all_oneCell_toArray h1)
  (h _ (setRow_heap _ _ _ _ _ _ hg) ⟨rfl,rfl,rfl,by simp[World.setRow],fun k _ hk=>setRow_other _ _ _ _ (by simpa using hk)⟩)
theorem own_fr {w w1 w2:World} {b:Nat} (h:Below w.heap.size w w1) (hF:Fr [b] w1 w2) (hb:w.heap.size≤b):Below w.heap.size w w2:=fr_nil (Fr.after (S:=[]) (fr_below h) hF (fun y hy=>by simp at hy;subst hy;exact Or.inr hb))
theorem cells3 {w:World} {b:Nat} {a0 a1 a2:Value} {t:TypeId} (h:w.heap[b]?=some (.cells #[a0,a1,a2] t (0,0))):w.cell? ⟨b,0,none⟩=some a0∧w.cell? ⟨b,1,none⟩=some a1∧w.cell? ⟨b,2,none⟩=some a2:=by
 rw[cell_at h,cell_at h,cell_at h]
 exact⟨rfl,rfl,rfl⟩
def Moved (w w':World) (tb ab wb:Nat) (B:Ar):Prop:=(∃ab' wb',(ab'=ab∧wb'=wb∨w.heap.size≤ab'∧w.heap.size≤wb')∧TabAt w' tb ab' wb' B)∧Fr [tb,ab,wb] w w'
theorem Moved.same {w w':World} {tb ab wb:Nat} {B:Ar} (h:TabAt w' tb ab wb B) (hF:Fr [ab,wb] w w'):Moved w w' tb ab wb B:=⟨⟨ab,wb,Or.inl ⟨rfl,rfl⟩,h⟩,hF.mono (fun y hy _=>by simp at hy ⊢;exact Or.inr hy)⟩
theorem need_any (A:Ar) (F:Nat→List Nat) (M:Bool→Tab) (tb ab wb:Nat) (f:Int) (q:Bool) (K l:Nat) (w:World) (h:TabAt w tb ab wb A) (hs:Sane A) (hI:Inv A F M) (hq:q=decide (f=6)) (hK:K<2^136) (h8:8≤l) (hl:l≤8+4*dp q) :
  Calls Tryz.prog 98 #[.pointer (some ⟨tb,0,none⟩),.int .i64 f,.agg (prefL K l).toArray] w fun e w'=>e=.returned (.int .i64 (needRoot A.word q l (fitK K l):Nat))∧Below w.heap.size w w':=by
 by_cases h0:A.word (rt q+kbyte K 0)%65536=0
 ·exact need_none A F M tb ab wb f q K l w h hs hI hq hK h8 hl h0
 ·exact need_some A F M tb ab wb f q K l w h hs hI hq hK h8 hl h0
set_option maxHeartbeats 4000000 in
set_option maxRecDepth 10000 in
theorem insert_any (A:Ar) (F:Nat→List Nat) (M:Bool→Tab) (tb ab wb:Nat) (f:Int) (q:Bool) (s:ByteArray) (K l hop:Nat) (w:World) (h:TabAt w tb ab wb A) (hI:Inv A F M) (hw:WOk A.word) (hq:q=decide (f=6)) (hs16:s.size≤16) (hK:K=keyNum s) (hl:l≤8+4*dp q) (hhop:hop<65536) (hz:K%2^(136-l)=0) (R:Ar × Bool) (hR:insN A q l (fitK K l) hop=R):Calls Tryz.prog 94 #[.pointer (some ⟨tb,0,none⟩),.int .i64 f,.agg #[.string s,.int .i64 (l:Int),.int .i64 (hop:Int)]] w fun e w'=>e=.returned (.bool R.2)∧Moved w w' tb ab wb R.1:=by
 have hd:=dp_le q
 have HKO:=hide (fun (w:World)=>keyOf_any s w (by omega))
 rw[←hK] at HKO
 have hl':(l:Int)≤128:=by omega
 have hKl:K<2^136:=by rw[hK];exact keyNum_lt s
 have hsz:=hI.size
 have hG:=hI.good hw
 have hs:=hG.sane (by omega)
 have hhop':(hop:Int)<65536:=by omega
 clear hK
 have hlt:=h.lt
 obtain⟨wq,hwq⟩:∃wq,wq=w.alloc (.cells #[.string s,.int .i64 (l:Int),.int .i64 (hop:Int)] 66):=⟨_,rfl⟩
 obtain⟨qb,hqb⟩:∃qb,qb=w.heap.size:=⟨_,rfl⟩
 have bq:wq.heap[qb]?=some (.cells #[.string s,.int .i64 (l:Int),.int .i64 (hop:Int)] 66 (0,0)):=by rw[hwq,hqb];exact heap_alloc_new _ _
 have hBq:Below w.heap.size w wq:=by rw[hwq];exact ext_alloc _ _
 have HB0:=hide hBq
 have HWQ:=hide hwq
 have HQB:=hide hqb
 have hlq:=lt_of_block bq
 have KS:∀w',Below wq.heap.size wq w'→(fun w':World=>Below wq.heap.size wq w'∧w'.cell? ⟨qb,0,none⟩=some (.string s)∧w'.cell? ⟨qb,1,none⟩=some (.int .i64 (l:Int))) w':=fun w' hf=>⟨hf,(cells3 (block_ext bq hf)).1,(cells3 (block_ext bq hf)).2.1⟩
 simp only[] at KS
 clear hwq hqb
 go_enter Tryz.func94,Tryz.ntmps94
 go_wp2_with fail
 rw[←HWQ.out,←HQB.out]
 go_cut [7] (fun v wc=>∃pb,v=.pointer (some ⟨pb,0,none⟩)∧wq.heap.size≤pb∧wc.heap[pb]?=some (.cells (prefL K l).toArray 128 (0,0))∧Below wq.heap.size wq wc)
 case first =>
  refine wp_region_held_drew (S:=(fun w':World=>Below wq.heap.size wq w'∧w'.cell? ⟨qb,0,none⟩=some (.string s)∧w'.cell? ⟨qb,1,none⟩=some (.int .i64 (l:Int)))) (by kernel_rfl) (KS _ (drew_ext wq)) (fun hHeld=>?_)
  (refine wpAnyH_take (i:=0) (oi:=_) (v:=?_) rfl (by kernel_rfl) (by kernel_rfl) (by kernel_rfl) (fun _ _ _ h=>h) (Or.inl ⟨by rfl,?_⟩) (by assumption) ?_;rotate_left;(intro w hSw;(try dsimp only at hSw);go_simp;try with_reducible rfl);(try simp only[Act.put]);(try simp only[List.getElem_toArray]);(try simp only[List.getElem_cons_succ]);(try simp only[List.getElem_cons_zero]);(try simp only[List.setIfInBounds_toArray]))
  (refine wpAnyH_take (i:=1) (oi:=_) (v:=?_) rfl (by kernel_rfl) (by kernel_rfl) (by kernel_rfl) (fun _ _ _ h=>h) (Or.inl ⟨by rfl,?_⟩) (by assumption) ?_;rotate_left;(intro w hSw;(try dsimp only at hSw);go_simp;try with_reducible rfl);(try simp only[Act.put]);(try simp only[List.getElem_toArray]);(try simp only[List.getElem_cons_succ]);(try simp only[List.getElem_cons_zero]);(try simp only[List.setIfInBounds_toArray]))
  (refine wpAnyH_take (i:=3) (oi:=_) (v:=?_) rfl (by kernel_rfl) (by kernel_rfl) (by kernel_rfl) (fun _ _ _ h=>h) (Or.inl ⟨by rfl,?_⟩) (by assumption) ?_;rotate_left;(intro w hSw;(try dsimp only at hSw);go_simp;try with_reducible rfl);(try simp only[Act.put]);(try simp only[List.getElem_toArray]);(try simp only[List.getElem_cons_succ]);(try simp only[List.getElem_cons_zero]);(try simp only[List.setIfInBounds_toArray]))
  (refine wpAnyH_take (i:=4) (oi:=_) (v:=?_) rfl (by kernel_rfl) (by kernel_rfl) (by kernel_rfl) (fun _ _ _ h=>h) (Or.inl ⟨by rfl,?_⟩) (by assumption) ?_;rotate_left;(intro w hSw;(try dsimp only at hSw);go_simp;try with_reducible rfl);(try simp only[Act.put]);(try simp only[List.getElem_toArray]);(try simp only[List.getElem_cons_succ]);(try simp only[List.getElem_cons_zero]);(try simp only[List.setIfInBounds_toArray]))
  (refine wpAnyH_ready (rs:=[2,6]) (by kernel_rfl) (by simp) ?_)
  (refine AllReadyH.cons (o:=_) rfl (fun KK hK=>?_) ?_)
  ·go_simp
   go_at_call 95
   refine(HKO.out _).mono ?_
   rintro e w5 ⟨rfl,hb5⟩
   have S5:=(ext_trans (drew_ext wq) hb5:Below wq.heap.size wq w5)
   have z5:=S5.size
   clear hb5
   go_wp2_with fail
   (refine hK.out _ _ (KS _ S5) (fun hHeld=>?_);clear hK KK;(try simp only[Act.put]);(try simp only[List.getElem_toArray]);(try simp only[List.getElem_cons_succ]);(try simp only[List.getElem_cons_zero]);(try simp only[List.setIfInBounds_toArray]))
   (refine wpAnyH_take (i:=5) (oi:=_) (v:=_) rfl (by kernel_rfl) (by kernel_rfl) (by kernel_rfl) (fun _ _ _ h=>h) (yieldsIf_build_pref (by rfl) _ _ rfl K l rfl rfl) (by assumption) ?_;(try simp only[Act.put]);(try simp only[List.getElem_toArray]);(try simp only[List.getElem_cons_succ]);(try simp only[List.getElem_cons_zero]);(try simp only[List.setIfInBounds_toArray]))
   ((refine wpAnyH_ready (rs:=[6]) (by kernel_rfl) (by simp) ?_);(refine AllReadyH.cons (o:=_) rfl (fun KK hK=>?_) ?_);rotate_left;exact AllReadyH.nil)
   go_simp
   (refine hK.out _ _ (KS _ (ext_trans S5 (ext_alloc _ _))) (fun hHeld=>?_);clear hK KK;(try simp only[Act.put]);(try simp only[List.getElem_toArray]);(try simp only[List.getElem_cons_succ]);(try simp only[List.getElem_cons_zero]);(try simp only[List.setIfInBounds_toArray]))
   ((refine wpAnyH_ready (rs:=[7]) (by kernel_rfl) (by simp) ?_);(refine AllReadyH.cons (o:=_) rfl (fun KK hK=>?_) ?_);rotate_left;exact AllReadyH.nil)
   rw[if_pos (by rfl)]
   refine wp_store_whole 128 _ _ rfl w5.heap.size (prefL K l) rfl rfl 128 _ (heap_alloc_new _ _) (pref_info K l) rfl (pref_one K l) ?_
   intro w6 b6 hF6
   have S6:=own_fr (ext_trans S5 (ext_alloc _ _)) hF6 z5
   (refine hK.out _ _ (KS _ S6) (fun hHeld=>?_);clear hK KK;(try simp only[Act.put]);(try simp only[List.getElem_toArray]);(try simp only[List.getElem_cons_succ]);(try simp only[List.getElem_cons_zero]);(try simp only[List.setIfInBounds_toArray]))
   (refine wpAnyH_done (by kernel_rfl) ?_ _)
   go_wp2_with fail
   go_meet
   case rel=>exact⟨w5.heap.size,rfl,z5,b6,S6⟩
  ·(refine AllReadyH.cons (o:=_) rfl (fun KK hK=>?_) ?_)
   ·go_simp
    (refine hK.out _ _ (KS _ (Below.drew (ext_alloc _ _))) (fun hHeld=>?_);clear hK KK;(try simp only[Act.put]);(try simp only[List.getElem_toArray]);(try simp only[List.getElem_cons_succ]);(try simp only[List.getElem_cons_zero]);(try simp only[List.setIfInBounds_toArray]))
    ((refine wpAnyH_ready (rs:=[2]) (by kernel_rfl) (by simp) ?_);(refine AllReadyH.cons (o:=_) rfl (fun KK hK=>?_) ?_);rotate_left;exact AllReadyH.nil)
    go_simp
    go_at_call 95
    refine(HKO.out _).mono ?_
    rintro e w5 ⟨rfl,hb5⟩
    have S5:=(ext_trans (Below.drew (ext_alloc _ _)) hb5:Below wq.heap.size wq w5)
    have b5:=new_drew hb5
    clear hb5
    go_wp2_with fail
    (refine hK.out _ _ (KS _ S5) (fun hHeld=>?_);clear hK KK;(try simp only[Act.put]);(try simp only[List.getElem_toArray]);(try simp only[List.getElem_cons_succ]);(try simp only[List.getElem_cons_zero]);(try simp only[List.setIfInBounds_toArray]))
    (refine wpAnyH_take (i:=5) (oi:=_) (v:=_) rfl (by kernel_rfl) (by kernel_rfl) (by kernel_rfl) (fun _ _ _ h=>h) (yieldsIf_build_pref (by rfl) _ _ rfl K l rfl rfl) (by assumption) ?_;(try simp only[Act.put]);(try simp only[List.getElem_toArray]);(try simp only[List.getElem_cons_succ]);(try simp only[List.getElem_cons_zero]);(try simp only[List.setIfInBounds_toArray]))
    ((refine wpAnyH_ready (rs:=[7]) (by kernel_rfl) (by simp) ?_);(refine AllReadyH.cons (o:=_) rfl (fun KK hK=>?_) ?_);rotate_left;exact AllReadyH.nil)
    rw[if_pos (by rfl)]
    refine wp_store_whole 128 _ _ rfl wq.heap.size (prefL K l) rfl rfl 128 _ b5 (pref_info K l) rfl (pref_one K l) ?_
    intro w6 b6 hF6
    have S6:=own_fr S5 hF6 (Nat.le_refl _)
    (refine hK.out _ _ (KS _ S6) (fun hHeld=>?_);clear hK KK;(try simp only[Act.put]);(try simp only[List.getElem_toArray]);(try simp only[List.getElem_cons_succ]);(try simp only[List.getElem_cons_zero]);(try simp only[List.setIfInBounds_toArray]))
    (refine wpAnyH_done (by kernel_rfl) ?_ _)
    go_wp2_with fail
    go_meet
    case rel=>exact⟨wq.heap.size,rfl,Nat.le_refl _,b6,S6⟩
   ·exact AllReadyH.nil
 case rest =>
  obtain⟨pb,rfl,hpq,bp,hBc⟩:=hcut
  have bqc:=block_ext bq hBc
  have HBC:=hide (ext_trans HB0.out hBc)
  have hlc:=lt_of_block bp
  have hlqc:=lt_of_block bqc
  clear KS bq hBc
  have HTC:=hide (h.ext HBC.out)
  have hna:=h.na
  have hnw:=h.nw
  have hla:=h.ar.la
  have hlw:=h.ar.lw
  have hwqs:=HB0.out.size
  have hpw:pb ∉ [ab,wb]:=by simp;omega
  have hqw:qb ∉ [ab,wb]:=by have:=HQB.out;simp;omega
  have hpt:pb ∉ [tb]:=by simp;omega
  have hqt:qb ∉ [tb]:=by have:=HQB.out;simp;omega
  have hwpb:w.heap.size≤pb:=by omega
  by_cases h8:l<8
  ·have HSH:=hide (fun (w:World)=>short_any K l w (by omega))
   rw[show decide (l<8)=true by simpa using h8] at HSH
   unfold insN at hR
   rw[if_pos h8] at hR
   subst hR
   have hv:=fit_lt (l:=l) hKl (by omega)
   have HIS:=hide (fun (w:World) (h:TabAt w tb ab wb A)=>insertShort_any A tb ab wb f q K l (fitK K l) hop w h hs hq hsz (fun b hb=>(hI.root q).lt b hb) h8 hv (byte_short hKl (by omega) hz) hhop)
   clear hI hw hq hz h
   go_wp2_with (show wpList _ _ _ (⟨_,.load 128 _,_,_,_,_⟩ :: _) _ _;refine wpList_load_whole rfl 128 _ rfl pb rfl (prefL K l) _ 128 (0,0) (by assumption) Tryz.underlying128 rfl (pref_info K l) ?_)
   refine(HSH.out _).mono ?_
   rintro e w2 ⟨rfl,hb2⟩
   have bp2:=block_ext bp hb2
   have bq2:=block_ext bqc hb2
   obtain⟨k0,k1,k2⟩:=cells3 bq2
   have hl2:=lt_of_block bq2
   have HT2:=hide (HTC.out.ext hb2)
   have HB2:=hide (ext_trans HBC.out hb2)
   clear hb2 bp bqc bq2
   go_wp2_with (show wpList _ _ _ (⟨_,.load 128 _,_,_,_,_⟩ :: _) _ _;refine wpList_load_whole rfl 128 _ rfl pb rfl (prefL K l) _ 128 (0,0) (by assumption) Tryz.underlying128 rfl (pref_info K l) ?_)
   refine(HIS.out _ HT2.out).mono ?_
   rintro e w3 ⟨rfl,hT3,hF3⟩
   have HX:=hide (Moved.same hT3 (Fr.after (fr_below HB2.out) hF3 (fun y hy=>Or.inl (by simp at hy ⊢;exact Or.inr hy)):Fr [ab,wb] w w3))
   clear hT3 hF3
   go_wp2
   go_ret
   exact⟨rfl,HX.out⟩
  ·have HSH:=hide (fun (w:World)=>short_any K l w (by omega))
   rw[show decide (l<8)=false by simpa using h8] at HSH
   unfold insN at hR
   rw[if_neg h8] at hR
   unfold insLong at hR
   have hv:=fit_lt (l:=l) hKl (by omega)
   have HNE:=hide (fun (w:World) (h:TabAt w tb ab wb A)=>need_any A F M tb ab wb f q K l w h hs hI hq hKl (by omega) hl)
   have HFR:=hide (fun (w:World) (h:TabAt w tb ab wb A)=>arenaFree_any ab A.free w h.ar.free)
   have HPUT:=hide (fun (w:World) (h:TabAt w tb ab wb A)=>put_any A F M tb ab wb f q K l hop w h hI hw hq hKl (by omega) hl hhop _ rfl)
   have hn107:=need_le (hI.root q) (l:=l) (v:=fitK K l) (by omega) hl hv
   have hfp:=hI.pos
   obtain⟨nd,hnd⟩:∃nd,nd=needRoot A.word q l (fitK K l):=⟨_,rfl⟩
   rw[←hnd] at HNE hR hn107
   obtain⟨fr,hfr⟩:∃fr,fr=A.free:=⟨_,rfl⟩
   rw[←hfr] at HFR hR hfp
   clear hfr
   obtain⟨P,hP⟩:∃P,P=putRoot A q l (fitK K l) hop:=⟨_,rfl⟩
   rw[←hP] at HPUT hR
   have hco:P.2=false→Hid (∀(w:World),TabAt w tb ab wb P.1→Calls Tryz.prog 92 #[.pointer (some ⟨tb,0,none⟩)] w fun e w'=>e=.returned (.tuple #[])∧(∃ab' wb',w.heap.size≤ab'∧w.heap.size≤wb'∧TabAt w' tb ab' wb' (compactN P.1.word P.1.size))∧Fr [tb] w w'):=fun hP2=>hide (fun w h=>by
    rw[hP] at hP2 h ⊢
    obtain⟨hS,_⟩:=putRoot_src hI hw q (by omega) hl hv (by omega) hP2
    obtain⟨F',hG'⟩:=putRoot_good hI hw q (by omega) hl hv (by omega) hP2
    exact compact_any _ M tb ab wb w h hS (hG'.sane (by omega)))
   have hp2:P.2=false→Hid (∀(ab' wb':Nat) (w:World),TabAt w tb ab' wb' (compactN P.1.word P.1.size)→Calls Tryz.prog 99 #[.pointer (some ⟨tb,0,none⟩),.int .i64 f,.agg (prefL K l).toArray,.int .i64 (hop:Nat)] w fun e w'=>e=.returned (.bool (putRoot (compactN P.1.word P.1.size) q l (fitK K l) hop).2)∧TabAt w' tb ab' wb' (putRoot (compactN P.1.word P.1.size) q l (fitK K l) hop).1∧Fr [ab',wb'] w w'):=fun hP2=>hide (fun ab' wb' w h=>by
    rw[hP] at hP2 h ⊢
    obtain⟨hS,_⟩:=putRoot_src hI hw q (by omega) hl hv (by omega) hP2
    exact put_any _ _ M tb ab' wb' f q K l hop w h hS.compact.1 (compactN_wok hS) hq hKl (by omega) hl hhop _ rfl)
   have HCO:=hide hco
   have HP2:=hide hp2
   have HR:=hide hR
   clear hco hp2 hR hI hw hq hz h hP hnd hG
   go_wp2_with (show wpList _ _ _ (⟨_,.load 128 _,_,_,_,_⟩ :: _) _ _;refine wpList_load_whole rfl 128 _ rfl pb rfl (prefL K l) _ 128 (0,0) (by assumption) Tryz.underlying128 rfl (pref_info K l) ?_)
   refine(HSH.out _).mono ?_
   rintro e w2 ⟨rfl,hb2⟩
   have bp2:=block_ext bp hb2
   have bq2:=block_ext bqc hb2
   have HT2:=hide (HTC.out.ext hb2)
   have HB2:=hide (ext_trans HBC.out hb2)
   have hl2:=lt_of_block bp2
   have hlt2:=HT2.out.lt
   clear hb2 bp bqc
   obtain⟨wq,hwq⟩:∃wz,wz=w2:=⟨_,rfl⟩
   subst hwq
   have KS:∀w',Below wq.heap.size wq w'→(fun w':World=>Below wq.heap.size wq w'∧w'.rangeAt pb 0 (prefL K l)∧w'.cell? ⟨tb,0,none⟩=some (.pointer (some ⟨ab,0,none⟩))) w':=fun w' hf=>⟨hf,range_whole K l (block_ext bp2 hf),(HT2.out.ext hf).cell⟩
   simp only[] at KS
   go_wp2_with fail
   refine wp_region_held_drew (S:=(fun w':World=>Below wq.heap.size wq w'∧w'.rangeAt pb 0 (prefL K l)∧w'.cell? ⟨tb,0,none⟩=some (.pointer (some ⟨ab,0,none⟩)))) (by kernel_rfl) (KS _ (drew_ext wq)) (fun hHeld=>?_)
   (refine wpAnyH_take (i:=0) (oi:=_) (v:=?_) rfl (by kernel_rfl) (by kernel_rfl) (by kernel_rfl) (fun _ _ _ h=>h) (Or.inl ⟨by rfl,?_⟩) (by assumption) ?_;rotate_left;(intro w hSw;(try dsimp only at hSw);go_simp;try with_reducible rfl);(try simp only[Act.put]);(try simp only[List.getElem_toArray]);(try simp only[List.getElem_cons_succ]);(try simp only[List.getElem_cons_zero]);(try simp only[List.setIfInBounds_toArray]))
   (refine wpAnyH_take (i:=1) (oi:=_) (v:=?_) rfl (by kernel_rfl) (by kernel_rfl) (by kernel_rfl) (fun _ _ _ h=>h) (Or.inl ⟨by rfl,?_⟩) (by assumption) ?_;rotate_left;(intro w hSw;(try dsimp only at hSw);go_simp;try with_reducible rfl);(try simp only[Act.put]);(try simp only[List.getElem_toArray]);(try simp only[List.getElem_cons_succ]);(try simp only[List.getElem_cons_zero]);(try simp only[List.setIfInBounds_toArray]))
   (refine wpAnyH_take (i:=2) (oi:=_) (v:=_) rfl (by kernel_rfl) (by kernel_rfl) (by kernel_rfl) (fun _ _ _ h=>h) (yieldsIf_load_mid (by rfl) _ _ rfl _ _ rfl (prefL K l) _ (fun w hSw=>hSw.2.1) Tryz.underlying128 rfl (pref_info K l)) (by assumption) ?_;(try simp only[Act.put]);(try simp only[List.getElem_toArray]);(try simp only[List.getElem_cons_succ]);(try simp only[List.getElem_cons_zero]);(try simp only[List.setIfInBounds_toArray]))
   (refine wpAnyH_take (i:=4) (oi:=_) (v:=?_) rfl (by kernel_rfl) (by kernel_rfl) (by kernel_rfl) (fun _ _ _ h=>h) (Or.inl ⟨by rfl,?_⟩) (by assumption) ?_;rotate_left;(intro w hSw;(try dsimp only at hSw);go_simp;try with_reducible rfl);(try simp only[Act.put]);(try simp only[List.getElem_toArray]);(try simp only[List.getElem_cons_succ]);(try simp only[List.getElem_cons_zero]);(try simp only[List.setIfInBounds_toArray]))
   (refine wpAnyH_take (i:=5) (oi:=_) (v:=?_) rfl (by kernel_rfl) (by kernel_rfl) (by kernel_rfl) (fun _ _ _ h=>h) (Or.inl ⟨by rfl,?_⟩) (by assumption) ?_;rotate_left;(intro w hSw;(try dsimp only at hSw);go_simp;try with_reducible rfl);(try simp only[Act.put]);(try simp only[List.getElem_toArray]);(try simp only[List.getElem_cons_succ]);(try simp only[List.getElem_cons_zero]);(try simp only[List.setIfInBounds_toArray]))
   (refine wpAnyH_take (i:=6) (oi:=_) (v:=?_) rfl (by kernel_rfl) (by kernel_rfl) (by kernel_rfl) (fun _ _ _ h=>h) (Or.inl ⟨by rfl,?_⟩) (by assumption) ?_;rotate_left;(intro w hSw;(try dsimp only at hSw);go_simp;try with_reducible rfl);(try simp only[Act.put]);(try simp only[List.getElem_toArray]);(try simp only[List.getElem_cons_succ]);(try simp only[List.getElem_cons_zero]);(try simp only[List.setIfInBounds_toArray]))
   (refine wpAnyH_take (i:=7) (oi:=_) (v:=?_) rfl (by kernel_rfl) (by kernel_rfl) (by kernel_rfl) (fun _ _ _ h=>h) (Or.inl ⟨by rfl,?_⟩) (by assumption) ?_;rotate_left;(intro w hSw;(try dsimp only at hSw);go_simp;try with_reducible rfl);(try simp only[Act.put]);(try simp only[List.getElem_toArray]);(try simp only[List.getElem_cons_succ]);(try simp only[List.getElem_cons_zero]);(try simp only[List.setIfInBounds_toArray]))
   ((refine wpAnyH_ready (rs:=[3]) (by kernel_rfl) (by simp) ?_);(refine AllReadyH.cons (o:=_) rfl (fun KK hK=>?_) ?_);rotate_left;exact AllReadyH.nil)
   go_simp
   go_at_call 98
   refine(HNE.out _ (HT2.out.ext (drew_ext wq))).mono ?_
   rintro e w5 ⟨rfl,hb5⟩
   have S5:=(ext_trans (drew_ext wq) hb5:Below wq.heap.size wq w5)
   clear hb5
   go_wp2_with fail
   (refine hK.out _ _ (KS _ S5) (fun hHeld=>?_);clear hK KK;(try simp only[Act.put]);(try simp only[List.getElem_toArray]);(try simp only[List.getElem_cons_succ]);(try simp only[List.getElem_cons_zero]);(try simp only[List.setIfInBounds_toArray]))
   ((refine wpAnyH_ready (rs:=[8]) (by kernel_rfl) (by simp) ?_);(refine AllReadyH.cons (o:=_) rfl (fun KK hK=>?_) ?_);rotate_left;exact AllReadyH.nil)
   go_simp
   go_at_call 37
   refine(HFR.out _ (HT2.out.ext S5)).mono ?_
   rintro e w6 ⟨rfl,rfl⟩
   go_wp2_with fail
   (refine hK.out _ _ (KS _ S5) (fun hHeld=>?_);clear hK KK;(try simp only[Act.put]);(try simp only[List.getElem_toArray]);(try simp only[List.getElem_cons_succ]);(try simp only[List.getElem_cons_zero]);(try simp only[List.setIfInBounds_toArray]))
   (refine wpAnyH_take (i:=9) (oi:=_) (v:=?_) rfl (by kernel_rfl) (by kernel_rfl) (by kernel_rfl) (fun _ _ _ h=>h) (Or.inl ⟨by rfl,?_⟩) (by assumption) ?_;rotate_left;(intro w hSw;(try dsimp only at hSw);go_simp;try with_reducible rfl);(try simp only[Act.put]);(try simp only[List.getElem_toArray]);(try simp only[List.getElem_cons_succ]);(try simp only[List.getElem_cons_zero]);(try simp only[List.setIfInBounds_toArray]))
   simp only[List.set_cons_succ,List.set_cons_zero]
   (refine wpAnyH_done (by kernel_rfl) ?_ _)
   have bp6:=block_ext bp2 S5
   have bq6:=block_ext bq2 S5
   have HT6:=hide (HT2.out.ext S5)
   have HB6:=hide (ext_trans HB2.out S5)
   have hl6:=lt_of_block bq6
   obtain⟨k0,k1,k2⟩:=cells3 bq6
   clear KS S5 hHeld bp2 bq2 HT2 HB2
   have hR:=HR.out
   by_cases hfn:fr<nd
   ·rw[if_pos hfn] at hR
    subst hR
    clear HR
    rw[show decide (fr<(nd:Int))=true by simpa using hfn]
    go_wp2
    go_ret
    exact⟨rfl,Moved.same HT6.out (fr_below HB6.out)⟩
   ·rw[if_neg hfn] at hR
    have HR2:=hide hR
    clear hR HR
    rw[show decide (fr<(nd:Int))=false by simpa using hfn]
    have HBP6:=hide bp6
    have HBQ6:=hide bq6
    go_wp2_with (show wpList _ _ _ (⟨_,.load 128 _,_,_,_,_⟩ :: _) _ _;refine wpList_load_whole rfl 128 _ rfl pb rfl (prefL K l) _ 128 (0,0) (by assumption) Tryz.underlying128 rfl (pref_info K l) ?_)
    refine(HPUT.out _ HT6.out).mono ?_
    rintro e w7 ⟨rfl,hT7,hF7⟩
    have HT7:=hide hT7
    have HF7:=hide (Fr.after (fr_below HB6.out) hF7 (fun y hy=>Or.inl hy):Fr [ab,wb] w w7)
    have bp7:=hF7.at HBP6.out hpw
    have bq7:=hF7.at HBQ6.out hqw
    clear hT7 hF7 bp6 bq6 k0 k1 k2
    obtain⟨B,r⟩:=P
    have hR:=HR2.out
    simp only at HT7 hR
    cases r with
    | true =>
     simp only at hR
     subst hR
     go_wp2
     go_ret
     exact⟨rfl,Moved.same HT7.out HF7.out⟩
    | false =>
     simp only at hR
     subst hR
     have HC1:=HCO.out rfl
     have HC2:=HP2.out rfl
     go_wp2_with fail
     refine(HC1.out _ HT7.out).mono ?_
     rintro e w8 ⟨rfl,⟨ab',wb',hab,hwb,hT8⟩,hF8⟩
     have bp8:=hF8.at bp7 hpt
     have bq8:=hF8.at bq7 hqt
     obtain⟨k0,k1,k2⟩:=cells3 bq8
     have hl8:=lt_of_block bq8
     have h78:=HF7.out.size
     have HT8:=hide hT8
     have HF8:=hide (Fr.after (HF7.out.mono (fun y hy _=>by simp at hy ⊢;exact Or.inr hy):Fr [tb,ab,wb] w w7) hF8 (fun y hy=>Or.inl (by simp at hy ⊢;exact Or.inl hy)):Fr [tb,ab,wb] w w8)
     clear hT8 hF8 bp7 bq7
     go_wp2_with (show wpList _ _ _ (⟨_,.load 128 _,_,_,_,_⟩ :: _) _ _;refine wpList_load_whole rfl 128 _ rfl pb rfl (prefL K l) _ 128 (0,0) (by assumption) Tryz.underlying128 rfl (pref_info K l) ?_)
     refine(HC2.out ab' wb' _ HT8.out).mono ?_
     rintro e w9 ⟨rfl,hT9,hF9⟩
     have HX:=hide (show Moved w w9 tb ab wb _ from ⟨⟨ab',wb',Or.inr ⟨by omega,by omega⟩,hT9⟩,Fr.after HF8.out hF9 (fun y hy=>Or.inr (by simp at hy;rcases hy with rfl | rfl <;> omega))⟩)
     clear hT9 hF9
     go_wp2
     go_ret
     exact⟨rfl,HX.out⟩
end Go.Proofs.YtnapboelfimaaaaGreatDoor
