/- ShoN, DeS, Com, Dea: parts of the proof, one behind the other. -/
import Derived.Test.YtnapboelfimaaaaGreatDoorB07
import Derived.Test.YtnapboelfimaaaaGreatDoorB09
import Derived.Test.YtnapboelfimaaaaGreatDoorB11
import Derived.Test.YtnapboelfimaaaaGreatDoorB12
import Derived.Test.YtnapboelfimaaaaGreatDoorB13
import Derived.Test.YtnapboelfimaaaaGreatDoorB14
import Derived.Deep.DeepCutAuto
import Derived.Deep.RegionHeld3
namespace Go.Proofs.YtnapboelfimaaaaGreatDoor
open Go.RowKit Go.Deep
theorem markPart_next0 (W:Nat→Nat) (r kb k l:Nat):setW (markPart W (r+kb) k l false) (r+(kb+k)) (W (r+(kb+k))%65536+65536*clr (W (r+(kb+k))/65536) l)=markPart W (r+kb) (k+1) l false:=by
 funext a
 by_cases e:a=r+(kb+k)
 ·subst e
  rw[setW_same]
  unfold markPart
  rw[if_pos (by omega)]
  rfl
 ·rw[setW_ne e]
  unfold markPart
  by_cases h:r+kb≤a∧a<r+kb+k
  ·rw[if_pos h,if_pos (show r+kb≤a∧a<r+kb+(k+1) by omega)]
  ·rw[if_neg h,if_neg (show ¬(r+kb≤a∧a<r+kb+(k+1)) by omega)]
set_option maxHeartbeats 1000000 in
set_option maxRecDepth 10000 in
theorem markShort_nil (A:Ar) (tb ab wb:Nat) (f:Int) (q:Bool) (K l kb n8:Nat) (w:World) (h:TabAt w tb ab wb A) (hs:Sane A) (hq:q=decide (f=6)) (hsz:2048≤A.size) (hsh:∀b,b<256→A.word (rt q+b)/65536<256) (hl:l<8) (hkb:kbyte K 0=kb) (hn8:n8*2^l=256) (hfit:kb+n8≤256) :
  Calls Tryz.prog 103 #[.pointer (some ⟨tb,0,none⟩),.int .i64 f,.agg (prefL K l).toArray,.int .u8 0] w fun e w'=>e=.returned (.tuple #[])∧TabAt w' tb ab wb { A with word:=markPart A.word (rt q+kb) n8 l false }∧Fr [wb] w w':=by
 have HQ:=hide hq
 have hr:=rt_le q
 have e1:(256:Int)/2^l=(n8:Int):=by
  have h2:256/2^l=n8:=by rw[←hn8];exact Nat.mul_div_cancel _ (Nat.two_pow_pos l)
  rw[←h2,Int.natCast_ediv]
  norm_cast
 obtain⟨wx,hwx⟩:∃wx,wx=w.alloc (.cells (prefL K l).toArray 128):=⟨_,rfl⟩
 have hp0:wx.heap[w.heap.size]?=some (.cells (prefL K l).toArray 128 (0,0)):=by rw[hwx];exact heap_alloc_new _ _
 have HTX:=hide (show TabAt wx tb ab wb A by rw[hwx];exact h.ext (ext_alloc _ _))
 have hsx:wx.heap.size=w.heap.size+1:=by rw[hwx];simp
 have HWX:=hide hwx
 have HFX:=hide (show Fr [wb] w wx by rw[hwx];exact(Fr.refl _ _).alloc _)
 have hlt:=h.lt
 have hlw:=h.ar.lw
 have hla:=h.ar.la
 have c17:=pref_len K l w 128
 have hl7:(l:Int)≤7:=by omega
 have HP0:=hide hp0
 clear hq hwx h hp0
 go_enter Tryz.func103,Tryz.ntmps103
 go_wp2_with fail
 rw[←HWX.out]
 clear c17
 go_loopw [14] (fun i wr=>∃k:Nat,k≤n8∧i=.int .i64 k∧TabAt wr tb ab wb { A with word:=markPart A.word (rt q+kb) k l false }∧Fr [wb] wx wr) (fun i _=>n8-(intOf i).toNat)
 case atStart =>
  refine⟨0,by omega,rfl,?_,Fr.refl _ _⟩
  have e:markPart A.word (rt q+kb) 0 l false=A.word:=by
   funext a
   unfold markPart
   rw[if_neg (by omega)]
  rw[e];exact HTX.out
 case round =>
  obtain⟨k,hk,rfl,hT,hF⟩:=hrel
  by_cases hkn:k<n8
  ·have hpb:=hF.at HP0.out (show w.heap.size ∉ [wb] by simp;omega)
   have d0:=pref_at K l hpb 0 (by omega)
   have d17:wr.cell? ⟨w.heap.size,17,none⟩=some (.int .i64 (l:Int)):=by
    rw[cell_at hpb,List.getElem?_toArray]
    unfold prefL
    rw[List.getElem?_append_right (by simp[keyL])]
    simp[keyL]
   rw[hkb] at d0
   have hkn':(k:Int)<n8:=by omega
   have hn256:(n8:Int)≤256:=by omega
   have hw1:w.heap.size<wr.heap.size:=lt_of_block hpb
   have hsane:Sane { A with word:=markPart A.word (rt q+kb) k l false }:=by
    refine⟨hs.size,hs.top,hs.given,?_,hs.free1,hs.free2⟩
    intro a
    show markPart A.word (rt q+kb) k l false a<4294967296
    unfold markPart
    split
    ·rename_i hin
     have h1:=hsh (a-rt q) (by omega)
     rw[show rt q+(a-rt q)=a by omega] at h1
     have h2:=clr_lt (n:=8) (k:=l) h1 hl
     simp only[Bool.false_eq_true,if_false]
     omega
    ·exact hs.word a
   have hword:markPart A.word (rt q+kb) k l false (rt q+(kb+k))=A.word (rt q+(kb+k)):=markPart_word (A:=A) (by omega)
   have hsh2:=hsh (kb+k) (by omega)
   obtain⟨nd,hnd⟩:∃nd,nd=A.word (rt q+(kb+k))%65536:=⟨_,rfl⟩
   obtain⟨sh,hshd⟩:∃sh,sh=A.word (rt q+(kb+k))/65536:=⟨_,rfl⟩
   have hnd2:nd<65536:=by omega
   have hsh3:sh<256:=by omega
   have HND:=hide hnd
   have HSH:=hide hshd
   have HFI:=hide (first_any { A with word:=markPart A.word (rt q+kb) k l false } tb ab wb f q (kb+k) wr hT hsane HQ.out (by omega) hsz (by show markPart A.word (rt q+kb) k l false _/65536<256;rw[hword];exact hsh2))
   have HT:=hide hT
   have HF:=hide hF
   have O1:=hide (andNot_clr sh l hsh3 hl)
   have O2:=hide (or_zero sh l hsh3 hl)
   have HSA:=hide hsane
   have HWD:=hide hword
   clear hword hsane hT hF hnd hshd hpb
   go_wp2_with fail
   have hfi:=HFI.out
   rw[Int.natCast_add] at hfi
   refine hfi.mono ?_
   clear hfi
   rintro e w1 ⟨rfl,hb1⟩
   have E1:(({ A with word:=markPart A.word (rt q+kb) k l false }:Ar).word (rt q+(kb+k))%65536:Nat)=nd:=by show markPart A.word (rt q+kb) k l false _%65536=nd;rw[HWD.out,HND.out]
   have E2:(({ A with word:=markPart A.word (rt q+kb) k l false }:Ar).word (rt q+(kb+k))/65536:Nat)=sh:=by show markPart A.word (rt q+kb) k l false _/65536=sh;rw[HWD.out,HSH.out]
   rw[E1,E2]
   clear E1 E2
   have hT1:=HT.out.ext hb1
   have t0:=hT1.cell
   have hw2:w.heap.size<w1.heap.size:=Nat.lt_of_lt_of_le hw1 hb1.size
   have d17':w1.cell? ⟨w.heap.size,17,none⟩=some (.int .i64 (l:Int)):=by rw[hb1.cell (p:=⟨w.heap.size,17,none⟩) hw1];exact d17
   have HT1:=hide hT1
   have HB1:=hide hb1
   have hlt1:=hT1.lt
   clear hT1 hb1 d17
   go_wp2_with fail
   go_region
   have hp7:(2:Int)^l%256=(2:Int)^l:=by
    obtain⟨p1,p2⟩:=two_pow_le (show l≤7 by omega)
    rw[show (2:Int)^7=128 from rfl] at p2
    omega
   have EQ:=hide (show bits BinOp.or IntKind.u8 (bits BinOp.andNot IntKind.u8 (sh:Int) ((2:Int)^l%256)) 0=((clr sh l:Nat):Int) by rw[hp7,O1.out,O2.out])
   have hor:=clr_lt (n:=8) (k:=l) (show sh<2^8 from hsh3) hl
   clear hp7
   go_wp2_with fail
   go_region_with (go_at_call 118;rw[EQ.out];refine(writeFirst_any { A with word:=markPart A.word (rt q+kb) k l false } ab wb _ (rt q+(kb+k)) nd (clr sh l) _ (HT1.out.ar.alloc _).drew.drew hnd2 hor (by omega) (by show rt q+(kb+k)<A.size;omega)).mono ?_;rintro e w3 ⟨rfl,hA3,hF3⟩)
   all_goals
    have e3:setW (markPart A.word (rt q+kb) k l false) (rt q+(kb+k)) (nd+65536*(clr sh l))=markPart A.word (rt q+kb) (k+1) l false:=by
     rw[HND.out,HSH.out]
     exact markPart_next0 _ _ _ _ _
    have hX:TabAt w3 tb ab wb { A with word:=markPart A.word (rt q+kb) (k+1) l false }:=by
     have:=(HT1.out.ext (Below.drew (Below.drew (ext_alloc _ _)))).of hF3 (by have:=HT1.out.nw;simpa using this) hA3
     rw[e3] at this
     exact this
    have HX:=hide (And.intro hX (Fr.after (Fr.drew (Fr.drew (Fr.alloc (HF.out.trans (Fr.of_below HB1.out)) _))) hF3 (fun y hy=>Or.inl hy)))
    clear hX hF3 hA3 e3
    go_wp2
    go_roundw
    case rel=>exact⟨k+1,by omega,by go_num,HX.out.1,HX.out.2⟩
    case measure=>simp[intOf];omega
  ·have hk':k=n8:=by omega
   subst hk'
   go_wp2
   go_end0
   exact⟨rfl,hT,HFX.out.trans hF⟩
end Go.Proofs.YtnapboelfimaaaaGreatDoor
namespace Go.Proofs.YtnapboelfimaaaaGreatDoor
open Go.RowKit Go.Deep
theorem mark_part (W:Nat→Nat) (r l v:Nat) (there:Bool):markPart W (r+v*2^(8-l)) (2^(8-l)) l there=markW W r l v there:=by
 funext a
 unfold markPart markW
 have e:r+(v+1)*2^(8-l)=r+v*2^(8-l)+2^(8-l):=by rw[Nat.add_mul,Nat.one_mul];omega
 rw[e]
theorem key_cell_pref (K l:Nat) (w:World):(w.alloc (.cells (prefL K l).toArray 128)).cell? ⟨w.heap.size,0,none⟩=some (.int .u8 (kbyte K 0:Int)):=pref_at K l (heap_alloc_new w _) 0 (by omega)
theorem sizePrefS:(Tryz.prog.info? 128).map (·.size)=some 18:=by kernel_rfl
theorem pref_info (K l:Nat):(Tryz.prog.info? 128).map (·.size)=some (prefL K l).length:=by rw[sizePrefS];simp[prefL,keyL]
set_option maxHeartbeats 1000000 in
set_option maxRecDepth 10000 in
theorem deleteShort_any (A:Ar) (tb ab wb:Nat) (f:Int) (q:Bool) (K l v:Nat) (w:World) (h:TabAt w tb ab wb A) (hs:Sane A) (hq:q=decide (f=6)) (hsz:2048≤A.size) (hsh:∀b,b<256→A.word (rt q+b)/65536<256) (hl:l<8) (hv:v<2^l) (hkb:kbyte K 0=v*2^(8-l)) (Q:Ending→World→Prop)
  (q1:∀w',(A.word (rt q+v*2^(8-l))/65536).testBit l=true→TabAt w' tb ab wb (shortN A q l v none)→Fr [wb] w w'→Q (.returned (.bool true)) w')
  (q0:∀w',(A.word (rt q+v*2^(8-l))/65536).testBit l=false→TabAt w' tb ab wb A→Fr [wb] w w'→Q (.returned (.bool false)) w') :
  Calls Tryz.prog 126 #[.pointer (some ⟨tb,0,none⟩),.int .i64 f,.agg (prefL K l).toArray] w Q:=by
 obtain⟨b1,b2⟩:=short_byte hl hv
 have hr:=rt_le q
 obtain⟨n8,hn8⟩:∃n8,n8=2^(8-l):=⟨_,rfl⟩
 have hn:n8*2^l=256:=by rw[hn8,←Nat.pow_add,show 8-l+l=8 by omega]
 obtain⟨kb,hkbd⟩:∃kb,kb=v*2^(8-l):=⟨_,rfl⟩
 have hfit:kb+n8≤256:=by
  have:(v+1)*2^(8-l)≤2^l*2^(8-l):=Nat.mul_le_mul_right _ (by omega)
  rw[←Nat.pow_add,show l+(8-l)=8 by omega,Nat.add_mul,Nat.one_mul] at this
  rw[hkbd,hn8]
  exact this
 rw[←hkbd] at q1 q0 b1
 have HMS:=hide (fun (w:World) (h:TabAt w tb ab wb A)=>markShort_nil A tb ab wb f q K l kb n8 w h hs hq hsz hsh hl (hkb.trans hkbd.symm) hn hfit)
 have HFI:=hide (fun (w:World) (h:TabAt w tb ab wb A)=>first_any A tb ab wb f q kb w h hs hq b1 hsz (hsh kb b1))
 have HMW:=hide (show markPart A.word (rt q+kb) n8 l false=markW A.word (rt q) l v false by rw[hkbd,hn8];exact mark_part _ _ _ _ _)
 have hp0:=heap_alloc_new w (.cells (prefL K l).toArray 128)
 have hkk:kbyte K 0=kb:=hkb.trans hkbd.symm
 have d0:=key_cell_pref K l w
 rw[hkk] at d0
 have HH:=hide h
 have hlt:=h.lt
 have hlw:=h.ar.lw
 have HP0:=hide hp0
 have Q1:=hide q1
 have Q0:=hide q0
 obtain⟨nd,hnd⟩:∃nd,nd=A.word (rt q+kb)%65536:=⟨_,rfl⟩
 obtain⟨sh,hshd⟩:∃sh,sh=A.word (rt q+kb)/65536:=⟨_,rfl⟩
 have hsh3:sh<256:=by rw[hshd];exact hsh kb b1
 rw[←hnd,←hshd] at HFI
 rw[←hshd] at Q1 Q0
 clear h hq hn8 hkbd hkb b2 hp0 q1 q0 hnd hshd
 go_enter Tryz.func126,Tryz.ntmps126
 go_wp2_with fail
 refine(HFI.out _ (HH.out.ext (ext_alloc _ _))).mono ?_
 rintro e w1 ⟨rfl,hb1⟩
 have hpb:=block_ext HP0.out hb1
 have d17:w1.cell? ⟨w.heap.size,17,none⟩=some (.int .i64 (l:Int)):=by
  rw[cell_at hpb,List.getElem?_toArray]
  unfold prefL
  rw[List.getElem?_append_right (by simp[keyL])]
  simp[keyL]
 have hT1:=(HH.out.ext (ext_alloc _ (.cells (prefL K l).toArray 128))).ext hb1
 have hw1:w.heap.size<w1.heap.size:=lt_of_block hpb
 have HPB:=hide hpb
 have HT1:=hide hT1
 have HB1:=hide (ext_trans (ext_alloc w _) hb1)
 clear hT1 hb1 hpb d0
 go_wp2_with fail
 refine(hasShort_any nd sh l _ hsh3 hl).mono ?_
 rintro e w2 ⟨rfl,hb2⟩
 have HPB2:=hide (block_ext HPB.out (ext_trans (ext_alloc _ _) hb2))
 have HT2:=hide ((HT1.out.ext (ext_alloc _ _)).ext hb2)
 have HB2:=hide (ext_trans HB1.out (ext_trans (ext_alloc _ _) hb2))
 clear hb2
 by_cases hbit:sh.testBit l=true
 ·go_wp2_with (show wpList _ _ _ (⟨_,.load 128 _,_,_,_,_⟩ :: _) _ _;refine wpList_load_whole rfl 128 _ rfl w.heap.size rfl (prefL K l) _ 128 (0,0) HPB2.out Tryz.underlying128 rfl (pref_info K l) ?_)
  refine(HMS.out _ HT2.out).mono ?_
  rintro e w3 ⟨rfl,hT3,hF3⟩
  rw[HMW.out] at hT3
  have HX:=hide (And.intro hT3 (Fr.after (Fr.of_below HB2.out) hF3 (fun y hy=>Or.inl hy)))
  clear hT3 hF3
  go_wp2
  exact Q1.out _ hbit HX.out.1 HX.out.2
 ·have hbit':sh.testBit l=false:=by simpa using hbit
  go_wp2
  exact Q0.out _ hbit' HT2.out (Fr.of_below HB2.out)
end Go.Proofs.YtnapboelfimaaaaGreatDoor
namespace Go.Proofs.YtnapboelfimaaaaGreatDoor
open Go.RowKit Go.Deep
theorem TabAt.other {w:World} {tb ab wb b off:Nat} {A:Ar} {v:Value} (h:TabAt w tb ab wb A) (h0:tb≠b) (h1:ab≠b) (h2:wb≠b):TabAt (w.setCell ⟨b,off,none⟩ v) tb ab wb A:=⟨(Below.heap_setCell _ _ _ _ h0).trans h.tab,h.ar.other h1 h2⟩
set_option maxHeartbeats 400000 in
set_option maxRecDepth 10000 in
theorem mustTake_any (A:Ar) (tb ab wb:Nat) (x:Int) (n:Nat) (w:World) (h:TabAt w tb ab wb A) (hs:Sane A) (hf:A.fresh) (hx:x=n) (h1:1≤n) (h2:n≤32) (ht:n≤A.size-A.top) :
  Calls Tryz.prog 116 #[.pointer (some ⟨tb,0,none⟩),.int .i64 x] w fun e w'=>e=.returned (.agg #[.int .i64 (A.top:Nat),.int .i64 n])∧TabAt w' tb ab wb (A.bump n)∧Fr [ab,wb] w w':=by
 subst hx
 have c0:=h.cell
 have hlt:=h.lt
 have hla:=h.ar.la
 have hlw:=h.ar.lw
 have hna:=h.na
 have hnw:=h.nw
 have HTK:=hide (show A.take n=(A.bump n,some A.top) by rw[take_fresh hf h1,if_neg (by omega)];rfl)
 have HH:=hide h
 clear h hf
 go_enter Tryz.func116,Tryz.ntmps116
 go_wp2_with fail
 refine take_any A ab wb n _ (HH.out.ar.alloc _) hs h1 h2 _ ?_ ?_
 ·intro y B w1 hy hA1 hF1
  rw[HTK.out] at hy
  simp only[Prod.mk.injEq,Option.some.injEq] at hy
  obtain⟨rfl,rfl⟩:=hy
  have b0:w1.heap[w.heap.size]?=some (.cells #[.int .i64 0,.int .i64 0] 172 (0,0)):=hF1.at (heap_alloc_new _ _) (by simp;omega)
  have k0:=cell_two0 b0
  have k1:=cell_two1 b0
  have k2:=free_two 0 b0
  have k3:=free_two 1 b0
  have hl1:w.heap.size<w1.heap.size:=lt_of_block b0
  have HA:=hide hA1
  have HF:=hide (Fr.after ((Fr.refl [ab,wb] w).alloc _) hF1 (fun y hy=>Or.inl hy))
  clear hA1 hF1 b0
  go_wp2
  refine bodyPost_ret (v:=.agg #[.int .i64 (A.top:Nat),.int .i64 n]) (by simp[results,Tryz.results116,go_sem,k0,k1,hl1]) rfl ⟨rfl,?_,?_⟩
  ·have hT1:TabAt w1 tb ab wb (A.bump n):=HH.out.of HF.out (by simp;omega) HA.out
   exact((hT1.other (by omega) (by omega) (by omega)).other (by omega) (by omega) (by omega)).ext (ext_alloc _ _)
  ·exact((HF.out.setCell (Or.inr (Nat.le_refl _)) _).setCell (Or.inr (Nat.le_refl _)) _).alloc _
 ·intro w1 hy
  rw[HTK.out] at hy
  simp at hy
end Go.Proofs.YtnapboelfimaaaaGreatDoor
namespace Go.Proofs.YtnapboelfimaaaaGreatDoor
open Go.RowKit Go.Deep
theorem range_pref (K l:Nat) {w:World} {b:Nat} {t:TypeId} {fz:Nat × Nat} (h:w.heap[b]?=some (.cells (prefL K l).toArray t fz)):w.rangeAt b 0 (keyL K):=fun j v hj=>by
 have hlt:j<(keyL K).length:=(List.getElem?_eq_some_iff.1 hj).1
 rw[cell_at h,List.getElem?_toArray,Nat.zero_add]
 unfold prefL
 rw[List.getElem?_append_left hlt]
 exact hj
theorem range_whole (K l:Nat) {w:World} {b:Nat} {t:TypeId} {fz:Nat × Nat} (h:w.heap[b]?=some (.cells (prefL K l).toArray t fz)):w.rangeAt b 0 (prefL K l):=fun j v hj=>by
 rw[cell_at h,List.getElem?_toArray,Nat.zero_add]
 exact hj
theorem pref_17 (K l:Nat) {w:World} {b:Nat} {t:TypeId} {fz:Nat × Nat} (h:w.heap[b]?=some (.cells (prefL K l).toArray t fz)):w.cell? ⟨b,17,none⟩=some (.int .i64 (l:Int)):=by
 rw[cell_at h,List.getElem?_toArray]
 unfold prefL
 rw[List.getElem?_append_right (by simp[keyL])]
 simp[keyL]
theorem node_x (A:Ar) (tb ab wb:Nat) (x:Int) (p:Nat) (n:NodeD) (w:World) (h:TabAt w tb ab wb A) (hs:Sane A) (hx:x=p) (hp:p+1<A.size) (hn:n=nodeAt A.word p) :
  Calls Tryz.prog 107 #[.pointer (some ⟨tb,0,none⟩),.int .i64 x] w fun e w'=>e=.returned (.agg #[.int .u16 n.routes,.int .u16 n.ways,.int .i64 n.hops,.int .i64 n.children])∧Below w.heap.size w w':=by
 subst hn
 exact node_any A tb ab wb x p w h hs hx hp
theorem new_plain {W w':World} {c:Array Value} {t:TypeId} (hb:Below (W.alloc (.cells c t)).heap.size (W.alloc (.cells c t)) w'):w'.heap[W.heap.size]?=some (.cells c t (0,0)):=block_ext (heap_alloc_new _ _) hb
theorem new_drew {W w':World} {c:Array Value} {t:TypeId} (hb:Below (W.alloc (.cells c t)).drew.heap.size (W.alloc (.cells c t)).drew w'):w'.heap[W.heap.size]?=some (.cells c t (0,0)):=block_ext (block_ext (heap_alloc_new _ _) (drew_ext _)) hb
theorem cells4 {w:World} {b:Nat} {a0 a1 a2 a3:Value} {t:TypeId} (h:w.heap[b]?=some (.cells #[a0,a1,a2,a3] t (0,0))):w.cell? ⟨b,0,none⟩=some a0∧w.cell? ⟨b,1,none⟩=some a1∧w.cell? ⟨b,2,none⟩=some a2∧w.cell? ⟨b,3,none⟩=some a3∧w.frozen? ⟨b,0,none⟩=false∧w.frozen? ⟨b,1,none⟩=false∧w.frozen? ⟨b,2,none⟩=false∧w.frozen? ⟨b,3,none⟩=false:=by
 simp[World.cell?,World.frozen?,h]
theorem store4 {w:World} {b:Nat} {a0 a1 a2 a3 c0 c1 c2 c3:Value} {t:TypeId} (h:w.heap[b]?=some (.cells #[a0,a1,a2,a3] t (0,0))):((((w.setCell ⟨b,0,none⟩ c0).setCell ⟨b,1,none⟩ c1).setCell ⟨b,2,none⟩ c2).setCell ⟨b,3,none⟩ c3).heap[b]?=some (.cells #[c0,c1,c2,c3] t (0,0)):=by
 have g:∀(w:World) (i:Nat) (c:Array Value) (v:Value),w.heap[b]?=some (.cells c t (0,0))→(w.setCell ⟨b,i,none⟩ v).heap[b]?=some (.cells (c.setIfInBounds i v) t (0,0)):=by
  intro w i c v hw
  have hlt:=lt_of_block hw
  have h':w.heap[b]=.cells c t (0,0):=by simpa [Array.getElem?_eq_getElem hlt] using hw
  show (w.heap.modify b _)[b]?=_
  rw[Array.getElem?_eq_getElem (by simpa using hlt),Array.getElem_modify_self,h']
  rfl
 rw[g _ 3 _ c3 (g _ 2 _ c2 (g _ 1 _ c1 (g _ 0 _ c0 h)))]
 rfl
theorem Good.sane {A:Ar} {F:Nat→List Nat} {m:Nat} (h:Good A F m) (hm:m≤4000):Sane A:=⟨h.ok.size,h.ok.top,fun s h1 h2=>h.given_in h1 h2,h.wok,by have:=h.lo;omega,by have:=h.hi;omega⟩
theorem take_some (A:Ar) (ab wb n:Nat) (x:Int) (w:World) (h:ArAt w ab wb A) (hs:Sane A) (hx:x=n) (h1:1≤n) (h2:n≤32) (B:Ar) (y:Nat) (e:A.take n=(B,some y)) :
  Calls Tryz.prog 122 #[.pointer (some ⟨ab,0,none⟩),.int .i64 x] w fun e w'=>e=.returned (.tuple #[.agg #[.int .i64 (y:Nat),.int .i64 n],.bool true])∧ArAt w' ab wb B∧Fr [ab,wb] w w':=by
 subst hx
 refine take_any A ab wb n w h hs h1 h2 _ ?_ ?_
 ·intro x' B' w' e' hA hF
  rw[e] at e'
  simp only[Prod.mk.injEq,Option.some.injEq] at e'
  obtain⟨rfl,rfl⟩:=e'
  exact⟨rfl,hA,hF⟩
 ·intro w' e'
  rw[e] at e'
  simp at e'
theorem take_no (A:Ar) (ab wb n:Nat) (x:Int) (w:World) (h:ArAt w ab wb A) (hs:Sane A) (hx:x=n) (h1:1≤n) (h2:n≤32) (B:Ar) (e:A.take n=(B,none)) :
  Calls Tryz.prog 122 #[.pointer (some ⟨ab,0,none⟩),.int .i64 x] w fun e w'=>e=.returned (.tuple #[.agg #[.int .i64 0,.int .i64 0],.bool false])∧ArAt w' ab wb B∧Fr [ab,wb] w w':=by
 subst hx
 refine take_any A ab wb n w h hs h1 h2 _ ?_ ?_
 ·intro x' B' w' e' hA hF
  rw[e] at e'
  simp at e'
 ·intro w' e' hA hF
  rw[e] at e'
  simp only[Prod.mk.injEq,and_true] at e'
  subst e'
  exact⟨rfl,hA,hF⟩
theorem grow_some (A:Ar) (ab wb b n gap more:Nat) (x y z u:Int) (w:World) (h:ArAt w ab wb A) (hs:Sane A) (hx:x=b) (hy:y=n) (hz:z=gap) (hu:u=more) (h1:1≤more) (h2:n+more≤32) (h3:gap≤n) (h4:b+n≤A.size) (h5:b<A.size)
  (hB:∀x B,A.take (n+more)=(B,some x)→B.size=A.size∧x+(n+more)≤A.size∧(n≠0→B.given n<65536)∧-100000≤B.free∧B.free≤100000) (B:Ar) (p:Nat) (e:A.grow b n gap more=(B,some p)) :
  Calls Tryz.prog 120 #[.pointer (some ⟨ab,0,none⟩),.agg #[.int .i64 x,.int .i64 y],.int .i64 z,.int .i64 u] w fun e w'=>e=.returned (.tuple #[.agg #[.int .i64 (p:Nat),.int .i64 ((n+more:Nat):Int)],.bool true])∧ArAt w' ab wb B∧Fr [ab,wb] w w':=by
 subst hx hy hz hu
 refine grow_any A ab wb b n gap more w h hs h1 h2 h3 h4 h5 hB _ ?_ ?_
 ·intro x' B' w' e' hA hF
  rw[e] at e'
  simp only[Prod.mk.injEq,Option.some.injEq] at e'
  obtain⟨rfl,rfl⟩:=e'
  exact⟨rfl,hA,hF⟩
 ·intro w' e'
  rw[e] at e'
  simp at e'
theorem grow_no (A:Ar) (ab wb b n gap more:Nat) (x y z u:Int) (w:World) (h:ArAt w ab wb A) (hs:Sane A) (hx:x=b) (hy:y=n) (hz:z=gap) (hu:u=more) (h1:1≤more) (h2:n+more≤32) (h3:gap≤n) (h4:b+n≤A.size) (h5:b<A.size)
  (hB:∀x B,A.take (n+more)=(B,some x)→B.size=A.size∧x+(n+more)≤A.size∧(n≠0→B.given n<65536)∧-100000≤B.free∧B.free≤100000) (B:Ar) (e:A.grow b n gap more=(B,none)) :
  Calls Tryz.prog 120 #[.pointer (some ⟨ab,0,none⟩),.agg #[.int .i64 x,.int .i64 y],.int .i64 z,.int .i64 u] w fun e w'=>e=.returned (.tuple #[.agg #[.int .i64 0,.int .i64 0],.bool false])∧ArAt w' ab wb B∧Fr [ab,wb] w w':=by
 subst hx hy hz hu
 refine grow_any A ab wb b n gap more w h hs h1 h2 h3 h4 h5 hB _ ?_ ?_
 ·intro x' B' w' e' hA hF
  rw[e] at e'
  simp at e'
 ·intro w' e' hA hF
  rw[e] at e'
  simp only[Prod.mk.injEq,and_true] at e'
  subst e'
  exact⟨rfl,hA,hF⟩
theorem fr_below {S:List Nat} {w w':World} (h:Below w.heap.size w w'):Fr S w w':=Fr.of_below h
end Go.Proofs.YtnapboelfimaaaaGreatDoor
