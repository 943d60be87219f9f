/- Dee, Wri, Puh, Nee: parts of the proof, one behind the other. -/
import Derived.Test.YtnapboelfimaaaaGreatDoorB15
namespace Go.Proofs.YtnapboelfimaaaaGreatDoor
open Go.RowKit Go.Deep
theorem reach_step {W:Nat→Nat} {K l s t x y T:Nat} (hl:l≤136) (h:8+4*t+4≤l) (ht:t<s) (hr:reach W l (fitK K l) (s-t) (8+4*t) x=(y,8+4*T)) :
  ((nodeAt W x).ways.testBit (kfour K t)=true→reach W l (fitK K l) (s-(t+1)) (8+4*(t+1)) ((nodeAt W x).kid (kfour K t))=(y,8+4*T))∧((nodeAt W x).ways.testBit (kfour K t)=false→x=y∧t=T):=by
 rw[show s-t=(s-(t+1))+1 by omega] at hr
 unfold reach at hr
 rw[fourV_key h hl,←kfour_fit] at hr
 constructor
 ·intro hb
  rw[if_pos hb] at hr
  exact hr
 ·intro hb
  rw[hb] at hr
  simp only[Bool.false_eq_true,if_false,Prod.mk.injEq] at hr
  exact⟨hr.1,by omega⟩
set_option maxHeartbeats 2000000 in
set_option maxRecDepth 10000 in
theorem deepest_none (A:Ar) (F:Nat→List Nat) (M:Bool→Tab) (tb ab wb:Nat) (f:Int) (q:Bool) (K l:Nat) (w:World) (h:TabAt w tb ab wb A) (hs:Sane A) (hI:Inv A F M) (hq:q=decide (f=6)) (h0:A.word (rt q+kbyte K 0)%65536=0) :
  Calls Tryz.prog 105 #[.pointer (some ⟨tb,0,none⟩),.int .i64 f,.agg (prefL K l).toArray] w fun e w'=>e=.returned (.tuple #[.int .i64 0,.int .i64 (-1)])∧Below w.heap.size w w':=by
 have hk0:=kbyte_lt K 0
 have HFI:=hide (fun (w:World) (h:TabAt w tb ab wb A)=>first_any A tb ab wb f q (kbyte K 0) w h hs hq hk0 hI.size ((hI.root q).lt _ hk0))
 rw[h0] at HFI
 obtain⟨wx,hwx⟩:∃wx,wx=w.alloc (.cells (prefL K l).toArray 128):=⟨_,rfl⟩
 have hb0:wx.heap[w.heap.size]?=some (.cells (prefL K l).toArray 128 (0,0)):=by rw[hwx];exact heap_alloc_new _ _
 have d0:=pref_at K l hb0 0 (by omega)
 have HBX:Below w.heap.size w wx:=by rw[hwx];exact ext_alloc _ _
 have HT:=hide (h.ext HBX)
 have HBX:=hide HBX
 have HWX:=hide hwx
 have hsx:w.heap.size<wx.heap.size:=lt_of_block hb0
 clear h hq hwx hb0
 go_enter Tryz.func105,Tryz.ntmps105
 go_wp2_with (first | rw[←HWX.out] | fail)
 refine(HFI.out _ HT.out).mono ?_
 rintro e w1 ⟨rfl,hb1⟩
 have HB1:=hide (ext_trans HBX.out hb1)
 clear hb1
 go_wp2
 exact bodyPost_ret (v:=.tuple #[.int .i64 0,.int .i64 (-1)]) (by simp[results,Tryz.results105,go_sem]) rfl ⟨rfl,ext_trans HB1.out (ext_alloc _ _)⟩
set_option maxHeartbeats 4000000 in
set_option maxRecDepth 10000 in
theorem deepest_some (A:Ar) (F:Nat→List Nat) (M:Bool→Tab) (tb ab wb:Nat) (f:Int) (q:Bool) (K l x0 y T:Nat) (w:World) (h:TabAt w tb ab wb A) (hs:Sane A) (hI:Inv A F M) (hq:q=decide (f=6)) (_hK:K<2^136) (h8:8≤l) (hl:l≤8+4*dp q) (hx0:x0=A.word (rt q+kbyte K 0)%65536) (h0:x0≠0) (hr:reach A.word l (fitK K l) ((l-8)/4) 8 x0=(y,8+4*T)) :
  Calls Tryz.prog 105 #[.pointer (some ⟨tb,0,none⟩),.int .i64 f,.agg (prefL K l).toArray] w fun e w'=>e=.returned (.tuple #[.int .i64 (y:Nat),.int .i64 (T:Nat)])∧Below w.heap.size w w':=by
 have hk0:=kbyte_lt K 0
 have hd:=dp_le q
 obtain⟨s,hsd⟩:∃s,s=(l-8)/4:=⟨_,rfl⟩
 have hs30:(s:Int)≤30:=by omega
 have hsl:8+4*s≤l:=by omega
 have hsq:s≤dp q:=by omega
 have HFI:=hide (fun (w:World) (h:TabAt w tb ab wb A)=>first_any A tb ab wb f q (kbyte K 0) w h hs hq hk0 hI.size ((hI.root q).lt _ hk0))
 have hO:On A (M q) (dp q) 8 (kbyte K 0) x0:=by rw[hx0];exact On.root hI q hk0 (by rw[←hx0];exact h0)
 obtain⟨sh,hshd⟩:∃sh,sh=A.word (rt q+kbyte K 0)/65536:=⟨_,rfl⟩
 rw[←hx0,←hshd] at HFI
 rw[←hsd] at hr
 have HDE:=hide (fun (w:World)=>depth_any K l w (by omega) h8)
 rw[←hsd] at HDE
 have hz:=hs.size
 have HO:=hide hO
 have HR:=hide hr
 obtain⟨wx,hwx⟩:∃wx,wx=w.alloc (.cells (prefL K l).toArray 128):=⟨_,rfl⟩
 have hb0:wx.heap[w.heap.size]?=some (.cells (prefL K l).toArray 128 (0,0)):=by rw[hwx];exact heap_alloc_new _ _
 have d0:=pref_at K l hb0 0 (by omega)
 have HBX:Below w.heap.size w wx:=by rw[hwx];exact ext_alloc _ _
 have HT:=hide (h.ext HBX)
 have HBX:=hide HBX
 have HWX:=hide hwx
 have HB0:=hide hb0
 have hsx:w.heap.size<wx.heap.size:=lt_of_block hb0
 have hx0':(x0:Int)≠0:=by omega
 clear h hq hwx hb0 hx0 hshd hO hr hsd
 go_enter Tryz.func105,Tryz.ntmps105
 go_wp2_with (first | rw[←HWX.out] | fail)
 refine(HFI.out _ HT.out).mono ?_
 rintro e w1 ⟨rfl,hb1⟩
 have HB1:=hide (show Below wx.heap.size wx w1 from hb1)
 have hs1:=hb1.size
 clear hb1 d0
 go_wp2_with fail
 have hx1:((x0:Int)==0)=false:=by simpa using hx0'
 rw[hx1]
 clear hx1
 go_loopw [6,7] (fun p i wr=>∃t x u:Nat,p=.int .i64 (x:Int)∧i=.int .i64 (t:Int)∧t≤s∧On A (M q) (dp q-t) (8+4*t) u x∧reach A.word l (fitK K l) (s-t) (8+4*t) x=(y,8+4*T)∧Below wx.heap.size wx wr) (fun _ i _=>s-(intOf i).toNat)
 case atStart=>exact⟨0,x0,_,rfl,rfl,by omega,HO.out,HR.out,ext_trans HB1.out (ext_alloc _ _)⟩
 case round =>
  obtain⟨t,x,u,rfl,rfl,hts,hO,hR,hB⟩:=hrel
  have hlt:=hO.lt
  have hok:=hO.ok
  have HB2:=hide (block_ext HB0.out hB)
  have HB:=hide hB
  have HO2:=hide hO
  have HR2:=hide hR
  clear hB hO hR
  go_wp2_with (show wpList _ _ _ (⟨_,.load 128 _,_,_,_,_⟩ :: _) _ _;refine wpList_load_whole rfl 128 _ rfl w.heap.size rfl (prefL K l) _ 128 (0,0) HB2.out Tryz.underlying128 rfl (pref_info K l) ?_)
  refine(HDE.out _).mono ?_
  rintro e w3 ⟨rfl,hb3⟩
  have b3:=block_ext HB2.out hb3
  have HB3:=hide (ext_trans HB.out hb3)
  have HT3:=hide (HT.out.ext HB3.out)
  have hs3:=HB3.out.size
  clear hb3
  have hnd:(nodeAt A.word x)=nodeAt A.word x:=rfl
  obtain⟨n,hn⟩:∃n,n=nodeAt A.word x:=⟨_,rfl⟩
  have f16:=kfour_lt K t
  rw[←hn] at hok
  have HN:=hide hn
  clear hn hnd
  by_cases hts2:t<s
  ·have hts3:(t:Int)<s:=by omega
   have ht31:t≤31:=by omega
   go_wp2_with fail
   go_cut [10,11] (fun v1 v2 wc=>∃fb,v1=.pointer (some ⟨fb,0,none⟩)∧v2=.int .i64 (kfour K t:Nat)∧wc.heap[fb]?=some (.cells #[.int .u16 n.routes,.int .u16 n.ways,.int .i64 n.hops,.int .i64 n.children] 142 (0,0))∧Below w3.heap.size w3 wc)
   case first =>
    have KS:∀w',Below w3.heap.size w3 w'→Below w3.heap.size w3 w'∧w'.rangeAt w.heap.size 0 (keyL K):=fun w' hb=>⟨hb,range_pref K l (block_ext b3 hb)⟩
    have hu:=Tryz.underlying126
    have hi:=key_info K
    go_region_held3 (fun w':World=>Below w3.heap.size w3 w'∧w'.rangeAt w.heap.size 0 (keyL K)) (with_reducible (first | assumption | exact KS _ (drew_ext w3) | exact KS _ (by assumption) | exact KS _ (ext_trans (by assumption) (ext_alloc _ _)) | exact KS _ (Below.drew (ext_alloc _ _)) | (refine KS _ (Below.setCell (Below.setCell (Below.setCell (Below.setCell (by assumption) ?_ _) ?_ _) ?_ _) ?_ _) <;> first | assumption | exact Nat.le_refl _))) (first | (go_at_call 107;refine(node_x A tb ab wb _ x n _ (HT3.out.ext (And.left (by assumption))) hs rfl hlt.2 HN.out).mono ?_;rintro e w5 ⟨rfl,hb5⟩;have S5:=(ext_trans (And.left (by assumption)) hb5:Below w3.heap.size w3 w5);have z5:=S5.size;with_reducible (first | (have b5:=new_drew hb5;obtain⟨g0,g1,g2,g3,g4,g5,g6,g7⟩:=cells4 b5) | (have b5:=new_plain hb5;obtain⟨g0,g1,g2,g3,g4,g5,g6,g7⟩:=cells4 b5) | skip);clear hb5) | (go_at_call 115;refine(four_any K t _ _ ht31 rfl).mono ?_;rintro e w6 ⟨rfl,hb6⟩;have S6:=(ext_trans (And.left (by assumption)) hb6:Below w3.heap.size w3 w6);have z6:=S6.size;with_reducible (first | (have b6:=new_drew hb6;obtain⟨g0,g1,g2,g3,g4,g5,g6,g7⟩:=cells4 b6) | (have b6:=new_plain hb6;obtain⟨g0,g1,g2,g3,g4,g5,g6,g7⟩:=cells4 b6) | (have b6:=block_ext b5 hb6;obtain⟨g0,g1,g2,g3,g4,g5,g6,g7⟩:=cells4 b6) | skip);clear hb6))
    all_goals (go_wp2_with fail;go_meet)
    ·set_option maxHeartbeats 200000 in
     case rel =>
      refine⟨w6.heap.size,rfl,rfl,?_,?_⟩
      ·exact heap_alloc_new _ _
      ·exact ext_trans S6 (ext_alloc _ _)
    ·set_option maxHeartbeats 200000 in
     case rel =>
      refine⟨w5.heap.size,rfl,rfl,?_,?_⟩
      ·exact store4 b6
      ·exact Below.setCell (Below.setCell (Below.setCell (Below.setCell S6 z5 _) z5 _) z5 _) z5 _
    ·set_option maxHeartbeats 200000 in
     case rel =>
      refine⟨w3.heap.size,rfl,rfl,?_,?_⟩
      ·exact store4 b6
      ·exact Below.setCell (Below.setCell (Below.setCell (Below.setCell S6 (Nat.le_refl _) _) (Nat.le_refl _) _) (Nat.le_refl _) _) (Nat.le_refl _) _
   case rest =>
    obtain⟨fb,rfl,rfl,hfb,hB4⟩:=hcut
    obtain⟨g0,g1,g2,g3,g4,g5,g6,g7⟩:=cells4 hfb
    have hl4:=lt_of_block hfb
    have HF4:=hide hfb
    have HB4:=hide (ext_trans HB3.out hB4)
    have hst:=reach_step (K:=K) (by omega) (show 8+4*t+4≤l by omega) hts2 HR2.out
    rw[←HN.out] at hst
    have HST:=hide hst
    clear hfb hB4 b3 hst g4 g5 g6 g7
    go_wp2_with fail
    refine(hasWay_any n (kfour K t) _ hok (by omega)).mono ?_
    rintro e w7 ⟨rfl,hb7⟩
    have b7:=block_ext HF4.out hb7
    obtain⟨k0,k1,k2,k3,k4,k5,k6,k7⟩:=cells4 b7
    have hl7:=lt_of_block b7
    have HB7:=hide (ext_trans HB4.out hb7)
    clear hb7 b7 k4 k5 k6 k7 g0 g1 g2 g3
    by_cases hbit:n.ways.testBit (kfour K t)=true
    ·go_wp2_with fail
     refine(childPlace_any n (kfour K t) _ hok (by omega)).mono ?_
     rintro e w8 ⟨rfl,hb8⟩
     have HB8:=hide (ext_trans HB7.out hb8)
     clear hb8
     have hkid:On A (M q) (dp q-(t+1)) (8+4*(t+1)) (16*u+kfour K t) (n.kid (kfour K t)):=by
      have:=HO2.out
      rw[show dp q-t=(dp q-(t+1))+1 by omega] at this
      have h2:=this.kid f16 (by rw[←HN.out];exact hbit)
      rw[←HN.out] at h2
      exact h2
     have HKI:=hide hkid
     clear hkid
     go_wp2
     go_roundw
     case rel=>exact⟨t+1,n.kid (kfour K t),_,rfl,by go_num,by omega,HKI.out,HST.out.1 hbit,HB8.out⟩
     case measure=>simp[intOf];omega
    ·have hbit':n.ways.testBit (kfour K t)=false:=by simpa using hbit
     obtain⟨rfl,rfl⟩:=HST.out.2 hbit'
     go_wp2
     exact bodyPost_ret (v:=.tuple #[.int .i64 (x:Nat),.int .i64 (t:Nat)]) (by simp[results,Tryz.results105,go_sem]) rfl ⟨rfl,ext_trans HBX.out HB7.out⟩
  ·have hts3:t=s:=by omega
   subst hts3
   have he:=HR2.out
   rw[Nat.sub_self] at he
   unfold reach at he
   simp only[Prod.mk.injEq] at he
   have hT:t=T:=by omega
   obtain⟨rfl,_⟩:=he
   subst hT
   go_wp2
   exact bodyPost_ret (v:=.tuple #[.int .i64 (x:Nat),.int .i64 (t:Nat)]) (by simp[results,Tryz.results105,go_sem]) rfl ⟨rfl,ext_trans HBX.out HB3.out⟩
end Go.Proofs.YtnapboelfimaaaaGreatDoor
namespace Go.Proofs.YtnapboelfimaaaaGreatDoor
open Go.RowKit Go.Deep
theorem one_src {W:World} {b hp j:Nat} {u:Value} (o:Nat) (_k:Nat) (hj:(wordVals [hp])[j]?=some u) (h:W.cell? ⟨b,o,none⟩=some (.int .u32 (hp:Int))):W.cell? ⟨b,o+j,none⟩=some u:=by
 match j,hj with
 | 0,hj=>simp[wordVals] at hj;subst hj;exact h
 | j+1,hj=>simp[wordVals] at hj
theorem or16 (x k:Nat) (hx:x<65536) (hk:k<16):bits BinOp.or IntKind.u16 (x:Int) ((2:Int)^k)=((x ||| 2^k:Nat):Int):=by
 have hp:2^k≤2^15:=Nat.pow_le_pow_right (by decide) (by omega)
 rw[show (2:Int)^k=((2^k:Nat):Int) by norm_cast,u16_or_nat x (2^k) hx (by omega)]
theorem andNot16 (x l:Nat) (hx:x<65536) (hl:l<16):bits BinOp.andNot IntKind.u16 (x:Int) ((2:Int)^l)=((clr x l:Nat):Int):=by
 have hp:2^l≤2^15:=Nat.pow_le_pow_right (by decide) (by omega)
 have h1:=u16_andNot_nat x (2^l) hx (by omega)
 rw[show (2:Int)^l=((2^l:Nat):Int) by norm_cast,h1]
 congr 1
 apply Nat.eq_of_testBit_eq
 intro i
 rw[Nat.testBit_and]
 by_cases hi:i=l
 ·subst hi
  rw[clr_bit,show 65535-2^i=2^16-(2^i+1) by omega,Nat.testBit_two_pow_sub_succ (by omega),Nat.testBit_two_pow_self]
  simp
 ·rw[clr_bits _ _ _ hi,show 65535-2^l=2^16-(2^l+1) by omega,Nat.testBit_two_pow_sub_succ (by omega),Nat.testBit_two_pow]
  by_cases h8:i<16
  ·simp[h8,Ne.symm hi]
  ·have:x.testBit i=false:=Nat.testBit_lt_two_pow (Nat.lt_of_lt_of_le hx (Nat.pow_le_pow_right (n:=2) (by decide) (show 16≤i by omega)))
   simp[this]
theorem drewN_ext (w:World) (n:Nat):Below w.heap.size w (w.drewN n):=⟨rfl,rfl,rfl,Nat.le_refl _,fun _ _=>rfl⟩
theorem before_x (bm bit:Nat) (x:Int) (w:World) (hx:x=bit) (h:bm<65536) (hb:bit≤15):Calls Tryz.prog 75 #[.int .u16 bm,.int .i64 x] w fun e w'=>e=.returned (.int .i64 (ones bit bm))∧Below w.heap.size w w':=by
 subst hx
 refine(before_any bm bit w h hb).mono ?_
 rintro e w' ⟨rfl,n,rfl⟩
 exact⟨rfl,drewN_ext _ _⟩
theorem cells2 {w:World} {b:Nat} {a0 a1:Value} {t:TypeId} (h:w.heap[b]?=some (.cells #[a0,a1] t (0,0))):w.cell? ⟨b,0,none⟩=some a0∧w.cell? ⟨b,1,none⟩=some a1∧w.frozen? ⟨b,0,none⟩=false∧w.frozen? ⟨b,1,none⟩=false:=by
 simp[World.cell?,World.frozen?,h]
theorem store2 {w:World} {b:Nat} {a0 a1 c0 c1:Value} {t:TypeId} (h:w.heap[b]?=some (.cells #[a0,a1] t (0,0))):((w.setCell ⟨b,0,none⟩ c0).setCell ⟨b,1,none⟩ c1).heap[b]?=some (.cells #[c0,c1] t (0,0)):=by
 rw[heap_setCell_at c1 (heap_setCell_at c0 h)]
 rfl
theorem TabAt.frw {w w':World} {tb ab wb:Nat} {A:Ar} (h:TabAt w tb ab wb A) {S:List Nat} (hf:Fr S w w') (hn:tb ∉ S):w'.cell? ⟨tb,0,none⟩=some (.pointer (some ⟨ab,0,none⟩)):=by
 rw[cell_at (hf.at h.tab hn)];rfl
theorem cells4n {w:World} {b:Nat} {n:NodeD} {t:TypeId} (h:w.heap[b]?=some (.cells #[.int .u16 n.routes,.int .u16 n.ways,.int .i64 n.hops,.int .i64 n.children] t (0,0))):w.cell? ⟨b,0,none⟩=some (.int .u16 n.routes)∧w.cell? ⟨b,1,none⟩=some (.int .u16 n.ways)∧w.cell? ⟨b,2,none⟩=some (.int .i64 n.hops)∧w.cell? ⟨b,3,none⟩=some (.int .i64 n.children) :=
 ⟨(cells4 h).1,(cells4 h).2.1,(cells4 h).2.2.1,(cells4 h).2.2.2.1⟩
end Go.Proofs.YtnapboelfimaaaaGreatDoor
namespace Go.Proofs.YtnapboelfimaaaaGreatDoor
open Go.RowKit Go.Deep
set_option maxHeartbeats 2000000 in
set_option maxRecDepth 10000 in
theorem putHop_there (A:Ar) (F:Nat→List Nat) (M:Tab) (m tb ab wb d len u y k hop:Nat) (w:World) (h:TabAt w tb ab wb A) (hG:Good A F m) (hm:m≤3000) (hO:OnF A F M d len u y) (hk:k≤14) (hhop:hop<65536) (hbit:(nodeAt A.word y).routes.testBit k=true) :
  Calls Tryz.prog 111 #[.pointer (some ⟨tb,0,none⟩),.int .i64 (y:Nat),.int .i64 (k:Nat),.int .i64 (hop:Nat)] w fun e w'=>e=.returned (.bool true)∧TabAt w' tb ab wb { A with word:=setW A.word ((nodeAt A.word y).hops+ones k (nodeAt A.word y).routes) hop }∧Fr [ab,wb] w w':=by
 have hs:=hG.sane (by omega)
 have hlt:=hO.on.lt
 have hok:=hO.on.ok
 have hin:=hO.on.hop_in (i:=k) (by omega) hbit
 have hz:=hs.size
 obtain⟨nn,hn⟩:∃n,n=nodeAt A.word y:=⟨_,rfl⟩
 rw[←hn] at hok hbit hin ⊢
 have HND:=hide (node_x A tb ab wb y y nn w h hs rfl hlt.2 hn)
 have hk':(k:Int)≤14:=by omega
 have hhop':(hop:Int)<65536:=by omega
 have HT:=hide h
 have hnw:=h.nw
 have hwt:=h.ar.lw
 have htt:=h.lt
 have hwh:IntKind.u32.wrap (hop:Int)=(hop:Int):=by rw[IntKind.wrap_u32];omega
 clear hn h hO hG
 go_enter Tryz.func111,Tryz.ntmps111
 go_wp2_with fail
 refine HND.out.mono ?_
 rintro e w1 ⟨rfl,hb1⟩
 have HB1:=hide hb1
 have hs1:=hb1.size
 clear hb1
 go_wp2_with fail
 refine(hasRoute_any nn k _ hok (by omega)).mono ?_
 rintro e wq ⟨rfl,hb2⟩
 have b2:=new_plain hb2
 have HB2:=hide (ext_trans HB1.out (ext_trans (ext_alloc _ _) hb2))
 have hw2:w1.heap.size<wq.heap.size:=lt_of_block b2
 have HTW:=hide (HT.out.ext HB2.out)
 clear hb2
 obtain⟨nb,hnb⟩:∃nb,nb=w1.heap.size:=⟨_,rfl⟩
 have HNB:=hide hnb
 rw[←hnb] at b2 hw2 hs1
 have hnbw:nb≠wb:=by omega
 clear hnb
 obtain⟨AW,hAW⟩:∃AW,AW=A:=⟨_,rfl⟩
 subst hAW
 have hokn:=hok
 obtain⟨off,hoff⟩:∃off,off=nn.hops+ones k nn.routes:=⟨_,rfl⟩
 have hfit:off + [hop].length≤AW.size:=by rw[hoff];simp;omega
 have KS:∀w',Fr [wb] wq w'→(fun w':World=>Fr [wb] wq w'∧w'.cell? ⟨tb,0,none⟩=some (.pointer (some ⟨ab,0,none⟩))∧w'.cell? ⟨nb,0,none⟩=some (.int .u16 nn.routes)∧w'.cell? ⟨nb,1,none⟩=some (.int .u16 nn.ways)∧w'.cell? ⟨nb,2,none⟩=some (.int .i64 nn.hops)∧w'.cell? ⟨nb,3,none⟩=some (.int .i64 nn.children)) w':=fun w' hf=>⟨hf,HTW.out.frw hf (by simpa using hnw),cells4n (hf.at b2 (by simpa using hnbw))⟩
 simp only[] at KS
 have HOFF:=hide hoff
 clear hoff
 go_wp2_with fail
 rw[←HNB.out]
 go_region_held3 (fun w':World=>Fr [wb] wq w'∧w'.cell? ⟨tb,0,none⟩=some (.pointer (some ⟨ab,0,none⟩))∧w'.cell? ⟨nb,0,none⟩=some (.int .u16 nn.routes)∧w'.cell? ⟨nb,1,none⟩=some (.int .u16 nn.ways)∧w'.cell? ⟨nb,2,none⟩=some (.int .i64 nn.hops)∧w'.cell? ⟨nb,3,none⟩=some (.int .i64 nn.children)) (with_reducible (first | assumption | exact KS _ (fr_below (drew_ext wq)) | exact KS _ (by assumption) | exact KS _ (fr_below (by assumption)) | exact KS _ (fr_below (ext_trans (by assumption) (ext_alloc _ _))) | exact KS _ (fr_below (Below.drew (ext_alloc _ _))) | exact KS _ (Fr.alloc (by assumption) _) | (refine KS _ (Fr.setCell (Fr.setCell (by assumption) (Or.inr ?_) _) (Or.inr ?_) _) <;> first | assumption | exact Nat.le_refl _))) (first | (go_at_call 71;refine(hopPlace_any nn k _ hokn (by omega)).mono ?_;rintro e w5 ⟨rfl,hb5⟩;with_reducible (first | (have b5:=new_drew hb5;have S5:=(ext_trans (Below.drew (ext_alloc _ _)) hb5:Below wq.heap.size wq w5)) | (have S5:=(ext_trans (drew_ext wq) hb5:Below wq.heap.size wq w5)));clear hb5) | (first | (go_at_call 104;refine(write_any AW ab wb _ off 1 1 [hop] _ _ (HTW.out.ar.ext S5) (by rw[HOFF.out];first | rfl | omega) (by simp) rfl hfit (by intro j u hj;rw[addr_add];exact one_src 0 0 hj (by rw[cell_at b5];rfl))).mono ?_;rintro e w6 ⟨rfl,hA6,hF6⟩;have F6:=(Fr.after (fr_below S5) hF6 (fun y hy=>Or.inl hy):Fr [wb] wq w6);clear hF6) | (go_at_call 104;refine(write_any AW ab wb _ off 1 1 [hop] _ _ (HTW.out.ar.ext (ext_trans S5 (ext_alloc _ _))) (by rw[HOFF.out];first | rfl | omega) (by simp) rfl hfit (by intro j u hj;rw[addr_add];exact one_src 0 0 hj (by rw[cell_new rfl];rfl))).mono ?_;rintro e w6 ⟨rfl,hA6,hF6⟩;have F6:=(Fr.after (fr_below (ext_trans S5 (ext_alloc _ _))) hF6 (fun y hy=>Or.inl hy):Fr [wb] wq w6);clear hF6)))
 all_goals
  have hX:TabAt w6 tb ab wb { AW with word:=setW AW.word (nn.hops+ones k nn.routes) hop }:=by
   have:=HTW.out.of F6 (by simpa using hnw) hA6
   rw[lay_one,HOFF.out] at this
   exact this
  have HX:=hide (And.intro hX (Fr.after (fr_below HB2.out) F6 (fun y hy=>Or.inl (by simp at hy ⊢;exact Or.inr hy)):Fr [ab,wb] w w6))
  clear hX F6 hA6 KS
  go_wp2
  go_ret
  exact⟨rfl,HX.out.1,HX.out.2⟩
theorem block_more {w:World} {b:Nat} {n:NodeD} {k p:Nat} {t:TypeId} (h:w.heap[b]?=some (.cells #[.int .u16 n.routes,.int .u16 n.ways,.int .i64 n.hops,.int .i64 n.children] t (0,0))):(((w.setCell ⟨b,2,none⟩ (.int .i64 (p:Int))).setCell ⟨b,0,none⟩ (.int .u16 ((n.routes ||| 2^k:Nat):Int))).drew).heap[b]?=some (.cells #[.int .u16 (n.moreHop k p).routes,.int .u16 (n.moreHop k p).ways,.int .i64 (n.moreHop k p).hops,.int .i64 (n.moreHop k p).children] t (0,0)):=by
 show ((w.setCell _ _).setCell _ _).heap[b]?=_
 rw[heap_setCell_at _ (heap_setCell_at _ h)]
 rfl
theorem block_kid {w:World} {b:Nat} {n:NodeD} {k p:Nat} {t:TypeId} (h:w.heap[b]?=some (.cells #[.int .u16 n.routes,.int .u16 n.ways,.int .i64 n.hops,.int .i64 n.children] t (0,0))):(((w.setCell ⟨b,3,none⟩ (.int .i64 (p:Int))).setCell ⟨b,1,none⟩ (.int .u16 ((n.ways ||| 2^k:Nat):Int))).drew).heap[b]?=some (.cells #[.int .u16 (n.moreKid k p).routes,.int .u16 (n.moreKid k p).ways,.int .i64 (n.moreKid k p).hops,.int .i64 (n.moreKid k p).children] t (0,0)):=by
 show ((w.setCell _ _).setCell _ _).heap[b]?=_
 rw[heap_setCell_at _ (heap_setCell_at _ h)]
 rfl
theorem two_setFr {S:List Nat} {a w:World} {b o1 o2:Nat} {v1 v2:Value} (h:Fr S a w) (hb:a.heap.size≤b):Fr S a ((w.setCell ⟨b,o1,none⟩ v1).setCell ⟨b,o2,none⟩ v2).drew:=((h.setCell (Or.inr hb) _).setCell (Or.inr hb) _).drew
theorem wrap16 {k:Nat} (hk:k≤15):IntKind.u16.wrap ((2:Int)^k)=(2:Int)^k:=by
 have h:=two_pow_le hk
 rw[show (2:Int)^15=32768 from rfl] at h
 rw[IntKind.wrap_u16]
 omega
theorem ones_moreHop {n:NodeD} {k p:Nat}:ones k (n.moreHop k p).routes=ones k n.routes:=by
 refine ones_congr (fun i hi=>?_)
 exact or_bits n.routes k i (by omega)
theorem ones_moreKid {n:NodeD} {k p:Nat}:ones k (n.moreKid k p).ways=ones k n.ways:=by
 refine ones_congr (fun i hi=>?_)
 exact or_bits n.ways k i (by omega)
set_option maxHeartbeats 4000000 in
set_option maxRecDepth 10000 in
theorem putHop_more (A:Ar) (F:Nat→List Nat) (M:Tab) (m tb ab wb d len u y k hop:Nat) (B:Ar) (p:Nat) (w:World) (h:TabAt w tb ab wb A) (hG:Good A F m) (hm:m≤3000) (hO:OnF A F M d len u y) (hk:k≤14) (hhop:hop<65536) (hbit:(nodeAt A.word y).routes.testBit k=false)
  (hgr:A.grow (nodeAt A.word y).hops (ones 16 (nodeAt A.word y).routes) (ones k (nodeAt A.word y).routes) 1=(B,some p)) :
  Calls Tryz.prog 111 #[.pointer (some ⟨tb,0,none⟩),.int .i64 (y:Nat),.int .i64 (k:Nat),.int .i64 (hop:Nat)] w fun e w'=>e=.returned (.bool true)∧TabAt w' tb ab wb { B with word:=setW (putNode B.word y ((nodeAt A.word y).moreHop k p)) (p+ones k ((nodeAt A.word y).moreHop k p).routes) hop }∧Fr [ab,wb] w w':=by
 have hs:=hG.sane (by omega)
 have hlt:=hO.on.lt
 have hok:=hO.on.ok
 have hz:=hs.size
 have hhps:=hO.on.hops
 have h16:=ones16_room (x:=(nodeAt A.word y).routes) (f:=k) (by omega) hbit
 have hmono:=ones_mono (nodeAt A.word y).routes (show k≤16 by omega)
 obtain⟨F',hGB,hgn,hp1,hp2⟩:=good_grow hG (by omega) (by omega) hmono (fun q=>by have:=hO.hopsIn q;omega) hO.hopsApart hO.hopsIn hgr
 have hBs:=hgn.size
 have HGR:=hide (fun (x z:Int) (w:World) (h:ArAt w ab wb A) (hx:x=((nodeAt A.word y).hops:Nat)) (hz:z=(ones k (nodeAt A.word y).routes:Nat))=>grow_some A ab wb (nodeAt A.word y).hops (ones 16 (nodeAt A.word y).routes) (ones k (nodeAt A.word y).routes) 1 x (ones 16 (nodeAt A.word y).routes:Nat) z 1 w h hs hx rfl hz rfl (by omega) (by omega) hmono hhps.1 hhps.2.1 (good_hB hG (by omega) (by omega) (by omega)) B p hgr)
 obtain⟨nn,hn⟩:∃n,n=nodeAt A.word y:=⟨_,rfl⟩
 rw[←hn] at hok hbit HGR h16 hp2 hmono ⊢
 have HND:=hide (node_x A tb ab wb y y nn w h hs rfl hlt.2 hn)
 have hk':(k:Int)≤14:=by omega
 have hhop':(hop:Int)<65536:=by omega
 have HT:=hide h
 have hnw:=h.nw
 have hna:=h.na
 have hwt:=h.ar.lw
 have hat:=h.ar.la
 have htt:=h.lt
 have hwh:IntKind.u32.wrap (hop:Int)=(hop:Int):=by rw[IntKind.wrap_u32];omega
 obtain⟨c1,hc1⟩:∃c,c=ones 16 nn.routes:=⟨_,rfl⟩
 have HHB:=hide (fun (w:World)=>hopBlock_any nn w hok)
 rw[←hc1] at HHB HGR hp2 h16 hmono
 have HOR:=hide (or16 nn.routes k hok.1 (by omega))
 have HWK:=hide (wrap16 (k:=k) (by omega))
 clear hn h hO hG hgr hgn hGB hhps hc1
 go_enter Tryz.func111,Tryz.ntmps111
 go_wp2_with fail
 refine HND.out.mono ?_
 rintro e w1 ⟨rfl,hb1⟩
 have HB1:=hide hb1
 have hs1:=hb1.size
 clear hb1
 go_wp2_with fail
 refine(hasRoute_any nn k _ hok (by omega)).mono ?_
 rintro e wq ⟨rfl,hb2⟩
 have b2:=new_plain hb2
 have HB2:=hide (ext_trans HB1.out (ext_trans (ext_alloc _ _) hb2))
 have hw2:w1.heap.size<wq.heap.size:=lt_of_block b2
 have HTW:=hide (HT.out.ext HB2.out)
 clear hb2
 obtain⟨nb,hnb⟩:∃nb,nb=w1.heap.size:=⟨_,rfl⟩
 have HNB:=hide hnb
 rw[←hnb] at b2 hw2 hs1
 have hnbw:nb≠wb:=by omega
 have hnba:nb≠ab:=by omega
 have hnbt:tb≠nb:=by omega
 have hqa:ab<wq.heap.size:=by omega
 have hqw:wb<wq.heap.size:=by omega
 clear hnb
 have hns:nb ∉ [ab,wb]:=by simp;omega
 have hts:tb ∉ [ab,wb]:=by simp;omega
 have KS:∀w',Fr [ab,wb] wq w'→(fun w':World=>Fr [ab,wb] wq w'∧w'.cell? ⟨tb,0,none⟩=some (.pointer (some ⟨ab,0,none⟩))∧w'.cell? ⟨nb,0,none⟩=some (.int .u16 nn.routes)∧w'.cell? ⟨nb,1,none⟩=some (.int .u16 nn.ways)∧w'.cell? ⟨nb,2,none⟩=some (.int .i64 nn.hops)∧w'.cell? ⟨nb,3,none⟩=some (.int .i64 nn.children)) w':=fun w' hf=>⟨hf,HTW.out.frw hf hts,cells4n (hf.at b2 hns)⟩
 simp only[] at KS
 go_wp2_with fail
 rw[←HNB.out]
 go_cut [10,11] (fun v1 v2 wc=>∃bb,v1=.pointer (some ⟨bb,0,none⟩)∧v2=.bool true∧wq.heap.size≤bb∧wc.heap[bb]?=some (.cells #[.int .i64 (p:Int),.int .i64 ((c1:Int)+1)] 172 (0,0))∧ArAt wc ab wb B∧Fr [ab,wb] wq wc)
 case first =>
  go_region_held3 (fun w':World=>Fr [ab,wb] wq w'∧w'.cell? ⟨tb,0,none⟩=some (.pointer (some ⟨ab,0,none⟩))∧w'.cell? ⟨nb,0,none⟩=some (.int .u16 nn.routes)∧w'.cell? ⟨nb,1,none⟩=some (.int .u16 nn.ways)∧w'.cell? ⟨nb,2,none⟩=some (.int .i64 nn.hops)∧w'.cell? ⟨nb,3,none⟩=some (.int .i64 nn.children)) (with_reducible (first | assumption | exact KS _ (fr_below (drew_ext wq)) | exact KS _ (by assumption) | exact KS _ (fr_below (by assumption)) | exact KS _ (fr_below (ext_trans (by assumption) (ext_alloc _ _))) | exact KS _ (fr_below (Below.drew (ext_alloc _ _))) | exact KS _ (Fr.alloc (by assumption) _) | (refine KS _ (Fr.setCell (Fr.setCell (by assumption) (Or.inr ?_) _) (Or.inr ?_) _) <;> first | assumption | exact Nat.le_refl _))) (first | (go_at_call 110;refine(HHB.out _).mono ?_;rintro e w5 ⟨rfl,hb5⟩;with_reducible (first | (have b5:=new_drew hb5;have S5:=(ext_trans (Below.drew (ext_alloc _ _)) hb5:Below wq.heap.size wq w5)) | (have S5:=(ext_trans (drew_ext wq) hb5:Below wq.heap.size wq w5)));have z5:=S5.size;clear hb5) | (go_at_call 75;refine(before_x nn.routes k _ _ rfl hok.1 (by omega)).mono ?_;rintro e w6 ⟨rfl,hb6⟩;with_reducible (first | (have b6:=block_ext b5 hb6;have S6:=(ext_trans S5 hb6:Below wq.heap.size wq w6)) | (have b6:=new_plain hb6;have S6:=(ext_trans (ext_trans S5 (ext_alloc _ _)) hb6:Below wq.heap.size wq w6)) | (have S6:=(ext_trans S5 hb6:Below wq.heap.size wq w6)));have z6:=S6.size;clear hb6) | (go_at_call 120;first | (refine(HGR.out _ _ _ (HTW.out.ar.ext S6) rfl rfl).mono ?_;rintro e w7 ⟨rfl,hA7,hF7⟩;first | (have b7:=hF7.at b6 (by simp;omega);have F7:=(Fr.after (fr_below S6) hF7 (fun y hy=>Or.inl hy):Fr [ab,wb] wq w7);obtain⟨g0,g1,g2,g3⟩:=cells2 b7) | (have F7:=(Fr.after (fr_below S6) hF7 (fun y hy=>Or.inl hy):Fr [ab,wb] wq w7));have z7:=F7.size;clear hF7) | (refine(HGR.out _ _ _ (HTW.out.ar.ext (ext_trans S6 (ext_alloc _ _))) rfl rfl).mono ?_;rintro e w7 ⟨rfl,hA7,hF7⟩;have b7:=hF7.at (heap_alloc_new _ _) (by simp;omega);have F7:=(Fr.after (fr_below (ext_trans S6 (ext_alloc _ _))) hF7 (fun y hy=>Or.inl hy):Fr [ab,wb] wq w7);obtain⟨g0,g1,g2,g3⟩:=cells2 b7;have z7:=F7.size;clear hF7)))
  all_goals (go_wp2_with fail;go_meet)
  ·case rel=>exact⟨w7.heap.size,rfl,rfl,z7,heap_alloc_new _ _,hA7.alloc _,F7.alloc _⟩
  ·case rel=>exact⟨w6.heap.size,rfl,rfl,z6,store2 b7,(hA7.other (by omega) (by omega)).other (by omega) (by omega),(F7.setCell (Or.inr z6) _).setCell (Or.inr z6) _⟩
  ·case rel=>exact⟨w5.heap.size,rfl,rfl,z5,store2 b7,(hA7.other (by omega) (by omega)).other (by omega) (by omega),(F7.setCell (Or.inr z5) _).setCell (Or.inr z5) _⟩
  ·case rel=>exact⟨wq.heap.size,rfl,rfl,Nat.le_refl _,store2 b7,(hA7.other (by omega) (by omega)).other (by omega) (by omega),(F7.setCell (Or.inr (Nat.le_refl _)) _).setCell (Or.inr (Nat.le_refl _)) _⟩
 case rest =>
  obtain⟨bb,rfl,rfl,hbb,hblk,hAc,hFc⟩:=hcut
  obtain⟨g0,g1,g2,g3⟩:=cells2 hblk
  have bn:=hFc.at b2 hns
  obtain⟨k0,k1,k2,k3,k4,k5,k6,k7⟩:=cells4 bn
  have hlc:=lt_of_block hblk
  have hln:=lt_of_block bn
  have hbn:bb≠nb:=by omega
  have HAC:=hide hAc
  have HFC:=hide hFc
  have HBN:=hide bn
  clear hAc hFc hblk bn KS b2
  go_wp2_with fail
  go_region
  rw[HWK.out,HOR.out]
  have bz:=block_more (k:=k) (p:=p) HBN.out
  have hTc:=HTW.out.of HFC.out hts HAC.out
  have hTz:TabAt (((wc.setCell ⟨nb,2,none⟩ (.int .i64 (p:Int))).setCell ⟨nb,0,none⟩ (.int .u16 ((nn.routes ||| 2^k:Nat):Int))).drew) tb ab wb B:=((hTc.other hnbt hnba.symm hnbw.symm).other hnbt hnba.symm hnbw.symm).ext (drew_ext _)
  have hFz:Fr [ab,wb] w (((wc.setCell ⟨nb,2,none⟩ (.int .i64 (p:Int))).setCell ⟨nb,0,none⟩ (.int .u16 ((nn.routes ||| 2^k:Nat):Int))).drew):=two_setFr (Fr.after (fr_below HB2.out) HFC.out (fun y hy=>Or.inl hy)) hs1
  have hlz:=lt_of_block bz
  obtain⟨wq,hwq⟩:∃wz,wz=((wc.setCell ⟨nb,2,none⟩ (.int .i64 (p:Int))).setCell ⟨nb,0,none⟩ (.int .u16 ((nn.routes ||| 2^k:Nat):Int))).drew:=⟨_,rfl⟩
  rw[←hwq] at bz hTz hFz hlz
  have HWQ:=hide hwq
  have hokn:=moreHop_ok (k:=k) (p:=p) hok (by omega) (by omega)
  have hone:ones k (nn.moreHop k p).routes≤c1:=by rw[ones_moreHop];exact hmono
  have hhp:(nn.moreHop k p).hops=p:=rfl
  obtain⟨nn,hnn⟩:∃n2,n2=nn.moreHop k p:=⟨_,rfl⟩
  rw[←hnn] at bz hokn hone hhp
  have HHP:=hide hhp
  clear hhp
  have HNN:=hide hnn
  have HTW:=hide hTz
  have HFZ:=hide hFz
  have hltz:=hTz.lt
  have hns1:nb ∉ [wb]:=by simpa using hnbw
  have hts1:tb ∉ [wb]:=by simpa using hnw
  have KS:∀w',Fr [wb] wq w'→(fun w':World=>Fr [wb] wq w'∧w'.cell? ⟨tb,0,none⟩=some (.pointer (some ⟨ab,0,none⟩))∧w'.cell? ⟨nb,0,none⟩=some (.int .u16 nn.routes)∧w'.cell? ⟨nb,1,none⟩=some (.int .u16 nn.ways)∧w'.cell? ⟨nb,2,none⟩=some (.int .i64 nn.hops)∧w'.cell? ⟨nb,3,none⟩=some (.int .i64 nn.children)) w':=fun w' hf=>⟨hf,HTW.out.frw hf hts1,cells4n (hf.at bz hns1)⟩
  simp only[] at KS
  clear hwq hnn hTz hFz hTc g0 g1 g2 g3 k0 k1 k2 k3 k4 k5 k6 k7 HBN HAC HFC
  go_wp2_with fail
  rw[←HWQ.out]
  go_region_held3 (fun w':World=>Fr [wb] wq w'∧w'.cell? ⟨tb,0,none⟩=some (.pointer (some ⟨ab,0,none⟩))∧w'.cell? ⟨nb,0,none⟩=some (.int .u16 nn.routes)∧w'.cell? ⟨nb,1,none⟩=some (.int .u16 nn.ways)∧w'.cell? ⟨nb,2,none⟩=some (.int .i64 nn.hops)∧w'.cell? ⟨nb,3,none⟩=some (.int .i64 nn.children)) (with_reducible (first | assumption | exact KS _ (fr_below (drew_ext wq)) | exact KS _ (by assumption) | exact KS _ (fr_below (by assumption)) | exact KS _ (fr_below (ext_trans (by assumption) (ext_alloc _ _))) | exact KS _ (fr_below (Below.drew (ext_alloc _ _))) | exact KS _ (Fr.alloc (by assumption) _) | (refine KS _ (Fr.setCell (Fr.setCell (by assumption) (Or.inr ?_) _) (Or.inr ?_) _) <;> first | assumption | exact Nat.le_refl _))) ((go_at_call 121;refine(writeNode_any B ab wb _ y nn _ HTW.out.ar.drew hokn rfl (by omega)).mono ?_;rintro e w5 ⟨rfl,hA5,hF5⟩;have F5:=(Fr.after (fr_below (drew_ext wq)) hF5 (fun y hy=>Or.inl hy):Fr [wb] wq w5);clear hF5))
  have b5:=F5.at bz hns1
  have hT5:=HTW.out.of F5 hts1 hA5
  have HF5:=hide (Fr.after HFZ.out F5 (fun y hy=>Or.inl (by simp at hy ⊢;exact Or.inr hy)):Fr [ab,wb] w w5)
  clear KS bz hA5 F5
  obtain⟨wq,hwq⟩:∃wz,wz=w5:=⟨_,rfl⟩
  subst hwq
  have HTW:=hide hT5
  obtain⟨AW,hAW⟩:∃AW,AW=B.putN y nn:=⟨_,rfl⟩
  rw[←hAW] at HTW
  have HAW:=hide hAW
  have hws:AW.size=B.size:=by rw[hAW];rfl
  have hl5:=lt_of_block b5
  have hlt5:=hT5.lt
  obtain⟨off,hoff⟩:∃off,off=nn.hops+ones k nn.routes:=⟨_,rfl⟩
  have hfit:off + [hop].length≤AW.size:=by rw[hoff,hws,HHP.out,hBs];simp;omega
  have KS:∀w',Fr [wb] wq w'→(fun w':World=>Fr [wb] wq w'∧w'.cell? ⟨tb,0,none⟩=some (.pointer (some ⟨ab,0,none⟩))∧w'.cell? ⟨nb,0,none⟩=some (.int .u16 nn.routes)∧w'.cell? ⟨nb,1,none⟩=some (.int .u16 nn.ways)∧w'.cell? ⟨nb,2,none⟩=some (.int .i64 nn.hops)∧w'.cell? ⟨nb,3,none⟩=some (.int .i64 nn.children)) w':=fun w' hf=>⟨hf,HTW.out.frw hf hts1,cells4n (hf.at b5 hns1)⟩
  simp only[] at KS
  have HOFF:=hide hoff
  clear hoff hAW hT5 hws
  go_wp2_with fail
  go_region_held3 (fun w':World=>Fr [wb] wq w'∧w'.cell? ⟨tb,0,none⟩=some (.pointer (some ⟨ab,0,none⟩))∧w'.cell? ⟨nb,0,none⟩=some (.int .u16 nn.routes)∧w'.cell? ⟨nb,1,none⟩=some (.int .u16 nn.ways)∧w'.cell? ⟨nb,2,none⟩=some (.int .i64 nn.hops)∧w'.cell? ⟨nb,3,none⟩=some (.int .i64 nn.children)) (with_reducible (first | assumption | exact KS _ (fr_below (drew_ext wq)) | exact KS _ (by assumption) | exact KS _ (fr_below (by assumption)) | exact KS _ (fr_below (ext_trans (by assumption) (ext_alloc _ _))) | exact KS _ (fr_below (Below.drew (ext_alloc _ _))) | exact KS _ (Fr.alloc (by assumption) _) | (refine KS _ (Fr.setCell (Fr.setCell (by assumption) (Or.inr ?_) _) (Or.inr ?_) _) <;> first | assumption | exact Nat.le_refl _))) (first | (go_at_call 71;refine(hopPlace_any nn k _ hokn (by omega)).mono ?_;rintro e w5 ⟨rfl,hb5⟩;with_reducible (first | (have b5:=new_drew hb5;have S5:=(ext_trans (Below.drew (ext_alloc _ _)) hb5:Below wq.heap.size wq w5)) | (have S5:=(ext_trans (drew_ext wq) hb5:Below wq.heap.size wq w5)));clear hb5) | (first | (go_at_call 104;refine(write_any AW ab wb _ off 1 1 [hop] _ _ (HTW.out.ar.ext S5) (by rw[HOFF.out];first | rfl | omega) (by simp) rfl hfit (by intro j u hj;rw[addr_add];exact one_src 0 0 hj (by rw[cell_at b5];rfl))).mono ?_;rintro e w6 ⟨rfl,hA6,hF6⟩;have F6:=(Fr.after (fr_below S5) hF6 (fun y hy=>Or.inl hy):Fr [wb] wq w6);clear hF6) | (go_at_call 104;refine(write_any AW ab wb _ off 1 1 [hop] _ _ (HTW.out.ar.ext (ext_trans S5 (ext_alloc _ _))) (by rw[HOFF.out];first | rfl | omega) (by simp) rfl hfit (by intro j u hj;rw[addr_add];exact one_src 0 0 hj (by rw[cell_new rfl];rfl))).mono ?_;rintro e w6 ⟨rfl,hA6,hF6⟩;have F6:=(Fr.after (fr_below (ext_trans S5 (ext_alloc _ _))) hF6 (fun y hy=>Or.inl hy):Fr [wb] wq w6);clear hF6)))
  all_goals
   have hX:=HTW.out.of F6 hts1 hA6
   rw[lay_one,HOFF.out,HAW.out,HNN.out] at hX
   have HX:=hide (And.intro hX (Fr.after HF5.out F6 (fun y hy=>Or.inl (by simp at hy ⊢;exact Or.inr hy)):Fr [ab,wb] w w6))
   clear hX F6 hA6 KS
   go_wp2
   go_ret
   exact⟨rfl,HX.out.1,HX.out.2⟩
set_option maxHeartbeats 4000000 in
set_option maxRecDepth 10000 in
theorem putHop_no (A:Ar) (F:Nat→List Nat) (M:Tab) (m tb ab wb d len u y k hop:Nat) (w:World) (h:TabAt w tb ab wb A) (hG:Good A F m) (hm:m≤3000) (hO:OnF A F M d len u y) (hk:k≤14) (hhop:hop<65536) (hbit:(nodeAt A.word y).routes.testBit k=false)
  (hgr:A.grow (nodeAt A.word y).hops (ones 16 (nodeAt A.word y).routes) (ones k (nodeAt A.word y).routes) 1=(A,none)) :
  Calls Tryz.prog 111 #[.pointer (some ⟨tb,0,none⟩),.int .i64 (y:Nat),.int .i64 (k:Nat),.int .i64 (hop:Nat)] w fun e w'=>e=.returned (.bool false)∧TabAt w' tb ab wb A∧Fr [ab,wb] w w':=by
 have hs:=hG.sane (by omega)
 have hlt:=hO.on.lt
 have hok:=hO.on.ok
 have hz:=hs.size
 have hhps:=hO.on.hops
 have h16:=ones16_room (x:=(nodeAt A.word y).routes) (f:=k) (by omega) hbit
 have hmono:=ones_mono (nodeAt A.word y).routes (show k≤16 by omega)
 have HGR:=hide (fun (x z:Int) (w:World) (h:ArAt w ab wb A) (hx:x=((nodeAt A.word y).hops:Nat)) (hz:z=(ones k (nodeAt A.word y).routes:Nat))=>grow_no A ab wb (nodeAt A.word y).hops (ones 16 (nodeAt A.word y).routes) (ones k (nodeAt A.word y).routes) 1 x (ones 16 (nodeAt A.word y).routes:Nat) z 1 w h hs hx rfl hz rfl (by omega) (by omega) hmono hhps.1 hhps.2.1 (good_hB hG (by omega) (by omega) (by omega)) A hgr)
 obtain⟨nn,hn⟩:∃n,n=nodeAt A.word y:=⟨_,rfl⟩
 rw[←hn] at hok hbit HGR h16 hmono
 have HND:=hide (node_x A tb ab wb y y nn w h hs rfl hlt.2 hn)
 have hk':(k:Int)≤14:=by omega
 have hhop':(hop:Int)<65536:=by omega
 have HT:=hide h
 have hnw:=h.nw
 have hna:=h.na
 have hwt:=h.ar.lw
 have hat:=h.ar.la
 have htt:=h.lt
 have hwh:IntKind.u32.wrap (hop:Int)=(hop:Int):=by rw[IntKind.wrap_u32];omega
 obtain⟨c1,hc1⟩:∃c,c=ones 16 nn.routes:=⟨_,rfl⟩
 have HHB:=hide (fun (w:World)=>hopBlock_any nn w hok)
 rw[←hc1] at HHB HGR h16 hmono
 clear hn h hO hG hgr hhps hc1
 go_enter Tryz.func111,Tryz.ntmps111
 go_wp2_with fail
 refine HND.out.mono ?_
 rintro e w1 ⟨rfl,hb1⟩
 have HB1:=hide hb1
 have hs1:=hb1.size
 clear hb1
 go_wp2_with fail
 refine(hasRoute_any nn k _ hok (by omega)).mono ?_
 rintro e wq ⟨rfl,hb2⟩
 have b2:=new_plain hb2
 have HB2:=hide (ext_trans HB1.out (ext_trans (ext_alloc _ _) hb2))
 have hw2:w1.heap.size<wq.heap.size:=lt_of_block b2
 have HTW:=hide (HT.out.ext HB2.out)
 clear hb2
 obtain⟨nb,hnb⟩:∃nb,nb=w1.heap.size:=⟨_,rfl⟩
 have HNB:=hide hnb
 rw[←hnb] at b2 hw2 hs1
 have hnbw:nb≠wb:=by omega
 have hnba:nb≠ab:=by omega
 have hnbt:tb≠nb:=by omega
 have hqa:ab<wq.heap.size:=by omega
 have hqw:wb<wq.heap.size:=by omega
 clear hnb
 have hns:nb ∉ [ab,wb]:=by simp;omega
 have hts:tb ∉ [ab,wb]:=by simp;omega
 have KS:∀w',Fr [ab,wb] wq w'→(fun w':World=>Fr [ab,wb] wq w'∧w'.cell? ⟨tb,0,none⟩=some (.pointer (some ⟨ab,0,none⟩))∧w'.cell? ⟨nb,0,none⟩=some (.int .u16 nn.routes)∧w'.cell? ⟨nb,1,none⟩=some (.int .u16 nn.ways)∧w'.cell? ⟨nb,2,none⟩=some (.int .i64 nn.hops)∧w'.cell? ⟨nb,3,none⟩=some (.int .i64 nn.children)) w':=fun w' hf=>⟨hf,HTW.out.frw hf hts,cells4n (hf.at b2 hns)⟩
 simp only[] at KS
 go_wp2_with fail
 rw[←HNB.out]
 go_cut [10,11] (fun v1 v2 wc=>∃bb,v1=.pointer (some ⟨bb,0,none⟩)∧v2=.bool false∧ArAt wc ab wb A∧Fr [ab,wb] wq wc)
 case first =>
  go_region_held3 (fun w':World=>Fr [ab,wb] wq w'∧w'.cell? ⟨tb,0,none⟩=some (.pointer (some ⟨ab,0,none⟩))∧w'.cell? ⟨nb,0,none⟩=some (.int .u16 nn.routes)∧w'.cell? ⟨nb,1,none⟩=some (.int .u16 nn.ways)∧w'.cell? ⟨nb,2,none⟩=some (.int .i64 nn.hops)∧w'.cell? ⟨nb,3,none⟩=some (.int .i64 nn.children)) (with_reducible (first | assumption | exact KS _ (fr_below (drew_ext wq)) | exact KS _ (by assumption) | exact KS _ (fr_below (by assumption)) | exact KS _ (fr_below (ext_trans (by assumption) (ext_alloc _ _))) | exact KS _ (fr_below (Below.drew (ext_alloc _ _))) | exact KS _ (Fr.alloc (by assumption) _) | (refine KS _ (Fr.setCell (Fr.setCell (by assumption) (Or.inr ?_) _) (Or.inr ?_) _) <;> first | assumption | exact Nat.le_refl _))) (first | (go_at_call 110;refine(HHB.out _).mono ?_;rintro e w5 ⟨rfl,hb5⟩;with_reducible (first | (have b5:=new_drew hb5;have S5:=(ext_trans (Below.drew (ext_alloc _ _)) hb5:Below wq.heap.size wq w5)) | (have S5:=(ext_trans (drew_ext wq) hb5:Below wq.heap.size wq w5)));have z5:=S5.size;clear hb5) | (go_at_call 75;refine(before_x nn.routes k _ _ rfl hok.1 (by omega)).mono ?_;rintro e w6 ⟨rfl,hb6⟩;with_reducible (first | (have b6:=block_ext b5 hb6;have S6:=(ext_trans S5 hb6:Below wq.heap.size wq w6)) | (have b6:=new_plain hb6;have S6:=(ext_trans (ext_trans S5 (ext_alloc _ _)) hb6:Below wq.heap.size wq w6)) | (have S6:=(ext_trans S5 hb6:Below wq.heap.size wq w6)));have z6:=S6.size;clear hb6) | (go_at_call 120;first | (refine(HGR.out _ _ _ (HTW.out.ar.ext S6) rfl rfl).mono ?_;rintro e w7 ⟨rfl,hA7,hF7⟩;first | (have b7:=hF7.at b6 (by simp;omega);have F7:=(Fr.after (fr_below S6) hF7 (fun y hy=>Or.inl hy):Fr [ab,wb] wq w7);obtain⟨g0,g1,g2,g3⟩:=cells2 b7) | (have F7:=(Fr.after (fr_below S6) hF7 (fun y hy=>Or.inl hy):Fr [ab,wb] wq w7));have z7:=F7.size;clear hF7) | (refine(HGR.out _ _ _ (HTW.out.ar.ext (ext_trans S6 (ext_alloc _ _))) rfl rfl).mono ?_;rintro e w7 ⟨rfl,hA7,hF7⟩;have b7:=hF7.at (heap_alloc_new _ _) (by simp;omega);have F7:=(Fr.after (fr_below (ext_trans S6 (ext_alloc _ _))) hF7 (fun y hy=>Or.inl hy):Fr [ab,wb] wq w7);obtain⟨g0,g1,g2,g3⟩:=cells2 b7;have z7:=F7.size;clear hF7)))
  all_goals (go_wp2_with fail;go_meet)
  ·case rel=>exact⟨w7.heap.size,rfl,rfl,hA7.alloc _,F7.alloc _⟩
  ·case rel=>exact⟨w6.heap.size,rfl,rfl,(hA7.other (by omega) (by omega)).other (by omega) (by omega),(F7.setCell (Or.inr z6) _).setCell (Or.inr z6) _⟩
  ·case rel=>exact⟨w5.heap.size,rfl,rfl,(hA7.other (by omega) (by omega)).other (by omega) (by omega),(F7.setCell (Or.inr z5) _).setCell (Or.inr z5) _⟩
  ·case rel=>exact⟨wq.heap.size,rfl,rfl,(hA7.other (by omega) (by omega)).other (by omega) (by omega),(F7.setCell (Or.inr (Nat.le_refl _)) _).setCell (Or.inr (Nat.le_refl _)) _⟩
 case rest =>
  obtain⟨bb,rfl,rfl,hAc,hFc⟩:=hcut
  have HX:=hide (And.intro (HTW.out.of hFc hts hAc) (Fr.after (fr_below HB2.out) hFc (fun y hy=>Or.inl hy):Fr [ab,wb] w wc))
  clear hAc hFc KS b2
  go_wp2
  go_ret
  exact⟨rfl,HX.out.1,HX.out.2⟩
theorem putHop_any (A:Ar) (F:Nat→List Nat) (M:Tab) (m tb ab wb d len u y l v hop:Nat) (x z t:Int) (w:World) (h:TabAt w tb ab wb A) (hG:Good A F m) (hm:m≤3000) (hO:OnF A F M d len u y) (hx:x=y) (hz:z=pnum l v len) (ht:t=hop) (h1:len≤l) (h3:l<len+4) (hhop:hop<65536) (R:Ar × Bool) (hR:putHopN l v hop len A y=R) :
  Calls Tryz.prog 111 #[.pointer (some ⟨tb,0,none⟩),.int .i64 x,.int .i64 z,.int .i64 t] w fun e w'=>e=.returned (.bool R.2)∧TabAt w' tb ab wb R.1∧Fr [ab,wb] w w':=by
 subst hx hz ht hR
 have hp:=pnum_lt (v:=v) h1 (show l≤len+3 by omega)
 unfold putHopN
 split
 ·rename_i hb
  exact putHop_there A F M m tb ab wb d len u y _ hop w h hG hm hO (by omega) hhop hb
 ·rename_i hb
  have hb':(nodeAt A.word y).routes.testBit (pnum l v len)=false:=by simpa using hb
  have h16:=ones16_room (x:=(nodeAt A.word y).routes) (f:=pnum l v len) (by omega) hb'
  cases e:A.grow (nodeAt A.word y).hops (ones 16 (nodeAt A.word y).routes) (ones (pnum l v len) (nodeAt A.word y).routes) 1 with
  | mk B o =>
   cases o with
   | none =>
    have:=grow_none hG (by omega) (by omega) e
    subst this
    exact putHop_no B F M m tb ab wb d len u y _ hop w h hG hm hO (by omega) hhop hb' e
   | some p=>exact putHop_more A F M m tb ab wb d len u y _ hop B p w h hG hm hO (by omega) hhop hb' e
end Go.Proofs.YtnapboelfimaaaaGreatDoor
namespace Go.Proofs.YtnapboelfimaaaaGreatDoor
open Go.RowKit Go.Deep
theorem field_block1 (w:World) (a b:Int):Sem.run Tryz.prog (Instr.field 172 (.agg #[.int .i64 a,.int .i64 b]) 1) w=.ok (.int .i64 b) w:=by
 simp[Instr.field,go_sem,asAgg]
theorem field_block0 (w:World) (a b:Int):Sem.run Tryz.prog (Instr.field 172 (.agg #[.int .i64 a,.int .i64 b]) 0) w=.ok (.int .i64 a) w:=by
 simp[Instr.field,go_sem,asAgg]
theorem numK_pnum {K l:Nat} (h8:8≤l) (hl:l≤128):numK K l=pnum l (fitK K l) (8+4*((l-8)/4)):=by
 rw[pnum_key (by omega) (by omega) (by omega),←kfour_fit]
 unfold numK
 rw[show l-(8+4*((l-8)/4))=(l-8)%4 by omega]
theorem byte_fit {K l:Nat} (hK:K<2^136) (h8:8≤l) (hl:l≤128):fitK K l/2^(l-8)=kbyte K 0:=by rw[fit_fit h8 (by omega),kbyte_zero K hK]
theorem number_any (K l:Nat) (w:World) (hl:l≤128) (h8:8≤l):Calls Tryz.prog 109 #[.agg (prefL K l).toArray] w fun e w'=>e=.returned (.int .i64 (numK K l:Nat))∧Below w.heap.size w w':=number_x K l w hl h8
set_option maxHeartbeats 2000000 in
set_option maxRecDepth 10000 in
theorem need_none (A:Ar) (F:Nat→List Nat) (M:Bool→Tab) (tb ab wb:Nat) (f:Int) (q:Bool) (K l:Nat) (w:World) (h:TabAt w tb ab wb A) (hs:Sane A) (hI:Inv A F M) (hq:q=decide (f=6)) (hK:K<2^136) (h8:8≤l) (hl:l≤8+4*dp q) (h0:A.word (rt q+kbyte K 0)%65536=0) :
  Calls Tryz.prog 98 #[.pointer (some ⟨tb,0,none⟩),.int .i64 f,.agg (prefL K l).toArray] w fun e w'=>e=.returned (.int .i64 (needRoot A.word q l (fitK K l):Nat))∧Below w.heap.size w w':=by
 have hd:=dp_le q
 have hneed:needRoot A.word q l (fitK K l)=2*((l-8)/4+1)+1:=by
  unfold needRoot
  rw[byte_fit hK h8 (by omega),if_pos h0]
 rw[hneed]
 obtain⟨s,hsd⟩:∃s,s=(l-8)/4:=⟨_,rfl⟩
 have hs30:(s:Int)≤30:=by omega
 have HDP:=hide (fun (w:World)=>depth_any K l w (by omega) h8)
 rw[←hsd] at HDP ⊢
 have HDE:=hide (fun (w:World) (h:TabAt w tb ab wb A)=>deepest_none A F M tb ab wb f q K l w h hs hI hq h0)
 obtain⟨wx,hwx⟩:∃wx,wx=w.alloc (.cells (prefL K l).toArray 128):=⟨_,rfl⟩
 have hb0:wx.heap[w.heap.size]?=some (.cells (prefL K l).toArray 128 (0,0)):=by rw[hwx];exact heap_alloc_new _ _
 have HBX:Below w.heap.size w wx:=by rw[hwx];exact ext_alloc _ _
 have HT:=hide (h.ext HBX)
 have HBX:=hide HBX
 have HWX:=hide hwx
 have HB0:=hide hb0
 have hsx:w.heap.size<wx.heap.size:=lt_of_block hb0
 have hrx:=Below.refl wx.heap.size wx
 clear h hq hwx hb0 hneed hsd
 go_enter Tryz.func98,Tryz.ntmps98
 go_wp2_with (first | rw[←HWX.out] | (show wpList _ _ _ (⟨_,.load 128 _,_,_,_,_⟩ :: _) _ _;refine wpList_load_whole rfl 128 _ rfl w.heap.size rfl (prefL K l) _ 128 (0,0) (block_ext HB0.out (by assumption)) Tryz.underlying128 rfl (pref_info K l) ?_) | fail)
 refine(HDE.out _ HT.out).mono ?_
 rintro e w1 ⟨rfl,hb1⟩
 go_wp2_with (show wpList _ _ _ (⟨_,.load 128 _,_,_,_,_⟩ :: _) _ _;refine wpList_load_whole rfl 128 _ rfl w.heap.size rfl (prefL K l) _ 128 (0,0) (block_ext HB0.out (by assumption)) Tryz.underlying128 rfl (pref_info K l) ?_)
 refine(HDP.out _).mono ?_
 rintro e w2 ⟨rfl,hb2⟩
 have HB2:=hide (ext_trans HBX.out (ext_trans hb1 hb2))
 clear hb1 hb2
 go_wp2
 go_ret
 exact⟨retI (by push_cast;omega),HB2.out⟩
set_option maxHeartbeats 2000000 in
set_option maxRecDepth 10000 in
theorem need_some (A:Ar) (F:Nat→List Nat) (M:Bool→Tab) (tb ab wb:Nat) (f:Int) (q:Bool) (K l:Nat) (w:World) (h:TabAt w tb ab wb A) (hs:Sane A) (hI:Inv A F M) (hq:q=decide (f=6)) (hK:K<2^136) (h8:8≤l) (hl:l≤8+4*dp q) (h0:A.word (rt q+kbyte K 0)%65536≠0) :
  Calls Tryz.prog 98 #[.pointer (some ⟨tb,0,none⟩),.int .i64 f,.agg (prefL K l).toArray] w fun e w'=>e=.returned (.int .i64 (needRoot A.word q l (fitK K l):Nat))∧Below w.heap.size w w':=by
 have hd:=dp_le q
 have hbf:=byte_fit hK h8 (show l≤128 by omega)
 have hO0:=OnF.root hI q (kbyte_lt K 0) h0
 obtain⟨t,d2,y,hr,ht1,ht2,hO,hbit⟩:=hO0.reach h8 hl hbf
 have hneed:needRoot A.word q l (fitK K l)=if l<8+4*t+4 then (if (nodeAt A.word y).routes.testBit (pnum l (fitK K l) (8+4*t)) then 0 else ones 16 (nodeAt A.word y).routes+1) else 2*ones 16 (nodeAt A.word y).ways+2*((l-(8+4*t))/4)+1:=by
  unfold needRoot
  rw[hbf,if_neg h0]
  unfold needTree
  rw[hr]
 rw[hneed]
 obtain⟨r,hrd⟩:∃r:Nat,r=if l<8+4*t+4 then (if (nodeAt A.word y).routes.testBit (pnum l (fitK K l) (8+4*t)) then 0 else ones 16 (nodeAt A.word y).routes+1) else 2*ones 16 (nodeAt A.word y).ways+2*((l-(8+4*t))/4)+1:=⟨_,rfl⟩
 rw[←hrd]
 have hlt:=hO.on.lt
 have hok:=hO.on.ok
 have hnum:=numK_pnum (K:=K) h8 (show l≤128 by omega)
 have HDE:=hide (fun (w:World) (h:TabAt w tb ab wb A)=>deepest_some A F M tb ab wb f q K l _ y t w h hs hI hq hK h8 hl rfl h0 hr)
 obtain⟨s,hsd⟩:∃s,s=(l-8)/4:=⟨_,rfl⟩
 have hs30:(s:Int)≤30:=by omega
 have HDP:=hide (fun (w:World)=>depth_any K l w (by omega) h8)
 rw[←hsd] at HDP hnum ht1
 obtain⟨n,hn⟩:∃n,n=nodeAt A.word y:=⟨_,rfl⟩
 rw[←hn] at hok hrd
 have HRD:=hide hrd
 have HND:=hide (fun (w:World) (h:TabAt w tb ab wb A)=>node_x A tb ab wb y y n w h hs rfl hlt.2 hn)
 have hy0:(y:Int)≠0:=by omega
 have w16:=ones_le 16 n.ways
 have r16:=ones_le 16 n.routes
 obtain⟨c2,hc2⟩:∃c,c=2*ones 16 n.ways:=⟨_,rfl⟩
 obtain⟨c1,hc1⟩:∃c,c=ones 16 n.routes:=⟨_,rfl⟩
 have HCB:=hide (fun (w:World)=>childBlock_any n w hok)
 have HHB:=hide (fun (w:World)=>hopBlock_any n w hok)
 rw[←hc2] at HCB
 rw[←hc1] at HHB
 have hc2':(c2:Int)≤32:=by omega
 have hc1':(c1:Int)≤16:=by omega
 have hfd:=field_block1
 have HC1:=hide hc1
 have HC2:=hide hc2
 obtain⟨wx,hwx⟩:∃wx,wx=w.alloc (.cells (prefL K l).toArray 128):=⟨_,rfl⟩
 have hb0:wx.heap[w.heap.size]?=some (.cells (prefL K l).toArray 128 (0,0)):=by rw[hwx];exact heap_alloc_new _ _
 have HBX:Below w.heap.size w wx:=by rw[hwx];exact ext_alloc _ _
 have HT:=hide (h.ext HBX)
 have HBX:=hide HBX
 have HWX:=hide hwx
 have HB0:=hide hb0
 have hsx:w.heap.size<wx.heap.size:=lt_of_block hb0
 have hrx:=Below.refl wx.heap.size wx
 have HNU:=hide hnum
 have HSD:=hide hsd
 have hlo:8+4*s≤l:=by omega
 have hhi:l<8+4*s+4:=by omega
 have hts:(t:Int)≤s:=by omega
 have hl128:l≤128:=by omega
 clear h hq hwx hb0 hneed hsd hr hbit hO hO0 hbf h0 hnum hn ht2 hrd hc1 hc2
 go_enter Tryz.func98,Tryz.ntmps98
 go_wp2_with (first | rw[←HWX.out] | (show wpList _ _ _ (⟨_,.load 128 _,_,_,_,_⟩ :: _) _ _;refine wpList_load_whole rfl 128 _ rfl w.heap.size rfl (prefL K l) _ 128 (0,0) (block_ext HB0.out (by assumption)) Tryz.underlying128 rfl (pref_info K l) ?_) | fail)
 refine(HDE.out _ HT.out).mono ?_
 rintro e w1 ⟨rfl,hb1⟩
 go_wp2_with (show wpList _ _ _ (⟨_,.load 128 _,_,_,_,_⟩ :: _) _ _;refine wpList_load_whole rfl 128 _ rfl w.heap.size rfl (prefL K l) _ 128 (0,0) (block_ext HB0.out (by assumption)) Tryz.underlying128 rfl (pref_info K l) ?_)
 refine(HDP.out _).mono ?_
 rintro e w2 ⟨rfl,hb2⟩
 have hb2':=ext_trans hb1 hb2
 have HB2:=hide hb2'
 clear hb1 hb2 hrx
 go_wp2_with fail
 refine(HND.out _ (HT.out.ext HB2.out)).mono ?_
 rintro e w3 ⟨rfl,hb3⟩
 have hb3':=ext_trans hb2' hb3
 have HB3:=hide hb3'
 have hs3:=hb3'.size
 clear hb2' hb3 HB2
 by_cases hts2:t<s
 ·have hts3:(t:Int)<s:=by omega
  go_wp2_with fail
  refine(HCB.out _).mono ?_
  rintro e w4 ⟨rfl,hb4⟩
  have HB4:=hide (ext_trans HBX.out (ext_trans HB3.out (ext_trans (ext_alloc _ _) hb4)))
  clear hb4
  go_wp2
  go_ret
  exact⟨retI (by rw[HRD.out,if_neg (by omega),←HC2.out];omega),HB4.out⟩
 ·have hts3:t=s:=by omega
  subst hts3
  have hr2:=HRD.out
  rw[if_pos (by omega),←HNU.out] at hr2
  have HRD2:=hide hr2
  have hnk:numK K l≤15:=by rw[HNU.out];have:=pnum_lt (v:=fitK K l) hlo (show l≤8+4*t+3 by omega);omega
  clear hr2 HRD HNU
  obtain⟨wy,hwy⟩:∃wy,wy=w3.alloc (.cells #[.int .u16 n.routes,.int .u16 n.ways,.int .i64 n.hops,.int .i64 n.children] 142):=⟨_,rfl⟩
  have by0:wy.heap[w3.heap.size]?=some (.cells #[.int .u16 n.routes,.int .u16 n.ways,.int .i64 n.hops,.int .i64 n.children] 142 (0,0)):=by rw[hwy];exact heap_alloc_new _ _
  have hB3y:Below wx.heap.size wx wy:=ext_trans hb3' (by rw[hwy];exact ext_alloc _ _)
  have bp0:=block_ext HB0.out hB3y
  have hsy:=hB3y.size
  have hly:=lt_of_block by0
  have HBY:=hide (ext_trans HBX.out hB3y)
  have HWY:=hide hwy
  clear hb3' hwy hB3y
  go_wp2_with fail
  rw[←HWY.out]
  go_cut [42] (fun v wc=>v=.bool (n.routes.testBit (numK K l))∧Below wy.heap.size wy wc)
  case first =>
   have KS:∀w',Below wy.heap.size wy w'→Below wy.heap.size wy w'∧w'.cell? ⟨w3.heap.size,0,none⟩=some (.int .u16 n.routes)∧w'.cell? ⟨w3.heap.size,1,none⟩=some (.int .u16 n.ways)∧w'.cell? ⟨w3.heap.size,2,none⟩=some (.int .i64 n.hops)∧w'.cell? ⟨w3.heap.size,3,none⟩=some (.int .i64 n.children)∧w'.cell? ⟨w.heap.size,0,none⟩=some (.int .u8 (kbyte K 0:Int))∧w'.cell? ⟨w.heap.size,1,none⟩=some (.int .u8 (kbyte K 1:Int))∧w'.cell? ⟨w.heap.size,2,none⟩=some (.int .u8 (kbyte K 2:Int))∧w'.cell? ⟨w.heap.size,3,none⟩=some (.int .u8 (kbyte K 3:Int))∧w'.cell? ⟨w.heap.size,4,none⟩=some (.int .u8 (kbyte K 4:Int))∧w'.cell? ⟨w.heap.size,5,none⟩=some (.int .u8 (kbyte K 5:Int))∧w'.cell? ⟨w.heap.size,6,none⟩=some (.int .u8 (kbyte K 6:Int))∧w'.cell? ⟨w.heap.size,7,none⟩=some (.int .u8 (kbyte K 7:Int))∧w'.cell? ⟨w.heap.size,8,none⟩=some (.int .u8 (kbyte K 8:Int))∧w'.cell? ⟨w.heap.size,9,none⟩=some (.int .u8 (kbyte K 9:Int))∧w'.cell? ⟨w.heap.size,10,none⟩=some (.int .u8 (kbyte K 10:Int))∧w'.cell? ⟨w.heap.size,11,none⟩=some (.int .u8 (kbyte K 11:Int))∧w'.cell? ⟨w.heap.size,12,none⟩=some (.int .u8 (kbyte K 12:Int))∧w'.cell? ⟨w.heap.size,13,none⟩=some (.int .u8 (kbyte K 13:Int))∧w'.cell? ⟨w.heap.size,14,none⟩=some (.int .u8 (kbyte K 14:Int))∧w'.cell? ⟨w.heap.size,15,none⟩=some (.int .u8 (kbyte K 15:Int))∧w'.cell? ⟨w.heap.size,16,none⟩=some (.int .u8 (kbyte K 16:Int))∧w'.cell? ⟨w.heap.size,17,none⟩=some (.int .i64 (l:Int)):=fun w' hb=>⟨hb,(cells4 (block_ext by0 hb)).1,(cells4 (block_ext by0 hb)).2.1,(cells4 (block_ext by0 hb)).2.2.1,(cells4 (block_ext by0 hb)).2.2.2.1,pref_cells K l (block_ext bp0 hb)⟩
   go_region_held3 (fun w':World=>Below wy.heap.size wy w'∧w'.cell? ⟨w3.heap.size,0,none⟩=some (.int .u16 n.routes)∧w'.cell? ⟨w3.heap.size,1,none⟩=some (.int .u16 n.ways)∧w'.cell? ⟨w3.heap.size,2,none⟩=some (.int .i64 n.hops)∧w'.cell? ⟨w3.heap.size,3,none⟩=some (.int .i64 n.children)∧w'.cell? ⟨w.heap.size,0,none⟩=some (.int .u8 (kbyte K 0:Int))∧w'.cell? ⟨w.heap.size,1,none⟩=some (.int .u8 (kbyte K 1:Int))∧w'.cell? ⟨w.heap.size,2,none⟩=some (.int .u8 (kbyte K 2:Int))∧w'.cell? ⟨w.heap.size,3,none⟩=some (.int .u8 (kbyte K 3:Int))∧w'.cell? ⟨w.heap.size,4,none⟩=some (.int .u8 (kbyte K 4:Int))∧w'.cell? ⟨w.heap.size,5,none⟩=some (.int .u8 (kbyte K 5:Int))∧w'.cell? ⟨w.heap.size,6,none⟩=some (.int .u8 (kbyte K 6:Int))∧w'.cell? ⟨w.heap.size,7,none⟩=some (.int .u8 (kbyte K 7:Int))∧w'.cell? ⟨w.heap.size,8,none⟩=some (.int .u8 (kbyte K 8:Int))∧w'.cell? ⟨w.heap.size,9,none⟩=some (.int .u8 (kbyte K 9:Int))∧w'.cell? ⟨w.heap.size,10,none⟩=some (.int .u8 (kbyte K 10:Int))∧w'.cell? ⟨w.heap.size,11,none⟩=some (.int .u8 (kbyte K 11:Int))∧w'.cell? ⟨w.heap.size,12,none⟩=some (.int .u8 (kbyte K 12:Int))∧w'.cell? ⟨w.heap.size,13,none⟩=some (.int .u8 (kbyte K 13:Int))∧w'.cell? ⟨w.heap.size,14,none⟩=some (.int .u8 (kbyte K 14:Int))∧w'.cell? ⟨w.heap.size,15,none⟩=some (.int .u8 (kbyte K 15:Int))∧w'.cell? ⟨w.heap.size,16,none⟩=some (.int .u8 (kbyte K 16:Int))∧w'.cell? ⟨w.heap.size,17,none⟩=some (.int .i64 (l:Int))) (with_reducible (first | assumption | exact KS _ (drew_ext wy) | exact KS _ (by assumption))) (first | (go_at_call 109;refine(number_x K l _ hl128 h8).mono ?_;rintro e w5 ⟨rfl,hb5⟩;have S5:=(ext_trans (And.left (by assumption)) hb5:Below wy.heap.size wy w5);clear hb5) | (go_at_call 69;refine(hasRoute_any n (numK K l) _ hok hnk).mono ?_;rintro e w6 ⟨rfl,hb6⟩;have S6:=(ext_trans (And.left (by assumption)) hb6:Below wy.heap.size wy w6);clear hb6))
   go_wp2_with fail
   go_meet
   case rel=>exact⟨rfl,S6⟩
  case rest =>
   obtain⟨rfl,hB6⟩:=hcut
   have c4:=cells4 (block_ext by0 hB6)
   obtain⟨g0,g1,g2,g3,g4,g5,g6,g7⟩:=c4
   have hsz:=hB6.size
   have HB6:=hide (ext_trans HBY.out hB6)
   clear hB6 by0 bp0 g4 g5 g6 g7
   by_cases hbit:n.routes.testBit (numK K l)=true
   ·rw[hbit]
    go_wp2
    go_ret
    exact⟨retI (by rw[HRD2.out,if_pos hbit];rfl),HB6.out⟩
   ·have hbit':n.routes.testBit (numK K l)=false:=by simpa using hbit
    rw[hbit']
    go_wp2_with fail
    refine(HHB.out _).mono ?_
    rintro e w7 ⟨rfl,hb7⟩
    have HB7:=hide (ext_trans HB6.out hb7)
    clear hb7
    go_wp2
    go_ret
    exact⟨retI (by rw[HRD2.out,if_neg hbit,←HC1.out];omega),HB7.out⟩
end Go.Proofs.YtnapboelfimaaaaGreatDoor
