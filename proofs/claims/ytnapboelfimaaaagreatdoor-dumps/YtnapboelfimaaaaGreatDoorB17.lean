/- Cha, Loo, Wit, Tz: parts of the proof, one behind the other. -/
import Derived.Test.YtnapboelfimaaaaGreatDoorB13
import Derived.Test.YtnapboelfimaaaaGreatDoorB14
import Derived.Test.YtnapboelfimaaaaGreatDoorB16
import Derived.Lib.TrailingZeros
namespace Go.Proofs.YtnapboelfimaaaaGreatDoor
open Go.RowKit Go.Deep
theorem TabAt.set4 {w:World} {tb ab wb b:Nat} {A:Ar} {v0 v1 v2 v3:Value} (h:TabAt w tb ab wb A) (h0:tb≠b) (h1:ab≠b) (h2:wb≠b):TabAt ((((w.setCell ⟨b,0,none⟩ v0).setCell ⟨b,1,none⟩ v1).setCell ⟨b,2,none⟩ v2).setCell ⟨b,3,none⟩ v3) tb ab wb A:=(((h.other h0 h1 h2).other h0 h1 h2).other h0 h1 h2).other h0 h1 h2
theorem Fr.set4 {S:List Nat} {a w:World} {b:Nat} {v0 v1 v2 v3:Value} (h:Fr S a w) (hb:b∈S∨a.heap.size≤b):Fr S a ((((w.setCell ⟨b,0,none⟩ v0).setCell ⟨b,1,none⟩ v1).setCell ⟨b,2,none⟩ v2).setCell ⟨b,3,none⟩ v3):=(((h.setCell hb _).setCell hb _).setCell hb _).setCell hb _
theorem heap_set4 {w:World} {b c:Nat} {v0 v1 v2 v3:Value} {o:Obj} (h:w.heap[c]?=some o) (hc:c≠b):((((w.setCell ⟨b,0,none⟩ v0).setCell ⟨b,1,none⟩ v1).setCell ⟨b,2,none⟩ v2).setCell ⟨b,3,none⟩ v3).heap[c]?=some o:=((((Below.heap_setCell _ _ _ _ hc).trans (Below.heap_setCell _ _ _ _ hc)).trans (Below.heap_setCell _ _ _ _ hc)).trans (Below.heap_setCell _ _ _ _ hc)).trans h
theorem heap_set2 {w:World} {b c:Nat} {v0 v1:Value} {o:Obj} (h:w.heap[c]?=some o) (hc:c≠b):((w.setCell ⟨b,0,none⟩ v0).setCell ⟨b,1,none⟩ v1).heap[c]?=some o:=((Below.heap_setCell _ _ _ _ hc).trans (Below.heap_setCell _ _ _ _ hc)).trans h
def chainVal:Option NodeD→Value
 | none=>.tuple #[.agg #[.int .u16 0,.int .u16 0,.int .i64 0,.int .i64 0],.bool false]
 | some nn=>.tuple #[.agg #[.int .u16 nn.routes,.int .u16 nn.ways,.int .i64 nn.hops,.int .i64 nn.children],.bool true]
set_option maxHeartbeats 2000000 in
set_option maxRecDepth 10000 in
theorem chain_no (A B:Ar) (F:Nat→List Nat) (m tb ab wb K l:Nat) (x t:Int) (w:World) (h:TabAt w tb ab wb A) (hG:Good A F m) (hm:m≤2000) (hR:A.take 1=(B,none)) :
  Calls Tryz.prog 112 #[.pointer (some ⟨tb,0,none⟩),.agg (prefL K l).toArray,.int .i64 x,.int .i64 t] w fun e w'=>e=.returned (chainVal none)∧TabAt w' tb ab wb B∧Fr [ab,wb] w w':=by
 have hs:=hG.sane (by omega)
 have hna:=h.na
 have hnw:=h.nw
 have hla:=h.ar.la
 have hlw:=h.ar.lw
 have hlt:=h.lt
 obtain⟨wx,hwx⟩:∃wx,wx=(w.alloc (.cells (prefL K l).toArray 128)).alloc (.cells #[.int .u16 0,.int .u16 0,.int .i64 0,.int .i64 0] 142):=⟨_,rfl⟩
 have HBX:Below w.heap.size w wx:=by rw[hwx];exact ext_trans (ext_alloc _ _) (ext_alloc _ _)
 have bz:wx.heap[w.heap.size+1]?=some (.cells #[.int .u16 0,.int .u16 0,.int .i64 0,.int .i64 0] 142 (0,0)):=by rw[hwx,←World.size_alloc w (.cells (prefL K l).toArray 128)];exact heap_alloc_new _ _
 have HT:=hide (h.ext HBX)
 have c0:=(h.ext HBX).cell
 have hsx:=lt_of_block bz
 have HTK:=hide (take_no A ab wb 1 1 wx HT.out.ar hs rfl (by omega) (by omega) B hR)
 have HBX:=hide HBX
 have HWX:=hide hwx
 have HBZ:=hide bz
 clear h hG hR hwx bz
 go_enter Tryz.func112,Tryz.ntmps112
 go_wp2_with (first | rw[←HWX.out] | fail)
 refine HTK.out.mono ?_
 rintro e w1 ⟨rfl,hA1,hF1⟩
 have bz1:=hF1.at HBZ.out (by simp;omega)
 obtain⟨z0,z1,z2,z3,z4,z5,z6,z7⟩:=cells4 bz1
 have hz1:=lt_of_block bz1
 have hT1:=HT.out.of hF1 (by simp;omega) hA1
 have HF1:=hide (Fr.after (fr_below HBX.out) hF1 (fun y hy=>Or.inl hy):Fr [ab,wb] w w1)
 have HT1:=hide hT1
 clear hA1 hF1 hT1
 go_wp2
 refine bodyPost_ret (v:=chainVal none) (by simp[results,Tryz.results112,go_sem,chainVal,z0,z1,z2,z3,hz1]) rfl ⟨rfl,?_,?_⟩
 ·exact(HT1.out.set4 (by omega) (by omega) (by omega)).ext (ext_alloc _ _)
 ·exact(HF1.out.set4 (Or.inr (by omega))).alloc _
set_option maxHeartbeats 4000000 in
set_option maxRecDepth 10000 in
theorem chain_some (A B1 R1:Ar) (F:Nat→List Nat) (m tb ab wb K l D s hop b:Nat) (o:Option NodeD) (w:World) (h:TabAt w tb ab wb A) (hG:Good A F m) (hm:m≤2000) (h8:8≤l) (hl:l≤128) (hDs:D+s=(l-8)/4) (hhop:hop<65536) (hR0:A.take 1=(B1,some b))
  (hR:chainLoop l (fitK K l) s (8+4*D) ({ B1 with word:=setW B1.word b hop }:Ar) ⟨2^numK K l,0,b,0⟩=(R1,o)) :
  Calls Tryz.prog 112 #[.pointer (some ⟨tb,0,none⟩),.agg (prefL K l).toArray,.int .i64 (D:Nat),.int .i64 (hop:Nat)] w fun e w'=>e=.returned (chainVal o)∧TabAt w' tb ab wb R1∧Fr [ab,wb] w w':=by
 have hs:=hG.sane (by omega)
 have hna:=h.na
 have hnw:=h.nw
 have hla:=h.ar.la
 have hlw:=h.ar.lw
 have hlt:=h.lt
 have hz:=hs.size
 obtain⟨F1,hG1,hTk,hb1,hb2⟩:=good_take hG (by omega) (by omega) hR0
 have hbs:=hTk.size
 have hfb:B1.frees F1 b=0:=by
  have h1:=hTk.frees b
  have h2:=hTk.ok.apart b
  have h3:=hG.ok.apart b
  have h4:=inB_one (a:=b) (b:=b) (n:=1) (by omega) (by omega)
  omega
 have hG2:=good_set (v:=hop) hG1 hfb (by omega)
 have hnk:numK K l≤14:=by rw[numK_pnum h8 hl];have:=pnum_lt (l:=l) (v:=fitK K l) (len:=8+4*((l-8)/4)) (by omega) (by omega);omega
 have hp15:2^numK K l≤2^14:=Nat.pow_le_pow_right (by decide) hnk
 obtain⟨wx,hwx⟩:∃wx,wx=(w.alloc (.cells (prefL K l).toArray 128)).alloc (.cells #[.int .u16 0,.int .u16 0,.int .i64 0,.int .i64 0] 142):=⟨_,rfl⟩
 have HBX:Below w.heap.size w wx:=by rw[hwx];exact ext_trans (ext_alloc _ _) (ext_alloc _ _)
 have bz:wx.heap[w.heap.size+1]?=some (.cells #[.int .u16 0,.int .u16 0,.int .i64 0,.int .i64 0] 142 (0,0)):=by rw[hwx,←World.size_alloc w (.cells (prefL K l).toArray 128)];exact heap_alloc_new _ _
 have bp:wx.heap[w.heap.size]?=some (.cells (prefL K l).toArray 128 (0,0)):=by rw[hwx];exact block_ext (heap_alloc_new _ _) (ext_alloc _ _)
 have HT:=hide (h.ext HBX)
 have c0:=(h.ext HBX).cell
 have hsx:=lt_of_block bz
 have HTK:=hide (take_some A ab wb 1 1 wx HT.out.ar hs rfl (by omega) (by omega) B1 b hR0)
 have HBX:=hide HBX
 have HWX:=hide hwx
 have HBZ:=hide bz
 have HBP:=hide bp
 have HG2:=hide hG2
 have hwh:IntKind.u32.wrap (hop:Int)=(hop:Int):=by rw[IntKind.wrap_u32];omega
 have HNU:=hide (fun (w:World)=>number_any K l w hl h8)
 obtain⟨nk,hnkd⟩:∃nk,nk=numK K l:=⟨_,rfl⟩
 rw[←hnkd] at HNU hnk hp15 hR
 clear hnkd
 obtain⟨r0,hr0⟩:∃r0,r0=2^nk:=⟨_,rfl⟩
 have HWK:=hide (show IntKind.u16.wrap ((2:Int)^nk)=(r0:Int) by rw[wrap16 (k:=nk) (by omega),hr0];push_cast;rfl)
 rw[←hr0] at hp15 hR
 clear hr0
 have hnk':(nk:Int)≤14:=by omega
 have hn0ok:NodeD.ok ⟨r0,0,b,0⟩:=by refine⟨?_,?_,?_,?_⟩ <;> simp only <;> omega
 have hn0c:(#[.int .u16 ((⟨r0,0,b,0⟩:NodeD).routes:Int),.int .u16 ((⟨r0,0,b,0⟩:NodeD).ways:Int),.int .i64 ((⟨r0,0,b,0⟩:NodeD).hops:Int),.int .i64 ((⟨r0,0,b,0⟩:NodeD).children:Int)]:Array Value)=#[.int .u16 (r0:Int),.int .u16 0,.int .i64 (b:Int),.int .i64 0]:=rfl
 obtain⟨n0,hn0⟩:∃n0:NodeD,n0=⟨r0,0,b,0⟩:=⟨_,rfl⟩
 rw[←hn0] at hn0ok hn0c hR
 clear hn0
 have HN0K:=hide hn0ok
 have HN0C:=hide hn0c
 have HR:=hide hR
 have HDP:=hide (fun (w:World)=>depth_any K l w hl h8)
 rw[←hDs] at HDP
 obtain⟨rb,hrb⟩:∃rb,rb=w.heap.size+1:=⟨_,rfl⟩
 obtain⟨pb,hpb⟩:∃pb,pb=w.heap.size:=⟨_,rfl⟩
 rw[←hrb] at HBZ hsx
 rw[←hpb] at HBP
 have HRB:=hide hrb
 have HPB:=hide hpb
 have hrw:rb ∉ [ab,wb]:=by simp;omega
 have hpw:pb ∉ [ab,wb]:=by simp;omega
 have htw:tb ∉ [ab,wb]:=by simp;omega
 have htw1:tb ∉ [wb]:=by simp;omega
 have hpr:pb<rb:=by omega
 have htp:tb<pb:=by omega
 have hap:ab<pb:=by omega
 have hwp:wb<pb:=by omega
 have hwpb:w.heap.size≤pb:=by omega
 clear h hG hR hwx bz bp hG1 hTk hG2 hR0 hrb hpb hn0ok hn0c
 go_enter Tryz.func112,Tryz.ntmps112
 go_wp2_with (first | rw[←HWX.out] | fail)
 refine HTK.out.mono ?_
 rintro e w1 ⟨rfl,hA1,hF1⟩
 have bz1:=hF1.at HBZ.out hrw
 have bp1:=hF1.at HBP.out hpw
 have hT1:=HT.out.of hF1 htw hA1
 have HF1:=hide (Fr.after (fr_below HBX.out) hF1 (fun y hy=>Or.inl hy):Fr [ab,wb] w w1)
 have hl1:=lt_of_block bz1
 obtain⟨wq,hwq⟩:∃wq,wq=w1.alloc (.cells #[.int .i64 (b:Int),.int .i64 1] 172):=⟨_,rfl⟩
 obtain⟨bb,hbb⟩:∃bb,bb=w1.heap.size:=⟨_,rfl⟩
 have bq:wq.heap[bb]?=some (.cells #[.int .i64 (b:Int),.int .i64 1] 172 (0,0)):=by rw[hwq,hbb];exact heap_alloc_new _ _
 have hB1q:Below w1.heap.size w1 wq:=by rw[hwq];exact ext_alloc _ _
 have bzq:=block_ext bz1 hB1q
 have bpq:=block_ext bp1 hB1q
 have HTW:=hide (hT1.ext hB1q)
 have HFQ:=hide (Fr.after HF1.out (fr_below (S:=[]) hB1q) (fun y hy=>by cases hy):Fr [ab,wb] w wq)
 rw[←hbb] at hl1
 have HBB:=hide hbb
 have HWQ:=hide hwq
 have hlq:=lt_of_block bq
 clear hA1 hF1 hT1 hB1q hbb hwq bz1 bp1
 have hbbw:bb ∉ [wb]:=by simp;omega
 have hfit:b + [hop].length≤B1.size:=by simp;omega
 have KS:∀w',Fr [wb] wq w'→(fun w':World=>Fr [wb] wq w'∧w'.cell? ⟨tb,0,none⟩=some (.pointer (some ⟨ab,0,none⟩))∧w'.cell? ⟨bb,0,none⟩=some (.int .i64 (b:Int))) w':=fun w' hf=>⟨hf,HTW.out.frw hf htw1,(cells2 (hf.at bq hbbw)).1⟩
 simp only[] at KS
 go_wp2_with fail
 rw[←HWQ.out,←HBB.out,←HRB.out,←HPB.out]
 go_region_held3 (fun w':World=>Fr [wb] wq w'∧w'.cell? ⟨tb,0,none⟩=some (.pointer (some ⟨ab,0,none⟩))∧w'.cell? ⟨bb,0,none⟩=some (.int .i64 (b:Int))) (with_reducible (first | assumption | exact KS _ (fr_below (drew_ext wq)) | exact KS _ (by assumption) | exact KS _ (fr_below (by assumption)) | exact KS _ (fr_below (ext_trans (by assumption) (ext_alloc _ _))) | exact KS _ (fr_below (Below.drew (ext_alloc _ _))) | exact KS _ (Fr.alloc (by assumption) _) | (refine KS _ (Fr.setCell (Fr.setCell (by assumption) (Or.inr ?_) _) (Or.inr ?_) _) <;> first | assumption | exact Nat.le_refl _))) ((go_at_call 104;refine(write_any B1 ab wb _ b 1 1 [hop] _ _ (HTW.out.ar.ext (Below.drew (ext_alloc _ _))) rfl (by simp) rfl hfit (by intro j u hj;rw[addr_add];exact one_src 0 0 hj (cell_new (w:=wq) rfl))).mono ?_;rintro e w6 ⟨rfl,hA6,hF6⟩;have F6:=(Fr.after (fr_below (Below.drew (ext_alloc _ _))) hF6 (fun y hy=>Or.inl hy):Fr [wb] wq w6);clear hF6))
 have bq6:=F6.at bq hbbw
 have bz6:=F6.at bzq (show rb ∉ [wb] by simp;omega)
 have bp6:=F6.at bpq (show pb ∉ [wb] by simp;omega)
 have hT6:=HTW.out.of F6 htw1 hA6
 rw[lay_one] at hT6
 have HF6:=hide (Fr.after HFQ.out F6 (fun y hy=>Or.inl (by simp at hy ⊢;exact Or.inr hy)):Fr [ab,wb] w w6)
 clear KS hA6 F6 bq bzq bpq HTW HFQ HWQ
 obtain⟨wq,hwq⟩:∃wz,wz=w6:=⟨_,rfl⟩
 subst hwq
 have HT6:=hide hT6
 have hlq:=lt_of_block bq6
 clear hT6
 have KS:∀w',Below wq.heap.size wq w'→(fun w':World=>Below wq.heap.size wq w'∧w'.rangeAt pb 0 (prefL K l)∧w'.cell? ⟨bb,0,none⟩=some (.int .i64 (b:Int))) w':=fun w' hf=>⟨hf,range_whole K l (block_ext bp6 hf),(cells2 (block_ext bq6 hf)).1⟩
 simp only[] at KS
 go_wp2_with fail
 go_cut [12] (fun v wc=>∃nb,v=.pointer (some ⟨nb,0,none⟩)∧wq.heap.size≤nb∧wc.heap[nb]?=some (.cells #[.int .u16 n0.routes,.int .u16 n0.ways,.int .i64 n0.hops,.int .i64 n0.children] 142 (0,0))∧Below wq.heap.size wq wc)
 case first =>
  refine wp_region_held_drew (S:=(fun w':World=>Below wq.heap.size wq w'∧w'.rangeAt pb 0 (prefL K l)∧w'.cell? ⟨bb,0,none⟩=some (.int .i64 (b:Int)))) (by kernel_rfl) (KS _ (drew_ext wq)) (fun hHeld=>?_)
  (refine wpAnyH_take (i:=0) (oi:=_) (v:=_) rfl (by kernel_rfl) (by kernel_rfl) (by kernel_rfl) (fun _ _ _ h=>h) (yieldsIf_load_mid (by rfl) _ _ rfl _ _ rfl (prefL K l) _ (fun w hSw=>hSw.2.1) Tryz.underlying128 rfl (pref_info K l)) (by assumption) ?_;(try simp only[Act.put]);(try simp only[List.setIfInBounds_toArray]))
  (refine wpAnyH_take (i:=3) (oi:=_) (v:=?_) rfl (by kernel_rfl) (by kernel_rfl) (by kernel_rfl) (fun _ _ _ h=>h) (Or.inl ⟨by rfl,?_⟩) (by assumption) ?_;rotate_left;(intro w hSw;(try dsimp only at hSw);go_simp;try with_reducible rfl);(try simp only[Act.put]);(try simp only[List.setIfInBounds_toArray]))
  (refine wpAnyH_take (i:=4) (oi:=_) (v:=?_) rfl (by kernel_rfl) (by kernel_rfl) (by kernel_rfl) (fun _ _ _ h=>h) (Or.inl ⟨by rfl,?_⟩) (by assumption) ?_;rotate_left;(intro w hSw;(try dsimp only at hSw);go_simp;try with_reducible rfl);(try simp only[Act.put]);(try simp only[List.setIfInBounds_toArray]))
  (refine wpAnyH_ready (rs:=[1,6]) (by kernel_rfl) (by simp) ?_)
  (refine AllReadyH.cons (o:=_) rfl (fun K hK=>?_) ?_)
  ·go_simp
   go_at_call 109
   refine(HNU.out _).mono ?_
   rintro e w5 ⟨rfl,hb5⟩
   have S5:=(ext_trans (drew_ext wq) hb5:Below wq.heap.size wq w5)
   have z5:=S5.size
   clear hb5
   go_wp2_with fail
   (refine hK.out _ _ (KS _ S5) (fun hHeld=>?_);clear hK K;(try simp only[Act.put]);(try simp only[List.setIfInBounds_toArray]))
   (refine wpAnyH_take (i:=2) (oi:=_) (v:=?_) rfl (by kernel_rfl) (by kernel_rfl) (by kernel_rfl) (fun _ _ _ h=>h) (Or.inl ⟨by rfl,?_⟩) (by assumption) ?_;rotate_left;(intro w hSw;(try dsimp only at hSw);go_simp;try with_reducible rfl);(try simp only[Act.put]);(try simp only[List.setIfInBounds_toArray]))
   (refine wpAnyH_take (i:=5) (oi:=_) (v:=?_) rfl (by kernel_rfl) (by kernel_rfl) (by kernel_rfl) (fun _ _ _ h=>h) (Or.inl ⟨by rfl,?_⟩) (by assumption) ?_;rotate_left;(intro w hSw;(try dsimp only at hSw);go_simp;try with_reducible rfl);(try simp only[Act.put]);(try simp only[List.setIfInBounds_toArray]))
   (refine wpAnyH_ready (rs:=[6]) (by kernel_rfl) (by simp) ?_)
   (refine AllReadyH.cons (o:=_) rfl (fun K hK=>?_) ?_)
   ·go_simp
    (refine hK.out _ _ (KS _ (ext_trans S5 (ext_alloc _ _))) (fun hHeld=>?_);clear hK K;(try simp only[Act.put]);(try simp only[List.setIfInBounds_toArray]))
    (refine wpAnyH_ready (rs:=[7]) (by kernel_rfl) (by simp) ?_)
    (refine AllReadyH.cons (o:=_) rfl (fun K hK=>?_) ?_)
    ·go_simp
     (refine hK.out _ _ (KS _ (ext_trans S5 (ext_alloc _ _))) (fun hHeld=>?_);clear hK K;(try simp only[Act.put]);(try simp only[List.setIfInBounds_toArray]))
     (refine wpAnyH_done (by kernel_rfl) ?_ _)
     go_wp2_with fail
     go_meet
     case rel =>
      refine⟨w5.heap.size,rfl,z5,?_,ext_trans S5 (ext_alloc _ _)⟩
      rw[HWK.out,HN0C.out]
      exact heap_alloc_new _ _
    ·exact AllReadyH.nil
   ·exact AllReadyH.nil
  ·(refine AllReadyH.cons (o:=_) rfl (fun K hK=>?_) ?_)
   ·go_simp
    (refine hK.out _ _ (KS _ (Below.drew (ext_alloc _ _))) (fun hHeld=>?_);clear hK K;(try simp only[Act.put]);(try simp only[List.setIfInBounds_toArray]))
    (refine wpAnyH_ready (rs:=[1]) (by kernel_rfl) (by simp) ?_)
    (refine AllReadyH.cons (o:=_) rfl (fun K hK=>?_) ?_)
    ·go_simp
     go_at_call 109
     refine(HNU.out _).mono ?_
     rintro e w5 ⟨rfl,hb5⟩
     have S5:=(ext_trans (Below.drew (ext_alloc _ _)) hb5:Below wq.heap.size wq w5)
     have z5:=S5.size
     have b5:=new_drew hb5
     obtain⟨g0,g1,g2,g3,g4,g5,g6,g7⟩:=cells4 b5
     clear hb5
     go_wp2_with fail
     (refine hK.out _ _ (KS _ S5) (fun hHeld=>?_);clear hK K;(try simp only[Act.put]);(try simp only[List.setIfInBounds_toArray]))
     (refine wpAnyH_take (i:=2) (oi:=_) (v:=?_) rfl (by kernel_rfl) (by kernel_rfl) (by kernel_rfl) (fun _ _ _ h=>h) (Or.inl ⟨by rfl,?_⟩) (by assumption) ?_;rotate_left;(intro w hSw;(try dsimp only at hSw);go_simp;try with_reducible rfl);(try simp only[Act.put]);(try simp only[List.setIfInBounds_toArray]))
     (refine wpAnyH_take (i:=5) (oi:=_) (v:=?_) rfl (by kernel_rfl) (by kernel_rfl) (by kernel_rfl) (fun _ _ _ h=>h) (Or.inl ⟨by rfl,?_⟩) (by assumption) ?_;rotate_left;(intro w hSw;(try dsimp only at hSw);go_simp;try with_reducible rfl);(try simp only[Act.put]);(try simp only[List.setIfInBounds_toArray]))
     (refine wpAnyH_ready (rs:=[7]) (by kernel_rfl) (by simp) ?_)
     (refine AllReadyH.cons (o:=_) rfl (fun K hK=>?_) ?_)
     ·go_simp
      (refine hK.out _ _ (KS _ (Below.setCell (Below.setCell (Below.setCell (Below.setCell S5 (Nat.le_refl _) _) (Nat.le_refl _) _) (Nat.le_refl _) _) (Nat.le_refl _) _)) (fun hHeld=>?_);clear hK K;(try simp only[Act.put]);(try simp only[List.setIfInBounds_toArray]))
      (refine wpAnyH_done (by kernel_rfl) ?_ _)
      go_wp2_with fail
      go_meet
      case rel =>
       refine⟨wq.heap.size,rfl,Nat.le_refl _,?_,Below.setCell (Below.setCell (Below.setCell (Below.setCell S5 (Nat.le_refl _) _) (Nat.le_refl _) _) (Nat.le_refl _) _) (Nat.le_refl _) _⟩
       rw[HWK.out,HN0C.out]
       exact store4 b5
     ·exact AllReadyH.nil
    ·exact AllReadyH.nil
   ·exact AllReadyH.nil
 case rest =>
  obtain⟨nb,rfl,hnb,bnc,hBc⟩:=hcut
  have bpc:=block_ext bp6 hBc
  have HBQ:=hide (block_ext bq6 hBc)
  have HBR:=hide (block_ext bz6 hBc)
  have HBN:=hide bnc
  have HTC:=hide (HT6.out.ext hBc)
  have HFC:=hide (Fr.after HF6.out (fr_below (S:=[]) hBc) (fun y hy=>by cases hy):Fr [ab,wb] w wc)
  have hlc:=lt_of_block bnc
  have hwq:=hBc.size
  clear KS hBc bnc bq6 bz6 bp6 HT6 HF6
  go_wp2_with (show wpList _ _ _ (⟨_,.load 128 _,_,_,_,_⟩ :: _) _ _;refine wpList_load_whole rfl 128 _ rfl pb rfl (prefL K l) _ 128 (0,0) (by assumption) Tryz.underlying128 rfl (pref_info K l) ?_)
  refine(HDP.out _).mono ?_
  rintro e w2 ⟨rfl,hb2⟩
  have HBP2:=hide (block_ext bpc hb2)
  have HBQ2:=hide (block_ext HBQ.out hb2)
  have HBR2:=hide (block_ext HBR.out hb2)
  have HBN2:=hide (block_ext HBN.out hb2)
  have HTC2:=hide (HTC.out.ext hb2)
  have HFC2:=hide (Fr.after HFC.out (fr_below (S:=[]) hb2) (fun y hy=>by cases hy):Fr [ab,wb] w w2)
  clear hb2 bpc HBQ HBR HBN HTC HFC
  have hD30:(D:Int)+s≤30:=by omega
  have hnw1:nb ∉ [ab,wb]:=by simp;omega
  have hbbw2:bb ∉ [ab,wb]:=by simp;omega
  have hnbw0:nb≠wb:=by omega
  have hnba0:nb≠ab:=by omega
  have hnbt0:tb≠nb:=by omega
  have hnbw00:w.heap.size≤nb:=by omega
  have hnbb:nb≠bb:=by omega
  have hnbr:nb≠rb:=by omega
  have hnbp:nb≠pb:=by omega
  have hbbr:bb≠rb:=by omega
  have hbbp:bb≠pb:=by omega
  clear hlc hwq hlq
  go_wp2_with fail
  go_loopw [13] (fun i wr=>∃(s':Nat) (A':Ar) (nn:NodeD) (F':Nat→List Nat) (m':Nat) (y z:Int),i=.int .i64 ((D:Int)+s'-1)∧s'≤s∧chainLoop l (fitK K l) s' (8+4*D) A' nn=(R1,o)∧Good A' F' m'∧m'+2*s'≤m+1+2*s∧nn.ok∧TabAt wr tb ab wb A'∧wr.heap[nb]?=some (.cells #[.int .u16 nn.routes,.int .u16 nn.ways,.int .i64 nn.hops,.int .i64 nn.children] 142 (0,0))∧wr.heap[bb]?=some (.cells #[.int .i64 y,.int .i64 z] 172 (0,0))∧wr.heap[rb]?=some (.cells #[.int .u16 0,.int .u16 0,.int .i64 0,.int .i64 0] 142 (0,0))∧wr.heap[pb]?=some (.cells (prefL K l).toArray 128 (0,0))∧Fr [ab,wb] w wr) (fun i _=>(intOf i-(D:Int)+1).toNat)
  case atStart =>
   refine⟨s,_,n0,F1,m+1,_,_,?_,by omega,HR.out,HG2.out,by omega,HN0K.out,HTC2.out,HBN2.out,HBQ2.out,HBR2.out,HBP2.out,HFC2.out⟩
   exact congrArg (Value.int .i64) (by omega)
  case round =>
   obtain⟨s',A',nn,F',m',y,z,rfl,hs',hR',hG',hm',hnok,hTr,bn,bq,bz,bp,hFr⟩:=hrel
   have hlr:=lt_of_block bz
   have hlb:=lt_of_block bq
   have hlp:=lt_of_block bp
   have hln:=lt_of_block bn
   have HTR:=hide hTr
   have c0:=hTr.cell
   have hltr:=hTr.lt
   have HFR:=hide hFr
   have HBN:=hide bn
   have HBQ:=hide bq
   have HBZ2:=hide bz
   have HBP3:=hide bp
   have HRR:=hide hR'
   have HGG:=hide hG'
   clear hTr hFr hR' hG'
   cases s' with
   | zero =>
    have hend:=HRR.out
    rw[chainLoop] at hend
    simp only[Prod.mk.injEq] at hend
    obtain⟨e1,e2⟩:=hend
    subst e1 e2
    obtain⟨k0,k1,k2,k3,k4,k5,k6,k7⟩:=cells4 bn
    obtain⟨z0,z1,z2,z3,z4,z5,z6,z7⟩:=cells4 bz
    clear bn bq bz bp
    have bzz:=store4 (c0:=.int .u16 nn.routes) (c1:=.int .u16 nn.ways) (c2:=.int .i64 nn.hops) (c3:=.int .i64 nn.children) HBZ2.out
    have hTT:=HTR.out.set4 (b:=rb) (v0:=.int .u16 nn.routes) (v1:=.int .u16 nn.ways) (v2:=.int .i64 nn.hops) (v3:=.int .i64 nn.children) (by omega) (by omega) (by omega)
    have hFF:=HFR.out.set4 (b:=rb) (v0:=.int .u16 nn.routes) (v1:=.int .u16 nn.ways) (v2:=.int .i64 nn.hops) (v3:=.int .i64 nn.children) (Or.inr (by omega))
    obtain⟨wz,hwz⟩:∃wz,wz=((((wr.setCell ⟨rb,0,none⟩ (.int .u16 nn.routes)).setCell ⟨rb,1,none⟩ (.int .u16 nn.ways)).setCell ⟨rb,2,none⟩ (.int .i64 nn.hops)).setCell ⟨rb,3,none⟩ (.int .i64 nn.children)):=⟨_,rfl⟩
    rw[←hwz] at bzz hTT hFF
    have HX:=hide (And.intro bzz (And.intro hTT hFF))
    have HWZ:=hide hwz
    clear hwz bzz hTT hFF
    go_wp2
    rw[←HWZ.out]
    obtain⟨y0,y1,y2,y3,y4,y5,y6,y7⟩:=cells4 HX.out.1
    exact bodyPost_ret (v:=chainVal (some nn)) (by simp[results,Tryz.results112,go_sem,chainVal,y0,y1,y2,y3]) rfl ⟨rfl,HX.out.2.1,HX.out.2.2⟩
   | succ s' =>
    have hcl:=HRR.out
    rw[chainLoop] at hcl
    have hs0:=HGG.out.sane (by omega)
    have hf4:=kfour_lt K (D+s')
    have hfv:fourV l (fitK K l) (8+4*D+4*s')=kfour K (D+s'):=by rw[fourV_key (by omega) (by omega),kfour_fit];rw[show 8+4*D+4*s'+4=8+4*(D+s')+4 by omega]
    rw[hfv] at hcl
    cases hT2:A'.take 2 with
    | mk B' o' =>
     rw[hT2] at hcl
     cases o' with
     | none =>
      simp only[Prod.mk.injEq] at hcl
      obtain⟨e1,e2⟩:=hcl
      subst e1 e2
      have HTK2:=hide (take_no A' ab wb 2 2 wr HTR.out.ar hs0 rfl (by omega) (by omega) B' hT2)
      clear bn bz bp bq
      go_wp2_with fail
      refine HTK2.out.mono ?_
      rintro e w3 ⟨rfl,hA3,hF3⟩
      have bq3:=hF3.at HBQ.out hbbw2
      have bz3:=hF3.at HBZ2.out hrw
      obtain⟨k0,k1,k2,k3⟩:=cells2 bq3
      obtain⟨z0,z1,z2,z3,z4,z5,z6,z7⟩:=cells4 bz3
      have hT3:=HTR.out.of hF3 htw hA3
      have hF3':=(Fr.after HFR.out hF3 (fun y hy=>Or.inl hy):Fr [ab,wb] w w3)
      have hlb3:=lt_of_block bq3
      have hlz3:=lt_of_block bz3
      have bzz:=store4 (c0:=.int .u16 0) (c1:=.int .u16 0) (c2:=.int .i64 0) (c3:=.int .i64 0) (heap_set2 (v0:=.int .i64 0) (v1:=.int .i64 0) bz3 hbbr.symm)
      have hTT:=((hT3.other (v:=.int .i64 0) (off:=0) (b:=bb) (by omega) (by omega) (by omega)).other (v:=.int .i64 0) (off:=1) (b:=bb) (by omega) (by omega) (by omega)).set4 (b:=rb) (v0:=.int .u16 0) (v1:=.int .u16 0) (v2:=.int .i64 0) (v3:=.int .i64 0) (by omega) (by omega) (by omega)
      have hFF:=((hF3'.setCell (b:=bb) (off:=0) (Or.inr (by omega)) (.int .i64 0)).setCell (b:=bb) (off:=1) (Or.inr (by omega)) (.int .i64 0)).set4 (b:=rb) (v0:=.int .u16 0) (v1:=.int .u16 0) (v2:=.int .i64 0) (v3:=.int .i64 0) (Or.inr (by omega))
      obtain⟨wz,hwz⟩:∃wz,wz=((((((w3.setCell ⟨bb,0,none⟩ (.int .i64 0)).setCell ⟨bb,1,none⟩ (.int .i64 0)).setCell ⟨rb,0,none⟩ (.int .u16 0)).setCell ⟨rb,1,none⟩ (.int .u16 0)).setCell ⟨rb,2,none⟩ (.int .i64 0)).setCell ⟨rb,3,none⟩ (.int .i64 0)):=⟨_,rfl⟩
      rw[←hwz] at bzz hTT hFF
      have HX:=hide (And.intro bzz (And.intro hTT hFF))
      have HWZ:=hide hwz
      clear bzz hTT hFF hT3 hF3' hA3 hF3 hwz
      go_wp2
      rw[←HWZ.out]
      obtain⟨y0,y1,y2,y3,y4,y5,y6,y7⟩:=cells4 HX.out.1
      exact bodyPost_ret (v:=chainVal none) (by simp[results,Tryz.results112,go_sem,chainVal,y0,y1,y2,y3]) rfl ⟨rfl,HX.out.2.1,HX.out.2.2⟩
     | some b' =>
      obtain⟨F2,hG2,hTk2,hx1,hx2⟩:=good_take HGG.out (by omega) (by omega) hT2
      have hap:∀a,inB a b' 2+B'.frees F2 a≤1:=fun a=>by have h1:=hTk2.frees a;have h2:=HGG.out.ok.apart a;omega
      have HGN:=hide (good_put hG2 hnok hap)
      have hbsz:=hTk2.size
      have hsz2:=hs0.size
      have HCL:=hide hcl
      have HTK2:=hide (take_some A' ab wb 2 2 wr HTR.out.ar hs0 rfl (by omega) (by omega) B' b' hT2)
      clear bn bz bp bq hTk2 hG2 hap hcl hT2
      go_wp2_with fail
      refine HTK2.out.mono ?_
      rintro e w3 ⟨rfl,hA3,hF3⟩
      have bq3:=hF3.at HBQ.out hbbw2
      obtain⟨k0,k1,k2,k3⟩:=cells2 bq3
      have hlb3:=lt_of_block bq3
      have hT3:=(((HTR.out.of hF3 htw hA3).other (v:=.int .i64 (b':Int)) (off:=0) (b:=bb) (by omega) (by omega) (by omega)).other (v:=.int .i64 2) (off:=1) (b:=bb) (by omega) (by omega) (by omega))
      have hF3':=((Fr.after HFR.out hF3 (fun y hy=>Or.inl hy):Fr [ab,wb] w w3).setCell (b:=bb) (off:=0) (Or.inr (by omega)) (.int .i64 (b':Int))).setCell (b:=bb) (off:=1) (Or.inr (by omega)) (.int .i64 2)
      have bqq:=store2 (c0:=.int .i64 (b':Int)) (c1:=.int .i64 2) bq3
      have bnq:=heap_set2 (v0:=.int .i64 (b':Int)) (v1:=.int .i64 2) (hF3.at HBN.out hnw1) hnbb
      have bzq:=heap_set2 (v0:=.int .i64 (b':Int)) (v1:=.int .i64 2) (hF3.at HBZ2.out hrw) hbbr.symm
      have bpq:=heap_set2 (v0:=.int .i64 (b':Int)) (v1:=.int .i64 2) (hF3.at HBP3.out hpw) hbbp.symm
      obtain⟨wq,hwq⟩:∃wq,wq=((w3.setCell ⟨bb,0,none⟩ (.int .i64 (b':Int))).setCell ⟨bb,1,none⟩ (.int .i64 2)):=⟨_,rfl⟩
      rw[←hwq] at hT3 hF3' bqq bnq bzq bpq
      have HWQ:=hide hwq
      have HTW:=hide hT3
      have HFQ:=hide hF3'
      have hlnq:=lt_of_block bnq
      have hlbq:=lt_of_block bqq
      have hltq:=hT3.lt
      have hbbw1:bb ∉ [wb]:=by simp;omega
      have hnbw1:nb ∉ [wb]:=by simpa using hnbw0
      have KS:∀w',Fr [wb] wq w'→(fun w':World=>Fr [wb] wq w'∧w'.cell? ⟨tb,0,none⟩=some (.pointer (some ⟨ab,0,none⟩))∧w'.cell? ⟨nb,0,none⟩=some (.int .u16 nn.routes)∧w'.cell? ⟨nb,1,none⟩=some (.int .u16 nn.ways)∧w'.cell? ⟨nb,2,none⟩=some (.int .i64 nn.hops)∧w'.cell? ⟨nb,3,none⟩=some (.int .i64 nn.children)∧w'.cell? ⟨bb,0,none⟩=some (.int .i64 (b':Int))) w':=fun w' hf=>⟨hf,HTW.out.frw hf htw1,(cells4n (hf.at bnq hnbw1)).1,(cells4n (hf.at bnq hnbw1)).2.1,(cells4n (hf.at bnq hnbw1)).2.2.1,(cells4n (hf.at bnq hnbw1)).2.2.2,(cells2 (hf.at bqq hbbw1)).1⟩
      simp only[] at KS
      clear hA3 hF3 hwq hT3 hF3' bq3
      go_wp2_with fail
      rw[←HWQ.out]
      go_region_held3 (fun w':World=>Fr [wb] wq w'∧w'.cell? ⟨tb,0,none⟩=some (.pointer (some ⟨ab,0,none⟩))∧w'.cell? ⟨nb,0,none⟩=some (.int .u16 nn.routes)∧w'.cell? ⟨nb,1,none⟩=some (.int .u16 nn.ways)∧w'.cell? ⟨nb,2,none⟩=some (.int .i64 nn.hops)∧w'.cell? ⟨nb,3,none⟩=some (.int .i64 nn.children)∧w'.cell? ⟨bb,0,none⟩=some (.int .i64 (b':Int))) (with_reducible (first | assumption | exact KS _ (fr_below (drew_ext wq)) | exact KS _ (by assumption) | exact KS _ (fr_below (by assumption)) | exact KS _ (fr_below (ext_trans (by assumption) (ext_alloc _ _))) | exact KS _ (fr_below (Below.drew (ext_alloc _ _))) | exact KS _ (Fr.alloc (by assumption) _) | (refine KS _ (Fr.setCell (Fr.setCell (by assumption) (Or.inr ?_) _) (Or.inr ?_) _) <;> first | assumption | exact Nat.le_refl _))) ((go_at_call 121;refine(writeNode_any B' ab wb _ b' nn _ HTW.out.ar.drew hnok rfl (by omega)).mono ?_;rintro e w5 ⟨rfl,hA5,hF5⟩;have F5:=(Fr.after (fr_below (drew_ext wq)) hF5 (fun y hy=>Or.inl hy):Fr [wb] wq w5);clear hF5))
      have hT5:=HTW.out.of F5 htw1 hA5
      have HF5:=hide (Fr.after HFQ.out F5 (fun y hy=>Or.inl (by simp at hy ⊢;exact Or.inr hy)):Fr [ab,wb] w w5)
      have bn5:=F5.at bnq hnbw1
      have bq5:=F5.at bqq hbbw1
      have bz5:=F5.at bzq (show rb ∉ [wb] by simp;omega)
      have bp5:=F5.at bpq (show pb ∉ [wb] by simp;omega)
      have HT5:=hide hT5
      clear KS F5 hA5 hT5 bnq bqq bzq bpq HTW HFQ HWQ
      obtain⟨wq,hwq⟩:∃wz,wz=w5:=⟨_,rfl⟩
      subst hwq
      have hln5:=lt_of_block bn5
      have KS:∀w',Fr [nb] wq w'→(fun w':World=>Fr [nb] wq w'∧w'.rangeAt pb 0 (keyL K)∧w'.cell? ⟨bb,0,none⟩=some (.int .i64 (b':Int))) w':=fun w' hf=>⟨hf,range_pref K l (hf.at bp5 (by simpa using hnbp.symm)),(cells2 (hf.at bq5 (by simpa using hnbb.symm))).1⟩
      simp only[] at KS
      have hu:=Tryz.underlying126
      have hi:=key_info K
      have hmem:nb∈[nb]:=List.mem_singleton.2 rfl
      have HPW4:=hide (show ((2^kfour K (D+s'):Nat):Int)=(2:Int)^kfour K (D+s') by push_cast;rfl)
      have HWK4:=hide (wrap16 (k:=kfour K (D+s')) (by omega))
      have HFO:=hide (fun (w:World)=>four_any K (D+s') ((D:Int)+((s':Int)+1)-1) w (by omega) (by omega))
      have hf4':(kfour K (D+s'):Int)≤15:=by omega
      go_wp2_with fail
      go_region_held3 (fun w':World=>Fr [nb] wq w'∧w'.rangeAt pb 0 (keyL K)∧w'.cell? ⟨bb,0,none⟩=some (.int .i64 (b':Int))) (with_reducible (first | assumption | exact KS _ (fr_below (drew_ext wq)) | exact KS _ (by assumption) | exact KS _ (Fr.set4 (by assumption) (Or.inl hmem)))) ((go_at_call 115;refine(HFO.out _).mono ?_;rintro e w6 ⟨rfl,hb6⟩;have S6:=(ext_trans (drew_ext wq) hb6:Below wq.heap.size wq w6);have F6:=(fr_below S6:Fr [nb] wq w6);have bn6:=block_ext bn5 S6;obtain⟨g0,g1,g2,g3,g4,g5,g6,g7⟩:=cells4 bn6;clear hb6))
      rw[HWK4.out,←HPW4.out]
      have hTz:=(HT5.out.ext S6).set4 (b:=nb) (v0:=.int .u16 0) (v1:=.int .u16 ((2^kfour K (D+s'):Nat):Int)) (v2:=.int .i64 0) (v3:=.int .i64 (b':Int)) hnbt0 hnba0.symm hnbw0.symm
      have hFz:=(Fr.after HF5.out (fr_below (S:=[]) S6) (fun y hy=>by cases hy):Fr [ab,wb] w w6).set4 (b:=nb) (v0:=.int .u16 0) (v1:=.int .u16 ((2^kfour K (D+s'):Nat):Int)) (v2:=.int .i64 0) (v3:=.int .i64 (b':Int)) (Or.inr hnbw00)
      have bnz:=store4 (c0:=.int .u16 0) (c1:=.int .u16 ((2^kfour K (D+s'):Nat):Int)) (c2:=.int .i64 0) (c3:=.int .i64 (b':Int)) bn6
      have bqz:=heap_set4 (b:=nb) (v0:=.int .u16 0) (v1:=.int .u16 ((2^kfour K (D+s'):Nat):Int)) (v2:=.int .i64 0) (v3:=.int .i64 (b':Int)) (block_ext bq5 S6) hnbb.symm
      have bzz:=heap_set4 (b:=nb) (v0:=.int .u16 0) (v1:=.int .u16 ((2^kfour K (D+s'):Nat):Int)) (v2:=.int .i64 0) (v3:=.int .i64 (b':Int)) (block_ext bz5 S6) hnbr.symm
      have bpz:=heap_set4 (b:=nb) (v0:=.int .u16 0) (v1:=.int .u16 ((2^kfour K (D+s'):Nat):Int)) (v2:=.int .i64 0) (v3:=.int .i64 (b':Int)) (block_ext bp5 S6) hnbp.symm
      obtain⟨wz,hwz⟩:∃wz,wz=((((w6.setCell ⟨nb,0,none⟩ (.int .u16 0)).setCell ⟨nb,1,none⟩ (.int .u16 ((2^kfour K (D+s'):Nat):Int))).setCell ⟨nb,2,none⟩ (.int .i64 0)).setCell ⟨nb,3,none⟩ (.int .i64 (b':Int))):=⟨_,rfl⟩
      rw[←hwz] at hTz hFz bnz bqz bzz bpz ⊢
      have HX:=hide (And.intro hTz (And.intro bnz (And.intro bqz (And.intro bzz (And.intro bpz hFz)))))
      have hp4:2^kfour K (D+s')≤2^15:=Nat.pow_le_pow_right (by decide) (by omega)
      have HOK:=hide (show NodeD.ok ⟨0,2^kfour K (D+s'),0,b'⟩ by refine⟨?_,?_,?_,?_⟩ <;> simp only <;> omega)
      clear hTz hFz bnz bqz bzz bpz hwz KS bn6 S6 F6 g0 g1 g2 g3 g4 g5 g6 g7 bn5 bq5 bz5 bp5 hp4
      go_wp2
      go_roundw
      case rel=>exact⟨s',B'.putN b' nn,⟨0,2^kfour K (D+s'),0,b'⟩,F2,m'+2,_,_,congrArg (Value.int .i64) (by omega),by omega,HCL.out,HGN.out,by omega,HOK.out,HX.out⟩
      case measure=>simp[intOf];omega
theorem chain_any (A R:Ar) (F:Nat→List Nat) (m tb ab wb K l D s hop:Nat) (x t:Int) (o:Option NodeD) (w:World) (h:TabAt w tb ab wb A) (hG:Good A F m) (hm:m≤2000) (h8:8≤l) (hl:l≤128) (hx:x=D) (ht:t=hop) (hDs:D+s=(l-8)/4) (hhop:hop<65536)
  (hR:chainN l (fitK K l) hop s (8+4*D) A=(R,o)) :
  Calls Tryz.prog 112 #[.pointer (some ⟨tb,0,none⟩),.agg (prefL K l).toArray,.int .i64 x,.int .i64 t] w fun e w'=>e=.returned (chainVal o)∧TabAt w' tb ab wb R∧Fr [ab,wb] w w':=by
 subst hx ht
 unfold chainN at hR
 cases hT:A.take 1 with
 | mk B1 o1 =>
  rw[hT] at hR
  cases o1 with
  | none =>
   simp only[Prod.mk.injEq] at hR
   obtain⟨e1,e2⟩:=hR
   subst e1 e2
   exact chain_no A B1 F m tb ab wb K l _ _ w h hG hm hT
  | some b =>
   simp only at hR
   rw[show 8+4*D+4*s=8+4*((l-8)/4) by omega,←numK_pnum h8 hl] at hR
   exact chain_some A B1 R F m tb ab wb K l D s hop b o w h hG hm h8 hl hDs hhop hT hR
end Go.Proofs.YtnapboelfimaaaaGreatDoor
namespace Go.Proofs.YtnapboelfimaaaaGreatDoor
open Go.RowKit Go.Deep
def Bst (A:Ar) (b:Nat) (o:Option Nat):Prop:=(b=0∧o=none)∨∃h,o=some h∧0<b∧b<A.size∧A.word b=h
theorem bst_none {A:Ar} {o:Option Nat} (h:Bst A 0 o):o=none:=by
 rcases h with h | ⟨h,_,h2,_⟩
 ·exact h.2
 ·omega
theorem bst_some {A:Ar} {b:Nat} {o:Option Nat} (h:Bst A b o) (hb:b≠0):∃h,o=some h∧b<A.size∧A.word b=h:=by
 rcases h with h | ⟨x,h1,_,h3,h4⟩
 ·exact absurd h.1 hb
 ·exact⟨x,h1,h3,h4⟩
def At (A:Ar) (M:Tab) (K dm T t b x c:Nat):Prop:=(x=0∧Bst A b (bestL M K 129)∧c=T)∨(x≠0∧t≤dm∧On A M (dm-t) (8+4*t) (fitK K (8+4*t)) x∧Bst A b (bestL M K (8+4*t))∧c+nodesOn A.word K (dm-t) (8+4*t) x=T)
theorem best_top {M:Tab} {K L:Nat} (hT:TabOk L M) (hL:L≤128):∀k,bestL M K (129+k)=bestL M K 129
 | 0=>rfl
 | k+1=>by
  rw[show 129+(k+1)=(129+k)+1 by omega,bestL]
  have hn:(M (129+k) (fitK K (129+k))).isSome=false:=by
   cases hm:(M (129+k) (fitK K (129+k))).isSome with
   | false=>rfl
   | true=>have:=hT.len _ _ hm;omega
  rw[hn]
  exact best_top hT hL k
theorem best_all {M:Tab} {K len L:Nat} (hT:TabOk L M) (hL:L≤128) (hany:anyBelow M len (fitK K len)=false) (hl:len≤136):bestL M K 129=bestL M K len:=by
 by_cases h:len≤129
 ·exact best_end hT hL hany hl 129 h (by omega)
 ·have:=best_top (K:=K) hT hL (len-129)
  rw[show 129+(len-129)=len by omega] at this
  exact this.symm
def lookVal (W:Nat→Nat) (q:Bool) (K:Nat) (o:Option Nat):Value :=
 match o with
 | some h=>.tuple #[.int .i64 (h:Int),.int .i64 (readsN W q K true:Int),.bool true]
 | none=>.tuple #[.int .i64 0,.int .i64 (readsN W q K false:Int),.bool false]
set_option maxHeartbeats 4000000 in
set_option maxRecDepth 10000 in
theorem lookup_any (A:Ar) (F:Nat→List Nat) (M:Bool→Tab) (tb ab wb:Nat) (f:Int) (q:Bool) (s:ByteArray) (K:Nat) (w:World) (h:TabAt w tb ab wb A) (hs:Sane A) (hI:Inv A F M) (hq:q=decide (f=6)) (hs16:s.size≤16) (hK:K=keyNum s) :
  Calls Tryz.prog 133 #[.pointer (some ⟨tb,0,none⟩),.int .i64 f,.string s] w fun e w'=>e=.returned (lookVal A.word q K (bestL (M q) K 129))∧Below w.heap.size w w':=by
 have HKO:=hide (fun (w:World)=>keyOf_any s w (by omega))
 rw[←hK] at HKO
 have hKl:K<2^136:=by rw[hK];exact keyNum_lt s
 have hfit:=kbyte_zero K hKl
 obtain⟨b8,hb8⟩:∃b8,b8=fitK K 8:=⟨_,rfl⟩
 rw[←hb8] at hfit
 have hb256:b8<256:=by rw[←hfit];exact kbyte_lt K 0
 have hrt:=rt_le q
 have hsz:=hI.size
 have hszA:=hs.size
 have hsh:=(hI.root q).lt b8 hb256
 obtain⟨nd,hnd⟩:∃nd,nd=A.word (rt q+b8)%65536:=⟨_,rfl⟩
 obtain⟨sh,hshd⟩:∃sh,sh=A.word (rt q+b8)/65536:=⟨_,rfl⟩
 have HBA:=hide (fun (w:World)=>base_any f q w hq)
 have hin:IntKind.i64.wrap (b8:Int)=(b8:Int):=by rw[IntKind.wrap_i64];omega
 have HX:=hide (show IntKind.i64.wrap ((rt q:Int)+IntKind.i64.wrap (b8:Int))=((rt q+b8:Nat):Int) by rw[hin,IntKind.wrap_i64];omega)
 have HRF:=hide (fun (rb:Nat) (x:Int) (w:World) (h:ArAt w ab wb A) (hx:x=((rt q+b8:Nat):Int)) (hr:w.heap[rb]?=some (.cells #[.pointer (some ⟨ab,0,none⟩),.int .i64 (0)] 93 (0,0)))=>readFirst_any A ab wb rb x (rt q+b8) 0 w h hs hx (by omega) hsh hr (by omega) (by omega))
 rw[←hnd,←hshd] at HRF
 have HFL:=hide (fun (w:World)=>flongest_any nd sh w (by rw[hshd];exact hsh))
 have hbs:=best_short (hI.root q) hKl
 rw[←hb8,←hshd] at hbs
 obtain⟨bl,hbl⟩:∃bl,bl=Lib.bitLen sh:=⟨_,rfl⟩
 rw[←hbl] at hbs HFL
 have hbl8:bl≤8:=by
  rcases hbs with h1 | ⟨l,x,h1,h2,_⟩ <;> omega
 clear hbl
 have HBS:=hide hbs
 clear hbs
 have HSP:=hide (fun (l:Nat) (hl:l<8) (w:World)=>shortPlace_any f l q l b8 w hq rfl hl hb256)
 have hlt:=h.lt
 have hla:=h.ar.la
 have hlw:=h.ar.lw
 have hna:=h.na
 have hnw:=h.nw
 have c0:=h.cell
 have HT:=hide h
 have HB8:=hide hb8
 have HND:=hide hnd
 have HSHD:=hide hshd
 have hsh':sh<256:=by rw[hshd];exact hsh
 have hndl:nd<65536:=by rw[hnd];exact Nat.mod_lt _ (by decide)
 clear h hK hin hq hb8 hnd hshd hsh
 go_enter Tryz.func133,Tryz.ntmps133
 go_wp2_with fail
 refine(HKO.out _).mono ?_
 rintro e w1 ⟨rfl,hb1⟩
 go_wp2_with (show wpList _ _ _ (⟨_,.store 126 _ _,_,_,_,_⟩ :: _) _ _;refine wpList_store_whole rfl 126 _ _ rfl w1.heap.size (keyL K) rfl rfl 126 _ (heap_alloc_new _ _) (key_info _) rfl (key_one _) ?_;intro wk hk hFk hsk;have hbk:Below w.heap.size w wk:=fr_nil (Fr.after (S:=[]) (Fr.alloc (Fr.of_below hb1) _) hFk (by intro y hy;have:=hb1.size;simp at hy;right;omega));have ck:=(HT.out.ext hbk).cell;clear hFk)
 have hlk:=lt_of_block hk
 have hsz1:=hb1.size
 refine(reader_any ab _).mono ?_
 rintro e w2 ⟨rfl,hb2⟩
 have hk2:=block_ext hk hb2
 obtain⟨kb,hkb⟩:∃kb,kb=w1.heap.size:=⟨_,rfl⟩
 obtain⟨rb,hrb⟩:∃rb,rb=w2.heap.size:=⟨_,rfl⟩
 obtain⟨wq,hwq⟩:∃wq,wq=w2.alloc (.cells #[.pointer (some ⟨ab,0,none⟩),.int .i64 0] 93):=⟨_,rfl⟩
 have hBq:Below w2.heap.size w2 wq:=by rw[hwq];exact ext_alloc _ _
 have hrq:wq.heap[rb]?=some (.cells #[.pointer (some ⟨ab,0,none⟩),.int .i64 (0)] 93 (0,0)):=by rw[hwq,hrb];exact heap_alloc_new _ _
 have hkq:=block_ext hk2 hBq
 rw[←hkb] at hkq
 have HB0:=hide (ext_trans hbk (ext_trans hb2 hBq))
 have hl2:=lt_of_block hk2
 have hkr:kb ∉ [rb]:=by simp;omega
 have hwrb:w.heap.size≤rb:=by omega
 have hra:ab ∉ [rb]:=by simp;omega
 have hrw:wb ∉ [rb]:=by simp;omega
 have hrab:rb≠wb:=by omega
 have HTQ:=hide (HT.out.ext HB0.out)
 have HKB:=hide hkb
 have HRB:=hide hrb
 have HWQ:=hide hwq
 have HRQ:=hide hrq
 have hlq:=lt_of_block hrq
 have hlkq:=lt_of_block hkq
 clear ck hk hsk hb2 hb1 hbk c0 hk2 hkb hrb hwq hBq hrq
 have KS:∀w',Fr [rb] wq w'→(fun w':World=>Fr [rb] wq w'∧w'.cell? ⟨kb,0,none⟩=some (.int .u8 (b8:Int))) w':=fun w' hf=>⟨hf,by have:=key_at K (hf.at hkq hkr) 0 (by omega);rw[hfit] at this;exact this⟩
 simp only[] at KS
 go_wp2_with fail
 rw[←HWQ.out,←HRB.out,←HKB.out]
 go_cut [11] (fun v wc=>∃fb,v=.pointer (some ⟨fb,0,none⟩)∧wq.heap.size≤fb∧wc.heap[fb]?=some (.cells #[.int .i64 (nd:Int),.int .u8 (sh:Int)] 121 (0,0))∧wc.heap[rb]?=some (.cells #[.pointer (some ⟨ab,0,none⟩),.int .i64 (1)] 93 (0,0))∧Fr [rb] wq wc)
 case first =>
  refine wp_region_held_drew (S:=(fun w':World=>Fr [rb] wq w'∧w'.cell? ⟨kb,0,none⟩=some (.int .u8 (b8:Int)))) (by kernel_rfl) (KS _ (fr_below (drew_ext wq))) (fun hHeld=>?_)
  (refine wpAnyH_take (i:=0) (oi:=_) (v:=?_) rfl (by kernel_rfl) (by kernel_rfl) (by kernel_rfl) (fun _ _ _ h=>h) (Or.inl ⟨by rfl,?_⟩) (by assumption) ?_;rotate_left;(intro w hSw;(try dsimp only at hSw);go_simp;try with_reducible rfl);(try simp only[Act.put]);(try simp only[List.getElem_toArray]);(try simp only[List.getElem_cons_succ]);(try simp only[List.getElem_cons_zero]);(try simp only[List.setIfInBounds_toArray]))
  (refine wpAnyH_take (i:=2) (oi:=_) (v:=?_) rfl (by kernel_rfl) (by kernel_rfl) (by kernel_rfl) (fun _ _ _ h=>h) (Or.inl ⟨by rfl,?_⟩) (by assumption) ?_;rotate_left;(intro w hSw;(try dsimp only at hSw);go_simp;try with_reducible rfl);(try simp only[Act.put]);(try simp only[List.getElem_toArray]);(try simp only[List.getElem_cons_succ]);(try simp only[List.getElem_cons_zero]);(try simp only[List.setIfInBounds_toArray]))
  (refine wpAnyH_take (i:=3) (oi:=_) (v:=?_) rfl (by kernel_rfl) (by kernel_rfl) (by kernel_rfl) (fun _ _ _ h=>h) (Or.inl ⟨by rfl,?_⟩) (by assumption) ?_;rotate_left;(intro w hSw;(try dsimp only at hSw);go_simp;try with_reducible rfl);(try simp only[Act.put]);(try simp only[List.getElem_toArray]);(try simp only[List.getElem_cons_succ]);(try simp only[List.getElem_cons_zero]);(try simp only[List.setIfInBounds_toArray]))
  (refine wpAnyH_take (i:=4) (oi:=_) (v:=?_) rfl (by kernel_rfl) (by kernel_rfl) (by kernel_rfl) (fun _ _ _ h=>h) (Or.inl ⟨by rfl,?_⟩) (by assumption) ?_;rotate_left;(intro w hSw;(try dsimp only at hSw);go_simp;try with_reducible rfl);(try simp only[Act.put]);(try simp only[List.getElem_toArray]);(try simp only[List.getElem_cons_succ]);(try simp only[List.getElem_cons_zero]);(try simp only[List.setIfInBounds_toArray]))
  (refine wpAnyH_ready (rs:=[1,7]) (by kernel_rfl) (by simp) ?_)
  (refine AllReadyH.cons (o:=_) rfl (fun KK hK=>?_) ?_)
  ·go_simp
   (go_at_call 57;refine(HBA.out _).mono ?_;rintro e w4 ⟨rfl,rfl⟩;go_wp2_with fail)
   (refine hK.out _ _ (KS _ (fr_below (drew_ext wq))) (fun hHeld=>?_);clear hK KK;(try simp only[Act.put]);(try simp only[List.getElem_toArray]);(try simp only[List.getElem_cons_succ]);(try simp only[List.getElem_cons_zero]);(try simp only[List.setIfInBounds_toArray]))
   (refine wpAnyH_take (i:=5) (oi:=_) (v:=?_) rfl (by kernel_rfl) (by kernel_rfl) (by kernel_rfl) (fun _ _ _ h=>h) (Or.inl ⟨by rfl,?_⟩) (by assumption) ?_;rotate_left;(intro w hSw;(try dsimp only at hSw);go_simp;try with_reducible rfl);(try simp only[Act.put]);(try simp only[List.getElem_toArray]);(try simp only[List.getElem_cons_succ]);(try simp only[List.getElem_cons_zero]);(try simp only[List.setIfInBounds_toArray]))
   (refine wpAnyH_ready (rs:=[6,7]) (by kernel_rfl) (by simp) ?_)
   (refine AllReadyH.cons (o:=_) rfl (fun KK hK=>?_) ?_)
   ·go_simp
    go_at_call 56
    refine(HRF.out rb _ wq.drew HTQ.out.ar.drew HX.out HRQ.out).mono ?_
    rintro e w5 ⟨rfl,hA5,hr5,hF5⟩
    have F5:=(Fr.after (fr_below (drew_ext wq)) hF5 (fun y hy=>Or.inl hy):Fr [rb] wq w5)
    have z5:=F5.size
    clear hF5
    go_wp2_with fail
    (refine hK.out _ _ (KS _ F5) (fun hHeld=>?_);clear hK KK;(try simp only[Act.put]);(try simp only[List.getElem_toArray]);(try simp only[List.getElem_cons_succ]);(try simp only[List.getElem_cons_zero]);(try simp only[List.setIfInBounds_toArray]))
    ((refine wpAnyH_ready (rs:=[7]) (by kernel_rfl) (by simp) ?_);(refine AllReadyH.cons (o:=_) rfl (fun KK hK=>?_) ?_);rotate_left;exact AllReadyH.nil)
    go_simp
    (refine hK.out _ _ (KS _ (F5.alloc _)) (fun hHeld=>?_);clear hK KK;(try simp only[Act.put]);(try simp only[List.getElem_toArray]);(try simp only[List.getElem_cons_succ]);(try simp only[List.getElem_cons_zero]);(try simp only[List.setIfInBounds_toArray]))
    ((refine wpAnyH_ready (rs:=[8]) (by kernel_rfl) (by simp) ?_);(refine AllReadyH.cons (o:=_) rfl (fun KK hK=>?_) ?_);rotate_left;exact AllReadyH.nil)
    go_simp
    (refine hK.out _ _ (KS _ (F5.alloc _)) (fun hHeld=>?_);clear hK KK;(try simp only[Act.put]);(try simp only[List.getElem_toArray]);(try simp only[List.getElem_cons_succ]);(try simp only[List.getElem_cons_zero]);(try simp only[List.setIfInBounds_toArray]))
    (refine wpAnyH_done (by kernel_rfl) ?_ _)
    go_wp2_with fail
    go_meet
    case rel=>exact⟨w5.heap.size,rfl,z5,heap_alloc_new _ _,block_ext hr5 (ext_alloc _ _),F5.alloc _⟩
   ·(refine AllReadyH.cons (o:=_) rfl (fun KK hK=>?_) ?_)
    ·go_simp
     (refine hK.out _ _ (KS _ (fr_below (Below.drew (ext_alloc _ _)))) (fun hHeld=>?_);clear hK KK;(try simp only[Act.put]);(try simp only[List.getElem_toArray]);(try simp only[List.getElem_cons_succ]);(try simp only[List.getElem_cons_zero]);(try simp only[List.setIfInBounds_toArray]))
     ((refine wpAnyH_ready (rs:=[6]) (by kernel_rfl) (by simp) ?_);(refine AllReadyH.cons (o:=_) rfl (fun KK hK=>?_) ?_);rotate_left;exact AllReadyH.nil)
     go_simp
     (go_at_call 56;refine(HRF.out rb _ (wq.alloc (.cells #[.int .i64 0,.int .u8 0] 121)).drew (HTQ.out.ar.ext (Below.drew (ext_alloc _ _))) HX.out (block_ext HRQ.out (Below.drew (ext_alloc _ _)))).mono ?_;rintro e w5 ⟨rfl,hA5,hr5,hF5⟩;have F5:=(Fr.after (fr_below (Below.drew (ext_alloc wq (.cells #[.int .i64 0,.int .u8 0] 121)))) hF5 (fun y hy=>Or.inl hy):Fr [rb] wq w5);have b5:=hF5.at (show ((wq.alloc (.cells #[.int .i64 0,.int .u8 0] 121)).drew).heap[wq.heap.size]?=some (.cells #[.int .i64 0,.int .u8 0] 121 (0,0)) from heap_alloc_new wq _) (by simp;omega);obtain⟨g0,g1,g2,g3⟩:=cells2 b5;have hrq2:rb≠wq.heap.size:=(by omega);clear hF5;go_wp2_with fail;(refine hK.out _ _ (KS _ F5) (fun hHeld=>?_);clear hK KK;(try simp only[Act.put]);(try simp only[List.getElem_toArray]);(try simp only[List.getElem_cons_succ]);(try simp only[List.getElem_cons_zero]);(try simp only[List.setIfInBounds_toArray]));((refine wpAnyH_ready (rs:=[8]) (by kernel_rfl) (by simp) ?_);(refine AllReadyH.cons (o:=_) rfl (fun KK hK=>?_) ?_);rotate_left;exact AllReadyH.nil);go_simp;(refine hK.out _ _ (KS _ ((F5.setCell (Or.inr (Nat.le_refl _)) _).setCell (Or.inr (Nat.le_refl _)) _)) (fun hHeld=>?_);clear hK KK;(try simp only[Act.put]);(try simp only[List.getElem_toArray]);(try simp only[List.getElem_cons_succ]);(try simp only[List.getElem_cons_zero]);(try simp only[List.setIfInBounds_toArray]));(refine wpAnyH_done (by kernel_rfl) ?_ _);go_wp2_with fail;go_meet;exact⟨wq.heap.size,rfl,Nat.le_refl _,store2 b5,heap_set2 hr5 hrq2,(F5.setCell (Or.inr (Nat.le_refl _)) _).setCell (Or.inr (Nat.le_refl _)) _⟩)
    ·exact AllReadyH.nil
  ·(refine AllReadyH.cons (o:=_) rfl (fun KK hK=>?_) ?_)
   ·go_simp
    (refine hK.out _ _ (KS _ (fr_below (Below.drew (ext_alloc _ _)))) (fun hHeld=>?_);clear hK KK;(try simp only[Act.put]);(try simp only[List.getElem_toArray]);(try simp only[List.getElem_cons_succ]);(try simp only[List.getElem_cons_zero]);(try simp only[List.setIfInBounds_toArray]))
    ((refine wpAnyH_ready (rs:=[1]) (by kernel_rfl) (by simp) ?_);(refine AllReadyH.cons (o:=_) rfl (fun KK hK=>?_) ?_);rotate_left;exact AllReadyH.nil)
    go_simp
    (go_at_call 57;refine(HBA.out _).mono ?_;rintro e w4 ⟨rfl,rfl⟩;go_wp2_with fail)
    (refine hK.out _ _ (KS _ (fr_below (Below.drew (ext_alloc _ _)))) (fun hHeld=>?_);clear hK KK;(try simp only[Act.put]);(try simp only[List.getElem_toArray]);(try simp only[List.getElem_cons_succ]);(try simp only[List.getElem_cons_zero]);(try simp only[List.setIfInBounds_toArray]))
    (refine wpAnyH_take (i:=5) (oi:=_) (v:=?_) rfl (by kernel_rfl) (by kernel_rfl) (by kernel_rfl) (fun _ _ _ h=>h) (Or.inl ⟨by rfl,?_⟩) (by assumption) ?_;rotate_left;(intro w hSw;(try dsimp only at hSw);go_simp;try with_reducible rfl);(try simp only[Act.put]);(try simp only[List.getElem_toArray]);(try simp only[List.getElem_cons_succ]);(try simp only[List.getElem_cons_zero]);(try simp only[List.setIfInBounds_toArray]))
    ((refine wpAnyH_ready (rs:=[6]) (by kernel_rfl) (by simp) ?_);(refine AllReadyH.cons (o:=_) rfl (fun KK hK=>?_) ?_);rotate_left;exact AllReadyH.nil)
    go_simp
    (go_at_call 56;refine(HRF.out rb _ (wq.alloc (.cells #[.int .i64 0,.int .u8 0] 121)).drew (HTQ.out.ar.ext (Below.drew (ext_alloc _ _))) HX.out (block_ext HRQ.out (Below.drew (ext_alloc _ _)))).mono ?_;rintro e w5 ⟨rfl,hA5,hr5,hF5⟩;have F5:=(Fr.after (fr_below (Below.drew (ext_alloc wq (.cells #[.int .i64 0,.int .u8 0] 121)))) hF5 (fun y hy=>Or.inl hy):Fr [rb] wq w5);have b5:=hF5.at (show ((wq.alloc (.cells #[.int .i64 0,.int .u8 0] 121)).drew).heap[wq.heap.size]?=some (.cells #[.int .i64 0,.int .u8 0] 121 (0,0)) from heap_alloc_new wq _) (by simp;omega);obtain⟨g0,g1,g2,g3⟩:=cells2 b5;have hrq2:rb≠wq.heap.size:=(by omega);clear hF5;go_wp2_with fail;(refine hK.out _ _ (KS _ F5) (fun hHeld=>?_);clear hK KK;(try simp only[Act.put]);(try simp only[List.getElem_toArray]);(try simp only[List.getElem_cons_succ]);(try simp only[List.getElem_cons_zero]);(try simp only[List.setIfInBounds_toArray]));((refine wpAnyH_ready (rs:=[8]) (by kernel_rfl) (by simp) ?_);(refine AllReadyH.cons (o:=_) rfl (fun KK hK=>?_) ?_);rotate_left;exact AllReadyH.nil);go_simp;(refine hK.out _ _ (KS _ ((F5.setCell (Or.inr (Nat.le_refl _)) _).setCell (Or.inr (Nat.le_refl _)) _)) (fun hHeld=>?_);clear hK KK;(try simp only[Act.put]);(try simp only[List.getElem_toArray]);(try simp only[List.getElem_cons_succ]);(try simp only[List.getElem_cons_zero]);(try simp only[List.setIfInBounds_toArray]));(refine wpAnyH_done (by kernel_rfl) ?_ _);go_wp2_with fail;go_meet;exact⟨wq.heap.size,rfl,Nat.le_refl _,store2 b5,heap_set2 hr5 hrq2,(F5.setCell (Or.inr (Nat.le_refl _)) _).setCell (Or.inr (Nat.le_refl _)) _⟩)
   ·exact AllReadyH.nil
 case rest =>
  obtain⟨fb,rfl,hfq,bf,hr1,hFc⟩:=hcut
  have bkc:=hFc.at hkq hkr
  have hAc:=HTQ.out.ar.fr hFc hra hrw
  have hBc:Below w.heap.size w wc:=fr_nil (Fr.after (S:=[]) (fr_below HB0.out) hFc (fun y hy=>by simp at hy;subst hy;exact Or.inr hwrb))
  obtain⟨m0,m1,m2,m3⟩:=cells2 bf
  have hlf:=lt_of_block bf
  clear KS hkq hFc
  go_wp2_with fail
  refine(HFL.out _).mono ?_
  rintro e w3 ⟨rfl,hb3⟩
  have bf3:=block_ext bf hb3
  have bk3:=block_ext bkc hb3
  have hr3:=block_ext hr1 hb3
  have hA3:=hAc.ext hb3
  have HB3:=hide (ext_trans hBc hb3)
  have d0:=key_at K bk3 0 (by omega)
  rw[hfit] at d0
  have hlk3:=lt_of_block bk3
  have hlf3:=lt_of_block bf3
  have hlr3:=lt_of_block hr3
  have HA3:=hide hA3
  have HBK3:=hide bk3
  have HR3:=hide hr3
  have HBF3:=hide bf3
  clear m0 m1 m2 m3 hb3 bf bkc hr1 hAc hBc hA3 bk3 hr3
  go_upto_if 37 with (fail)
  go_cut [12] (fun v wd=>∃bst:Nat,v=.int .i64 (bst:Int)∧Bst A bst (bestL (M q) K 8)∧Below w3.heap.size w3 wd)
  case first =>
   rcases HBS.out with ⟨hbl,hbn⟩ | ⟨l,hh,hl8,hbl,hbn,hwd⟩
   ·have hbl':(bl:Int)≤0:=by omega
    clear hbl
    go_wp2
    go_meet
    case rel=>exact⟨0,rfl,Or.inl ⟨rfl,hbn⟩,Below.refl _ _⟩
   ·have hbl':(0:Int)<bl:=by omega
    have HSPx:=hide (fun (w:World)=>HSP.out l hl8 w)
    have hll:(l:Int)=(bl:Int)-1:=by omega
    rw[hll] at HSPx
    have HW:=hide hwd
    have h7:2^l≤2^7:=Nat.pow_le_pow_right (by decide) (by omega)
    have hdv:b8/2^(8-l)<256:=Nat.lt_of_le_of_lt (Nat.div_le_self _ _) hb256
    have HP:=hide (show 0<rt q+256+2^l+b8/2^(8-l)∧rt q+256+2^l+b8/2^(8-l)<A.size by
     generalize b8/2^(8-l)=dv at hdv
     generalize 2^l=p2 at h7
     constructor <;> omega)
    obtain⟨pl,hpl⟩:∃pl,pl=rt q+256+2^l+b8/2^(8-l):=⟨_,rfl⟩
    rw[←hpl] at HSPx HW HP
    clear hpl h7 hdv hll hbl hwd
    go_wp2_with fail
    refine(HSPx.out _).mono ?_
    rintro e w4 ⟨rfl,nn,rfl⟩
    go_wp2
    go_meet
    case rel=>exact⟨pl,rfl,Or.inr ⟨hh,hbn,HP.out.1,HP.out.2,HW.out⟩,drewN_ext _ _⟩
  case rest =>
   obtain⟨bst,rfl,hBst,hBd⟩:=hcut
   have bfd:=block_ext HBF3.out hBd
   have bkd:=block_ext HBK3.out hBd
   have hrd:=block_ext HR3.out hBd
   have hAd:=HA3.out.ext hBd
   have hBdd:=ext_trans HB3.out hBd
   obtain⟨m0,m1,m2,m3⟩:=cells2 bfd
   have hlfd:=lt_of_block bfd
   have hkbr:kb≠rb:=by simpa using hkr
   have hwkb:w.heap.size≤kb:=by have:=HKB.out;omega
   obtain⟨T,hT⟩:∃T,T=1+(if nd=0 then 0 else nodesOn A.word K (dp q) 8 nd):=⟨_,rfl⟩
   have hAt:At A (M q) K (dp q) T 0 bst nd 1:=by
    have e8:=HB8.out
    have end':=HND.out
    by_cases h0:nd=0
    ·refine Or.inl ⟨h0,?_,by rw[hT,if_pos h0]⟩
     have hany:anyBelow (M q) 8 (fitK K 8)=false:=by rw[←e8];exact((hI.root q).node b8 hb256).1 (by rw[←end'];exact h0)
     rw[best_end (hI.tab q) (dp_le q) hany (by omega) 129 (by omega) (by omega)]
     exact hBst
    ·refine Or.inr ⟨h0,Nat.zero_le _,?_,hBst,by rw[hT,if_neg h0];rfl⟩
     have hOn:=On.root hI q hb256 (by rw[←end'];exact h0)
     rw[←end',e8] at hOn
     exact hOn
   have HX0:=hide (And.intro hAt (And.intro hrd (And.intro hAd (And.intro bkd hBdd))))
   have hT40:T≤40:=by
    rw[hT]
    have h1:=(nodesOn_le A.word K (dp q) 8 nd).2
    have h2:dp q≤30:=by unfold dp;split <;> omega
    split <;> omega
   have HTT:=hide (show ∀fo,readsN A.word q K fo=T+(if fo then 1 else 0) from fun fo=>by
    unfold readsN
    rw[hT,←HB8.out,←HND.out])
   clear hBst hAt hrd hAd bkd hBdd hBd hT
   go_wp2_with fail
   clear m0 m1 m2 m3 bfd
   go_loopw [12,14,15] (fun vb vx vt wr=>∃(t b x c:Nat),vb=.int .i64 (b:Int)∧vx=.int .i64 (x:Int)∧vt=.int .i64 (t:Int)∧At A (M q) K (dp q) T t b x c∧wr.heap[rb]?=some (.cells #[.pointer (some ⟨ab,0,none⟩),.int .i64 (c:Int)] 93 (0,0))∧ArAt wr ab wb A∧wr.heap[kb]?=some (.cells (keyL K).toArray 126 (0,0))∧Below w.heap.size w wr) (fun _ vx vt _=>if intOf vx=0 then 0 else 100-(intOf vt).toNat)
   case atStart=>exact⟨0,bst,nd,1,rfl,rfl,rfl,HX0.out⟩
   case round =>
    obtain⟨t,b,x,c,rfl,rfl,rfl,hAt,hrd,hAr,bk,hB⟩:=hrel
    have HRD:=hide hrd
    have HAR:=hide hAr
    have HBK:=hide bk
    have HB:=hide hB
    have hlr:=lt_of_block hrd
    have hlk:=lt_of_block bk
    have hla':=hAr.la
    have hlw':=hAr.lw
    clear hrd hAr hB
    rcases hAt with ⟨h0,hBe,hcT⟩ | ⟨h0,htd,hOn,hBe,hcn⟩
    ·have h0':(x:Int)≤0:=by omega
     clear h0
     by_cases hb0:b=0
     ·have hb0':(b:Int)≤0:=by omega
      subst hb0
      have hnone:=bst_none hBe
      have HCT:=hide (count_any ab rb c wr HRD.out)
      have HV:=hide (show lookVal A.word q K (bestL (M q) K 129)=.tuple #[.int .i64 0,.int .i64 (c:Int),.bool false] by
       rw[hnone,hcT]
       unfold lookVal
       rw[HTT.out false]
       rfl)
      clear hBe hcT hnone hb0'
      go_wp2_with fail
      refine HCT.out.mono ?_
      rintro e w4 ⟨rfl,rfl⟩
      go_wp2
      go_ret3
      exact⟨by rw[HV.out];rfl,HB.out⟩
     ·have hb0':(0:Int)<b:=by omega
      obtain⟨hh,hso,hbA,hwA⟩:=bst_some hBe hb0
      have hh32:hh<4294967296:=by rw[←hwA];exact hs.word b
      have HV:=hide (show lookVal A.word q K (bestL (M q) K 129)=.tuple #[.int .i64 (hh:Int),.int .i64 ((c:Int)+1),.bool true] by
       rw[hso,hcT]
       unfold lookVal
       rw[HTT.out true]
       rfl)
      have hcT':c≤40:=by omega
      have HRE:=hide (fun (sb cap cb:Nat) (w:World) (h:ArAt w ab wb A) (hr:w.heap[rb]?=some (.cells #[.pointer (some ⟨ab,0,none⟩),.int .i64 (c:Int)] 93 (0,0))) (hc:w.heap[cb]?=some (.cells #[.int .u32 0] 136 (0,0))) (hsb:w.cell? ⟨sb,0,none⟩=some (.pointer (some ⟨cb,0,none⟩))) (hcw:cb≠wb)=>read1_any A ab wb rb b b cb sb cap (c:Int) w h hszA rfl hbA hr (by omega) (by omega) _ hc hsb hcw)
      rw[hwA] at HRE
      clear hBe hcT hso hwA hb0
      go_wp2_with fail
      refine(HRE.out _ _ wr.heap.size _ ((HAR.out.alloc _).alloc _) (block_ext HRD.out (ext_trans (ext_alloc _ _) (ext_alloc _ _))) (block_ext (heap_alloc_new _ _) (ext_alloc _ _)) (by rw[cell_new (by simp)];rfl) (by omega)).mono ?_
      rintro e wq ⟨rfl,hA4,hr4,hc4,hF4⟩
      have hBq:Below w.heap.size w wq:=fr_nil (Fr.after (S:=[]) (fr_below (ext_trans HB.out (ext_trans (ext_alloc _ _) (ext_alloc _ _)))) hF4 (fun y hy=>by have:=HB.out.size;simp at hy;right;omega))
      have HBQ:=hide hBq
      obtain⟨cb,hcb⟩:∃cb,cb=wr.heap.size:=⟨_,rfl⟩
      have HCB:=hide hcb
      rw[←hcb] at hc4
      have HR4:=hide hr4
      have HCT:=hide (fun (w:World) (h:w.heap[rb]?=some (.cells #[.pointer (some ⟨ab,0,none⟩),.int .i64 ((c:Int)+1)] 93 (0,0)))=>count_any ab rb ((c:Int)+1) w h)
      have hlc4:=lt_of_block hc4
      have hw64:IntKind.i64.wrap (hh:Int)=(hh:Int):=by rw[IntKind.wrap_i64];omega
      have KS:∀w',Below wq.heap.size wq w'→(fun w':World=>Below wq.heap.size wq w'∧w'.cell? ⟨cb,0,none⟩=some (.int .u32 (hh:Int))) w':=fun w' hf=>⟨hf,by rw[cell_at (block_ext hc4 hf)];rfl⟩
      simp only[] at KS
      clear hA4 hF4 hBq hcb hr4
      go_wp2_with fail
      rw[←HCB.out]
      go_region_held3 (fun w':World=>Below wq.heap.size wq w'∧w'.cell? ⟨cb,0,none⟩=some (.int .u32 (hh:Int))) (with_reducible (first | assumption | exact KS _ (drew_ext wq))) ((go_at_call 136;refine(HCT.out wq.drew HR4.out).mono ?_;rintro e w5 ⟨rfl,rfl⟩))
      go_wp2
      go_ret3
      exact⟨by rw[HV.out];rfl,ext_trans HBQ.out (drew_ext wq)⟩
    ·have h0':(0:Int)<x:=by omega
     have h30:dp q≤30:=by unfold dp;split <;> omega
     have ht31:t≤31:=by omega
     have f16:=kfour_lt K t
     have hlt2:=hOn.lt
     have hok:=hOn.ok
     have hn1:=(nodesOn_le A.word K (dp q-t) (8+4*t) x).1
     have hc40:c≤40:=by omega
     obtain⟨nn,hnn⟩:∃n,n=nodeAt A.word x:=⟨_,rfl⟩
     have HRN:=hide (fun (w:World) (h:ArAt w ab wb A) (hr:w.heap[rb]?=some (.cells #[.pointer (some ⟨ab,0,none⟩),.int .i64 (c:Int)] 93 (0,0)))=>readNode_any A ab wb rb x x (c:Int) w h hs rfl hlt2.2 hr (by omega) (by omega))
     rw[←hnn] at HRN hok
     have HFO:=hide (fun (w:World)=>four_any K t t w ht31 rfl)
     obtain⟨f4,hf4⟩:∃f4,f4=kfour K t:=⟨_,rfl⟩
     rw[←hf4] at HFO f16
     have hkf:fitK K (8+4*t+4)%16=f4:=by rw[hf4,kfour_fit]
     have HLO:=hide (fun (w:World)=>longest_any nn f4 w hok (by omega))
     have hnb:=node_best hOn.rep.node rfl (show 8+4*t+4≤136 by omega)
     rw[←hnn,hkf] at hnb
     have hllen:Lib.bitLen (nn.routes &&& fitMask f4 4)=longestN nn f4:=rfl
     rw[hllen] at hnb
     obtain⟨ln,hln⟩:∃ln,ln=longestN nn f4:=⟨_,rfl⟩
     rw[←hln] at HLO hnb
     have HBE:=hide hBe
     have HON:=hide hOn
     have HNB:=hide hnb
     have HNN:=hide hnn
     have HKF:=hide hkf
     have HCN:=hide hcn
     obtain⟨wq,hwq⟩:∃wz,wz=wr:=⟨_,rfl⟩
     subst hwq
     have KS:∀w',Fr [rb] wq w'→(fun w':World=>Fr [rb] wq w'∧w'.rangeAt kb 0 (keyL K)) w':=fun w' hf=>⟨hf,fun j v hj=>by rw[cell_at (hf.at HBK.out hkr),List.getElem?_toArray,Nat.zero_add];exact hj⟩
     simp only[] at KS
     clear hBe hOn hnb hnn hkf hcn hln hllen hf4 h0
     go_wp2_with fail
     go_cut [16,17] (fun v1 v2 wc=>∃nb,v1=.pointer (some ⟨nb,0,none⟩)∧v2=.int .i64 (f4:Int)∧wq.heap.size≤nb∧wc.heap[nb]?=some (.cells #[.int .u16 nn.routes,.int .u16 nn.ways,.int .i64 nn.hops,.int .i64 nn.children] 142 (0,0))∧wc.heap[rb]?=some (.cells #[.pointer (some ⟨ab,0,none⟩),.int .i64 ((c:Int)+1)] 93 (0,0))∧Fr [rb] wq wc)
     case first =>
      refine wp_region_held_drew (S:=(fun w':World=>Fr [rb] wq w'∧w'.rangeAt kb 0 (keyL K))) (by kernel_rfl) (KS _ (fr_below (drew_ext wq))) (fun hHeld=>?_)
      (refine wpAnyH_take (i:=0) (oi:=_) (v:=?_) rfl (by kernel_rfl) (by kernel_rfl) (by kernel_rfl) (fun _ _ _ h=>h) (Or.inl ⟨by rfl,?_⟩) (by assumption) ?_;rotate_left;(intro w hSw;(try dsimp only at hSw);go_simp;try with_reducible rfl);(try simp only[Act.put]);(try simp only[List.getElem_toArray]);(try simp only[List.getElem_cons_succ]);(try simp only[List.getElem_cons_zero]);(try simp only[List.setIfInBounds_toArray]))
      (refine wpAnyH_take (i:=2) (oi:=_) (v:=_) rfl (by kernel_rfl) (by kernel_rfl) (by kernel_rfl) (fun _ _ _ h=>h) (yieldsIf_load_mid (by rfl) _ _ rfl _ _ rfl (keyL K) _ (fun w hSw=>hSw.2) Tryz.underlying126 rfl (key_info K)) (by assumption) ?_;(try simp only[Act.put]);(try simp only[List.getElem_toArray]);(try simp only[List.getElem_cons_succ]);(try simp only[List.getElem_cons_zero]);(try simp only[List.setIfInBounds_toArray]))
      (refine wpAnyH_take (i:=3) (oi:=_) (v:=?_) rfl (by kernel_rfl) (by kernel_rfl) (by kernel_rfl) (fun _ _ _ h=>h) (Or.inl ⟨by rfl,?_⟩) (by assumption) ?_;rotate_left;(intro w hSw;(try dsimp only at hSw);go_simp;try with_reducible rfl);(try simp only[Act.put]);(try simp only[List.getElem_toArray]);(try simp only[List.getElem_cons_succ]);(try simp only[List.getElem_cons_zero]);(try simp only[List.setIfInBounds_toArray]))
      (refine wpAnyH_ready (rs:=[1,5]) (by kernel_rfl) (by simp) ?_)
      (refine AllReadyH.cons (o:=_) rfl (fun KK hK=>?_) ?_)
      ·go_simp
       go_at_call 66
       refine(HRN.out wq.drew HAR.out.drew HRD.out).mono ?_
       rintro e w5 ⟨rfl,hA5,hr5,hF5⟩
       have F5:=(Fr.after (fr_below (drew_ext wq)) hF5 (fun y hy=>Or.inl hy):Fr [rb] wq w5)
       have z5:=F5.size
       have hrl5:=lt_of_block hr5
       clear hF5 hA5
       simp only[NodeD.agg]
       go_wp2_with fail
       (refine hK.out _ _ (KS _ F5) (fun hHeld=>?_);clear hK KK;(try simp only[Act.put]);(try simp only[List.getElem_toArray]);(try simp only[List.getElem_cons_succ]);(try simp only[List.getElem_cons_zero]);(try simp only[List.setIfInBounds_toArray]))
       (refine wpAnyH_ready (rs:=[4,5]) (by kernel_rfl) (by simp) ?_)
       (refine AllReadyH.cons (o:=_) rfl (fun KK hK=>?_) ?_)
       ·go_simp
        go_at_call 115
        refine(HFO.out _).mono ?_
        rintro e w6 ⟨rfl,hb6⟩
        have F6:=(Fr.after F5 (fr_below (S:=[]) hb6) (fun y hy=>by cases hy):Fr [rb] wq w6)
        have hr6:=block_ext hr5 hb6
        have z6:=F6.size
        clear hb6
        go_wp2_with fail
        (refine hK.out _ _ (KS _ F6) (fun hHeld=>?_);clear hK KK;(try simp only[Act.put]);(try simp only[List.getElem_toArray]);(try simp only[List.getElem_cons_succ]);(try simp only[List.getElem_cons_zero]);(try simp only[List.setIfInBounds_toArray]))
        ((refine wpAnyH_ready (rs:=[5]) (by kernel_rfl) (by simp) ?_);(refine AllReadyH.cons (o:=_) rfl (fun KK hK=>?_) ?_);rotate_left;exact AllReadyH.nil)
        go_simp
        (refine hK.out _ _ (KS _ (F6.alloc _)) (fun hHeld=>?_);clear hK KK;(try simp only[Act.put]);(try simp only[List.getElem_toArray]);(try simp only[List.getElem_cons_succ]);(try simp only[List.getElem_cons_zero]);(try simp only[List.setIfInBounds_toArray]))
        ((refine wpAnyH_ready (rs:=[6]) (by kernel_rfl) (by simp) ?_);(refine AllReadyH.cons (o:=_) rfl (fun KK hK=>?_) ?_);rotate_left;exact AllReadyH.nil)
        go_simp
        (refine hK.out _ _ (KS _ (F6.alloc _)) (fun hHeld=>?_);clear hK KK;(try simp only[Act.put]);(try simp only[List.getElem_toArray]);(try simp only[List.getElem_cons_succ]);(try simp only[List.getElem_cons_zero]);(try simp only[List.setIfInBounds_toArray]))
        (refine wpAnyH_take (i:=7) (oi:=_) (v:=?_) rfl (by kernel_rfl) (by kernel_rfl) (by kernel_rfl) (fun _ _ _ h=>h) (Or.inl ⟨by rfl,?_⟩) (by assumption) ?_;rotate_left;(intro w hSw;(try dsimp only at hSw);go_simp;try with_reducible rfl);(try simp only[Act.put]);(try simp only[List.getElem_toArray]);(try simp only[List.getElem_cons_succ]);(try simp only[List.getElem_cons_zero]);(try simp only[List.setIfInBounds_toArray]))
        (refine wpAnyH_done (by kernel_rfl) ?_ _)
        go_wp2_with fail
        go_meet
        case rel=>exact⟨w6.heap.size,rfl,rfl,z6,heap_alloc_new _ _,block_ext hr6 (ext_alloc _ _),F6.alloc _⟩
       ·(refine AllReadyH.cons (o:=_) rfl (fun KK hK=>?_) ?_)
        ·go_simp
         (refine hK.out _ _ (KS _ (F5.alloc _)) (fun hHeld=>?_);clear hK KK;(try simp only[Act.put]);(try simp only[List.getElem_toArray]);(try simp only[List.getElem_cons_succ]);(try simp only[List.getElem_cons_zero]);(try simp only[List.setIfInBounds_toArray]))
         ((refine wpAnyH_ready (rs:=[4]) (by kernel_rfl) (by simp) ?_);(refine AllReadyH.cons (o:=_) rfl (fun KK hK=>?_) ?_);rotate_left;exact AllReadyH.nil)
         go_simp
         go_at_call 115
         refine(HFO.out _).mono ?_
         rintro e w6 ⟨rfl,hb6⟩
         have F6:=(Fr.after (F5.alloc (.cells #[.int .u16 0,.int .u16 0,.int .i64 0,.int .i64 0] 142)) (fr_below (S:=[]) hb6) (fun y hy=>by cases hy):Fr [rb] wq w6)
         have hr6:=block_ext hr5 (ext_trans (ext_alloc w5 (.cells #[.int .u16 0,.int .u16 0,.int .i64 0,.int .i64 0] 142)) hb6)
         have b6:=new_plain hb6
         obtain⟨g0,g1,g2,g3,g4,g5,g6,g7⟩:=cells4 b6
         have hne:rb≠w5.heap.size:=by omega
         clear hb6
         go_wp2_with fail
         (refine hK.out _ _ (KS _ F6) (fun hHeld=>?_);clear hK KK;(try simp only[Act.put]);(try simp only[List.getElem_toArray]);(try simp only[List.getElem_cons_succ]);(try simp only[List.getElem_cons_zero]);(try simp only[List.setIfInBounds_toArray]))
         ((refine wpAnyH_ready (rs:=[6]) (by kernel_rfl) (by simp) ?_);(refine AllReadyH.cons (o:=_) rfl (fun KK hK=>?_) ?_);rotate_left;exact AllReadyH.nil)
         go_simp
         (refine hK.out _ _ (KS _ (F6.set4 (Or.inr z5))) (fun hHeld=>?_);clear hK KK;(try simp only[Act.put]);(try simp only[List.getElem_toArray]);(try simp only[List.getElem_cons_succ]);(try simp only[List.getElem_cons_zero]);(try simp only[List.setIfInBounds_toArray]))
         (refine wpAnyH_take (i:=7) (oi:=_) (v:=?_) rfl (by kernel_rfl) (by kernel_rfl) (by kernel_rfl) (fun _ _ _ h=>h) (Or.inl ⟨by rfl,?_⟩) (by assumption) ?_;rotate_left;(intro w hSw;(try dsimp only at hSw);go_simp;try with_reducible rfl);(try simp only[Act.put]);(try simp only[List.getElem_toArray]);(try simp only[List.getElem_cons_succ]);(try simp only[List.getElem_cons_zero]);(try simp only[List.setIfInBounds_toArray]))
         (refine wpAnyH_done (by kernel_rfl) ?_ _)
         go_wp2_with fail
         go_meet
         case rel=>exact⟨w5.heap.size,rfl,rfl,z5,store4 b6,heap_set4 hr6 hne,F6.set4 (Or.inr z5)⟩
        ·exact AllReadyH.nil
      ·(refine AllReadyH.cons (o:=_) rfl (fun KK hK=>?_) ?_)
       ·go_simp
        (refine hK.out _ _ (KS _ (fr_below (Below.drew (ext_alloc _ _)))) (fun hHeld=>?_);clear hK KK;(try simp only[Act.put]);(try simp only[List.getElem_toArray]);(try simp only[List.getElem_cons_succ]);(try simp only[List.getElem_cons_zero]);(try simp only[List.setIfInBounds_toArray]))
        ((refine wpAnyH_ready (rs:=[1]) (by kernel_rfl) (by simp) ?_);(refine AllReadyH.cons (o:=_) rfl (fun KK hK=>?_) ?_);rotate_left;exact AllReadyH.nil)
        go_simp
        go_at_call 66
        refine(HRN.out (wq.alloc (.cells #[.int .u16 0,.int .u16 0,.int .i64 0,.int .i64 0] 142)).drew (HAR.out.ext (Below.drew (ext_alloc _ _))) (block_ext HRD.out (Below.drew (ext_alloc _ _)))).mono ?_
        rintro e w5 ⟨rfl,hA5,hr5,hF5⟩
        have F5:=(Fr.after (fr_below (Below.drew (ext_alloc wq (.cells #[.int .u16 0,.int .u16 0,.int .i64 0,.int .i64 0] 142)))) hF5 (fun y hy=>Or.inl hy):Fr [rb] wq w5)
        have b5:=hF5.at (show ((wq.alloc (.cells #[.int .u16 0,.int .u16 0,.int .i64 0,.int .i64 0] 142)).drew).heap[wq.heap.size]?=some (.cells #[.int .u16 0,.int .u16 0,.int .i64 0,.int .i64 0] 142 (0,0)) from heap_alloc_new wq _) (by simp;omega)
        clear hF5 hA5
        simp only[NodeD.agg]
        go_wp2_with fail
        (refine hK.out _ _ (KS _ F5) (fun hHeld=>?_);clear hK KK;(try simp only[Act.put]);(try simp only[List.getElem_toArray]);(try simp only[List.getElem_cons_succ]);(try simp only[List.getElem_cons_zero]);(try simp only[List.setIfInBounds_toArray]))
        ((refine wpAnyH_ready (rs:=[4]) (by kernel_rfl) (by simp) ?_);(refine AllReadyH.cons (o:=_) rfl (fun KK hK=>?_) ?_);rotate_left;exact AllReadyH.nil)
        go_simp
        go_at_call 115
        refine(HFO.out _).mono ?_
        rintro e w6 ⟨rfl,hb6⟩
        have F6:=(Fr.after F5 (fr_below (S:=[]) hb6) (fun y hy=>by cases hy):Fr [rb] wq w6)
        have hr6:=block_ext hr5 hb6
        have b6:=block_ext b5 hb6
        obtain⟨g0,g1,g2,g3,g4,g5,g6,g7⟩:=cells4 b6
        have hne:rb≠wq.heap.size:=by omega
        clear hb6
        go_wp2_with fail
        (refine hK.out _ _ (KS _ F6) (fun hHeld=>?_);clear hK KK;(try simp only[Act.put]);(try simp only[List.getElem_toArray]);(try simp only[List.getElem_cons_succ]);(try simp only[List.getElem_cons_zero]);(try simp only[List.setIfInBounds_toArray]))
        ((refine wpAnyH_ready (rs:=[6]) (by kernel_rfl) (by simp) ?_);(refine AllReadyH.cons (o:=_) rfl (fun KK hK=>?_) ?_);rotate_left;exact AllReadyH.nil)
        go_simp
        (refine hK.out _ _ (KS _ (F6.set4 (Or.inr (Nat.le_refl _)))) (fun hHeld=>?_);clear hK KK;(try simp only[Act.put]);(try simp only[List.getElem_toArray]);(try simp only[List.getElem_cons_succ]);(try simp only[List.getElem_cons_zero]);(try simp only[List.setIfInBounds_toArray]))
        (refine wpAnyH_take (i:=7) (oi:=_) (v:=?_) rfl (by kernel_rfl) (by kernel_rfl) (by kernel_rfl) (fun _ _ _ h=>h) (Or.inl ⟨by rfl,?_⟩) (by assumption) ?_;rotate_left;(intro w hSw;(try dsimp only at hSw);go_simp;try with_reducible rfl);(try simp only[Act.put]);(try simp only[List.getElem_toArray]);(try simp only[List.getElem_cons_succ]);(try simp only[List.getElem_cons_zero]);(try simp only[List.setIfInBounds_toArray]))
        (refine wpAnyH_done (by kernel_rfl) ?_ _)
        go_wp2_with fail
        go_meet
        case rel=>exact⟨wq.heap.size,rfl,rfl,Nat.le_refl _,store4 b6,heap_set4 hr6 hne,F6.set4 (Or.inr (Nat.le_refl _))⟩
       ·exact AllReadyH.nil
     case rest =>
      obtain⟨nb,rfl,rfl,hnb,bn,hr5,hF5⟩:=hcut
      have hkc:=hF5.at HBK.out hkr
      have hAc:=HAR.out.fr hF5 hra hrw
      have hBc:Below w.heap.size w wc:=fr_nil (Fr.after (S:=[]) (fr_below HB.out) hF5 (fun y hy=>by simp at hy;subst hy;exact Or.inr hwrb))
      obtain⟨g0,g1,g2,g3⟩:=cells4n bn
      have hlnc:=lt_of_block bn
      clear KS hF5
      go_wp2_with fail
      refine(HLO.out _).mono ?_
      rintro e w6 ⟨rfl,hb6⟩
      have bn6:=block_ext bn hb6
      have hk6:=block_ext hkc hb6
      have hr6:=block_ext hr5 hb6
      have hA6:=hAc.ext hb6
      have HB6:=hide (ext_trans hBc hb6)
      have HBN6:=hide bn6
      have HK6:=hide hk6
      have HR6:=hide hr6
      have HA6:=hide hA6
      clear g0 g1 g2 g3 bn hkc hr5 hAc hBc hb6 hk6 hr6 hA6
      obtain⟨g0,g1,g2,g3⟩:=cells4n bn6
      have hl6:=lt_of_block bn6
      go_upto_if 58 with (fail)
      go_cut [12] (fun v wd=>∃b':Nat,v=.int .i64 (b':Int)∧Bst A b' (bestL (M q) K (8+4*t+4))∧Below w6.heap.size w6 wd)
      case first =>
       rcases HNB.out with ⟨hl0,hbe⟩ | ⟨k,hh,hk3,hlk,hbe,hwd,hbit⟩
       ·have hl0':(ln:Int)≤0:=by omega
        clear hl0
        go_wp2
        go_meet
        case rel=>exact⟨b,rfl,by rw[hbe];exact HBE.out,Below.refl _ _⟩
       ·have hl0':(0:Int)<ln:=by omega
        obtain⟨nk,hnk⟩:∃nk,nk=num k (f4/2^(4-k)):=⟨_,rfl⟩
        rw[←hnk] at hlk hwd hbit
        have hnk15:nk<15:=by rw[hnk];exact num_lt hk3 (four_div f16 hk3)
        have hinn:=HON.out.hop_in (i:=nk) (by omega) (by rw[←HNN.out];exact hbit)
        rw[←HNN.out] at hinn
        have HHP:=hide (fun (w:World)=>hopPlace_any nn nk w hok (by omega))
        rw[show ((nk:Nat):Int)=(ln:Int)-1 by omega] at HHP
        obtain⟨pl,hpl⟩:∃pl,pl=nn.hops+ones nk nn.routes:=⟨_,rfl⟩
        rw[←hpl] at HHP hwd hinn
        have HIN:=hide hinn
        have HWD:=hide hwd
        clear hnk hlk hwd hbit hinn hpl
        go_wp2_with fail
        refine(HHP.out _).mono ?_
        rintro e w7 ⟨rfl,hb7⟩
        have HB7:=hide hb7
        clear hb7
        go_wp2
        go_meet
        case rel=>exact⟨pl,rfl,Or.inr ⟨hh,hbe,by have:=HIN.out.1;omega,HIN.out.2,HWD.out⟩,HB7.out⟩
      case rest =>
       obtain⟨b',rfl,hBst,hBd⟩:=hcut
       have bnd:=block_ext HBN6.out hBd
       have hkd:=block_ext HK6.out hBd
       have hrd:=block_ext HR6.out hBd
       have hAd:=HA6.out.ext hBd
       have hBdd:=ext_trans HB6.out hBd
       clear g0 g1 g2 g3 bn6
       obtain⟨g0,g1,g2,g3⟩:=cells4n bnd
       have hlnd:=lt_of_block bnd
       have HHW:=hide (fun (w:World)=>hasWay_any nn f4 w hok (by omega))
       have HBND:=hide bnd
       have HX:=hide (And.intro hrd (And.intro hAd (And.intro hkd hBdd)))
       have HBS2:=hide hBst
       have hfs:16*fitK K (8+4*t)+f4=fitK K (8+4*t+4):=by
        have h1:=fit_fit (K:=K) (l:=8+4*t+4) (len:=8+4*t) (by omega) (by omega)
        rw[show 8+4*t+4-(8+4*t)=4 by omega] at h1
        have h2:=HKF.out
        have h3:(2:Nat)^4=16:=rfl
        rw[h3] at h1
        omega
       have HFS:=hide hfs
       clear hrd hAd hkd hBdd hBst hBd hfs bnd
       go_wp2_with fail
       refine(HHW.out _).mono ?_
       rintro e w7 ⟨rfl,hb7⟩
       have bn7:=block_ext HBND.out hb7
       have HX7:=hide (show w7.heap[rb]?=some (.cells #[.pointer (some ⟨ab,0,none⟩),.int .i64 ((c:Int)+1)] 93 (0,0))∧ArAt w7 ab wb A∧w7.heap[kb]?=some (.cells (keyL K).toArray 126 (0,0))∧Below w.heap.size w w7 from ⟨block_ext HX.out.1 hb7,HX.out.2.1.ext hb7,block_ext HX.out.2.2.1 hb7,ext_trans HX.out.2.2.2 hb7⟩)
       clear g0 g1 g2 g3 hb7
       obtain⟨g0,g1,g2,g3⟩:=cells4n bn7
       have hln7:=lt_of_block bn7
       by_cases hbit:nn.ways.testBit f4=true
       ·have hd1:∃d',dp q-t=d'+1:=by
         cases hd:dp q-t with
         | zero =>
          have hrep:=HON.out.rep
          rw[hd] at hrep
          have hw0:=hrep.2
          rw[←HNN.out] at hw0
          rw[hw0] at hbit
          simp at hbit
         | succ d'=>exact⟨d',rfl⟩
        obtain⟨d',hd'⟩:=hd1
        have hkid:On A (M q) d' (8+4*t+4) (16*fitK K (8+4*t)+f4) (nn.kid f4):=by
         have hO:=HON.out
         rw[hd'] at hO
         have:=hO.kid f16 (by rw[←HNN.out];exact hbit)
         rw[←HNN.out] at this
         exact this
        have hklt:=hkid.lt
        have hno:=HCN.out
        rw[hd',nodesOn,HKF.out,←HNN.out,if_pos hbit] at hno
        obtain⟨ky,hky⟩:∃ky,ky=nn.kid f4:=⟨_,rfl⟩
        have hkc:nn.children+2*ones f4 nn.ways=nn.kid f4:=rfl
        have HCP:=hide (fun (w:World)=>childPlace_any nn f4 w hok (by omega))
        rw[hkc,←hky] at HCP
        rw[←hky] at hkid hklt hno
        rw[HFS.out] at hkid
        have HAT:=hide (show At A (M q) K (dp q) T (t+1) b' ky (c+1) from Or.inr ⟨by omega,by omega,by rw[show dp q-(t+1)=d' by omega,show 8+4*(t+1)=8+4*t+4 by omega];exact hkid,by rw[show 8+4*(t+1)=8+4*t+4 by omega];exact HBS2.out,by rw[show dp q-(t+1)=d' by omega,show 8+4*(t+1)=8+4*t+4 by omega];omega⟩)
        rw[hbit]
        clear hkid hno hky hkc hbit
        go_wp2_with fail
        refine(HCP.out _).mono ?_
        rintro e w8 ⟨rfl,hb8⟩
        have HX8:=hide (show w8.heap[rb]?=some (.cells #[.pointer (some ⟨ab,0,none⟩),.int .i64 (((c+1:Nat):Int))] 93 (0,0))∧ArAt w8 ab wb A∧w8.heap[kb]?=some (.cells (keyL K).toArray 126 (0,0))∧Below w.heap.size w w8 from ⟨by rw[show ((c+1:Nat):Int)=(c:Int)+1 by omega];exact block_ext HX7.out.1 hb8,HX7.out.2.1.ext hb8,block_ext HX7.out.2.2.1 hb8,ext_trans HX7.out.2.2.2 hb8⟩)
        clear hb8 g0 g1 g2 g3
        go_wp2
        go_roundw
        case rel=>exact⟨t+1,b',ky,c+1,rfl,rfl,by go_num,HAT.out,HX8.out⟩
        case measure =>
         have hkz:ky≠0:=by omega
         have hxz:x≠0:=by omega
         simp[intOf,hkz,hxz]
         omega
       ·have hbit':nn.ways.testBit f4=false:=by simpa using hbit
        have hany:anyBelow (M q) (8+4*t+4) (fitK K (8+4*t+4))=false:=by
         have:=HON.out.rep.node.way f4 f16
         rw[←HNN.out,hbit',HFS.out] at this
         exact this.symm
        have hno:=HCN.out
        have hone:nodesOn A.word K (dp q-t) (8+4*t) x=1:=by
         cases dp q-t with
         | zero=>rfl
         | succ d' =>
          rw[nodesOn,HKF.out,←HNN.out,hbit']
          rfl
        rw[hone] at hno
        have hd8:=dp_le q
        have HAT:=hide (show At A (M q) K (dp q) T (t+1) b' 0 (c+1) from Or.inl ⟨rfl,by rw[best_all (hI.tab q) hd8 hany (by omega)];exact HBS2.out,by omega⟩)
        have HX8:=hide (show w7.heap[rb]?=some (.cells #[.pointer (some ⟨ab,0,none⟩),.int .i64 (((c+1:Nat):Int))] 93 (0,0))∧ArAt w7 ab wb A∧w7.heap[kb]?=some (.cells (keyL K).toArray 126 (0,0))∧Below w.heap.size w w7 from ⟨by rw[show ((c+1:Nat):Int)=(c:Int)+1 by omega];exact HX7.out.1,HX7.out.2⟩)
        rw[hbit']
        clear hbit hbit' hany hno hone
        go_wp2
        go_roundw
        case rel=>exact⟨t+1,b',0,c+1,rfl,rfl,by go_num,HAT.out,HX8.out⟩
        case measure =>
         have hxz:x≠0:=by omega
         simp[intOf,hxz]
         omega
end Go.Proofs.YtnapboelfimaaaaGreatDoor
namespace Go.Proofs.YtnapboelfimaaaaGreatDoor
open Go.RowKit Go.Deep
theorem keyL_set {K K' i:Nat} {v:Nat} (hi:i<17) (h:∀j,j<17→j≠i→kbyte K' j=kbyte K j) (hv:kbyte K' i=v):(keyL K).toArray.setIfInBounds i (.int .u8 (v:Int))=(keyL K').toArray:=by
 apply Array.ext_getElem?
 intro j
 by_cases hj:j<17
 ·by_cases e:j=i
  ·subst e
   rw[Array.getElem?_setIfInBounds_self_of_lt (by simp[keyL];omega),List.getElem?_toArray,keyL_get K' _ hj,hv]
  ·rw[Array.getElem?_setIfInBounds_ne (by omega),List.getElem?_toArray,List.getElem?_toArray,keyL_get K _ hj,keyL_get K' _ hj,h j hj e]
 ·rw[Array.getElem?_eq_none (by simp[keyL];omega),Array.getElem?_eq_none (by simp[keyL];omega)]
theorem or_even {f:Nat} (hf:f<16):bits BinOp.or IntKind.u8 (((0:Nat):Int)%16) ((f:Int)*16)=((f*16:Nat):Int):=by
 have h:=u8_or_nat 0 (f*16) (by decide) (by omega)
 rw[Nat.zero_or] at h
 rw[←h]
 norm_cast
theorem nib:∀x,x<16→∀f,f<16→(16*x) &&& 240=16*x∧(16*x) ||| f=16*x+f:=by decide
theorem or_odd {b f:Nat} (hb:b<256) (h0:b%16=0) (hf:f<16):bits BinOp.or IntKind.u8 (bits BinOp.andNot IntKind.u8 (b:Int) 15) (f:Int)=((b+f:Nat):Int):=by
 obtain⟨n1,n2⟩:=nib (b/16) (by omega) f hf
 rw[show 16*(b/16)=b by omega] at n1 n2
 have h1:=u8_andNot_nat b 15 hb (by decide)
 have h2:=u8_or_nat b f hb (by omega)
 rw[show 255-15=240 from rfl,n1] at h1
 rw[n2] at h2
 rw[show (15:Int)=((15:Nat):Int) from rfl,h1,h2]
theorem with_rel {w wx:World} {kb K depth f v:Nat} {t:TypeId} {z:Array Value} (h:Below w.heap.size w wx∧wx.heap[kb]?=some (.cells (keyL K).toArray t (0,0))∧wx.heap[kb+1]?=some (.cells z t (0,0))) (hk:w.heap.size≤kb) (hd:depth≤31) (hf:f<16) (hK:K%2^(128-4*depth)=0) (hv:kbyte (withK K depth f) (1+depth/2)=v) :
  (wx.setCell ⟨kb,1+depth/2,none⟩ (.int .u8 (v:Int))).heap[kb]?=some (.cells (keyL (withK K depth f)).toArray t (0,0))∧(wx.setCell ⟨kb,1+depth/2,none⟩ (.int .u8 (v:Int))).heap[kb+1]?=some (.cells z t (0,0))∧Below w.heap.size w (wx.setCell ⟨kb,1+depth/2,none⟩ (.int .u8 (v:Int))):=by
 obtain⟨h1,h2,h3⟩:=h
 refine⟨?_,(Below.heap_setCell _ _ _ _ (show kb+1≠kb by omega)).trans h3,fr_nil ((fr_below h1:Fr [] w wx).setCell (Or.inr hk) _)⟩
 rw[heap_setCell_at _ h2,keyL_set (by omega) (fun j hj hne=>?_) hv]
 rcases Nat.lt_or_ge j (1+depth/2) with hl | hl
 ·exact with_low hd hf hK (by omega)
 ·exact with_high hd hK (by omega) hj
set_option maxHeartbeats 2000000 in
set_option maxRecDepth 10000 in
theorem with_any (K depth f:Nat) (w:World) (hd:depth≤31) (hf:f<16) (hK:K%2^(128-4*depth)=0) :
  Calls Tryz.prog 70 #[.agg (keyL K).toArray,.int .i64 (depth:Int),.int .i64 (f:Int)] w fun e w'=>e=.returned (.agg (keyL (withK K depth f)).toArray)∧Below w.heap.size w w':=by
 have hb:=kbyte_lt K (1+depth/2)
 have i1:(depth:Int)/2≤15:=by omega
 have i2:(depth:Int)≤31:=by omega
 have hf':(f:Int)<16:=by omega
 obtain⟨wx,hwx⟩:∃wx,wx=(w.alloc (.cells (keyL K).toArray 126)).alloc (.cells #[.int .u8 0,.int .u8 0,.int .u8 0,.int .u8 0,.int .u8 0,.int .u8 0,.int .u8 0,.int .u8 0,.int .u8 0,.int .u8 0,.int .u8 0,.int .u8 0,.int .u8 0,.int .u8 0,.int .u8 0,.int .u8 0,.int .u8 0] 126):=⟨_,rfl⟩
 have hBx:Below w.heap.size w wx:=by rw[hwx];exact ext_trans (ext_alloc _ _) (ext_alloc _ _)
 have b1:wx.heap[w.heap.size]?=some (.cells (keyL K).toArray 126 (0,0)):=by rw[hwx,heap_al,if_neg (by simp),heap_al,if_pos rfl]
 have b2:wx.heap[w.heap.size+1]?=some (.cells (List.replicate 17 (Value.int .u8 0)).toArray 126 (0,0)):=by rw[hwx,heap_al,if_pos (by simp)];rfl
 obtain⟨kb,hkb⟩:∃kb,kb=w.heap.size:=⟨_,rfl⟩
 rw[←hkb] at b1 b2
 have hc:=key_at K b1 (1+depth/2) (by omega)
 have hz:=free_at b1 (1+depth/2)
 have hl:=lt_of_block b2
 have HWX:=hide hwx
 have HB:=hide (And.intro hBx (And.intro b1 b2))
 have HKB:=hide hkb
 clear hwx hBx b1 b2 hkb
 go_enter Tryz.func70,Tryz.ntmps70
 go_upto_if 13 with (fail)
 rw[←HWX.out,←HKB.out]
 go_cut [] (fun wd=>wd.heap[kb]?=some (.cells (keyL (withK K depth f)).toArray 126 (0,0))∧wd.heap[kb+1]?=some (.cells (List.replicate 17 (Value.int .u8 0)).toArray 126 (0,0))∧Below w.heap.size w wd)
 case first =>
  by_cases h2:depth%2=0
  ·have e2:((depth:Int)%2==0)=true:=by simp;omega
   have HW:=hide (with_even (K:=K) (m:=depth/2) (f:=f) (by omega) hf (by rw[show 2*(depth/2)=depth by omega];exact hK))
   go_wp2
   go_meet
   case rel =>
    obtain⟨h0,h1⟩:=HW.out
    rw[show 2*(depth/2)=depth by omega] at h1
    rw[h0,or_even hf]
    exact with_rel HB.out (Nat.le_of_eq HKB.out.symm) hd hf hK h1
  ·have e2:((depth:Int)%2==0)=false:=by simp;omega
   have HW:=hide (with_odd (K:=K) (m:=depth/2) (f:=f) (by omega) hf (by rw[show 2*(depth/2)+1=depth by omega];exact hK))
   go_wp2
   go_meet
   case rel =>
    obtain⟨h0,h1⟩:=HW.out
    rw[show 2*(depth/2)+1=depth by omega] at h1
    rw[or_odd hb h0 hf]
    exact with_rel HB.out (Nat.le_of_eq HKB.out.symm) hd hf hK h1
 case rest =>
  obtain⟨c1,c2,c3⟩:=hcut
  have hl2:=lt_of_block c2
  have HC:=hide (And.intro c1 (And.intro c2 c3))
  clear c1 c2 c3
  go_wp2_with (first | (show wpList _ _ _ (⟨_,.load 126 _,_,_,_,_⟩ :: _) _ _;refine wpList_load_whole rfl 126 _ rfl kb rfl (keyL (withK K depth f)) _ _ _ HC.out.1 Tryz.underlying126 rfl (key_info _) ?_) | (show wpList _ _ _ (⟨_,.store 126 _ _,_,_,_,_⟩ :: _) _ _;refine wpList_store_whole rfl 126 _ _ rfl (kb+1) (keyL (withK K depth f)) rfl rfl _ _ HC.out.2.1 (key_info _) (by simp[keyL]) (key_one _) ?_;intro w5 b5 hF5 hs5))
  have hl:(loadVar 126 ⟨kb+1,0,none⟩).run Tryz.prog w5=.ok (.agg (keyL (withK K depth f)).toArray) w5:=run_loadVar_mid _ _ _ _ _ _ (fun j v hj=>by rw[cell_at b5,List.getElem?_toArray,Nat.zero_add];exact hj) Tryz.underlying126 rfl (key_info _)
  refine bodyPost_ret (v:=.agg (keyL (withK K depth f)).toArray) (results_row rfl rfl hl) rfl ⟨rfl,?_⟩
  exact fr_nil (Fr.after (S:=[]) (Fr.of_below HC.out.2.2) hF5 (by intro y hy;simp at hy;right;rw[hy,HKB.out];omega))
end Go.Proofs.YtnapboelfimaaaaGreatDoor
namespace Go.Proofs.YtnapboelfimaaaaGreatDoor
open Go.RowKit Go.Deep
def TzTab (w:World):Prop:=∀j,j<64→w.cell? ⟨1,j,none⟩=some (.int .u8 ((Go.Lib.deBruijn64tab.getD j 0:Nat):Int))
theorem tz_index {x:Nat} (h0:x≠0) (hx:x<256):IntKind.u64.wrap (bits BinOp.and IntKind.u64 (x:Int) (IntKind.u64.wrap (-(x:Int)))*285870213051353865)/288230376151711744=((2^Go.Lib.ctz 64 x*285870213051353865%18446744073709551616/288230376151711744:Nat):Int):=by
 have h1:=(Go.Lib.lowest_bit 64 x h0 (by omega)).1
 have e1:IntKind.u64.wrap (-(x:Int))=((2^64-x:Nat):Int):=by rw[IntKind.wrap_u64];omega
 have e2:=u64_and_nat x (2^64-x) (by omega) (by omega)
 rw[h1] at e2
 rw[e1,e2,IntKind.wrap_u64]
 generalize 2^Go.Lib.ctz 64 x=y
 omega
set_option maxHeartbeats 2000000 in
set_option maxRecDepth 10000 in
theorem tz64_any (x:Nat) (w:World) (h0:x≠0) (hx:x<256) (hT:TzTab w) :
  Calls Tryz.prog 64 #[.int .u64 (x:Int)] w fun e w'=>e=.returned (.int .i64 (Go.Lib.ctz 64 x:Nat))∧w'=w:=by
 have hx0:((x:Int)==0)=false:=by simp;omega
 have E:=tz_index h0 hx
 have hk:=(Go.Lib.lowest_bit 64 x h0 (by omega)).2
 obtain⟨d1,d2⟩:=Go.Lib.deBruijn64_at _ hk
 have hc:=hT _ d1
 rw[d2] at hc
 obtain⟨k,hkk⟩:∃k,k=Go.Lib.ctz 64 x:=⟨_,rfl⟩
 obtain⟨j,hj⟩:∃j,j=2^Go.Lib.ctz 64 x*285870213051353865%18446744073709551616/288230376151711744:=⟨_,rfl⟩
 rw[←hj] at E hc d1
 rw[←hkk] at hc hk ⊢
 have d1':(j:Int)<64:=by omega
 have hk':(k:Int)<64:=by omega
 clear hj d2 hkk hT
 go_enter Tryz.func64,Tryz.ntmps64
 go_wp2
 go_ret
 exact⟨rfl,rfl⟩
set_option maxHeartbeats 2000000 in
theorem tz64_zero (w:World):Calls Tryz.prog 64 #[.int .u64 0] w fun e w'=>e=.returned (.int .i64 64)∧w'=w:=by
 go_enter Tryz.func64,Tryz.ntmps64
 go_wp2
 go_ret
 exact⟨rfl,rfl⟩
set_option maxHeartbeats 2000000 in
theorem tz_any (x:Nat) (w:World) (hx:x<256) (hT:TzTab w) :
  Calls Tryz.prog 55 #[.int .u64 (x:Int)] w fun e w'=>e=.returned (.int .i64 (Go.Lib.ctz 64 x:Nat))∧w'=w:=by
 by_cases h0:x=0
 ·subst h0
  go_enter Tryz.func55,Tryz.ntmps55
  go_wp2_with (go_at_call 64;refine(tz64_zero _).mono ?_;rintro e w2 ⟨rfl,rfl⟩)
  go_ret
  exact⟨rfl,rfl⟩
 ·have HT:=hide hT
  clear hT
  go_enter Tryz.func55,Tryz.ntmps55
  go_wp2_with (go_at_call 64;refine(tz64_any x _ h0 hx HT.out).mono ?_;rintro e w2 ⟨rfl,rfl⟩)
  go_ret
  exact⟨rfl,rfl⟩
end Go.Proofs.YtnapboelfimaaaaGreatDoor
