/- Rem, Rek, Stp, Rea: parts of the proof, one behind the other. -/
import Derived.Test.YtnapboelfimaaaaGreatDoorB13
import Derived.Test.YtnapboelfimaaaaGreatDoorB20
namespace Go.Proofs.YtnapboelfimaaaaGreatDoor
open Go.RowKit Go.Deep
set_option maxHeartbeats 2000000 in
set_option maxRecDepth 10000 in
theorem remove_not (tb ab wb K l D x d u m:Nat) (A:Ar) (F:Nat→List Nat) (M:Tab) (w:World) (h:TabAt w tb ab wb A) (hG:Good A F m) (hm:m≤3000) (hO:OnF A F M d (8+4*D) u x) (h1:8+4*D≤l) (hl:l≤128) (h3:l<8+4*D+4) (hb:(nodeAt A.word x).routes.testBit (pnum l (fitK K l) (8+4*D))=false) (R:Ar × Bool × Bool) (hR:R=(A,false,false)):Calls Tryz.prog 127 #[.pointer (some ⟨tb,0,none⟩),.int .i64 (x:Nat),.int .i64 (D:Nat),.agg (prefL K l).toArray] w fun e w'=>e=.returned (.tuple #[.bool R.2.1,.bool R.2.2])∧TabAt w' tb ab wb R.1∧Fr [ab,wb] w w':=by
 subst hR
 have hs:=hG.sane (by omega)
 have hlt:=hO.on.lt
 have hok:=hO.on.ok
 have hnp:pnum l (fitK K l) (8+4*D)=numK K l:=by rw[numK_pnum (by omega) hl,show (l-8)/4=D by omega]
 have hnk:=pnum_lt (v:=fitK K l) h1 (show l≤8+4*D+3 by omega)
 rw[hnp] at hb hnk
 have HDP:=hide (fun (w:World)=>depth_any K l w hl (by omega))
 rw[show (l-8)/4=D by omega] at HDP
 have HNU:=hide (fun (w:World)=>number_any K l w hl (by omega))
 obtain⟨nk,hnkd⟩:∃nk,nk=numK K l:=⟨_,rfl⟩
 rw[←hnkd] at HNU hb hnk
 clear hnkd hnp
 obtain⟨nn,hn⟩:∃n,n=nodeAt A.word x:=⟨_,rfl⟩
 rw[←hn] at hok hb
 have HND:=hide (fun (w:World) (h:TabAt w tb ab wb A)=>node_x A tb ab wb x x nn w h hs rfl hlt.2 hn);have hna:=h.na;have hnw:=h.nw;have hla:=h.ar.la;have hlw:=h.ar.lw;have hltt:=h.lt;obtain⟨wx,hwx⟩:∃wx,wx=w.alloc (.cells (prefL K l).toArray 128):=⟨_,rfl⟩;have bp:wx.heap[w.heap.size]?=some (.cells (prefL K l).toArray 128 (0,0)):=(by rw[hwx];exact heap_alloc_new _ _);have HBX:Below w.heap.size w wx:=(by rw[hwx];exact ext_alloc _ _);have HT:=hide (h.ext HBX);have HBX:=hide HBX;have HWX:=hide hwx;have hsx:=lt_of_block bp;have HN:=hide hn;clear h hwx hn;go_enter Tryz.func127,Tryz.ntmps127;go_wp2_with (first | rw[←HWX.out] | fail);refine(HND.out _ HT.out).mono ?_;rintro e w1 ⟨rfl,hb1⟩;have bn0:=heap_alloc_new w1 (.cells #[.int .u16 nn.routes,.int .u16 nn.ways,.int .i64 nn.hops,.int .i64 nn.children] 142);have bp1:=block_ext bp (ext_trans hb1 (ext_alloc w1 (.cells #[.int .u16 nn.routes,.int .u16 nn.ways,.int .i64 nn.hops,.int .i64 nn.children] 142)));have HT1:=hide (HT.out.ext (ext_trans hb1 (ext_alloc w1 (.cells #[.int .u16 nn.routes,.int .u16 nn.ways,.int .i64 nn.hops,.int .i64 nn.children] 142))));have HB1:=hide (ext_trans HBX.out (ext_trans hb1 (ext_alloc w1 (.cells #[.int .u16 nn.routes,.int .u16 nn.ways,.int .i64 nn.hops,.int .i64 nn.children] 142))));have hs1:=hb1.size;obtain⟨nb,hnb⟩:∃nb,nb=w1.heap.size:=⟨_,rfl⟩;have HNB:=hide hnb;rw[←hnb] at bn0 hs1;clear hb1 hnb
 have HHR:=hide (fun (w:World)=>hasRoute_any nn nk w hok (by omega))
 rw[hb] at HHR
 go_wp2_with (show wpList _ _ _ (⟨_,.load 128 _,_,_,_,_⟩ :: _) _ _;refine wpList_load_whole rfl 128 _ rfl w.heap.size rfl (prefL K l) _ 128 (0,0) (by assumption) Tryz.underlying128 rfl (pref_info K l) ?_)
 refine(HDP.out _).mono ?_
 rintro e w2 ⟨rfl,hb2⟩
 have bp2:=block_ext bp1 hb2;have bn2:=block_ext bn0 hb2;have HTQ:=hide (HT1.out.ext hb2);have HBQ:=hide (ext_trans HB1.out hb2);obtain⟨wq,hwq⟩:∃wz,wz=w2:=⟨_,rfl⟩;subst hwq;obtain⟨pb,hpb⟩:∃pb,pb=w.heap.size:=⟨_,rfl⟩;have HPB:=hide hpb;rw[←hpb] at bp2;have hpbn:pb≠nb:=(by omega);have hwnb:w.heap.size≤nb:=(by omega);have hnt:tb≠nb:=(by omega);have hnba:ab≠nb:=(by omega);have hnbw:wb≠nb:=(by omega);have hns:nb ∉ [ab,wb]:=(by simp;omega);have hps:pb ∉ [ab,wb]:=(by simp;omega);have hts:tb ∉ [ab,wb]:=(by simp;omega);have hlnq:=lt_of_block bn2;have hlpq:=lt_of_block bp2;clear hb2 bp1 bn0 hpb bp
 have KS:∀w',Below wq.heap.size wq w'→(fun w':World=>Below wq.heap.size wq w'∧w'.rangeAt pb 0 (prefL K l)∧w'.cell? ⟨nb,0,none⟩=some (.int .u16 nn.routes)∧w'.cell? ⟨nb,1,none⟩=some (.int .u16 nn.ways)∧w'.cell? ⟨nb,2,none⟩=some (.int .i64 nn.hops)∧w'.cell? ⟨nb,3,none⟩=some (.int .i64 nn.children)) w':=fun w' hf=>⟨hf,range_whole K l (block_ext bp2 hf),cells4n (block_ext bn2 hf)⟩
 simp only[] at KS
 go_wp2_with fail
 rw[←HNB.out,←HPB.out]
 refine wp_region_held_drew (S:=(fun w':World=>Below wq.heap.size wq w'∧w'.rangeAt pb 0 (prefL K l)∧w'.cell? ⟨nb,0,none⟩=some (.int .u16 nn.routes)∧w'.cell? ⟨nb,1,none⟩=some (.int .u16 nn.ways)∧w'.cell? ⟨nb,2,none⟩=some (.int .i64 nn.hops)∧w'.cell? ⟨nb,3,none⟩=some (.int .i64 nn.children))) (by kernel_rfl) (KS _ (drew_ext wq)) (fun hHeld=>?_)
 (refine wpAnyH_take (i:=0) (oi:=_) (v:=?_) rfl (by kernel_rfl) (by kernel_rfl) (by kernel_rfl) (fun _ _ _ h=>h) (Or.inl ⟨by rfl,?_⟩) (by assumption) ?_;rotate_left;(intro w hSw;(try dsimp only at hSw);go_simp;try with_reducible rfl);(try simp only[Act.put]);(try simp only[List.getElem_toArray]);(try simp only[List.getElem_cons_succ]);(try simp only[List.getElem_cons_zero]);(try simp only[List.setIfInBounds_toArray]))
 (refine wpAnyH_take (i:=1) (oi:=_) (v:=_) rfl (by kernel_rfl) (by kernel_rfl) (by kernel_rfl) (fun _ _ _ h=>h) (yieldsIf_load_mid (by rfl) _ _ rfl _ _ rfl (prefL K l) _ (fun w hSw=>hSw.2.1) Tryz.underlying128 rfl (pref_info K l)) (by assumption) ?_;(try simp only[Act.put]);(try simp only[List.getElem_toArray]);(try simp only[List.getElem_cons_succ]);(try simp only[List.getElem_cons_zero]);(try simp only[List.setIfInBounds_toArray]))
 ((refine wpAnyH_ready (rs:=[2]) (by kernel_rfl) (by simp) ?_);(refine AllReadyH.cons (o:=_) rfl (fun K hK=>?_) ?_);rotate_left;exact AllReadyH.nil)
 go_simp
 go_at_call 109
 refine(HNU.out _).mono ?_
 rintro e w5 ⟨rfl,hb5⟩
 have S5:=(ext_trans (drew_ext wq) hb5:Below wq.heap.size wq w5)
 clear hb5
 go_wp2_with fail
 (refine hK.out _ _ (KS _ S5) (fun hHeld=>?_);clear hK K;(try simp only[Act.put]);(try simp only[List.getElem_toArray]);(try simp only[List.getElem_cons_succ]);(try simp only[List.getElem_cons_zero]);(try simp only[List.setIfInBounds_toArray]))
 ((refine wpAnyH_ready (rs:=[3]) (by kernel_rfl) (by simp) ?_);(refine AllReadyH.cons (o:=_) rfl (fun K hK=>?_) ?_);rotate_left;exact AllReadyH.nil)
 go_simp
 go_at_call 69
 refine(HHR.out _).mono ?_
 rintro e w6 ⟨rfl,hb6⟩
 have S6:=(ext_trans S5 hb6:Below wq.heap.size wq w6)
 clear hb6
 go_wp2_with fail
 (refine hK.out _ _ (KS _ S6) (fun hHeld=>?_);clear hK K;(try simp only[Act.put]);(try simp only[List.getElem_toArray]);(try simp only[List.getElem_cons_succ]);(try simp only[List.getElem_cons_zero]);(try simp only[List.setIfInBounds_toArray]))
 (refine wpAnyH_take (i:=4) (oi:=_) (v:=?_) rfl (by kernel_rfl) (by kernel_rfl) (by kernel_rfl) (fun _ _ _ h=>h) (Or.inl ⟨by rfl,?_⟩) (by assumption) ?_;rotate_left;(intro w hSw;(try dsimp only at hSw);go_simp;try with_reducible rfl);(try simp only[Act.put]);(try simp only[List.getElem_toArray]);(try simp only[List.getElem_cons_succ]);(try simp only[List.getElem_cons_zero]);(try simp only[List.setIfInBounds_toArray]))
 (refine wpAnyH_done (by kernel_rfl) ?_ _)
 have HX:=hide (And.intro (HTQ.out.ext S6) (ext_trans HBQ.out S6))
 clear KS S5 S6 hHeld bp2 bn2
 go_wp2
 go_ret2
 exact⟨rfl,HX.out.1,fr_below HX.out.2⟩
set_option maxHeartbeats 4000000 in
set_option maxRecDepth 10000 in
theorem remove_here (tb ab wb K l D x d u m:Nat) (A:Ar) (F:Nat→List Nat) (M:Tab) (w:World) (h:TabAt w tb ab wb A) (hG:Good A F m) (hm:m≤3000) (hO:OnF A F M d (8+4*D) u x) (h1:8+4*D≤l) (hl:l≤128) (h3:l<8+4*D+4) (hb:(nodeAt A.word x).routes.testBit (pnum l (fitK K l) (8+4*D))=true) (R:Ar × Bool × Bool)
  (hR:R=((A.shrink (nodeAt A.word x).hops (ones 16 (nodeAt A.word x).routes) (ones (pnum l (fitK K l) (8+4*D)) (nodeAt A.word x).routes) 1).putN x ((nodeAt A.word x).dropHop (pnum l (fitK K l) (8+4*D))),true,((nodeAt A.word x).dropHop (pnum l (fitK K l) (8+4*D))).isEmpty)):Calls Tryz.prog 127 #[.pointer (some ⟨tb,0,none⟩),.int .i64 (x:Nat),.int .i64 (D:Nat),.agg (prefL K l).toArray] w fun e w'=>e=.returned (.tuple #[.bool R.2.1,.bool R.2.2])∧TabAt w' tb ab wb R.1∧Fr [ab,wb] w w':=by
 have hs:=hG.sane (by omega)
 have hlt:=hO.on.lt
 have hok:=hO.on.ok
 have hnp:pnum l (fitK K l) (8+4*D)=numK K l:=by rw[numK_pnum (by omega) hl,show (l-8)/4=D by omega]
 have hnk:=pnum_lt (v:=fitK K l) h1 (show l≤8+4*D+3 by omega)
 rw[hnp] at hb hnk hR
 have HDP:=hide (fun (w:World)=>depth_any K l w hl (by omega))
 rw[show (l-8)/4=D by omega] at HDP
 have HNU:=hide (fun (w:World)=>number_any K l w hl (by omega))
 obtain⟨nk,hnkd⟩:∃nk,nk=numK K l:=⟨_,rfl⟩
 rw[←hnkd] at HNU hb hnk hR
 clear hnkd hnp
 have hin:=hO.on.hops.1
 have hlt16:=ones_lt (n:=16) (by omega) hb
 have h16:=ones_le 16 (nodeAt A.word x).routes
 obtain⟨F',hGB,hSh⟩:=good_shrink (gap:=ones nk (nodeAt A.word x).routes) (less:=1) hG (by omega) (by omega) (by omega) (hO.hopsIn (by omega)) hO.hopsApart
 have hBs:=hSh.size
 obtain⟨nn,hn⟩:∃n,n=nodeAt A.word x:=⟨_,rfl⟩
 rw[←hn] at hok hb hin hR hBs
 obtain⟨nd,hnd⟩:∃nd,nd=nn.dropHop nk:=⟨_,rfl⟩
 have hndok:nd.ok:=by rw[hnd];exact dropHop_ok hok (by omega)
 have HDH:=hide (fun (w:World) (h:TabAt w tb ab wb A)=>dropHop_any A tb ab wb nk nn nd w h hs hok (by omega) hb hin hnd)
 rw[←hnd] at hR
 obtain⟨B,hB⟩:∃B,B=A.shrink nn.hops (ones 16 nn.routes) (ones nk nn.routes) 1:=⟨_,rfl⟩
 rw[←hB] at HDH hR hBs
 subst hR
 have HHT:=hide (fun (w:World)=>hasRoute_any nn nk w hok (by omega))
 rw[hb] at HHT
 clear hb hnd hB hGB hSh hin
 have HND:=hide (fun (w:World) (h:TabAt w tb ab wb A)=>node_x A tb ab wb x x nn w h hs rfl hlt.2 hn);have hna:=h.na;have hnw:=h.nw;have hla:=h.ar.la;have hlw:=h.ar.lw;have hltt:=h.lt;obtain⟨wx,hwx⟩:∃wx,wx=w.alloc (.cells (prefL K l).toArray 128):=⟨_,rfl⟩;have bp:wx.heap[w.heap.size]?=some (.cells (prefL K l).toArray 128 (0,0)):=(by rw[hwx];exact heap_alloc_new _ _);have HBX:Below w.heap.size w wx:=(by rw[hwx];exact ext_alloc _ _);have HT:=hide (h.ext HBX);have HBX:=hide HBX;have HWX:=hide hwx;have hsx:=lt_of_block bp;have HN:=hide hn;clear h hwx hn;go_enter Tryz.func127,Tryz.ntmps127;go_wp2_with (first | rw[←HWX.out] | fail);refine(HND.out _ HT.out).mono ?_;rintro e w1 ⟨rfl,hb1⟩;have bn0:=heap_alloc_new w1 (.cells #[.int .u16 nn.routes,.int .u16 nn.ways,.int .i64 nn.hops,.int .i64 nn.children] 142);have bp1:=block_ext bp (ext_trans hb1 (ext_alloc w1 (.cells #[.int .u16 nn.routes,.int .u16 nn.ways,.int .i64 nn.hops,.int .i64 nn.children] 142)));have HT1:=hide (HT.out.ext (ext_trans hb1 (ext_alloc w1 (.cells #[.int .u16 nn.routes,.int .u16 nn.ways,.int .i64 nn.hops,.int .i64 nn.children] 142))));have HB1:=hide (ext_trans HBX.out (ext_trans hb1 (ext_alloc w1 (.cells #[.int .u16 nn.routes,.int .u16 nn.ways,.int .i64 nn.hops,.int .i64 nn.children] 142))));have hs1:=hb1.size;obtain⟨nb,hnb⟩:∃nb,nb=w1.heap.size:=⟨_,rfl⟩;have HNB:=hide hnb;rw[←hnb] at bn0 hs1;clear hb1 hnb
 go_wp2_with (show wpList _ _ _ (⟨_,.load 128 _,_,_,_,_⟩ :: _) _ _;refine wpList_load_whole rfl 128 _ rfl w.heap.size rfl (prefL K l) _ 128 (0,0) (by assumption) Tryz.underlying128 rfl (pref_info K l) ?_)
 refine(HDP.out _).mono ?_
 rintro e w2 ⟨rfl,hb2⟩
 have bp2:=block_ext bp1 hb2;have bn2:=block_ext bn0 hb2;have HTQ:=hide (HT1.out.ext hb2);have HBQ:=hide (ext_trans HB1.out hb2);obtain⟨wq,hwq⟩:∃wz,wz=w2:=⟨_,rfl⟩;subst hwq;obtain⟨pb,hpb⟩:∃pb,pb=w.heap.size:=⟨_,rfl⟩;have HPB:=hide hpb;rw[←hpb] at bp2;have hpbn:pb≠nb:=(by omega);have hwnb:w.heap.size≤nb:=(by omega);have hnt:tb≠nb:=(by omega);have hnba:ab≠nb:=(by omega);have hnbw:wb≠nb:=(by omega);have hns:nb ∉ [ab,wb]:=(by simp;omega);have hps:pb ∉ [ab,wb]:=(by simp;omega);have hts:tb ∉ [ab,wb]:=(by simp;omega);have hlnq:=lt_of_block bn2;have hlpq:=lt_of_block bp2;clear hb2 bp1 bn0 hpb bp
 have KS:∀w',Below wq.heap.size wq w'→(fun w':World=>Below wq.heap.size wq w'∧w'.rangeAt pb 0 (prefL K l)∧w'.cell? ⟨nb,0,none⟩=some (.int .u16 nn.routes)∧w'.cell? ⟨nb,1,none⟩=some (.int .u16 nn.ways)∧w'.cell? ⟨nb,2,none⟩=some (.int .i64 nn.hops)∧w'.cell? ⟨nb,3,none⟩=some (.int .i64 nn.children)) w':=fun w' hf=>⟨hf,range_whole K l (block_ext bp2 hf),cells4n (block_ext bn2 hf)⟩
 simp only[] at KS
 go_wp2_with fail
 rw[←HNB.out,←HPB.out]
 refine wp_region_held_drew (S:=(fun w':World=>Below wq.heap.size wq w'∧w'.rangeAt pb 0 (prefL K l)∧w'.cell? ⟨nb,0,none⟩=some (.int .u16 nn.routes)∧w'.cell? ⟨nb,1,none⟩=some (.int .u16 nn.ways)∧w'.cell? ⟨nb,2,none⟩=some (.int .i64 nn.hops)∧w'.cell? ⟨nb,3,none⟩=some (.int .i64 nn.children))) (by kernel_rfl) (KS _ (drew_ext wq)) (fun hHeld=>?_)
 (refine wpAnyH_take (i:=0) (oi:=_) (v:=?_) rfl (by kernel_rfl) (by kernel_rfl) (by kernel_rfl) (fun _ _ _ h=>h) (Or.inl ⟨by rfl,?_⟩) (by assumption) ?_;rotate_left;(intro w hSw;(try dsimp only at hSw);go_simp;try with_reducible rfl);(try simp only[Act.put]);(try simp only[List.getElem_toArray]);(try simp only[List.getElem_cons_succ]);(try simp only[List.getElem_cons_zero]);(try simp only[List.setIfInBounds_toArray]))
 (refine wpAnyH_take (i:=1) (oi:=_) (v:=_) rfl (by kernel_rfl) (by kernel_rfl) (by kernel_rfl) (fun _ _ _ h=>h) (yieldsIf_load_mid (by rfl) _ _ rfl _ _ rfl (prefL K l) _ (fun w hSw=>hSw.2.1) Tryz.underlying128 rfl (pref_info K l)) (by assumption) ?_;(try simp only[Act.put]);(try simp only[List.getElem_toArray]);(try simp only[List.getElem_cons_succ]);(try simp only[List.getElem_cons_zero]);(try simp only[List.setIfInBounds_toArray]))
 ((refine wpAnyH_ready (rs:=[2]) (by kernel_rfl) (by simp) ?_);(refine AllReadyH.cons (o:=_) rfl (fun K hK=>?_) ?_);rotate_left;exact AllReadyH.nil)
 go_simp
 go_at_call 109
 refine(HNU.out _).mono ?_
 rintro e w5 ⟨rfl,hb5⟩
 have S5:=(ext_trans (drew_ext wq) hb5:Below wq.heap.size wq w5)
 clear hb5
 go_wp2_with fail
 (refine hK.out _ _ (KS _ S5) (fun hHeld=>?_);clear hK K;(try simp only[Act.put]);(try simp only[List.getElem_toArray]);(try simp only[List.getElem_cons_succ]);(try simp only[List.getElem_cons_zero]);(try simp only[List.setIfInBounds_toArray]))
 ((refine wpAnyH_ready (rs:=[3]) (by kernel_rfl) (by simp) ?_);(refine AllReadyH.cons (o:=_) rfl (fun K hK=>?_) ?_);rotate_left;exact AllReadyH.nil)
 go_simp
 go_at_call 69
 refine(HHT.out _).mono ?_
 rintro e w6 ⟨rfl,hb6⟩
 have S6:=(ext_trans S5 hb6:Below wq.heap.size wq w6)
 clear hb6
 go_wp2_with fail
 (refine hK.out _ _ (KS _ S6) (fun hHeld=>?_);clear hK K;(try simp only[Act.put]);(try simp only[List.getElem_toArray]);(try simp only[List.getElem_cons_succ]);(try simp only[List.getElem_cons_zero]);(try simp only[List.setIfInBounds_toArray]))
 (refine wpAnyH_take (i:=4) (oi:=_) (v:=?_) rfl (by kernel_rfl) (by kernel_rfl) (by kernel_rfl) (fun _ _ _ h=>h) (Or.inl ⟨by rfl,?_⟩) (by assumption) ?_;rotate_left;(intro w hSw;(try dsimp only at hSw);go_simp;try with_reducible rfl);(try simp only[Act.put]);(try simp only[List.getElem_toArray]);(try simp only[List.getElem_cons_succ]);(try simp only[List.getElem_cons_zero]);(try simp only[List.setIfInBounds_toArray]))
 (refine wpAnyH_done (by kernel_rfl) ?_ _)
 have bp6:=block_ext bp2 S6
 have bn6:=block_ext bn2 S6
 have HT6:=hide (HTQ.out.ext S6)
 have HB6:=hide (ext_trans HBQ.out S6)
 clear KS S5 S6 hHeld bp2 bn2 HTQ HBQ
 obtain⟨wq,hwq⟩:∃wz,wz=w6:=⟨_,rfl⟩
 subst hwq
 have hlnq:=lt_of_block bn6
 obtain⟨q0,q1,q2,q3⟩:=cells4n bn6
 have KS:∀w',Fr [ab,wb] wq w'→(fun w':World=>Fr [ab,wb,nb] wq w'∧w'.rangeAt pb 0 (prefL K l)) w':=fun w' hf=>⟨hf.mono (fun y hy _=>by simp at hy ⊢;omega),range_whole K l (hf.at bp6 hps)⟩
 have KZ:∀(w':World) (v0 v1 v2 v3:Value),Fr [ab,wb] wq w'→(fun w':World=>Fr [ab,wb,nb] wq w'∧w'.rangeAt pb 0 (prefL K l)) ((((w'.setCell ⟨nb,0,none⟩ v0).setCell ⟨nb,1,none⟩ v1).setCell ⟨nb,2,none⟩ v2).setCell ⟨nb,3,none⟩ v3):=fun w' v0 v1 v2 v3 hf=>⟨(hf.mono (fun y hy _=>by simp at hy ⊢;omega):Fr [ab,wb,nb] wq w').set4 (Or.inl (by simp)),range_whole K l (heap_set4 (hf.at bp6 hps) hpbn)⟩
 simp only[] at KS KZ
 go_wp2_with fail
 refine wp_region_held_drew (S:=(fun w':World=>Fr [ab,wb,nb] wq w'∧w'.rangeAt pb 0 (prefL K l))) (by kernel_rfl) (KS _ (fr_below (drew_ext wq))) (fun hHeld=>?_)
 (refine wpAnyH_take (i:=0) (oi:=_) (v:=?_) rfl (by kernel_rfl) (by kernel_rfl) (by kernel_rfl) (fun _ _ _ h=>h) (Or.inl ⟨by rfl,?_⟩) (by assumption) ?_;rotate_left;(intro w hSw;(try dsimp only at hSw);go_simp;try with_reducible rfl);(try simp only[Act.put]);(try simp only[List.getElem_toArray]);(try simp only[List.getElem_cons_succ]);(try simp only[List.getElem_cons_zero]);(try simp only[List.setIfInBounds_toArray]))
 (refine wpAnyH_take (i:=2) (oi:=_) (v:=_) rfl (by kernel_rfl) (by kernel_rfl) (by kernel_rfl) (fun _ _ _ h=>h) (yieldsIf_load_mid (by rfl) _ _ rfl _ _ rfl (prefL K l) _ (fun w hSw=>hSw.2) Tryz.underlying128 rfl (pref_info K l)) (by assumption) ?_;(try simp only[Act.put]);(try simp only[List.getElem_toArray]);(try simp only[List.getElem_cons_succ]);(try simp only[List.getElem_cons_zero]);(try simp only[List.setIfInBounds_toArray]))
 (refine wpAnyH_ready (rs:=[1,3]) (by kernel_rfl) (by simp) ?_)
 (refine AllReadyH.cons (o:=_) rfl (fun K hK=>?_) ?_)
 ·go_simp
  (refine hK.out _ _ (KS _ (fr_below (drew_ext wq))) (fun hHeld=>?_);clear hK K;(try simp only[Act.put]);(try simp only[List.getElem_toArray]);(try simp only[List.getElem_cons_succ]);(try simp only[List.getElem_cons_zero]);(try simp only[List.setIfInBounds_toArray]))
  ((refine wpAnyH_ready (rs:=[3]) (by kernel_rfl) (by simp) ?_);(refine AllReadyH.cons (o:=_) rfl (fun K hK=>?_) ?_);rotate_left;exact AllReadyH.nil)
  go_simp
  (go_at_call 109;refine(HNU.out _).mono ?_;rintro e w5 ⟨rfl,hb5⟩;have S5:=(ext_trans (drew_ext wq) hb5:Below wq.heap.size wq w5);clear hb5;go_wp2_with fail;(refine hK.out _ _ (KS _ (fr_below S5)) (fun hHeld=>?_);clear hK K;(try simp only[Act.put]);(try simp only[List.getElem_toArray]);(try simp only[List.getElem_cons_succ]);(try simp only[List.getElem_cons_zero]);(try simp only[List.setIfInBounds_toArray])))
  (((refine wpAnyH_ready (rs:=[4]) (by kernel_rfl) (by simp) ?_);(refine AllReadyH.cons (o:=_) rfl (fun K hK=>?_) ?_);rotate_left;exact AllReadyH.nil);go_simp;go_at_call 128;refine(HDH.out _ (HT6.out.ext S5)).mono ?_;rintro e w7 ⟨rfl,hT7,hF7⟩;have F7:=(Fr.after (fr_below S5) hF7 (fun y hy=>Or.inl hy):Fr [ab,wb] wq w7);have b7:=F7.at bn6 hns;obtain⟨g0,g1,g2,g3,g4,g5,g6,g7⟩:=cells4 b7;clear hF7;go_wp2_with fail;(refine hK.out _ _ (KS _ F7) (fun hHeld=>?_);clear hK K;(try simp only[Act.put]);(try simp only[List.getElem_toArray]);(try simp only[List.getElem_cons_succ]);(try simp only[List.getElem_cons_zero]);(try simp only[List.setIfInBounds_toArray]));((refine wpAnyH_ready (rs:=[5]) (by kernel_rfl) (by simp) ?_);(refine AllReadyH.cons (o:=_) rfl (fun K hK=>?_) ?_);rotate_left;exact AllReadyH.nil);go_simp;(refine hK.out _ _ (KZ _ _ _ _ _ F7) (fun hHeld=>?_);clear hK K;(try simp only[Act.put]);(try simp only[List.getElem_toArray]);(try simp only[List.getElem_cons_succ]);(try simp only[List.getElem_cons_zero]);(try simp only[List.setIfInBounds_toArray]));(refine wpAnyH_done (by kernel_rfl) ?_ _);have bd:=store4 (c0:=.int .u16 nd.routes) (c1:=.int .u16 nd.ways) (c2:=.int .i64 nd.hops) (c3:=.int .i64 nd.children) b7;have hTd:=hT7.set4 (b:=nb) (v0:=.int .u16 nd.routes) (v1:=.int .u16 nd.ways) (v2:=.int .i64 nd.hops) (v3:=.int .i64 nd.children) hnt hnba hnbw;have hFd:=(Fr.after (fr_below HB6.out) F7 (fun y hy=>Or.inl hy):Fr [ab,wb] w w7).set4 (b:=nb) (v0:=.int .u16 nd.routes) (v1:=.int .u16 nd.ways) (v2:=.int .i64 nd.hops) (v3:=.int .i64 nd.children) (Or.inr hwnb);obtain⟨wq,hwq⟩:∃wz,wz=((((w7.setCell ⟨nb,0,none⟩ (.int .u16 nd.routes)).setCell ⟨nb,1,none⟩ (.int .u16 nd.ways)).setCell ⟨nb,2,none⟩ (.int .i64 nd.hops)).setCell ⟨nb,3,none⟩ (.int .i64 nd.children)):=⟨_,rfl⟩;rw[←hwq] at bd hTd hFd ⊢;clear hwq g0 g1 g2 g3 g4 g5 g6 g7 b7 F7 hT7 KS KZ hHeld bp6 bn6 S5;have HTW:=hide hTd;have HFD:=hide hFd;have hlb:=lt_of_block bd;have hltq:=hTd.lt;have hnw1:nb ∉ [wb]:=(by simpa using hnbw.symm);have htw1:tb ∉ [wb]:=(by simpa using hnw);have KS:∀w',Fr [wb] wq w'→(fun w':World=>Fr [wb] wq w'∧w'.cell? ⟨tb,0,none⟩=some (.pointer (some ⟨ab,0,none⟩))∧w'.cell? ⟨nb,0,none⟩=some (.int .u16 nd.routes)∧w'.cell? ⟨nb,1,none⟩=some (.int .u16 nd.ways)∧w'.cell? ⟨nb,2,none⟩=some (.int .i64 nd.hops)∧w'.cell? ⟨nb,3,none⟩=some (.int .i64 nd.children)) w':=fun w' hf=>⟨hf,HTW.out.frw hf htw1,cells4n (hf.at bd hnw1)⟩;simp only[] at KS;clear hTd hFd;go_wp2_with fail;go_region_held3 (fun w':World=>Fr [wb] wq w'∧w'.cell? ⟨tb,0,none⟩=some (.pointer (some ⟨ab,0,none⟩))∧w'.cell? ⟨nb,0,none⟩=some (.int .u16 nd.routes)∧w'.cell? ⟨nb,1,none⟩=some (.int .u16 nd.ways)∧w'.cell? ⟨nb,2,none⟩=some (.int .i64 nd.hops)∧w'.cell? ⟨nb,3,none⟩=some (.int .i64 nd.children)) (with_reducible (first | assumption | exact KS _ (fr_below (drew_ext wq)) | exact KS _ (by assumption) | exact KS _ (fr_below (by assumption)) | exact KS _ (fr_below (ext_trans (by assumption) (ext_alloc _ _))) | exact KS _ (fr_below (Below.drew (ext_alloc _ _))) | exact KS _ (Fr.alloc (by assumption) _) | (refine KS _ (Fr.setCell (Fr.setCell (by assumption) (Or.inr ?_) _) (Or.inr ?_) _) <;> first | assumption | exact Nat.le_refl _))) ((go_at_call 121;refine(writeNode_any B ab wb _ x nd _ HTW.out.ar.drew hndok rfl (by omega)).mono ?_;rintro e w8 ⟨rfl,hA8,hF8⟩;have F8:=(Fr.after (fr_below (drew_ext wq)) hF8 (fun y hy=>Or.inl hy):Fr [wb] wq w8);clear hF8));have bd8:=F8.at bd hnw1;obtain⟨k0,k1,k2,k3⟩:=cells4n bd8;have HT8:=hide (HTW.out.of F8 htw1 hA8);have HF8:=hide (Fr.after HFD.out F8 (fun y hy=>Or.inl (by simp at hy ⊢;exact Or.inr hy)):Fr [ab,wb] w w8);have hl8:=lt_of_block bd8;clear F8 hA8 KS bd bd8;go_wp2_with fail;refine(empty_any nd _).mono ?_;rintro e w9 ⟨rfl,hb9⟩;have HX:=hide (And.intro (HT8.out.ext hb9) (Fr.after HF8.out (fr_below (S:=[]) hb9) (fun y hy=>by cases hy):Fr [ab,wb] w w9));clear hb9;go_wp2;go_ret2;exact⟨rfl,HX.out.1,HX.out.2⟩)
 ·(refine AllReadyH.cons (o:=_) rfl (fun K hK=>?_) ?_)
  ·go_simp
   (go_at_call 109;refine(HNU.out _).mono ?_;rintro e w5 ⟨rfl,hb5⟩;have S5:=(ext_trans (drew_ext wq) hb5:Below wq.heap.size wq w5);clear hb5;go_wp2_with fail;(refine hK.out _ _ (KS _ (fr_below S5)) (fun hHeld=>?_);clear hK K;(try simp only[Act.put]);(try simp only[List.getElem_toArray]);(try simp only[List.getElem_cons_succ]);(try simp only[List.getElem_cons_zero]);(try simp only[List.setIfInBounds_toArray])))
   obtain⟨e0,e1,e2,e3⟩:=cells4n (block_ext bn6 S5)
   ((refine wpAnyH_ready (rs:=[1]) (by kernel_rfl) (by simp) ?_);(refine AllReadyH.cons (o:=_) rfl (fun K hK=>?_) ?_);rotate_left;exact AllReadyH.nil)
   go_simp
   (refine hK.out _ _ (KS _ (fr_below S5)) (fun hHeld=>?_);clear hK K;(try simp only[Act.put]);(try simp only[List.getElem_toArray]);(try simp only[List.getElem_cons_succ]);(try simp only[List.getElem_cons_zero]);(try simp only[List.setIfInBounds_toArray]))
   (((refine wpAnyH_ready (rs:=[4]) (by kernel_rfl) (by simp) ?_);(refine AllReadyH.cons (o:=_) rfl (fun K hK=>?_) ?_);rotate_left;exact AllReadyH.nil);go_simp;go_at_call 128;refine(HDH.out _ (HT6.out.ext S5)).mono ?_;rintro e w7 ⟨rfl,hT7,hF7⟩;have F7:=(Fr.after (fr_below S5) hF7 (fun y hy=>Or.inl hy):Fr [ab,wb] wq w7);have b7:=F7.at bn6 hns;obtain⟨g0,g1,g2,g3,g4,g5,g6,g7⟩:=cells4 b7;clear hF7;go_wp2_with fail;(refine hK.out _ _ (KS _ F7) (fun hHeld=>?_);clear hK K;(try simp only[Act.put]);(try simp only[List.getElem_toArray]);(try simp only[List.getElem_cons_succ]);(try simp only[List.getElem_cons_zero]);(try simp only[List.setIfInBounds_toArray]));((refine wpAnyH_ready (rs:=[5]) (by kernel_rfl) (by simp) ?_);(refine AllReadyH.cons (o:=_) rfl (fun K hK=>?_) ?_);rotate_left;exact AllReadyH.nil);go_simp;(refine hK.out _ _ (KZ _ _ _ _ _ F7) (fun hHeld=>?_);clear hK K;(try simp only[Act.put]);(try simp only[List.getElem_toArray]);(try simp only[List.getElem_cons_succ]);(try simp only[List.getElem_cons_zero]);(try simp only[List.setIfInBounds_toArray]));(refine wpAnyH_done (by kernel_rfl) ?_ _);have bd:=store4 (c0:=.int .u16 nd.routes) (c1:=.int .u16 nd.ways) (c2:=.int .i64 nd.hops) (c3:=.int .i64 nd.children) b7;have hTd:=hT7.set4 (b:=nb) (v0:=.int .u16 nd.routes) (v1:=.int .u16 nd.ways) (v2:=.int .i64 nd.hops) (v3:=.int .i64 nd.children) hnt hnba hnbw;have hFd:=(Fr.after (fr_below HB6.out) F7 (fun y hy=>Or.inl hy):Fr [ab,wb] w w7).set4 (b:=nb) (v0:=.int .u16 nd.routes) (v1:=.int .u16 nd.ways) (v2:=.int .i64 nd.hops) (v3:=.int .i64 nd.children) (Or.inr hwnb);obtain⟨wq,hwq⟩:∃wz,wz=((((w7.setCell ⟨nb,0,none⟩ (.int .u16 nd.routes)).setCell ⟨nb,1,none⟩ (.int .u16 nd.ways)).setCell ⟨nb,2,none⟩ (.int .i64 nd.hops)).setCell ⟨nb,3,none⟩ (.int .i64 nd.children)):=⟨_,rfl⟩;rw[←hwq] at bd hTd hFd ⊢;clear hwq g0 g1 g2 g3 g4 g5 g6 g7 b7 F7 hT7 KS KZ hHeld bp6 bn6 S5;have HTW:=hide hTd;have HFD:=hide hFd;have hlb:=lt_of_block bd;have hltq:=hTd.lt;have hnw1:nb ∉ [wb]:=(by simpa using hnbw.symm);have htw1:tb ∉ [wb]:=(by simpa using hnw);have KS:∀w',Fr [wb] wq w'→(fun w':World=>Fr [wb] wq w'∧w'.cell? ⟨tb,0,none⟩=some (.pointer (some ⟨ab,0,none⟩))∧w'.cell? ⟨nb,0,none⟩=some (.int .u16 nd.routes)∧w'.cell? ⟨nb,1,none⟩=some (.int .u16 nd.ways)∧w'.cell? ⟨nb,2,none⟩=some (.int .i64 nd.hops)∧w'.cell? ⟨nb,3,none⟩=some (.int .i64 nd.children)) w':=fun w' hf=>⟨hf,HTW.out.frw hf htw1,cells4n (hf.at bd hnw1)⟩;simp only[] at KS;clear hTd hFd;go_wp2_with fail;go_region_held3 (fun w':World=>Fr [wb] wq w'∧w'.cell? ⟨tb,0,none⟩=some (.pointer (some ⟨ab,0,none⟩))∧w'.cell? ⟨nb,0,none⟩=some (.int .u16 nd.routes)∧w'.cell? ⟨nb,1,none⟩=some (.int .u16 nd.ways)∧w'.cell? ⟨nb,2,none⟩=some (.int .i64 nd.hops)∧w'.cell? ⟨nb,3,none⟩=some (.int .i64 nd.children)) (with_reducible (first | assumption | exact KS _ (fr_below (drew_ext wq)) | exact KS _ (by assumption) | exact KS _ (fr_below (by assumption)) | exact KS _ (fr_below (ext_trans (by assumption) (ext_alloc _ _))) | exact KS _ (fr_below (Below.drew (ext_alloc _ _))) | exact KS _ (Fr.alloc (by assumption) _) | (refine KS _ (Fr.setCell (Fr.setCell (by assumption) (Or.inr ?_) _) (Or.inr ?_) _) <;> first | assumption | exact Nat.le_refl _))) ((go_at_call 121;refine(writeNode_any B ab wb _ x nd _ HTW.out.ar.drew hndok rfl (by omega)).mono ?_;rintro e w8 ⟨rfl,hA8,hF8⟩;have F8:=(Fr.after (fr_below (drew_ext wq)) hF8 (fun y hy=>Or.inl hy):Fr [wb] wq w8);clear hF8));have bd8:=F8.at bd hnw1;obtain⟨k0,k1,k2,k3⟩:=cells4n bd8;have HT8:=hide (HTW.out.of F8 htw1 hA8);have HF8:=hide (Fr.after HFD.out F8 (fun y hy=>Or.inl (by simp at hy ⊢;exact Or.inr hy)):Fr [ab,wb] w w8);have hl8:=lt_of_block bd8;clear F8 hA8 KS bd bd8;go_wp2_with fail;refine(empty_any nd _).mono ?_;rintro e w9 ⟨rfl,hb9⟩;have HX:=hide (And.intro (HT8.out.ext hb9) (Fr.after HF8.out (fr_below (S:=[]) hb9) (fun y hy=>by cases hy):Fr [ab,wb] w w9));clear hb9;go_wp2;go_ret2;exact⟨rfl,HX.out.1,HX.out.2⟩)
  ·exact AllReadyH.nil
end Go.Proofs.YtnapboelfimaaaaGreatDoor
namespace Go.Proofs.YtnapboelfimaaaaGreatDoor
open Go.RowKit Go.Deep
set_option maxHeartbeats 2000000 in
set_option maxRecDepth 10000 in
theorem remove_noway (tb ab wb K l D x d u m:Nat) (A:Ar) (F:Nat→List Nat) (M:Tab) (w:World) (h:TabAt w tb ab wb A) (hG:Good A F m) (hm:m≤3000) (hO:OnF A F M d (8+4*D) u x) (_h1:8+4*D≤l) (hl:l≤128) (h3:8+4*D+4≤l) (hb:(nodeAt A.word x).ways.testBit (fourV l (fitK K l) (8+4*D))=false) (R:Ar × Bool × Bool) (hR:R=(A,false,false)):Calls Tryz.prog 127 #[.pointer (some ⟨tb,0,none⟩),.int .i64 (x:Nat),.int .i64 (D:Nat),.agg (prefL K l).toArray] w fun e w'=>e=.returned (.tuple #[.bool R.2.1,.bool R.2.2])∧TabAt w' tb ab wb R.1∧Fr [ab,wb] w w':=by
 subst hR
 have hs:=hG.sane (by omega)
 have hlt:=hO.on.lt
 have hok:=hO.on.ok
 have hf16:=kfour_lt K D
 rw[fourV_key h3 (by omega),←kfour_fit] at hb
 have HDP:=hide (fun (w:World)=>depth_any K l w hl (by omega))
 obtain⟨s,hsd⟩:∃s,s=(l-8)/4:=⟨_,rfl⟩
 rw[←hsd] at HDP
 have hDs:(D:Int)<s:=by omega
 have hs30:(s:Int)≤30:=by omega
 have HFO:=hide (fun (w:World)=>four_any K D D w (by omega) rfl)
 obtain⟨nn,hn⟩:∃n,n=nodeAt A.word x:=⟨_,rfl⟩
 rw[←hn] at hok hb
 have HHW:=hide (fun (w:World)=>hasWay_any nn (kfour K D) w hok (by omega))
 rw[hb] at HHW
 clear hsd hb
 have HND:=hide (fun (w:World) (h:TabAt w tb ab wb A)=>node_x A tb ab wb x x nn w h hs rfl hlt.2 hn);have hna:=h.na;have hnw:=h.nw;have hla:=h.ar.la;have hlw:=h.ar.lw;have hltt:=h.lt;obtain⟨wx,hwx⟩:∃wx,wx=w.alloc (.cells (prefL K l).toArray 128):=⟨_,rfl⟩;have bp:wx.heap[w.heap.size]?=some (.cells (prefL K l).toArray 128 (0,0)):=(by rw[hwx];exact heap_alloc_new _ _);have HBX:Below w.heap.size w wx:=(by rw[hwx];exact ext_alloc _ _);have HT:=hide (h.ext HBX);have HBX:=hide HBX;have HWX:=hide hwx;have hsx:=lt_of_block bp;have HN:=hide hn;clear h hwx hn;go_enter Tryz.func127,Tryz.ntmps127;go_wp2_with (first | rw[←HWX.out] | fail);refine(HND.out _ HT.out).mono ?_;rintro e w1 ⟨rfl,hb1⟩;have bn0:=heap_alloc_new w1 (.cells #[.int .u16 nn.routes,.int .u16 nn.ways,.int .i64 nn.hops,.int .i64 nn.children] 142);have bp1:=block_ext bp (ext_trans hb1 (ext_alloc w1 (.cells #[.int .u16 nn.routes,.int .u16 nn.ways,.int .i64 nn.hops,.int .i64 nn.children] 142)));have HT1:=hide (HT.out.ext (ext_trans hb1 (ext_alloc w1 (.cells #[.int .u16 nn.routes,.int .u16 nn.ways,.int .i64 nn.hops,.int .i64 nn.children] 142))));have HB1:=hide (ext_trans HBX.out (ext_trans hb1 (ext_alloc w1 (.cells #[.int .u16 nn.routes,.int .u16 nn.ways,.int .i64 nn.hops,.int .i64 nn.children] 142))));have hs1:=hb1.size;obtain⟨nb,hnb⟩:∃nb,nb=w1.heap.size:=⟨_,rfl⟩;have HNB:=hide hnb;rw[←hnb] at bn0 hs1;clear hb1 hnb
 go_wp2_with (show wpList _ _ _ (⟨_,.load 128 _,_,_,_,_⟩ :: _) _ _;refine wpList_load_whole rfl 128 _ rfl w.heap.size rfl (prefL K l) _ 128 (0,0) (by assumption) Tryz.underlying128 rfl (pref_info K l) ?_)
 refine(HDP.out _).mono ?_
 rintro e w2 ⟨rfl,hb2⟩
 have bp2:=block_ext bp1 hb2;have bn2:=block_ext bn0 hb2;have HTQ:=hide (HT1.out.ext hb2);have HBQ:=hide (ext_trans HB1.out hb2);obtain⟨wq,hwq⟩:∃wz,wz=w2:=⟨_,rfl⟩;subst hwq;obtain⟨pb,hpb⟩:∃pb,pb=w.heap.size:=⟨_,rfl⟩;have HPB:=hide hpb;rw[←hpb] at bp2;have hpbn:pb≠nb:=(by omega);have hwnb:w.heap.size≤nb:=(by omega);have hnt:tb≠nb:=(by omega);have hnba:ab≠nb:=(by omega);have hnbw:wb≠nb:=(by omega);have hns:nb ∉ [ab,wb]:=(by simp;omega);have hps:pb ∉ [ab,wb]:=(by simp;omega);have hts:tb ∉ [ab,wb]:=(by simp;omega);have hlnq:=lt_of_block bn2;have hlpq:=lt_of_block bp2;clear hb2 bp1 bn0 hpb bp
 rw[←HNB.out,←HPB.out]
 go_wp2_with (show wpList _ _ _ (⟨_,.load 126 _,_,_,_,_⟩ :: _) _ _;refine wpList_load_mid rfl 126 _ rfl pb 0 rfl (keyL K) _ (range_pref K l (by assumption)) Tryz.underlying126 rfl (key_info K) ?_)
 refine(HFO.out _).mono ?_
 rintro e w3 ⟨rfl,hb3⟩
 obtain⟨k0,k1,k2,k3⟩:=cells4n (block_ext bn2 hb3)
 have hl3:=lt_of_block (block_ext bn2 hb3)
 have HT3:=hide (HTQ.out.ext hb3)
 have HB3:=hide (ext_trans HBQ.out hb3)
 clear hb3 bp2 bn2
 go_wp2_with fail
 refine(HHW.out _).mono ?_
 rintro e w4 ⟨rfl,hb4⟩
 have HX:=hide (And.intro (HT3.out.ext hb4) (ext_trans HB3.out hb4))
 clear hb4
 go_wp2
 go_ret2
 exact⟨rfl,HX.out.1,fr_below HX.out.2⟩
set_option maxHeartbeats 4000000 in
set_option maxRecDepth 10000 in
theorem remove_kid (tb ab wb K l D x d u m:Nat) (A:Ar) (F:Nat→List Nat) (M:Tab) (w:World) (h:TabAt w tb ab wb A) (hG:Good A F m) (hm:m≤3000) (hO:OnF A F M d (8+4*D) u x) (_h1:8+4*D≤l) (hl:l≤128) (h3:8+4*D+4≤l) (hb:(nodeAt A.word x).ways.testBit (fourV l (fitK K l) (8+4*D))=true) (B:Ar) (fo em:Bool) (hsB:Sane B) (hBs:B.size=A.size)
  (hIH:∀w',TabAt w' tb ab wb A→Calls Tryz.prog 127 #[.pointer (some ⟨tb,0,none⟩),.int .i64 (((nodeAt A.word x).kid (fourV l (fitK K l) (8+4*D)):Nat):Int),.int .i64 ((D+1:Nat):Int),.agg (prefL K l).toArray] w' fun e w''=>e=.returned (.tuple #[.bool fo,.bool em])∧TabAt w'' tb ab wb B∧Fr [ab,wb] w' w'')
  (R:Ar × Bool × Bool) (hR:R=if em then ((B.shrink (nodeAt A.word x).children (2*ones 16 (nodeAt A.word x).ways) (2*ones (fourV l (fitK K l) (8+4*D)) (nodeAt A.word x).ways) 2).putN x ((nodeAt A.word x).dropKid (fourV l (fitK K l) (8+4*D))),true,((nodeAt A.word x).dropKid (fourV l (fitK K l) (8+4*D))).isEmpty) else (B,fo,false)):Calls Tryz.prog 127 #[.pointer (some ⟨tb,0,none⟩),.int .i64 (x:Nat),.int .i64 (D:Nat),.agg (prefL K l).toArray] w fun e w'=>e=.returned (.tuple #[.bool R.2.1,.bool R.2.2])∧TabAt w' tb ab wb R.1∧Fr [ab,wb] w w':=by
 have hs:=hG.sane (by omega)
 have hlt:=hO.on.lt
 have hok:=hO.on.ok
 have hf16:=kfour_lt K D
 have hin:=hO.on.kids.1
 rw[fourV_key h3 (by omega),←kfour_fit] at hb hIH hR
 have HDP:=hide (fun (w:World)=>depth_any K l w hl (by omega))
 obtain⟨s,hsd⟩:∃s,s=(l-8)/4:=⟨_,rfl⟩
 rw[←hsd] at HDP
 have hDs:(D:Int)<s:=by omega
 have hs30:(s:Int)≤30:=by omega
 have HFO:=hide (fun (w:World)=>four_any K D D w (by omega) rfl)
 obtain⟨nn,hn⟩:∃n,n=nodeAt A.word x:=⟨_,rfl⟩
 rw[←hn] at hok hb hIH hR hin
 have HHW:=hide (fun (w:World)=>hasWay_any nn (kfour K D) w hok (by omega))
 rw[hb] at HHW
 have HCP:=hide (fun (w:World)=>childPlace_any nn (kfour K D) w hok (by omega))
 have hkid:nn.children+2*ones (kfour K D) nn.ways=nn.kid (kfour K D):=rfl
 rw[hkid] at HCP
 obtain⟨ky,hky⟩:∃ky,ky=nn.kid (kfour K D):=⟨_,rfl⟩
 rw[←hky] at HCP hIH
 have hwD:IntKind.i64.wrap ((D:Int)+1)=((D+1:Nat):Int):=by rw[IntKind.wrap_i64];omega
 have HIH:=hide (fun (z:Int) (hz:z=IntKind.i64.wrap ((D:Int)+1)) (w':World) (h:TabAt w' tb ab wb A)=>(show Calls Tryz.prog 127 #[.pointer (some ⟨tb,0,none⟩),.int .i64 (ky:Nat),.int .i64 z,.agg (prefL K l).toArray] w' (fun e w''=>e=.returned (.tuple #[.bool fo,.bool em])∧TabAt w'' tb ab wb B∧Fr [ab,wb] w' w'') by rw[hz,hwD];exact hIH w' h))
 have h16:=ones_le 16 nn.ways
 obtain⟨nd,hnd⟩:∃nd,nd=nn.dropKid (kfour K D):=⟨_,rfl⟩
 have hndok:nd.ok:=by rw[hnd];exact dropKid_ok hok (by omega)
 have HDK:=hide (fun (w:World) (h:TabAt w tb ab wb B)=>dropChild_any B tb ab wb (kfour K D) nn nd w h hsB hok (by omega) hb (by rw[hBs];exact hin) hnd)
 rw[←hnd] at hR
 obtain⟨C,hC⟩:∃C,C=B.shrink nn.children (2*ones 16 nn.ways) (2*ones (kfour K D) nn.ways) 2:=⟨_,rfl⟩
 have hCs:C.size=B.size:=by rw[hC];unfold Ar.shrink Ar.give;split <;> rfl
 rw[←hC] at HDK hR
 obtain⟨f4,hf4⟩:∃f4,f4=kfour K D:=⟨_,rfl⟩
 rw[←hf4] at HFO HHW HCP HDK hf16
 clear hsd hb hIH hky hnd hC hkid hin hf4 hwD
 have HND:=hide (fun (w:World) (h:TabAt w tb ab wb A)=>node_x A tb ab wb x x nn w h hs rfl hlt.2 hn);have hna:=h.na;have hnw:=h.nw;have hla:=h.ar.la;have hlw:=h.ar.lw;have hltt:=h.lt;obtain⟨wx,hwx⟩:∃wx,wx=w.alloc (.cells (prefL K l).toArray 128):=⟨_,rfl⟩;have bp:wx.heap[w.heap.size]?=some (.cells (prefL K l).toArray 128 (0,0)):=(by rw[hwx];exact heap_alloc_new _ _);have HBX:Below w.heap.size w wx:=(by rw[hwx];exact ext_alloc _ _);have HT:=hide (h.ext HBX);have HBX:=hide HBX;have HWX:=hide hwx;have hsx:=lt_of_block bp;have HN:=hide hn;clear h hwx hn;go_enter Tryz.func127,Tryz.ntmps127;go_wp2_with (first | rw[←HWX.out] | fail);refine(HND.out _ HT.out).mono ?_;rintro e w1 ⟨rfl,hb1⟩;have bn0:=heap_alloc_new w1 (.cells #[.int .u16 nn.routes,.int .u16 nn.ways,.int .i64 nn.hops,.int .i64 nn.children] 142);have bp1:=block_ext bp (ext_trans hb1 (ext_alloc w1 (.cells #[.int .u16 nn.routes,.int .u16 nn.ways,.int .i64 nn.hops,.int .i64 nn.children] 142)));have HT1:=hide (HT.out.ext (ext_trans hb1 (ext_alloc w1 (.cells #[.int .u16 nn.routes,.int .u16 nn.ways,.int .i64 nn.hops,.int .i64 nn.children] 142))));have HB1:=hide (ext_trans HBX.out (ext_trans hb1 (ext_alloc w1 (.cells #[.int .u16 nn.routes,.int .u16 nn.ways,.int .i64 nn.hops,.int .i64 nn.children] 142))));have hs1:=hb1.size;obtain⟨nb,hnb⟩:∃nb,nb=w1.heap.size:=⟨_,rfl⟩;have HNB:=hide hnb;rw[←hnb] at bn0 hs1;clear hb1 hnb
 go_wp2_with (show wpList _ _ _ (⟨_,.load 128 _,_,_,_,_⟩ :: _) _ _;refine wpList_load_whole rfl 128 _ rfl w.heap.size rfl (prefL K l) _ 128 (0,0) (by assumption) Tryz.underlying128 rfl (pref_info K l) ?_)
 refine(HDP.out _).mono ?_
 rintro e w2 ⟨rfl,hb2⟩
 have bp2:=block_ext bp1 hb2;have bn2:=block_ext bn0 hb2;have HTQ:=hide (HT1.out.ext hb2);have HBQ:=hide (ext_trans HB1.out hb2);obtain⟨wq,hwq⟩:∃wz,wz=w2:=⟨_,rfl⟩;subst hwq;obtain⟨pb,hpb⟩:∃pb,pb=w.heap.size:=⟨_,rfl⟩;have HPB:=hide hpb;rw[←hpb] at bp2;have hpbn:pb≠nb:=(by omega);have hwnb:w.heap.size≤nb:=(by omega);have hnt:tb≠nb:=(by omega);have hnba:ab≠nb:=(by omega);have hnbw:wb≠nb:=(by omega);have hns:nb ∉ [ab,wb]:=(by simp;omega);have hps:pb ∉ [ab,wb]:=(by simp;omega);have hts:tb ∉ [ab,wb]:=(by simp;omega);have hlnq:=lt_of_block bn2;have hlpq:=lt_of_block bp2;clear hb2 bp1 bn0 hpb bp
 rw[←HNB.out,←HPB.out]
 go_wp2_with (show wpList _ _ _ (⟨_,.load 126 _,_,_,_,_⟩ :: _) _ _;refine wpList_load_mid rfl 126 _ rfl pb 0 rfl (keyL K) _ (range_pref K l (by assumption)) Tryz.underlying126 rfl (key_info K) ?_)
 refine(HFO.out _).mono ?_
 rintro e w3 ⟨rfl,hb3⟩
 have bn3:=block_ext bn2 hb3
 have bp3:=block_ext bp2 hb3
 obtain⟨k0,k1,k2,k3⟩:=cells4n bn3
 have hl3:=lt_of_block bn3
 have HT3:=hide (HTQ.out.ext hb3)
 have HB3:=hide (ext_trans HBQ.out hb3)
 clear hb3 bp2 bn2 HTQ HBQ
 go_wp2_with fail
 refine(HHW.out _).mono ?_
 rintro e w4 ⟨rfl,hb4⟩
 have bn4:=block_ext bn3 hb4
 have bp4:=block_ext bp3 hb4
 have HTQ:=hide (HT3.out.ext hb4)
 have HBQ:=hide (ext_trans HB3.out hb4)
 clear hb4 bn3 bp3 HT3 HB3 k0 k1 k2 k3 hl3
 obtain⟨wq,hwq⟩:∃wz,wz=w4:=⟨_,rfl⟩
 subst hwq
 have hlnq:=lt_of_block bn4
 have KS:∀w',Fr [ab,wb] wq w'→(fun w':World=>Fr [ab,wb] wq w'∧w'.rangeAt pb 0 (prefL K l)∧w'.cell? ⟨nb,0,none⟩=some (.int .u16 nn.routes)∧w'.cell? ⟨nb,1,none⟩=some (.int .u16 nn.ways)∧w'.cell? ⟨nb,2,none⟩=some (.int .i64 nn.hops)∧w'.cell? ⟨nb,3,none⟩=some (.int .i64 nn.children)) w':=fun w' hf=>⟨hf,range_whole K l (hf.at bp4 hps),cells4n (hf.at bn4 hns)⟩
 simp only[] at KS
 go_wp2_with fail
 refine wp_region_held_drew (S:=(fun w':World=>Fr [ab,wb] wq w'∧w'.rangeAt pb 0 (prefL K l)∧w'.cell? ⟨nb,0,none⟩=some (.int .u16 nn.routes)∧w'.cell? ⟨nb,1,none⟩=some (.int .u16 nn.ways)∧w'.cell? ⟨nb,2,none⟩=some (.int .i64 nn.hops)∧w'.cell? ⟨nb,3,none⟩=some (.int .i64 nn.children))) (by kernel_rfl) (KS _ (fr_below (drew_ext wq))) (fun hHeld=>?_)
 (refine wpAnyH_take (i:=0) (oi:=_) (v:=?_) rfl (by kernel_rfl) (by kernel_rfl) (by kernel_rfl) (fun _ _ _ h=>h) (Or.inl ⟨by rfl,?_⟩) (by assumption) ?_;rotate_left;(intro w hSw;(try dsimp only at hSw);go_simp;try with_reducible rfl);(try simp only[Act.put]);(try simp only[List.getElem_toArray]);(try simp only[List.getElem_cons_succ]);(try simp only[List.getElem_cons_zero]);(try simp only[List.setIfInBounds_toArray]))
 (refine wpAnyH_take (i:=1) (oi:=_) (v:=?_) rfl (by kernel_rfl) (by kernel_rfl) (by kernel_rfl) (fun _ _ _ h=>h) (Or.inl ⟨by rfl,?_⟩) (by assumption) ?_;rotate_left;(intro w hSw;(try dsimp only at hSw);go_simp;try with_reducible rfl);(try simp only[Act.put]);(try simp only[List.getElem_toArray]);(try simp only[List.getElem_cons_succ]);(try simp only[List.getElem_cons_zero]);(try simp only[List.setIfInBounds_toArray]))
 (refine wpAnyH_take (i:=2) (oi:=_) (v:=?_) rfl (by kernel_rfl) (by kernel_rfl) (by kernel_rfl) (fun _ _ _ h=>h) (Or.inl ⟨by rfl,?_⟩) (by assumption) ?_;rotate_left;(intro w hSw;(try dsimp only at hSw);go_simp;try with_reducible rfl);(try simp only[Act.put]);(try simp only[List.getElem_toArray]);(try simp only[List.getElem_cons_succ]);(try simp only[List.getElem_cons_zero]);(try simp only[List.setIfInBounds_toArray]))
 (refine wpAnyH_take (i:=4) (oi:=_) (v:=?_) rfl (by kernel_rfl) (by kernel_rfl) (by kernel_rfl) (fun _ _ _ h=>h) (Or.inl ⟨by rfl,?_⟩) (by assumption) ?_;rotate_left;(intro w hSw;(try dsimp only at hSw);go_simp;try with_reducible rfl);(try simp only[Act.put]);(try simp only[List.getElem_toArray]);(try simp only[List.getElem_cons_succ]);(try simp only[List.getElem_cons_zero]);(try simp only[List.setIfInBounds_toArray]))
 (refine wpAnyH_take (i:=5) (oi:=_) (v:=?_) rfl (by kernel_rfl) (by kernel_rfl) (by kernel_rfl) (fun _ _ _ h=>h) (Or.inl ⟨by rfl,?_⟩) (by assumption) ?_;rotate_left;(intro w hSw;(try dsimp only at hSw);go_simp;try with_reducible rfl);(try simp only[Act.put]);(try simp only[List.getElem_toArray]);(try simp only[List.getElem_cons_succ]);(try simp only[List.getElem_cons_zero]);(try simp only[List.setIfInBounds_toArray]))
 (refine wpAnyH_take (i:=6) (oi:=_) (v:=_) rfl (by kernel_rfl) (by kernel_rfl) (by kernel_rfl) (fun _ _ _ h=>h) (yieldsIf_load_mid (by rfl) _ _ rfl _ _ rfl (prefL K l) _ (fun w hSw=>hSw.2.1) Tryz.underlying128 rfl (pref_info K l)) (by assumption) ?_;(try simp only[Act.put]);(try simp only[List.getElem_toArray]);(try simp only[List.getElem_cons_succ]);(try simp only[List.getElem_cons_zero]);(try simp only[List.setIfInBounds_toArray]))
 ((refine wpAnyH_ready (rs:=[3]) (by kernel_rfl) (by simp) ?_);(refine AllReadyH.cons (o:=_) rfl (fun K hK=>?_) ?_);rotate_left;exact AllReadyH.nil)
 go_simp
 go_at_call 74
 refine(HCP.out _).mono ?_
 rintro e w5 ⟨rfl,hb5⟩
 have S5:=(ext_trans (drew_ext wq) hb5:Below wq.heap.size wq w5)
 clear hb5
 go_wp2_with fail
 (refine hK.out _ _ (KS _ (fr_below S5)) (fun hHeld=>?_);clear hK K;(try simp only[Act.put]);(try simp only[List.getElem_toArray]);(try simp only[List.getElem_cons_succ]);(try simp only[List.getElem_cons_zero]);(try simp only[List.setIfInBounds_toArray]))
 ((refine wpAnyH_ready (rs:=[7]) (by kernel_rfl) (by simp) ?_);(refine AllReadyH.cons (o:=_) rfl (fun K hK=>?_) ?_);rotate_left;exact AllReadyH.nil)
 go_simp
 go_at_call 127
 refine(HIH.out _ rfl _ (HTQ.out.ext S5)).mono ?_
 rintro e w6 ⟨rfl,hT6,hF6⟩
 have F6:=(Fr.after (fr_below S5) hF6 (fun y hy=>Or.inl hy):Fr [ab,wb] wq w6)
 clear hF6
 go_wp2_with fail
 (refine hK.out _ _ (KS _ F6) (fun hHeld=>?_);clear hK K;(try simp only[Act.put]);(try simp only[List.getElem_toArray]);(try simp only[List.getElem_cons_succ]);(try simp only[List.getElem_cons_zero]);(try simp only[List.setIfInBounds_toArray]))
 (refine wpAnyH_take (i:=8) (oi:=_) (v:=?_) rfl (by kernel_rfl) (by kernel_rfl) (by kernel_rfl) (fun _ _ _ h=>h) (Or.inl ⟨by rfl,?_⟩) (by assumption) ?_;rotate_left;(intro w hSw;(try dsimp only at hSw);go_simp;try with_reducible rfl);(try simp only[Act.put]);(try simp only[List.getElem_toArray]);(try simp only[List.getElem_cons_succ]);(try simp only[List.getElem_cons_zero]);(try simp only[List.setIfInBounds_toArray]))
 (refine wpAnyH_take (i:=9) (oi:=_) (v:=?_) rfl (by kernel_rfl) (by kernel_rfl) (by kernel_rfl) (fun _ _ _ h=>h) (Or.inl ⟨by rfl,?_⟩) (by assumption) ?_;rotate_left;(intro w hSw;(try dsimp only at hSw);go_simp;try with_reducible rfl);(try simp only[Act.put]);(try simp only[List.getElem_toArray]);(try simp only[List.getElem_cons_succ]);(try simp only[List.getElem_cons_zero]);(try simp only[List.setIfInBounds_toArray]))
 (refine wpAnyH_take (i:=10) (oi:=_) (v:=?_) rfl (by kernel_rfl) (by kernel_rfl) (by kernel_rfl) (fun _ _ _ h=>h) (Or.inl ⟨by rfl,?_⟩) (by assumption) ?_;rotate_left;(intro w hSw;(try dsimp only at hSw);go_simp;try with_reducible rfl);(try simp only[Act.put]);(try simp only[List.getElem_toArray]);(try simp only[List.getElem_cons_succ]);(try simp only[List.getElem_cons_zero]);(try simp only[List.setIfInBounds_toArray]))
 (refine wpAnyH_take (i:=11) (oi:=_) (v:=?_) rfl (by kernel_rfl) (by kernel_rfl) (by kernel_rfl) (fun _ _ _ h=>h) (Or.inl ⟨by rfl,?_⟩) (by assumption) ?_;rotate_left;(intro w hSw;(try dsimp only at hSw);go_simp;try with_reducible rfl);(try simp only[Act.put]);(try simp only[List.getElem_toArray]);(try simp only[List.getElem_cons_succ]);(try simp only[List.getElem_cons_zero]);(try simp only[List.setIfInBounds_toArray]))
 (refine wpAnyH_take (i:=12) (oi:=_) (v:=?_) rfl (by kernel_rfl) (by kernel_rfl) (by kernel_rfl) (fun _ _ _ h=>h) (Or.inl ⟨by rfl,?_⟩) (by assumption) ?_;rotate_left;(intro w hSw;(try dsimp only at hSw);go_simp;try with_reducible rfl);(try simp only[Act.put]);(try simp only[List.getElem_toArray]);(try simp only[List.getElem_cons_succ]);(try simp only[List.getElem_cons_zero]);(try simp only[List.setIfInBounds_toArray]))
 (refine wpAnyH_done (by kernel_rfl) ?_ _)
 have bn6:=F6.at bn4 hns
 have HT6:=hide hT6
 have HF6:=hide (Fr.after (fr_below HBQ.out) F6 (fun y hy=>Or.inl hy):Fr [ab,wb] w w6)
 clear KS S5 F6 hHeld bn4 bp4 HTQ HBQ hT6
 cases em with
 | false =>
  simp only[Bool.false_eq_true,if_false] at hR
  subst hR
  go_wp2
  go_ret2
  exact⟨rfl,HT6.out,HF6.out⟩
 | true =>
  simp only[if_true] at hR
  subst hR
  obtain⟨k0,k1,k2,k3,k4,k5,k6,k7⟩:=cells4 bn6
  have hl6:=lt_of_block bn6
  go_wp2_with fail
  refine(HDK.out _ HT6.out).mono ?_
  rintro e w7 ⟨rfl,hT7,hF7⟩
  have b7:=hF7.at bn6 hns
  obtain⟨g0,g1,g2,g3,g4,g5,g6,g7⟩:=cells4 b7
  have bd:=store4 (c0:=.int .u16 nd.routes) (c1:=.int .u16 nd.ways) (c2:=.int .i64 nd.hops) (c3:=.int .i64 nd.children) b7
  have hTd:=hT7.set4 (b:=nb) (v0:=.int .u16 nd.routes) (v1:=.int .u16 nd.ways) (v2:=.int .i64 nd.hops) (v3:=.int .i64 nd.children) hnt hnba hnbw
  have hFd:=(Fr.after HF6.out hF7 (fun y hy=>Or.inl hy):Fr [ab,wb] w w7).set4 (b:=nb) (v0:=.int .u16 nd.routes) (v1:=.int .u16 nd.ways) (v2:=.int .i64 nd.hops) (v3:=.int .i64 nd.children) (Or.inr hwnb)
  obtain⟨wq,hwq⟩:∃wz,wz=((((w7.setCell ⟨nb,0,none⟩ (.int .u16 nd.routes)).setCell ⟨nb,1,none⟩ (.int .u16 nd.ways)).setCell ⟨nb,2,none⟩ (.int .i64 nd.hops)).setCell ⟨nb,3,none⟩ (.int .i64 nd.children)):=⟨_,rfl⟩
  rw[←hwq] at bd hTd hFd
  have HWQ:=hide hwq
  have HTW:=hide hTd
  have HFD:=hide hFd
  have hlb:=lt_of_block bd
  have hltq:=hTd.lt
  have hnw1:nb ∉ [wb]:=by simpa using hnbw.symm
  have htw1:tb ∉ [wb]:=by simpa using hnw
  have KS:∀w',Fr [wb] wq w'→(fun w':World=>Fr [wb] wq w'∧w'.cell? ⟨tb,0,none⟩=some (.pointer (some ⟨ab,0,none⟩))∧w'.cell? ⟨nb,0,none⟩=some (.int .u16 nd.routes)∧w'.cell? ⟨nb,1,none⟩=some (.int .u16 nd.ways)∧w'.cell? ⟨nb,2,none⟩=some (.int .i64 nd.hops)∧w'.cell? ⟨nb,3,none⟩=some (.int .i64 nd.children)) w':=fun w' hf=>⟨hf,HTW.out.frw hf htw1,cells4n (hf.at bd hnw1)⟩
  simp only[] at KS
  have hl7:=lt_of_block b7
  clear hTd hFd hwq b7 hT7 hF7 bn6 k0 k1 k2 k3 k4 k5 k6 k7
  go_wp2_with fail
  rw[←HWQ.out]
  clear g0 g1 g2 g3 g4 g5 g6 g7
  go_region_held3 (fun w':World=>Fr [wb] wq w'∧w'.cell? ⟨tb,0,none⟩=some (.pointer (some ⟨ab,0,none⟩))∧w'.cell? ⟨nb,0,none⟩=some (.int .u16 nd.routes)∧w'.cell? ⟨nb,1,none⟩=some (.int .u16 nd.ways)∧w'.cell? ⟨nb,2,none⟩=some (.int .i64 nd.hops)∧w'.cell? ⟨nb,3,none⟩=some (.int .i64 nd.children)) (with_reducible (first | assumption | exact KS _ (fr_below (drew_ext wq)) | exact KS _ (by assumption) | exact KS _ (fr_below (by assumption)) | exact KS _ (fr_below (ext_trans (by assumption) (ext_alloc _ _))) | exact KS _ (fr_below (Below.drew (ext_alloc _ _))) | exact KS _ (Fr.alloc (by assumption) _) | (refine KS _ (Fr.setCell (Fr.setCell (by assumption) (Or.inr ?_) _) (Or.inr ?_) _) <;> first | assumption | exact Nat.le_refl _))) ((go_at_call 121;refine(writeNode_any C ab wb _ x nd _ HTW.out.ar.drew hndok rfl (by omega)).mono ?_;rintro e w8 ⟨rfl,hA8,hF8⟩;have F8:=(Fr.after (fr_below (drew_ext wq)) hF8 (fun y hy=>Or.inl hy):Fr [wb] wq w8);clear hF8))
  have bd8:=F8.at bd hnw1
  obtain⟨k0,k1,k2,k3⟩:=cells4n bd8
  have HT8:=hide (HTW.out.of F8 htw1 hA8)
  have HF8:=hide (Fr.after HFD.out F8 (fun y hy=>Or.inl (by simp at hy ⊢;exact Or.inr hy)):Fr [ab,wb] w w8)
  have hl8:=lt_of_block bd8
  clear F8 hA8 KS bd bd8
  go_wp2_with fail
  refine(empty_any nd _).mono ?_
  rintro e w9 ⟨rfl,hb9⟩
  have HX:=hide (And.intro (HT8.out.ext hb9) (Fr.after HF8.out (fr_below (S:=[]) hb9) (fun y hy=>by cases hy):Fr [ab,wb] w w9))
  clear hb9
  go_wp2
  go_ret2
  exact⟨rfl,HX.out.1,HX.out.2⟩
end Go.Proofs.YtnapboelfimaaaaGreatDoor
namespace Go.Proofs.YtnapboelfimaaaaGreatDoor
structure OpD where
 code:Int
 family:Int
 bits:ByteArray
 len:Int
 hop:Int
structure Ans where
 err:Int
 hop:Int
 reads:Int
def prefFault (f:Int) (s:ByteArray) (l:Int):Int :=
 if famBytes f=0 then 3 else if l<0∨8*(famBytes f:Int)<l then 4 else if s.size=famBytes f∧keyNum s%2^(136-l.toNat)=0 then 0 else 5
def addrFault (f:Int) (s:ByteArray):Int:=if famBytes f=0 then 3 else if s.size=famBytes f then 0 else 5
def hopFault (h:Int):Int:=if 0≤h∧h≤65535 then 0 else 6
def opFault (o:OpD):Int :=
 if o.code=1 then (if prefFault o.family o.bits o.len=0 then hopFault o.hop else prefFault o.family o.bits o.len)
 else if o.code=2 then prefFault o.family o.bits o.len
 else if o.code=3 then addrFault o.family o.bits
 else if o.code=4 then 0 else 2
structure St where
 A:Ar
 M:Bool→Tab
structure St.ok (S:St):Prop where
 inv:∃F,Inv S.A F S.M
 wok:WOk S.A.word
 hops:∀q l v h,S.M q l v=some h→h≤65535
def fam (f:Int):Bool:=decide (f=6)
def OpD.key (o:OpD):Nat:=keyNum o.bits
def OpD.l (o:OpD):Nat:=o.len.toNat
def OpD.v (o:OpD):Nat:=fitK o.key o.l
def St.put (S:St) (o:OpD) (r:Ar × Bool):St × Ans:=if r.2 then (⟨r.1,updM S.M (fam o.family) o.l o.v (some o.hop.toNat)⟩,⟨0,0,0⟩) else (⟨r.1,S.M⟩,⟨8,0,0⟩)
def St.del (S:St) (o:OpD) (r:Ar × Bool):St × Ans:=if r.2 then (⟨r.1,updM S.M (fam o.family) o.l o.v none⟩,⟨0,0,0⟩) else (⟨r.1,S.M⟩,⟨7,0,0⟩)
def lookAns (W:Nat→Nat) (q:Bool) (K:Nat) (o:Option Nat):Ans :=
 match o with
 | some h=>⟨0,h,readsN W q K true⟩
 | none=>⟨7,0,readsN W q K false⟩
def St.step (S:St) (o:OpD):St × Ans :=
 if opFault o=0 then
  if o.code=1 then S.put o (insN S.A (fam o.family) o.l o.v o.hop.toNat)
  else if o.code=2 then S.del o (delN S.A (fam o.family) o.l o.v)
  else if o.code=3 then (S,lookAns S.A.word (fam o.family) o.key (hopN S.M (fam o.family) o.key))
  else (⟨compactN S.A.word S.A.size,S.M⟩,⟨0,0,0⟩)
 else (S,⟨opFault o,0,0⟩)
def St.new (n:Nat):St:=⟨newAr n,noTab⟩
theorem new_ok {n:Nat} (h1:2048≤n) (h2:n≤65536):(St.new n).ok:=⟨⟨_,inv_new h1 h2⟩,fun a=>by show (0:Nat)<_;decide,fun q l v h e=>by cases e⟩
theorem fam_bits {f:Int} (h:famBytes f≠0):8+4*dp (fam f)=8*famBytes f:=by
 unfold famBytes at h ⊢
 unfold fam dp
 by_cases h4:f=4
 ·subst h4;decide
 ·by_cases h6:f=6
  ·subst h6;decide
  ·simp[h4,h6] at h
structure PrefOk (o:OpD):Prop where
 size:o.bits.size=famBytes o.family
 famok:famBytes o.family≠0
 len0:0≤o.len
 len:o.l≤8+4*dp (fam o.family)
 v:o.v<2^o.l
 zero:o.key%2^(136-o.l)=0
theorem pref_ok {o:OpD} (h:prefFault o.family o.bits o.len=0):PrefOk o:=by
 unfold prefFault at h
 split at h
 ·cases h
 ·rename_i h1
  split at h
  ·cases h
  ·rename_i h2
   split at h
   ·rename_i h3
    have hl:o.l≤8+4*dp (fam o.family):=by rw[fam_bits h1];unfold OpD.l;omega
    have hd:=dp_le (Go.Proofs.YtnapboelfimaaaaGreatDoor.fam o.family)
    exact⟨h3.1,h1,by omega,hl,fit_lt (keyNum_lt _) (by omega),h3.2⟩
   ·cases h
theorem fault_ins {o:OpD} (hc:o.code=1) (h:opFault o=0):PrefOk o∧0≤o.hop∧o.hop≤65535:=by
 unfold opFault at h
 rw[if_pos hc] at h
 split at h
 ·rename_i h1
  refine⟨pref_ok h1,?_⟩
  unfold hopFault at h
  split at h
  ·assumption
  ·cases h
 ·rename_i h1;exact absurd h h1
theorem fault_del {o:OpD} (hc:o.code=2) (h:opFault o=0):PrefOk o:=by
 unfold opFault at h
 rw[if_neg (by omega),if_pos hc] at h
 exact pref_ok h
theorem fault_look {o:OpD} (hc:o.code=3) (h:opFault o=0):o.bits.size=famBytes o.family∧famBytes o.family≠0:=by
 unfold opFault at h
 rw[if_neg (by omega),if_neg (by omega),if_pos hc] at h
 unfold addrFault at h
 split at h
 ·cases h
 ·rename_i h1
  split at h
  ·exact⟨by assumption,h1⟩
  ·cases h
theorem fault_code {o:OpD} (h:opFault o=0):o.code=1∨o.code=2∨o.code=3∨o.code=4:=by
 unfold opFault at h
 by_cases h1:o.code=1
 ·exact Or.inl h1
 ·by_cases h2:o.code=2
  ·exact Or.inr (Or.inl h2)
  ·by_cases h3:o.code=3
   ·exact Or.inr (Or.inr (Or.inl h3))
   ·by_cases h4:o.code=4
    ·exact Or.inr (Or.inr (Or.inr h4))
    ·rw[if_neg h1,if_neg h2,if_neg h3,if_neg h4] at h;cases h
theorem fault_small (o:OpD):0≤opFault o∧opFault o≤6:=by
 unfold opFault prefFault hopFault addrFault
 repeat (first | omega | split)
theorem updM_hops {M:Bool→Tab} (h:∀q l v h,M q l v=some h→h≤65535) (q:Bool) (l v:Nat) (o:Option Nat) (ho:∀x,o=some x→x≤65535):∀p l' v' x,updM M q l v o p l' v'=some x→x≤65535:=by
 intro p l' v' x hx
 unfold updM at hx
 split at hx
 ·unfold updT at hx
  split at hx
  ·exact ho x hx
  ·exact h _ _ _ _ hx
 ·exact h _ _ _ _ hx
theorem step_ok {S:St} (h:S.ok) (o:OpD):(S.step o).1.ok∧(S.step o).1.A.size=S.A.size:=by
 obtain⟨F,hI⟩:=h.inv
 unfold St.step
 by_cases hf:opFault o=0
 ·rw[if_pos hf]
  rcases fault_code hf with hc | hc | hc | hc
  ·obtain⟨hp,h0,h1⟩:=fault_ins hc hf
   rw[if_pos hc]
   have hw:=insN_wok hI h.wok (fam o.family) (x:=o.hop.toNat) hp.len hp.v (by omega)
   rcases insN_ok hI (fam o.family) (x:=o.hop.toNat) hp.len hp.v with ⟨e,_⟩ | ⟨B,F',e,hB,hs⟩
   ·rw[e] at hw ⊢
    exact⟨⟨⟨F,hI⟩,hw,h.hops⟩,rfl⟩
   ·rw[e] at hw ⊢
    exact⟨⟨⟨F',hB⟩,hw,updM_hops h.hops _ _ _ _ (fun x hx=>by cases hx;omega)⟩,hs⟩
  ·have hp:=fault_del hc hf
   rw[if_neg (by omega),if_pos hc]
   have hw:=delN_wok hI h.wok (fam o.family) hp.len hp.v
   obtain⟨B,F',e,hB,hs⟩:=delN_ok hI (fam o.family) hp.len hp.v
   rw[e] at hw ⊢
   unfold St.del
   cases hm:S.M (fam o.family) o.l o.v with
   | none =>
    rw[updM_id hm] at hB
    exact⟨⟨⟨F',hB⟩,hw,h.hops⟩,hs⟩
   | some x=>exact⟨⟨⟨F',hB⟩,hw,updM_hops h.hops _ _ _ _ (fun x hx=>by cases hx)⟩,hs⟩
  ·rw[if_neg (by omega),if_neg (by omega),if_pos hc]
   exact⟨h,rfl⟩
  ·rw[if_neg (by omega),if_neg (by omega),if_neg (by omega)]
   obtain⟨h1,h2⟩:=compactInv hI
   exact⟨⟨⟨_,h1⟩,compactN_wok (hI.src h.wok),h.hops⟩,h2⟩
 ·rw[if_neg hf]
  exact⟨h,rfl⟩
theorem step_full {S:St} (h:S.ok) {o:OpD} (he:(S.step o).2.err=8):o.code=1∧(S.step o).1=S∧S.A.size<64*(count2 S.M+1)+1280:=by
 obtain⟨F,hI⟩:=h.inv
 unfold St.step at he ⊢
 by_cases hf:opFault o=0
 ·rw[if_pos hf] at he ⊢
  rcases fault_code hf with hc | hc | hc | hc
  ·obtain⟨hp,h0,h1⟩:=fault_ins hc hf
   rw[if_pos hc] at he ⊢
   rcases insN_ok hI (fam o.family) (x:=o.hop.toNat) hp.len hp.v with ⟨e,h2⟩ | ⟨B,F',e,hB,hs⟩
   ·rw[e]
    exact⟨hc,rfl,by omega⟩
   ·rw[e] at he
    cases he
  ·have hp:=fault_del hc hf
   rw[if_neg (by omega),if_pos hc] at he
   obtain⟨B,F',e,hB,hs⟩:=delN_ok hI (fam o.family) hp.len hp.v
   rw[e] at he
   unfold St.del at he
   cases hm:S.M (fam o.family) o.l o.v with
   | none=>rw[hm] at he;cases he
   | some x=>rw[hm] at he;cases he
  ·rw[if_neg (by omega),if_neg (by omega),if_pos hc] at he
   unfold lookAns at he
   split at he <;> cases he
  ·rw[if_neg (by omega),if_neg (by omega),if_neg (by omega)] at he
   cases he
 ·rw[if_neg hf] at he
  have:=fault_small o
  have he':opFault o=8:=he
  omega
def mNext (M:Bool→Tab) (o:OpD):Bool→Tab :=
 if opFault o=0 then (if o.code=1 then updM M (fam o.family) o.l o.v (some o.hop.toNat) else if o.code=2 then updM M (fam o.family) o.l o.v none else M) else M
def mErr (M:Bool→Tab) (o:OpD):Int :=
 if opFault o=0 then (if o.code=2 then (if (M (fam o.family) o.l o.v).isSome then 0 else 7) else if o.code=3 then (if (hopN M (fam o.family) o.key).isSome then 0 else 7) else 0) else opFault o
def mHop (M:Bool→Tab) (o:OpD):Int:=if opFault o=0∧o.code=3 then (match hopN M (fam o.family) o.key with | some h=>(h:Int) | none=>0) else 0
theorem step_m {S:St} (h:S.ok) {o:OpD} (he:(S.step o).2.err≠8):(S.step o).1.M=mNext S.M o∧(S.step o).2.err=mErr S.M o∧(S.step o).2.hop=mHop S.M o:=by
 obtain⟨F,hI⟩:=h.inv
 unfold St.step at he ⊢
 unfold mNext mErr mHop
 by_cases hf:opFault o=0
 ·simp only[hf,if_true,true_and] at he ⊢
  rcases fault_code hf with hc | hc | hc | hc
  ·obtain⟨hp,h0,h1⟩:=fault_ins hc hf
   rw[if_pos hc] at he
   rw[if_pos hc,if_pos hc,if_neg (show ¬o.code=2 by omega),if_neg (show ¬o.code=3 by omega),if_neg (show ¬o.code=3 by omega)]
   rcases insN_ok hI (fam o.family) (x:=o.hop.toNat) hp.len hp.v with ⟨e,_⟩ | ⟨B,F',e,hB,hs⟩
   ·rw[e] at he
    exact absurd rfl he
   ·rw[e]
    exact⟨rfl,rfl,rfl⟩
  ·have hp:=fault_del hc hf
   simp only[if_false,hc,if_true,show ¬(2:Int)=3 by omega,show ¬(2:Int)=1 by omega] at he ⊢
   obtain⟨B,F',e,hB,hs⟩:=delN_ok hI (fam o.family) hp.len hp.v
   rw[e]
   unfold St.del
   cases hm:S.M (fam o.family) o.l o.v with
   | none =>
    rw[updM_id hm]
    refine⟨?_,?_,?_⟩ <;> trivial
   | some x=>refine⟨?_,?_,?_⟩ <;> trivial
  ·simp only[hc,if_true,show ¬(3:Int)=1 by omega,show ¬(3:Int)=2 by omega,if_false]
   unfold lookAns
   cases hopN S.M (fam o.family) o.key with
   | none=>refine⟨?_,?_,?_⟩ <;> trivial
   | some x=>refine⟨?_,?_,?_⟩ <;> trivial
  ·simp only[hc,show ¬(4:Int)=1 by omega,show ¬(4:Int)=2 by omega,show ¬(4:Int)=3 by omega,if_false]
   refine⟨?_,?_,?_⟩ <;> trivial
 ·simp only[hf,if_false,false_and]
  refine⟨?_,?_,?_⟩ <;> trivial
theorem step_reads {S:St} {o:OpD} (hf:opFault o=0) (hc:o.code=3):1≤(S.step o).2.reads∧(S.step o).2.reads≤dp (fam o.family)+3:=by
 unfold St.step
 rw[if_pos hf,if_neg (by omega),if_neg (by omega),if_pos hc]
 unfold lookAns
 cases hopN S.M (fam o.family) o.key with
 | none=>have:=readsN_le S.A.word (fam o.family) o.key false;simp only;omega
 | some x=>have:=readsN_le S.A.word (fam o.family) o.key true;simp only;omega
def St.run (S:St):List OpD→St × List Ans
 | []=>(S,[])
 | o :: os=>(((S.step o).1.run os).1,(S.step o).2 :: ((S.step o).1.run os).2)
theorem run_ok {S:St} (h:S.ok):∀os,(S.run os).1.ok∧(S.run os).1.A.size=S.A.size∧(S.run os).2.length=os.length
 | []=>⟨h,rfl,rfl⟩
 | o :: os=>by
  obtain⟨h1,h2⟩:=step_ok h o
  obtain⟨h3,h4,h5⟩:=run_ok h1 os
  exact⟨h3,h4.trans h2,by simp[St.run,h5]⟩
end Go.Proofs.YtnapboelfimaaaaGreatDoor
namespace Go.Proofs.YtnapboelfimaaaaGreatDoor
open Go.RowKit Go.Deep
theorem remove_end {M:Tab} {K l tb ab wb d D u x m:Nat} {A:Ar} {F:Nat→List Nat} (hl:l≤128) (hG:Good A F m) (hm:m≤2000) (hO:OnF A F M d (8+4*D) u x) (h1:8+4*D≤l) (h3:l<8+4*D+4) (R:Ar × Bool × Bool) (hR:removeN l (fitK K l) d (8+4*D) A x=R) (w:World) (h:TabAt w tb ab wb A):Calls Tryz.prog 127 #[.pointer (some ⟨tb,0,none⟩),.int .i64 (x:Nat),.int .i64 (D:Nat),.agg (prefL K l).toArray] w fun e w'=>e=.returned (.tuple #[.bool R.2.1,.bool R.2.2])∧TabAt w' tb ab wb R.1∧Fr [ab,wb] w w':=by
 unfold removeN at hR
 rw[if_pos h3] at hR
 by_cases hb:(nodeAt A.word x).routes.testBit (pnum l (fitK K l) (8+4*D))=true
 ·rw[if_pos hb] at hR
  exact remove_here tb ab wb K l D x d u m A F M w h hG (by omega) hO h1 hl h3 hb R hR.symm
 ·rw[if_neg hb] at hR
  exact remove_not tb ab wb K l D x d u m A F M w h hG (by omega) hO h1 hl h3 (by simpa using hb) R hR.symm
theorem remove_any {M:Tab} {L K l tb ab wb:Nat} (hT:TabOk L M) (hL:L≤128) (hl:l≤128):∀(d D u x m:Nat) (A:Ar) (F:Nat→List Nat),Good A F m→m≤2000→d≤30→OnF A F M d (8+4*D) u x→8+4*D≤l→l≤8+4*D+4*d+3→fitK K l/2^(l-(8+4*D))=u→∀R,removeN l (fitK K l) d (8+4*D) A x=R→∀w,TabAt w tb ab wb A→Calls Tryz.prog 127 #[.pointer (some ⟨tb,0,none⟩),.int .i64 (x:Nat),.int .i64 (D:Nat),.agg (prefL K l).toArray] w fun e w'=>e=.returned (.tuple #[.bool R.2.1,.bool R.2.2])∧TabAt w' tb ab wb R.1∧Fr [ab,wb] w w':=by
 intro d
 induction d with
 | zero =>
  intro D u x m A F hG hm _ hO h1 h3 h2 R hR w h
  exact remove_end hl hG hm hO h1 (by omega) R hR w h
 | succ d ih =>
  intro D u x m A F hG hm hd30 hO h1 h3 h2 R hR w h
  by_cases hlt:l<8+4*D+4
  ·exact remove_end hl hG hm hO h1 hlt R hR w h
  ·unfold removeN at hR
   rw[if_neg hlt] at hR
   simp only[] at hR
   by_cases hb:(nodeAt A.word x).ways.testBit (fourV l (fitK K l) (8+4*D))=true
   ·rw[if_pos hb] at hR
    have hO2:=hO.kid (fourV_lt l (fitK K l) (8+4*D)) hb
    have hnext:=fourV_next (l:=l) (v:=fitK K l) (len:=8+4*D) (by omega) h2
    have e4:8+4*D+4=8+4*(D+1):=by omega
    rw[e4] at hO2 hnext hR
    have kw:=removeN_wok (v:=fitK K l) hT hL d (8+4*(D+1)) _ _ A F m hG hO2 (by omega) (by omega) hnext
    have kf:=removeN_free l (fitK K l) d (8+4*(D+1)) A ((nodeAt A.word x).kid (fourV l (fitK K l) (8+4*D)))
    have kr:=remove_ok (l:=l) (v:=fitK K l) hT hL d (8+4*(D+1)) _ _ A F hG.ok hO2.rep (by omega) (by omega) hnext (fun a=>by have:=hO2.apart a;omega) (by have:=hO2.apart 0;rw[edge_low (by omega)] at this;omega)
    have hih:=fun w' h'=>ih (D+1) _ _ m A F hG hm (by omega) hO2 (by omega) (by omega) hnext _ rfl w' h'
    cases e:removeN l (fitK K l) d (8+4*(D+1)) A ((nodeAt A.word x).kid (fourV l (fitK K l) (8+4*D))) with
    | mk B r =>
     obtain⟨fo,em⟩:=r
     rw[e] at kw kf kr hR hih
     simp only[] at kw kf hR hih
     have hsz:B.size=A.size:=kf.2.2.1
     have hsB:Sane B:=by
      rcases kr with ⟨_,q⟩ | ⟨_,B',F',q,R⟩
      ·simp only[Prod.mk.injEq] at q
       rw[q.1]
       exact hG.sane (by omega)
      ·simp only[Prod.mk.injEq] at q
       obtain⟨rfl,_,_⟩:=q
       exact(removed_good hG hO2 R kw kf.1 kf.2.1).sane (by omega)
     exact remove_kid tb ab wb K l D x (d+1) u m A F M w h hG (by omega) hO h1 hl (by omega) hb B fo em hsB hsz hih R hR.symm
   ·rw[if_neg hb] at hR
    exact remove_noway tb ab wb K l D x (d+1) u m A F M w h hG (by omega) hO h1 hl (by omega) (by simpa using hb) R hR.symm
end Go.Proofs.YtnapboelfimaaaaGreatDoor
