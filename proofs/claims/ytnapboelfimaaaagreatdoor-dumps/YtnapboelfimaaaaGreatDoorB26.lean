/- No1, No2, No3, DmL: parts of the proof, one behind the other. -/
import Derived.Test.YtnapboelfimaaaaGreatDoorB10
import Derived.Test.YtnapboelfimaaaaGreatDoorB20
import Derived.Test.YtnapboelfimaaaaGreatDoorB25
namespace Go.Proofs.YtnapboelfimaaaaGreatDoor
open Go.RowKit Go.Deep
theorem key_range {K:Nat} {w:World} {b:Nat} {t:TypeId} {fz:Nat × Nat} (h:w.heap[b]?=some (.cells (keyL K).toArray t fz)):w.rangeAt b 0 (keyL K):=fun j v hj=>by
 rw[cell_at h,List.getElem?_toArray,Nat.zero_add]
 exact hj
structure Boxes (nn:NodeD) (K D nb kb db pb rb:Nat) (w:World):Prop where
 node:w.heap[nb]?=some (.cells #[.int .u16 nn.routes,.int .u16 nn.ways,.int .i64 nn.hops,.int .i64 nn.children] 142 (0,0))
 key:w.heap[kb]?=some (.cells (keyL K).toArray 126 (0,0))
 depth:w.heap[db]?=some (.cells #[.int .i64 (D:Int)] 3 (0,0))
 dump:w.heap[pb]?=some (.cells #[.pointer (some ⟨rb,0,none⟩)] 119 (0,0))
theorem Boxes.ext {nn:NodeD} {K D nb kb db pb rb:Nat} {w w':World} (h:Boxes nn K D nb kb db pb rb w) (hb:Below w.heap.size w w'):Boxes nn K D nb kb db pb rb w':=⟨block_ext h.node hb,block_ext h.key hb,block_ext h.depth hb,block_ext h.dump hb⟩
theorem Boxes.dfr {nn:NodeD} {K D nb kb db pb rb:Nat} {w w':World} (h:Boxes nn K D nb kb db pb rb w) (hb:DFr rb w w') (hn:nb≠rb∧kb≠rb∧db≠rb∧pb≠rb):Boxes nn K D nb kb db pb rb w' :=
 ⟨hb.block _ _ h.node hn.1 (fun _ e=>by cases e),hb.block _ _ h.key hn.2.1 (fun _ e=>by cases e),hb.block _ _ h.depth hn.2.2.1 (fun _ e=>by cases e),hb.block _ _ h.dump hn.2.2.2 (fun _ e=>by cases e)⟩
set_option maxHeartbeats 2000000 in
set_option maxRecDepth 10000 in
theorem nbegin_any (A:Ar) (M:Tab) (ab wb rb:Nat) (f:Int) (n:Nat) (w0:World) (hD:DumpOk A ab wb rb w0) (hs:Sane A) (hrb:rb<w0.heap.size) (hfn:famBytes f=n) (d D u x:Nat) (hO:On A M d (8+4*D) u x) (hDm:D≤30) (fu v:Nat) (hfu:fu<4) (hv:v<2^fu) (nn:NodeD) (hnn:nn=nodeAt A.word x) (K:Nat) (hK:K=u*2^(128-4*D)) (nb kb db pb:Nat) (L:List (Nat × Nat × Nat)) (hL:(L++gbN M (8+4*D) u fu v).length≤4194304) (w:World) (h:DumpAt ab rb f n w0 L w) (hB:Boxes nn K D nb kb db pb rb w) :
  Calls Tryz.prog 67 #[.int .i64 (fu:Int),.int .i64 (v:Int),.pointer (some ⟨nb,0,none⟩),.pointer (some ⟨kb,0,none⟩),.pointer (some ⟨db,0,none⟩),.pointer (some ⟨pb,0,none⟩)] w fun e w'=>e=.returned (.tuple #[])∧DumpAt ab rb f n w0 (L++gbN M (8+4*D) u fu v) w'∧DFr rb w w':=by
 have hok:nn.ok:=by rw[hnn];exact hO.ok
 have hv8:v<8:=Nat.lt_of_lt_of_le hv (Nat.pow_le_pow_right (n:=2) (by decide) (by omega):2^fu≤2^3)
 obtain⟨k,hk⟩:∃k,k=2^fu-1+v:=⟨_,rfl⟩
 have hk15:k≤15:=by
  have h1:2^fu≤2^3:=Nat.pow_le_pow_right (by decide) (by omega)
  rw[hk]
  omega
 have hbit:nn.routes.testBit k=(M (8+4*D+fu) (u*2^fu+v)).isSome:=by
  rw[hnn,hk]
  exact hO.rep.node.route fu v (by omega) hv
 obtain⟨f4,hf4⟩:∃f4,f4=v*2^(4-fu):=⟨_,rfl⟩
 have hf16:f4<16:=by
  rw[hf4]
  have h1:v*2^(4-fu)<2^fu*2^(4-fu):=Nat.mul_lt_mul_of_pos_right hv (Nat.two_pow_pos _)
  rw[←Nat.pow_add,show fu+(4-fu)=4 by omega] at h1
  exact h1
 have ESH:((v:Int)*2^(4-fu))=(f4:Int):=by rw[hf4];norm_cast
 obtain⟨m0,m1,m2,m3,_,_,_,_⟩:=cells4 hB.node
 have hln:=lt_of_block hB.node
 have HNO:=hide (numberOf_any fu v w (by omega) (by omega))
 rw[←hk] at HNO
 have HH:=hide h
 have HB:=hide hB
 have HK:=hide hk
 have HF:=hide hf4
 have HNN:=hide hnn
 have HBIT:=hide hbit
 have HKK:=hide hK
 have HOO:=hide hO
 have HL:=hide hL
 have HSH:=hide ESH
 clear h hB hk hf4 hnn hbit hK ESH hO hL
 go_enter Tryz.func67,Tryz.ntmps67
 go_wp2_with fail
 refine HNO.out.mono ?_
 rintro e w1 ⟨rfl,rfl⟩
 go_wp2_with fail
 refine(hasRoute_any nn k _ hok hk15).mono ?_
 rintro e wq ⟨rfl,hb6⟩
 rw[HBIT.out]
 have HD6:=hide (And.intro (HH.out.ext hb6) (And.intro (DFr.ext hb6:DFr rb w1 wq) (HB.out.ext hb6)))
 clear hb6
 cases hM:M (8+4*D+fu) (u*2^fu+v) with
 | none =>
  have HG:=hide (gb_none hM)
  clear hM
  go_wp2
  go_end0
  rw[HG.out,List.append_nil]
  exact⟨rfl,HD6.out.1,HD6.out.2.1⟩
 | some hop =>
  have HG:=hide (gb_some hM)
  have HM:=hide hM
  clear hM
  have hbk:=HD6.out.2.2.key
  have hbd:=HD6.out.2.2.depth
  have KS:∀w',Below wq.heap.size wq w'→(fun w':World=>w'.rangeAt kb 0 (keyL K)∧w'.cell? ⟨db,0,none⟩=some (.int .i64 (D:Int))) w':=fun w' hf=>⟨key_range (block_ext hbk hf),by rw[cell_at (block_ext hbd hf)];rfl⟩
  simp only[] at KS
  go_wp2_with fail
  obtain⟨K2,hK2⟩:∃K2,K2=withK K D f4:=⟨_,rfl⟩
  obtain⟨l,hl⟩:∃l,l=8+4*D+fu:=⟨_,rfl⟩
  have E4:IntKind.i64.wrap (4-(fu:Int))=((4-fu:Nat):Int):=by rw[IntKind.wrap_i64];omega
  obtain⟨d4,hd4⟩:∃d4,d4=4*D:=⟨_,rfl⟩
  obtain⟨d8,hd8⟩:∃d8,d8=8+d4:=⟨_,rfl⟩
  have ESW:IntKind.i64.wrap ((v:Int)*2^(4-fu))=(f4:Int):=by rw[HSH.out,IntKind.wrap_i64];omega
  have EL1:IntKind.i64.wrap ((D:Int)*4)=(d4:Int):=by rw[IntKind.wrap_i64];omega
  have EL2:IntKind.i64.wrap (8+(d4:Int))=(d8:Int):=by rw[IntKind.wrap_i64];omega
  have EL3:IntKind.i64.wrap ((d8:Int)+(fu:Int))=(l:Int):=by rw[IntKind.wrap_i64];omega
  have HWI:=hide (fun (w:World)=>with_any K D f4 w (by omega) hf16 (by rw[HKK.out];exact key_zero D u))
  rw[←hK2] at HWI
  have HK2:=hide hK2
  have HLL:=hide (show l=8+4*D+fu from hl)
  clear hK2 hl hd4 hd8
  go_cut [9] (fun v wc=>∃qb,v=.pointer (some ⟨qb,0,none⟩)∧wq.heap.size≤qb∧wc.heap[qb]?=some (.cells (prefL K2 l).toArray 128 (0,0))∧Below wq.heap.size wq wc)
  case first =>
   refine wp_region_held_drew (S:=(fun w':World=>w'.rangeAt kb 0 (keyL K)∧w'.cell? ⟨db,0,none⟩=some (.int .i64 (D:Int)))) (by kernel_rfl) (KS _ (drew_ext wq)) (fun hHeld=>?_)
   (refine wpAnyH_take (i:=0) (oi:=_) (v:=_) rfl (by kernel_rfl) (by kernel_rfl) (by kernel_rfl) (fun _ _ _ h=>h) (yieldsIf_load_mid (by rfl) _ _ rfl _ _ rfl (keyL K) _ (fun w hSw=>hSw.1) Tryz.underlying126 rfl (key_info K)) (by assumption) ?_;(try simp only[Act.put]);(try simp only[List.getElem_toArray]);(try simp only[List.getElem_cons_succ]);(try simp only[List.getElem_cons_zero]);(try simp only[List.setIfInBounds_toArray]))
   (refine wpAnyH_take (i:=1) (oi:=_) (v:=?_) rfl (by kernel_rfl) (by kernel_rfl) (by kernel_rfl) (fun _ _ _ h=>h) (Or.inl ⟨by rfl,?_⟩) (by assumption) ?_;rotate_left;(intro w hSw;(try dsimp only at hSw);go_simp;try with_reducible rfl);(try simp only[Act.put]);(try simp only[List.getElem_toArray]);(try simp only[List.getElem_cons_succ]);(try simp only[List.getElem_cons_zero]);(try simp only[List.setIfInBounds_toArray]))
   (refine wpAnyH_take (i:=2) (oi:=_) (v:=?_) rfl (by kernel_rfl) (by kernel_rfl) (by kernel_rfl) (fun _ _ _ h=>h) (Or.inl ⟨by rfl,?_⟩) (by assumption) ?_;rotate_left;(intro w hSw;(try dsimp only at hSw);go_simp;try with_reducible rfl);(try simp only[Act.put]);(try simp only[List.getElem_toArray]);(try simp only[List.getElem_cons_succ]);(try simp only[List.getElem_cons_zero]);(try simp only[List.setIfInBounds_toArray]))
   (refine wpAnyH_take (i:=3) (oi:=_) (v:=?_) rfl (by kernel_rfl) (by kernel_rfl) (by kernel_rfl) (fun _ _ _ h=>h) (Or.inl ⟨by rfl,?_⟩) (by assumption) ?_;rotate_left;(intro w hSw;(try dsimp only at hSw);go_simp;try with_reducible rfl);(try simp only[Act.put]);(try simp only[List.getElem_toArray]);(try simp only[List.getElem_cons_succ]);(try simp only[List.getElem_cons_zero]);(try simp only[List.setIfInBounds_toArray]))
   (refine wpAnyH_take (i:=4) (oi:=_) (v:=?_) rfl (by kernel_rfl) (by kernel_rfl) (by kernel_rfl) (fun _ _ _ h=>h) (Or.inl ⟨by rfl,?_⟩) (by assumption) ?_;rotate_left;(intro w hSw;(try dsimp only at hSw);go_simp;try with_reducible rfl);(try simp only[Act.put]);(try simp only[List.getElem_toArray]);(try simp only[List.getElem_cons_succ]);(try simp only[List.getElem_cons_zero]);(try simp only[List.setIfInBounds_toArray]))
   (refine wpAnyH_take (i:=5) (oi:=_) (v:=?_) rfl (by kernel_rfl) (by kernel_rfl) (by kernel_rfl) (fun _ _ _ h=>h) (Or.inl ⟨by rfl,?_⟩) (by assumption) ?_;rotate_left;(intro w hSw;(try dsimp only at hSw);go_simp;try with_reducible rfl);(try simp only[Act.put]);(try simp only[List.getElem_toArray]);(try simp only[List.getElem_cons_succ]);(try simp only[List.getElem_cons_zero]);(try simp only[List.setIfInBounds_toArray]))
   (refine wpAnyH_take (i:=7) (oi:=_) (v:=?_) rfl (by kernel_rfl) (by kernel_rfl) (by kernel_rfl) (fun _ _ _ h=>h) (Or.inl ⟨by rfl,?_⟩) (by assumption) ?_;rotate_left;(intro w hSw;(try dsimp only at hSw);go_simp;try with_reducible rfl);(try simp only[Act.put]);(try simp only[List.getElem_toArray]);(try simp only[List.getElem_cons_succ]);(try simp only[List.getElem_cons_zero]);(try simp only[List.setIfInBounds_toArray]))
   (refine wpAnyH_take (i:=8) (oi:=_) (v:=?_) rfl (by kernel_rfl) (by kernel_rfl) (by kernel_rfl) (fun _ _ _ h=>h) (Or.inl ⟨by rfl,?_⟩) (by assumption) ?_;rotate_left;(intro w hSw;(try dsimp only at hSw);go_simp;try with_reducible rfl);(try simp only[Act.put]);(try simp only[List.getElem_toArray]);(try simp only[List.getElem_cons_succ]);(try simp only[List.getElem_cons_zero]);(try simp only[List.setIfInBounds_toArray]))
   (refine wpAnyH_take (i:=9) (oi:=_) (v:=?_) rfl (by kernel_rfl) (by kernel_rfl) (by kernel_rfl) (fun _ _ _ h=>h) (Or.inl ⟨by rfl,?_⟩) (by assumption) ?_;rotate_left;(intro w hSw;(try dsimp only at hSw);go_simp;try with_reducible rfl);(try simp only[Act.put]);(try simp only[List.getElem_toArray]);(try simp only[List.getElem_cons_succ]);(try simp only[List.getElem_cons_zero]);(try simp only[List.setIfInBounds_toArray]))
   (refine wpAnyH_take (i:=10) (oi:=_) (v:=?_) rfl (by kernel_rfl) (by kernel_rfl) (by kernel_rfl) (fun _ _ _ h=>h) (Or.inl ⟨by rfl,?_⟩) (by assumption) ?_;rotate_left;(intro w hSw;(try dsimp only at hSw);go_simp;try with_reducible rfl);(try simp only[Act.put]);(try simp only[List.getElem_toArray]);(try simp only[List.getElem_cons_succ]);(try simp only[List.getElem_cons_zero]);(try simp only[List.setIfInBounds_toArray]))
   (refine wpAnyH_take (i:=11) (oi:=_) (v:=?_) rfl (by kernel_rfl) (by kernel_rfl) (by kernel_rfl) (fun _ _ _ h=>h) (Or.inl ⟨by rfl,?_⟩) (by assumption) ?_;rotate_left;(intro w hSw;(try dsimp only at hSw);go_simp;try with_reducible rfl);(try simp only[Act.put]);(try simp only[List.getElem_toArray]);(try simp only[List.getElem_cons_succ]);(try simp only[List.getElem_cons_zero]);(try simp only[List.setIfInBounds_toArray]))
   (refine wpAnyH_ready (rs:=[6,13]) (by kernel_rfl) (by simp) ?_)
   (refine AllReadyH.cons (o:=_) rfl (fun KK hK=>?_) ?_)
   ·go_simp
    go_at_call 70
    refine(HWI.out _).mono ?_
    rintro e w5 ⟨rfl,hb5⟩
    have S5:=(ext_trans (drew_ext wq) hb5:Below wq.heap.size wq w5)
    have z5:=S5.size
    clear hb5
    go_wp2_with fail
    (refine hK.out _ _ (KS _ S5) (fun hHeld=>?_);clear hK KK;(try simp only[Act.put]);(try simp only[List.getElem_toArray]);(try simp only[List.getElem_cons_succ]);(try simp only[List.getElem_cons_zero]);(try simp only[List.setIfInBounds_toArray]))
    (refine wpAnyH_take (i:=12) (oi:=_) (v:=_) rfl (by kernel_rfl) (by kernel_rfl) (by kernel_rfl) (fun _ _ _ h=>h) (yieldsIf_build_pref (by rfl) _ _ rfl K2 l rfl rfl) (by assumption) ?_;(try simp only[Act.put]);(try simp only[List.getElem_toArray]);(try simp only[List.getElem_cons_succ]);(try simp only[List.getElem_cons_zero]);(try simp only[List.setIfInBounds_toArray]))
    ((refine wpAnyH_ready (rs:=[13]) (by kernel_rfl) (by simp) ?_);(refine AllReadyH.cons (o:=_) rfl (fun KK hK=>?_) ?_);rotate_left;exact AllReadyH.nil)
    go_simp
    (refine hK.out _ _ (KS _ (ext_trans S5 (ext_alloc _ _))) (fun hHeld=>?_);clear hK KK;(try simp only[Act.put]);(try simp only[List.getElem_toArray]);(try simp only[List.getElem_cons_succ]);(try simp only[List.getElem_cons_zero]);(try simp only[List.setIfInBounds_toArray]))
    ((refine wpAnyH_ready (rs:=[14]) (by kernel_rfl) (by simp) ?_);(refine AllReadyH.cons (o:=_) rfl (fun KK hK=>?_) ?_);rotate_left;exact AllReadyH.nil)
    rw[if_pos (by rfl)]
    refine wp_store_whole 128 _ _ rfl w5.heap.size (prefL K2 l) rfl rfl 128 _ (heap_alloc_new _ _) (pref_info K2 l) rfl (pref_one K2 l) ?_
    intro w6 b6 hF6
    have S6:=own_fr (ext_trans S5 (ext_alloc _ _)) hF6 z5
    (refine hK.out _ _ (KS _ S6) (fun hHeld=>?_);clear hK KK;(try simp only[Act.put]);(try simp only[List.getElem_toArray]);(try simp only[List.getElem_cons_succ]);(try simp only[List.getElem_cons_zero]);(try simp only[List.setIfInBounds_toArray]))
    (refine wpAnyH_done (by kernel_rfl) ?_ _)
    go_wp2_with fail
    go_meet
    case rel=>exact⟨w5.heap.size,rfl,z5,b6,S6⟩
   ·(refine AllReadyH.cons (o:=_) rfl (fun KK hK=>?_) ?_)
    ·go_simp
     (refine hK.out _ _ (KS _ (Below.drew (ext_alloc _ _))) (fun hHeld=>?_);clear hK KK;(try simp only[Act.put]);(try simp only[List.getElem_toArray]);(try simp only[List.getElem_cons_succ]);(try simp only[List.getElem_cons_zero]);(try simp only[List.setIfInBounds_toArray]))
     ((refine wpAnyH_ready (rs:=[6]) (by kernel_rfl) (by simp) ?_);(refine AllReadyH.cons (o:=_) rfl (fun KK hK=>?_) ?_);rotate_left;exact AllReadyH.nil)
     go_simp
     go_at_call 70
     refine(HWI.out _).mono ?_
     rintro e w5 ⟨rfl,hb5⟩
     have S5:=(ext_trans (Below.drew (ext_alloc _ _)) hb5:Below wq.heap.size wq w5)
     have b5:=new_drew hb5
     clear hb5
     go_wp2_with fail
     (refine hK.out _ _ (KS _ S5) (fun hHeld=>?_);clear hK KK;(try simp only[Act.put]);(try simp only[List.getElem_toArray]);(try simp only[List.getElem_cons_succ]);(try simp only[List.getElem_cons_zero]);(try simp only[List.setIfInBounds_toArray]))
     (refine wpAnyH_take (i:=12) (oi:=_) (v:=_) rfl (by kernel_rfl) (by kernel_rfl) (by kernel_rfl) (fun _ _ _ h=>h) (yieldsIf_build_pref (by rfl) _ _ rfl K2 l rfl rfl) (by assumption) ?_;(try simp only[Act.put]);(try simp only[List.getElem_toArray]);(try simp only[List.getElem_cons_succ]);(try simp only[List.getElem_cons_zero]);(try simp only[List.setIfInBounds_toArray]))
     ((refine wpAnyH_ready (rs:=[14]) (by kernel_rfl) (by simp) ?_);(refine AllReadyH.cons (o:=_) rfl (fun KK hK=>?_) ?_);rotate_left;exact AllReadyH.nil)
     rw[if_pos (by rfl)]
     refine wp_store_whole 128 _ _ rfl wq.heap.size (prefL K2 l) rfl rfl 128 _ b5 (pref_info K2 l) rfl (pref_one K2 l) ?_
     intro w6 b6 hF6
     have S6:=own_fr S5 hF6 (Nat.le_refl _)
     (refine hK.out _ _ (KS _ S6) (fun hHeld=>?_);clear hK KK;(try simp only[Act.put]);(try simp only[List.getElem_toArray]);(try simp only[List.getElem_cons_succ]);(try simp only[List.getElem_cons_zero]);(try simp only[List.setIfInBounds_toArray]))
     (refine wpAnyH_done (by kernel_rfl) ?_ _)
     go_wp2_with fail
     go_meet
     case rel=>exact⟨wq.heap.size,rfl,Nat.le_refl _,b6,S6⟩
    ·exact AllReadyH.nil
  case rest =>
   obtain⟨qb,rfl,hpq,bp,hBc⟩:=hcut
   have hDc:=HD6.out.1.ext hBc
   have hFc:DFr rb w1 wc:=HD6.out.2.1.trans (DFr.ext hBc)
   have hBx:=HD6.out.2.2.ext hBc
   obtain⟨g0,g1,g2,g3,_,_,_,_⟩:=cells4 hBx.node
   have hln:=lt_of_block hBx.node
   have HOP:=HM.out
   have hpp:A.word (nn.hops+ones k nn.routes)=hop:=by
    rw[HNN.out,HK.out]
    exact HOO.out.rep.node.hop fu v hop (by omega) hv HOP
   have hpin:nn.hops+ones k nn.routes<A.size:=by
    have hbit:=HBIT.out
    rw[HOP,HNN.out] at hbit
    rw[HNN.out]
    exact(HOO.out.hop_in (i:=k) (by omega) hbit).2
   have KS3:∀w',DFr rb wc w'→(fun w':World=>w'.cell? ⟨pb,0,none⟩=some (.pointer (some ⟨rb,0,none⟩))∧w'.rangeAt qb 0 (prefL K2 l)∧w'.cell? ⟨nb,0,none⟩=some (.int .u16 nn.routes)∧w'.cell? ⟨nb,1,none⟩=some (.int .u16 nn.ways)∧w'.cell? ⟨nb,2,none⟩=some (.int .i64 nn.hops)∧w'.cell? ⟨nb,3,none⟩=some (.int .i64 nn.children)) w':=fun w' hf=>by
    obtain⟨kc,rc,hrc,_⟩:=hDc.blk
    have b1:=hf.block _ _ hBx.dump (ty_ne hBx.dump hrc (by decide)) (fun _ e=>by cases e)
    have b2:=hf.block _ _ bp (ty_ne bp hrc (by decide)) (fun _ e=>by cases e)
    have b3:=hf.block _ _ hBx.node (ty_ne hBx.node hrc (by decide)) (fun _ e=>by cases e)
    obtain⟨c0,c1,c2,c3,_,_,_,_⟩:=cells4 b3
    exact⟨by rw[cell_at b1];rfl,range_whole K2 l b2,c0,c1,c2,c3⟩
   simp only[] at KS3
   have HC:=hide (And.intro hDc (And.intro hFc hBx))
   have HP:=hide (And.intro hpin hpp)
   clear KS hbk hbd hDc hFc hBx HOP hpp hpin hBc ESW EL1 EL2 EL3 E4
   go_wp2_with fail
   refine wp_region_held_drew (S:=(fun w':World=>w'.cell? ⟨pb,0,none⟩=some (.pointer (some ⟨rb,0,none⟩))∧w'.rangeAt qb 0 (prefL K2 l)∧w'.cell? ⟨nb,0,none⟩=some (.int .u16 nn.routes)∧w'.cell? ⟨nb,1,none⟩=some (.int .u16 nn.ways)∧w'.cell? ⟨nb,2,none⟩=some (.int .i64 nn.hops)∧w'.cell? ⟨nb,3,none⟩=some (.int .i64 nn.children))) (by kernel_rfl) (KS3 _ (DFr.ext (drew_ext wc))) (fun hHeld=>?_)
   (refine wpAnyH_take (i:=0) (oi:=_) (v:=?_) rfl (by kernel_rfl) (by kernel_rfl) (by kernel_rfl) (fun _ _ _ h=>h) (Or.inl ⟨by rfl,?_⟩) (by assumption) ?_;rotate_left;(intro w hSw;(try dsimp only at hSw);go_simp;try with_reducible rfl);(try simp only[Act.put]);(try simp only[List.getElem_toArray]);(try simp only[List.getElem_cons_succ]);(try simp only[List.getElem_cons_zero]);(try simp only[List.setIfInBounds_toArray]))
   (refine wpAnyH_take (i:=1) (oi:=_) (v:=_) rfl (by kernel_rfl) (by kernel_rfl) (by kernel_rfl) (fun _ _ _ h=>h) (yieldsIf_load_mid (by rfl) _ _ rfl _ _ rfl (prefL K2 l) _ (fun w hSw=>hSw.2.1) Tryz.underlying128 rfl (pref_info K2 l)) (by assumption) ?_;(try simp only[Act.put]);(try simp only[List.getElem_toArray]);(try simp only[List.getElem_cons_succ]);(try simp only[List.getElem_cons_zero]);(try simp only[List.setIfInBounds_toArray]))
   (refine wpAnyH_take (i:=2) (oi:=_) (v:=?_) rfl (by kernel_rfl) (by kernel_rfl) (by kernel_rfl) (fun _ _ _ h=>h) (Or.inl ⟨by rfl,?_⟩) (by assumption) ?_;rotate_left;(intro w hSw;(try dsimp only at hSw);go_simp;try with_reducible rfl);(try simp only[Act.put]);(try simp only[List.getElem_toArray]);(try simp only[List.getElem_cons_succ]);(try simp only[List.getElem_cons_zero]);(try simp only[List.setIfInBounds_toArray]))
   (refine wpAnyH_take (i:=3) (oi:=_) (v:=?_) rfl (by kernel_rfl) (by kernel_rfl) (by kernel_rfl) (fun _ _ _ h=>h) (Or.inl ⟨by rfl,?_⟩) (by assumption) ?_;rotate_left;(intro w hSw;(try dsimp only at hSw);go_simp;try with_reducible rfl);(try simp only[Act.put]);(try simp only[List.getElem_toArray]);(try simp only[List.getElem_cons_succ]);(try simp only[List.getElem_cons_zero]);(try simp only[List.setIfInBounds_toArray]))
   ((refine wpAnyH_ready (rs:=[4]) (by kernel_rfl) (by simp) ?_);(refine AllReadyH.cons (o:=_) rfl (fun KK hK=>?_) ?_);rotate_left;exact AllReadyH.nil)
   go_simp
   go_at_call 71
   refine(hopPlace_any nn k _ hok hk15).mono ?_
   rintro e w5 ⟨rfl,hb5⟩
   have S5:=(ext_trans (drew_ext wc) hb5:Below wc.heap.size wc w5)
   clear hb5
   go_wp2_with fail
   (refine hK.out _ _ (KS3 _ (DFr.ext S5)) (fun hHeld=>?_);clear hK KK;(try simp only[Act.put]);(try simp only[List.getElem_toArray]);(try simp only[List.getElem_cons_succ]);(try simp only[List.getElem_cons_zero]);(try simp only[List.setIfInBounds_toArray]))
   ((refine wpAnyH_ready (rs:=[5]) (by kernel_rfl) (by simp) ?_);(refine AllReadyH.cons (o:=_) rfl (fun KK hK=>?_) ?_);rotate_left;exact AllReadyH.nil)
   go_simp
   go_at_call 59
   refine(tell_any A ab wb rb f n w0 hD hs hrb hfn K2 l (nn.hops+ones k nn.routes) hop _ rfl HP.out.1 HP.out.2.symm L (by have:=HL.out;rw[HG.out,List.length_append] at this;exact this) _ (HC.out.1.ext S5) (8+4*D+fu,u*2^fu+v,hop) ?_).mono ?_
   ·unfold rdOf
    rw[←beg_key hDm (by omega),HK2.out,HKK.out,HF.out,HLL.out]
   rintro e w6 ⟨rfl,hD6,hF6⟩
   have F6:DFr rb wc w6:=(DFr.ext S5).trans hF6
   have HE:=hide (And.intro hD6 (HC.out.2.1.trans F6))
   clear hD6 hF6
   go_wp2_with fail
   (refine hK.out _ _ (KS3 _ F6) (fun hHeld=>?_);clear hK KK;(try simp only[Act.put]);(try simp only[List.getElem_toArray]);(try simp only[List.getElem_cons_succ]);(try simp only[List.getElem_cons_zero]);(try simp only[List.setIfInBounds_toArray]))
   (refine wpAnyH_done (by kernel_rfl) ?_ _)
   go_wp2_with fail
   go_end0
   rw[HG.out]
   exact⟨rfl,HE.out.1,HE.out.2⟩
end Go.Proofs.YtnapboelfimaaaaGreatDoor
namespace Go.Proofs.YtnapboelfimaaaaGreatDoor
open Go.RowKit Go.Deep
set_option maxHeartbeats 2000000 in
set_option maxRecDepth 10000 in
theorem neach_any (ab rb:Nat) (f:Int) (n:Nat) (w0:World) (D:Nat) (hDm:D≤30) (v:Nat) (hv:v<16) (nn:NodeD) (hok:nn.ok) (K:Nat) (hK:K%2^(128-4*D)=0) (nb kb db pb:Nat) (L E:List (Nat × Nat × Nat)) (h0:nn.ways.testBit v=false→E=[]) (w:World) (h:DumpAt ab rb f n w0 L w) (hB:Boxes nn K D nb kb db pb rb w)
  (hIH:∀w:World,nn.ways.testBit v=true→DumpAt ab rb f n w0 L w→Calls Tryz.prog 61 #[.pointer (some ⟨rb,0,none⟩),.int .i64 ((nn.children+2*ones v nn.ways:Nat):Int),.int .i64 ((D+1:Nat):Int),.agg (keyL (withK K D v)).toArray] w fun e w'=>e=.returned (.tuple #[])∧DumpAt ab rb f n w0 (L++E) w'∧DFr rb w w') :
  Calls Tryz.prog 72 #[.int .i64 (v:Int),.pointer (some ⟨nb,0,none⟩),.pointer (some ⟨pb,0,none⟩),.pointer (some ⟨db,0,none⟩),.pointer (some ⟨kb,0,none⟩)] w fun e w'=>e=.returned (.tuple #[])∧DumpAt ab rb f n w0 (L++E) w'∧DFr rb w w':=by
 obtain⟨m0,m1,m2,m3,_,_,_,_⟩:=cells4 hB.node
 have hln:=lt_of_block hB.node
 have HH:=hide h
 have HB:=hide hB
 have HIH:=hide hIH
 clear h hB hIH
 go_enter Tryz.func72,Tryz.ntmps72
 go_wp2_with fail
 refine(hasWay_any nn v _ hok (by omega)).mono ?_
 rintro e wc ⟨rfl,hb6⟩
 have HD6:=hide (And.intro (HH.out.ext hb6) (And.intro (DFr.ext hb6:DFr rb w wc) (HB.out.ext hb6)))
 clear hb6
 cases hbit:nn.ways.testBit v with
 | false =>
  have HE:=hide (h0 hbit)
  clear h0 hbit
  go_wp2
  go_end0
  rw[HE.out,List.append_nil]
  exact⟨rfl,HD6.out.1,HD6.out.2.1⟩
 | true =>
  have HC:=hide (fun (w:World) (hd:DumpAt ab rb f n w0 L w)=>HIH.out w hbit hd)
  obtain⟨K2,hK2⟩:∃K2,K2=withK K D v:=⟨_,rfl⟩
  obtain⟨ch,hch⟩:∃ch,ch=nn.children+2*ones v nn.ways:=⟨_,rfl⟩
  obtain⟨D1,hD1⟩:∃D1,D1=D+1:=⟨_,rfl⟩
  have HWI:=hide (fun (w:World)=>with_any K D v w (by omega) hv hK)
  have HCP:=hide (fun (w:World)=>childPlace_any nn v w hok (by omega))
  rw[←hK2] at HWI HC
  rw[←hch] at HCP HC
  rw[←hD1] at HC
  have E1:IntKind.i64.wrap ((D:Int)+1)=(D1:Int):=by rw[IntKind.wrap_i64];omega
  have hBx:=HD6.out.2.2
  have hDc:=HD6.out.1
  have KS:∀w',DFr rb wc w'→(fun w':World=>w'.cell? ⟨pb,0,none⟩=some (.pointer (some ⟨rb,0,none⟩))∧w'.rangeAt kb 0 (keyL K)∧w'.cell? ⟨db,0,none⟩=some (.int .i64 (D:Int))∧w'.cell? ⟨nb,0,none⟩=some (.int .u16 nn.routes)∧w'.cell? ⟨nb,1,none⟩=some (.int .u16 nn.ways)∧w'.cell? ⟨nb,2,none⟩=some (.int .i64 nn.hops)∧w'.cell? ⟨nb,3,none⟩=some (.int .i64 nn.children)) w':=fun w' hf=>by
   obtain⟨kc,rc,hrc,_⟩:=hDc.blk
   have b1:=hf.block _ _ hBx.dump (ty_ne hBx.dump hrc (by decide)) (fun _ e=>by cases e)
   have b2:=hf.block _ _ hBx.key (ty_ne hBx.key hrc (by decide)) (fun _ e=>by cases e)
   have b3:=hf.block _ _ hBx.node (ty_ne hBx.node hrc (by decide)) (fun _ e=>by cases e)
   have b4:=hf.block _ _ hBx.depth (ty_ne hBx.depth hrc (by decide)) (fun _ e=>by cases e)
   obtain⟨c0,c1,c2,c3,_,_,_,_⟩:=cells4 b3
   exact⟨by rw[cell_at b1];rfl,key_range b2,by rw[cell_at b4];rfl,c0,c1,c2,c3⟩
  simp only[] at KS
  clear hBx hDc hK2 hch hD1 hbit m0 m1 m2 m3 h0
  go_wp2_with fail
  refine wp_region_held_drew (S:=(fun w':World=>w'.cell? ⟨pb,0,none⟩=some (.pointer (some ⟨rb,0,none⟩))∧w'.rangeAt kb 0 (keyL K)∧w'.cell? ⟨db,0,none⟩=some (.int .i64 (D:Int))∧w'.cell? ⟨nb,0,none⟩=some (.int .u16 nn.routes)∧w'.cell? ⟨nb,1,none⟩=some (.int .u16 nn.ways)∧w'.cell? ⟨nb,2,none⟩=some (.int .i64 nn.hops)∧w'.cell? ⟨nb,3,none⟩=some (.int .i64 nn.children))) (by kernel_rfl) (KS _ (DFr.ext (drew_ext wc))) (fun hHeld=>?_)
  (refine wpAnyH_take (i:=0) (oi:=_) (v:=?_) rfl (by kernel_rfl) (by kernel_rfl) (by kernel_rfl) (fun _ _ _ h=>h) (Or.inl ⟨by rfl,?_⟩) (by assumption) ?_;rotate_left;(intro w hSw;(try dsimp only at hSw);go_simp;try with_reducible rfl);(try simp only[Act.put]);(try simp only[List.getElem_toArray]);(try simp only[List.getElem_cons_succ]);(try simp only[List.getElem_cons_zero]);(try simp only[List.setIfInBounds_toArray]))
  (refine wpAnyH_take (i:=1) (oi:=_) (v:=?_) rfl (by kernel_rfl) (by kernel_rfl) (by kernel_rfl) (fun _ _ _ h=>h) (Or.inl ⟨by rfl,?_⟩) (by assumption) ?_;rotate_left;(intro w hSw;(try dsimp only at hSw);go_simp;try with_reducible rfl);(try simp only[Act.put]);(try simp only[List.getElem_toArray]);(try simp only[List.getElem_cons_succ]);(try simp only[List.getElem_cons_zero]);(try simp only[List.setIfInBounds_toArray]))
  (refine wpAnyH_take (i:=2) (oi:=_) (v:=?_) rfl (by kernel_rfl) (by kernel_rfl) (by kernel_rfl) (fun _ _ _ h=>h) (Or.inl ⟨by rfl,?_⟩) (by assumption) ?_;rotate_left;(intro w hSw;(try dsimp only at hSw);go_simp;try with_reducible rfl);(try simp only[Act.put]);(try simp only[List.getElem_toArray]);(try simp only[List.getElem_cons_succ]);(try simp only[List.getElem_cons_zero]);(try simp only[List.setIfInBounds_toArray]))
  (refine wpAnyH_take (i:=4) (oi:=_) (v:=?_) rfl (by kernel_rfl) (by kernel_rfl) (by kernel_rfl) (fun _ _ _ h=>h) (Or.inl ⟨by rfl,?_⟩) (by assumption) ?_;rotate_left;(intro w hSw;(try dsimp only at hSw);go_simp;try with_reducible rfl);(try simp only[Act.put]);(try simp only[List.getElem_toArray]);(try simp only[List.getElem_cons_succ]);(try simp only[List.getElem_cons_zero]);(try simp only[List.setIfInBounds_toArray]))
  (refine wpAnyH_take (i:=5) (oi:=_) (v:=?_) rfl (by kernel_rfl) (by kernel_rfl) (by kernel_rfl) (fun _ _ _ h=>h) (Or.inl ⟨by rfl,?_⟩) (by assumption) ?_;rotate_left;(intro w hSw;(try dsimp only at hSw);go_simp;try with_reducible rfl);(try simp only[Act.put]);(try simp only[List.getElem_toArray]);(try simp only[List.getElem_cons_succ]);(try simp only[List.getElem_cons_zero]);(try simp only[List.setIfInBounds_toArray]))
  (refine wpAnyH_take (i:=6) (oi:=_) (v:=_) rfl (by kernel_rfl) (by kernel_rfl) (by kernel_rfl) (fun _ _ _ h=>h) (yieldsIf_load_mid (by rfl) _ _ rfl _ _ rfl (keyL K) _ (fun w hSw=>hSw.2.1) Tryz.underlying126 rfl (key_info K)) (by assumption) ?_;(try simp only[Act.put]);(try simp only[List.getElem_toArray]);(try simp only[List.getElem_cons_succ]);(try simp only[List.getElem_cons_zero]);(try simp only[List.setIfInBounds_toArray]))
  (refine wpAnyH_take (i:=7) (oi:=_) (v:=?_) rfl (by kernel_rfl) (by kernel_rfl) (by kernel_rfl) (fun _ _ _ h=>h) (Or.inl ⟨by rfl,?_⟩) (by assumption) ?_;rotate_left;(intro w hSw;(try dsimp only at hSw);go_simp;try with_reducible rfl);(try simp only[Act.put]);(try simp only[List.getElem_toArray]);(try simp only[List.getElem_cons_succ]);(try simp only[List.getElem_cons_zero]);(try simp only[List.setIfInBounds_toArray]))
  (refine wpAnyH_take (i:=8) (oi:=_) (v:=?_) rfl (by kernel_rfl) (by kernel_rfl) (by kernel_rfl) (fun _ _ _ h=>h) (Or.inl ⟨by rfl,?_⟩) (by assumption) ?_;rotate_left;(intro w hSw;(try dsimp only at hSw);go_simp;try with_reducible rfl);(try simp only[Act.put]);(try simp only[List.getElem_toArray]);(try simp only[List.getElem_cons_succ]);(try simp only[List.getElem_cons_zero]);(try simp only[List.setIfInBounds_toArray]))
  ((refine wpAnyH_ready (rs:=[3]) (by kernel_rfl) (by simp) ?_);(refine AllReadyH.cons (o:=_) rfl (fun KK hK=>?_) ?_);rotate_left;exact AllReadyH.nil)
  go_simp
  go_at_call 74
  refine(HCP.out _).mono ?_
  rintro e w5 ⟨rfl,hb5⟩
  have S5:=(ext_trans (drew_ext wc) hb5:Below wc.heap.size wc w5)
  clear hb5
  go_wp2_with fail
  (refine hK.out _ _ (KS _ (DFr.ext S5)) (fun hHeld=>?_);clear hK KK;(try simp only[Act.put]);(try simp only[List.getElem_toArray]);(try simp only[List.getElem_cons_succ]);(try simp only[List.getElem_cons_zero]);(try simp only[List.setIfInBounds_toArray]))
  ((refine wpAnyH_ready (rs:=[9]) (by kernel_rfl) (by simp) ?_);(refine AllReadyH.cons (o:=_) rfl (fun KK hK=>?_) ?_);rotate_left;exact AllReadyH.nil)
  go_simp
  go_at_call 70
  refine(HWI.out _).mono ?_
  rintro e w6 ⟨rfl,hb6⟩
  have S6:=(ext_trans S5 hb6:Below wc.heap.size wc w6)
  clear hb6
  go_wp2_with fail
  (refine hK.out _ _ (KS _ (DFr.ext S6)) (fun hHeld=>?_);clear hK KK;(try simp only[Act.put]);(try simp only[List.getElem_toArray]);(try simp only[List.getElem_cons_succ]);(try simp only[List.getElem_cons_zero]);(try simp only[List.setIfInBounds_toArray]))
  ((refine wpAnyH_ready (rs:=[10]) (by kernel_rfl) (by simp) ?_);(refine AllReadyH.cons (o:=_) rfl (fun KK hK=>?_) ?_);rotate_left;exact AllReadyH.nil)
  go_simp
  go_at_call 61
  refine(HC.out _ (HD6.out.1.ext S6)).mono ?_
  rintro e w7 ⟨rfl,hD7,hF7⟩
  have F7:DFr rb wc w7:=(DFr.ext S6).trans hF7
  have HE:=hide (And.intro hD7 (HD6.out.2.1.trans F7))
  clear hD7 hF7
  go_wp2_with fail
  (refine hK.out _ _ (KS _ F7) (fun hHeld=>?_);clear hK KK;(try simp only[Act.put]);(try simp only[List.getElem_toArray]);(try simp only[List.getElem_cons_succ]);(try simp only[List.getElem_cons_zero]);(try simp only[List.setIfInBounds_toArray]))
  (refine wpAnyH_done (by kernel_rfl) ?_ _)
  go_wp2_with fail
  go_end0
  exact⟨rfl,HE.out.1,HE.out.2⟩
end Go.Proofs.YtnapboelfimaaaaGreatDoor
namespace Go.Proofs.YtnapboelfimaaaaGreatDoor
open Go.RowKit Go.Deep
set_option maxHeartbeats 2000000 in
set_option maxRecDepth 10000 in
theorem dnode_step (A:Ar) (M:Tab) (ab wb rb:Nat) (f:Int) (n:Nat) (w0:World) (hD:DumpOk A ab wb rb w0) (hs:Sane A) (hrb:rb<w0.heap.size) (hfn:famBytes f=n) (d D u x:Nat) (hO:On A M d (8+4*D) u x) (hDm:D≤30) (nn:NodeD) (hnn:nn=nodeAt A.word x) (K:Nat) (hK:K=u*2^(128-4*D)) (L:List (Nat × Nat × Nat)) (hL:(L++dumpN M d (8+4*D) u).length≤4194304) (w:World) (h:DumpAt ab rb f n w0 L w)
  (h0:∀v,v<16→nn.ways.testBit v=false→geN M (8+4*D) u d v=[])
  (hIH:∀(v:Nat) (L:List (Nat × Nat × Nat)) (w:World),v<16→nn.ways.testBit v=true→DumpAt ab rb f n w0 L w→(L++geN M (8+4*D) u d v).length≤4194304→Calls Tryz.prog 61 #[.pointer (some ⟨rb,0,none⟩),.int .i64 ((nn.children+2*ones v nn.ways:Nat):Int),.int .i64 ((D+1:Nat):Int),.agg (keyL (withK K D v)).toArray] w fun e w'=>e=.returned (.tuple #[])∧DumpAt ab rb f n w0 (L++geN M (8+4*D) u d v) w'∧DFr rb w w') :
  Calls Tryz.prog 61 #[.pointer (some ⟨rb,0,none⟩),.int .i64 (x:Int),.int .i64 (D:Int),.agg (keyL K).toArray] w fun e w'=>e=.returned (.tuple #[])∧DumpAt ab rb f n w0 (L++dumpN M d (8+4*D) u) w'∧DFr rb w w':=by
 obtain⟨k,rs,hr,hown⟩:=h.blk
 have hA:=hD.arAt h.fr
 have hlr:=lt_of_block hr
 have hxs:=hO.lt.2
 obtain⟨wx,hwx⟩:∃wx,wx=((w.alloc (.cells #[.pointer (some ⟨rb,0,none⟩)] 119)).alloc (.cells #[.int .i64 (D:Int)] 3)).alloc (.cells (keyL K).toArray 126):=⟨_,rfl⟩
 have hbx:Below w.heap.size w wx:=by rw[hwx];exact ext_trans (ext_trans (ext_alloc _ _) (ext_alloc _ _)) (ext_alloc _ _)
 have b1:wx.heap[w.heap.size]?=some (.cells #[.pointer (some ⟨rb,0,none⟩)] 119 (0,0)):=by rw[hwx];simp only[heap_al,World.size_alloc];rw[if_neg (by omega),if_neg (by omega),if_pos trivial]
 have b2:wx.heap[w.heap.size+1]?=some (.cells #[.int .i64 (D:Int)] 3 (0,0)):=by rw[hwx];simp only[heap_al,World.size_alloc];rw[if_neg (by omega),if_pos trivial]
 have b3:wx.heap[w.heap.size+1+1]?=some (.cells (keyL K).toArray 126 (0,0)):=by rw[hwx];simp only[heap_al,World.size_alloc];rw[if_pos trivial]
 obtain⟨pb,hpb⟩:∃pb,pb=w.heap.size:=⟨_,rfl⟩
 obtain⟨db,hdb⟩:∃db,db=pb+1:=⟨_,rfl⟩
 obtain⟨kb,hkb⟩:∃kb,kb=db+1:=⟨_,rfl⟩
 rw[←hpb] at b1 b2 b3
 rw[←hdb] at b2 b3
 rw[←hkb] at b3
 have hlx:=lt_of_block b3
 have HRN:=hide (readNode_in A ab wb rb (.int .i64 f) rs (x:Int) x k wx (hA.ext hbx) hs rfl hxs (block_ext hr hbx))
 rw[←hnn] at HRN
 have HH:=hide (And.intro h hbx)
 have HBX:=hide (And.intro b1 (And.intro b2 b3))
 have HOWN:=hide (owns_ext hown hbx)
 have HWX:=hide hwx
 have HPB:=hide hpb
 have HDB:=hide hdb
 have HKB:=hide hkb
 have HNN:=hide hnn
 have HKK:=hide hK
 have HL:=hide hL
 have HIH:=hide hIH
 have HE0:=hide h0
 clear h hr hown hA hbx b1 b2 b3 hwx hpb hdb hkb hnn hK hL hIH h0
 go_enter Tryz.func61,Tryz.ntmps61
 go_wp2_with fail
 rw[←HWX.out]
 refine HRN.out.mono ?_
 rintro e w2 ⟨rfl,hA2,⟨k2,hr2⟩,hF2⟩
 simp only[NodeD.agg]
 go_wp2_with fail
 rw[←HPB.out,←HDB.out,←HKB.out]
 obtain⟨nb,hnb⟩:∃nb,nb=w2.heap.size:=⟨_,rfl⟩
 obtain⟨w3,hw3⟩:∃w3,w3=w2.alloc (.cells #[.int .u16 nn.routes,.int .u16 nn.ways,.int .i64 nn.hops,.int .i64 nn.children] 142):=⟨_,rfl⟩
 rw[←hw3,←hnb]
 have hb3:Below w2.heap.size w2 w3:=by rw[hw3];exact ext_alloc _ _
 have hx2:=HBX.out
 have hzx:=hF2.size
 have hpl:=lt_of_block hx2.1
 have hdl:=lt_of_block hx2.2.1
 have e1:=HPB.out
 have e2:=HDB.out
 have e3:=HKB.out
 have hF02:Fr [rb] w0 w2:=(HH.out.1.fr.trans (fr_below HH.out.2)).trans hF2
 have hD2:DumpAt ab rb f n w0 L w2:=DumpAt.read (HH.out.1.fr.trans (fr_below HH.out.2)) HOWN.out hr2 hF2 hrb
 have hD3:=hD2.ext hb3
 have hdf:DFr rb w w3:=((DFr.ext HH.out.2).trans (DFr.of_fr hF2 (fun j hj _=>by simpa using hj))).trans (DFr.ext hb3)
 have hnr:nb≠rb∧kb≠rb∧db≠rb∧pb≠rb:=by omega
 have hBx:Boxes nn K D nb kb db pb rb w3:=by
  refine⟨by rw[hw3,hnb];exact heap_alloc_new _ _,?_,?_,?_⟩
  ·exact block_ext (hF2.at hx2.2.2 (by simp;omega)) hb3
  ·exact block_ext (hF2.at hx2.2.1 (by simp;omega)) hb3
  ·exact block_ext (hF2.at hx2.1 (by simp;omega)) hb3
 have hLL:=HL.out
 rw[dumpN_out] at hLL
 have hok:nn.ok:=by rw[HNN.out];exact hO.ok
 refine(inOrder_any (fun L' w'=>DumpAt ab rb f n w0 L' w'∧DFr rb w3 w') (gbN M (8+4*D) u) (geN M (8+4*D) u d) 4 67 72 #[] #[.pointer (some ⟨nb,0,none⟩),.pointer (some ⟨kb,0,none⟩),.pointer (some ⟨db,0,none⟩),.pointer (some ⟨pb,0,none⟩)] #[] #[.pointer (some ⟨nb,0,none⟩),.pointer (some ⟨pb,0,none⟩),.pointer (some ⟨db,0,none⟩),.pointer (some ⟨kb,0,none⟩)] L 4194304 w3 (by decide) hLL ⟨hD3,DFr.refl _ _⟩ (fun L' w' hp=>hD.tzAt hp.1.fr) (fun _ _=>by kernel_rfl) (fun _ _=>by kernel_rfl) ?_ ?_).mono ?_
 ·intro fu v L' w' hfu hv hp hlen
  have hc:=nbegin_any A M ab wb rb f n w0 hD hs hrb hfn d D u x hO hDm fu v hfu hv nn HNN.out K HKK.out nb kb db pb L' hlen w' hp.1 (hBx.dfr hp.2 hnr)
  simp only[List.append_toArray,List.cons_append,List.nil_append]
  refine hc.mono ?_
  rintro e w'' ⟨rfl,h1,h2⟩
  exact⟨rfl,h1,hp.2.trans h2⟩
 ·intro v L' w' hv hp hlen
  have hc:=neach_any ab rb f n w0 D hDm v hv nn hok K (by rw[HKK.out];exact key_zero D u) nb kb db pb L' (geN M (8+4*D) u d v) (HE0.out v hv) w' hp.1 (hBx.dfr hp.2 hnr) (fun w'' hb hd=>HIH.out v L' w'' hv hb hd hlen)
  simp only[List.push_toArray,List.append_toArray,List.cons_append,List.nil_append]
  refine hc.mono ?_
  rintro e w'' ⟨rfl,h1,h2⟩
  exact⟨rfl,h1,hp.2.trans h2⟩
 rintro e w4 ⟨rfl,h4,h5⟩
 have HE:=hide (And.intro h4 (hdf.trans h5))
 clear h4 h5
 go_wp2
 go_end0
 rw[dumpN_out]
 exact⟨rfl,HE.out.1,HE.out.2⟩
theorem dnode_any (A:Ar) (M:Tab) (ab wb rb:Nat) (f:Int) (n:Nat) (w0:World) (hD:DumpOk A ab wb rb w0) (hs:Sane A) (hrb:rb<w0.heap.size) (hfn:famBytes f=n):∀(d D u x:Nat) (L:List (Nat × Nat × Nat)) (w:World),D+d≤30→On A M d (8+4*D) u x→(L++dumpN M d (8+4*D) u).length≤4194304→DumpAt ab rb f n w0 L w →
  Calls Tryz.prog 61 #[.pointer (some ⟨rb,0,none⟩),.int .i64 (x:Int),.int .i64 (D:Int),.agg (keyL (u*2^(128-4*D))).toArray] w fun e w'=>e=.returned (.tuple #[])∧DumpAt ab rb f n w0 (L++dumpN M d (8+4*D) u) w'∧DFr rb w w':=by
 intro d
 induction d with
 | zero =>
  intro D u x L w hDm hO hL h
  refine dnode_step A M ab wb rb f n w0 hD hs hrb hfn 0 D u x hO (by omega) _ rfl _ rfl L hL w h (fun v _ _=>rfl) ?_
  intro v L' w' _ hb
  have e:(nodeAt A.word x).ways=0:=hO.rep.2
  rw[e] at hb
  simp at hb
 | succ d ih =>
  intro D u x L w hDm hO hL h
  refine dnode_step A M ab wb rb f n w0 hD hs hrb hfn (d+1) D u x hO (by omega) _ rfl _ rfl L hL w h ?_ ?_
  ·intro v hv hb
   rw[hO.rep.node.way v hv] at hb
   rw[geN,if_neg (by rw[hb];decide)]
  ·intro v L' w' hv hb hd hlen
   have hge:geN M (8+4*D) u (d+1) v=dumpN M d (8+4*(D+1)) (16*u+v):=by
    have hb':=hb
    rw[hO.rep.node.way v hv] at hb'
    rw[geN,if_pos hb',show 8+4*D+4=8+4*(D+1) by omega]
   rw[hge] at hlen ⊢
   rw[kid_key (by omega)]
   have hO2:=hO.kid hv hb
   rw[show 8+4*D+4=8+4*(D+1) by omega] at hO2
   exact ih (D+1) (16*u+v) _ L' w' (by omega) hO2 hlen hd
end Go.Proofs.YtnapboelfimaaaaGreatDoor
namespace Go.Proofs.YtnapboelfimaaaaGreatDoor
theorem cnt_cost (W:Nat→Nat):∀d x,cntW W d x≤costW W d x:=by
 intro d
 induction d with
 | zero=>intro x;simp only[cntW,costW];omega
 | succ d ih =>
  intro x
  simp only[cntW,costW]
  have:sumTo 16 (fun f=>if (nodeAt W x).ways.testBit f then cntW W d ((nodeAt W x).kid f) else 0)≤sumTo 16 (fun f=>if (nodeAt W x).ways.testBit f then costW W d ((nodeAt W x).kid f) else 0):=by
   apply sumTo_le
   intro f _
   split
   ·exact ih _
   ·exact Nat.le_refl _
  omega
theorem dumpR_le {W:Nat→Nat} {M:Tab} {r dm:Nat} (R:Root W M r dm):(dumpR M dm).length≤2048+costR W r dm:=by
 unfold dumpR costR
 rw[length_flat]
 have h1:sumTo 256 (fun b=>(begins M 8 0 0 b++(if anyBelow M 8 b then dumpN M dm 8 b else [])).length)≤sumTo 256 (fun b=>8+cost1 W r dm b):=by
  apply sumTo_le
  intro b hb
  rw[List.length_append]
  have h2:(begins M 8 0 0 b).length≤8:=by
   unfold begins
   exact Nat.le_trans (List.length_filterMap_le _ _) (by simp)
  unfold cost1
  by_cases h0:W (r+b)%65536=0
  ·rw[if_pos h0,if_neg (by rw[(R.node b hb).1 h0];simp)]
   simp only[List.length_nil]
   omega
  ·have hany:anyBelow M 8 b=true:=by
    have:anyBelow M 8 b≠false:=fun e=>h0 ((R.node b hb).2 e)
    simpa using this
   rw[if_neg h0,if_pos hany,length_dumpN (R.rep b hb h0)]
   have:=cnt_cost W dm (W (r+b)%65536)
   omega
 rw[sumTo_add] at h1
 have h3:∀n,sumTo n (fun _=>8)=8*n:=by
  intro n
  induction n with
  | zero=>rfl
  | succ n ih=>rw[sumTo,ih];omega
 rw[h3] at h1
 exact h1
theorem Inv.dump_le {A:Ar} {F:Nat→List Nat} {M:Bool→Tab} (h:Inv A F M) (hs:A.size≤65536) (q:Bool):(dumpR (M q) (dp q)).length≤67584:=by
 have h1:=dumpR_le (h.root q)
 have h2:=h.free
 have h3:=h.pos
 cases q <;> omega
end Go.Proofs.YtnapboelfimaaaaGreatDoor
