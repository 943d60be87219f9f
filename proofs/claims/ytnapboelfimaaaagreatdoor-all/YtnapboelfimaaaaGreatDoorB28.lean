/- ByE, RunA, FibN, DuT: parts of the proof, one behind the other. -/
import Derived.Test.YtnapboelfimaaaaGreatDoorB26
import Derived.Test.YtnapboelfimaaaaGreatDoorB27
namespace Go.Proofs.YtnapboelfimaaaaGreatDoor
open Go.RowKit Go.Deep
structure FibAt (w:World) (fb tb ab wb:Nat) (A:Ar):Prop where
 fib:w.heap[fb]?=some (.cells #[.pointer (some ⟨tb,0,none⟩)] 69 (0,0))
 tab:TabAt w tb ab wb A
theorem FibAt.ft {w:World} {fb tb ab wb:Nat} {A:Ar} (h:FibAt w fb tb ab wb A):fb≠tb:=ty_ne h.fib h.tab.tab (by decide)
theorem FibAt.fa {w:World} {fb tb ab wb:Nat} {A:Ar} (h:FibAt w fb tb ab wb A):fb≠ab:=ty_ne h.fib h.tab.ar.arena (by decide)
theorem FibAt.fw {w:World} {fb tb ab wb:Nat} {A:Ar} (h:FibAt w fb tb ab wb A):fb≠wb:=ty_ne h.fib h.tab.ar.words (by decide)
theorem FibAt.ext {w w':World} {fb tb ab wb:Nat} {A:Ar} (h:FibAt w fb tb ab wb A) (hb:Below w.heap.size w w'):FibAt w' fb tb ab wb A:=⟨block_ext h.fib hb,h.tab.ext hb⟩
theorem FibAt.cell {w:World} {fb tb ab wb:Nat} {A:Ar} (h:FibAt w fb tb ab wb A):w.cell? ⟨fb,0,none⟩=some (.pointer (some ⟨tb,0,none⟩)):=by rw[cell_at h.fib];rfl
set_option maxHeartbeats 2000000 in
set_option maxRecDepth 10000 in
theorem na_ins (c0 c1 c2 c3:Value) (n:Nat) (w':World):Sem.run Tryz.prog (nilAhead (n+1) 105 (.agg #[c0,c1,c2,c3]) "byway/byway.do") w'=.ok (some false) w':=by kernel_rfl
theorem na_del (c0 c1 c2:Value) (n:Nat) (w':World):Sem.run Tryz.prog (nilAhead (n+1) 107 (.agg #[c0,c1,c2]) "byway/byway.do") w'=.ok (some false) w':=by kernel_rfl
theorem na_look (c0 c1:Value) (n:Nat) (w':World):Sem.run Tryz.prog (nilAhead (n+1) 109 (.agg #[c0,c1]) "byway/byway.do") w'=.ok (some false) w':=by kernel_rfl
theorem na_com (n:Nat) (w':World):Sem.run Tryz.prog (nilAhead (n+1) 111 (.agg #[]) "byway/byway.do") w'=.ok (some false) w':=by kernel_rfl
theorem me_ins (c0 c1 c2 c3:Value) (n:Nat) (w':World):Sem.run Tryz.prog (method (n+1) 105 (.agg #[c0,c1,c2,c3]) "byway/byway.do") w'=.ok (93,.agg #[c0,c1,c2,c3]) w':=by kernel_rfl
theorem me_del (c0 c1 c2:Value) (n:Nat) (w':World):Sem.run Tryz.prog (method (n+1) 107 (.agg #[c0,c1,c2]) "byway/byway.do") w'=.ok (124,.agg #[c0,c1,c2]) w':=by kernel_rfl
theorem me_look (c0 c1:Value) (n:Nat) (w':World):Sem.run Tryz.prog (method (n+1) 109 (.agg #[c0,c1]) "byway/byway.do") w'=.ok (132,.agg #[c0,c1]) w':=by kernel_rfl
theorem me_com (n:Nat) (w':World):Sem.run Tryz.prog (method (n+1) 111 (.agg #[]) "byway/byway.do") w'=.ok (139,.agg #[]) w':=by kernel_rfl
set_option maxHeartbeats 2000000 in
set_option maxRecDepth 10000 in
theorem answer_ins (o:OpD) (S':Ar) (a:Ans) (d:Value) (fb tb ab wb:Nat) (A:Ar) (w:World) (h:FibAt w fb tb ab wb A) (hok:o.ok) (hf:opFault o=0) (hd:deedVal o=.iface 105 d)
  (hna:∀(n:Nat) (w':World),Sem.run Tryz.prog (nilAhead (n+1) 105 d "byway/byway.do") w'=.ok (some false) w')
  (hme:∀(n:Nat) (w':World),Sem.run Tryz.prog (method (n+1) 105 d "byway/byway.do") w'=.ok (93,d) w')
  (hdo:∀w',TabAt w' tb ab wb A→Calls Tryz.prog 93 #[d,.pointer (some ⟨tb,0,none⟩)] w' fun e w''=>e=.returned (.agg #[.int .i64 a.err,.int .i64 a.hop,.int .i64 a.reads])∧Moved w' w'' tb ab wb S') :
  Calls Tryz.prog 27 #[.pointer (some ⟨fb,0,none⟩),.agg #[.int .i64 o.code,.int .i64 o.family,.string o.bits,.int .i64 o.len,.int .i64 o.hop]] w fun e w'=>e=.returned a.val∧Moved w w' tb ab wb S':=by
 have HDO:=hide (fun (w:World)=>deedOf_any o w)
 have HFA:=hide (fun (w:World)=>fault_any o w hok)
 rw[hd] at HDO HFA
 rw[hf] at HFA
 have HDD:=hide hdo
 have hft:=h.ft
 have hfa:=h.fa
 have hfw:=h.fw
 have hlt:=h.tab.lt
 have hla:=h.tab.ar.la
 have hlw:=h.tab.ar.lw
 have hlf:=lt_of_block h.fib
 obtain⟨wx,hwx⟩:∃wx,wx=(w.alloc (.cells #[.int .i64 o.code,.int .i64 o.family,.string o.bits,.int .i64 o.len,.int .i64 o.hop] 27)).alloc (.cells #[.int .i64 0,.int .i64 0,.int .i64 0] 59):=⟨_,rfl⟩
 have hBx:Below w.heap.size w wx:=by rw[hwx];exact ext_trans (ext_alloc _ _) (ext_alloc _ _)
 obtain⟨rb,hrb⟩:∃rb,rb=w.heap.size+1:=⟨_,rfl⟩
 have bz:wx.heap[rb]?=some (.cells #[.int .i64 0,.int .i64 0,.int .i64 0] 59 (0,0)):=by rw[hwx,hrb,←World.size_alloc w (.cells #[.int .i64 o.code,.int .i64 o.family,.string o.bits,.int .i64 o.len,.int .i64 o.hop] 27)];exact heap_alloc_new _ _
 have hlz:=lt_of_block bz
 have HF:=hide (h.ext hBx)
 have HBX:=hide hBx
 have HBZ:=hide bz
 have HWX:=hide hwx
 have HRB:=hide hrb
 have hwrb:w.heap.size≤rb:=by omega
 have hfr:fb≠rb:=by omega
 clear h hwx hBx bz hrb hf hd hdo hok
 go_enter Tryz.func27,Tryz.ntmps27
 go_wp2_with fail
 rw[←HWX.out,←HRB.out]
 refine(HDO.out _).mono ?_
 rintro e w1 ⟨rfl,hb1⟩
 have HF1:=hide (HF.out.ext hb1)
 have HB1:=hide (ext_trans HBX.out hb1)
 have HBZ1:=hide (block_ext HBZ.out hb1)
 clear hb1
 go_wp2_with fail
 refine(HFA.out _).mono ?_
 rintro e w2 ⟨rfl,hb2⟩
 have HF2:=hide (HF1.out.ext hb2)
 have HB2:=hide (ext_trans HB1.out hb2)
 have bz2:=block_ext HBZ1.out hb2
 have hlz2:=lt_of_block bz2
 have hlf2:=lt_of_block HF2.out.fib
 clear hb2
 obtain⟨wq,hwq⟩:∃wz,wz=w2:=⟨_,rfl⟩
 subst hwq
 have KS:∀w',Fr [tb,ab,wb] wq w'→(fun w':World=>Fr [tb,ab,wb,rb] wq w'∧w'.cell? ⟨fb,0,none⟩=some (.pointer (some ⟨tb,0,none⟩))) w':=fun w' hf=>⟨hf.mono (fun y hy _=>by simp at hy ⊢;omega),by rw[cell_at (hf.at HF2.out.fib (by simp;omega))];rfl⟩
 have KZ:∀(w':World) (v0 v1 v2:Value),Fr [tb,ab,wb] wq w'→(fun w':World=>Fr [tb,ab,wb,rb] wq w'∧w'.cell? ⟨fb,0,none⟩=some (.pointer (some ⟨tb,0,none⟩))) (((w'.setCell ⟨rb,0,none⟩ v0).setCell ⟨rb,1,none⟩ v1).setCell ⟨rb,2,none⟩ v2):=fun w' v0 v1 v2 hf=>⟨(((hf.mono (fun y hy _=>by simp at hy ⊢;omega):Fr [tb,ab,wb,rb] wq w').setCell (Or.inl (by simp)) _).setCell (Or.inl (by simp)) _).setCell (Or.inl (by simp)) _,by rw[World.cell?_setCell_far _ _ _ _ (Ne.symm hfr),World.cell?_setCell_far _ _ _ _ (Ne.symm hfr),World.cell?_setCell_far _ _ _ _ (Ne.symm hfr),cell_at (hf.at HF2.out.fib (by simp;omega))];rfl⟩
 simp only[] at KS KZ
 go_wp2_with fail
 refine wp_region_held_drew (S:=(fun w':World=>Fr [tb,ab,wb,rb] wq w'∧w'.cell? ⟨fb,0,none⟩=some (.pointer (some ⟨tb,0,none⟩)))) (by kernel_rfl) (KS _ (fr_below (drew_ext wq))) (fun hHeld=>?_)
 (refine wpAnyH_take (i:=0) (oi:=_) (v:=?_) rfl (by kernel_rfl) (by kernel_rfl) (by kernel_rfl) (fun _ _ _ h=>h) (Or.inl ⟨by rfl,?_⟩) (by assumption) ?_;rotate_left;(intro w hSw;(try dsimp only at hSw);go_simp;try with_reducible rfl);(try simp only[Act.put]);(try simp only[List.getElem_toArray]);(try simp only[List.getElem_cons_succ]);(try simp only[List.getElem_cons_zero]);(try simp only[List.setIfInBounds_toArray]))
 (refine wpAnyH_take (i:=1) (oi:=_) (v:=?_) rfl (by kernel_rfl) (by kernel_rfl) (by kernel_rfl) (fun _ _ _ h=>h) (Or.inl ⟨by rfl,?_⟩) (by assumption) ?_;rotate_left;(intro w hSw;(try dsimp only at hSw);go_simp;try with_reducible rfl);(try simp only[Act.put]);(try simp only[List.getElem_toArray]);(try simp only[List.getElem_cons_succ]);(try simp only[List.getElem_cons_zero]);(try simp only[List.setIfInBounds_toArray]))
 (refine wpAnyH_take (i:=2) (oi:=_) (v:=?_) rfl (by kernel_rfl) (by kernel_rfl) (by kernel_rfl) (fun _ _ _ h=>h) (Or.inl ⟨by rfl,?_⟩) (by assumption) ?_;rotate_left;(intro w hSw;(try dsimp only at hSw);go_simp;try with_reducible rfl);(try simp only[Act.put]);(try simp only[List.getElem_toArray]);(try simp only[List.getElem_cons_succ]);(try simp only[List.getElem_cons_zero]);(try simp only[List.setIfInBounds_toArray]))
 (refine wpAnyH_take (i:=3) (oi:=_) (v:=?_) rfl (by kernel_rfl) (by kernel_rfl) (by kernel_rfl) (fun _ _ _ h=>h) (Or.inl ⟨by rfl,?_⟩) (by assumption) ?_;rotate_left;(intro w hSw;(try dsimp only at hSw);go_simp;try with_reducible rfl);(try simp only[Act.put]);(try simp only[List.getElem_toArray]);(try simp only[List.getElem_cons_succ]);(try simp only[List.getElem_cons_zero]);(try simp only[List.setIfInBounds_toArray]))
 (refine wpAnyH_take (i:=4) (oi:=_) (v:=?_) rfl (by kernel_rfl) (by kernel_rfl) (by kernel_rfl) (fun _ _ _ h=>h) (Or.inl ⟨by rfl,?_⟩) (by assumption) ?_;rotate_left;(intro w hSw;(try dsimp only at hSw);go_simp;try with_reducible rfl);(try simp only[Act.put]);(try simp only[List.getElem_toArray]);(try simp only[List.getElem_cons_succ]);(try simp only[List.getElem_cons_zero]);(try simp only[List.setIfInBounds_toArray]))
 (refine wpAnyH_take (i:=5) (oi:=_) (v:=?_) rfl (by kernel_rfl) (by kernel_rfl) (by kernel_rfl) (fun _ _ _ h=>h) (Or.inl ⟨by rfl,?_⟩) (by assumption) ?_;rotate_left;(intro w hSw;(try dsimp only at hSw);go_simp;try with_reducible rfl);(try simp only[Act.put]);(try simp only[List.getElem_toArray]);(try simp only[List.getElem_cons_succ]);(try simp only[List.getElem_cons_zero]);(try simp only[List.setIfInBounds_toArray]))
 (refine wpAnyH_take (i:=6) (oi:=_) (v:=?_) rfl (by kernel_rfl) (by kernel_rfl) (by kernel_rfl) (fun _ _ _ h=>h) (Or.inl ⟨by rfl,?_⟩) (by assumption) ?_;rotate_left;(intro w hSw;(try dsimp only at hSw);go_simp;try with_reducible rfl);(try simp only[Act.put]);(try simp only[List.getElem_toArray]);(try simp only[List.getElem_cons_succ]);(try simp only[List.getElem_cons_zero]);(try simp only[List.setIfInBounds_toArray]))
 (refine wpAnyH_take (i:=7) (oi:=_) (v:=?_) rfl (by kernel_rfl) (by kernel_rfl) (by kernel_rfl) (fun _ _ _ h=>h) (Or.inl ⟨by rfl,?_⟩) (by assumption) ?_;rotate_left;(intro w hSw;(try dsimp only at hSw);go_simp;try with_reducible rfl);(try simp only[Act.put]);(try simp only[List.getElem_toArray]);(try simp only[List.getElem_cons_succ]);(try simp only[List.getElem_cons_zero]);(try simp only[List.setIfInBounds_toArray]))
 ((refine wpAnyH_ready (rs:=[8]) (by kernel_rfl) (by simp) ?_);(refine AllReadyH.cons (o:=_) rfl (fun KK hK=>?_) ?_);rotate_left;exact AllReadyH.nil)
 go_simp
 refine(HDD.out _ (HF2.out.tab.ext (drew_ext wq))).mono ?_
 rintro e w3 ⟨rfl,hM⟩
 have hF3:Fr [tb,ab,wb] wq w3:=Fr.after (fr_below (drew_ext wq)) hM.2 (fun y hy=>Or.inl hy)
 have bz3:=hM.blk (block_ext bz2 (drew_ext wq)) (by omega) (by omega) (by omega)
 have hlz3:=lt_of_block bz3
 have zf:=fun i=>free_at bz3 i
 have zf0:=zf 0
 have zf1:=zf 1
 have zf2:=zf 2
 obtain⟨y0,y1,y2⟩:=cells3 bz3
 have hX:=store3 (c0:=.int .i64 a.err) (c1:=.int .i64 a.hop) (c2:=.int .i64 a.reads) bz3
 have hD:=Moved.done (v0:=.int .i64 a.err) (v1:=.int .i64 a.hop) (v2:=.int .i64 a.reads) (ext_trans HB2.out (drew_ext wq)) hM (b:=rb) hwrb (by rw[World.size_drew];exact hlz2) hlt hla hlw
 have HX:=hide (And.intro hX hD)
 have HFR:=hide hF3
 clear hM hX hD hF3 zf bz3
 go_wp2_with fail
 (refine hK.out _ _ (KS _ HFR.out) (fun hHeld=>?_);clear hK KK;(try simp only[Act.put]);(try simp only[List.getElem_toArray]);(try simp only[List.getElem_cons_succ]);(try simp only[List.getElem_cons_zero]);(try simp only[List.setIfInBounds_toArray]))
 ((refine wpAnyH_ready (rs:=[9]) (by kernel_rfl) (by simp) ?_);(refine AllReadyH.cons (o:=_) rfl (fun KK hK=>?_) ?_);rotate_left;exact AllReadyH.nil)
 go_simp
 (refine hK.out _ _ (KZ _ _ _ _ HFR.out) (fun hHeld=>?_);clear hK KK;(try simp only[Act.put]);(try simp only[List.getElem_toArray]);(try simp only[List.getElem_cons_succ]);(try simp only[List.getElem_cons_zero]);(try simp only[List.setIfInBounds_toArray]))
 (refine wpAnyH_done (by kernel_rfl) ?_ _)
 go_wp2_with fail
 obtain⟨w9,hw9⟩:∃w9,w9=(((w3.setCell ⟨rb,0,none⟩ (.int .i64 a.err)).setCell ⟨rb,1,none⟩ (.int .i64 a.hop)).setCell ⟨rb,2,none⟩ (.int .i64 a.reads)):=⟨_,rfl⟩
 have hX:=HX.out
 rw[←hw9] at hX ⊢
 clear y0 y1 y2
 obtain⟨y0,y1,y2⟩:=cells3 hX.1
 exact bodyPost_ret (v:=a.val) (by simp[results,Tryz.results27,go_sem,Ans.val,y0,y1,y2]) rfl ⟨rfl,hX.2⟩
set_option maxHeartbeats 2000000 in
set_option maxRecDepth 10000 in
theorem answer_del (o:OpD) (S':Ar) (a:Ans) (d:Value) (fb tb ab wb:Nat) (A:Ar) (w:World) (h:FibAt w fb tb ab wb A) (hok:o.ok) (hf:opFault o=0) (hd:deedVal o=.iface 107 d)
  (hna:∀(n:Nat) (w':World),Sem.run Tryz.prog (nilAhead (n+1) 107 d "byway/byway.do") w'=.ok (some false) w')
  (hme:∀(n:Nat) (w':World),Sem.run Tryz.prog (method (n+1) 107 d "byway/byway.do") w'=.ok (124,d) w')
  (hdo:∀w',TabAt w' tb ab wb A→Calls Tryz.prog 124 #[d,.pointer (some ⟨tb,0,none⟩)] w' fun e w''=>e=.returned (.agg #[.int .i64 a.err,.int .i64 a.hop,.int .i64 a.reads])∧Moved w' w'' tb ab wb S') :
  Calls Tryz.prog 27 #[.pointer (some ⟨fb,0,none⟩),.agg #[.int .i64 o.code,.int .i64 o.family,.string o.bits,.int .i64 o.len,.int .i64 o.hop]] w fun e w'=>e=.returned a.val∧Moved w w' tb ab wb S':=by
 have HDO:=hide (fun (w:World)=>deedOf_any o w)
 have HFA:=hide (fun (w:World)=>fault_any o w hok)
 rw[hd] at HDO HFA
 rw[hf] at HFA
 have HDD:=hide hdo
 have hft:=h.ft
 have hfa:=h.fa
 have hfw:=h.fw
 have hlt:=h.tab.lt
 have hla:=h.tab.ar.la
 have hlw:=h.tab.ar.lw
 have hlf:=lt_of_block h.fib
 obtain⟨wx,hwx⟩:∃wx,wx=(w.alloc (.cells #[.int .i64 o.code,.int .i64 o.family,.string o.bits,.int .i64 o.len,.int .i64 o.hop] 27)).alloc (.cells #[.int .i64 0,.int .i64 0,.int .i64 0] 59):=⟨_,rfl⟩
 have hBx:Below w.heap.size w wx:=by rw[hwx];exact ext_trans (ext_alloc _ _) (ext_alloc _ _)
 obtain⟨rb,hrb⟩:∃rb,rb=w.heap.size+1:=⟨_,rfl⟩
 have bz:wx.heap[rb]?=some (.cells #[.int .i64 0,.int .i64 0,.int .i64 0] 59 (0,0)):=by rw[hwx,hrb,←World.size_alloc w (.cells #[.int .i64 o.code,.int .i64 o.family,.string o.bits,.int .i64 o.len,.int .i64 o.hop] 27)];exact heap_alloc_new _ _
 have hlz:=lt_of_block bz
 have HF:=hide (h.ext hBx)
 have HBX:=hide hBx
 have HBZ:=hide bz
 have HWX:=hide hwx
 have HRB:=hide hrb
 have hwrb:w.heap.size≤rb:=by omega
 have hfr:fb≠rb:=by omega
 clear h hwx hBx bz hrb hf hd hdo hok
 go_enter Tryz.func27,Tryz.ntmps27
 go_wp2_with fail
 rw[←HWX.out,←HRB.out]
 refine(HDO.out _).mono ?_
 rintro e w1 ⟨rfl,hb1⟩
 have HF1:=hide (HF.out.ext hb1)
 have HB1:=hide (ext_trans HBX.out hb1)
 have HBZ1:=hide (block_ext HBZ.out hb1)
 clear hb1
 go_wp2_with fail
 refine(HFA.out _).mono ?_
 rintro e w2 ⟨rfl,hb2⟩
 have HF2:=hide (HF1.out.ext hb2)
 have HB2:=hide (ext_trans HB1.out hb2)
 have bz2:=block_ext HBZ1.out hb2
 have hlz2:=lt_of_block bz2
 have hlf2:=lt_of_block HF2.out.fib
 clear hb2
 obtain⟨wq,hwq⟩:∃wz,wz=w2:=⟨_,rfl⟩
 subst hwq
 have KS:∀w',Fr [tb,ab,wb] wq w'→(fun w':World=>Fr [tb,ab,wb,rb] wq w'∧w'.cell? ⟨fb,0,none⟩=some (.pointer (some ⟨tb,0,none⟩))) w':=fun w' hf=>⟨hf.mono (fun y hy _=>by simp at hy ⊢;omega),by rw[cell_at (hf.at HF2.out.fib (by simp;omega))];rfl⟩
 have KZ:∀(w':World) (v0 v1 v2:Value),Fr [tb,ab,wb] wq w'→(fun w':World=>Fr [tb,ab,wb,rb] wq w'∧w'.cell? ⟨fb,0,none⟩=some (.pointer (some ⟨tb,0,none⟩))) (((w'.setCell ⟨rb,0,none⟩ v0).setCell ⟨rb,1,none⟩ v1).setCell ⟨rb,2,none⟩ v2):=fun w' v0 v1 v2 hf=>⟨(((hf.mono (fun y hy _=>by simp at hy ⊢;omega):Fr [tb,ab,wb,rb] wq w').setCell (Or.inl (by simp)) _).setCell (Or.inl (by simp)) _).setCell (Or.inl (by simp)) _,by rw[World.cell?_setCell_far _ _ _ _ (Ne.symm hfr),World.cell?_setCell_far _ _ _ _ (Ne.symm hfr),World.cell?_setCell_far _ _ _ _ (Ne.symm hfr),cell_at (hf.at HF2.out.fib (by simp;omega))];rfl⟩
 simp only[] at KS KZ
 go_wp2_with fail
 refine wp_region_held_drew (S:=(fun w':World=>Fr [tb,ab,wb,rb] wq w'∧w'.cell? ⟨fb,0,none⟩=some (.pointer (some ⟨tb,0,none⟩)))) (by kernel_rfl) (KS _ (fr_below (drew_ext wq))) (fun hHeld=>?_)
 (refine wpAnyH_take (i:=0) (oi:=_) (v:=?_) rfl (by kernel_rfl) (by kernel_rfl) (by kernel_rfl) (fun _ _ _ h=>h) (Or.inl ⟨by rfl,?_⟩) (by assumption) ?_;rotate_left;(intro w hSw;(try dsimp only at hSw);go_simp;try with_reducible rfl);(try simp only[Act.put]);(try simp only[List.getElem_toArray]);(try simp only[List.getElem_cons_succ]);(try simp only[List.getElem_cons_zero]);(try simp only[List.setIfInBounds_toArray]))
 (refine wpAnyH_take (i:=1) (oi:=_) (v:=?_) rfl (by kernel_rfl) (by kernel_rfl) (by kernel_rfl) (fun _ _ _ h=>h) (Or.inl ⟨by rfl,?_⟩) (by assumption) ?_;rotate_left;(intro w hSw;(try dsimp only at hSw);go_simp;try with_reducible rfl);(try simp only[Act.put]);(try simp only[List.getElem_toArray]);(try simp only[List.getElem_cons_succ]);(try simp only[List.getElem_cons_zero]);(try simp only[List.setIfInBounds_toArray]))
 (refine wpAnyH_take (i:=2) (oi:=_) (v:=?_) rfl (by kernel_rfl) (by kernel_rfl) (by kernel_rfl) (fun _ _ _ h=>h) (Or.inl ⟨by rfl,?_⟩) (by assumption) ?_;rotate_left;(intro w hSw;(try dsimp only at hSw);go_simp;try with_reducible rfl);(try simp only[Act.put]);(try simp only[List.getElem_toArray]);(try simp only[List.getElem_cons_succ]);(try simp only[List.getElem_cons_zero]);(try simp only[List.setIfInBounds_toArray]))
 (refine wpAnyH_take (i:=3) (oi:=_) (v:=?_) rfl (by kernel_rfl) (by kernel_rfl) (by kernel_rfl) (fun _ _ _ h=>h) (Or.inl ⟨by rfl,?_⟩) (by assumption) ?_;rotate_left;(intro w hSw;(try dsimp only at hSw);go_simp;try with_reducible rfl);(try simp only[Act.put]);(try simp only[List.getElem_toArray]);(try simp only[List.getElem_cons_succ]);(try simp only[List.getElem_cons_zero]);(try simp only[List.setIfInBounds_toArray]))
 (refine wpAnyH_take (i:=4) (oi:=_) (v:=?_) rfl (by kernel_rfl) (by kernel_rfl) (by kernel_rfl) (fun _ _ _ h=>h) (Or.inl ⟨by rfl,?_⟩) (by assumption) ?_;rotate_left;(intro w hSw;(try dsimp only at hSw);go_simp;try with_reducible rfl);(try simp only[Act.put]);(try simp only[List.getElem_toArray]);(try simp only[List.getElem_cons_succ]);(try simp only[List.getElem_cons_zero]);(try simp only[List.setIfInBounds_toArray]))
 (refine wpAnyH_take (i:=5) (oi:=_) (v:=?_) rfl (by kernel_rfl) (by kernel_rfl) (by kernel_rfl) (fun _ _ _ h=>h) (Or.inl ⟨by rfl,?_⟩) (by assumption) ?_;rotate_left;(intro w hSw;(try dsimp only at hSw);go_simp;try with_reducible rfl);(try simp only[Act.put]);(try simp only[List.getElem_toArray]);(try simp only[List.getElem_cons_succ]);(try simp only[List.getElem_cons_zero]);(try simp only[List.setIfInBounds_toArray]))
 (refine wpAnyH_take (i:=6) (oi:=_) (v:=?_) rfl (by kernel_rfl) (by kernel_rfl) (by kernel_rfl) (fun _ _ _ h=>h) (Or.inl ⟨by rfl,?_⟩) (by assumption) ?_;rotate_left;(intro w hSw;(try dsimp only at hSw);go_simp;try with_reducible rfl);(try simp only[Act.put]);(try simp only[List.getElem_toArray]);(try simp only[List.getElem_cons_succ]);(try simp only[List.getElem_cons_zero]);(try simp only[List.setIfInBounds_toArray]))
 (refine wpAnyH_take (i:=7) (oi:=_) (v:=?_) rfl (by kernel_rfl) (by kernel_rfl) (by kernel_rfl) (fun _ _ _ h=>h) (Or.inl ⟨by rfl,?_⟩) (by assumption) ?_;rotate_left;(intro w hSw;(try dsimp only at hSw);go_simp;try with_reducible rfl);(try simp only[Act.put]);(try simp only[List.getElem_toArray]);(try simp only[List.getElem_cons_succ]);(try simp only[List.getElem_cons_zero]);(try simp only[List.setIfInBounds_toArray]))
 ((refine wpAnyH_ready (rs:=[8]) (by kernel_rfl) (by simp) ?_);(refine AllReadyH.cons (o:=_) rfl (fun KK hK=>?_) ?_);rotate_left;exact AllReadyH.nil)
 go_simp
 refine(HDD.out _ (HF2.out.tab.ext (drew_ext wq))).mono ?_
 rintro e w3 ⟨rfl,hM⟩
 have hF3:Fr [tb,ab,wb] wq w3:=Fr.after (fr_below (drew_ext wq)) hM.2 (fun y hy=>Or.inl hy)
 have bz3:=hM.blk (block_ext bz2 (drew_ext wq)) (by omega) (by omega) (by omega)
 have hlz3:=lt_of_block bz3
 have zf:=fun i=>free_at bz3 i
 have zf0:=zf 0
 have zf1:=zf 1
 have zf2:=zf 2
 obtain⟨y0,y1,y2⟩:=cells3 bz3
 have hX:=store3 (c0:=.int .i64 a.err) (c1:=.int .i64 a.hop) (c2:=.int .i64 a.reads) bz3
 have hD:=Moved.done (v0:=.int .i64 a.err) (v1:=.int .i64 a.hop) (v2:=.int .i64 a.reads) (ext_trans HB2.out (drew_ext wq)) hM (b:=rb) hwrb (by rw[World.size_drew];exact hlz2) hlt hla hlw
 have HX:=hide (And.intro hX hD)
 have HFR:=hide hF3
 clear hM hX hD hF3 zf bz3
 go_wp2_with fail
 (refine hK.out _ _ (KS _ HFR.out) (fun hHeld=>?_);clear hK KK;(try simp only[Act.put]);(try simp only[List.getElem_toArray]);(try simp only[List.getElem_cons_succ]);(try simp only[List.getElem_cons_zero]);(try simp only[List.setIfInBounds_toArray]))
 ((refine wpAnyH_ready (rs:=[9]) (by kernel_rfl) (by simp) ?_);(refine AllReadyH.cons (o:=_) rfl (fun KK hK=>?_) ?_);rotate_left;exact AllReadyH.nil)
 go_simp
 (refine hK.out _ _ (KZ _ _ _ _ HFR.out) (fun hHeld=>?_);clear hK KK;(try simp only[Act.put]);(try simp only[List.getElem_toArray]);(try simp only[List.getElem_cons_succ]);(try simp only[List.getElem_cons_zero]);(try simp only[List.setIfInBounds_toArray]))
 (refine wpAnyH_done (by kernel_rfl) ?_ _)
 go_wp2_with fail
 obtain⟨w9,hw9⟩:∃w9,w9=(((w3.setCell ⟨rb,0,none⟩ (.int .i64 a.err)).setCell ⟨rb,1,none⟩ (.int .i64 a.hop)).setCell ⟨rb,2,none⟩ (.int .i64 a.reads)):=⟨_,rfl⟩
 have hX:=HX.out
 rw[←hw9] at hX ⊢
 clear y0 y1 y2
 obtain⟨y0,y1,y2⟩:=cells3 hX.1
 exact bodyPost_ret (v:=a.val) (by simp[results,Tryz.results27,go_sem,Ans.val,y0,y1,y2]) rfl ⟨rfl,hX.2⟩
set_option maxHeartbeats 2000000 in
set_option maxRecDepth 10000 in
theorem answer_look (o:OpD) (S':Ar) (a:Ans) (d:Value) (fb tb ab wb:Nat) (A:Ar) (w:World) (h:FibAt w fb tb ab wb A) (hok:o.ok) (hf:opFault o=0) (hd:deedVal o=.iface 109 d)
  (hna:∀(n:Nat) (w':World),Sem.run Tryz.prog (nilAhead (n+1) 109 d "byway/byway.do") w'=.ok (some false) w')
  (hme:∀(n:Nat) (w':World),Sem.run Tryz.prog (method (n+1) 109 d "byway/byway.do") w'=.ok (132,d) w')
  (hdo:∀w',TabAt w' tb ab wb A→Calls Tryz.prog 132 #[d,.pointer (some ⟨tb,0,none⟩)] w' fun e w''=>e=.returned (.agg #[.int .i64 a.err,.int .i64 a.hop,.int .i64 a.reads])∧Moved w' w'' tb ab wb S') :
  Calls Tryz.prog 27 #[.pointer (some ⟨fb,0,none⟩),.agg #[.int .i64 o.code,.int .i64 o.family,.string o.bits,.int .i64 o.len,.int .i64 o.hop]] w fun e w'=>e=.returned a.val∧Moved w w' tb ab wb S':=by
 have HDO:=hide (fun (w:World)=>deedOf_any o w)
 have HFA:=hide (fun (w:World)=>fault_any o w hok)
 rw[hd] at HDO HFA
 rw[hf] at HFA
 have HDD:=hide hdo
 have hft:=h.ft
 have hfa:=h.fa
 have hfw:=h.fw
 have hlt:=h.tab.lt
 have hla:=h.tab.ar.la
 have hlw:=h.tab.ar.lw
 have hlf:=lt_of_block h.fib
 obtain⟨wx,hwx⟩:∃wx,wx=(w.alloc (.cells #[.int .i64 o.code,.int .i64 o.family,.string o.bits,.int .i64 o.len,.int .i64 o.hop] 27)).alloc (.cells #[.int .i64 0,.int .i64 0,.int .i64 0] 59):=⟨_,rfl⟩
 have hBx:Below w.heap.size w wx:=by rw[hwx];exact ext_trans (ext_alloc _ _) (ext_alloc _ _)
 obtain⟨rb,hrb⟩:∃rb,rb=w.heap.size+1:=⟨_,rfl⟩
 have bz:wx.heap[rb]?=some (.cells #[.int .i64 0,.int .i64 0,.int .i64 0] 59 (0,0)):=by rw[hwx,hrb,←World.size_alloc w (.cells #[.int .i64 o.code,.int .i64 o.family,.string o.bits,.int .i64 o.len,.int .i64 o.hop] 27)];exact heap_alloc_new _ _
 have hlz:=lt_of_block bz
 have HF:=hide (h.ext hBx)
 have HBX:=hide hBx
 have HBZ:=hide bz
 have HWX:=hide hwx
 have HRB:=hide hrb
 have hwrb:w.heap.size≤rb:=by omega
 have hfr:fb≠rb:=by omega
 clear h hwx hBx bz hrb hf hd hdo hok
 go_enter Tryz.func27,Tryz.ntmps27
 go_wp2_with fail
 rw[←HWX.out,←HRB.out]
 refine(HDO.out _).mono ?_
 rintro e w1 ⟨rfl,hb1⟩
 have HF1:=hide (HF.out.ext hb1)
 have HB1:=hide (ext_trans HBX.out hb1)
 have HBZ1:=hide (block_ext HBZ.out hb1)
 clear hb1
 go_wp2_with fail
 refine(HFA.out _).mono ?_
 rintro e w2 ⟨rfl,hb2⟩
 have HF2:=hide (HF1.out.ext hb2)
 have HB2:=hide (ext_trans HB1.out hb2)
 have bz2:=block_ext HBZ1.out hb2
 have hlz2:=lt_of_block bz2
 have hlf2:=lt_of_block HF2.out.fib
 clear hb2
 obtain⟨wq,hwq⟩:∃wz,wz=w2:=⟨_,rfl⟩
 subst hwq
 have KS:∀w',Fr [tb,ab,wb] wq w'→(fun w':World=>Fr [tb,ab,wb,rb] wq w'∧w'.cell? ⟨fb,0,none⟩=some (.pointer (some ⟨tb,0,none⟩))) w':=fun w' hf=>⟨hf.mono (fun y hy _=>by simp at hy ⊢;omega),by rw[cell_at (hf.at HF2.out.fib (by simp;omega))];rfl⟩
 have KZ:∀(w':World) (v0 v1 v2:Value),Fr [tb,ab,wb] wq w'→(fun w':World=>Fr [tb,ab,wb,rb] wq w'∧w'.cell? ⟨fb,0,none⟩=some (.pointer (some ⟨tb,0,none⟩))) (((w'.setCell ⟨rb,0,none⟩ v0).setCell ⟨rb,1,none⟩ v1).setCell ⟨rb,2,none⟩ v2):=fun w' v0 v1 v2 hf=>⟨(((hf.mono (fun y hy _=>by simp at hy ⊢;omega):Fr [tb,ab,wb,rb] wq w').setCell (Or.inl (by simp)) _).setCell (Or.inl (by simp)) _).setCell (Or.inl (by simp)) _,by rw[World.cell?_setCell_far _ _ _ _ (Ne.symm hfr),World.cell?_setCell_far _ _ _ _ (Ne.symm hfr),World.cell?_setCell_far _ _ _ _ (Ne.symm hfr),cell_at (hf.at HF2.out.fib (by simp;omega))];rfl⟩
 simp only[] at KS KZ
 go_wp2_with fail
 refine wp_region_held_drew (S:=(fun w':World=>Fr [tb,ab,wb,rb] wq w'∧w'.cell? ⟨fb,0,none⟩=some (.pointer (some ⟨tb,0,none⟩)))) (by kernel_rfl) (KS _ (fr_below (drew_ext wq))) (fun hHeld=>?_)
 (refine wpAnyH_take (i:=0) (oi:=_) (v:=?_) rfl (by kernel_rfl) (by kernel_rfl) (by kernel_rfl) (fun _ _ _ h=>h) (Or.inl ⟨by rfl,?_⟩) (by assumption) ?_;rotate_left;(intro w hSw;(try dsimp only at hSw);go_simp;try with_reducible rfl);(try simp only[Act.put]);(try simp only[List.getElem_toArray]);(try simp only[List.getElem_cons_succ]);(try simp only[List.getElem_cons_zero]);(try simp only[List.setIfInBounds_toArray]))
 (refine wpAnyH_take (i:=1) (oi:=_) (v:=?_) rfl (by kernel_rfl) (by kernel_rfl) (by kernel_rfl) (fun _ _ _ h=>h) (Or.inl ⟨by rfl,?_⟩) (by assumption) ?_;rotate_left;(intro w hSw;(try dsimp only at hSw);go_simp;try with_reducible rfl);(try simp only[Act.put]);(try simp only[List.getElem_toArray]);(try simp only[List.getElem_cons_succ]);(try simp only[List.getElem_cons_zero]);(try simp only[List.setIfInBounds_toArray]))
 (refine wpAnyH_take (i:=2) (oi:=_) (v:=?_) rfl (by kernel_rfl) (by kernel_rfl) (by kernel_rfl) (fun _ _ _ h=>h) (Or.inl ⟨by rfl,?_⟩) (by assumption) ?_;rotate_left;(intro w hSw;(try dsimp only at hSw);go_simp;try with_reducible rfl);(try simp only[Act.put]);(try simp only[List.getElem_toArray]);(try simp only[List.getElem_cons_succ]);(try simp only[List.getElem_cons_zero]);(try simp only[List.setIfInBounds_toArray]))
 (refine wpAnyH_take (i:=3) (oi:=_) (v:=?_) rfl (by kernel_rfl) (by kernel_rfl) (by kernel_rfl) (fun _ _ _ h=>h) (Or.inl ⟨by rfl,?_⟩) (by assumption) ?_;rotate_left;(intro w hSw;(try dsimp only at hSw);go_simp;try with_reducible rfl);(try simp only[Act.put]);(try simp only[List.getElem_toArray]);(try simp only[List.getElem_cons_succ]);(try simp only[List.getElem_cons_zero]);(try simp only[List.setIfInBounds_toArray]))
 (refine wpAnyH_take (i:=4) (oi:=_) (v:=?_) rfl (by kernel_rfl) (by kernel_rfl) (by kernel_rfl) (fun _ _ _ h=>h) (Or.inl ⟨by rfl,?_⟩) (by assumption) ?_;rotate_left;(intro w hSw;(try dsimp only at hSw);go_simp;try with_reducible rfl);(try simp only[Act.put]);(try simp only[List.getElem_toArray]);(try simp only[List.getElem_cons_succ]);(try simp only[List.getElem_cons_zero]);(try simp only[List.setIfInBounds_toArray]))
 (refine wpAnyH_take (i:=5) (oi:=_) (v:=?_) rfl (by kernel_rfl) (by kernel_rfl) (by kernel_rfl) (fun _ _ _ h=>h) (Or.inl ⟨by rfl,?_⟩) (by assumption) ?_;rotate_left;(intro w hSw;(try dsimp only at hSw);go_simp;try with_reducible rfl);(try simp only[Act.put]);(try simp only[List.getElem_toArray]);(try simp only[List.getElem_cons_succ]);(try simp only[List.getElem_cons_zero]);(try simp only[List.setIfInBounds_toArray]))
 (refine wpAnyH_take (i:=6) (oi:=_) (v:=?_) rfl (by kernel_rfl) (by kernel_rfl) (by kernel_rfl) (fun _ _ _ h=>h) (Or.inl ⟨by rfl,?_⟩) (by assumption) ?_;rotate_left;(intro w hSw;(try dsimp only at hSw);go_simp;try with_reducible rfl);(try simp only[Act.put]);(try simp only[List.getElem_toArray]);(try simp only[List.getElem_cons_succ]);(try simp only[List.getElem_cons_zero]);(try simp only[List.setIfInBounds_toArray]))
 (refine wpAnyH_take (i:=7) (oi:=_) (v:=?_) rfl (by kernel_rfl) (by kernel_rfl) (by kernel_rfl) (fun _ _ _ h=>h) (Or.inl ⟨by rfl,?_⟩) (by assumption) ?_;rotate_left;(intro w hSw;(try dsimp only at hSw);go_simp;try with_reducible rfl);(try simp only[Act.put]);(try simp only[List.getElem_toArray]);(try simp only[List.getElem_cons_succ]);(try simp only[List.getElem_cons_zero]);(try simp only[List.setIfInBounds_toArray]))
 ((refine wpAnyH_ready (rs:=[8]) (by kernel_rfl) (by simp) ?_);(refine AllReadyH.cons (o:=_) rfl (fun KK hK=>?_) ?_);rotate_left;exact AllReadyH.nil)
 go_simp
 refine(HDD.out _ (HF2.out.tab.ext (drew_ext wq))).mono ?_
 rintro e w3 ⟨rfl,hM⟩
 have hF3:Fr [tb,ab,wb] wq w3:=Fr.after (fr_below (drew_ext wq)) hM.2 (fun y hy=>Or.inl hy)
 have bz3:=hM.blk (block_ext bz2 (drew_ext wq)) (by omega) (by omega) (by omega)
 have hlz3:=lt_of_block bz3
 have zf:=fun i=>free_at bz3 i
 have zf0:=zf 0
 have zf1:=zf 1
 have zf2:=zf 2
 obtain⟨y0,y1,y2⟩:=cells3 bz3
 have hX:=store3 (c0:=.int .i64 a.err) (c1:=.int .i64 a.hop) (c2:=.int .i64 a.reads) bz3
 have hD:=Moved.done (v0:=.int .i64 a.err) (v1:=.int .i64 a.hop) (v2:=.int .i64 a.reads) (ext_trans HB2.out (drew_ext wq)) hM (b:=rb) hwrb (by rw[World.size_drew];exact hlz2) hlt hla hlw
 have HX:=hide (And.intro hX hD)
 have HFR:=hide hF3
 clear hM hX hD hF3 zf bz3
 go_wp2_with fail
 (refine hK.out _ _ (KS _ HFR.out) (fun hHeld=>?_);clear hK KK;(try simp only[Act.put]);(try simp only[List.getElem_toArray]);(try simp only[List.getElem_cons_succ]);(try simp only[List.getElem_cons_zero]);(try simp only[List.setIfInBounds_toArray]))
 ((refine wpAnyH_ready (rs:=[9]) (by kernel_rfl) (by simp) ?_);(refine AllReadyH.cons (o:=_) rfl (fun KK hK=>?_) ?_);rotate_left;exact AllReadyH.nil)
 go_simp
 (refine hK.out _ _ (KZ _ _ _ _ HFR.out) (fun hHeld=>?_);clear hK KK;(try simp only[Act.put]);(try simp only[List.getElem_toArray]);(try simp only[List.getElem_cons_succ]);(try simp only[List.getElem_cons_zero]);(try simp only[List.setIfInBounds_toArray]))
 (refine wpAnyH_done (by kernel_rfl) ?_ _)
 go_wp2_with fail
 obtain⟨w9,hw9⟩:∃w9,w9=(((w3.setCell ⟨rb,0,none⟩ (.int .i64 a.err)).setCell ⟨rb,1,none⟩ (.int .i64 a.hop)).setCell ⟨rb,2,none⟩ (.int .i64 a.reads)):=⟨_,rfl⟩
 have hX:=HX.out
 rw[←hw9] at hX ⊢
 clear y0 y1 y2
 obtain⟨y0,y1,y2⟩:=cells3 hX.1
 exact bodyPost_ret (v:=a.val) (by simp[results,Tryz.results27,go_sem,Ans.val,y0,y1,y2]) rfl ⟨rfl,hX.2⟩
set_option maxHeartbeats 2000000 in
set_option maxRecDepth 10000 in
theorem answer_com (o:OpD) (S':Ar) (a:Ans) (d:Value) (fb tb ab wb:Nat) (A:Ar) (w:World) (h:FibAt w fb tb ab wb A) (hok:o.ok) (hf:opFault o=0) (hd:deedVal o=.iface 111 d)
  (hna:∀(n:Nat) (w':World),Sem.run Tryz.prog (nilAhead (n+1) 111 d "byway/byway.do") w'=.ok (some false) w')
  (hme:∀(n:Nat) (w':World),Sem.run Tryz.prog (method (n+1) 111 d "byway/byway.do") w'=.ok (139,d) w')
  (hdo:∀w',TabAt w' tb ab wb A→Calls Tryz.prog 139 #[d,.pointer (some ⟨tb,0,none⟩)] w' fun e w''=>e=.returned (.agg #[.int .i64 a.err,.int .i64 a.hop,.int .i64 a.reads])∧Moved w' w'' tb ab wb S') :
  Calls Tryz.prog 27 #[.pointer (some ⟨fb,0,none⟩),.agg #[.int .i64 o.code,.int .i64 o.family,.string o.bits,.int .i64 o.len,.int .i64 o.hop]] w fun e w'=>e=.returned a.val∧Moved w w' tb ab wb S':=by
 have HDO:=hide (fun (w:World)=>deedOf_any o w)
 have HFA:=hide (fun (w:World)=>fault_any o w hok)
 rw[hd] at HDO HFA
 rw[hf] at HFA
 have HDD:=hide hdo
 have hft:=h.ft
 have hfa:=h.fa
 have hfw:=h.fw
 have hlt:=h.tab.lt
 have hla:=h.tab.ar.la
 have hlw:=h.tab.ar.lw
 have hlf:=lt_of_block h.fib
 obtain⟨wx,hwx⟩:∃wx,wx=(w.alloc (.cells #[.int .i64 o.code,.int .i64 o.family,.string o.bits,.int .i64 o.len,.int .i64 o.hop] 27)).alloc (.cells #[.int .i64 0,.int .i64 0,.int .i64 0] 59):=⟨_,rfl⟩
 have hBx:Below w.heap.size w wx:=by rw[hwx];exact ext_trans (ext_alloc _ _) (ext_alloc _ _)
 obtain⟨rb,hrb⟩:∃rb,rb=w.heap.size+1:=⟨_,rfl⟩
 have bz:wx.heap[rb]?=some (.cells #[.int .i64 0,.int .i64 0,.int .i64 0] 59 (0,0)):=by rw[hwx,hrb,←World.size_alloc w (.cells #[.int .i64 o.code,.int .i64 o.family,.string o.bits,.int .i64 o.len,.int .i64 o.hop] 27)];exact heap_alloc_new _ _
 have hlz:=lt_of_block bz
 have HF:=hide (h.ext hBx)
 have HBX:=hide hBx
 have HBZ:=hide bz
 have HWX:=hide hwx
 have HRB:=hide hrb
 have hwrb:w.heap.size≤rb:=by omega
 have hfr:fb≠rb:=by omega
 clear h hwx hBx bz hrb hf hd hdo hok
 go_enter Tryz.func27,Tryz.ntmps27
 go_wp2_with fail
 rw[←HWX.out,←HRB.out]
 refine(HDO.out _).mono ?_
 rintro e w1 ⟨rfl,hb1⟩
 have HF1:=hide (HF.out.ext hb1)
 have HB1:=hide (ext_trans HBX.out hb1)
 have HBZ1:=hide (block_ext HBZ.out hb1)
 clear hb1
 go_wp2_with fail
 refine(HFA.out _).mono ?_
 rintro e w2 ⟨rfl,hb2⟩
 have HF2:=hide (HF1.out.ext hb2)
 have HB2:=hide (ext_trans HB1.out hb2)
 have bz2:=block_ext HBZ1.out hb2
 have hlz2:=lt_of_block bz2
 have hlf2:=lt_of_block HF2.out.fib
 clear hb2
 obtain⟨wq,hwq⟩:∃wz,wz=w2:=⟨_,rfl⟩
 subst hwq
 have KS:∀w',Fr [tb,ab,wb] wq w'→(fun w':World=>Fr [tb,ab,wb,rb] wq w'∧w'.cell? ⟨fb,0,none⟩=some (.pointer (some ⟨tb,0,none⟩))) w':=fun w' hf=>⟨hf.mono (fun y hy _=>by simp at hy ⊢;omega),by rw[cell_at (hf.at HF2.out.fib (by simp;omega))];rfl⟩
 have KZ:∀(w':World) (v0 v1 v2:Value),Fr [tb,ab,wb] wq w'→(fun w':World=>Fr [tb,ab,wb,rb] wq w'∧w'.cell? ⟨fb,0,none⟩=some (.pointer (some ⟨tb,0,none⟩))) (((w'.setCell ⟨rb,0,none⟩ v0).setCell ⟨rb,1,none⟩ v1).setCell ⟨rb,2,none⟩ v2):=fun w' v0 v1 v2 hf=>⟨(((hf.mono (fun y hy _=>by simp at hy ⊢;omega):Fr [tb,ab,wb,rb] wq w').setCell (Or.inl (by simp)) _).setCell (Or.inl (by simp)) _).setCell (Or.inl (by simp)) _,by rw[World.cell?_setCell_far _ _ _ _ (Ne.symm hfr),World.cell?_setCell_far _ _ _ _ (Ne.symm hfr),World.cell?_setCell_far _ _ _ _ (Ne.symm hfr),cell_at (hf.at HF2.out.fib (by simp;omega))];rfl⟩
 simp only[] at KS KZ
 go_wp2_with fail
 refine wp_region_held_drew (S:=(fun w':World=>Fr [tb,ab,wb,rb] wq w'∧w'.cell? ⟨fb,0,none⟩=some (.pointer (some ⟨tb,0,none⟩)))) (by kernel_rfl) (KS _ (fr_below (drew_ext wq))) (fun hHeld=>?_)
 (refine wpAnyH_take (i:=0) (oi:=_) (v:=?_) rfl (by kernel_rfl) (by kernel_rfl) (by kernel_rfl) (fun _ _ _ h=>h) (Or.inl ⟨by rfl,?_⟩) (by assumption) ?_;rotate_left;(intro w hSw;(try dsimp only at hSw);go_simp;try with_reducible rfl);(try simp only[Act.put]);(try simp only[List.getElem_toArray]);(try simp only[List.getElem_cons_succ]);(try simp only[List.getElem_cons_zero]);(try simp only[List.setIfInBounds_toArray]))
 (refine wpAnyH_take (i:=1) (oi:=_) (v:=?_) rfl (by kernel_rfl) (by kernel_rfl) (by kernel_rfl) (fun _ _ _ h=>h) (Or.inl ⟨by rfl,?_⟩) (by assumption) ?_;rotate_left;(intro w hSw;(try dsimp only at hSw);go_simp;try with_reducible rfl);(try simp only[Act.put]);(try simp only[List.getElem_toArray]);(try simp only[List.getElem_cons_succ]);(try simp only[List.getElem_cons_zero]);(try simp only[List.setIfInBounds_toArray]))
 (refine wpAnyH_take (i:=2) (oi:=_) (v:=?_) rfl (by kernel_rfl) (by kernel_rfl) (by kernel_rfl) (fun _ _ _ h=>h) (Or.inl ⟨by rfl,?_⟩) (by assumption) ?_;rotate_left;(intro w hSw;(try dsimp only at hSw);go_simp;try with_reducible rfl);(try simp only[Act.put]);(try simp only[List.getElem_toArray]);(try simp only[List.getElem_cons_succ]);(try simp only[List.getElem_cons_zero]);(try simp only[List.setIfInBounds_toArray]))
 (refine wpAnyH_take (i:=3) (oi:=_) (v:=?_) rfl (by kernel_rfl) (by kernel_rfl) (by kernel_rfl) (fun _ _ _ h=>h) (Or.inl ⟨by rfl,?_⟩) (by assumption) ?_;rotate_left;(intro w hSw;(try dsimp only at hSw);go_simp;try with_reducible rfl);(try simp only[Act.put]);(try simp only[List.getElem_toArray]);(try simp only[List.getElem_cons_succ]);(try simp only[List.getElem_cons_zero]);(try simp only[List.setIfInBounds_toArray]))
 (refine wpAnyH_take (i:=4) (oi:=_) (v:=?_) rfl (by kernel_rfl) (by kernel_rfl) (by kernel_rfl) (fun _ _ _ h=>h) (Or.inl ⟨by rfl,?_⟩) (by assumption) ?_;rotate_left;(intro w hSw;(try dsimp only at hSw);go_simp;try with_reducible rfl);(try simp only[Act.put]);(try simp only[List.getElem_toArray]);(try simp only[List.getElem_cons_succ]);(try simp only[List.getElem_cons_zero]);(try simp only[List.setIfInBounds_toArray]))
 (refine wpAnyH_take (i:=5) (oi:=_) (v:=?_) rfl (by kernel_rfl) (by kernel_rfl) (by kernel_rfl) (fun _ _ _ h=>h) (Or.inl ⟨by rfl,?_⟩) (by assumption) ?_;rotate_left;(intro w hSw;(try dsimp only at hSw);go_simp;try with_reducible rfl);(try simp only[Act.put]);(try simp only[List.getElem_toArray]);(try simp only[List.getElem_cons_succ]);(try simp only[List.getElem_cons_zero]);(try simp only[List.setIfInBounds_toArray]))
 (refine wpAnyH_take (i:=6) (oi:=_) (v:=?_) rfl (by kernel_rfl) (by kernel_rfl) (by kernel_rfl) (fun _ _ _ h=>h) (Or.inl ⟨by rfl,?_⟩) (by assumption) ?_;rotate_left;(intro w hSw;(try dsimp only at hSw);go_simp;try with_reducible rfl);(try simp only[Act.put]);(try simp only[List.getElem_toArray]);(try simp only[List.getElem_cons_succ]);(try simp only[List.getElem_cons_zero]);(try simp only[List.setIfInBounds_toArray]))
 (refine wpAnyH_take (i:=7) (oi:=_) (v:=?_) rfl (by kernel_rfl) (by kernel_rfl) (by kernel_rfl) (fun _ _ _ h=>h) (Or.inl ⟨by rfl,?_⟩) (by assumption) ?_;rotate_left;(intro w hSw;(try dsimp only at hSw);go_simp;try with_reducible rfl);(try simp only[Act.put]);(try simp only[List.getElem_toArray]);(try simp only[List.getElem_cons_succ]);(try simp only[List.getElem_cons_zero]);(try simp only[List.setIfInBounds_toArray]))
 ((refine wpAnyH_ready (rs:=[8]) (by kernel_rfl) (by simp) ?_);(refine AllReadyH.cons (o:=_) rfl (fun KK hK=>?_) ?_);rotate_left;exact AllReadyH.nil)
 go_simp
 refine(HDD.out _ (HF2.out.tab.ext (drew_ext wq))).mono ?_
 rintro e w3 ⟨rfl,hM⟩
 have hF3:Fr [tb,ab,wb] wq w3:=Fr.after (fr_below (drew_ext wq)) hM.2 (fun y hy=>Or.inl hy)
 have bz3:=hM.blk (block_ext bz2 (drew_ext wq)) (by omega) (by omega) (by omega)
 have hlz3:=lt_of_block bz3
 have zf:=fun i=>free_at bz3 i
 have zf0:=zf 0
 have zf1:=zf 1
 have zf2:=zf 2
 obtain⟨y0,y1,y2⟩:=cells3 bz3
 have hX:=store3 (c0:=.int .i64 a.err) (c1:=.int .i64 a.hop) (c2:=.int .i64 a.reads) bz3
 have hD:=Moved.done (v0:=.int .i64 a.err) (v1:=.int .i64 a.hop) (v2:=.int .i64 a.reads) (ext_trans HB2.out (drew_ext wq)) hM (b:=rb) hwrb (by rw[World.size_drew];exact hlz2) hlt hla hlw
 have HX:=hide (And.intro hX hD)
 have HFR:=hide hF3
 clear hM hX hD hF3 zf bz3
 go_wp2_with fail
 (refine hK.out _ _ (KS _ HFR.out) (fun hHeld=>?_);clear hK KK;(try simp only[Act.put]);(try simp only[List.getElem_toArray]);(try simp only[List.getElem_cons_succ]);(try simp only[List.getElem_cons_zero]);(try simp only[List.setIfInBounds_toArray]))
 ((refine wpAnyH_ready (rs:=[9]) (by kernel_rfl) (by simp) ?_);(refine AllReadyH.cons (o:=_) rfl (fun KK hK=>?_) ?_);rotate_left;exact AllReadyH.nil)
 go_simp
 (refine hK.out _ _ (KZ _ _ _ _ HFR.out) (fun hHeld=>?_);clear hK KK;(try simp only[Act.put]);(try simp only[List.getElem_toArray]);(try simp only[List.getElem_cons_succ]);(try simp only[List.getElem_cons_zero]);(try simp only[List.setIfInBounds_toArray]))
 (refine wpAnyH_done (by kernel_rfl) ?_ _)
 go_wp2_with fail
 obtain⟨w9,hw9⟩:∃w9,w9=(((w3.setCell ⟨rb,0,none⟩ (.int .i64 a.err)).setCell ⟨rb,1,none⟩ (.int .i64 a.hop)).setCell ⟨rb,2,none⟩ (.int .i64 a.reads)):=⟨_,rfl⟩
 have hX:=HX.out
 rw[←hw9] at hX ⊢
 clear y0 y1 y2
 obtain⟨y0,y1,y2⟩:=cells3 hX.1
 exact bodyPost_ret (v:=a.val) (by simp[results,Tryz.results27,go_sem,Ans.val,y0,y1,y2]) rfl ⟨rfl,hX.2⟩
set_option maxHeartbeats 2000000 in
set_option maxRecDepth 10000 in
theorem answer_bad (o:OpD) (fb tb ab wb:Nat) (A:Ar) (w:World) (h:FibAt w fb tb ab wb A) (hok:o.ok) (hf:opFault o≠0) :
  Calls Tryz.prog 27 #[.pointer (some ⟨fb,0,none⟩),.agg #[.int .i64 o.code,.int .i64 o.family,.string o.bits,.int .i64 o.len,.int .i64 o.hop]] w fun e w'=>e=.returned (⟨opFault o,0,0⟩:Ans).val∧Moved w w' tb ab wb A:=by
 have HDO:=hide (fun (w:World)=>deedOf_any o w)
 have HFA:=hide (fun (w:World)=>fault_any o w hok)
 obtain⟨d,hd⟩:∃d,d=deedVal o:=⟨_,rfl⟩
 obtain⟨z,hz⟩:∃z,z=opFault o:=⟨_,rfl⟩
 rw[←hd] at HDO HFA
 rw[←hz] at HFA hf ⊢
 have hlt:=h.tab.lt
 have hla:=h.tab.ar.la
 have hlw:=h.tab.ar.lw
 obtain⟨wx,hwx⟩:∃wx,wx=(w.alloc (.cells #[.int .i64 o.code,.int .i64 o.family,.string o.bits,.int .i64 o.len,.int .i64 o.hop] 27)).alloc (.cells #[.int .i64 0,.int .i64 0,.int .i64 0] 59):=⟨_,rfl⟩
 have hBx:Below w.heap.size w wx:=by rw[hwx];exact ext_trans (ext_alloc _ _) (ext_alloc _ _)
 obtain⟨rb,hrb⟩:∃rb,rb=w.heap.size+1:=⟨_,rfl⟩
 have bz:wx.heap[rb]?=some (.cells #[.int .i64 0,.int .i64 0,.int .i64 0] 59 (0,0)):=by rw[hwx,hrb,←World.size_alloc w (.cells #[.int .i64 o.code,.int .i64 o.family,.string o.bits,.int .i64 o.len,.int .i64 o.hop] 27)];exact heap_alloc_new _ _
 have hlz:=lt_of_block bz
 have HF:=hide (h.ext hBx)
 have HBX:=hide hBx
 have HBZ:=hide bz
 have HWX:=hide hwx
 have HRB:=hide hrb
 have hwrb:w.heap.size≤rb:=by omega
 clear h hwx hBx bz hrb hd hz hok
 go_enter Tryz.func27,Tryz.ntmps27
 go_wp2_with fail
 rw[←HWX.out,←HRB.out]
 refine(HDO.out _).mono ?_
 rintro e w1 ⟨rfl,hb1⟩
 have HF1:=hide (HF.out.ext hb1)
 have HB1:=hide (ext_trans HBX.out hb1)
 have HBZ1:=hide (block_ext HBZ.out hb1)
 clear hb1
 go_wp2_with fail
 refine(HFA.out _).mono ?_
 rintro e w2 ⟨rfl,hb2⟩
 have HF2:=hide (HF1.out.ext hb2)
 have HB2:=hide (ext_trans HB1.out hb2)
 have bz2:=block_ext HBZ1.out hb2
 have hlz2:=lt_of_block bz2
 have hM:Moved w2 w2 tb ab wb A:=⟨⟨ab,wb,Or.inl ⟨rfl,rfl⟩,HF2.out.tab⟩,fr_below (Below.refl _ _)⟩
 have zf0:=free_at bz2 0
 have zf1:=free_at bz2 1
 have zf2:=free_at bz2 2
 obtain⟨y0,y1,y2⟩:=cells3 bz2
 have hX:=store3 (c0:=.int .i64 z) (c1:=.int .i64 0) (c2:=.int .i64 0) bz2
 have hD:=Moved.done (v0:=.int .i64 z) (v1:=.int .i64 0) (v2:=.int .i64 0) HB2.out hM (b:=rb) hwrb hlz2 hlt hla hlw
 have HX:=hide (And.intro hX hD)
 clear hb2 hM hX hD bz2
 go_wp2
 obtain⟨w9,hw9⟩:∃w9,w9=(((w2.setCell ⟨rb,0,none⟩ (.int .i64 z)).setCell ⟨rb,1,none⟩ (.int .i64 0)).setCell ⟨rb,2,none⟩ (.int .i64 0)):=⟨_,rfl⟩
 have hX:=HX.out
 rw[←hw9] at hX ⊢
 clear y0 y1 y2
 obtain⟨y0,y1,y2⟩:=cells3 hX.1
 exact bodyPost_ret (v:=(⟨z,0,0⟩:Ans).val) (by simp[results,Tryz.results27,go_sem,Ans.val,y0,y1,y2]) rfl ⟨rfl,hX.2⟩
theorem answer_any (S:St) (o:OpD) (fb tb ab wb:Nat) (w:World) (h:FibAt w fb tb ab wb S.A) (hS:S.ok) (hok:o.ok) :
  Calls Tryz.prog 27 #[.pointer (some ⟨fb,0,none⟩),.agg #[.int .i64 o.code,.int .i64 o.family,.string o.bits,.int .i64 o.len,.int .i64 o.hop]] w fun e w'=>e=.returned (S.step o).2.val∧Moved w w' tb ab wb (S.step o).1.A:=by
 by_cases hf:opFault o=0
 ·rcases fault_code hf with hc | hc | hc | hc
  ·exact answer_ins o _ _ _ fb tb ab wb S.A w h hok hf (by unfold deedVal;rw[if_pos hc]) (na_ins _ _ _ _) (me_ins _ _ _ _) (fun w' hT=>doIns_any S o tb ab wb w' hT hS hc hf)
  ·exact answer_del o _ _ _ fb tb ab wb S.A w h hok hf (by unfold deedVal;rw[if_neg (by omega),if_pos hc]) (na_del _ _ _) (me_del _ _ _) (fun w' hT=>doDel_any S o tb ab wb w' hT hS hc hf)
  ·exact answer_look o _ _ _ fb tb ab wb S.A w h hok hf (by unfold deedVal;rw[if_neg (by omega),if_neg (by omega),if_pos hc]) (na_look _ _) (me_look _ _) (fun w' hT=>doLook_any S o tb ab wb w' hT hS hc hf)
  ·exact answer_com o _ _ _ fb tb ab wb S.A w h hok hf (by unfold deedVal;rw[if_neg (by omega),if_neg (by omega),if_neg (by omega),if_pos hc]) na_com me_com (fun w' hT=>doCom_any S o tb ab wb w' hT hS hc)
 ·have hst:S.step o=(S,⟨opFault o,0,0⟩):=by unfold St.step;rw[if_neg hf]
  rw[hst]
  exact answer_bad o fb tb ab wb S.A w h hok hf
end Go.Proofs.YtnapboelfimaaaaGreatDoor
namespace Go.Proofs.YtnapboelfimaaaaGreatDoor
open Go.RowKit Go.Deep
theorem infoAns:(Tryz.prog.info? 59).map (fun i=>(i.zero,i.size,i.bytes))=some (some (.agg #[.int .i64 0,.int .i64 0,.int .i64 0]),3,24):=by kernel_rfl
theorem run_snoc (S:St) (o:OpD):∀os,S.run (os++[o])=(((S.run os).1.step o).1,(S.run os).2++[((S.run os).1.step o).2])
 | []=>rfl
 | p :: os=>by
  have h:=run_snoc (S.step p).1 o os
  show ((((S.step p).1.run (os++[o])).1,(S.step p).2 :: ((S.step p).1.run (os++[o])).2):St × List Ans)=_
  rw[h]
  rfl
theorem run_take {S:St} {os:List OpD} {i:Nat} {o:OpD} (h:os[i]?=some o):S.run (os.take (i+1))=(((S.run (os.take i)).1.step o).1,(S.run (os.take i)).2++[((S.run (os.take i)).1.step o).2]):=by
 rw[List.take_add_one,h]
 exact run_snoc S o _
structure OpsIn (C:Array Value) (f:Nat) (os:List OpD):Prop where
 get:∀j o,os[j]?=some o→C[f+j*5]?=some (.int .i64 o.code)∧C[f+j*5+1]?=some (.int .i64 o.family)∧C[f+j*5+2]?=some (.string o.bits)∧C[f+j*5+3]?=some (.int .i64 o.len)∧C[f+j*5+4]?=some (.int .i64 o.hop)
 ok:∀o,o∈os→o.ok
structure AnsIn (X:Array Value) (n:Nat) (xs:List Ans):Prop where
 size:X.size=n*3
 get:∀j a,xs[j]?=some a→X[j*3]?=some (.int .i64 a.err)∧X[j*3+1]?=some (.int .i64 a.hop)∧X[j*3+2]?=some (.int .i64 a.reads)
theorem AnsIn.some {X:Array Value} {n i k:Nat} {xs:List Ans} (h:AnsIn X n xs) (hi:i<n) (hk:k<3):∃v,X[i*3+k]?=some v:=by
 have hs:=h.size
 have:i*3+k<X.size:=by omega
 exact⟨_,Array.getElem?_eq_getElem this⟩
theorem AnsIn.put {X:Array Value} {n:Nat} {xs:List Ans} {a:Ans} (h:AnsIn X n xs) (hi:xs.length<n) :
  AnsIn (((X.setIfInBounds (xs.length*3) (.int .i64 a.err)).setIfInBounds (xs.length*3+1) (.int .i64 a.hop)).setIfInBounds (xs.length*3+2) (.int .i64 a.reads)) n (xs++[a]):=by
 have hs:=h.size
 refine⟨by simp[hs],fun j b hj=>?_⟩
 rcases Nat.lt_or_ge j xs.length with hl | hl
 ·rw[List.getElem?_append_left hl] at hj
  obtain⟨h0,h1,h2⟩:=h.get j b hj
  refine⟨?_,?_,?_⟩
  all_goals (rw[Array.getElem?_setIfInBounds_ne (by omega),Array.getElem?_setIfInBounds_ne (by omega),Array.getElem?_setIfInBounds_ne (by omega)];assumption)
 ·have hjl:j=xs.length:=by
   rw[List.getElem?_append_right hl] at hj
   have:=(List.getElem?_eq_some_iff.1 hj).1
   simp at this
   omega
  subst hjl
  rw[List.getElem?_append_right hl,Nat.sub_self] at hj
  cases hj
  refine⟨?_,?_,?_⟩
  ·rw[Array.getElem?_setIfInBounds_ne (by omega),Array.getElem?_setIfInBounds_ne (by omega),Array.getElem?_setIfInBounds_self_of_lt (by omega)]
  ·rw[Array.getElem?_setIfInBounds_ne (by omega),Array.getElem?_setIfInBounds_self_of_lt (by simp;omega)]
  ·rw[Array.getElem?_setIfInBounds_self_of_lt (by simp;omega)]
theorem AnsIn.made (n:Nat):AnsIn (madeCells #[.int .i64 0,.int .i64 0,.int .i64 0] (n*3)) n []:=⟨size_madeCells _ _,fun j a h=>by cases h⟩
theorem FibAt.other {w:World} {fb tb ab wb b off:Nat} {A:Ar} {v:Value} (h:FibAt w fb tb ab wb A) (h0:fb≠b) (h1:tb≠b) (h2:ab≠b) (h3:wb≠b):FibAt (w.setCell ⟨b,off,none⟩ v) fb tb ab wb A:=⟨(Below.heap_setCell _ _ _ _ h0).trans h.fib,h.tab.other h1 h2 h3⟩
set_option maxHeartbeats 2000000 in
set_option maxRecDepth 10000 in
theorem run_any (S:St) (os:List OpD) (fb tb ab wb ob f cp:Nat) (C:Array Value) (ty:TypeId) {fz:Nat × Nat} (w:World) (h:FibAt w fb tb ab wb S.A) (hS:S.ok) (hb:w.heap[ob]?=some (.cells C ty fz)) (hC:OpsIn C f os) (ht:ob≠tb) (ha:ob≠ab) (hw:ob≠wb) (hn:os.length≤2932031007402) :
  Calls Tryz.prog 19 #[.pointer (some ⟨fb,0,none⟩),.slice (some ⟨ob,f,none⟩) os.length cp] w fun e w'=>e=.returned (.slice (some ⟨w.heap.size,0,none⟩) os.length os.length)∧Moved w w' tb ab wb (S.run os).1.A∧∃X,w'.heap[w.heap.size]?=some (.cells X 59 (0,0))∧AnsIn X os.length (S.run os).2:=by
 obtain⟨i0,hi,hz0,hz1,hz2⟩:=info_parts infoAns
 obtain⟨n,hnn⟩:∃n,n=os.length:=⟨_,rfl⟩
 rw[←hnn] at hn ⊢
 have hmk:∀w,(Instr.makeSlice 55 (.int .i64 n) (.int .i64 n)).run Tryz.prog w=.ok (.slice (some ⟨w.heap.size,0,none⟩) n n) (w.alloc (.cells (madeCells #[.int .i64 0,.int .i64 0,.int .i64 0] (n*3)) 59)):=by
  intro w
  have:=run_make (P:=Tryz.prog) w 55 59 i0 (.agg #[.int .i64 0,.int .i64 0,.int .i64 0]) Tryz.underlying55 hi hz0 .i64 .i64 n n (by omega) (by omega) (by rw[hz2];omega) (by omega)
  rw[hz1] at this
  exact this
 have hlt:=h.tab.lt
 have hla:=h.tab.ar.la
 have hlw:=h.tab.ar.lw
 have hlf:=lt_of_block h.fib
 have hlo:=lt_of_block hb
 have hft:=h.ft
 have hfa:=h.fa
 have hfw:=h.fw
 obtain⟨K,hK⟩:∃K,K=w.heap.size:=⟨_,rfl⟩
 rw[←hK] at hlt hla hlw hlf hlo ⊢
 obtain⟨wx,hwx⟩:∃wx,wx=(w.alloc (.cells (madeCells #[.int .i64 0,.int .i64 0,.int .i64 0] (n*3)) 59)):=⟨_,rfl⟩
 have hBx:Below w.heap.size w wx:=by rw[hwx];exact ext_alloc _ _
 have HX:=hide (show wx.heap[K]?=some (.cells (madeCells #[.int .i64 0,.int .i64 0,.int .i64 0] (n*3)) 59 (0,0)) by rw[hwx,hK];exact heap_alloc_new _ _)
 have HS:=hide hS
 have HF:=hide (h.ext hBx)
 have HB:=hide (And.intro (block_ext hb hBx) hBx)
 have HBO:=hide hb
 have HC:=hide hC
 have HWX:=hide hwx
 have HK:=hide hK
 have HN:=hide hnn
 have HFB:=hide (show FibAt w fb tb ab wb S.A from h)
 clear h hwx hBx hi hz0 hz1 hz2 hb hC hS hK hnn
 go_enter Tryz.func19,Tryz.ntmps19
 go_wp2
 rw[←HWX.out,←HK.out]
 go_loopw [13] (fun v wr=>∃(i ab' wb':Nat),v=.int .i64 (i:Int)∧i≤n∧(ab'=ab∧wb'=wb∨K<ab'∧K<wb')∧FibAt wr fb tb ab' wb' (S.run (os.take i)).1.A∧Fr [tb,ab,wb] w wr∧∃X,wr.heap[K]?=some (.cells X 59 (0,0))∧AnsIn X n (S.run (os.take i)).2) (fun v _=>n-(intOf v).toNat)
 case atStart=>exact⟨0,ab,wb,rfl,Nat.zero_le _,Or.inl ⟨rfl,rfl⟩,by rw[List.take_zero];exact HF.out,fr_below HB.out.2,_,HX.out,by rw[List.take_zero];exact AnsIn.made n⟩
 case round =>
  obtain⟨i,ab',wb',rfl,hi,hor,hF,hfr,X,hX,hA⟩:=hrel
  by_cases hin:i<n
  ·have hlen:i<os.length:=by rw[←HN.out];exact hin
   obtain⟨o,ho⟩:∃o,os[i]?=some o:=⟨_,List.getElem?_eq_getElem hlen⟩
   have hbr:=hfr.at HBO.out (by simp;omega)
   have hlor:=lt_of_block hbr
   obtain⟨c0,c1,c2,c3,c4⟩:=HC.out.get i o ho
   rw[←cell_at hbr] at c0 c1 c2 c3 c4
   have HOK:=hide (HC.out.ok o (List.mem_of_getElem? ho))
   have hok:=run_ok HS.out (os.take i)
   have hln:(S.run (os.take i)).2.length=i:=by rw[hok.2.2,List.length_take];omega
   have HAN:=hide (fun (w':World) (h:FibAt w' fb tb ab' wb' (S.run (os.take i)).1.A)=>answer_any _ o fb tb ab' wb' w' h hok.1 HOK.out)
   have HRT:=run_take (S:=S) ho
   obtain⟨⟨S2,a⟩,hT⟩:∃T,T=(S.run (os.take i)).1.step o:=⟨_,rfl⟩
   rw[←hT] at HAN HRT
   have HRT:=hide HRT
   have HI:=hide (And.intro hF (And.intro hfr (And.intro hX hA)))
   have HOR:=hide hor
   have HLN:=hide hln
   clear ho hbr hF hfr hX hA hor hok hln hT
   go_wp2_with fail
   obtain⟨wy,hwy⟩:∃wy,wy=wr.alloc (.cells #[.int .i64 o.code,.int .i64 o.family,.string o.bits,.int .i64 o.len,.int .i64 o.hop] 27):=⟨_,rfl⟩
   rw[←hwy]
   have hby:Below wr.heap.size wr wy:=by rw[hwy];exact ext_alloc _ _
   clear hwy
   refine(HAN.out _ (HI.out.1.ext hby)).mono ?_
   rintro e w3 ⟨rfl,⟨ab2,wb2,hor2,hT2⟩,hF2⟩
   have hor:=HOR.out
   have hkx:=lt_of_block (block_ext HI.out.2.2.1 hby)
   have hXy:=hF2.at (block_ext HI.out.2.2.1 hby) (by simp;omega)
   have hFb:FibAt w3 fb tb ab2 wb2 S2.A:=⟨hF2.at (block_ext HI.out.1.fib hby) (by simp;omega),hT2⟩
   have hFr:Fr [tb,ab,wb] w w3:=Fr.after (Fr.after HI.out.2.1 (fr_below hby:Fr [] wr wy) (fun y hy=>by simp at hy)) hF2 (fun y hy=>by rw[←HK.out];simp at hy ⊢;omega)
   have hor3:ab2=ab∧wb2=wb∨K<ab2∧K<wb2:=by omega
   obtain⟨v0,y0⟩:=HI.out.2.2.2.some hin (k:=0) (by omega)
   obtain⟨v1,y1⟩:=HI.out.2.2.2.some hin (k:=1) (by omega)
   obtain⟨v2,y2⟩:=HI.out.2.2.2.some hin (k:=2) (by omega)
   rw[←cell_at hXy] at y0 y1 y2
   rw[Nat.add_zero] at y0
   have zf0:=free_at hXy (i*3)
   have zf1:=free_at hXy (i*3+1)
   have zf2:=free_at hXy (i*3+2)
   have hlk:=lt_of_block hXy
   have hX9:=heap_setCell_at (off:=i*3+2) (.int .i64 a.reads) (heap_setCell_at (off:=i*3+1) (.int .i64 a.hop) (heap_setCell_at (off:=i*3) (.int .i64 a.err) hXy))
   have hA9:=HI.out.2.2.2.put (a:=a) (by rw[HLN.out];exact hin)
   rw[HLN.out] at hA9
   have HE:=hide (And.intro hFb (And.intro hFr (And.intro hX9 hA9)))
   have HOR3:=hide hor3
   have hne:tb≠K∧ab2≠K∧wb2≠K∧fb≠K:=by omega
   have HNE:=hide hne
   clear hor hXy hFb hFr hor3 hX9 hA9 hor2 hT2 hF2 hby hne hkx
   dsimp only[Ans.val]
   go_wp2
   go_roundw
   case rel =>
    obtain⟨hFb,hFr,hX9,hA9⟩:=HE.out
    obtain⟨n1,n2,n3,n4⟩:=HNE.out
    have hkw:w.heap.size≤K:=Nat.le_of_eq HK.out.symm
    refine⟨i+1,ab2,wb2,by simp,by omega,HOR3.out,?_,((hFr.setCell (Or.inr hkw) _).setCell (Or.inr hkw) _).setCell (Or.inr hkw) _,_,hX9,?_⟩
    ·rw[HRT.out]
     exact((hFb.other n4 n1 n2 n3).other n4 n1 n2 n3).other n4 n1 n2 n3
    ·rw[HRT.out]
     exact hA9
   case measure=>simp[intOf];omega
  ·have hie:i=n:=by omega
   subst hie
   have hle:os.take i=os:=List.take_of_length_le (by rw[←HN.out];exact Nat.le_refl _)
   rw[hle] at hF hA
   have HI:=hide (And.intro hF (And.intro hfr (And.intro hX hA)))
   have HOR:=hide hor
   clear hF hfr hX hA hor hle
   go_wp2
   go_ret
   obtain⟨hF,hfr,hX,hA⟩:=HI.out
   exact⟨rfl,⟨⟨ab',wb',HOR.out.imp id (fun h=>by rw[←HK.out];omega),hF.tab⟩,hfr⟩,X,hX,hA⟩
end Go.Proofs.YtnapboelfimaaaaGreatDoor
namespace Go.Proofs.YtnapboelfimaaaaGreatDoor
open Go.RowKit Go.Deep
theorem fibNew_any (n:Nat) (w:World) (h:2048≤n) (h2:n≤65536) :
  Calls Tryz.prog 17 #[.int .i64 n] w fun e w'=>e=.returned (.tuple #[.pointer (some ⟨w.heap.size+3,0,none⟩),.int .i64 0])∧Below w.heap.size w w'∧FibAt w' (w.heap.size+3) (w.heap.size+2) (w.heap.size+1) w.heap.size (newAr n):=by
 refine(bywayNew_yes n w h h2).mono ?_
 rintro e w' ⟨rfl,rfl⟩
 refine⟨rfl,?_,?_,?_,?_,?_⟩
 ·unfold afterNew
  exact((((Below.refl _ _).alloc (Nat.le_refl _) _).alloc (by simp) _).alloc (by simp;omega) _).alloc (by simp;omega) _
 ·unfold afterNew;simp only[heap_al,World.size_alloc];simp
 ·unfold afterNew;simp only[heap_al,World.size_alloc];simp
 ·unfold afterNew
  simp only[heap_al,World.size_alloc]
  rw[if_neg (by omega),if_neg (by omega),if_pos trivial,arena_new]
 ·unfold afterNew
  simp only[heap_al,World.size_alloc]
  rw[if_neg (by omega),if_neg (by omega),if_neg (by omega),if_pos trivial,made_words]
structure FB where
 fb:Nat
 tb:Nat
 ab:Nat
 wb:Nat
def FB.lies (b:FB) (w:World) (A:Ar):Prop:=FibAt w b.fb b.tb b.ab b.wb A
def FB.ge (b:FB) (K:Nat):Prop:=K≤b.fb∧K≤b.tb∧K≤b.ab∧K≤b.wb
def FB.off (b c:FB):Prop:=∀x∈[b.tb,b.ab,b.wb],x≠c.fb∧x≠c.tb∧x≠c.ab∧x≠c.wb
def FB.apart (b c:FB):Prop:=b.off c∧c.off b
theorem FB.lies.lt {b:FB} {w:World} {A:Ar} (h:b.lies w A):b.fb<w.heap.size∧b.tb<w.heap.size∧b.ab<w.heap.size∧b.wb<w.heap.size:=⟨lt_of_block h.fib,h.tab.lt,h.tab.ar.la,h.tab.ar.lw⟩
theorem FB.lies.ext {b:FB} {w w':World} {A:Ar} (h:b.lies w A) (hb:Below w.heap.size w w'):b.lies w' A:=FibAt.ext h hb
theorem FB.apart.symm {b c:FB} (h:b.apart c):c.apart b:=⟨h.2,h.1⟩
theorem FB.apart_new {b c:FB} {w:World} {A:Ar} (h:b.lies w A) (hc:c.ge w.heap.size):b.apart c:=by
 obtain⟨h0,h1,h2,h3⟩:=h.lt
 obtain⟨g0,g1,g2,g3⟩:=hc
 constructor
 ·intro x hx
  simp at hx
  rcases hx with rfl | rfl | rfl <;> omega
 ·intro x hx
  simp at hx
  rcases hx with rfl | rfl | rfl <;> omega
theorem FB.lies.other {b c:FB} {w w':World} {A:Ar} (h:c.lies w A) (hf:Fr [b.tb,b.ab,b.wb] w w') (ho:b.off c):c.lies w' A:=by
 have o1:=ho b.tb (by simp)
 have o2:=ho b.ab (by simp)
 have o3:=ho b.wb (by simp)
 refine⟨hf.at h.fib ?_,⟨hf.at h.tab.tab ?_,h.tab.ar.fr hf ?_ ?_⟩⟩
 ·simp;exact⟨Ne.symm o1.1,Ne.symm o2.1,Ne.symm o3.1⟩
 ·simp;exact⟨Ne.symm o1.2.1,Ne.symm o2.2.1,Ne.symm o3.2.1⟩
 ·simp;exact⟨Ne.symm o1.2.2.1,Ne.symm o2.2.2.1,Ne.symm o3.2.2.1⟩
 ·simp;exact⟨Ne.symm o1.2.2.2,Ne.symm o2.2.2.2,Ne.symm o3.2.2.2⟩
structure FB.moved (b b':FB) (w w':World) (B:Ar):Prop where
 fb:b'.fb=b.fb
 lies:b'.lies w' B
 ge:∀K,b.ge K→K≤w.heap.size→b'.ge K
 fr:Fr [b.tb,b.ab,b.wb] w w'
 apart:∀c A,FB.lies c w A→b.apart c→b'.apart c
theorem FB.move {b:FB} {w w':World} {A B:Ar} (h:b.lies w A) (hm:Moved w w' b.tb b.ab b.wb B):∃b',b.moved b' w w' B:=by
 obtain⟨⟨ab',wb',hor,hT⟩,hF⟩:=hm
 have hfb:=hF.at h.fib (by have:=h.ft;have:=h.fa;have:=h.fw;simp;omega)
 refine⟨⟨b.fb,b.tb,ab',wb'⟩,rfl,⟨hfb,hT⟩,?_,hF,?_⟩
 ·intro K hK hw
  obtain⟨h0,h1,h2,h3⟩:=hK
  refine⟨h0,h1,?_,?_⟩ <;> (show K≤_;simp only;omega)
 ·intro c C hc ho
  obtain⟨c0,c1,c2,c3⟩:=hc.lt
  have k2:ab'≠c.fb∧ab'≠c.tb∧ab'≠c.ab∧ab'≠c.wb:=by
   rcases hor with ⟨e,_⟩ | ⟨e,_⟩
   ·rw[e];exact ho.1 b.ab (by simp)
   ·refine⟨?_,?_,?_,?_⟩ <;> omega
  have k3:wb'≠c.fb∧wb'≠c.tb∧wb'≠c.ab∧wb'≠c.wb:=by
   rcases hor with ⟨_,e⟩ | ⟨_,e⟩
   ·rw[e];exact ho.1 b.wb (by simp)
   ·refine⟨?_,?_,?_,?_⟩ <;> omega
  have o1:=ho.1 b.tb (by simp)
  have p1:=ho.2 c.tb (by simp)
  have p2:=ho.2 c.ab (by simp)
  have p3:=ho.2 c.wb (by simp)
  constructor
  ·intro x hx
   simp at hx
   rcases hx with rfl | rfl | rfl
   ·exact o1
   ·exact k2
   ·exact k3
  ·intro x hx
   simp at hx
   show x≠b.fb∧x≠b.tb∧x≠ab'∧x≠wb'
   rcases hx with rfl | rfl | rfl
   ·exact⟨p1.1,p1.2.1,Ne.symm k2.2.1,Ne.symm k3.2.1⟩
   ·exact⟨p2.1,p2.2.1,Ne.symm k2.2.2.1,Ne.symm k3.2.2.1⟩
   ·exact⟨p3.1,p3.2.1,Ne.symm k2.2.2.2,Ne.symm k3.2.2.2⟩
theorem FB.moved.other {b b' c:FB} {w w':World} {A B:Ar} (h:b.moved b' w w' B) (hc:c.lies w A) (ho:b.apart c):c.lies w' A:=FB.lies.other (b:=b) (c:=c) (w:=w) hc h.fr ho.1
theorem FB.moved.below {b b':FB} {w w':World} {B:Ar} {K:Nat} (h:b.moved b' w w' B) (hK:b.ge K) (hw:K≤w.heap.size):Below K w w':=h.fr.below hw (by
 obtain⟨h0,h1,h2,h3⟩:=hK
 intro x hx
 simp at hx
 rcases hx with rfl | rfl | rfl <;> assumption)
end Go.Proofs.YtnapboelfimaaaaGreatDoor
namespace Go.Proofs.YtnapboelfimaaaaGreatDoor
open Go.RowKit Go.Deep
set_option maxHeartbeats 2000000 in
set_option maxRecDepth 10000 in
theorem tdump_any (A:Ar) (M:Tab) (q:Bool) (tb ab wb:Nat) (f:Int) (n:Nat) (w:World) (hT:TabAt w tb ab wb A) (hZ:TzTab w) (hI:DumpIn A M q f n) (hlen:(dumpR M (dp q)).length≤4194304) :
  Calls Tryz.prog 36 #[.pointer (some ⟨tb,0,none⟩),.int .i64 f] w fun e w'=>∃v,e=.returned v∧w'.ownsRow w.heap.size 66 3 v (dumpR M (dp q)).length (rowsOf n (dumpR M (dp q)))∧Below w.heap.size w w':=by
 have hlt:=hT.lt
 have hla:=hT.ar.la
 have hlw:=hT.ar.lw
 have h1w:1<w.heap.size:=World.block_lt_of_cell? w _ (hZ 0 (by decide))
 have c0:=hT.cell
 have HT:=hide hT
 have HZ:=hide hZ
 have HI:=hide hI
 have HLEN:=hide hlen
 clear hT hZ hI hlen
 go_enter Tryz.func36,Tryz.ntmps36
 go_wp2_with fail
 refine(reader_any ab _).mono ?_
 rintro e w1 ⟨rfl,hb1⟩
 have hz1:=hb1.size
 go_wp2_with fail
 obtain⟨rb,hrb⟩:∃rb,rb=w1.heap.size:=⟨_,rfl⟩
 obtain⟨w0,hw0⟩:∃w0,w0=w1.alloc (.cells #[.pointer (some ⟨ab,0,none⟩),.int .i64 0,.int .i64 f,.slice none 0 0] 96):=⟨_,rfl⟩
 rw[←hw0,←hrb]
 have hb0:Below w1.heap.size w1 w0:=by rw[hw0];exact ext_alloc _ _
 have hbw:Below w.heap.size w w0:=ext_trans hb1 hb0
 have hr0:w0.heap[rb]?=some (.cells #[.pointer (some ⟨ab,0,none⟩),.int .i64 0,.int .i64 f,.slice none 0 0] 96 (0,0)):=by rw[hw0,hrb];exact heap_alloc_new _ _
 have hrl:=lt_of_block hr0
 have hD:DumpOk A ab wb rb w0:=⟨HT.out.ar.ext hbw,fun j hj=>cell_ext (HZ.out j hj) hbw,by omega,by omega,by omega⟩
 have hI:=HI.out
 have hA0:DumpAt ab rb f n w0 [] w0:=⟨⟨0,_,hr0,World.ownsRow_nil _ _ _ _⟩,Fr.refl _ _⟩
 have hll:([]++(List.range (2^8)).flatMap (outN (gbN M 0 0) (geR M (dp q)) 8)).length≤4194304:=by
  rw[List.nil_append]
  have:=HLEN.out
  rw[dumpR_out] at this
  exact this
 refine(inOrder_any (fun L' w'=>DumpAt ab rb f n w0 L' w') (gbN M 0 0) (geR M (dp q)) 8 48 49 #[.pointer (some ⟨rb,0,none⟩)] #[] #[.pointer (some ⟨rb,0,none⟩)] #[] [] 4194304 w0 (by decide) hll hA0 (fun L' w' hp=>hD.tzAt hp.fr) (fun _ _=>by kernel_rfl) (fun _ _=>by kernel_rfl) ?_ ?_).mono ?_
 ·intro l v L' w' hl hv hp hlen
  have hc:=dshort_any A M q ab wb rb f n w0 hD hI hrl l v hl hv L' hlen w' hp
  simp only[List.append_toArray,List.cons_append,List.nil_append,List.append_nil]
  refine hc.mono ?_
  rintro e w'' ⟨rfl,h1,h2⟩
  exact⟨rfl,h1⟩
 ·intro v L' w' hv hp hlen
  have hc:=dfirst_any A M q ab wb rb f n w0 hD hI hrl v hv L' w' hp (by
   intro w'' h0 hany hd
   have hge:geR M (dp q) v=dumpN M (dp q) 8 v:=by unfold geR;rw[if_pos hany]
   rw[hge] at hlen
   exact dnode_any A M ab wb rb f n w0 hD hI.sane hrl hI.bytes (dp q) 0 v _ L' w'' (by have:=dp_le q;omega) (hI.on v hv h0) hlen hd)
  simp only[List.push_toArray,List.append_toArray,List.cons_append,List.nil_append,List.append_nil]
  refine hc.mono ?_
  rintro e w'' ⟨rfl,h1,h2⟩
  exact⟨rfl,h1⟩
 rintro e w4 ⟨rfl,h4⟩
 rw[List.nil_append] at h4
 have hge:geR M (dp q)=fun b=>if anyBelow M 8 b then dumpN M (dp q) 8 b else []:=rfl
 rw[hge,←dumpR_out] at h4
 obtain⟨k4,rs,hr4,hown⟩:=h4.blk
 have c4:w4.cell? ⟨rb,3,none⟩=some rs:=by rw[cell_at hr4];rfl
 have hB4:Below w.heap.size w w4:=fr_nil (Fr.after (S:=[]) (fr_below hbw) h4.fr (fun y hy=>by simp at hy;right;omega))
 have hl4:=lt_of_block hr4
 have HE:=hide (And.intro (owns_base hown hbw.size) hB4)
 clear h4 hr4 hown hB4 hrb hw0 hr0
 go_wp2
 go_ret
 exact⟨_,rfl,HE.out.1,HE.out.2⟩
theorem St.ok.sane {S:St} (h:S.ok):Sane S.A:=by
 obtain⟨F,hI⟩:=h.inv
 exact(hI.good h.wok).sane (by omega)
theorem St.ok.dumpIn {S:St} (h:S.ok) (f:Int):DumpIn S.A (S.M (fam f)) (fam f) f (famBytes f):=by
 obtain⟨F,hI⟩:=h.inv
 exact⟨hI.root _,fun b hb h0=>On.root hI _ hb h0,h.sane,hI.size,rfl,rfl⟩
theorem St.ok.len {S:St} (h:S.ok) (q:Bool):(dumpR (S.M q) (dp q)).length≤67584:=by
 obtain⟨F,hI⟩:=h.inv
 exact hI.dump_le h.sane.size q
set_option maxHeartbeats 1000000 in
theorem fdump_any (S:St) (hS:S.ok) (b:FB) (w:World) (h:b.lies w S.A) (hZ:TzTab w) (f:Int) (hf:famBytes f≠0) :
  Calls Tryz.prog 23 #[.pointer (some ⟨b.fb,0,none⟩),.int .i64 f] w fun e w'=>∃v,e=.returned v∧w'.ownsRow w.heap.size 66 3 v (dumpR (S.M (fam f)) (dp (fam f))).length (rowsOf (famBytes f) (dumpR (S.M (fam f)) (dp (fam f))))∧Below w.heap.size w w':=by
 have HC:=hide (tdump_any S.A (S.M (fam f)) (fam f) b.tb b.ab b.wb f (famBytes f) w h.tab hZ (hS.dumpIn f) (by have:=hS.len (fam f);omega))
 have c0:w.cell? ⟨b.fb,0,none⟩=some (.pointer (some ⟨b.tb,0,none⟩)):=by rw[cell_at h.fib];rfl
 have hl:=lt_of_block h.fib
 have e0:((famBytes f:Int)==0)=false:=by simp;omega
 clear h hZ
 go_enter Tryz.func23,Tryz.ntmps23
 go_wp2_with fail
 refine(addressBytes_any f _).mono ?_
 rintro e w' ⟨rfl,rfl⟩
 go_wp2_with fail
 refine HC.out.mono ?_
 rintro e w4 ⟨v,rfl,h1,h2⟩
 have HE:=hide (And.intro h1 h2)
 clear h1 h2 HC
 go_wp2
 go_ret
 exact⟨_,rfl,HE.out.1,HE.out.2⟩
end Go.Proofs.YtnapboelfimaaaaGreatDoor
