/- WldC, WldD, WldE, WldF: parts of the proof, one behind the other. -/
import Derived.Test.YtnapboelfimaaaaGreatDoorB35
namespace Go.Proofs.YtnapboelfimaaaaGreatDoor
open Go.RowKit Go.Deep
theorem op_at {l:List OpD} {k:Nat} (h:k<l.length):l[k]?=some (l.getD k OpD.zero):=by rw[List.getD_eq_getElem?_getD,List.getElem?_eq_getElem h];rfl
theorem owns_one {w w':World} {base e size n k:Nat} {v:Value} {xs:List Value} {t:TypeId} (h:w.ownsRow base e size v n xs) (hf:Fr [k] w w') (ht:IsT w k t) (hne:t≠e):w'.ownsRow base e size v n xs :=
 owns_frh h hf (fun g c hg hm=>by
  rw[List.mem_singleton] at hm
  subst hm
  exact ht.ne hg (Ne.symm hne) rfl)
theorem FB.lies.typed {b:FB} {w w':World} {A:Ar} {S:List Nat} (h:b.lies w A) (hf:Fr S w w') (hS:∀k∈S,∃t,IsT w k t∧t≠69∧t≠81∧t≠103∧t≠136):b.lies w' A:=by
 refine⟨hf.at h.fib ?_,⟨hf.at h.tab.tab ?_,h.tab.ar.fr hf ?_ ?_⟩⟩
 ·intro hk
  obtain⟨t,ht,n1,n2,n3,n4⟩:=hS _ hk
  exact ht.ne h.fib (Ne.symm n1) rfl
 ·intro hk
  obtain⟨t,ht,n1,n2,n3,n4⟩:=hS _ hk
  exact ht.ne h.tab.tab (Ne.symm n2) rfl
 ·intro hk
  obtain⟨t,ht,n1,n2,n3,n4⟩:=hS _ hk
  exact ht.ne h.tab.ar.arena (Ne.symm n3) rfl
 ·intro hk
  obtain⟨t,ht,n1,n2,n3,n4⟩:=hS _ hk
  exact ht.ne h.tab.ar.words (Ne.symm n4) rfl
theorem RefAt.typed {w w':World} {rb:Nat} {d:RefD} {S:List Nat} (h:RefAt w rb d) (hf:Fr S w w') (hS:∀k∈S,∃t,IsT w k t∧t≠48∧t≠66):RefAt w' rb d:=by
 refine h.fr hf ?_ ?_
 ·intro hk
  obtain⟨t,ht,n1,_⟩:=hS _ hk
  obtain⟨a4,a6,c4,c6,hrb,_⟩:=h
  exact ht.ne hrb (Ne.symm n1) rfl
 ·intro k hk ⟨c,fz,hc⟩
  obtain⟨t,ht,_,n2⟩:=hS _ hk
  exact ht.ne hc (Ne.symm n2) rfl
theorem hold_rows1 (hb:Nat) (m:Int) (a:Option Addr) (l c:Nat):(⟨hb,m,a,l,c,none,0,0,none,0,0⟩:HoldD).rows=bls a:=by show (bls a++[])++[]=_;rw[List.append_nil,List.append_nil]
theorem hold_rows3 (hb:Nat) (m:Int) (a:Option Addr) (l c:Nat):(⟨hb,m,none,0,0,none,0,0,a,l,c⟩:HoldD).rows=bls a:=by show ([]++[])++bls a=_;rw[List.nil_append,List.nil_append]
set_option maxHeartbeats 8000000 in
set_option maxRecDepth 10000 in
theorem ran_any (K b i:Nat) (w:World) (k0 n0 words0 f0:Int) (ops:List OpD) (oa:Option Addr) (oc n:Nat) (ps:List PlD) (hs:List HoldD) (pa ha:Option Addr) (pc hc:Nat) (p:PlD) (hW:WAt K w b ps hs pa pc ha hc) (hi:ps[i]?=some p) (hK:K≤w.heap.size)
  (hn:n=ops.length) (hops:∀o∈ops,o.ok) (hown:w.ownsRow 0 27 5 (.slice oa n oc) n (flatO ops)) (hl:n≤2932031007317) (hh:hs.length≤20999999999990) :
  Calls Tryz.prog 13 #[.pointer (some ⟨b,0,none⟩),.pointer (some ⟨p.pb,0,none⟩),.agg #[.int .i64 k0,.int .i64 n0,.int .i64 words0,.slice oa n oc,.int .i64 f0]] w fun e w'=>e=.returned (.bool true)∧∃p' hs' ha' hc',WAt K w' b (ps.set i p') hs' pa pc ha' hc'∧FrT writes K w w'∧hs'.length=hs.length+8:=by
 obtain⟨i0,hi0,hz0,hz1,hz2⟩:=info_parts infoOpC
 have hmk:∀w,(Instr.makeSlice 28 (.int .i64 ((n:Int)+8)) (.int .i64 ((n:Int)+8))).run Tryz.prog w=.ok (.slice (some ⟨w.heap.size,0,none⟩) (n+8) (n+8)) (w.alloc (.cells (madeCells #[.int .i64 0,.int .i64 0,.string .empty,.int .i64 0,.int .i64 0] ((n+8)*5)) 27)):=by
  intro w
  have:=run_make (P:=Tryz.prog) w 28 27 i0 (.agg #[.int .i64 0,.int .i64 0,.string .empty,.int .i64 0,.int .i64 0]) Tryz.underlying28 hi0 hz0 .i64 .i64 (n+8) (n+8) (by omega) (by omega) (by rw[hz2];omega) (by omega)
  rw[hz1] at this
  exact this
 have hp:=hW.pl p (List.mem_of_getElem? hi)
 obtain⟨sb,hsb⟩:∃sb,sb=w.heap.size:=⟨_,rfl⟩
 obtain⟨W1,hW1⟩:∃W1:World,W1=(w.alloc (.cells #[.int .i64 k0,.int .i64 n0,.int .i64 words0,.slice oa n oc,.int .i64 f0] 30)).alloc (.cells (madeCells #[.int .i64 0,.int .i64 0,.string .empty,.int .i64 0,.int .i64 0] ((n+8)*5)) 27):=⟨_,rfl⟩
 have e1:Below w.heap.size w W1:=by rw[hW1];exact ext_trans (ext_alloc _ _) (ext_alloc _ _)
 have s1:W1.heap[sb]?=some (.cells #[.int .i64 k0,.int .i64 n0,.int .i64 words0,.slice oa n oc,.int .i64 f0] 30 (0,0)):=by rw[hW1,hsb];exact block_ext (heap_alloc_new w _) (ext_alloc _ _)
 have o1:W1.heap[sb+1]?=some (.cells (madeCells #[.int .i64 0,.int .i64 0,.string .empty,.int .i64 0,.int .i64 0] ((n+8)*5)) 27 (0,0)):=by rw[hW1,hsb];exact(by have:=heap_alloc_new (w.alloc (.cells #[.int .i64 k0,.int .i64 n0,.int .i64 words0,.slice oa n oc,.int .i64 f0] 30)) (.cells (madeCells #[.int .i64 0,.int .i64 0,.string .empty,.int .i64 0,.int .i64 0] ((n+8)*5)) 27);rw[World.size_alloc] at this;exact this)
 obtain⟨W2,hW2⟩:∃W2:World,W2=W1.setRow (sb+1) (flatO (spareO ops)).toArray:=⟨_,rfl⟩
 have hcp:∀ty,(Builtin.copy_ #[28,28] ty #[.slice (some ⟨w.heap.size+1,0,none⟩) (n+8) (n+8),.slice oa n oc]).run Tryz.prog ((w.alloc (.cells #[.int .i64 k0,.int .i64 n0,.int .i64 words0,.slice oa n oc,.int .i64 f0] 30)).alloc (.cells (madeCells #[.int .i64 0,.int .i64 0,.string .empty,.int .i64 0,.int .i64 0] ((n+8)*5)) 27))=.ok (goInt n) W2:=by
  intro ty
  rw[←hW1,←hsb,run_copy_ops W1 ty (sb+1) (n+8) (n+8) n oc oa _ ops o1 hn (by omega) (by rw[size_madeCells];omega) (owns_ext hown e1),hW2,hn,copied_ops]
 have f2:Fr [sb+1] W1 W2:=by rw[hW2];exact setRow_frame
 have e2:Below w.heap.size w W2:=fr_nil (Fr.after (S:=[]) (fr_below e1) f2 (fun y hy=>by simp at hy;right;omega))
 have s2:W2.heap[sb]?=some (.cells #[.int .i64 k0,.int .i64 n0,.int .i64 words0,.slice oa n oc,.int .i64 f0] 30 (0,0)):=f2.at s1 (by simp)
 have o2:W2.heap[sb+1]?=some (.cells (flatO (spareO ops)).toArray 27 (0,0)):=by rw[hW2];exact setRow_heap _ _ _ _ _ _ o1
 have HW:=hide hW
 have HP:=hide hp
 have HI:=hide hi
 have HO:=hide hown
 have HOPS:=hide hops
 have HN:=hide hn
 have H2:=hide (And.intro e2 (And.intro s2 o2))
 have HSB:=hide hsb
 have p2:=block_ext hp.blk e2
 have HPB:=hide p2
 have q0:W2.cell? ⟨p.pb,0,none⟩=some (.pointer (some ⟨p.b.fb,0,none⟩)):=(cell_at p2 0).trans rfl
 have q1:W2.cell? ⟨sb,3,none⟩=some (.slice oa n oc):=(cell_at s2 3).trans rfl
 have hlb:=hW.lt
 have hlp:=lt_of_block p2
 clear hW hi hp hown hops hn e1 s1 o1 f2 e2 s2 o2 hW1 hW2 p2 hi0 hz0 hz1 hz2
 go_enter Tryz.func13,Tryz.ntmps13
 go_wp2_with fail
 rw[←HSB.out]
 clear hmk hcp hsb
 obtain⟨pb,hpb⟩:∃pb,pb=p.pb:=⟨_,rfl⟩
 obtain⟨fb,hfb⟩:∃fb,fb=p.b.fb:=⟨_,rfl⟩
 obtain⟨rb,hrb⟩:∃rb,rb=p.rb:=⟨_,rfl⟩
 have HPBE:=hide hpb
 have HFBE:=hide hfb
 have HRBE:=hide hrb
 rw[←hpb] at q0 HPB hlp ⊢
 rw[←hfb] at q0
 clear hpb hfb hrb
 have hn8:(n:Int)≤(n:Int)+8:=by omega
 have KS:∀w':World,w'.heap[pb]?=some (.cells p.cells 44 (0,0))→w'.heap[sb]?=some (.cells #[.int .i64 k0,.int .i64 n0,.int .i64 words0,.slice oa n oc,.int .i64 f0] 30 (0,0))→(fun w':World=>w'.cell? ⟨pb,0,none⟩=some (.pointer (some ⟨fb,0,none⟩))∧w'.cell? ⟨sb,3,none⟩=some (.slice oa n oc)) w':=fun w' h1 h2=>⟨(cell_at h1 0).trans (by rw[HFBE.out];rfl),(cell_at h2 3).trans rfl⟩
 refine wp_region_held_drew (S:=(fun w':World=>w'.cell? ⟨pb,0,none⟩=some (.pointer (some ⟨fb,0,none⟩))∧w'.cell? ⟨sb,3,none⟩=some (.slice oa n oc))) (by kernel_rfl) (KS _ (block_ext HPB.out (drew_ext W2)) (block_ext H2.out.2.1 (drew_ext W2))) (fun hHeld=>?_)
 (refine wpAnyH_take (i:=0) (oi:=_) (v:=?_) rfl (by kernel_rfl) (by kernel_rfl) (by kernel_rfl) (fun _ _ _ h=>h) (Or.inl ⟨by rfl,?_⟩) (by assumption) ?_;rotate_left;(intro w hSw;(try dsimp only at hSw);go_simp;try with_reducible rfl);(try simp only[Act.put]);(try simp only[List.getElem_toArray]);(try simp only[List.getElem_cons_succ]);(try simp only[List.getElem_cons_zero]);(try simp only[List.setIfInBounds_toArray]))
 (refine wpAnyH_take (i:=1) (oi:=_) (v:=?_) rfl (by kernel_rfl) (by kernel_rfl) (by kernel_rfl) (fun _ _ _ h=>h) (Or.inl ⟨by rfl,?_⟩) (by assumption) ?_;rotate_left;(intro w hSw;(try dsimp only at hSw);go_simp;try with_reducible rfl);(try simp only[Act.put]);(try simp only[List.getElem_toArray]);(try simp only[List.getElem_cons_succ]);(try simp only[List.getElem_cons_zero]);(try simp only[List.setIfInBounds_toArray]))
 (refine wpAnyH_take (i:=2) (oi:=_) (v:=?_) rfl (by kernel_rfl) (by kernel_rfl) (by kernel_rfl) (fun _ _ _ h=>h) (Or.inl ⟨by rfl,?_⟩) (by assumption) ?_;rotate_left;(intro w hSw;(try dsimp only at hSw);go_simp;try with_reducible rfl);(try simp only[Act.put]);(try simp only[List.getElem_toArray]);(try simp only[List.getElem_cons_succ]);(try simp only[List.getElem_cons_zero]);(try simp only[List.setIfInBounds_toArray]))
 (refine wpAnyH_take (i:=3) (oi:=_) (v:=?_) rfl (by kernel_rfl) (by kernel_rfl) (by kernel_rfl) (fun _ _ _ h=>h) (Or.inl ⟨by rfl,?_⟩) (by assumption) ?_;rotate_left;(intro w hSw;(try dsimp only at hSw);go_simp;try with_reducible rfl);(try simp only[Act.put]);(try simp only[List.getElem_toArray]);(try simp only[List.getElem_cons_succ]);(try simp only[List.getElem_cons_zero]);(try simp only[List.setIfInBounds_toArray]))
 (refine wpAnyH_take (i:=4) (oi:=_) (v:=?_) rfl (by kernel_rfl) (by kernel_rfl) (by kernel_rfl) (fun _ _ _ h=>h) (Or.inl ⟨by rfl,?_⟩) (by assumption) ?_;rotate_left;(intro w hSw;(try dsimp only at hSw);go_simp;try with_reducible rfl);(try simp only[Act.put]);(try simp only[List.getElem_toArray]);(try simp only[List.getElem_cons_succ]);(try simp only[List.getElem_cons_zero]);(try simp only[List.setIfInBounds_toArray]))
 (refine wpAnyH_take (i:=5) (oi:=_) (v:=?_) rfl (by kernel_rfl) (by kernel_rfl) (by kernel_rfl) (fun _ _ _ h=>h) (Or.inl ⟨by rfl,?_⟩) (by assumption) ?_;rotate_left;(intro w hSw;(try dsimp only at hSw);go_simp;try with_reducible rfl);(try simp only[Act.put]);(try simp only[List.getElem_toArray]);(try simp only[List.getElem_cons_succ]);(try simp only[List.getElem_cons_zero]);(try simp only[List.setIfInBounds_toArray]))
 (refine wpAnyH_take (i:=6) (oi:=_) (v:=?_) rfl (by kernel_rfl) (by kernel_rfl) (by kernel_rfl) (fun _ _ _ h=>h) (Or.inl ⟨by rfl,?_⟩) (by assumption) ?_;rotate_left;(intro w hSw;(try dsimp only at hSw);go_simp;try with_reducible rfl);(try simp only[Act.put]);(try simp only[List.getElem_toArray]);(try simp only[List.getElem_cons_succ]);(try simp only[List.getElem_cons_zero]);(try simp only[List.setIfInBounds_toArray]))
 (refine wpAnyH_take (i:=7) (oi:=_) (v:=?_) rfl (by kernel_rfl) (by kernel_rfl) (by kernel_rfl) (fun _ _ _ h=>h) (Or.inl ⟨by rfl,?_⟩) (by assumption) ?_;rotate_left;(intro w hSw;(try dsimp only at hSw);go_simp;try with_reducible rfl);(try simp only[Act.put]);(try simp only[List.getElem_toArray]);(try simp only[List.getElem_cons_succ]);(try simp only[List.getElem_cons_zero]);(try simp only[List.setIfInBounds_toArray]))
 (refine wpAnyH_take (i:=8) (oi:=_) (v:=?_) rfl (by kernel_rfl) (by kernel_rfl) (by kernel_rfl) (fun _ _ _ h=>h) (Or.inl ⟨by rfl,?_⟩) (by assumption) ?_;rotate_left;(intro w hSw;(try dsimp only at hSw);go_simp;try with_reducible rfl);(try simp only[Act.put]);(try simp only[List.getElem_toArray]);(try simp only[List.getElem_cons_succ]);(try simp only[List.getElem_cons_zero]);(try simp only[List.setIfInBounds_toArray]))
 ((refine wpAnyH_ready (rs:=[9]) (by kernel_rfl) (by simp) ?_);(refine AllReadyH.cons (o:=_) rfl (fun KK hK=>?_) ?_);rotate_left;exact AllReadyH.nil)
 go_simp
 go_at_call 19
 refine(run_row p.S ops _ p.b fb (sb+1) (n+8) n W2.drew (HP.out.fib.ext (ext_trans H2.out.1 (drew_ext W2))) HP.out.ok HFBE.out.symm (block_ext H2.out.2.2 (drew_ext W2)) (spare_in HOPS.out) HN.out (by omega)).mono ?_
 rintro e w3 ⟨rfl,b',hb',hm,hok3,X,hX,hA⟩
 obtain⟨kA,hkA⟩:∃kA,kA=W2.drew.heap.size:=⟨_,rfl⟩
 rw[←hkA] at hX ⊢
 have lD:=HP.out.fib.ext (ext_trans H2.out.1 (drew_ext W2))
 have PB3:=hide (hm.keep lD (block_ext HPB.out (drew_ext W2)) (by decide) (by decide) (by decide))
 have SB3:=hide (hm.keep lD (block_ext H2.out.2.1 (drew_ext W2)) (by decide) (by decide) (by decide))
 have OB3:=hide (hm.keep lD (block_ext H2.out.2.2 (drew_ext W2)) (by decide) (by decide) (by decide))
 have XB3:=hide hX
 have HA:=hide hA
 have HM:=hide hm
 have HOK3:=hide hok3
 have HB':=hide hb'
 have F3:=hide (show Fr [p.b.tb,p.b.ab,p.b.wb] w w3 from Fr.after (fr_below (ext_trans H2.out.1 (drew_ext W2))) hm.fr (fun y hy=>Or.inl hy))
 have HKA:=hide (show w.heap.size≤kA∧sb+1<kA by rw[hkA];exact⟨(ext_trans H2.out.1 (drew_ext W2)).size,lt_of_block (block_ext H2.out.2.2 (drew_ext W2))⟩)
 have t1:IsT w p.b.tb 81:=⟨_,_,HP.out.fib.tab.tab⟩
 have t2:IsT w p.b.ab 103:=⟨_,_,HP.out.fib.tab.ar.arena⟩
 have t3:IsT w p.b.wb 136:=⟨_,_,HP.out.fib.tab.ar.words⟩
 have RT3:=hide (show RefAt w3 rb (refOf p.S) by
  rw[HRBE.out]
  obtain⟨a4,a6,c4,c6,hrb,_⟩:=HP.out.ref
  refine HP.out.ref.fr F3.out ?_ ?_
  ·intro hk
   simp only[List.mem_cons,List.not_mem_nil,or_false] at hk
   rcases hk with e | e | e
   ·exact t1.ne hrb (by decide) e
   ·exact t2.ne hrb (by decide) e
   ·exact t3.ne hrb (by decide) e
  ·intro k hk ⟨c,fz,hc⟩
   simp only[List.mem_cons,List.not_mem_nil,or_false] at hk
   rcases hk with e | e | e
   ·exact t1.ne hc (by decide) e
   ·exact t2.ne hc (by decide) e
   ·exact t3.ne hc (by decide) e)
 have O3:=hide (show w3.ownsRow 0 27 5 (.slice oa n oc) n (flatO ops) from owns_frh HO.out F3.out (fun g c hg hk=>by
  simp only[List.mem_cons,List.not_mem_nil,or_false] at hk
  rcases hk with e | e | e
  ·exact t1.ne hg (by decide) e
  ·exact t2.ne hg (by decide) e
  ·exact t3.ne hg (by decide) e))
 clear hX hA hm hok3 hb' lD hkA t1 t2 t3
 go_wp2_with fail
 (refine hK.out _ _ (KS _ PB3.out SB3.out) (fun hHeld=>?_);clear hK KK;(try simp only[Act.put]);(try simp only[List.getElem_toArray]);(try simp only[List.getElem_cons_succ]);(try simp only[List.getElem_cons_zero]);(try simp only[List.setIfInBounds_toArray]))
 (refine wpAnyH_take (i:=10) (oi:=_) (v:=?_) rfl (by kernel_rfl) (by kernel_rfl) (by kernel_rfl) (fun _ _ _ h=>h) (Or.inl ⟨by rfl,?_⟩) (by assumption) ?_;rotate_left;(intro w hSw;(try dsimp only at hSw);go_simp;try with_reducible rfl);(try simp only[Act.put]);(try simp only[List.getElem_toArray]);(try simp only[List.getElem_cons_succ]);(try simp only[List.getElem_cons_zero]);(try simp only[List.setIfInBounds_toArray]))
 (refine wpAnyH_done (by kernel_rfl) ?_ _)
 clear hHeld KS q0 q1
 have q3:w3.cell? ⟨sb,3,none⟩=some (.slice oa n oc):=(cell_at SB3.out 3).trans rfl
 have hls3:=lt_of_block SB3.out
 go_wp2_with fail
 go_loopw [9,10] (fun okv iv wr=>∃k:Nat,k≤n∧okv=.bool true∧iv=.int .i64 (k:Int)∧RefAt wr rb (refOf (p.S.run (ops.take k)).1)∧Fr [rb] w3 wr) (fun _ i _=>n-(intOf i).toNat)
 case atStart=>exact⟨0,Nat.zero_le _,by simp,rfl,RT3.out,Fr.refl _ _⟩
 case round =>
  obtain⟨k,hk,rfl,rfl,hrt,hfr⟩:=hrel
  have HRT:=hide hrt
  have HFR:=hide hfr
  have tr:IsT w3 rb 48:=by obtain⟨a4,a6,c4,c6,hrb,_⟩:=RT3.out;exact⟨_,_,hrb⟩
  have HTR:=hide tr
  have PBr:=hide (hfr.at PB3.out (by simp;exact tr.ne PB3.out (by decide)))
  have SBr:=hide (hfr.at SB3.out (by simp;exact tr.ne SB3.out (by decide)))
  have OBr:=hide (hfr.at OB3.out (by simp;exact tr.ne OB3.out (by decide)))
  have XBr:=hide (hfr.at XB3.out (by simp;exact tr.ne XB3.out (by decide)))
  have ORW:=hide (owns_one O3.out hfr tr (by decide))
  have hlsr:=lt_of_block SBr.out
  have hlpr:=lt_of_block PBr.out
  have hlxr:=lt_of_block XBr.out
  clear hrt hfr tr
  by_cases hkl:k<n
  ·have hkl':k<ops.length:=by rw[←HN.out];exact hkl
   obtain⟨o,ho⟩:∃o,o=ops.getD k OpD.zero:=⟨_,rfl⟩
   obtain⟨g,hg,hgl,c0,c1,c2,c3,c4⟩:=row_op ORW.out hkl HN.out
   rw[←ho] at c0 c1 c2 c3 c4
   have hoo:ops[k]?=some o:=by rw[ho];exact op_at hkl'
   obtain⟨a,ha'⟩:∃a,a=((p.S.run (ops.take k)).1.step o).2:=⟨_,rfl⟩
   have hga:=run_get p.S ops k o hoo
   rw[←ha'] at hga
   obtain⟨x0,x1,x2⟩:=HA.out.get k a hga
   rw[←cell_at XBr.out] at x0 x1 x2
   have hSk:=(run_ok HP.out.ok (ops.take k)).1
   have HDO:=hide (fun (wx:World) (hx:RefAt wx rb (refOf (p.S.run (ops.take k)).1))=>do_any rb _ _ o a wx hx (ref_small hSk) (ref_ok hSk) (by rw[ha'];exact right_step hSk o))
   have HNX:=hide (run_next (S:=p.S) hoo)
   subst hg
   have HC:=hide (And.intro c0 (And.intro c1 (And.intro c2 (And.intro c3 c4))))
   have HX:=hide (And.intro x0 (And.intro x1 x2))
   have hob:∃C,wr.heap[g]?=some (.cells C 27 (0,0)):=by
    rcases ORW.out.2 with ⟨ev,_⟩ | ⟨g',cp,cur,ev,_,hh',_⟩
    ·cases ev
    ·cases ev;exact⟨_,hh'⟩
   obtain⟨C,hC⟩:=hob
   have HG:=hide hC
   clear ho ha' hga hoo hSk c0 c1 c2 c3 c4 x0 x1 x2 hC
   go_wp2_with fail
   have KS8:∀w':World,w'.heap[pb]?=some (.cells p.cells 44 (0,0))→w'.heap[sb]?=some (.cells #[.int .i64 k0,.int .i64 n0,.int .i64 words0,.slice (some ⟨g,0,none⟩) n oc,.int .i64 f0] 30 (0,0))→w'.heap[g]?=some (.cells C 27 (0,0))→w'.heap[kA]?=some (.cells X 59 (0,0))→(fun w':World=>w'.cell? ⟨pb,1,none⟩=some (.pointer (some ⟨rb,0,none⟩))∧w'.cell? ⟨sb,3,none⟩=some (.slice (some ⟨g,0,none⟩) n oc)∧w'.cell? ⟨g,k*5,none⟩=some (.int .i64 o.code)∧w'.cell? ⟨g,k*5+1,none⟩=some (.int .i64 o.family)∧w'.cell? ⟨g,k*5+2,none⟩=some (.string o.bits)∧w'.cell? ⟨g,k*5+3,none⟩=some (.int .i64 o.len)∧w'.cell? ⟨g,k*5+4,none⟩=some (.int .i64 o.hop)∧w'.cell? ⟨kA,k*3,none⟩=some (.int .i64 a.err)∧w'.cell? ⟨kA,k*3+1,none⟩=some (.int .i64 a.hop)∧w'.cell? ⟨kA,k*3+2,none⟩=some (.int .i64 a.reads)) w':=by
    intro w' h1 h2 h3 h4
    obtain⟨c0,c1,c2,c3,c4⟩:=HC.out
    obtain⟨x0,x1,x2⟩:=HX.out
    rw[cell_at HG.out] at c0 c1 c2 c3 c4
    rw[cell_at XBr.out] at x0 x1 x2
    exact⟨(cell_at h1 1).trans (by rw[HRBE.out];rfl),(cell_at h2 3).trans rfl,(cell_at h3 _).trans c0,(cell_at h3 _).trans c1,(cell_at h3 _).trans c2,(cell_at h3 _).trans c3,(cell_at h3 _).trans c4,(cell_at h4 _).trans x0,(cell_at h4 _).trans x1,(cell_at h4 _).trans x2⟩
   refine wp_region_held_drew (S:=(fun w':World=>w'.cell? ⟨pb,1,none⟩=some (.pointer (some ⟨rb,0,none⟩))∧w'.cell? ⟨sb,3,none⟩=some (.slice (some ⟨g,0,none⟩) n oc)∧w'.cell? ⟨g,k*5,none⟩=some (.int .i64 o.code)∧w'.cell? ⟨g,k*5+1,none⟩=some (.int .i64 o.family)∧w'.cell? ⟨g,k*5+2,none⟩=some (.string o.bits)∧w'.cell? ⟨g,k*5+3,none⟩=some (.int .i64 o.len)∧w'.cell? ⟨g,k*5+4,none⟩=some (.int .i64 o.hop)∧w'.cell? ⟨kA,k*3,none⟩=some (.int .i64 a.err)∧w'.cell? ⟨kA,k*3+1,none⟩=some (.int .i64 a.hop)∧w'.cell? ⟨kA,k*3+2,none⟩=some (.int .i64 a.reads))) (by kernel_rfl) (KS8 _ (block_ext PBr.out (drew_ext wr)) (block_ext SBr.out (drew_ext wr)) (block_ext HG.out (drew_ext wr)) (block_ext XBr.out (drew_ext wr))) (fun hHeld=>?_)
   (refine wpAnyH_take (i:=0) (oi:=_) (v:=?_) rfl (by kernel_rfl) (by kernel_rfl) (by kernel_rfl) (fun _ _ _ h=>h) (Or.inl ⟨by rfl,?_⟩) (by assumption) ?_;rotate_left;(intro w hSw;(try dsimp only at hSw);go_simp;try with_reducible rfl);(try simp only[Act.put]);(try simp only[List.getElem_toArray]);(try simp only[List.getElem_cons_succ]);(try simp only[List.getElem_cons_zero]);(try simp only[List.setIfInBounds_toArray]))
   (refine wpAnyH_take (i:=1) (oi:=_) (v:=?_) rfl (by kernel_rfl) (by kernel_rfl) (by kernel_rfl) (fun _ _ _ h=>h) (Or.inl ⟨by rfl,?_⟩) (by assumption) ?_;rotate_left;(intro w hSw;(try dsimp only at hSw);go_simp;try with_reducible rfl);(try simp only[Act.put]);(try simp only[List.getElem_toArray]);(try simp only[List.getElem_cons_succ]);(try simp only[List.getElem_cons_zero]);(try simp only[List.setIfInBounds_toArray]))
   (refine wpAnyH_take (i:=2) (oi:=_) (v:=?_) rfl (by kernel_rfl) (by kernel_rfl) (by kernel_rfl) (fun _ _ _ h=>h) (Or.inl ⟨by rfl,?_⟩) (by assumption) ?_;rotate_left;(intro w hSw;(try dsimp only at hSw);go_simp;try with_reducible rfl);(try simp only[Act.put]);(try simp only[List.getElem_toArray]);(try simp only[List.getElem_cons_succ]);(try simp only[List.getElem_cons_zero]);(try simp only[List.setIfInBounds_toArray]))
   (refine wpAnyH_take (i:=3) (oi:=_) (v:=?_) rfl (by kernel_rfl) (by kernel_rfl) (by kernel_rfl) (fun _ _ _ h=>h) (Or.inl ⟨by rfl,?_⟩) (by assumption) ?_;rotate_left;(intro w hSw;(try dsimp only at hSw);go_simp;try with_reducible rfl);(try simp only[Act.put]);(try simp only[List.getElem_toArray]);(try simp only[List.getElem_cons_succ]);(try simp only[List.getElem_cons_zero]);(try simp only[List.setIfInBounds_toArray]))
   (refine wpAnyH_take (i:=4) (oi:=_) (v:=?_) rfl (by kernel_rfl) (by kernel_rfl) (by kernel_rfl) (fun _ _ _ h=>h) (Or.inl ⟨by rfl,?_⟩) (by assumption) ?_;rotate_left;(intro w hSw;(try dsimp only at hSw);go_simp;try with_reducible rfl);(try simp only[Act.put]);(try simp only[List.getElem_toArray]);(try simp only[List.getElem_cons_succ]);(try simp only[List.getElem_cons_zero]);(try simp only[List.setIfInBounds_toArray]))
   (refine wpAnyH_take (i:=5) (oi:=_) (v:=?_) rfl (by kernel_rfl) (by kernel_rfl) (by kernel_rfl) (fun _ _ _ h=>h) (Or.inl ⟨by rfl,?_⟩) (by assumption) ?_;rotate_left;(intro w hSw;(try dsimp only at hSw);go_simp;try with_reducible rfl);(try simp only[Act.put]);(try simp only[List.getElem_toArray]);(try simp only[List.getElem_cons_succ]);(try simp only[List.getElem_cons_zero]);(try simp only[List.setIfInBounds_toArray]))
   (refine wpAnyH_take (i:=6) (oi:=_) (v:=?_) rfl (by kernel_rfl) (by kernel_rfl) (by kernel_rfl) (fun _ _ _ h=>h) (Or.inl ⟨by rfl,?_⟩) (by assumption) ?_;rotate_left;(intro w hSw;(try dsimp only at hSw);go_simp;try with_reducible rfl);(try simp only[Act.put]);(try simp only[List.getElem_toArray]);(try simp only[List.getElem_cons_succ]);(try simp only[List.getElem_cons_zero]);(try simp only[List.setIfInBounds_toArray]))
   (refine wpAnyH_take (i:=7) (oi:=_) (v:=?_) rfl (by kernel_rfl) (by kernel_rfl) (by kernel_rfl) (fun _ _ _ h=>h) (Or.inl ⟨by rfl,?_⟩) (by assumption) ?_;rotate_left;(intro w hSw;(try dsimp only at hSw);go_simp;try with_reducible rfl);(try simp only[Act.put]);(try simp only[List.getElem_toArray]);(try simp only[List.getElem_cons_succ]);(try simp only[List.getElem_cons_zero]);(try simp only[List.setIfInBounds_toArray]))
   (refine wpAnyH_take (i:=8) (oi:=_) (v:=?_) rfl (by kernel_rfl) (by kernel_rfl) (by kernel_rfl) (fun _ _ _ h=>h) (Or.inl ⟨by rfl,?_⟩) (by assumption) ?_;rotate_left;(intro w hSw;(try dsimp only at hSw);go_simp;try with_reducible rfl);(try simp only[Act.put]);(try simp only[List.getElem_toArray]);(try simp only[List.getElem_cons_succ]);(try simp only[List.getElem_cons_zero]);(try simp only[List.setIfInBounds_toArray]))
   (refine wpAnyH_take (i:=9) (oi:=_) (v:=?_) rfl (by kernel_rfl) (by kernel_rfl) (by kernel_rfl) (fun _ _ _ h=>h) (Or.inl ⟨by rfl,?_⟩) (by assumption) ?_;rotate_left;(intro w hSw;(try dsimp only at hSw);go_simp;try with_reducible rfl);(try simp only[Act.put]);(try simp only[List.getElem_toArray]);(try simp only[List.getElem_cons_succ]);(try simp only[List.getElem_cons_zero]);(try simp only[List.setIfInBounds_toArray]))
   (refine wpAnyH_take (i:=10) (oi:=_) (v:=?_) rfl (by kernel_rfl) (by kernel_rfl) (by kernel_rfl) (fun _ _ _ h=>h) (Or.inl ⟨by rfl,?_⟩) (by assumption) ?_;rotate_left;(intro w hSw;(try dsimp only at hSw);go_simp;try with_reducible rfl);(try simp only[Act.put]);(try simp only[List.getElem_toArray]);(try simp only[List.getElem_cons_succ]);(try simp only[List.getElem_cons_zero]);(try simp only[List.setIfInBounds_toArray]))
   (refine wpAnyH_take (i:=11) (oi:=_) (v:=?_) rfl (by kernel_rfl) (by kernel_rfl) (by kernel_rfl) (fun _ _ _ h=>h) (Or.inl ⟨by rfl,?_⟩) (by assumption) ?_;rotate_left;(intro w hSw;(try dsimp only at hSw);go_simp;try with_reducible rfl);(try simp only[Act.put]);(try simp only[List.getElem_toArray]);(try simp only[List.getElem_cons_succ]);(try simp only[List.getElem_cons_zero]);(try simp only[List.setIfInBounds_toArray]))
   (refine wpAnyH_take (i:=12) (oi:=_) (v:=?_) rfl (by kernel_rfl) (by kernel_rfl) (by kernel_rfl) (fun _ _ _ h=>h) (Or.inl ⟨by rfl,?_⟩) (by assumption) ?_;rotate_left;(intro w hSw;(try dsimp only at hSw);go_simp;try with_reducible rfl);(try simp only[Act.put]);(try simp only[List.getElem_toArray]);(try simp only[List.getElem_cons_succ]);(try simp only[List.getElem_cons_zero]);(try simp only[List.setIfInBounds_toArray]))
   ((refine wpAnyH_ready (rs:=[13]) (by kernel_rfl) (by simp) ?_);(refine AllReadyH.cons (o:=_) rfl (fun KK hK=>?_) ?_);rotate_left;exact AllReadyH.nil)
   go_simp
   go_at_call 20
   refine(HDO.out wr.drew (HRT.out.ext (drew_ext wr))).mono ?_
   rintro e w5 ⟨rfl,hrt5,hfr5⟩
   have hfx:Fr [rb] w3 w5:=(HFR.out.trans (fr_below (drew_ext wr))).trans hfr5
   have hfy:Fr [rb] wr w5:=Fr.trans (fr_below (drew_ext wr)) hfr5
   have t5:IsT wr rb 48:=by obtain⟨a4,a6,c4,c6,hrb,_⟩:=HRT.out;exact⟨_,_,hrb⟩
   have H5:=hide (KS8 w5 (hfy.at PBr.out (by simp;exact t5.ne PBr.out (by decide))) (hfy.at SBr.out (by simp;exact t5.ne SBr.out (by decide))) (hfy.at HG.out (by simp;exact t5.ne HG.out (by decide))) (hfy.at XBr.out (by simp;exact t5.ne XBr.out (by decide))))
   rw[←HNX.out] at hrt5
   have R5:=hide (And.intro hrt5 hfx)
   clear hrt5 hfr5 hfx hfy t5
   go_wp2_with fail
   (refine hK.out _ _ (H5.out) (fun hHeld=>?_);clear hK KK;(try simp only[Act.put]);(try simp only[List.getElem_toArray]);(try simp only[List.getElem_cons_succ]);(try simp only[List.getElem_cons_zero]);(try simp only[List.setIfInBounds_toArray]))
   (refine wpAnyH_take (i:=14) (oi:=_) (v:=?_) rfl (by kernel_rfl) (by kernel_rfl) (by kernel_rfl) (fun _ _ _ h=>h) (Or.inl ⟨by rfl,?_⟩) (by assumption) ?_;rotate_left;(intro w hSw;(try dsimp only at hSw);go_simp;try with_reducible rfl);(try simp only[Act.put]);(try simp only[List.getElem_toArray]);(try simp only[List.getElem_cons_succ]);(try simp only[List.getElem_cons_zero]);(try simp only[List.setIfInBounds_toArray]))
   (refine wpAnyH_done (by kernel_rfl) ?_ _)
   go_wp2_with fail
   go_roundw
   case rel=>exact⟨k+1,by omega,rfl,by go_num,R5.out.1,R5.out.2⟩
   case measure=>simp[intOf];omega
  ·obtain rfl:k=n:=by omega
   have hRF:RefAt wr rb (refOf (p.S.run ops).1):=by have:=HRT.out;rw[HN.out,List.take_length] at this;exact this
   have HRF:=hide hRF
   clear hRF HRT
   obtain⟨w4,hw4⟩:∃w4:World,w4=wr:=⟨_,rfl⟩
   subst hw4
   clear hkl hk
   go_wp2_with fail
   go_loopw [9,11] (fun okv iv wy=>∃j:Nat,j≤k+8∧okv=.bool true∧iv=.int .i64 (j:Int)∧Below w4.heap.size w4 wy) (fun _ i _=>k+8-(intOf i).toNat)
   case atStart=>exact⟨0,Nat.zero_le _,rfl,rfl,Below.refl _ _⟩
   case round =>
    obtain⟨j,hj,rfl,rfl,hbx⟩:=hrel
    have HBX:=hide hbx
    have SBx:=hide (block_ext SBr.out hbx)
    have OBx:=hide (block_ext OBr.out hbx)
    have OWx:=hide (owns_ext ORW.out hbx)
    have q3x:wr.cell? ⟨sb,3,none⟩=some (.slice oa k oc):=(cell_at SBx.out 3).trans rfl
    have hlsx:=lt_of_block SBx.out
    have hlox:=lt_of_block OBx.out
    clear hbx
    by_cases hjl:j<k+8
    ·have hsp:=spare_owns OBx.out (by rw[←HN.out];omega)
     rw[←HN.out] at hsp
     obtain⟨g1,hg1,_,c0,c1,c2,c3,c4⟩:=row_op hsp hjl (by rw[spareO_len,HN.out])
     rw[spare_get (by rw[←HN.out];exact hjl),←HN.out] at c0 c1 c2 c3 c4
     simp only[Option.some.injEq,Addr.mk.injEq,and_true] at hg1
     obtain rfl:=hg1
     by_cases hjk:j<k
     ·rw[if_pos hjk] at c0 c1 c2 c3 c4
      obtain⟨g2,hg2,hgl2,d0,d1,d2,d3,d4⟩:=row_op OWx.out hjk HN.out
      generalize ops.getD j OpD.zero=o at c0 c1 c2 c3 c4 d0 d1 d2 d3 d4
      rw[hg2] at q3x
      clear hsp hg2
      go_wp2_with fail
      go_quiet (fail)
      go_wp2
      go_roundw
      case rel=>exact⟨j+1,by omega,by simp,by go_num,ext_trans HBX.out (drewN_ext _ _)⟩
      case measure=>simp[intOf];omega
     ·rw[if_neg hjk] at c0 c1 c2 c3 c4
      simp only[OpD.zero] at c0 c1 c2 c3 c4
      have e1:decide (j<k)=false:=by simp;omega
      have e2:decide (k≤j)=true:=by simp;omega
      clear hsp hjk
      go_wp2_with fail
      go_quiet (fail)
      go_wp2
      go_roundw
      case rel=>exact⟨j+1,by omega,by simp,by go_num,ext_trans HBX.out (drewN_ext _ _)⟩
      case measure=>simp[intOf];omega
    ·have hjl':¬(j:Int)<(k:Int)+8:=by omega
     clear hj hjl
     obtain⟨w5,hw5⟩:∃w5:World,w5=wr:=⟨_,rfl⟩
     subst hw5
     obtain⟨T,hT⟩:∃T:St,T=(p.S.run ops).1:=⟨_,rfl⟩
     have HT:=hide hT
     rw[←hT] at HM HOK3 HRF
     have hTs:T.A.size=p.S.A.size:=by rw[hT];exact(run_ok HP.out.ok ops).2.1
     clear hT
     have HTS:=hide hTs
     clear hTs
     have hl5:b'.lies w5 T.A:=by
      have tr:IsT w3 rb 48:=HTR.out
      exact(FB.lies.typed HM.out.lies HFR.out (fun k hk=>by rw[List.mem_singleton.1 hk];exact⟨_,tr,by decide,by decide,by decide,by decide⟩)).ext HBX.out
     have hr5:RefAt w5 rb (refOf T):=HRF.out.ext HBX.out
     have HL5:=hide hl5
     have HR5:=hide hr5
     have PBx:=hide (block_ext PBr.out HBX.out)
     have XBx:=hide (block_ext XBr.out HBX.out)
     have hlpx:=lt_of_block PBx.out
     obtain⟨a4,a6,cp4,cp6,hrb5,_,_⟩:=hr5
     have r1:w5.cell? ⟨rb,1,none⟩=some (.slice a4 (refOf T).fours.length cp4):=(cell_at hrb5 1).trans rfl
     have r2:w5.cell? ⟨rb,2,none⟩=some (.slice a6 (refOf T).sixes.length cp6):=(cell_at hrb5 2).trans rfl
     have hlr5:=lt_of_block hrb5
     have z0:w5.cell? ⟨pb,0,none⟩=some (.pointer (some ⟨fb,0,none⟩)):=(cell_at PBx.out 0).trans (by rw[HFBE.out];rfl)
     have z1:w5.cell? ⟨pb,1,none⟩=some (.pointer (some ⟨rb,0,none⟩)):=(cell_at PBx.out 1).trans (by rw[HRBE.out];rfl)
     obtain⟨emp,hemp⟩:∃e:Int,e=(St.new p.S.A.size).A.free:=⟨_,rfl⟩
     have HEMP:=hide hemp
     have z2:w5.cell? ⟨pb,2,none⟩=some (.int .i64 emp):=(cell_at PBx.out 2).trans (by rw[hemp];rfl)
     clear hemp hl5 hrb5
     obtain⟨cc,hcc⟩:∃cc:Bool,cc=(decide (0<k)&&((ops.getD (k-1) OpD.zero).code==4)):=⟨_,rfl⟩
     have HCC:=hide hcc
     go_upto_region 14 with (fail)
     obtain⟨lv,hlv⟩:∃lv:Int,lv=(k:Int)-1:=⟨_,rfl⟩
     have HLV:=hide hlv
     rw[←hlv]
     clear hcc hlv hjl'
     go_cut [121] (fun v wd=>v=.bool cc∧wd=w5)
     case first =>
      by_cases hk0:k=0
      ·have e0:lv<0:=by rw[HLV.out];omega
       have ec:cc=false:=by rw[HCC.out,hk0];rfl
       have EC:=hide ec
       clear hk0 ec
       go_wp2
       go_meet
       case rel=>exact⟨by rw[EC.out],rfl⟩
      ·obtain⟨l,hll⟩:∃l:Nat,lv=(l:Int):=⟨k-1,by rw[HLV.out];omega⟩
       subst hll
       have hlk:l<k:=by have:=HLV.out;omega
       have hl':k-1=l:=by have:=HLV.out;omega
       have hk1:decide (0<k)=true:=by simp;omega
       have hc:=HCC.out
       rw[hl',hk1,Bool.true_and] at hc
       have HC2:=hide hc
       obtain⟨g2,hg2,hgl2,d0,_,_,_,_⟩:=row_op OWx.out hlk HN.out
       generalize ops.getD l OpD.zero=o at d0 HC2
       rw[hg2] at q3x
       clear hg2 hk0 hl' hk1 hc
       go_wp2
       go_meet
       case rel=>exact⟨by rw[HC2.out],rfl⟩
     case rest =>
     obtain⟨rfl,rfl⟩:=hcut
     obtain⟨w5,hw5⟩:∃w5:World,w5=wc:=⟨_,rfl⟩
     subst hw5
     go_upto_if 121 with (fail)
     go_cut [9] (fun v wd=>v=.bool true∧Below w5.heap.size w5 wd)
     case first =>
      cases cc with
      | true =>
       obtain⟨v1,v2,v3⟩:=free_within HOK3.out
       obtain⟨fr,hfr⟩:∃fr:Int,fr=T.A.free:=⟨_,rfl⟩
       have HFX:=hide (show Calls Tryz.prog 15 #[.pointer (some ⟨fb,0,none⟩)] w5 fun e w'=>e=.returned (.int .i64 fr)∧w'=w5 by rw[←HB'.out,hfr];exact free_x b' T.A w5 HL5.out)
       have HFE:=hide (frees_ok rb (refOf T) fr w5 HR5.out (ref_small HOK3.out) (by show (0:Int)≤(T.A.size:Int);omega) (by show (T.A.size:Int)≤65536;rw[HTS.out];have:=HP.out.n2;omega) (by rw[hfr];exact v1) (by rw[hfr];exact v2))
       have hem:(fr==emp)=false→0<(refOf T).fours.length+(refOf T).sixes.length:=by
        intro hne
        apply Decidable.byContradiction
        intro h0
        have hc0:(refOf T).count=0:=by unfold RefD.count;omega
        have:=free_empty HOK3.out hc0 (by rw[HTS.out];exact HP.out.n1) (by rw[HTS.out];exact HP.out.n2)
        rw[HTS.out,←HEMP.out,←hfr] at this
        rw[this] at hne
        simp at hne
       obtain⟨hsm4,hsm6⟩:=ref_small HOK3.out
       clear v1 v2 v3 hfr
       generalize (refOf T).fours.length=m4 at r1 hem hsm4
       generalize (refOf T).sixes.length=m6 at r2 hem hsm6
       go_wp2_with fail
       refine HFX.out.mono ?_
       rintro e w6 ⟨rfl,rfl⟩
       go_wp2_with fail
       refine HFE.out.mono ?_
       rintro e w7 ⟨rfl,hb7⟩
       have y0:=cell_ext z0 hb7
       have y1:=cell_ext z1 hb7
       have y2:=cell_ext z2 hb7
       have y3:=cell_ext r1 hb7
       have y4:=cell_ext r2 hb7
       have hlp7:=Nat.lt_of_lt_of_le hlpx hb7.size
       have hlr7:=Nat.lt_of_lt_of_le hlr5 hb7.size
       have HB7:=hide hb7
       clear hb7
       by_cases hq:(fr==emp)=true
       ·clear hem
        go_wp2_with fail
        go_quiet (fail)
        go_wp2
        go_meet
        case rel=>exact⟨by simp,ext_trans HB7.out (drewN_ext _ _)⟩
       ·have hq':(fr==emp)=false:=by simpa using hq
        have hpos:=hem hq'
        have hpd:decide (0<m4+m6)=true:=by simpa using hpos
        clear hq hem
        go_wp2_with fail
        go_quiet (fail)
        go_wp2
        go_meet
        case rel=>exact⟨by simp;omega,ext_trans HB7.out (drewN_ext _ _)⟩
      | false =>
       go_wp2
       go_meet
       case rel=>exact⟨rfl,Below.refl _ _⟩
     case rest =>
      obtain⟨rfl,hbd⟩:=hcut
      obtain⟨wd,hwd⟩:∃wd:World,wd=wc:=⟨_,rfl⟩
      subst hwd
      have B4:Below w4.heap.size w4 wd:=ext_trans HBX.out hbd
      have tb:IsT w p.b.tb 81:=⟨_,_,HP.out.fib.tab.tab⟩
      have ta:IsT w p.b.ab 103:=⟨_,_,HP.out.fib.tab.ar.arena⟩
      have tw:IsT w p.b.wb 136:=⟨_,_,HP.out.fib.tab.ar.words⟩
      have trf:IsT w rb 48:=by obtain⟨a4,a6,c4,c6,hrb,_⟩:=HP.out.ref;rw[HRBE.out];exact⟨_,_,hrb⟩
      have Fd:Fr [p.b.tb,p.b.ab,p.b.wb,rb] w wd:=by
       refine Fr.after (Fr.after (S:=[p.b.tb,p.b.ab,p.b.wb,rb]) (F3.out.mono (fun y hy _=>by simp at hy ⊢;omega)) HFR.out (fun y hy=>by simp at hy;left;simp[hy])) (fr_below (S:=[]) B4) (fun y hy=>by cases hy)
      have typ:∀y∈[p.b.tb,p.b.ab,p.b.wb,rb],∃t,IsT w y t∧t≠63∧t≠59∧t≠66∧t≠27∧t≠49∧t≠35:=by
       intro y hy
       simp only[List.mem_cons,List.not_mem_nil,or_false] at hy
       rcases hy with rfl | rfl | rfl | rfl
       ·exact⟨_,tb,by decide,by decide,by decide,by decide,by decide,by decide⟩
       ·exact⟨_,ta,by decide,by decide,by decide,by decide,by decide,by decide⟩
       ·exact⟨_,tw,by decide,by decide,by decide,by decide,by decide,by decide⟩
       ·exact⟨_,trf,by decide,by decide,by decide,by decide,by decide,by decide⟩
      have hbw:b ∉ [p.b.tb,p.b.ab,p.b.wb,rb]:=fun hy=>by
       obtain⟨t,h1,_,_,_,_,_,h7⟩:=typ b hy
       exact h1.ne HW.out.holds.blk (Ne.symm h7) rfl
      have hHd:HoldsAt wd b (.slice pa ps.length pc) ha hc hs:=HW.out.holds.move Fd (fun y hy=>by
       obtain⟨t,h1,h2,h3,h4,h5,h6,_⟩:=typ y hy
       exact⟨t,h1,h2,h3,h4,h5,h6⟩) (Fd.at HW.out.holds.blk hbw)
      have hwd:w.heap.size≤wd.heap.size:=Fd.size
      have Xd:wd.heap[kA]?=some (.cells X 59 (0,0)):=block_ext XBr.out B4
      have Od:wd.heap[sb+1]?=some (.cells (flatO (spareO ops)).toArray 27 (0,0)):=block_ext OBr.out B4
      have hkA:=HKA.out
      have hsb:=HSB.out
      have hAd:=lt_of_block Xd
      obtain⟨wk,hwk⟩:∃wk:World,wk=wd.alloc (.cells #[.slice (some ⟨kA,0,none⟩) k k,.slice none 0 0,.slice none 0 0,.int .i64 0] 63):=⟨_,rfl⟩
      have ek:Below wd.heap.size wd wk:=by rw[hwk];exact ext_alloc _ _
      have hbk:wk.heap[wd.heap.size]?=some (.cells #[.slice (some ⟨kA,0,none⟩) k k,.slice none 0 0,.slice none 0 0,.int .i64 0] 63 (0,0)):=by rw[hwk];exact heap_alloc_new _ _
      have hap:∀x∈hs,Apart x ⟨wd.heap.size,0,some ⟨kA,0,none⟩,k,k,none,0,0,none,0,0⟩:=by
       intro x hx
       obtain⟨l1,l2⟩:=hold_lt (HW.out.holds.ok x hx)
       refine⟨by show x.hb≠wd.heap.size;omega,fun y hy hy2=>?_⟩
       have h1:=l2 y hy
       rw[hold_rows1] at hy2
       simp[bls] at hy2
       omega
      have HKP:=hide (keep_x wk b _ ha hc hs ⟨wd.heap.size,0,some ⟨kA,0,none⟩,k,k,none,0,0,none,0,0⟩ _ [] [] (hHd.ext ek) hbk (ans_owns (n:=k) (block_ext Xd ek) HA.out (by omega)) (World.ownsRow_nil _ _ _ _) (World.ownsRow_nil _ _ _ _) (by omega) ⟨by show k+3≤_;omega,by show 0+3≤_;omega,by show 0+3≤_;omega⟩ hap)
      have HD:=hide (And.intro Fd (And.intro hHd (And.intro Xd Od)))
      have HB4:=hide B4
      have HEK:=hide ek
      have HWK:=hide hwk
      have HTY:=hide (And.intro tb (And.intro ta (And.intro tw trf)))
      clear hHd Fd typ hbw Xd Od hbk hap ek hwk tb ta tw trf hbd B4 hkA hsb
      go_wp2_with fail
      rw[←HWK.out]
      refine HKP.out.mono ?_
      rintro e w6 ⟨rfl,L,ha1,hc1,hH6,hL,hF6,hN6,hR6⟩
      rw[hold_rows1] at hF6
      have hkA:=HKA.out
      have hsb:=HSB.out
      have hek:=HEK.out.size
      obtain⟨Fd,hHd,Xd,Od⟩:=HD.out
      have tbw:IsT wk b 35:=⟨_,_,block_ext hHd.blk HEK.out⟩
      have G6:Fr (b :: kA :: bls ha) wd w6:=by
       refine Fr.after (fr_below HEK.out) hF6 (fun y hy=>?_)
       simp only[List.mem_append,List.mem_cons,List.not_mem_nil,or_false] at hy
       rcases hy with ((rfl | rfl) | hy) | hy
       ·exact .inl (List.mem_cons_self ..)
       ·exact .inr (Nat.le_refl _)
       ·exact .inl (List.mem_cons_of_mem _ (List.mem_cons_of_mem _ hy))
       ·simp[bls] at hy;subst hy;exact .inl (List.mem_cons_of_mem _ (List.mem_cons_self ..))
      have tyd:∀y∈b :: kA :: bls ha,∃t,IsT wd y t∧t≠27∧t≠48∧t≠66∧t≠69∧t≠81∧t≠103∧t≠136:=by
       intro y hy
       rcases List.mem_cons.1 hy with rfl | hy
       ·exact⟨_,⟨_,_,hHd.blk⟩,by decide,by decide,by decide,by decide,by decide,by decide,by decide⟩
       ·rcases List.mem_cons.1 hy with rfl | hy
        ·exact⟨_,⟨_,_,Xd⟩,by decide,by decide,by decide,by decide,by decide,by decide,by decide⟩
        ·exact⟨_,(owns_type hHd.row y hy).2,by decide,by decide,by decide,by decide,by decide,by decide,by decide⟩
      have O6:w6.heap[sb+1]?=some (.cells (flatO (spareO ops)).toArray 27 (0,0)):=G6.at Od (fun hy=>by
       obtain⟨t,h1,h2,_⟩:=tyd _ hy
       exact h1.ne Od (Ne.symm h2) rfl)
      have hw6:wd.heap.size≤w6.heap.size:=G6.size
      obtain⟨wm,hwm⟩:∃wm:World,wm=w6.alloc (.cells #[.slice none 0 0,.slice none 0 0,.slice (some ⟨sb+1,0,none⟩) (k+8) (k+8),.int .i64 0] 63):=⟨_,rfl⟩
      have em:Below w6.heap.size w6 wm:=by rw[hwm];exact ext_alloc _ _
      have hbm:wm.heap[w6.heap.size]?=some (.cells #[.slice none 0 0,.slice none 0 0,.slice (some ⟨sb+1,0,none⟩) (k+8) (k+8),.int .i64 0] 63 (0,0)):=by rw[hwm];exact heap_alloc_new _ _
      have hsp:=spare_owns (block_ext O6 em) (by rw[←HN.out];omega)
      rw[←HN.out] at hsp
      have hF6s:=hF6.size
      have hap:∀x∈hs++L,Apart x ⟨w6.heap.size,0,none,0,0,none,0,0,some ⟨sb+1,0,none⟩,k+8,k+8⟩:=by
       intro x hx
       have hlx:=hold_lt (hH6.ok x hx)
       refine⟨by show x.hb≠w6.heap.size;omega,fun y hy hy2=>?_⟩
       rw[hold_rows3] at hy2
       simp[bls] at hy2
       subst hy2
       rcases List.mem_append.1 hx with hx | hx
       ·have h1:=(hold_lt (HW.out.holds.ok x hx)).2 _ hy
        omega
       ·rcases (hN6 x hx).2 _ hy with h | h
        ·rw[hold_rows1] at h
         simp[bls] at h
         omega
        ·have:=lt_of_block Od
         omega
      have HKP2:=hide (keep_x wm b _ ha1 hc1 (hs++L) ⟨w6.heap.size,0,none,0,0,none,0,0,some ⟨sb+1,0,none⟩,k+8,k+8⟩ [] [] _ (hH6.ext em) hbm (World.ownsRow_nil _ _ _ _) (World.ownsRow_nil _ _ _ _) hsp (by rw[List.length_append,hL];omega) ⟨by show 0+3≤_;omega,by show 0+3≤_;omega,by show k+8+3≤_;omega⟩ hap)
      have HG6:=hide (And.intro G6 (And.intro tyd (And.intro hR6 hL)))
      have HEM:=hide em
      have HWM:=hide hwm
      clear hHd Fd Xd Od hF6 hN6 hR6 hH6 G6 tyd O6 em hbm hsp hap hwm HKP tbw hkA hsb hek hL
      go_wp2_with fail
      rw[←HWM.out]
      refine HKP2.out.mono ?_
      rintro e w7 ⟨rfl,L2,ha2,hc2,hH7,hL2,hF7,_,hR7⟩
      rw[hold_rows3] at hF7
      have hkA:=HKA.out
      have hsb:=HSB.out
      have hek:=HEK.out.size
      have hem:=HEM.out.size
      obtain⟨G6,tyd,hR6,hL⟩:=HG6.out
      obtain⟨Fd,hHd,Xd,Od⟩:=HD.out
      have G7:Fr ((sb+1) :: b :: kA :: bls ha) wd w7:=by
       refine Fr.after (Fr.after (S:=(sb+1) :: b :: kA :: bls ha) (G6.mono (fun y hy _=>List.mem_cons_of_mem _ hy)) (fr_below (S:=[]) HEM.out) (fun y hy=>by cases hy)) hF7 (fun y hy=>?_)
       simp only[List.mem_append,List.mem_cons,List.not_mem_nil,or_false] at hy
       rcases hy with ((rfl | rfl) | hy) | hy
       ·exact .inl (by simp)
       ·exact .inr hw6
       ·rcases hR6 y hy with h | h
        ·exact .inl (by simp[h])
        ·exact .inr (by omega)
       ·simp[bls] at hy;subst hy;exact .inl (List.mem_cons_self ..)
      have ty7:∀y∈(sb+1) :: b :: kA :: bls ha,∃t,IsT wd y t∧t≠48∧t≠66∧t≠69∧t≠81∧t≠103∧t≠136:=by
       intro y hy
       rcases List.mem_cons.1 hy with rfl | hy
       ·exact⟨_,⟨_,_,Od⟩,by decide,by decide,by decide,by decide,by decide,by decide⟩
       ·obtain⟨t,h1,_,h2⟩:=tyd y hy
        exact⟨t,h1,h2⟩
      have hl7:b'.lies w7 T.A:=by
       have hld:b'.lies wd T.A:=(FB.lies.typed HM.out.lies HFR.out (fun k hk=>by rw[List.mem_singleton.1 hk];exact⟨_,HTR.out,by decide,by decide,by decide,by decide⟩)).ext HB4.out
       exact hld.typed G7 (fun y hy=>by
        obtain⟨t,h1,_,_,h4⟩:=ty7 y hy
        exact⟨t,h1,h4⟩)
      have hr7:RefAt w7 p.rb (refOf T):=by
       rw[←HRBE.out]
       exact(HRF.out.ext HB4.out).typed G7 (fun y hy=>by
        obtain⟨t,h1,h2,h3,_⟩:=ty7 y hy
        exact⟨t,h1,h2,h3⟩)
      have hF:Fr ([b,p.b.tb,p.b.ab,p.b.wb,p.rb]++bls ha) w w7:=by
       refine Fr.after (Fd.mono (fun y hy _=>by rw[HRBE.out] at hy;simp only[List.mem_cons,List.not_mem_nil,or_false] at hy;rcases hy with rfl | rfl | rfl | rfl <;> simp)) G7 (fun y hy=>?_)
       rcases List.mem_cons.1 hy with rfl | hy
       ·exact .inr (by omega)
       ·rcases List.mem_cons.1 hy with rfl | hy
        ·exact .inl (by simp)
        ·rcases List.mem_cons.1 hy with rfl | hy
         ·exact .inr hkA.1
         ·exact .inl (by simp[hy])
      have hfin:=world_step HW.out HI.out hF (fun y hy=>by
       simp only[List.mem_append,List.mem_cons,List.not_mem_nil,or_false] at hy
       rcases hy with (rfl | rfl | rfl | rfl | rfl) | hy
       ·exact .inl rfl
       ·exact .inr (.inl rfl)
       ·exact .inr (.inr (.inl rfl))
       ·exact .inr (.inr (.inr (.inl rfl)))
       ·exact .inr (.inr (.inr (.inr (.inl rfl))))
       ·exact .inr (.inr (.inr (.inr (.inr hy))))) (p':=⟨p.pb,b',p.rb,T⟩) rfl rfl (by show b'.fb=p.b.fb;rw[HB'.out,HFBE.out]) HTS.out
       (fun c A hc hap=>HM.out.apart c A (hc.ext (ext_trans H2.out.1 (drew_ext W2))) hap) (HM.out.ge K HP.out.ge (Nat.le_trans hK (ext_trans H2.out.1 (drew_ext W2)).size)) hl7 HOK3.out hr7 hH7 (fun y hy=>by
        rcases hR7 y hy with h | h
        ·rcases hR6 y h with h | h
         ·exact HW.out.hge y h
         ·omega
        ·omega)
      have HF:=hide (show ∃p' hs' ha' hc',WAt K w7 b (ps.set i p') hs' pa pc ha' hc'∧FrT writes K w w7∧hs'.length=hs.length+8 from ⟨_,_,_,_,hfin.1,hfin.2,by rw[List.length_append,List.length_append,hL,hL2]⟩)
      clear hfin hF hr7 hl7 ty7 G7 hF7 hR7 hH7 HKP2 G6 tyd hR6 Fd hHd Xd Od
      go_wp2
      go_ret
      exact⟨rfl,HF.out⟩
end Go.Proofs.YtnapboelfimaaaaGreatDoor
namespace Go.Proofs.YtnapboelfimaaaaGreatDoor
open Go.RowKit Go.Deep
def After (K b m:Nat) (w w':World):Prop:=∃ps hs pa pc ha hc,WAt K w' b ps hs pa pc ha hc∧FrT writes K w w'∧hs.length≤m
theorem bls_base {w:World} {base e size n m cap:Nat} {ao:Option Addr} {xs:List Value} (h:w.ownsRow base e size (.slice ao m cap) n xs):∀k∈bls ao,base≤k:=fun k hk=>(owns_type h k hk).1
theorem routes_le {S:St} (h:S.ok) (f:Int):((refOf S).routes f).length≤67584:=by
 unfold RefD.routes refOf
 split
 ·exact tell_le h 4
 ·split
  ·exact tell_le h 6
  ·simp
set_option maxHeartbeats 8000000 in
set_option maxRecDepth 10000 in
theorem dumped_any (K b i:Nat) (w:World) (k0 n0 words0 f0:Int) (ov:Value) (ps:List PlD) (hs:List HoldD) (pa ha:Option Addr) (pc hc:Nat) (p:PlD) (hW:WAt K w b ps hs pa pc ha hc) (hi:ps[i]?=some p) (hh:hs.length≤20999999999990) (hZ:TzTab w) :
  Calls Tryz.prog 14 #[.pointer (some ⟨b,0,none⟩),.pointer (some ⟨p.pb,0,none⟩),.agg #[.int .i64 k0,.int .i64 n0,.int .i64 words0,ov,.int .i64 f0]] w fun e w'=>e=.returned (.bool true)∧After K b (hs.length+8) w w':=by
 have hp:=hW.pl p (List.mem_of_getElem? hi)
 obtain⟨sb,hsb⟩:∃sb,sb=w.heap.size:=⟨_,rfl⟩
 obtain⟨W1,hW1⟩:∃W1:World,W1=w.alloc (.cells #[.int .i64 k0,.int .i64 n0,.int .i64 words0,ov,.int .i64 f0] 30):=⟨_,rfl⟩
 have e1:Below w.heap.size w W1:=by rw[hW1];exact ext_alloc _ _
 have s1:W1.heap[sb]?=some (.cells #[.int .i64 k0,.int .i64 n0,.int .i64 words0,ov,.int .i64 f0] 30 (0,0)):=by rw[hW1,hsb];exact heap_alloc_new w _
 have HW:=hide hW
 have HP:=hide hp
 have HI:=hide hi
 have HZ:=hide hZ
 have H1:=hide (And.intro e1 (And.intro s1 (block_ext hp.blk e1)))
 have HSB:=hide hsb
 have HW1:=hide hW1
 have hlb:=hW.lt
 have hlp:=lt_of_block hp.blk
 clear hW hi hp hZ e1 s1 hW1 hsb
 obtain⟨pb,hpb⟩:∃pb,pb=p.pb:=⟨_,rfl⟩
 obtain⟨fb,hfb⟩:∃fb,fb=p.b.fb:=⟨_,rfl⟩
 obtain⟨rb,hrb⟩:∃rb,rb=p.rb:=⟨_,rfl⟩
 have HPBE:=hide hpb
 have HFBE:=hide hfb
 have HRBE:=hide hrb
 rw[←hpb] at H1 hlp ⊢
 clear hpb hfb hrb
 have hl1:=lt_of_block H1.out.2.2
 have hl2:=lt_of_block H1.out.2.1
 go_enter Tryz.func14,Tryz.ntmps14
 go_wp2_with fail
 rw[←HW1.out,←HSB.out]
 have KS:∀w':World,w'.heap[pb]?=some (.cells p.cells 44 (0,0))→w'.heap[sb]?=some (.cells #[.int .i64 k0,.int .i64 n0,.int .i64 words0,ov,.int .i64 f0] 30 (0,0))→(fun w':World=>w'.cell? ⟨pb,0,none⟩=some (.pointer (some ⟨fb,0,none⟩))∧w'.cell? ⟨sb,4,none⟩=some (.int .i64 f0)) w':=fun w' h1 h2=>⟨(cell_at h1 0).trans (by rw[HFBE.out];rfl),(cell_at h2 4).trans rfl⟩
 refine wp_region_held_drew (S:=(fun w':World=>w'.cell? ⟨pb,0,none⟩=some (.pointer (some ⟨fb,0,none⟩))∧w'.cell? ⟨sb,4,none⟩=some (.int .i64 f0))) (by kernel_rfl) (KS _ (block_ext H1.out.2.2 (drew_ext W1)) (block_ext H1.out.2.1 (drew_ext W1))) (fun hHeld=>?_)
 (refine wpAnyH_take (i:=0) (oi:=_) (v:=?_) rfl (by kernel_rfl) (by kernel_rfl) (by kernel_rfl) (fun _ _ _ h=>h) (Or.inl ⟨by rfl,?_⟩) (by assumption) ?_;rotate_left;(intro w hSw;(try dsimp only at hSw);go_simp;try with_reducible rfl);(try simp only[Act.put]);(try simp only[List.getElem_toArray]);(try simp only[List.getElem_cons_succ]);(try simp only[List.getElem_cons_zero]);(try simp only[List.setIfInBounds_toArray]))
 (refine wpAnyH_take (i:=1) (oi:=_) (v:=?_) rfl (by kernel_rfl) (by kernel_rfl) (by kernel_rfl) (fun _ _ _ h=>h) (Or.inl ⟨by rfl,?_⟩) (by assumption) ?_;rotate_left;(intro w hSw;(try dsimp only at hSw);go_simp;try with_reducible rfl);(try simp only[Act.put]);(try simp only[List.getElem_toArray]);(try simp only[List.getElem_cons_succ]);(try simp only[List.getElem_cons_zero]);(try simp only[List.setIfInBounds_toArray]))
 (refine wpAnyH_take (i:=2) (oi:=_) (v:=?_) rfl (by kernel_rfl) (by kernel_rfl) (by kernel_rfl) (fun _ _ _ h=>h) (Or.inl ⟨by rfl,?_⟩) (by assumption) ?_;rotate_left;(intro w hSw;(try dsimp only at hSw);go_simp;try with_reducible rfl);(try simp only[Act.put]);(try simp only[List.getElem_toArray]);(try simp only[List.getElem_cons_succ]);(try simp only[List.getElem_cons_zero]);(try simp only[List.setIfInBounds_toArray]))
 (refine wpAnyH_take (i:=3) (oi:=_) (v:=?_) rfl (by kernel_rfl) (by kernel_rfl) (by kernel_rfl) (fun _ _ _ h=>h) (Or.inl ⟨by rfl,?_⟩) (by assumption) ?_;rotate_left;(intro w hSw;(try dsimp only at hSw);go_simp;try with_reducible rfl);(try simp only[Act.put]);(try simp only[List.getElem_toArray]);(try simp only[List.getElem_cons_succ]);(try simp only[List.getElem_cons_zero]);(try simp only[List.setIfInBounds_toArray]))
 (refine wpAnyH_take (i:=4) (oi:=_) (v:=?_) rfl (by kernel_rfl) (by kernel_rfl) (by kernel_rfl) (fun _ _ _ h=>h) (Or.inl ⟨by rfl,?_⟩) (by assumption) ?_;rotate_left;(intro w hSw;(try dsimp only at hSw);go_simp;try with_reducible rfl);(try simp only[Act.put]);(try simp only[List.getElem_toArray]);(try simp only[List.getElem_cons_succ]);(try simp only[List.getElem_cons_zero]);(try simp only[List.setIfInBounds_toArray]))
 (refine wpAnyH_take (i:=5) (oi:=_) (v:=?_) rfl (by kernel_rfl) (by kernel_rfl) (by kernel_rfl) (fun _ _ _ h=>h) (Or.inl ⟨by rfl,?_⟩) (by assumption) ?_;rotate_left;(intro w hSw;(try dsimp only at hSw);go_simp;try with_reducible rfl);(try simp only[Act.put]);(try simp only[List.getElem_toArray]);(try simp only[List.getElem_cons_succ]);(try simp only[List.getElem_cons_zero]);(try simp only[List.setIfInBounds_toArray]))
 ((refine wpAnyH_ready (rs:=[6]) (by kernel_rfl) (by simp) ?_);(refine AllReadyH.cons (o:=_) rfl (fun KK hK=>?_) ?_);rotate_left;exact AllReadyH.nil)
 go_simp
 go_at_call 23
 have eD:Below w.heap.size w W1.drew:=ext_trans H1.out.1 (drew_ext W1)
 refine(dump_all p.S HP.out.ok p.b W1.drew (HP.out.fib.ext eD) (HZ.out.ext eD) fb HFBE.out.symm f0).mono ?_
 obtain⟨m,hm⟩:∃m,m=((refOf p.S).routes f0).length:=⟨_,rfl⟩
 have HM:=hide hm
 have hml:m≤67584:=by rw[hm];exact routes_le HP.out.ok f0
 rw[←hm]
 rintro e w2 ⟨da,dc,rfl,hod,hbd⟩
 have E2:=hide (ext_trans eD hbd)
 have E12:=hide (ext_trans (drew_ext W1) hbd)
 have HOD:=hide (owns_base hod (Nat.le_trans (show w.heap.size≤W1.drew.heap.size from eD.size) (Nat.le_refl _)))
 clear hod hbd eD hm
 go_wp2_with fail
 (refine hK.out _ _ (KS _ (block_ext H1.out.2.2 E12.out) (block_ext H1.out.2.1 E12.out)) (fun hHeld=>?_);clear hK KK;(try simp only[Act.put]);(try simp only[List.getElem_toArray]);(try simp only[List.getElem_cons_succ]);(try simp only[List.getElem_cons_zero]);(try simp only[List.setIfInBounds_toArray]))
 (refine wpAnyH_take (i:=7) (oi:=_) (v:=?_) rfl (by kernel_rfl) (by kernel_rfl) (by kernel_rfl) (fun _ _ _ h=>h) (Or.inl ⟨by rfl,?_⟩) (by assumption) ?_;rotate_left;(intro w hSw;(try dsimp only at hSw);go_simp;try with_reducible rfl);(try simp only[Act.put]);(try simp only[List.getElem_toArray]);(try simp only[List.getElem_cons_succ]);(try simp only[List.getElem_cons_zero]);(try simp only[List.setIfInBounds_toArray]))
 (refine wpAnyH_done (by kernel_rfl) ?_ _)
 go_wp2_with fail
 have KS2:∀w':World,w'.heap[pb]?=some (.cells p.cells 44 (0,0))→w'.heap[sb]?=some (.cells #[.int .i64 k0,.int .i64 n0,.int .i64 words0,ov,.int .i64 f0] 30 (0,0))→(fun w':World=>w'.cell? ⟨pb,1,none⟩=some (.pointer (some ⟨rb,0,none⟩))∧w'.cell? ⟨sb,4,none⟩=some (.int .i64 f0)) w':=fun w' h1 h2=>⟨(cell_at h1 1).trans (by rw[HRBE.out];rfl),(cell_at h2 4).trans rfl⟩
 have hl3:pb<w2.heap.size:=lt_of_block (block_ext H1.out.2.2 E12.out)
 have hl4:sb<w2.heap.size:=lt_of_block (block_ext H1.out.2.1 E12.out)
 refine wp_region_held_drew (S:=(fun w':World=>w'.cell? ⟨pb,1,none⟩=some (.pointer (some ⟨rb,0,none⟩))∧w'.cell? ⟨sb,4,none⟩=some (.int .i64 f0))) (by kernel_rfl) (KS2 _ (block_ext H1.out.2.2 (ext_trans E12.out (drew_ext w2))) (block_ext H1.out.2.1 (ext_trans E12.out (drew_ext w2)))) (fun hHeld=>?_)
 (refine wpAnyH_take (i:=0) (oi:=_) (v:=?_) rfl (by kernel_rfl) (by kernel_rfl) (by kernel_rfl) (fun _ _ _ h=>h) (Or.inl ⟨by rfl,?_⟩) (by assumption) ?_;rotate_left;(intro w hSw;(try dsimp only at hSw);go_simp;try with_reducible rfl);(try simp only[Act.put]);(try simp only[List.getElem_toArray]);(try simp only[List.getElem_cons_succ]);(try simp only[List.getElem_cons_zero]);(try simp only[List.setIfInBounds_toArray]))
 (refine wpAnyH_take (i:=1) (oi:=_) (v:=?_) rfl (by kernel_rfl) (by kernel_rfl) (by kernel_rfl) (fun _ _ _ h=>h) (Or.inl ⟨by rfl,?_⟩) (by assumption) ?_;rotate_left;(intro w hSw;(try dsimp only at hSw);go_simp;try with_reducible rfl);(try simp only[Act.put]);(try simp only[List.getElem_toArray]);(try simp only[List.getElem_cons_succ]);(try simp only[List.getElem_cons_zero]);(try simp only[List.setIfInBounds_toArray]))
 (refine wpAnyH_take (i:=2) (oi:=_) (v:=?_) rfl (by kernel_rfl) (by kernel_rfl) (by kernel_rfl) (fun _ _ _ h=>h) (Or.inl ⟨by rfl,?_⟩) (by assumption) ?_;rotate_left;(intro w hSw;(try dsimp only at hSw);go_simp;try with_reducible rfl);(try simp only[Act.put]);(try simp only[List.getElem_toArray]);(try simp only[List.getElem_cons_succ]);(try simp only[List.getElem_cons_zero]);(try simp only[List.setIfInBounds_toArray]))
 (refine wpAnyH_take (i:=3) (oi:=_) (v:=?_) rfl (by kernel_rfl) (by kernel_rfl) (by kernel_rfl) (fun _ _ _ h=>h) (Or.inl ⟨by rfl,?_⟩) (by assumption) ?_;rotate_left;(intro w hSw;(try dsimp only at hSw);go_simp;try with_reducible rfl);(try simp only[Act.put]);(try simp only[List.getElem_toArray]);(try simp only[List.getElem_cons_succ]);(try simp only[List.getElem_cons_zero]);(try simp only[List.setIfInBounds_toArray]))
 (refine wpAnyH_take (i:=4) (oi:=_) (v:=?_) rfl (by kernel_rfl) (by kernel_rfl) (by kernel_rfl) (fun _ _ _ h=>h) (Or.inl ⟨by rfl,?_⟩) (by assumption) ?_;rotate_left;(intro w hSw;(try dsimp only at hSw);go_simp;try with_reducible rfl);(try simp only[Act.put]);(try simp only[List.getElem_toArray]);(try simp only[List.getElem_cons_succ]);(try simp only[List.getElem_cons_zero]);(try simp only[List.setIfInBounds_toArray]))
 (refine wpAnyH_take (i:=5) (oi:=_) (v:=?_) rfl (by kernel_rfl) (by kernel_rfl) (by kernel_rfl) (fun _ _ _ h=>h) (Or.inl ⟨by rfl,?_⟩) (by assumption) ?_;rotate_left;(intro w hSw;(try dsimp only at hSw);go_simp;try with_reducible rfl);(try simp only[Act.put]);(try simp only[List.getElem_toArray]);(try simp only[List.getElem_cons_succ]);(try simp only[List.getElem_cons_zero]);(try simp only[List.setIfInBounds_toArray]))
 ((refine wpAnyH_ready (rs:=[6]) (by kernel_rfl) (by simp) ?_);(refine AllReadyH.cons (o:=_) rfl (fun KK hK=>?_) ?_);rotate_left;exact AllReadyH.nil)
 go_simp
 go_at_call 24
 have E3:=hide (ext_trans E2.out (drew_ext w2))
 refine(routes_any f0 rb (refOf p.S) w2.drew (by rw[HRBE.out];exact HP.out.ref.ext E3.out)).mono ?_
 rw[←HM.out]
 rintro e w3 ⟨rfl,ra,rc,rfl,hor⟩
 have HOR:=hide hor
 have HOD3:=hide (owns_ext HOD.out (drew_ext w2))
 clear hor
 go_wp2_with fail
 (refine hK.out _ _ (KS2 _ (block_ext H1.out.2.2 (ext_trans E12.out (drew_ext w2))) (block_ext H1.out.2.1 (ext_trans E12.out (drew_ext w2)))) (fun hHeld=>?_);clear hK KK;(try simp only[Act.put]);(try simp only[List.getElem_toArray]);(try simp only[List.getElem_cons_succ]);(try simp only[List.getElem_cons_zero]);(try simp only[List.setIfInBounds_toArray]))
 (refine wpAnyH_take (i:=7) (oi:=_) (v:=?_) rfl (by kernel_rfl) (by kernel_rfl) (by kernel_rfl) (fun _ _ _ h=>h) (Or.inl ⟨by rfl,?_⟩) (by assumption) ?_;rotate_left;(intro w hSw;(try dsimp only at hSw);go_simp;try with_reducible rfl);(try simp only[Act.put]);(try simp only[List.getElem_toArray]);(try simp only[List.getElem_cons_succ]);(try simp only[List.getElem_cons_zero]);(try simp only[List.setIfInBounds_toArray]))
 (refine wpAnyH_done (by kernel_rfl) ?_ _)
 go_wp2_with fail
 obtain⟨w3,hw3⟩:∃w3:World,w3=w2.drew:=⟨_,rfl⟩
 rw[←hw3] at E3 HOR HOD3 ⊢
 clear hw3 hHeld KS KS2
 go_loopw [9,10] (fun okv iv wr=>∃k:Nat,k≤m∧okv=.bool true∧iv=.int .i64 (k:Int)∧Below w3.heap.size w3 wr) (fun _ i _=>m-(intOf i).toNat)
 case atStart=>exact⟨0,Nat.zero_le _,by simp,rfl,Below.refl _ _⟩
 case round =>
  obtain⟨k,hk,rfl,rfl,hbr⟩:=hrel
  have HBR:=hide hbr
  by_cases hkl:k<m
  ·have hkl':k<((refOf p.S).routes f0).length:=by rw[←HM.out];exact hkl
   have g1:=owns_ext HOD3.out hbr
   have g2:=owns_ext HOR.out hbr
   rw[HM.out] at g1 g2
   obtain⟨x1,rfl,hx1,c10,c11,c12⟩:=route_cells g1 hkl'
   obtain⟨x2,rfl,hx2,c20,c21,c22⟩:=route_cells g2 hkl'
   generalize ((refOf p.S).routes f0).getD k RouteD.zero=o at c10 c11 c12 c20 c21 c22
   clear g1 g2 hbr
   go_wp2_with fail
   go_quiet (fail)
   go_wp2
   go_roundw
   case rel=>exact⟨k+1,by omega,by simp,by go_num,ext_trans HBR.out (drewN_ext _ _)⟩
   case measure=>simp[intOf];omega
  ·obtain rfl:k=m:=by omega
   clear hbr
   obtain⟨wk,hwk⟩:∃wk:World,wk=wr.alloc (.cells #[.slice none 0 0,.slice da k dc,.slice none 0 0,.int .i64 0] 63):=⟨_,rfl⟩
   have ek:Below w.heap.size w wk:=by rw[hwk];exact ext_trans (ext_trans E3.out HBR.out) (ext_alloc _ _)
   have hbk:wk.heap[wr.heap.size]?=some (.cells #[.slice none 0 0,.slice da k dc,.slice none 0 0,.int .i64 0] 63 (0,0)):=by rw[hwk];exact heap_alloc_new _ _
   have hok:wk.ownsRow 0 66 3 (.slice da k dc) k (flatR ((refOf p.S).routes f0)):=by rw[hwk];exact owns_base (owns_ext (owns_ext HOD3.out HBR.out) (ext_alloc _ _)) (Nat.zero_le _)
   have hwr:w.heap.size≤wr.heap.size:=(ext_trans E3.out HBR.out).size
   have hap:∀x∈hs,Apart x ⟨wr.heap.size,0,none,0,0,da,k,dc,none,0,0⟩:=by
    intro x hx
    obtain⟨l1,l2⟩:=hold_lt (HW.out.holds.ok x hx)
    refine⟨by show x.hb≠wr.heap.size;omega,fun j hj hj2=>?_⟩
    have h1:=l2 j hj
    simp only[HoldD.rows,bls,List.nil_append,List.append_nil] at hj2
    have h2:=bls_base HOD.out j hj2
    omega
   have HKP:=hide (keep_x wk b _ ha hc hs ⟨wr.heap.size,0,none,0,0,da,k,dc,none,0,0⟩ [] _ [] (HW.out.ext ek).holds hbk (World.ownsRow_nil _ _ _ _) hok (World.ownsRow_nil _ _ _ _) (by omega) ⟨by show 0+3≤_;omega,by show k+3≤_;omega,by show 0+3≤_;omega⟩ hap)
   have HEK:=hide ek
   have HWK:=hide hwk
   clear hbk hok hap ek hwk
   go_wp2_with fail
   rw[←HWK.out]
   refine HKP.out.mono ?_
   rintro e w5 ⟨rfl,L,ha',hc',hH5,hL,hF5,_,hR5⟩
   have hF:Fr (b :: bls ha) w w5:=by
    refine Fr.after (fr_below HEK.out) hF5 (fun y hy=>?_)
    rw[show (⟨wr.heap.size,0,none,0,0,da,k,dc,none,0,0⟩:HoldD).rows=bls da by show ([]++bls da)++[]=_;rw[List.nil_append,List.append_nil]] at hy
    simp only[List.mem_append,List.mem_cons,List.not_mem_nil,or_false] at hy
    rcases hy with ((rfl | rfl) | hy) | hy
    ·exact .inl (List.mem_cons_self ..)
    ·exact .inr hwr
    ·exact .inl (List.mem_cons_of_mem _ hy)
    ·exact .inr (bls_base HOD.out y hy)
   have hP5:PlAt K w5 p:=HP.out.frW hF (fun k hk=>by
    rcases List.mem_cons.1 hk with rfl | hk
    ·exact .inl ⟨_,_,HW.out.holds.blk⟩
    ·exact .inr (.inr (owns_type HW.out.holds.row k hk).2))
   have hfin:=world_step HW.out HI.out hF (fun k hk=>by
    rcases List.mem_cons.1 hk with e | hk
    ·exact .inl e
    ·exact .inr (.inr (.inr (.inr (.inr hk))))) (p':=p) rfl rfl rfl rfl (fun _ _ _ h=>h) HP.out.ge hP5.fib hP5.ok hP5.ref hH5 (fun k hk=>by
    rcases hR5 k hk with h | h
    ·exact HW.out.hge k h
    ·have h1:=HEK.out.size
     have h2:=HW.out.bge
     have h3:=HW.out.lt
     omega)
   have HF:=hide (show After K b (hs.length+8) w w5 from ⟨_,_,_,_,_,_,hfin.1,hfin.2,by rw[List.length_append,hL];omega⟩)
   clear hfin hP5 hF hF5 hR5 hH5 HKP
   go_wp2
   go_ret
   exact⟨rfl,HF.out⟩
end Go.Proofs.YtnapboelfimaaaaGreatDoor
namespace Go.Proofs.YtnapboelfimaaaaGreatDoor
open Go.RowKit Go.Deep
def pickN (c:Int) (n:Nat):Nat:=(if c<0 then -(c+1) else c).toNat%n
theorem pickN_lt (c:Int) {m:Nat} (h:0<m):pickN c m<m:=Nat.mod_lt _ h
theorem tmod_nat (m n:Nat):(m:Int).tmod (n:Int)=((m%n:Nat):Int):=(Int.ofNat_tmod m n).symm
set_option maxHeartbeats 400000 in
theorem pick_any (c x:Int) (n:Nat) (w:World) (h1:-9223372036854775808≤c) (h2:c≤9223372036854775807) (hx:x=(n:Nat)) (hn:0<n) (hn2:n≤65536) :
  Calls Tryz.prog 12 #[.int .i64 c,.int .i64 x] w fun e w'=>e=.returned (.int .i64 (pickN c n:Nat))∧w'=w:=by
 subst hx
 have hn0:((n:Int)==0)=false:=by simp;omega
 by_cases hc:c<0
 ·obtain⟨m,hm⟩:∃m:Nat,c+1=-(m:Int):=⟨(-(c+1)).toNat,by omega⟩
  have HM:=hide hm
  clear hm
  go_enter Tryz.func12,Tryz.ntmps12
  go_wp2
  go_ret
  refine⟨ret_int ?_,rfl⟩
  have e:pickN c n=m%n:=by
   unfold pickN
   rw[if_pos hc,HM.out,Int.neg_neg,Int.toNat_natCast]
  rw[e,HM.out,Int.neg_tmod,Int.neg_neg,tmod_nat]
 ·have hc':0≤c:=by omega
  go_enter Tryz.func12,Tryz.ntmps12
  go_wp2
  go_ret
  refine⟨ret_int ?_,rfl⟩
  unfold pickN
  rw[if_neg (by omega)]
  obtain⟨m,rfl⟩:=Int.eq_ofNat_of_zero_le hc'
  rfl
set_option maxHeartbeats 400000 in
theorem WAt.after {K b m:Nat} {w w':World} {ps:List PlD} {hs:List HoldD} {pa ha:Option Addr} {pc hc:Nat} (h:WAt K w b ps hs pa pc ha hc) (hb:Below w.heap.size w w') (hm:hs.length≤m):After K b m w w':=⟨_,_,_,_,_,_,h.ext hb,FrT.ext hb,hm⟩
theorem After.from {K b m:Nat} {w w1 w':World} (h:After K b m w1 w') (hb:Below w.heap.size w w1):After K b m w w':=by
 obtain⟨ps,hs,pa,pc,ha,hc,h1,h2,h3⟩:=h
 exact⟨ps,hs,pa,pc,ha,hc,h1,(FrT.ext hb).trans h2,h3⟩
set_option maxHeartbeats 1000000 in
set_option maxRecDepth 10000 in
theorem step_idle (b:Nat) (w:World) (kd n0 words0 f0:Int) (oa:Option Addr) (n oc:Nat) (hk1:kd≠1) (pv hv:Value) (hb:w.heap[b]?=some (.cells #[pv,hv] 35 (0,0))) (hx:(kd<2∨4<kd)∨∃pa pc,pv=.slice pa 0 pc) :
  Calls Tryz.prog 9 #[.pointer (some ⟨b,0,none⟩),.agg #[.int .i64 kd,.int .i64 n0,.int .i64 words0,.slice oa n oc,.int .i64 f0]] w fun e w'=>e=.returned (.bool true)∧Below w.heap.size w w':=by
 have k1:(kd==1)=false:=by simpa using hk1
 have c0:=cell_two0 hb
 have hlt:=lt_of_block hb
 clear hb
 by_cases h2:kd<2
 ·go_enter Tryz.func9,Tryz.ntmps9
  go_wp2_with fail
  go_ret
  exact⟨rfl,ext_alloc _ _⟩
 ·by_cases h4:4<kd
  ·go_enter Tryz.func9,Tryz.ntmps9
   go_wp2_with fail
   go_ret
   exact⟨rfl,ext_alloc _ _⟩
  ·rcases hx with hx | ⟨pa,pc,rfl⟩
   ·omega
   ·go_enter Tryz.func9,Tryz.ntmps9
    go_wp2_with fail
    go_ret
    exact⟨rfl,ext_alloc _ _⟩
set_option maxHeartbeats 4000000 in
set_option maxRecDepth 10000 in
theorem step_deed (K b:Nat) (w:World) (kd n0 words0 f0:Int) (ops:List OpD) (oa:Option Addr) (oc n:Nat) (ps:List PlD) (hs:List HoldD) (pg:Nat) (ha:Option Addr) (pc hc:Nat) (hW:WAt K w b ps hs (some ⟨pg,0,none⟩) pc ha hc) (hK:K≤w.heap.size)
  (hn:n=ops.length) (hops:∀o∈ops,o.ok) (hown:w.ownsRow 0 27 5 (.slice oa n oc) n (flatO ops)) (hl:n≤2932031007317) (hh:hs.length≤20999999999990) (hZ:TzTab w) (h1:-9223372036854775808≤n0) (h2:n0≤9223372036854775807) (hk2:2≤kd) (hk4:kd≤4) (hps:0<ps.length) :
  Calls Tryz.prog 9 #[.pointer (some ⟨b,0,none⟩),.agg #[.int .i64 kd,.int .i64 n0,.int .i64 words0,.slice oa n oc,.int .i64 f0]] w fun e w'=>e=.returned (.bool true)∧After K b (hs.length+8) w w':=by
 obtain⟨np,hnp⟩:∃np,np=ps.length:=⟨_,rfl⟩
 obtain⟨ix,hix⟩:∃ix,ix=pickN n0 np:=⟨_,rfl⟩
 have hlt:ix<ps.length:=by rw[hix,hnp];exact pickN_lt n0 hps
 obtain⟨p,hp⟩:∃p,ps[ix]?=some p:=⟨_,List.getElem?_eq_getElem hlt⟩
 have hnp4:=hW.np
 have HPI:=hide (fun w=>pick_any n0 (np:Int) np w h1 h2 rfl (by omega) (by omega))
 rw[←hix] at HPI
 have hP:=hW.pl p (List.mem_of_getElem? hp)
 have hrow:w.cell? ⟨pg,ix,none⟩=some (.pointer (some ⟨p.pb,0,none⟩)):=by
  have:=hW.row.cellAt ix (by omega)
  rw[List.getElem?_map,hp] at this
  exact this
 have hpgl:pg<w.heap.size:=by
  obtain⟨_,c,fz,hg⟩:=owns_type hW.row pg (by simp[bls])
  exact lt_of_block hg
 obtain⟨sb,hsb⟩:∃sb,sb=w.heap.size:=⟨_,rfl⟩
 obtain⟨W1,hW1⟩:∃W1:World,W1=w.alloc (.cells #[.int .i64 kd,.int .i64 n0,.int .i64 words0,.slice oa n oc,.int .i64 f0] 30):=⟨_,rfl⟩
 have e1:Below w.heap.size w W1:=by rw[hW1];exact ext_alloc _ _
 have s1:W1.heap[sb]?=some (.cells #[.int .i64 kd,.int .i64 n0,.int .i64 words0,.slice oa n oc,.int .i64 f0] 30 (0,0)):=by rw[hW1,hsb];exact heap_alloc_new w _
 have c0:w.cell? ⟨b,0,none⟩=some (.slice (some ⟨pg,0,none⟩) np pc):=by rw[cell_two0 hW.holds.blk,hnp]
 have hlb:=hW.lt
 have hlt':ix<np:=by omega
 have hnp':np≤4:=by omega
 have hnp0:0<np:=by omega
 have HW:=hide hW
 have HP:=hide hP
 have HI:=hide hp
 have HO:=hide hown
 have HOPS:=hide hops
 have HN:=hide hn
 have HZ:=hide hZ
 have H1:=hide (And.intro e1 s1)
 have HSB:=hide hsb
 have HW1:=hide hW1
 have HC0:=hide c0
 have HRW:=hide hrow
 obtain⟨pb,hpb⟩:∃pb,pb=p.pb:=⟨_,rfl⟩
 have HPBE:=hide hpb
 rw[←hpb] at HRW
 have k1:(kd==1)=false:=by simp;omega
 have k2:¬kd<2:=by omega
 have k4:¬4<kd:=by omega
 have n00:((np:Int)==0)=false:=by simp;omega
 clear hW hP hp hown hops hn hZ e1 s1 hW1 hsb hrow hix hlt hps hnp4 hpb h1 h2 hnp
 have hl2:=lt_of_block H1.out.2
 have hl3:b<W1.heap.size:=Nat.lt_of_lt_of_le hlb H1.out.1.size
 have hl4:pg<W1.heap.size:=Nat.lt_of_lt_of_le hpgl H1.out.1.size
 go_enter Tryz.func9,Tryz.ntmps9
 go_wp2_with fail
 rw[←HW1.out,←HSB.out]
 have KS:∀w':World,Below W1.heap.size W1 w'→(fun w':World=>w'.cell? ⟨b,0,none⟩=some (.slice (some ⟨pg,0,none⟩) np pc)∧w'.cell? ⟨sb,1,none⟩=some (.int .i64 n0)∧w'.cell? ⟨pg,ix,none⟩=some (.pointer (some ⟨pb,0,none⟩))) w':=fun w' h=>⟨cell_ext (cell_ext HC0.out H1.out.1) h,(cell_at (block_ext H1.out.2 h) 1).trans rfl,cell_ext (cell_ext HRW.out H1.out.1) h⟩
 refine wp_region_held_drew (S:=(fun w':World=>w'.cell? ⟨b,0,none⟩=some (.slice (some ⟨pg,0,none⟩) np pc)∧w'.cell? ⟨sb,1,none⟩=some (.int .i64 n0)∧w'.cell? ⟨pg,ix,none⟩=some (.pointer (some ⟨pb,0,none⟩)))) (by kernel_rfl) (KS _ (drew_ext W1)) (fun hHeld=>?_)
 (refine wpAnyH_take (i:=0) (oi:=_) (v:=?_) rfl (by kernel_rfl) (by kernel_rfl) (by kernel_rfl) (fun _ _ _ h=>h) (Or.inl ⟨by rfl,?_⟩) (by assumption) ?_;rotate_left;(intro w hSw;(try dsimp only at hSw);go_simp;try with_reducible rfl);(try simp only[Act.put]);(try simp only[List.getElem_toArray]);(try simp only[List.getElem_cons_succ]);(try simp only[List.getElem_cons_zero]);(try simp only[List.setIfInBounds_toArray]))
 (refine wpAnyH_take (i:=1) (oi:=_) (v:=?_) rfl (by kernel_rfl) (by kernel_rfl) (by kernel_rfl) (fun _ _ _ h=>h) (Or.inl ⟨by rfl,?_⟩) (by assumption) ?_;rotate_left;(intro w hSw;(try dsimp only at hSw);go_simp;try with_reducible rfl);(try simp only[Act.put]);(try simp only[List.getElem_toArray]);(try simp only[List.getElem_cons_succ]);(try simp only[List.getElem_cons_zero]);(try simp only[List.setIfInBounds_toArray]))
 (refine wpAnyH_take (i:=2) (oi:=_) (v:=?_) rfl (by kernel_rfl) (by kernel_rfl) (by kernel_rfl) (fun _ _ _ h=>h) (Or.inl ⟨by rfl,?_⟩) (by assumption) ?_;rotate_left;(intro w hSw;(try dsimp only at hSw);go_simp;try with_reducible rfl);(try simp only[Act.put]);(try simp only[List.getElem_toArray]);(try simp only[List.getElem_cons_succ]);(try simp only[List.getElem_cons_zero]);(try simp only[List.setIfInBounds_toArray]))
 (refine wpAnyH_take (i:=3) (oi:=_) (v:=?_) rfl (by kernel_rfl) (by kernel_rfl) (by kernel_rfl) (fun _ _ _ h=>h) (Or.inl ⟨by rfl,?_⟩) (by assumption) ?_;rotate_left;(intro w hSw;(try dsimp only at hSw);go_simp;try with_reducible rfl);(try simp only[Act.put]);(try simp only[List.getElem_toArray]);(try simp only[List.getElem_cons_succ]);(try simp only[List.getElem_cons_zero]);(try simp only[List.setIfInBounds_toArray]))
 (refine wpAnyH_take (i:=4) (oi:=_) (v:=?_) rfl (by kernel_rfl) (by kernel_rfl) (by kernel_rfl) (fun _ _ _ h=>h) (Or.inl ⟨by rfl,?_⟩) (by assumption) ?_;rotate_left;(intro w hSw;(try dsimp only at hSw);go_simp;try with_reducible rfl);(try simp only[Act.put]);(try simp only[List.getElem_toArray]);(try simp only[List.getElem_cons_succ]);(try simp only[List.getElem_cons_zero]);(try simp only[List.setIfInBounds_toArray]))
 (refine wpAnyH_take (i:=5) (oi:=_) (v:=?_) rfl (by kernel_rfl) (by kernel_rfl) (by kernel_rfl) (fun _ _ _ h=>h) (Or.inl ⟨by rfl,?_⟩) (by assumption) ?_;rotate_left;(intro w hSw;(try dsimp only at hSw);go_simp;try with_reducible rfl);(try simp only[Act.put]);(try simp only[List.getElem_toArray]);(try simp only[List.getElem_cons_succ]);(try simp only[List.getElem_cons_zero]);(try simp only[List.setIfInBounds_toArray]))
 (refine wpAnyH_take (i:=6) (oi:=_) (v:=?_) rfl (by kernel_rfl) (by kernel_rfl) (by kernel_rfl) (fun _ _ _ h=>h) (Or.inl ⟨by rfl,?_⟩) (by assumption) ?_;rotate_left;(intro w hSw;(try dsimp only at hSw);go_simp;try with_reducible rfl);(try simp only[Act.put]);(try simp only[List.getElem_toArray]);(try simp only[List.getElem_cons_succ]);(try simp only[List.getElem_cons_zero]);(try simp only[List.setIfInBounds_toArray]))
 (refine wpAnyH_take (i:=7) (oi:=_) (v:=?_) rfl (by kernel_rfl) (by kernel_rfl) (by kernel_rfl) (fun _ _ _ h=>h) (Or.inl ⟨by rfl,?_⟩) (by assumption) ?_;rotate_left;(intro w hSw;(try dsimp only at hSw);go_simp;try with_reducible rfl);(try simp only[Act.put]);(try simp only[List.getElem_toArray]);(try simp only[List.getElem_cons_succ]);(try simp only[List.getElem_cons_zero]);(try simp only[List.setIfInBounds_toArray]))
 (refine wpAnyH_take (i:=8) (oi:=_) (v:=?_) rfl (by kernel_rfl) (by kernel_rfl) (by kernel_rfl) (fun _ _ _ h=>h) (Or.inl ⟨by rfl,?_⟩) (by assumption) ?_;rotate_left;(intro w hSw;(try dsimp only at hSw);go_simp;try with_reducible rfl);(try simp only[Act.put]);(try simp only[List.getElem_toArray]);(try simp only[List.getElem_cons_succ]);(try simp only[List.getElem_cons_zero]);(try simp only[List.setIfInBounds_toArray]))
 (refine wpAnyH_take (i:=9) (oi:=_) (v:=?_) rfl (by kernel_rfl) (by kernel_rfl) (by kernel_rfl) (fun _ _ _ h=>h) (Or.inl ⟨by rfl,?_⟩) (by assumption) ?_;rotate_left;(intro w hSw;(try dsimp only at hSw);go_simp;try with_reducible rfl);(try simp only[Act.put]);(try simp only[List.getElem_toArray]);(try simp only[List.getElem_cons_succ]);(try simp only[List.getElem_cons_zero]);(try simp only[List.setIfInBounds_toArray]))
 (refine wpAnyH_take (i:=10) (oi:=_) (v:=?_) rfl (by kernel_rfl) (by kernel_rfl) (by kernel_rfl) (fun _ _ _ h=>h) (Or.inl ⟨by rfl,?_⟩) (by assumption) ?_;rotate_left;(intro w hSw;(try dsimp only at hSw);go_simp;try with_reducible rfl);(try simp only[Act.put]);(try simp only[List.getElem_toArray]);(try simp only[List.getElem_cons_succ]);(try simp only[List.getElem_cons_zero]);(try simp only[List.setIfInBounds_toArray]))
 ((refine wpAnyH_ready (rs:=[11]) (by kernel_rfl) (by simp) ?_);(refine AllReadyH.cons (o:=_) rfl (fun KK hK=>?_) ?_);rotate_left;exact AllReadyH.nil)
 go_simp
 go_at_call 12
 refine(HPI.out _).mono ?_
 rintro e w2 ⟨rfl,rfl⟩
 go_wp2_with fail
 (refine hK.out _ _ (KS _ (drew_ext W1)) (fun hHeld=>?_);clear hK KK;(try simp only[Act.put]);(try simp only[List.getElem_toArray]);(try simp only[List.getElem_cons_succ]);(try simp only[List.getElem_cons_zero]);(try simp only[List.setIfInBounds_toArray]))
 (refine wpAnyH_take (i:=12) (oi:=_) (v:=?_) rfl (by kernel_rfl) (by kernel_rfl) (by kernel_rfl) (fun _ _ _ h=>h) (Or.inl ⟨by rfl,?_⟩) (by assumption) ?_;rotate_left;(intro w hSw;(try dsimp only at hSw);go_simp;try with_reducible rfl);(try simp only[Act.put]);(try simp only[List.getElem_toArray]);(try simp only[List.getElem_cons_succ]);(try simp only[List.getElem_cons_zero]);(try simp only[List.setIfInBounds_toArray]))
 (refine wpAnyH_take (i:=13) (oi:=_) (v:=?_) rfl (by kernel_rfl) (by kernel_rfl) (by kernel_rfl) (fun _ _ _ h=>h) (Or.inl ⟨by rfl,?_⟩) (by assumption) ?_;rotate_left;(intro w hSw;(try dsimp only at hSw);go_simp;try with_reducible rfl);(try simp only[Act.put]);(try simp only[List.getElem_toArray]);(try simp only[List.getElem_cons_succ]);(try simp only[List.getElem_cons_zero]);(try simp only[List.setIfInBounds_toArray]))
 (refine wpAnyH_take (i:=14) (oi:=_) (v:=?_) rfl (by kernel_rfl) (by kernel_rfl) (by kernel_rfl) (fun _ _ _ h=>h) (Or.inl ⟨by rfl,?_⟩) (by assumption) ?_;rotate_left;(intro w hSw;(try dsimp only at hSw);go_simp;try with_reducible rfl);(try simp only[Act.put]);(try simp only[List.getElem_toArray]);(try simp only[List.getElem_cons_succ]);(try simp only[List.getElem_cons_zero]);(try simp only[List.setIfInBounds_toArray]))
 (refine wpAnyH_done (by kernel_rfl) ?_ _)
 obtain⟨w2,hw2⟩:∃w2:World,w2=W1.drew:=⟨_,rfl⟩
 have E2:=hide (show Below w.heap.size w w2 by rw[hw2];exact ext_trans H1.out.1 (drew_ext W1))
 have S2:=hide (show w2.heap[sb]?=some (.cells #[.int .i64 kd,.int .i64 n0,.int .i64 words0,.slice oa n oc,.int .i64 f0] 30 (0,0)) by rw[hw2];exact block_ext H1.out.2 (drew_ext W1))
 rw[←hw2]
 clear hw2 hHeld KS
 have d0:w2.cell? ⟨sb,0,none⟩=some (.int .i64 kd):=(cell_at S2.out 0).trans rfl
 have d1:w2.cell? ⟨sb,1,none⟩=some (.int .i64 n0):=(cell_at S2.out 1).trans rfl
 have d2:w2.cell? ⟨sb,2,none⟩=some (.int .i64 words0):=(cell_at S2.out 2).trans rfl
 have d3:w2.cell? ⟨sb,3,none⟩=some (.slice oa n oc):=(cell_at S2.out 3).trans rfl
 have d4:w2.cell? ⟨sb,4,none⟩=some (.int .i64 f0):=(cell_at S2.out 4).trans rfl
 have hsl:=lt_of_block S2.out
 have P2:=hide (HP.out.ext E2.out)
 have W2:=hide (HW.out.ext E2.out)
 by_cases g2:kd=2
 ·have e2:(kd==2)=true:=by simpa using g2
  clear g2
  go_wp2_with fail
  have:=ran_any K b ix w2 kd n0 words0 f0 ops oa oc n ps hs _ ha pc hc p W2.out HI.out (Nat.le_trans hK E2.out.size) HN.out HOPS.out (owns_ext HO.out E2.out) hl hh
  rw[←HPBE.out] at this
  refine this.mono ?_
  rintro e w5 ⟨rfl,p',hs',ha',hc',h5,f5,l5⟩
  have HF:=hide (show After K b (hs.length+8) w w5 from After.from ⟨_,_,_,_,_,_,h5,f5,by omega⟩ E2.out)
  clear h5 f5 l5 this
  go_wp2
  go_ret
  exact⟨rfl,HF.out⟩
 ·have e2:(kd==2)=false:=by simpa using g2
  by_cases g3:kd=3
  ·have e3:(kd==3)=true:=by simpa using g3
   clear g2 g3
   go_wp2_with fail
   have:=dumped_any K b ix w2 kd n0 words0 f0 (.slice oa n oc) ps hs _ ha pc hc p W2.out HI.out hh (HZ.out.ext E2.out)
   rw[←HPBE.out] at this
   refine this.mono ?_
   rintro e w5 ⟨rfl,h5⟩
   have HF:=hide (show After K b (hs.length+8) w w5 from After.from h5 E2.out)
   clear h5 this
   go_wp2
   go_ret
   exact⟨rfl,HF.out⟩
  ·have e3:(kd==3)=false:=by simpa using g3
   have b2:=P2.out.blk
   rw[←HPBE.out] at b2
   have c1:w2.cell? ⟨pb,0,none⟩=some (.pointer (some ⟨p.b.fb,0,none⟩)):=(cell_at b2 0).trans rfl
   have c2:w2.cell? ⟨pb,1,none⟩=some (.pointer (some ⟨p.rb,0,none⟩)):=(cell_at b2 1).trans rfl
   have hlp:=lt_of_block b2
   obtain⟨a4,a6,c4,c6,hr,_⟩:=P2.out.ref
   have c3:w2.cell? ⟨p.rb,0,none⟩=some (.int .i64 (p.S.A.size:Int)):=(cell_at hr 0).trans rfl
   have hlr:=lt_of_block hr
   obtain⟨x1,x2,x3⟩:=free_within P2.out.ok
   have y1:decide (0≤p.S.A.free)=true:=by simpa using x3
   have y2:p.S.A.free≤(p.S.A.size:Int):=by omega
   have HF:=hide (show After K b (hs.length+8) w w2 from W2.out.after (Below.refl _ _) (by omega) |>.from E2.out)
   have HFR:=hide (free_x p.b p.S.A w2 P2.out.fib)
   clear g2 g3 b2 hr x1 x2
   go_wp2_with fail
   refine HFR.out.mono ?_
   rintro e w5 ⟨rfl,rfl⟩
   go_wp2
   go_ret
   exact⟨rfl,HF.out⟩
set_option maxHeartbeats 400000 in
set_option maxRecDepth 10000 in
theorem step_made (K b:Nat) (w:World) (n0 words0 f0:Int) (oa:Option Addr) (oc n:Nat) (ps:List PlD) (hs:List HoldD) (pa ha:Option Addr) (pc hc:Nat) (hW:WAt K w b ps hs pa pc ha hc) (hK:K≤w.heap.size) :
  Calls Tryz.prog 9 #[.pointer (some ⟨b,0,none⟩),.agg #[.int .i64 1,.int .i64 n0,.int .i64 words0,.slice oa n oc,.int .i64 f0]] w fun e w'=>e=.returned (.bool true)∧After K b (hs.length+8) w w':=by
 have hlt:=hW.lt
 go_enter Tryz.func9,Tryz.ntmps9
 go_wp2_with fail
 refine(created_all K b _ 1 n0 words0 f0 (.slice oa n oc) ps hs pa ha pc hc (hW.ext (ext_alloc w _)) (Nat.le_trans hK (ext_alloc w _).size)).mono ?_
 rintro e w1 ⟨rfl,ps',pa',pc',h1,f1⟩
 have HF:=hide (show After K b (hs.length+8) w w1 from After.from ⟨_,_,_,_,_,_,h1,f1,by omega⟩ (ext_alloc w _))
 clear h1 f1
 go_wp2_with fail
 go_ret
 exact⟨rfl,HF.out⟩
theorem step_all (K b:Nat) (w:World) (kd n0 words0 f0:Int) (ops:List OpD) (oa:Option Addr) (oc n:Nat) (ps:List PlD) (hs:List HoldD) (pa ha:Option Addr) (pc hc:Nat) (hW:WAt K w b ps hs pa pc ha hc) (hK:K≤w.heap.size)
  (hn:n=ops.length) (hops:∀o∈ops,o.ok) (hown:w.ownsRow 0 27 5 (.slice oa n oc) n (flatO ops)) (hl:n≤2932031007317) (hh:hs.length≤20999999999990) (hZ:TzTab w) (h1:-9223372036854775808≤n0) (h2:n0≤9223372036854775807) :
  Calls Tryz.prog 9 #[.pointer (some ⟨b,0,none⟩),.agg #[.int .i64 kd,.int .i64 n0,.int .i64 words0,.slice oa n oc,.int .i64 f0]] w fun e w'=>e=.returned (.bool true)∧After K b (hs.length+8) w w':=by
 by_cases hk1:kd=1
 ·subst hk1
  exact step_made K b w n0 words0 f0 oa oc n ps hs pa ha pc hc hW hK
 ·by_cases hk:kd<2∨4<kd
  ·refine(step_idle b w kd n0 words0 f0 oa n oc hk1 _ _ hW.holds.blk (Or.inl hk)).mono ?_
   rintro e w' ⟨rfl,hb⟩
   exact⟨rfl,hW.after hb (by omega)⟩
  ·by_cases hps:ps.length=0
   ·refine(step_idle b w kd n0 words0 f0 oa n oc hk1 _ _ hW.holds.blk (Or.inr ⟨pa,pc,by rw[hps]⟩)).mono ?_
    rintro e w' ⟨rfl,hb⟩
    exact⟨rfl,hW.after hb (by omega)⟩
   ·rcases hW.row.2 with ⟨_,e0⟩ | ⟨g,cp,cur,ev,_⟩
    ·omega
    ·cases ev
     exact step_deed K b w kd n0 words0 f0 ops oa oc n ps hs g ha pc hc hW hK hn hops hown hl hh hZ h1 h2 (by omega) (by omega) (by omega)
end Go.Proofs.YtnapboelfimaaaaGreatDoor
namespace Go.Proofs.YtnapboelfimaaaaGreatDoor
open Go.RowKit Go.Deep
theorem infoOp:(Tryz.prog.info? 27).map (fun i=>(i.zero,i.size,i.bytes))=some (some (.agg #[.int .i64 0,.int .i64 0,.string .empty,.int .i64 0,.int .i64 0]),5,48):=by kernel_rfl
def WI (K b m:Nat) (w:World):Prop:=∃ps hs pa pc ha hc,WAt K w b ps hs pa pc ha hc∧hs.length≤m
theorem WI.ext {K b m:Nat} {w w':World} (h:WI K b m w) (hb:Below w.heap.size w w'):WI K b m w':=by
 obtain⟨ps,hs,pa,pc,ha,hc,h1,h2⟩:=h
 exact⟨ps,hs,pa,pc,ha,hc,h1.ext hb,h2⟩
theorem WI.lt {K b m:Nat} {w:World} (h:WI K b m w):b<w.heap.size:=by
 obtain⟨ps,hs,pa,pc,ha,hc,h1,h2⟩:=h
 exact h1.lt
theorem WI.mono {K b m m':Nat} {w:World} (h:WI K b m w) (hm:m≤m'):WI K b m' w:=by
 obtain⟨ps,hs,pa,pc,ha,hc,h1,h2⟩:=h
 exact⟨ps,hs,pa,pc,ha,hc,h1,by omega⟩
theorem WAt.other {K:Nat} {w w':World} {b k:Nat} {ps:List PlD} {hs:List HoldD} {pa ha:Option Addr} {pc hc:Nat} (h:WAt K w b ps hs pa pc ha hc) (hf:Fr [k] w w') (hk:IsT w k 30):WAt K w' b ps hs pa pc ha hc:=by
 have ne:∀ {j:Nat} {c:Array Value} {u:TypeId} {fz:Nat × Nat},w.heap[j]?=some (.cells c u fz)→u≠30→j ∉ [k]:=by
  intro j c u fz hj hu hm
  rw[List.mem_singleton] at hm
  exact hk.ne hj hu hm
 refine⟨h.holds.move hf (fun j hj=>?_) (hf.at h.holds.blk (ne h.holds.blk (by decide))),owns_one h.row hf hk (by decide),h.hge,h.bge,fun p hp=>?_,h.apart,h.np⟩
 ·rw[List.mem_singleton.1 hj]
  exact⟨_,hk,by decide,by decide,by decide,by decide,by decide⟩
 ·have hq:=h.pl p hp
  refine hq.core hf (ne hq.blk (by decide)) (ne hq.fib.fib (by decide)) (ne hq.fib.tab.tab (by decide)) (ne hq.fib.tab.ar.arena (by decide)) (ne hq.fib.tab.ar.words (by decide)) ?_ ?_
  ·obtain⟨a4,a6,c4,c6,hrb,_⟩:=hq.ref
   exact ne hrb (by decide)
  ·intro j hj ⟨c,fz,hc⟩
   exact ne hc (by decide) hj
theorem WI.store {K b m k j:Nat} {w:World} {c:Array Value} {fz:Nat × Nat} (h:WI K b m w) (hk:w.heap[k]?=some (.cells c 30 fz)) (v:Value):WI K b m (w.setCell ⟨k,j,none⟩ v):=by
 obtain⟨ps,hs,pa,pc,ha,hc,h1,h2⟩:=h
 exact⟨ps,hs,pa,pc,ha,hc,h1.other ((Fr.refl [k] w).setCell (Or.inl (by simp)) v) ⟨c,fz,hk⟩,h2⟩
theorem WI.start (w:World):WI w.heap.size w.heap.size 0 (w.alloc (.cells #[.slice none 0 0,.slice none 0 0] 35)) :=
 ⟨[],[],none,0,none,0,⟨⟨heap_alloc_new w _,World.ownsRow_nil _ _ _ _,fun x hx=>(by cases hx)⟩,World.ownsRow_nil _ _ _ _,fun k hk=>(by simp[bls] at hk),Nat.le_refl _,fun p hp=>(by cases hp),List.Pairwise.nil,by simp⟩,Nat.le_refl _⟩
theorem TzTab.of_below {w w':World} {B:Nat} (h:TzTab w) (hB:w.heap.size≤B) (hb:Below B w w'):TzTab w':=h.ext (hb.mono hB)
theorem step_wi (K b m:Nat) (w:World) (kd n0 words0 f0:Int) (ops:List OpD) (v:Value) (hW:WI K b m w) (hK:K≤w.heap.size) (hops:∀o∈ops,o.ok) (hown:w.ownsRow 0 27 5 v ops.length (flatO ops)) (hl:ops.length≤2932031007317) (hh:m≤20999999999990) (hZ:TzTab w) (h1:-9223372036854775808≤n0) (h2:n0≤9223372036854775807) :
  Calls Tryz.prog 9 #[.pointer (some ⟨b,0,none⟩),.agg #[.int .i64 kd,.int .i64 n0,.int .i64 words0,v,.int .i64 f0]] w fun e w'=>e=.returned (.bool true)∧WI K b (m+8) w'∧FrT writes K w w':=by
 obtain⟨ps,hs,pa,pc,ha,hc,hA,hm⟩:=hW
 obtain⟨oa,oc,rfl⟩:=owns_slice hown
 refine(step_all K b w kd n0 words0 f0 ops oa oc ops.length ps hs pa ha pc hc hA hK rfl hops hown hl (by omega) hZ h1 h2).mono ?_
 rintro e w' ⟨rfl,ps',hs',pa',pc',ha',hc',g1,g2,g3⟩
 exact⟨rfl,⟨ps',hs',pa',pc',ha',hc',g1,by omega⟩,g2⟩
theorem looks_wi (K b m:Nat) (w:World) (hW:WI K b m w) (hm:m≤21000000000000) :
  Calls Tryz.prog 10 #[.pointer (some ⟨b,0,none⟩)] w fun e w'=>e=.returned (.bool true)∧w'=w:=by
 obtain⟨ps,hs,pa,pc,ha,hc,hA,hl⟩:=hW
 exact looks_ok w b _ ha hc hs hA.holds (by omega)
theorem kept_ok {code:Int} {ops:List OpD} (h:∀o∈ops,o.ok):∀o∈keptOps code ops,o.ok:=fun o ho=>h o (List.mem_filter.1 ho).1
set_option maxHeartbeats 1000000 in
set_option maxRecDepth 10000 in
theorem upTo_all (w:World) (b off cap:Nat) (ss:List StepD) (least last top code:Int) (hZ:TzTab w) (hn:ss.length*56≤140737488351232)
  (hs:∀s∈ss,s.ok∧OpsAt w s.opsAt s.ops) (hlt:b<w.heap.size) (hc:∀i,i<ss.length→∀j,j<5→w.cell? ⟨b,off+(i*5+j),none⟩=((ss.getD i StepD.zero).cells)[j]?) :
  Calls Tryz.prog 8 #[.slice (some ⟨b,off,none⟩) ss.length cap,.int .i64 least,.int .i64 last,.int .i64 top,.int .i64 code] w fun e w'=>e=.returned (.int .i64 (-1))∧Below w.heap.size w w':=by
 obtain⟨i0,hi,hz0,hz1,hz2⟩:=info_parts infoOp
 have HZ:=hide hZ
 clear hZ
 go_enter Tryz.func8,Tryz.ntmps8
 go_wp2
 go_loopw [12] (fun i wr=>∃k:Nat,k≤ss.length∧i=.int .i64 k∧WI w.heap.size w.heap.size (8*k) wr∧Below w.heap.size w wr) (fun i _=>ss.length-(intOf i).toNat)
 case atStart=>exact⟨0,Nat.zero_le _,rfl,WI.start w,ext_alloc w _⟩
 case round =>
  obtain⟨k,hk,rfl,hnw,hbel⟩:=hrel
  by_cases hkl:k<ss.length
  ·obtain⟨hok,hops⟩:=hs _ (getD_mem StepD.zero hkl)
   obtain⟨c0,c1,c2,c3,c4⟩:=step_cells hlt (Nat.le_refl _) hbel hkl hc
   generalize ss.getD k StepD.zero=s at hok hops c0 c1 c2 c3 c4
   have hwlt:=hnw.lt
   obtain⟨wo,hwo⟩:∃wo:World,wo=wr:=⟨_,rfl⟩
   subst hwo
   unfold StepD.opsVal at c3
   by_cases h1:top<s.kind
   ·go_wp2
    go_roundw
    case rel=>exact⟨k+1,by omega,by go_num,(hnw.ext (ext_alloc _ _)).mono (by omega),ext_trans hbel (ext_alloc _ _)⟩
    case measure=>simp[intOf];omega
   ·go_wp2
    have hcl:s.ops.length*48≤140737488351232:=hok.2.2.2.2
    obtain⟨wi,hwi⟩:∃wi:World,wi=wo.alloc (.cells #[.int .i64 s.kind,.int .i64 s.n,.int .i64 s.words,.slice s.opsAt s.ops.length s.opsCap,.int .i64 s.family] 30):=⟨_,rfl⟩
    have hsz:wi.heap.size=wo.heap.size+1:=by rw[hwi];simp
    have hsb:wi.heap[wo.heap.size]?=some (.cells #[.int .i64 s.kind,.int .i64 s.n,.int .i64 s.words,.slice s.opsAt s.ops.length s.opsCap,.int .i64 s.family] 30 (0,0)):=by rw[hwi];exact heap_alloc_new wo _
    have hoi:OpsAt wi s.opsAt s.ops:=(hops.ext (Nat.le_refl _) hbel).ext (Nat.le_refl _) (by rw[hwi];exact ext_alloc _ _)
    have hni:WI w.heap.size w.heap.size (8*k) wi:=by rw[hwi];exact hnw.ext (ext_alloc _ _)
    have hbi:Below w.heap.size w wi:=by rw[hwi];exact ext_trans hbel (ext_alloc _ _)
    rw[←hwi]
    clear hwi c0 c1 c2 c3 c4 hops hbel hnw
    go_loopw [14,15] (fun v i wr=>∃(m cp:Nat) (ao:Option Addr),m≤s.ops.length∧i=.int .i64 m∧v=.slice ao (keptOps code (s.ops.take m)).length cp∧wr.ownsRow (wo.heap.size+1) 27 5 v (keptOps code (s.ops.take m)).length ((keptOps code (s.ops.take m)).flatMap OpD.cells)∧Below (wo.heap.size+1) wi wr) (fun _ i _=>s.ops.length-(intOf i).toNat)
    case atStart=>exact⟨0,0,none,Nat.zero_le _,rfl,rfl,World.ownsRow_nil _ _ _ _,Below.refl _ _⟩
    case round =>
     obtain⟨m,cp,ao,hm,rfl,rfl,hown,hbr⟩:=hrel
     have hkl':=keptOps_le code s.ops m
     have q3:wr.cell? ⟨wo.heap.size,3,none⟩=some (.slice s.opsAt s.ops.length s.opsCap):=(hbr.cell (p:=⟨wo.heap.size,3,none⟩) (by simp)).trans (by simp[World.cell?,hsb])
     by_cases hml:m<s.ops.length
     ·obtain⟨bo,oo,hao,hblt,hoc⟩:=hoi.2 (by intro e;rw[e] at hml;simp at hml)
      obtain⟨e0,e1,e2,e3,e4⟩:=op_cells hblt (Nat.le_refl _) (hbr.mono (by omega)) hml hoc
      have hky:=keptOps_yes code s.ops m hml
      have hkn:=keptOps_no code s.ops m hml
      rw[hao] at q3
      clear hao
      generalize s.ops.getD m ⟨0,0,.empty,0,0⟩=o at e0 e1 e2 e3 e4 hky hkn
      by_cases hy:o.code≤code∨4<o.code
      ·have K:=hide (hky hy)
       clear hky hkn
       by_cases hy1:o.code≤code
       all_goals
        have hy2:o.code≤code∨4<o.code:=hy
        clear hy
        have hown2:=hown.alloc (.cells #[.int .i64 o.code,.int .i64 o.family,.string o.bits,.int .i64 o.len,.int .i64 o.hop] 27)
        have hz3:wo.heap.size+1≤wr.heap.size:=by have:=hbr.size;omega
        go_wp2_with (at_builtin;refine wpList_append_own _ rfl _ _ 28 rfl (wo.heap.size+1) 27 i0 (.agg #[.int .i64 0,.int .i64 0,.string .empty,.int .i64 0,.int .i64 0]) 5 48 Tryz.underlying28 hi hz0 hz1 hz2 rfl (by decide) _ _ _ rfl hown2 ⟨wr.heap.size,0,none⟩ 1 1 o.cells rfl rfl ?_ ?_ ?_ ?_ ?_ ?_)
        ·first | exact op_news wr o _ | (intro j u hj;simpa [OpD.cells] using hj)
        ·exact op_one o
        ·unfold maxLen;omega
        ·omega
        ·first | omega | (simp;omega)
        ·intro v' w3 hown' hgrow _
         obtain⟨kl,kf⟩:=kept_snoc K.out
         rw[←kl,←kf] at hown'
         obtain⟨ao',cp',hv⟩:=owns_shape hown'
         have HB:=hide ((hbr.alloc hz3 (.cells #[.int .i64 o.code,.int .i64 o.family,.string o.bits,.int .i64 o.len,.int .i64 o.hop] 27)).grown hgrow (by simp;omega) (fun k hk=>(hown2.lt k hk).1))
         rw[hv] at hown' ⊢
         have HO:=hide hown'
         clear hown' hgrow hown hown2 hbr K kf kl
         go_wp2
         go_roundw
         case rel =>
          first | exact⟨m+1,cp',ao',by omega,by go_num,rfl,HO.out,HB.out⟩ | ((repeat apply Exists.intro);refine⟨?_,rfl⟩;exact⟨m+1,cp',ao',by omega,by go_num,rfl,HO.out,HB.out⟩)
         case measure=>simp[intOf];omega
      ·have K:=hide (hkn hy)
       clear hky hkn
       have n1:¬o.code≤code:=fun h=>hy (.inl h)
       have n2:¬4<o.code:=fun h=>hy (.inr h)
       clear hy
       go_wp2
       go_roundw
       case rel=>exact⟨m+1,cp,ao,by omega,by go_num,by rw[K.out],by rw[K.out];exact hown,hbr⟩
       case measure=>simp[intOf];omega
     ·have hbel1:Below w.heap.size w wr:=hbi.trans (hbr.mono (by have:=hni.lt;omega))
      have hbr':Below wi.heap.size wi wr:=by rw[hsz];exact hbr
      have hnr:WI w.heap.size w.heap.size (8*k) wr:=hni.ext hbr'
      have hsr:=block_ext hsb hbr'
      have hlw:w.heap.size<wo.heap.size:=hwlt
      have r0:=cell_at hsr 0
      have r1:=cell_at hsr 1
      have r2:=cell_at hsr 2
      have r4:=cell_at hsr 4
      have rf:=free_at hsr 3
      simp at r0 r1 r2 r4
      have HN:=hide (fun v=>hnr.store (j:=3) hsr v)
      have HS:=hide (fun v=>heap_setCell_at (off:=3) v hsr)
      have HB:=hide hbel1
      obtain rfl:m=s.ops.length:=by omega
      rw[List.take_length] at hown ⊢
      have hkl2:(keptOps code s.ops).length≤2932031007317:=by have:=keptOps_le code s.ops s.ops.length;rw[List.take_length] at this;omega
      have HOK:=hide (kept_ok (code:=code) hoi.1)
      have HOW:=hide (fun v=>owns_other (off:=3) (u:=v) (owns_base hown (Nat.zero_le _)) hsr (by decide))
      have hkw:w.heap.size≤wr.heap.size:=hbel1.size
      have hn1:=hok.2.1.1
      have hn2:=hok.2.1.2
      clear hsr hnr hbr hbr' hbel1 hown hsb hni hbi hoi
      go_wp2_with fail
      refine(step_wi w.heap.size w.heap.size (8*k) _ s.kind s.n s.words s.family (keptOps code s.ops) _ (HN.out _) (by simpa [World.setCell] using hkw) HOK.out (HOW.out _) hkl2 (by omega) (HZ.out.of_below (Nat.le_refl _) (HB.out.setCell (by simp;omega) _)) hn1 hn2).mono ?_
      rintro e w5 ⟨rfl,hn5,hf5⟩
      have hs5:=hf5.typed _ _ _ _ (HS.out _) (by decide)
      have t0:=cell_at hs5 0
      simp at t0
      have HB5:=hide (show Below w.heap.size w w5 from (HB.out.setCell (by simp;omega) _).trans (hf5.below (by simpa [World.setCell] using hkw)))
      have HN5:=hide (hn5.mono (show 8*k+8≤8*(k+1) by omega))
      have HLK:=hide (looks_wi w.heap.size w.heap.size _ w5 hn5 (by omega))
      clear hn5 hf5 hs5 HN HS HB HOW
      go_wp2_with fail
      refine HLK.out.mono ?_
      rintro e w6 ⟨rfl,rfl⟩
      clear HLK
      by_cases g1:least≤s.kind
      ·by_cases g3:s.kind≤last
       ·have e3:decide (s.kind≤last)=true:=by simpa using g3
        have e1:decide (least≤s.kind)=true:=by simpa using g1
        go_wp2
        go_roundw
        case rel=>exact⟨k+1,by omega,by go_num,HN5.out,HB5.out⟩
        case measure=>simp[intOf];omega
       ·have e3:decide (s.kind≤last)=false:=by simpa using g3
        have e1:decide (least≤s.kind)=true:=by simpa using g1
        by_cases g5:s.kind=1
        ·have e5:(s.kind==1)=true:=by simpa using g5
         clear g5
         go_wp2
         go_roundw
         case rel=>exact⟨k+1,by omega,by go_num,HN5.out,HB5.out⟩
         case measure=>simp[intOf];omega
        ·have e5:(s.kind==1)=false:=by simpa using g5
         go_wp2
         go_roundw
         case rel=>exact⟨k+1,by omega,by go_num,HN5.out,HB5.out⟩
         case measure=>simp[intOf];omega
      ·have e1:decide (least≤s.kind)=false:=by simpa using g1
       by_cases g5:s.kind=1
       ·have e5:(s.kind==1)=true:=by simpa using g5
        clear g5
        go_wp2
        go_roundw
        case rel=>exact⟨k+1,by omega,by go_num,HN5.out,HB5.out⟩
        case measure=>simp[intOf];omega
       ·have e5:(s.kind==1)=false:=by simpa using g5
        go_wp2
        go_roundw
        case rel=>exact⟨k+1,by omega,by go_num,HN5.out,HB5.out⟩
        case measure=>simp[intOf];omega
  ·go_wp2
   go_ret
   exact⟨rfl,hbel⟩
end Go.Proofs.YtnapboelfimaaaaGreatDoor
