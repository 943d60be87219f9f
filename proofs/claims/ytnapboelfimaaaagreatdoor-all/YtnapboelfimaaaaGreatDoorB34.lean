/- HoldG, HoldH, NewR, WldA: parts of the proof, one behind the other. -/
import Derived.Test.YtnapboelfimaaaaGreatDoorB00
import Derived.Test.YtnapboelfimaaaaGreatDoorB32
import Derived.Test.YtnapboelfimaaaaGreatDoorB33
namespace Go.Proofs.YtnapboelfimaaaaGreatDoor
open Go.RowKit Go.Deep
def HoldD.marked (h:HoldD) (m:Int):HoldD:={ h with mark:=m }
def Apart (x h:HoldD):Prop:=x.hb≠h.hb∧∀k∈x.rows,k ∉ h.rows
theorem le_of_apart {w:World} {x h:HoldD} (hx:HoldOk w x) (ha:Apart x h):Le x h:=by
 have key:∀ {t size l c n:Nat} {ax ah:Option Addr} {ys:List Value},w.ownsRow 0 t size (.slice ax l c) l ys→(∀k∈bls ax,k ∉ bls ah)→ax=ah→l≤n:=by
  intro t size l c n ax ah ys ho hd e
  rcases ho.2 with ⟨_,h0⟩ | ⟨g,cp,cur,ev,_⟩
  ·omega
  ·simp only[Value.slice.injEq] at ev
   rw[←e,ev.1] at hd
   exact absurd (show g∈bls (some ⟨g,0,none⟩) by simp[bls]) (hd g (by simp[bls]))
 refine⟨key hx.2.2.1 (fun k hk hk2=>ha.2 k (by simp[HoldD.rows,hk]) (by simp[HoldD.rows,hk2])),key hx.2.2.2.1 (fun k hk hk2=>ha.2 k (by simp[HoldD.rows,hk]) (by simp[HoldD.rows,hk2])),key hx.2.2.2.2 (fun k hk hk2=>ha.2 k (by simp[HoldD.rows,hk]) (by simp[HoldD.rows,hk2]))⟩
set_option maxHeartbeats 1000000 in
set_option maxRecDepth 10000 in
theorem keep_any (w:World) (b:Nat) (psv:Value) (ao:Option Addr) (cap:Nat) (hs:List HoldD) (h0:HoldD) (x1 x2 x3:List Value) (H:HoldsAt w b psv ao cap hs) (hb:w.heap[h0.hb]?=some (.cells h0.cells 63 (0,0)))
  (h1:w.ownsRow 0 59 3 (.slice h0.a1 h0.l1 h0.c1) h0.l1 x1) (h2:w.ownsRow 0 66 3 (.slice h0.a2 h0.l2 h0.c2) h0.l2 x2) (h3:w.ownsRow 0 27 5 (.slice h0.a3 h0.l3 h0.c3) h0.l3 x3)
  (hn:hs.length≤21000000000000) (hl:h0.l1+3≤2932031007402∧h0.l2+3≤2932031007402∧h0.l3+3≤2932031007402) (ha:∀x∈hs,Apart x h0) :
  Calls Tryz.prog 22 #[.pointer (some ⟨b,0,none⟩),.pointer (some ⟨h0.hb,0,none⟩)] w fun e w'=>e=.returned (.tuple #[])∧∃L cur ao' cap',Keeping w w' b psv ao hs L (h0.marked ((hs.length:Int)+1)) cur 3 ao' cap':=by
 obtain⟨i0,hi,hz0,hz1,hz2⟩:=info_parts infoHold
 obtain⟨hl1,hl2,hl3⟩:=hl
 have q1:=cell_at H.blk 1
 have p3:=cell_at hb 3
 have f3:=free_at hb 3
 simp[HoldD.cells] at q1 p3
 obtain⟨w1,hw1⟩:∃w1:World,w1=w.setCell ⟨h0.hb,3,none⟩ (.int .i64 ((hs.length:Int)+1)):=⟨_,rfl⟩
 have HW1:=hide hw1
 have hb1:w1.heap[h0.hb]?=some (.cells (h0.marked ((hs.length:Int)+1)).cells 63 (0,0)):=by rw[hw1];exact heap_setCell_at _ hb
 have hf1:Fr [h0.hb] w w1:=by rw[hw1];exact(Fr.refl _ _).setCell (.inl (by simp)) _
 have r1:w1.ownsRow 0 59 3 (.slice h0.a1 h0.l1 h0.c1) h0.l1 x1:=by rw[hw1];exact owns_other h1 hb (by decide)
 have r2:w1.ownsRow 0 66 3 (.slice h0.a2 h0.l2 h0.c2) h0.l2 x2:=by rw[hw1];exact owns_other h2 hb (by decide)
 have r3:w1.ownsRow 0 27 5 (.slice h0.a3 h0.l3 h0.c3) h0.l3 x3:=by rw[hw1];exact owns_other h3 hb (by decide)
 have hH1:HoldsAt w1 b psv ao cap hs:=by
  refine⟨hf1.at H.blk ?_,owns_frh H.row hf1 ?_,fun x hx=>?_⟩
  ·intro h
   have:=H.blk
   rw[List.mem_singleton.1 h,hb] at this
   simp at this
  ·intro g c hg hm
   rw[List.mem_singleton.1 hm,hb] at hg
   simp at hg
  ·rw[hw1]
   exact(H.ok x hx).set hb (ha x hx).1
 have HS:=hide (show (h0.marked ((hs.length:Int)+1)).small from ⟨by simp[HoldD.marked];omega,by simp[HoldD.marked];omega,by simp[HoldD.marked];omega,by simp[HoldD.marked];omega,by simp[HoldD.marked];omega⟩)
 have HB1:=hide hb1
 have HF1:=hide hf1
 have R1:=hide r1
 have R2:=hide r2
 have R3:=hide r3
 have HH1:=hide hH1
 have HAP:=hide ha
 clear hb1 hf1 r1 r2 r3 hH1 h1 h2 h3 H hb hw1 ha
 go_enter Tryz.func22,Tryz.ntmps22
 go_wp2_with fail
 rw[←HW1.out]
 refine(marks_any (h0.marked ((hs.length:Int)+1)) w1 HS.out HB1.out x1 x2 x3 R1.out R2.out R3.out).mono ?_
 rintro e w2 ⟨rfl,hok2,hf2⟩
 have hH2:HoldsAt w2 b psv ao cap hs:=by
  have hc:HoldOk w2 (h0.marked ((hs.length:Int)+1)):=hok2
  have nr:∀ {k:Nat} {c:Array Value} {t:TypeId} {fz:Nat × Nat},w1.heap[k]?=some (.cells c t fz)→t≠59→t≠66→t≠27→k ∉ bls h0.a1++bls h0.a2++bls h0.a3:=by
   intro k c t fz hk n1 n2 n3
   simp only[List.mem_append,not_or]
   exact⟨⟨not_bls R1.out hk n1,not_bls R2.out hk n2⟩,not_bls R3.out hk n3⟩
  refine⟨hf2.at HH1.out.blk (nr HH1.out.blk (by decide) (by decide) (by decide)),owns_frh HH1.out.row hf2 (fun g c hg=>nr hg (by decide) (by decide) (by decide)),fun x hx=>?_⟩
  exact(HH1.out.ok x hx).fr hf2 (nr (HH1.out.ok x hx).2.1 (by decide) (by decide) (by decide)) (HAP.out x hx).2
 have q2:=cell_at hH2.blk 1
 have qf:=free_at hH2.blk 1
 simp at q2
 have hsz2:b<w2.heap.size:=lt_of_block hH2.blk
 have HH2:=hide hH2
 have HO2:=hide hok2
 have HF2:=hide (show Fr ([b,h0.hb]++bls ao++h0.rows) w w2 from (HF1.out.mono (fun k hk _=>by simp at hk;simp[hk])).trans (hf2.mono (fun k hk _=>by simp only[HoldD.rows];simp only[HoldD.marked] at hk;exact List.mem_append_right _ hk)))
 clear hH2 hok2 hf2 q1 p3 f3
 go_wp2_with (at_builtin;refine wpList_append_one _ rfl (.tmp 21) (.tmp 23) 33 rfl 0 49 i0 (.pointer none) 1 8 Tryz.underlying33 hi hz0 hz1 hz2 rfl (by decide) _ _ _ (hs.map HoldD.ptr) rfl (HH2.out.row.alloc _) ⟨w2.heap.size,0,none⟩ [h0.ptr] rfl rfl ?_ ?_ ?_ ?_ ?_ ?_)
 ·exact cell_one_new _ _ _
 ·intro u hu;simp only[List.mem_singleton] at hu;subst hu;rfl
 ·unfold maxLen;omega
 ·omega
 ·exact Nat.zero_le _
 ·intro g1 k1 wa hown1 hgr1
  obtain⟨S,all,hf,_⟩:=holds_snoc HH2.out HO2.out hown1 hgr1
  have hba:=block_kept (HH2.out.row.alloc _) hgr1 (block_ext HH2.out.blk (ext_alloc w2 _)) (by decide)
  have n1:=cell_at hba 1
  have nf:=free_at hba 1
  simp at n1
  have hK:Keeping w (wa.setCell ⟨b,1,none⟩ (.slice (some ⟨g1,0,none⟩) (hs.length+1) k1)) b psv ao hs [h0.marked ((hs.length:Int)+1)] (h0.marked ((hs.length:Int)+1)) (h0.marked ((hs.length:Int)+1)) 0 (some ⟨g1,0,none⟩) k1:=by
   refine⟨S,rfl,all _ HO2.out,?_,rfl,rfl,rfl,?_,?_,fun k hk=>.inl hk,?_⟩
   ·intro x hx
    rcases List.mem_append.1 hx with hx | hx
    ·exact le_of_apart (HH2.out.ok x hx) (HAP.out x hx)
    ·rw[List.mem_singleton.1 hx];exact Le.refl _
   ·exact HF2.out.trans (hf.mono (fun k hk _=>by
     simp only[List.cons_append,List.nil_append,List.mem_cons] at hk
     rcases hk with rfl | hk
     ·simp
     ·simp[hk]))
   ·intro x hx
    rw[List.mem_singleton.1 hx]
    exact⟨.inl rfl,fun k hk=>.inl hk⟩
   ·intro k hk
    rcases grew_lies hgr1 with h | h
    ·exact .inl (by rw[h];exact hk)
    ·simp only[bls,List.mem_singleton] at hk
     subst hk
     rw[World.size_alloc] at h
     have:=HF2.out.size
     exact .inr (by omega)
  have HK:=hide hK
  clear hK S all hf hown1 hgr1 hba q2 qf
  go_wp2
  go_loopw [4,5] (fun p i wr=>∃(j:Nat) (L:List HoldD) (cur:HoldD) (ao':Option Addr) (cap':Nat),j≤3∧i=.int .i64 j∧p=.pointer (some ⟨cur.hb,0,none⟩)∧Keeping w wr b psv ao hs L (h0.marked ((hs.length:Int)+1)) cur j ao' cap') (fun _ i _=>3-(intOf i).toNat)
  case atStart=>exact⟨0,_,h0.marked ((hs.length:Int)+1),_,_,by omega,rfl,rfl,HK.out⟩
  case round =>
   obtain⟨j,L,cur,ao',cap',hj,rfl,rfl,K⟩:=hrel
   have KK:=hide K
   have hlen:L.length≤10:=by have:=K.len;omega
   by_cases hj3:j<3
   ·have c1:cur.l1+1≤2932031007402:=by rw[K.l1];simp only[HoldD.marked];omega
    have c2:cur.l2+1≤2932031007402:=by rw[K.l2];simp only[HoldD.marked];omega
    have c3:cur.l3+1≤2932031007402:=by rw[K.l3];simp only[HoldD.marked];omega
    have hcok:=K.cur_ok
    have HC:=hide hcok
    clear hcok K
    go_wp2_with fail
    refine(longer_any cur wr HC.out ⟨c1,c2,c3⟩).mono ?_
    rintro e w3 ⟨h',rfl,hlg⟩
    have hH3:=holds_longer KK.out.at_ KK.out.cur_ok KK.out.le hlg
    have m1:=cell_at hH3.blk 1
    have mf:=free_at hH3.blk 1
    simp at m1
    have hsz3:b<w3.heap.size:=lt_of_block hH3.blk
    have HH3:=hide hH3
    have HR3:=hide (show w3.ownsRow 0 49 1 (.slice ao' (hs.length+L.length) cap') (hs.length+L.length) ((hs++L).map HoldD.ptr) by rw[←List.length_append];exact hH3.row)
    have HL3:=hide hlg
    have hlL:hs.length+L.length≤21000000000010:=by omega
    clear hH3 hlg
    go_wp2_with (at_builtin;refine wpList_append_one _ rfl (.tmp 38) (.tmp 40) 33 rfl 0 49 i0 (.pointer none) 1 8 Tryz.underlying33 hi hz0 hz1 hz2 rfl (by decide) _ (hs.length+L.length) _ ((hs++L).map HoldD.ptr) rfl (HR3.out.alloc _) ⟨w3.heap.size,0,none⟩ [h'.ptr] rfl rfl ?_ ?_ ?_ ?_ ?_ ?_)
    ·exact cell_one_new _ _ _
    ·intro u hu;simp only[List.mem_singleton] at hu;subst hu;rfl
    ·unfold maxLen;omega
    ·omega
    ·exact Nat.zero_le _
    ·intro g4 k4 w4 hown4 hgr4
     have hb4:=block_kept (HR3.out.alloc _) hgr4 (block_ext HH3.out.blk (ext_alloc w3 _)) (by decide)
     have y1:=cell_at hb4 1
     have yf:=free_at hb4 1
     simp at y1
     have K4:=keep_step KK.out HL3.out (by rw[List.length_append,List.map_append,List.append_assoc];exact hown4) hgr4
     rw[List.length_append] at K4
     have HK4:=hide K4
     clear K4 hown4 hgr4 hb4 m1 mf
     go_wp2
     go_roundw
     case rel=>exact⟨j+1,_,h',_,_,by omega,by go_num,rfl,HK4.out⟩
     case measure=>simp[intOf];omega
   ·clear K
    go_wp2
    go_end0
    have:j=3:=by omega
    subst this
    exact⟨rfl,_,_,_,_,KK.out⟩
end Go.Proofs.YtnapboelfimaaaaGreatDoor
namespace Go.Proofs.YtnapboelfimaaaaGreatDoor
open Go.RowKit Go.Deep
set_option maxHeartbeats 1000000 in
set_option maxRecDepth 10000 in
theorem looks_ok (w:World) (b:Nat) (psv:Value) (ao:Option Addr) (cap:Nat) (hs:List HoldD) (H:HoldsAt w b psv ao cap hs) (hn:hs.length≤21000000000000) :
  Calls Tryz.prog 10 #[.pointer (some ⟨b,0,none⟩)] w fun e w'=>e=.returned (.bool true)∧w'=w:=by
 have q1:=cell_at H.blk 1
 simp at q1
 have HH:=hide H
 clear H
 go_enter Tryz.func10,Tryz.ntmps10
 go_wp2
 go_loop [3] (fun i=>∃k:Nat,k≤hs.length∧i=.int .i64 k) (fun i=>hs.length-(intOf i).toNat)
 case atStart=>exact⟨0,Nat.zero_le _,rfl⟩
 case round =>
  obtain⟨k,hk,rfl⟩:=hrel
  by_cases hkl:k<hs.length
  ·obtain⟨g,hg,hc⟩:∃g,ao=some ⟨g,0,none⟩∧w.cell? ⟨g,k,none⟩=some (hs[k]'hkl).ptr:=by
    rcases HH.out.row.2 with ⟨e,e0⟩ | ⟨g,cp,cur,e,_⟩
    ·omega
    ·simp only[Value.slice.injEq] at e
     refine⟨g,e.1,?_⟩
     have h:=HH.out.row
     rw[e.1] at h
     rw[h.cellAt k (by omega)]
     simp[hkl]
   have hok:=HH.out.ok hs[k] (List.getElem_mem hkl)
   have HOK:=hide hok
   clear hok
   subst hg
   unfold HoldD.ptr at hc
   go_wp2_with fail
   refine(marked_ok (hs[k]'hkl) w HOK.out).mono ?_
   rintro e w' ⟨rfl,rfl⟩
   go_wp2
   go_round
   case rel=>exact⟨k+1,by omega,by go_num⟩
   case measure=>simp[intOf];omega
  ·go_wp2
   go_ret
   exact⟨rfl,rfl⟩
end Go.Proofs.YtnapboelfimaaaaGreatDoor
namespace Go.Proofs.YtnapboelfimaaaaGreatDoor
open Go.RowKit Go.Deep
theorem infoPlayer:(Tryz.prog.info? 38).map (fun i=>(i.zero,i.size,i.bytes))=some (some (.pointer none),1,8):=by kernel_rfl
set_option maxHeartbeats 400000 in
theorem refNew_no (n:Int) (w:World) (h:n<2048∨65536<n):Calls Tryz.prog 18 #[.int .i64 n] w fun e w'=>e=.returned (.tuple #[.pointer none,.int .i64 1])∧w'=w:=by
 rcases h with h | h
 ·go_enter Tryz.func18,Tryz.ntmps18
  go_wp2
  go_ret2
  exact⟨rfl,rfl⟩
 ·have h':¬n<2048:=by omega
  go_enter Tryz.func18,Tryz.ntmps18
  go_wp2
  go_ret2
  exact⟨rfl,rfl⟩
set_option maxHeartbeats 400000 in
theorem refNew_yes (n:Int) (w:World) (h:2048≤n) (h2:n≤65536):Calls Tryz.prog 18 #[.int .i64 n] w fun e w'=>e=.returned (.tuple #[.pointer (some ⟨w.heap.size,0,none⟩),.int .i64 0])∧w'=w.alloc (.cells #[.int .i64 n,.slice none 0 0,.slice none 0 0] 48):=by
 go_enter Tryz.func18,Tryz.ntmps18
 go_wp2
 go_ret2
 exact⟨rfl,rfl⟩
end Go.Proofs.YtnapboelfimaaaaGreatDoor
namespace Go.Proofs.YtnapboelfimaaaaGreatDoor
open Go.RowKit Go.Deep
structure FrT (Ts:List TypeId) (K:Nat) (w w':World):Prop where
 os:w'.os=w.os
 tape:w'.tape=w.tape
 output:w'.output=w.output
 size:w.heap.size≤w'.heap.size
 low:∀k,k<K→k<w.heap.size→w'.heap[k]?=w.heap[k]?
 typed:∀(k:Nat) (c:Array Value) (t:TypeId) (fz:Nat × Nat),w.heap[k]?=some (.cells c t fz)→t ∉ Ts→w'.heap[k]?=some (.cells c t fz)
theorem FrT.trans {Ts:List TypeId} {K:Nat} {a b c:World} (h:FrT Ts K a b) (k:FrT Ts K b c):FrT Ts K a c :=
 ⟨k.os.trans h.os,k.tape.trans h.tape,k.output.trans h.output,Nat.le_trans h.size k.size,fun i h1 h2=>(k.low i h1 (Nat.lt_of_lt_of_le h2 h.size)).trans (h.low i h1 h2),fun i x t fz h1 h2=>k.typed i x t fz (h.typed i x t fz h1 h2) h2⟩
theorem FrT.ext {Ts:List TypeId} {K:Nat} {w w':World} (h:Below w.heap.size w w'):FrT Ts K w w' :=
 ⟨h.os,h.tape,h.output,h.size,fun k _ h2=>h.block k h2,fun _ _ _ _ h1 _=>block_ext h1 h⟩
theorem FrT.below {Ts:List TypeId} {K:Nat} {w w':World} (h:FrT Ts K w w') (hK:K≤w.heap.size):Below K w w' :=
 ⟨h.os,h.tape,h.output,h.size,fun k hk=>h.low k hk (by omega)⟩
def writes:List TypeId:=[81,103,136,48,35,38,49]
def IsT (w:World) (k:Nat) (t:TypeId):Prop:=∃c fz,w.heap[k]?=some (.cells c t fz)
theorem FrT.of_fr {S:List Nat} {Ts:List TypeId} {K:Nat} {w w':World} (h:Fr S w w') (hS:∀k∈S,K≤k∧∃t,t∈Ts∧IsT w k t):FrT Ts K w w':=by
 refine⟨h.os,h.tape,h.output,h.size,fun k h1 h2=>h.block k h2 (fun hm=>by have:=(hS k hm).1;omega),fun k c t fz h1 h2=>h.at h1 (fun hm=>?_)⟩
 obtain⟨_,t',ht',c',fz',h3⟩:=hS k hm
 rw[h1] at h3
 simp at h3
 exact h2 (h3.2.1 ▸ ht')
theorem IsT.ne {w:World} {k j:Nat} {t u:TypeId} {c:Array Value} {fz:Nat × Nat} (h:IsT w k t) (hj:w.heap[j]?=some (.cells c u fz)) (hne:u≠t):j≠k:=by
 obtain⟨c',fz',h'⟩:=h
 exact ty_ne hj h' hne
theorem owns_type {w:World} {base e size n m cap:Nat} {ao:Option Addr} {xs:List Value} (h:w.ownsRow base e size (.slice ao m cap) n xs):∀k∈bls ao,base≤k∧IsT w k e:=by
 rcases h.2 with ⟨ev,_⟩ | ⟨g,cp,cur,ev,hbg,hh,_⟩
 ·cases ev
  intro k hk
  simp[bls] at hk
 ·cases ev
  intro k hk
  simp[bls] at hk
  subst hk
  exact⟨hbg,cur,_,hh⟩
structure PlD where
 pb:Nat
 b:FB
 rb:Nat
 S:St
def PlD.ptr (p:PlD):Value:=.pointer (some ⟨p.pb,0,none⟩)
def PlD.cells (p:PlD):Array Value:=#[.pointer (some ⟨p.b.fb,0,none⟩),.pointer (some ⟨p.rb,0,none⟩),.int .i64 (St.new p.S.A.size).A.free]
structure PlAt (K:Nat) (w:World) (p:PlD):Prop where
 blk:w.heap[p.pb]?=some (.cells p.cells 44 (0,0))
 fib:p.b.lies w p.S.A
 ok:p.S.ok
 ref:RefAt w p.rb (refOf p.S)
 n1:2048≤p.S.A.size
 n2:p.S.A.size≤65536
 ge:p.b.ge K
 rge:K≤p.rb
def PlApart (p q:PlD):Prop:=p.b.apart q.b∧p.rb≠q.rb
theorem PlAt.ext {K:Nat} {w w':World} {p:PlD} (h:PlAt K w p) (hb:Below w.heap.size w w'):PlAt K w' p :=
 ⟨block_ext h.blk hb,h.fib.ext hb,h.ok,h.ref.ext hb,h.n1,h.n2,h.ge,h.rge⟩
theorem RefAt.fr {w w':World} {rb:Nat} {d:RefD} {S:List Nat} (h:RefAt w rb d) (hf:Fr S w w') (h1:rb ∉ S) (h2:∀k∈S,¬IsT w k 66):RefAt w' rb d:=by
 obtain⟨a4,a6,c4,c6,hr,h4,h6⟩:=h
 exact⟨a4,a6,c4,c6,hf.at hr h1,owns_frh h4 hf (fun g c hg hm=>h2 g hm ⟨c,_,hg⟩),owns_frh h6 hf (fun g c hg hm=>h2 g hm ⟨c,_,hg⟩)⟩
theorem PlAt.core {K:Nat} {w w':World} {q:PlD} {S:List Nat} (hq:PlAt K w q) (hf:Fr S w w') (n1:q.pb ∉ S) (n2:q.b.fb ∉ S) (n3:q.b.tb ∉ S) (n4:q.b.ab ∉ S) (n5:q.b.wb ∉ S) (n6:q.rb ∉ S) (n7:∀k∈S,¬IsT w k 66):PlAt K w' q :=
 ⟨hf.at hq.blk n1,⟨hf.at hq.fib.fib n2,⟨hf.at hq.fib.tab.tab n3,hq.fib.tab.ar.fr hf n4 n5⟩⟩,hq.ok,hq.ref.fr hf n6 n7,hq.n1,hq.n2,hq.ge,hq.rge⟩
theorem PlAt.frW {K:Nat} {w w':World} {q:PlD} {S:List Nat} (hq:PlAt K w q) (hf:Fr S w w') (hS:∀k∈S,IsT w k 35∨IsT w k 38∨IsT w k 49):PlAt K w' q:=by
 have key:∀ {j:Nat} {c:Array Value} {u:TypeId} {fz:Nat × Nat},w.heap[j]?=some (.cells c u fz)→u≠35→u≠38→u≠49→j ∉ S:=by
  intro j c u fz hj u1 u2 u3 hm
  rcases hS j hm with e | e | e
  ·exact e.ne hj u1 rfl
  ·exact e.ne hj u2 rfl
  ·exact e.ne hj u3 rfl
 refine hq.core hf (key hq.blk (by decide) (by decide) (by decide)) (key hq.fib.fib (by decide) (by decide) (by decide)) (key hq.fib.tab.tab (by decide) (by decide) (by decide)) (key hq.fib.tab.ar.arena (by decide) (by decide) (by decide)) (key hq.fib.tab.ar.words (by decide) (by decide) (by decide)) ?_ ?_
 ·obtain⟨a4,a6,c4,c6,hrb,_⟩:=hq.ref
  exact key hrb (by decide) (by decide) (by decide)
 ·intro k hk ⟨c,fz,hc⟩
  exact key hc (by decide) (by decide) (by decide) hk
theorem PlAt.fr {K:Nat} {w w':World} {p q:PlD} {S:List Nat} (hp:PlAt K w p) (hq:PlAt K w q) (ha:PlApart p q) (hf:Fr S w w') (hS:∀k∈S,k=p.b.tb∨k=p.b.ab∨k=p.b.wb∨k=p.rb∨IsT w k 35∨IsT w k 38∨IsT w k 49):PlAt K w' q:=by
 have t1:IsT w p.b.tb 81:=⟨_,_,hp.fib.tab.tab⟩
 have t2:IsT w p.b.ab 103:=⟨_,_,hp.fib.tab.ar.arena⟩
 have t3:IsT w p.b.wb 136:=⟨_,_,hp.fib.tab.ar.words⟩
 have t4:IsT w p.rb 48:=by obtain⟨a4,a6,c4,c6,hr,_⟩:=hp.ref;exact⟨_,_,hr⟩
 have key:∀ {j:Nat} {c:Array Value} {u:TypeId} {fz:Nat × Nat},w.heap[j]?=some (.cells c u fz)→(j≠p.b.tb)→(j≠p.b.ab)→(j≠p.b.wb)→(j≠p.rb)→u≠35→u≠38→u≠49→j ∉ S:=by
  intro j c u fz hj n1 n2 n3 n4 u1 u2 u3 hm
  rcases hS j hm with e | e | e | e | e | e | e
  ·exact n1 e
  ·exact n2 e
  ·exact n3 e
  ·exact n4 e
  ·exact e.ne hj u1 rfl
  ·exact e.ne hj u2 rfl
  ·exact e.ne hj u3 rfl
 have o1:=ha.1.1 p.b.tb (by simp)
 have o2:=ha.1.1 p.b.ab (by simp)
 have o3:=ha.1.1 p.b.wb (by simp)
 refine hq.core hf (key hq.blk (t1.ne hq.blk (by decide)) (t2.ne hq.blk (by decide)) (t3.ne hq.blk (by decide)) (t4.ne hq.blk (by decide)) (by decide) (by decide) (by decide))
  (key hq.fib.fib (Ne.symm o1.1) (Ne.symm o2.1) (Ne.symm o3.1) (t4.ne hq.fib.fib (by decide)) (by decide) (by decide) (by decide))
  (key hq.fib.tab.tab (Ne.symm o1.2.1) (Ne.symm o2.2.1) (Ne.symm o3.2.1) (t4.ne hq.fib.tab.tab (by decide)) (by decide) (by decide) (by decide))
  (key hq.fib.tab.ar.arena (Ne.symm o1.2.2.1) (Ne.symm o2.2.2.1) (Ne.symm o3.2.2.1) (t4.ne hq.fib.tab.ar.arena (by decide)) (by decide) (by decide) (by decide))
  (key hq.fib.tab.ar.words (Ne.symm o1.2.2.2) (Ne.symm o2.2.2.2) (Ne.symm o3.2.2.2) (t4.ne hq.fib.tab.ar.words (by decide)) (by decide) (by decide) (by decide)) ?_ ?_
 ·obtain⟨a4,a6,c4,c6,hrb,_⟩:=hq.ref
  exact key hrb (t1.ne hrb (by decide)) (t2.ne hrb (by decide)) (t3.ne hrb (by decide)) (Ne.symm ha.2) (by decide) (by decide) (by decide)
 ·intro k hk ⟨c,fz,hc⟩
  exact key hc (t1.ne hc (by decide)) (t2.ne hc (by decide)) (t3.ne hc (by decide)) (t4.ne hc (by decide)) (by decide) (by decide) (by decide) hk
theorem HoldOk.frT {w w':World} {x:HoldD} {S:List Nat} (h:HoldOk w x) (hf:Fr S w w') (hS:∀k∈S,∃t,IsT w k t∧t≠63∧t≠59∧t≠66∧t≠27):HoldOk w' x:=by
 refine h.fr hf ?_ ?_
 ·intro hk
  obtain⟨t,⟨c,fz,hc⟩,n1,_⟩:=hS _ hk
  exact ty_ne hc h.2.1 n1 rfl
 ·intro k hk hs
  obtain⟨t,⟨c,fz,hc⟩,_,n2,n3,n4⟩:=hS _ hs
  exact not_rows h hc n2 n3 n4 hk
theorem HoldsAt.move {w w':World} {b:Nat} {psv psv':Value} {ao:Option Addr} {cap:Nat} {hs:List HoldD} {S:List Nat} (h:HoldsAt w b psv ao cap hs) (hf:Fr S w w') (hS:∀k∈S,∃t,IsT w k t∧t≠63∧t≠59∧t≠66∧t≠27∧t≠49)
  (hb:w'.heap[b]?=some (.cells #[psv',.slice ao hs.length cap] 35 (0,0))):HoldsAt w' b psv' ao cap hs:=by
 refine⟨hb,owns_frh h.row hf (fun g c hg hk=>?_),fun x hx=>(h.ok x hx).frT hf (fun k hk=>?_)⟩
 ·obtain⟨t,⟨c',fz,hc'⟩,_,_,_,_,n5⟩:=hS g hk
  exact ty_ne hc' hg n5 rfl
 ·obtain⟨t,h1,h2,h3,h4,h5,_⟩:=hS k hk
  exact⟨t,h1,h2,h3,h4,h5⟩
structure WAt (K:Nat) (w:World) (b:Nat) (ps:List PlD) (hs:List HoldD) (pa:Option Addr) (pc:Nat) (ha:Option Addr) (hc:Nat):Prop where
 holds:HoldsAt w b (.slice pa ps.length pc) ha hc hs
 row:w.ownsRow K 38 1 (.slice pa ps.length pc) ps.length (ps.map PlD.ptr)
 hge:∀k∈bls ha,K≤k
 bge:K≤b
 pl:∀p∈ps,PlAt K w p
 apart:ps.Pairwise PlApart
 np:ps.length≤4
theorem HoldsAt.ext {w w':World} {b:Nat} {psv:Value} {ao:Option Addr} {cap:Nat} {hs:List HoldD} (h:HoldsAt w b psv ao cap hs) (hb:Below w.heap.size w w'):HoldsAt w' b psv ao cap hs :=
 ⟨block_ext h.blk hb,owns_ext h.row hb,fun x hx=>(h.ok x hx).ext hb⟩
theorem WAt.ext {K:Nat} {w w':World} {b:Nat} {ps:List PlD} {hs:List HoldD} {pa ha:Option Addr} {pc hc:Nat} (h:WAt K w b ps hs pa pc ha hc) (hb:Below w.heap.size w w'):WAt K w' b ps hs pa pc ha hc :=
 ⟨h.holds.ext hb,owns_ext h.row hb,h.hge,h.bge,fun p hp=>(h.pl p hp).ext hb,h.apart,h.np⟩
theorem WAt.lt {K:Nat} {w:World} {b:Nat} {ps:List PlD} {hs:List HoldD} {pa ha:Option Addr} {pc hc:Nat} (h:WAt K w b ps hs pa pc ha hc):b<w.heap.size:=lt_of_block h.holds.blk
theorem FB.apart_mem {ps:List PlD} (h:ps.Pairwise PlApart) {i j:Nat} {p q:PlD} (hi:ps[i]?=some p) (hj:ps[j]?=some q) (hne:i≠j):PlApart p q:=by
 obtain⟨l1,e1⟩:=List.getElem?_eq_some_iff.1 hi
 obtain⟨l2,e2⟩:=List.getElem?_eq_some_iff.1 hj
 rw[List.pairwise_iff_getElem] at h
 rcases Nat.lt_or_gt_of_ne hne with hlt | hlt
 ·have:=h i j l1 l2 hlt
  rw[e1,e2] at this
  exact this
 ·have:=h j i l2 l1 hlt
  rw[e1,e2] at this
  exact⟨this.1.symm,Ne.symm this.2⟩
theorem world_step {K:Nat} {w w':World} {b:Nat} {ps:List PlD} {hs:List HoldD} {pa ha:Option Addr} {pc hc:Nat} {i:Nat} {p:PlD} (h:WAt K w b ps hs pa pc ha hc) (hi:ps[i]?=some p) {S:List Nat} (hf:Fr S w w')
  (hS:∀k∈S,k=b∨k=p.b.tb∨k=p.b.ab∨k=p.b.wb∨k=p.rb∨k∈bls ha) {p':PlD} (e1:p'.pb=p.pb) (e2:p'.rb=p.rb) (e3:p'.b.fb=p.b.fb) (e4:p'.S.A.size=p.S.A.size)
  (hm:∀c A,FB.lies c w A→p.b.apart c→p'.b.apart c) (hge:p'.b.ge K) (hl:p'.b.lies w' p'.S.A) (hok:p'.S.ok) (hr:RefAt w' p'.rb (refOf p'.S)) {hs':List HoldD} {ha':Option Addr} {hc':Nat} (hh:HoldsAt w' b (.slice pa ps.length pc) ha' hc' hs') (hge':∀k∈bls ha',K≤k) :
  WAt K w' b (ps.set i p') hs' pa pc ha' hc'∧FrT writes K w w':=by
 have hlt:=(List.getElem?_eq_some_iff.1 hi).1
 have hp:=h.pl p (List.mem_of_getElem? hi)
 have tb:IsT w b 35:=⟨_,_,h.holds.blk⟩
 have th:=fun k hk=>(owns_type h.holds.row k hk).2
 have hS':∀k∈S,k=p.b.tb∨k=p.b.ab∨k=p.b.wb∨k=p.rb∨IsT w k 35∨IsT w k 38∨IsT w k 49:=by
  intro k hk
  rcases hS k hk with e | e | e | e | e | e
  ·right;right;right;right;left;rw[e];exact tb
  ·exact .inl e
  ·exact .inr (.inl e)
  ·exact .inr (.inr (.inl e))
  ·exact .inr (.inr (.inr (.inl e)))
  ·right;right;right;right;right;right;exact th k e
 have t1:IsT w p.b.tb 81:=⟨_,_,hp.fib.tab.tab⟩
 have t2:IsT w p.b.ab 103:=⟨_,_,hp.fib.tab.ar.arena⟩
 have t3:IsT w p.b.wb 136:=⟨_,_,hp.fib.tab.ar.words⟩
 have t4:IsT w p.rb 48:=by obtain⟨a4,a6,c4,c6,hr,_⟩:=hp.ref;exact⟨_,_,hr⟩
 have hpb:p.pb ∉ S:=by
  intro hk
  rcases hS p.pb hk with e | e | e | e | e | e
  ·exact tb.ne hp.blk (by decide) e
  ·exact t1.ne hp.blk (by decide) e
  ·exact t2.ne hp.blk (by decide) e
  ·exact t3.ne hp.blk (by decide) e
  ·exact t4.ne hp.blk (by decide) e
  ·exact(th _ e).ne hp.blk (by decide) rfl
 have hlen:(ps.set i p').length=ps.length:=List.length_set
 have hmap:(ps.set i p').map PlD.ptr=ps.map PlD.ptr:=by
  apply List.ext_getElem?
  intro j
  rw[List.getElem?_map,List.getElem?_map,List.getElem?_set]
  by_cases e:i=j
  ·subst e
   rw[if_pos rfl,if_pos hlt,hi]
   simp[PlD.ptr,e1]
  ·rw[if_neg e]
 have hblk:w'.heap[p'.pb]?=some (.cells p'.cells 44 (0,0)):=by
  have:=hf.at hp.blk hpb
  unfold PlD.cells at this ⊢
  rw[e1,e2,e3,e4]
  exact this
 refine⟨⟨by rw[hlen];exact hh,?_,hge',h.bge,?_,?_,by rw[hlen];exact h.np⟩,?_⟩
 ·rw[hlen,hmap]
  refine owns_frh h.row hf (fun g c hg hk=>?_)
  rcases hS g hk with e | e | e | e | e | e
  ·exact tb.ne hg (by decide) e
  ·exact t1.ne hg (by decide) e
  ·exact t2.ne hg (by decide) e
  ·exact t3.ne hg (by decide) e
  ·exact t4.ne hg (by decide) e
  ·exact(th _ e).ne hg (by decide) rfl
 ·intro q hq
  obtain⟨j,hj⟩:=List.getElem?_of_mem hq
  rw[List.getElem?_set] at hj
  by_cases e:i=j
  ·rw[if_pos e,if_pos hlt] at hj
   cases hj
   exact⟨hblk,hl,hok,hr,by rw[e4];exact hp.n1,by rw[e4];exact hp.n2,hge,by rw[e2];exact hp.rge⟩
  ·rw[if_neg e] at hj
   exact hp.fr (h.pl q (List.mem_of_getElem? hj)) (FB.apart_mem h.apart hi hj e) hf hS'
 ·rw[List.pairwise_iff_getElem]
  intro j k hj hk hjk
  rw[hlen] at hj hk
  have old:∀ {m:Nat} (hm:m<ps.length),i≠m→PlApart p' ps[m]:=by
   intro m hm' hne
   have ha:=FB.apart_mem h.apart hi (List.getElem?_eq_getElem hm') hne
   exact⟨hm _ _ (h.pl _ (List.getElem_mem hm')).fib ha.1,by rw[e2];exact ha.2⟩
  rw[List.getElem_set,List.getElem_set]
  by_cases e:i=j
  ·rw[if_pos e,if_neg (by omega)]
   exact old hk (by omega)
  ·rw[if_neg e]
   by_cases e':i=k
   ·rw[if_pos e']
    have:=old hj e
    exact⟨this.1.symm,Ne.symm this.2⟩
   ·rw[if_neg e']
    have:=h.apart
    rw[List.pairwise_iff_getElem] at this
    exact this j k hj hk hjk
 ·refine FrT.of_fr hf (fun k hk=>?_)
  obtain⟨g0,g1,g2,g3⟩:=hp.ge
  rcases hS k hk with e | e | e | e | e | e
  ·exact⟨by rw[e];exact h.bge,_,by decide,e ▸ tb⟩
  ·exact⟨by rw[e];exact g1,_,by decide,e ▸ t1⟩
  ·exact⟨by rw[e];exact g2,_,by decide,e ▸ t2⟩
  ·exact⟨by rw[e];exact g3,_,by decide,e ▸ t3⟩
  ·exact⟨by rw[e];exact hp.rge,_,by decide,e ▸ t4⟩
  ·exact⟨h.hge k e,_,by decide,th k e⟩
end Go.Proofs.YtnapboelfimaaaaGreatDoor
