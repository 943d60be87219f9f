/- ArC, ArD, ArE, ArF: parts of the proof, one behind the other. -/
import Derived.Test.YtnapboelfimaaaaGreatDoorB06
import Derived.Laws.CopyOwn
import Derived.Deep.RegionLaw
namespace Go.Proofs.YtnapboelfimaaaaGreatDoor
open Go.RowKit Go.Deep
structure Sane (A:Ar):Prop where
 size:A.size≤65536
 top:A.top≤A.size
 given:∀s,1≤s→s≤32→A.given s=0∨A.given s+s≤A.size
 word:∀a,A.word a<4294967296
 free1:-50000≤A.free
 free2:A.free≤70000
set_option maxHeartbeats 400000 in
set_option maxRecDepth 10000 in
theorem take_any (A:Ar) (ab wb n:Nat) (w:World) (h:ArAt w ab wb A) (hs:Sane A) (h1:1≤n) (h2:n≤32) (Q:Ending→World→Prop)
  (q1:∀x B w',A.take n=(B,some x)→ArAt w' ab wb B→Fr [ab,wb] w w'→Q (.returned (.tuple #[.agg #[.int .i64 (x:Nat),.int .i64 n],.bool true])) w')
  (q0:∀w',A.take n=(A,none)→ArAt w' ab wb A→Fr [ab,wb] w w'→Q (.returned (.tuple #[.agg #[.int .i64 0,.int .i64 0],.bool false])) w') :
  Calls Tryz.prog 122 #[.pointer (some ⟨ab,0,none⟩),.int .i64 n] w Q:=by
 have Q1:=hide q1
 have Q0:=hide q0
 clear q0 q1
 have hA:=h
 have hsz:=hs.size
 have htp:=hs.top
 have hf1:=hs.free1
 have hf2:=hs.free2
 have c0:=h.slice
 have c1:=h.top
 have c2:=h.free
 have f1:=h.fa 1
 have f35:=h.fa 35
 have hne:=h.ne
 have hne2:=h.ne.symm
 have hla:=h.la
 have hlw:=h.lw
 have HA:=hide hA
 have HS:=hide hs
 clear h hA hs
 go_enter Tryz.func122,Tryz.ntmps122
 go_wp2
 go_loop [6] (fun i=>∃k:Nat,n≤k∧k≤33∧i=.int .i64 k∧A.fit n (33-n)=A.fit k (33-k)) (fun i=>33-(intOf i).toNat)
 case atStart=>exact⟨n,Nat.le_refl _,by omega,rfl,rfl⟩
 case round =>
  obtain⟨k,hk1,hk2,rfl,hfit⟩:=hrel
  have HF:=hide hfit
  clear hfit
  by_cases hk:k<33
  ·have g0:=HA.out.given (show k≤32 by omega)
   by_cases hg:A.given k=0
   ·have hst:A.fit k (33-k)=A.fit (k+1) (33-(k+1)):=by
     obtain⟨m,hm⟩:∃m,33-k=m+1:=⟨33-k-1,by omega⟩
     rw[hm,Ar.fit,if_neg (by simp[hg])]
     congr 1;omega
    have e0:(((A.given k:Nat):Int)==0)=true:=by simp[hg]
    have HG:=hide hg
    have HT:=hide hst
    clear hg hst
    go_wp2
    go_round
    case rel=>exact⟨k+1,by omega,by omega,by go_num,HF.out.trans HT.out⟩
    case measure=>simp[intOf];omega
   ·have e0:(((A.given k:Nat):Int)==0)=false:=by simp[hg]
    have hgs:A.given k+k≤A.size:=(HS.out.given k (by omega) (by omega)).resolve_left hg
    have g1:=HA.out.word (show A.given k<A.size by omega)
    have g2:=HA.out.fa (2+k)
    have g3:=HS.out.word (A.given k)
    have h35:35≠2+k:=by omega
    have h35':2+k≠35:=by omega
    have hres:A.take n=(({ A with given:=setW A.given k (A.word (A.given k)),free:=A.free-k }:Ar).give (A.given k+n) (k-n),some (A.given k)):=by
     unfold Ar.take
     rw[HF.out]
     obtain⟨m,hm⟩:∃m,33-k=m+1:=⟨33-k-1,by omega⟩
     rw[hm,Ar.fit,if_pos hg]
    have HR:=hide hres
    clear hres
    go_wp2
    go_region
    go_wp2_with fail
    refine(give_at ({ A with given:=setW A.given k (A.word (A.given k)),free:=A.free-k }:Ar) ab wb _ _ (A.given k+n) (k-n) _ ?_ ?_ ?_ ?_ ?_ ?_ ?_ ?_).mono ?_
    ·have t1:=((HA.out.setGiven (show k≤32 by omega) (A.word (A.given k))).setFree (A.free-k)).alloc (.cells #[.int .i64 0,.int .i64 0] 172)
     exact t1.drew
    ·omega
    ·omega
    ·omega
    ·intro hq;show A.given k+n<A.size;omega
    ·intro hq
     show setW A.given k (A.word (A.given k)) (k-n)<65536
     rw[setW_ne (by omega)]
     rcases HS.out.given (k-n) (by omega) (by omega) with q | q <;> omega
    ·show -100000≤A.free-k
     omega
    ·show A.free-k≤100000
     omega
    rintro e w' ⟨rfl,hA',hF'⟩
    have r0:w'.heap[w.heap.size]?=some (.cells #[.int .i64 0,.int .i64 0] 172 (0,0)):=by
     refine hF'.at ?_ (by simp;omega)
     have hz:((w.setCell ⟨ab,2+k,none⟩ (.int .i64 (A.word (A.given k):Int))).setCell ⟨ab,35,none⟩ (.int .i64 (A.free-k))).heap.size=w.heap.size:=by simp
     have:=heap_alloc_new ((w.setCell ⟨ab,2+k,none⟩ (.int .i64 (A.word (A.given k):Int))).setCell ⟨ab,35,none⟩ (.int .i64 (A.free-k))) (.cells #[.int .i64 0,.int .i64 0] 172)
     rw[hz] at this
     exact this
    have r1:=cell_two0 r0
    have r2:=cell_two1 r0
    have r3:=free_two 0 r0
    have r4:=free_two 1 r0
    have HF2:=hide hF'
    have HA2:=hide hA'
    clear hF' hA' r0
    go_wp2
    refine bodyPost_ret (v:=.tuple #[.agg #[.int .i64 (A.given k:Nat),.int .i64 n],.bool true]) (by simp[results,Tryz.results122,go_sem,r1,r2]) rfl (Q1.out (A.given k) _ _ HR.out ?_ ?_)
    ·exact(HA2.out.other (by omega) (by omega)).other (by omega) (by omega)
    ·refine(Fr.setCell (Fr.setCell (Fr.trans ?_ HF2.out) (Or.inr (Nat.le_refl _)) _) (Or.inr (Nat.le_refl _)) _)
     exact((((Fr.refl _ _).setCell (Or.inl (by simp)) _).setCell (Or.inl (by simp)) _).alloc _).drew
  ·have hk':k=33:=by omega
   subst hk'
   have hfit:A.fit n (33-n)=none:=HF.out
   have HT:=hide (show A.take n=if A.size-A.top<n then (A,none) else ({ A with top:=A.top+n,free:=A.free-n },some A.top) by
    unfold Ar.take;rw[hfit])
   clear hfit
   by_cases hr:A.size-A.top<n
   ·have hd:decide ((A.size:Int)-A.top<n)=true:=by simp;omega
    go_wp2
    go_quiet (fail)
    go_wp2
    refine bodyPost_ret (v:=.tuple #[.agg #[.int .i64 0,.int .i64 0],.bool false]) (by simp[results,Tryz.results122,go_sem]) rfl (Q0.out _ ?_ ?_ ?_)
    ·rw[HT.out,if_pos hr]
    ·exact(((HA.out.alloc _).drewN _).other (by omega) (by omega)).other (by omega) (by omega)
    ·exact((((Fr.refl _ _).alloc _).drewN _).setCell (Or.inr (Nat.le_refl _)) _).setCell (Or.inr (Nat.le_refl _)) _
   ·have hd:decide ((A.size:Int)-A.top<n)=false:=by simp;omega
    go_wp2
    go_quiet (fail)
    go_wp2
    refine bodyPost_ret (v:=.tuple #[.agg #[.int .i64 (A.top:Nat),.int .i64 n],.bool true]) (by simp[results,Tryz.results122,go_sem]) rfl (Q1.out A.top { A with top:=A.top+n,free:=A.free-n } _ ?_ ?_ ?_)
    ·rw[HT.out,if_neg hr]
    ·have t1:=((((HA.out.alloc (.cells #[.int .i64 0,.int .i64 0] 172)).drewN nq).setTop (A.top+n)).setFree (A.free-n))
     exact(((t1.other (by omega) (by omega)).other (by omega) (by omega)).alloc _)
    ·exact(((((((Fr.refl _ _).alloc _).drewN _).setCell (Or.inl (by simp)) _).setCell (Or.inl (by simp)) _).setCell (Or.inr (Nat.le_refl _)) _).setCell (Or.inr (Nat.le_refl _)) _).alloc _
end Go.Proofs.YtnapboelfimaaaaGreatDoor
namespace Go.Proofs.YtnapboelfimaaaaGreatDoor
open Go.RowKit Go.Deep
theorem sizeWord:(Tryz.prog.info? 136).map (·.size)=some 1:=by
 obtain⟨i0,hi,hz0,hz1,hz2⟩:=info_parts infoWord
 rw[hi];simp[hz1]
def layW (W:Nat→Nat) (off:Nat) (ns:List Nat):Nat→Nat:=fun a=>if off≤a∧a<off+ns.length then ns.getD (a-off) 0 else W a
def wordVals (ns:List Nat):List Value:=ns.map fun x:Nat=>Value.int .u32 (x:Int)
theorem lay_cells (A:Ar) (off:Nat) (ns:List Nat) (h:off+ns.length≤A.size):(wordCells A).take off++(wordVals ns++(wordCells A).drop (off+(wordVals ns).length))=wordCells { A with word:=layW A.word off ns }:=by
 have hl:(wordVals ns).length=ns.length:=by simp[wordVals]
 apply List.ext_getElem?
 intro i
 by_cases h1:i<off
 ·rw[List.getElem?_append_left (by rw[List.length_take,word_len];omega),List.getElem?_take_of_lt h1,word_get A i (by omega),word_get _ i (by show i<A.size;omega)]
  simp only[layW]
  rw[if_neg (by omega)]
 ·rw[List.getElem?_append_right (by rw[List.length_take,word_len];omega),List.length_take,word_len,show min off A.size=off by omega]
  by_cases h2:i<off+ns.length
  ·rw[List.getElem?_append_left (by rw[hl];omega)]
   rw[word_get _ i (by show i<A.size;omega)]
   simp only[layW]
   rw[if_pos (by omega)]
   unfold wordVals
   rw[List.getElem?_map,List.getElem?_eq_getElem (by omega),List.getD_eq_getElem?_getD,List.getElem?_eq_getElem (by omega)]
   rfl
  ·rw[List.getElem?_append_right (by rw[hl];omega),List.getElem?_drop,hl,show off+ns.length+(i-off-ns.length)=i by omega]
   by_cases h3:i<A.size
   ·rw[word_get A i h3,word_get _ i (by show i<A.size;omega)]
    simp only[layW]
    rw[if_neg (by omega)]
   ·rw[List.getElem?_eq_none (by rw[word_len];omega),List.getElem?_eq_none (by rw[word_len];show A.size≤i;omega)]
theorem word_one (ns:List Nat):∀v∈wordVals ns,v.oneCell'=true:=by
 intro v hv
 obtain⟨x,_,rfl⟩:=List.mem_map.1 hv
 rfl
theorem copy_words (w:World) (A:Ar) (ab wb off dLen dCap sLen sCap:Nat) (dp sp:Option Addr) (hA:ArAt w ab wb A) (ns:List Nat) (hn:ns.length=Nat.min sLen dLen)
  (hpos:0<ns.length→dp=some ⟨wb,off,none⟩∧∃ad,sp=some ad∧∀j v,(wordVals ns)[j]?=some v→w.cell? (ad.add j)=some v) (hfit:off+ns.length≤A.size) :
  ∃w',(Builtin.copy_ #[100,100] 3 #[.slice dp dLen dCap,.slice sp sLen sCap]).run Tryz.prog w=.ok (goInt ns.length) w'∧ArAt w' ab wb { A with word:=layW A.word off ns }∧Fr [wb] w w'∧w'.heap.size=w.heap.size:=by
 by_cases h0:ns.length=0
 ·obtain rfl:ns=[]:=List.eq_nil_of_length_eq_zero h0
  refine⟨w,run_copy_none w _ _ _ 136 _ _ _ _ _ _ Tryz.underlying100 sizeWord (by simpa using hn.symm),?_,Fr.refl _ _,rfl⟩
  have e:layW A.word off []=A.word:=by
   funext x
   unfold layW
   rw[if_neg]
   simp
  rw[e];exact hA
 ·obtain⟨rfl,ad,rfl,hsrc⟩:=hpos (by omega)
  have hl:(wordVals ns).length=ns.length:=by simp[wordVals]
  have hrun:=run_copy_row (P:=Tryz.prog) w 100 100 3 136 wb off dLen dCap ad sLen sCap (wordCells A).toArray 136 (wordVals ns) Tryz.underlying100 sizeWord hA.words (by rw[hl];exact hn) hsrc (by rw[hl];simp[word_len];omega) (word_one ns)
  rw[hl] at hrun
  refine⟨_,hrun,⟨?_,?_⟩,?_,?_⟩
  ·rw[setRow_other _ _ _ _ hA.ne];exact hA.arena
  ·rw[setRow_heap _ _ _ _ _ _ hA.words]
   have:=lay_cells A off ns hfit
   rw[hl] at this
   show some (Obj.cells (List.take off (wordCells A)++wordVals ns++List.drop (off+ns.length) (wordCells A)).toArray _ _)=_
   rw[List.append_assoc,this]
  ·exact⟨rfl,rfl,rfl,by simp[World.setRow],fun k _ hk=>setRow_other _ _ _ _ (by simpa using hk)⟩
  ·simp[World.setRow]
theorem step_copy_words {ops:Array Oper} {o:Oper} {a:Act} {w:World} {K:Act→World→Prop} {Q:Exit→Act→World→Prop} {E:Prop} (hgd:o.guard=none) (d s:Operand)
  (ho:o.op=.call { callee:=.builtin .copy,args:=#[d,s],argTypes:=#[100,100] }) (hty:o.type=3)
  (dp sp:Option Addr) (dLen dCap sLen sCap:Nat) (hd:a.eval d=.slice dp dLen dCap) (hs:a.eval s=.slice sp sLen sCap)
  (A:Ar) (ab wb off:Nat) (hA:ArAt w ab wb A) (ns:List Nat) (hn:ns.length=Nat.min sLen dLen)
  (hpos:0<ns.length→dp=some ⟨wb,off,none⟩∧∃ad,sp=some ad∧∀j v,(wordVals ns)[j]?=some v→w.cell? (ad.add j)=some v) (hfit:off+ns.length≤A.size)
  (h:∀w',ArAt w' ab wb { A with word:=layW A.word off ns }→Fr [wb] w w'→K (a.put o.dst (goInt ns.length)) w') :
  if Region.wanted o (yielded ops a.tmps)=true then Oper.wp Tryz.prog o a w K Q else E:=by
 have hw:Region.wanted o (yielded ops a.tmps)=true:=by simp[Region.wanted,hgd]
 rw[if_pos hw]
 obtain⟨w',hrun,h2,h3,_⟩:=copy_words w A ab wb off dLen dCap sLen sCap dp sp hA ns hn hpos hfit
 unfold Oper.wp
 simp[execOp,ho,hty,resolve,invoke,builtin,hd,hs,hrun,Result.andThen]
 exact h w' h2 h3
theorem addr_add (b off k:Nat):(⟨b,off,none⟩:Addr).add k=⟨b,off+k,none⟩:=by unfold Addr.add;split <;> simp_all
theorem src_words {w:World} {ab wb:Nat} {A:Ar} (h:ArAt w ab wb A) (s m:Nat) (hm:s+m≤A.size):∀j v,(wordVals ((List.range m).map fun i=>A.word (s+i)))[j]?=some v→w.cell? ((⟨wb,s,none⟩:Addr).add j)=some v:=by
 intro j v hj
 have hlt:j<m:=by
  have:=(List.getElem?_eq_some_iff.1 hj).1
  simpa [wordVals] using this
 have e:(wordVals ((List.range m).map fun i=>A.word (s+i)))[j]?=some (.int .u32 (A.word (s+j):Int)):=by
  unfold wordVals
  rw[List.getElem?_map,List.getElem?_map,List.getElem?_range hlt]
  rfl
 rw[e] at hj
 have:=h.word (show s+j<A.size by omega)
 rw[←hj,addr_add]
 exact this
theorem lay_copy (W U:Nat→Nat) (dst src m:Nat):layW W dst ((List.range m).map fun i=>U (src+i))=fun a=>if dst≤a∧a<dst+m then U (src+(a-dst)) else W a:=by
 funext a
 unfold layW
 simp only[List.length_map,List.length_range]
 by_cases h:dst≤a∧a<dst+m
 ·rw[if_pos h,if_pos h,List.getD_eq_getElem?_getD,List.getElem?_map,List.getElem?_range (by omega)]
  rfl
 ·rw[if_neg h,if_neg h]
set_option maxHeartbeats 400000 in
set_option maxRecDepth 10000 in
theorem write_any (A:Ar) (ab wb:Nat) (x:Int) (off len cap:Nat) (ns:List Nat) (ad:Addr) (w:World) (h:ArAt w ab wb A) (hx:x=off) (hn:0<ns.length) (hlen:ns.length=len) (hfit:off+ns.length≤A.size) (hsrc:∀j v,(wordVals ns)[j]?=some v→w.cell? (ad.add j)=some v) :
  Calls Tryz.prog 104 #[.pointer (some ⟨ab,0,none⟩),.int .i64 x,.slice (some ad) len cap] w fun e w'=>e=.returned (.tuple #[])∧ArAt w' ab wb { A with word:=layW A.word off ns }∧Fr [wb] w w':=by
 subst hx
 have c0:=h.slice
 have hlt:(off:Int)<A.size:=by omega
 obtain⟨w2,hrun,h2,hf,_⟩:=copy_words w A ab wb off (A.size-off) (A.size-off) len cap (some ⟨wb,off,none⟩) (some ad) h ns (by rw[←hlen];exact(Nat.min_eq_left (by omega)).symm) (fun _=>⟨rfl,ad,rfl,hsrc⟩) hfit
 have H2:=hide h2
 have HF:=hide hf
 clear h2 hf hsrc hn h
 go_enter Tryz.func104,Tryz.ntmps104
 go_wp2
 go_end0
 exact⟨rfl,H2.out,HF.out⟩
set_option maxHeartbeats 400000 in
set_option maxRecDepth 10000 in
theorem read1_any (A:Ar) (ab wb rb:Nat) (x:Int) (p c sb cap:Nat) (k:Int) (w:World) (h:ArAt w ab wb A) (hsz:A.size≤65536) (hx:x=p) (hp:p<A.size) (hr:w.heap[rb]?=some (.cells #[.pointer (some ⟨ab,0,none⟩),.int .i64 k] 93 (0,0))) (hk1:0≤k) (hk2:k≤1000000000000) (y:Value) (hc:w.heap[c]?=some (.cells #[y] 136 (0,0))) (hs:w.cell? ⟨sb,0,none⟩=some (.pointer (some ⟨c,0,none⟩))) (hcw:c≠wb) :
  Calls Tryz.prog 65 #[.pointer (some ⟨rb,0,none⟩),.int .i64 x,.slice (some ⟨sb,0,none⟩) 1 cap] w fun e w'=>e=.returned (.tuple #[])∧ArAt w' ab wb A∧w'.heap[rb]?=some (.cells #[.pointer (some ⟨ab,0,none⟩),.int .i64 (k+1)] 93 (0,0))∧w'.heap[c]?=some (.cells #[.int .u32 (A.word p:Int)] 136 (0,0))∧Fr [rb,c] w w':=by
 subst hx
 have c0:=h.slice
 have c1:=h.word hp
 have r0:=cell_two0 hr
 have r1:=cell_two1 hr
 have r2:=free_two 1 hr
 have k0:w.cell? ⟨c,0,none⟩=some y:=by simp[World.cell?,hc]
 have k1:w.frozen? ⟨c,0,none⟩=false:=by simp[World.frozen?,hc]
 have hlt:(p:Int)<A.size:=by omega
 have hlt2:(p:Int)<65536:=by omega
 have hrc:rb≠c:=by
  rintro rfl
  rw[hc] at hr
  simp at hr
 have hrc':=hrc.symm
 have hca:c≠ab:=by
  rintro rfl
  have:=h.arena
  rw[hc] at this
  simp at this
 have hra:rb≠ab:=by
  rintro rfl
  have:=h.arena
  rw[hr] at this
  simp at this
 have hrw:rb≠wb:=by
  rintro rfl
  have:=h.words
  rw[hr] at this
  simp at this
 have HA:=hide h
 have HR:=hide hr
 have HC:=hide hc
 clear h hr hc
 go_enter Tryz.func65,Tryz.ntmps65
 go_wp2
 refine wp_loop_rounds 2 ?_
 rw[rounds_succ]
 go_wp2
 rw[rounds_succ]
 go_wp2
 go_end0
 refine⟨rfl,(HA.out.other hca.symm hcw.symm).other hra.symm hrw.symm,?_,?_,?_⟩
 ·exact heap_setCell_at _ ((Below.heap_setCell _ _ _ _ hrc).trans HR.out)
 ·rw[Below.heap_setCell _ _ _ _ hrc']
  exact heap_setCell_at _ HC.out
 ·exact((Fr.refl _ _).setCell (Or.inl (by simp)) _).setCell (Or.inl (by simp)) _
set_option maxHeartbeats 400000 in
set_option maxRecDepth 10000 in
theorem read2_any (A:Ar) (ab wb rb:Nat) (x:Int) (p c d sb cap:Nat) (k:Int) (w:World) (h:ArAt w ab wb A) (hsz:A.size≤65536) (hx:x=p) (hp:p+1<A.size) (hr:w.heap[rb]?=some (.cells #[.pointer (some ⟨ab,0,none⟩),.int .i64 k] 93 (0,0))) (hk1:0≤k) (hk2:k≤1000000000000) (y z:Value) (hc:w.heap[c]?=some (.cells #[y] 136 (0,0))) (hd:w.heap[d]?=some (.cells #[z] 136 (0,0)))
  (hs:w.cell? ⟨sb,0,none⟩=some (.pointer (some ⟨c,0,none⟩))) (hs2:w.cell? ⟨sb,1,none⟩=some (.pointer (some ⟨d,0,none⟩))) (hcw:c≠wb) (hdw:d≠wb) (hcd:c≠d) (hsc:sb≠c) (hsd:sb≠d) :
  Calls Tryz.prog 65 #[.pointer (some ⟨rb,0,none⟩),.int .i64 x,.slice (some ⟨sb,0,none⟩) 2 cap] w fun e w'=>e=.returned (.tuple #[])∧ArAt w' ab wb A∧w'.heap[rb]?=some (.cells #[.pointer (some ⟨ab,0,none⟩),.int .i64 (k+1)] 93 (0,0))∧w'.heap[c]?=some (.cells #[.int .u32 (A.word p:Int)] 136 (0,0))∧w'.heap[d]?=some (.cells #[.int .u32 (A.word (p+1):Int)] 136 (0,0))∧Fr [rb,c,d] w w':=by
 subst hx
 have c0:=h.slice
 have c1:=h.word (show p<A.size by omega)
 have c2:=h.word hp
 have r0:=cell_two0 hr
 have r1:=cell_two1 hr
 have r2:=free_two 1 hr
 have k0:w.cell? ⟨c,0,none⟩=some y:=by simp[World.cell?,hc]
 have k1:w.frozen? ⟨c,0,none⟩=false:=by simp[World.frozen?,hc]
 have k2:w.cell? ⟨d,0,none⟩=some z:=by simp[World.cell?,hd]
 have k3:w.frozen? ⟨d,0,none⟩=false:=by simp[World.frozen?,hd]
 have hlt:(p:Int)+1<A.size:=by omega
 have hlt2:(p:Int)<65536:=by omega
 have hrc:rb≠c:=by
  rintro rfl
  rw[hc] at hr
  simp at hr
 have hrd:rb≠d:=by
  rintro rfl
  rw[hd] at hr
  simp at hr
 have hrc':=hrc.symm
 have hrd':=hrd.symm
 have hcd':=hcd.symm
 have hca:c≠ab:=by
  rintro rfl
  have:=h.arena
  rw[hc] at this
  simp at this
 have hda:d≠ab:=by
  rintro rfl
  have:=h.arena
  rw[hd] at this
  simp at this
 have hra:rb≠ab:=by
  rintro rfl
  have:=h.arena
  rw[hr] at this
  simp at this
 have hrw:rb≠wb:=by
  rintro rfl
  have:=h.words
  rw[hr] at this
  simp at this
 have HA:=hide h
 have HR:=hide hr
 have HC:=hide hc
 have HD:=hide hd
 clear h hr hc hd
 go_enter Tryz.func65,Tryz.ntmps65
 go_wp2
 refine wp_loop_rounds 3 ?_
 rw[rounds_succ]
 go_wp2
 rw[rounds_succ]
 go_wp2
 rw[rounds_succ]
 go_wp2
 go_end0
 refine⟨rfl,((HA.out.other hca.symm hcw.symm).other hda.symm hdw.symm).other hra.symm hrw.symm,?_,?_,?_,?_⟩
 ·exact heap_setCell_at _ ((Below.heap_setCell _ _ _ _ hrd).trans ((Below.heap_setCell _ _ _ _ hrc).trans HR.out))
 ·rw[Below.heap_setCell _ _ _ _ hrc',Below.heap_setCell _ _ _ _ hcd]
  exact heap_setCell_at _ HC.out
 ·rw[Below.heap_setCell _ _ _ _ hrd']
  exact heap_setCell_at _ ((Below.heap_setCell _ _ _ _ hcd').trans HD.out)
 ·exact(((Fr.refl _ _).setCell (Or.inl (by simp)) _).setCell (Or.inl (by simp)) _).setCell (Or.inl (by simp)) _
end Go.Proofs.YtnapboelfimaaaaGreatDoor
namespace Go.Proofs.YtnapboelfimaaaaGreatDoor
open Go.RowKit Go.Deep
set_option maxHeartbeats 400000 in
set_option maxRecDepth 10000 in
theorem shrink_any (A:Ar) (ab wb b n:Nat) (gap less:Nat) (w:World) (h:ArAt w ab wb A) (hs:Sane A) (h1:1≤less) (h2:n≤32) (h3:gap+less≤n) (h4:b+n≤A.size) (p:Nat) (hp:p=if n=less then 0 else b) :
  Calls Tryz.prog 131 #[.pointer (some ⟨ab,0,none⟩),.agg #[.int .i64 b,.int .i64 n],.int .i64 gap,.int .i64 less] w fun e w'=>e=.returned (.agg #[.int .i64 p,.int .i64 ((n-less:Nat):Int)])∧ArAt w' ab wb (A.shrink b n gap less)∧Fr [ab,wb] w w':=by
 have c0:=h.slice
 have hsz:=hs.size
 have hla:=h.la
 have hlw:=h.lw
 have i1:(b:Int)+n≤A.size:=by omega
 have i2:(b:Int)+n≤65536:=by omega
 have i3:(gap:Int)+less≤n:=by omega
 have i4:(n:Int)≤32:=by omega
 have HA:=hide h
 have HS:=hide hs
 obtain⟨ns,hns⟩:∃ns,ns=(List.range (n-gap-less)).map fun i=>A.word (b+gap+less+i):=⟨_,rfl⟩
 have HN:=hide hns
 have hnl:ns.length=n-gap-less:=by rw[hns];simp
 have HL:=hide hnl
 clear h hs hns hnl
 go_enter Tryz.func131,Tryz.ntmps131
 go_wp2
 go_quiet (fail)
 obtain⟨gl,hgl⟩:∃gl,gl=gap+less:=⟨_,rfl⟩
 have hwr:IntKind.i64.wrap ((gap:Int)+less)=(gl:Int):=by rw[IntKind.wrap_i64];omega
 have g1:gap≤n:=by omega
 have g2:A.size-b≠gap:=by omega
 have g3:gl≤n:=by omega
 have g4:(gl:Int)≤n:=by omega
 have HG:=hide hgl
 have C1:=hide (show ns.length=Nat.min (n-gl) (n-gap) by rw[HL.out];exact(by omega:n-gap-less=min (n-gl) (n-gap)))
 have C3:=hide (show b+gap+ns.length≤A.size by rw[HL.out];omega)
 obtain⟨sp,hsp⟩:∃sp:Option Addr,(if A.size-b=gl then some ⟨wb,b,none⟩ else some ⟨wb,b+gl,none⟩)=sp:=⟨_,rfl⟩
 have C2:=hide (show ∀w',ArAt w' ab wb A→0<ns.length→∃ad,sp=some ad∧∀j v,(wordVals ns)[j]?=some v→w'.cell? (ad.add j)=some v from by
  intro w' hw' hpos
  rw[HL.out] at hpos
  refine⟨⟨wb,b+gl,none⟩,?_,?_⟩
  ·rw[←hsp,if_neg (by omega)]
  ·rw[HN.out,hgl,←Nat.add_assoc]
   exact src_words hw' _ _ (by omega))
 clear hgl
 go_wp2
 go_region_law (refine step_copy_words rfl (.tmp 24) (.tmp 29) rfl rfl (some ⟨wb,b+gap,none⟩) sp (n-gap) (A.size-b-gap) (n-gl) (A.size-b-gl) (by simp[Act.eval,Act.put]) (by simp[Act.eval,Act.put]) A ab wb (b+gap) (((HA.out.alloc _).alloc _).drewN _).drew ns C1.out (fun hp=>⟨rfl,C2.out _ (((HA.out.alloc _).alloc _).drewN _).drew hp⟩) C3.out ?_;intro w4 hA4 hF4)
 have b4:w4.heap[w.heap.size]?=some (.cells #[.int .i64 b,.int .i64 n] 172 (0,0)):=by
  refine hF4.at ?_ (by simp;omega)
  show ((w.alloc _).alloc _).heap[w.heap.size]?=_
  rw[Below.heap_alloc _ _ _ (by simp)]
  exact heap_alloc_new _ _
 have b5:w4.heap[w.heap.size+1]?=some (.cells #[.int .i64 0,.int .i64 0] 172 (0,0)):=by
  refine hF4.at ?_ (by simp;omega)
  show ((w.alloc _).alloc _).heap[w.heap.size+1]?=_
  have:=heap_alloc_new (w.alloc (.cells #[.int .i64 b,.int .i64 n] 172)) (.cells #[.int .i64 0,.int .i64 0] 172)
  simpa using this
 have k0:=cell_two0 b4
 have k1:=cell_two1 b4
 have k2:=cell_two0 b5
 have k3:=cell_two1 b5
 have k4:=free_two 0 b5
 have k5:=free_two 1 b5
 have HA4:=hide hA4
 have HF4:=hide hF4
 have B4:=hide b4
 have B5:=hide b5
 clear hA4 hF4 b4 b5
 have i6:(less:Int)≤n:=by omega
 go_wp2_with fail
 refine(give_at _ ab wb _ _ (b+n-less) less _ HA4.out ?_ rfl (by omega) ?_ ?_ ?_ ?_).mono ?_
 ·omega
 ·intro _;show b+n-less<A.size;omega
 ·intro _
  show A.given less<65536
  rcases HS.out.given less (by omega) (by omega) with q | q <;> omega
 ·show -100000≤A.free
  have:=HS.out.free1;omega
 ·show A.free≤100000
  have:=HS.out.free2;omega
 rintro e w5 ⟨rfl,hA5,hF5⟩
 have hB:({ A with word:=layW A.word (b+gap) ns }:Ar).give (b+n-less) less=A.shrink b n gap less:=by
  unfold Ar.shrink
  rw[HN.out,lay_copy]
  rfl
 rw[hB] at hA5
 have b4:w5.heap[w.heap.size]?=some (.cells #[.int .i64 b,.int .i64 n] 172 (0,0)):=hF5.at B4.out (by simp;omega)
 have b5:w5.heap[w.heap.size+1]?=some (.cells #[.int .i64 0,.int .i64 0] 172 (0,0)):=hF5.at B5.out (by simp;omega)
 have m0:=cell_two0 b4
 have m1:=cell_two1 b4
 have m2:=cell_two0 b5
 have m3:=cell_two1 b5
 have m4:=free_two 0 b5
 have m5:=free_two 1 b5
 have HA5:=hide hA5
 have HF5:=hide (show Fr [ab,wb] w w5 from ((((Fr.refl _ _).alloc _).alloc _).drewN _).drew.trans ((HF4.out.mono (fun k hk _=>by simp at hk ⊢;exact Or.inr hk)).trans hF5))
 clear hA5 hF5 b4 b5 hB HA4 HF4 B4 B5
 by_cases hn:n=less
 ·have e0:((n:Int)==less)=true:=by simp;omega
  rw[if_pos hn] at hp
  have HP:=hide hp
  have HZ:=hide (show n-less=0 by omega)
  clear hn hp
  go_wp2
  refine bodyPost_ret (v:=.agg #[.int .i64 p,.int .i64 ((n-less:Nat):Int)]) (by rw[HP.out,HZ.out];simp[results,Tryz.results131,go_sem,m2,m3]) rfl ⟨rfl,?_,?_⟩
  ·exact(HA5.out.other (by omega) (by omega)).other (by omega) (by omega)
  ·exact(HF5.out.setCell (Or.inr (by omega)) _).setCell (Or.inr (by omega)) _
 ·have e0:((n:Int)==less)=false:=by simp;omega
  rw[if_neg hn] at hp
  have HP:=hide hp
  have HZ:=hide (show ((n-less:Nat):Int)=(n:Int)-less by omega)
  clear hp
  go_wp2
  refine bodyPost_ret (v:=.agg #[.int .i64 p,.int .i64 ((n-less:Nat):Int)]) (by rw[HP.out,HZ.out];simp[results,Tryz.results131,go_sem,m2,m3]) rfl ⟨rfl,?_,?_⟩
  ·exact(HA5.out.other (by omega) (by omega)).other (by omega) (by omega)
  ·exact(HF5.out.setCell (Or.inr (by omega)) _).setCell (Or.inr (by omega)) _
end Go.Proofs.YtnapboelfimaaaaGreatDoor
namespace Go.Proofs.YtnapboelfimaaaaGreatDoor
open Go.RowKit Go.Deep
set_option maxHeartbeats 400000 in
set_option maxRecDepth 10000 in
theorem grow_any (A:Ar) (ab wb b n gap more:Nat) (w:World) (h:ArAt w ab wb A) (hs:Sane A) (h1:1≤more) (h2:n+more≤32) (h3:gap≤n) (h4:b+n≤A.size) (h5:b<A.size)
  (hB:∀x B,A.take (n+more)=(B,some x)→B.size=A.size∧x+(n+more)≤A.size∧(n≠0→B.given n<65536)∧-100000≤B.free∧B.free≤100000) (Q:Ending→World→Prop)
  (q1:∀x B w',A.grow b n gap more=(B,some x)→ArAt w' ab wb B→Fr [ab,wb] w w'→Q (.returned (.tuple #[.agg #[.int .i64 (x:Nat),.int .i64 ((n+more:Nat):Int)],.bool true])) w')
  (q0:∀w',A.grow b n gap more=(A,none)→ArAt w' ab wb A→Fr [ab,wb] w w'→Q (.returned (.tuple #[.agg #[.int .i64 0,.int .i64 0],.bool false])) w') :
  Calls Tryz.prog 120 #[.pointer (some ⟨ab,0,none⟩),.agg #[.int .i64 b,.int .i64 n],.int .i64 gap,.int .i64 more] w Q:=by
 have hla:=h.la
 have hlw:=h.lw
 have hsz:=hs.size
 have i1:(b:Int)+n≤A.size:=by omega
 have i2:(b:Int)+n≤65536:=by omega
 have g0:A.size≠b:=by omega
 have i4:(n:Int)+more≤32:=by omega
 obtain⟨nm,hnm⟩:∃nm,n+more=nm:=⟨_,rfl⟩
 have e1:(n:Int)+more=(nm:Int):=by omega
 have HNM:=hide hnm
 have HA:=hide h
 have HS:=hide hs
 have Q1:=hide q1
 have Q0:=hide q0
 have HB:=hide hB
 clear h hs q1 q0 hB hnm
 go_enter Tryz.func120,Tryz.ntmps120
 go_wp2_with fail
 refine take_any A ab wb nm _ ?_ HS.out ?_ ?_ _ ?_ ?_
 ·exact(HA.out.alloc _).alloc _
 ·have:=HNM.out;omega
 ·have:=HNM.out;omega
 ·intro x B w1 ht hA1 hF1
  have hbs:=HB.out x B (by rw[HNM.out];exact ht)
  rw[HNM.out] at hbs
  obtain⟨s1,s2,s3,s4,s5⟩:=hbs
  have b4:w1.heap[w.heap.size]?=some (.cells #[.int .i64 b,.int .i64 n] 172 (0,0)):=by
   refine hF1.at ?_ (by simp;omega)
   rw[Below.heap_alloc _ _ _ (by simp)]
   exact heap_alloc_new _ _
  have b5:w1.heap[w.heap.size+1]?=some (.cells #[.int .i64 0,.int .i64 0] 172 (0,0)):=by
   refine hF1.at ?_ (by simp;omega)
   have:=heap_alloc_new (w.alloc (.cells #[.int .i64 b,.int .i64 n] 172)) (.cells #[.int .i64 0,.int .i64 0] 172)
   simpa using this
  have k0:=cell_two0 b4
  have k1:=cell_two1 b4
  have k2:=cell_two0 b5
  have k3:=cell_two1 b5
  have k4:=free_two 0 b5
  have k5:=free_two 1 b5
  have c0:=hA1.slice
  rw[s1] at c0
  have hsz1:w.heap.size+1<w1.heap.size:=by have:=hF1.size;simp at this;omega
  have hsz2:w.heap.size<w1.heap.size:=by omega
  have hsz3:ab<w1.heap.size:=by omega
  have hsz4:wb<w1.heap.size:=by omega
  have HT:=hide ht
  have HA1:=hide hA1
  have HF1:=hide hF1
  have B4:=hide b4
  have B5:=hide b5
  have S3:=hide s3
  have S1:=hide s1
  have i5:(x:Int)+nm≤A.size:=by omega
  clear ht hA1 hF1 b4 b5 s3 s1
  obtain⟨ns1,hns1⟩:∃ns,ns=(List.range gap).map fun i=>B.word (b+i):=⟨_,rfl⟩
  have N1:=hide hns1
  have L1:=hide (show ns1.length=gap by rw[hns1];simp)
  obtain⟨W1,hW1⟩:∃W,W=layW B.word x ns1:=⟨_,rfl⟩
  have HW1:=hide hW1
  obtain⟨ns2,hns2⟩:∃ns,ns=(List.range (n-gap)).map fun i=>W1 (b+gap+i):=⟨_,rfl⟩
  have N2:=hide hns2
  have L2:=hide (show ns2.length=n-gap by rw[hns2];simp)
  have C1:=hide (show ns1.length=Nat.min gap (A.size-x) by rw[L1.out];have:=HNM.out;exact(by omega:gap=min gap (A.size-x)))
  have C3:=hide (show x+ns1.length≤B.size by rw[L1.out,S1.out];have:=HNM.out;omega)
  have C2:=hide (show ∀w',ArAt w' ab wb B→∀j v,(wordVals ns1)[j]?=some v→w'.cell? ((⟨wb,b,none⟩:Addr).add j)=some v from by
   intro w' hw'
   rw[hns1]
   exact src_words hw' _ _ (by rw[S1.out];omega))
  have g1:A.size≠x:=by have:=HNM.out;omega
  have g2:x≤A.size:=by omega
  have g3:gap≤A.size-b:=by omega
  have g4:(gap:Int)≤n:=by omega
  obtain⟨xg,hxg⟩:∃y,y=x+gap:=⟨_,rfl⟩
  obtain⟨xgm,hxgm⟩:∃y,y=x+gap+more:=⟨_,rfl⟩
  have hw1:IntKind.i64.wrap ((x:Int)+gap)=(xg:Int):=by rw[IntKind.wrap_i64];omega
  have hw2:IntKind.i64.wrap ((xg:Int)+more)=(xgm:Int):=by rw[IntKind.wrap_i64];omega
  have XG:=hide hxgm
  have g5:xgm≤A.size:=by have:=HNM.out;omega
  have g6:(xgm:Int)≤A.size:=by omega
  obtain⟨dp,hdp⟩:∃dp:Option Addr,(if A.size=xgm then some ⟨wb,0,none⟩ else some ⟨wb,xgm,none⟩)=dp:=⟨_,rfl⟩
  obtain⟨sp,hsp⟩:∃sp:Option Addr,(if A.size-b=gap then some ⟨wb,b,none⟩ else some ⟨wb,b+gap,none⟩)=sp:=⟨_,rfl⟩
  have D1:=hide (show ns2.length=Nat.min (n-gap) (A.size-xgm) by rw[L2.out];have:=HNM.out;exact(by omega:n-gap=min (n-gap) (A.size-xgm)))
  have D3:=hide (show xgm+ns2.length≤B.size by rw[L2.out,S1.out];have:=HNM.out;omega)
  have D2:=hide (show ∀w',ArAt w' ab wb { B with word:=layW B.word x ns1 }→0<ns2.length→dp=some ⟨wb,xgm,none⟩∧∃ad,sp=some ad∧∀j v,(wordVals ns2)[j]?=some v→w'.cell? (ad.add j)=some v from by
   intro w' hw' hpos
   rw[L2.out] at hpos
   have:=HNM.out
   refine⟨by rw[←hdp,if_neg (by omega)],⟨wb,b+gap,none⟩,by rw[←hsp,if_neg (by omega)],?_⟩
   rw[hns2,hW1]
   exact src_words hw' _ _ (by show b+gap+(n-gap)≤B.size;rw[S1.out];omega))
  clear hns1 hns2 hW1 hxg hxgm
  go_wp2
  go_quiet (fail)
  go_wp2
  go_region_law (refine step_copy_words rfl (.tmp 43) (.tmp 46) rfl rfl (some ⟨wb,x,none⟩) (some ⟨wb,b,none⟩) (A.size-x) (A.size-x) gap (A.size-b) (by simp[Act.eval,Act.put]) (by simp[Act.eval,Act.put]) B ab wb x ((HA1.out.alloc _).drewN _).drew ns1 C1.out (fun _=>⟨rfl,_,rfl,C2.out _ ((HA1.out.alloc _).drewN _).drew⟩) C3.out ?_;intro w2 hA2 hF2)
  all_goals
   have b4:w2.heap[w.heap.size]?=some (.cells #[.int .i64 b,.int .i64 n] 172 (0,0)):=hF2.at (block_ext B4.out (below_drewN (ext_alloc _ _) _)) (by simp;omega)
   have b5:w2.heap[w.heap.size+1]?=some (.cells #[.int .i64 0,.int .i64 0] 172 (0,0)):=hF2.at (block_ext B5.out (below_drewN (ext_alloc _ _) _)) (by simp;omega)
   have b6:w2.heap[w1.heap.size]?=some (.cells #[.int .i64 x,.int .i64 nm] 172 (0,0)):=hF2.at (heap_alloc_new w1 (.cells #[.int .i64 x,.int .i64 nm] 172)) (by simp;omega)
   have c2:w2.cell? ⟨ab,0,none⟩=some (.slice (some ⟨wb,0,none⟩) A.size A.size):=by rw[←S1.out];exact hA2.slice
   have n0:=cell_two0 b6
   have HA2:=hide hA2
   have HF2:=hide (show Fr [ab,wb] w w2 from (((((Fr.refl _ _).alloc _).alloc _).trans HF1.out).alloc _).drewN _ |>.drew.trans (hF2.mono (fun k hk _=>by simp at hk ⊢;exact Or.inr hk)))
   have B42:=hide b4
   have B52:=hide b5
   have B62:=hide b6
   clear hA2 hF2 b4 b5 b6
  all_goals
   go_wp2
   go_region_law (refine step_copy_words rfl (.tmp 58) (.tmp 61) rfl rfl dp sp (A.size-xgm) (A.size-xgm) (n-gap) (A.size-b-gap) (by simp[Act.eval,Act.put]) (by simp[Act.eval,Act.put]) _ ab wb xgm HA2.out.drew ns2 D1.out (D2.out _ HA2.out.drew) D3.out ?_;intro w3 hA3 hF3)
  all_goals
   have b4:w3.heap[w.heap.size]?=some (.cells #[.int .i64 b,.int .i64 n] 172 (0,0)):=hF3.at B42.out (by simp;omega)
   have b5:w3.heap[w.heap.size+1]?=some (.cells #[.int .i64 0,.int .i64 0] 172 (0,0)):=hF3.at B52.out (by simp;omega)
   have b6:w3.heap[w1.heap.size]?=some (.cells #[.int .i64 x,.int .i64 nm] 172 (0,0)):=hF3.at B62.out (by simp;omega)
   have m0:=cell_two0 b4
   have m1:=cell_two1 b4
   have HA3:=hide hA3
   have HF3:=hide (show Fr [ab,wb] w w3 from HF2.out.drew.trans (hF3.mono (fun k hk _=>by simp at hk ⊢;exact Or.inr hk)))
   have B43:=hide b4
   have B53:=hide b5
   have B63:=hide b6
   clear hA3 hF3 b4 b5 b6
   go_wp2_with fail
   refine(give_at _ ab wb _ _ b n _ HA3.out rfl rfl (by omega) (fun _=>by show b<B.size;rw[S1.out];omega) S3.out s4 s5).mono ?_
   rintro e w5 ⟨rfl,hA5,hF5⟩
   have b5:w5.heap[w.heap.size+1]?=some (.cells #[.int .i64 0,.int .i64 0] 172 (0,0)):=hF5.at B53.out (by simp;omega)
   have b6:w5.heap[w1.heap.size]?=some (.cells #[.int .i64 x,.int .i64 nm] 172 (0,0)):=hF5.at B63.out (by simp;omega)
   have p0:=cell_two0 b6
   have p1:=cell_two1 b6
   have p2:=cell_two0 b5
   have p3:=cell_two1 b5
   have p4:=free_two 0 b5
   have p5:=free_two 1 b5
   have HA5:=hide hA5
   have HF5:=hide (HF3.out.trans hF5)
   clear hA5 hF5 b5 b6
   go_wp2
   refine bodyPost_ret (v:=.tuple #[.agg #[.int .i64 (x:Nat),.int .i64 ((n+more:Nat):Int)],.bool true]) (by rw[HNM.out];simp[results,Tryz.results120,go_sem,p2,p3]) rfl (Q1.out x _ _ ?_ ((HA5.out.other ?_ ?_).other ?_ ?_) ((HF5.out.setCell ?_ _).setCell ?_ _))
   ·unfold Ar.grow
    rw[HNM.out,HT.out]
    simp only[]
    unfold Ar.growAt
    rw[N2.out,HW1.out,N1.out,lay_copy,lay_copy,XG.out]
    rfl
   ·omega
   ·omega
   ·omega
   ·omega
   ·exact Or.inr (by omega)
   ·exact Or.inr (by omega)
 ·intro w1 ht hA1 hF1
  have b5:w1.heap[w.heap.size+1]?=some (.cells #[.int .i64 0,.int .i64 0] 172 (0,0)):=by
   refine hF1.at ?_ (by simp;omega)
   have:=heap_alloc_new (w.alloc (.cells #[.int .i64 b,.int .i64 n] 172)) (.cells #[.int .i64 0,.int .i64 0] 172)
   simpa using this
  have k2:=cell_two0 b5
  have k3:=cell_two1 b5
  have k4:=free_two 0 b5
  have k5:=free_two 1 b5
  have hsz1:w.heap.size+1<w1.heap.size:=by have:=hF1.size;simp at this;omega
  have hsz2:w.heap.size<w1.heap.size:=by omega
  have hsz3:ab<w1.heap.size:=by omega
  have hsz4:wb<w1.heap.size:=by omega
  have HT:=hide (show A.grow b n gap more=(A,none) by unfold Ar.grow;rw[HNM.out,ht])
  have HA1:=hide hA1
  have HF1:=hide (show Fr [ab,wb] w w1 from (((Fr.refl _ _).alloc _).alloc _).trans hF1)
  clear ht hA1 hF1 b5
  go_wp2
  refine bodyPost_ret (v:=.tuple #[.agg #[.int .i64 0,.int .i64 0],.bool false]) (by simp[results,Tryz.results120,go_sem,k2,k3,hsz1]) rfl (Q0.out _ HT.out ?_ ?_)
  ·exact((HA1.out.other (by omega) (by omega)).other (by omega) (by omega)).alloc _
  ·exact((HF1.out.setCell (Or.inr (by omega)) _).setCell (Or.inr (by omega)) _).alloc _
end Go.Proofs.YtnapboelfimaaaaGreatDoor
