/- RefE, RefF, RefG, RefH: parts of the proof, one behind the other. -/
import Derived.Test.YtnapboelfimaaaaGreatDoorB00
import Derived.Test.YtnapboelfimaaaaGreatDoorB30
namespace Go.Proofs.YtnapboelfimaaaaGreatDoor
open Go.RowKit Go.Deep
def RefD.small (d:RefD):Prop:=d.fours.length≤3000000∧d.sixes.length≤3000000
def RefD.put (d:RefD) (f:Int) (l:List RouteD):RefD:=if f=4 then { d with fours:=l } else { d with sixes:=l }
theorem RefAt.ext {w w':World} {rb:Nat} {d:RefD} (h:RefAt w rb d) (hb:Below w.heap.size w w'):RefAt w' rb d:=by
 obtain⟨a4,a6,c4,c6,h1,h2,h3⟩:=h
 exact⟨a4,a6,c4,c6,block_ext h1 hb,owns_ext h2 hb,owns_ext h3 hb⟩
theorem RefAt.lt {w:World} {rb:Nat} {d:RefD} (h:RefAt w rb d):rb<w.heap.size:=by
 obtain⟨a4,a6,c4,c6,h1,h2,h3⟩:=h
 exact lt_of_block h1
theorem owns_other {w:World} {base e size n b off:Nat} {v u:Value} {xs:List Value} {c:Array Value} {t:TypeId} {fz:Nat × Nat} (h:w.ownsRow base e size v n xs) (hb:w.heap[b]?=some (.cells c t fz)) (hne:t≠e):(w.setCell ⟨b,off,none⟩ u).ownsRow base e size v n xs:=by
 refine ownsRow_setCell_other h ?_ u
 intro eq
 rcases h.2 with ⟨rfl,_⟩ | ⟨g,cp,cur,rfl,_,hh,_⟩
 ·simp[Value.ownBlock] at eq
 ·simp[Value.ownBlock] at eq
  subst eq
  rw[hh] at hb
  simp at hb
  exact hne hb.2.1.symm
set_option maxHeartbeats 400000 in
theorem set_any (f:Int) (rb:Nat) (d:RefD) (l:List RouteD) (ao:Option Addr) (cap:Nat) (w:World) (hr:RefAt w rb d) (hl:w.ownsRow 0 66 3 (.slice ao l.length cap) l.length (flatR l)) :
  Calls Tryz.prog 31 #[.pointer (some ⟨rb,0,none⟩),.int .i64 f,.slice ao l.length cap] w fun e w'=>e=.returned (.tuple #[])∧RefAt w' rb (d.put f l)∧∃off v,w'=w.setCell ⟨rb,off,none⟩ v:=by
 obtain⟨a4,a6,c4,c6,hb,h4,h6⟩:=hr
 have k1:=cell_at hb 1
 have k2:=cell_at hb 2
 have k3:=free_at hb 1
 have k4:=free_at hb 2
 simp at k1 k2
 by_cases f4:f=4
 ·subst f4
  have HR:=hide (show RefAt (w.setCell ⟨rb,1,none⟩ (.slice ao l.length cap)) rb (d.put 4 l) from ⟨ao,a6,cap,c6,heap_setCell_at _ hb,owns_other hl hb (by decide),owns_other h6 hb (by decide)⟩)
  clear hb h4 h6 hl
  go_enter Tryz.func31,Tryz.ntmps31
  go_wp2
  go_end0
  exact⟨rfl,HR.out,_,_,rfl⟩
 ·have HR:=hide (show RefAt (w.setCell ⟨rb,2,none⟩ (.slice ao l.length cap)) rb (d.put f l) from by
   unfold RefD.put
   rw[if_neg f4]
   exact⟨a4,ao,c4,cap,heap_setCell_at _ hb,owns_other h4 hb (by decide),owns_other hl hb (by decide)⟩)
  have e4:(f==4)=false:=by simpa using f4
  clear hb h4 h6 hl f4
  go_enter Tryz.func31,Tryz.ntmps31
  go_wp2
  go_end0
  exact⟨rfl,HR.out,_,_,rfl⟩
def RefD.count (d:RefD):Nat:=d.fours.length+d.sixes.length
def RefD.enough (d:RefD):Bool:=decide (64*((d.count:Int)+1)+1280≤d.words)
set_option maxHeartbeats 400000 in
set_option maxRecDepth 10000 in
theorem enough_any (rb:Nat) (d:RefD) (w:World) (hr:RefAt w rb d) (hs:d.small) :
  Calls Tryz.prog 41 #[.pointer (some ⟨rb,0,none⟩)] w fun e w'=>e=.returned (.bool d.enough)∧Below w.heap.size w w':=by
 obtain⟨a4,a6,c4,c6,hb,h4,h6⟩:=hr
 have k0:=cell_at hb 0
 have k1:=cell_at hb 1
 have k2:=cell_at hb 2
 simp at k0 k1 k2
 obtain⟨s4,s6⟩:=hs
 clear hb h4 h6
 go_enter Tryz.func41,Tryz.ntmps41
 go_wp2
 go_quiet (fail)
 go_wp2
 go_ret
 refine⟨ret_bool ?_,below_drewN (Below.refl _ _) _⟩
 show decide _=decide _
 rw[decide_eq_decide]
 simp[RefD.count]
def bestStep (addr:ByteArray) (st:Option RouteD) (r:RouteD):Option RouteD:=if fitsR r addr&&(st.isNone || decide ((st.getD RouteD.zero).len<r.len)) then some r else st
def bestR (l:List RouteD) (addr:ByteArray):Option RouteD:=l.foldl (bestStep addr) none
theorem bestR_succ {l:List RouteD} {addr:ByteArray} {k:Nat} (h:k<l.length):bestR (l.take (k+1)) addr=bestStep addr (bestR (l.take k) addr) (l.getD k RouteD.zero):=by
 rw[take_snocR h]
 simp[bestR]
def fitOk (r:RouteD) (addr:ByteArray):Prop:=0≤r.len∧r.len≤8*r.bits.size∧r.len≤8*addr.size∧r.len≤1048576
theorem route_stored {w:World} {b:Nat} {u0 u1 u2:Value} {o:RouteD} (h:w.heap[b]?=some (.cells #[u0,u1,u2] 66 (0,0))) :
  (((w.setCell ⟨b,0,none⟩ (.string o.bits)).setCell ⟨b,1,none⟩ (.int .i64 o.len)).setCell ⟨b,2,none⟩ (.int .i64 o.hop)).heap[b]?=some (.cells #[.string o.bits,.int .i64 o.len,.int .i64 o.hop] 66 (0,0)) :=
 heap_setCell_at _ (heap_setCell_at _ (heap_setCell_at _ h))
theorem other_stored {w:World} {b c:Nat} {x:Obj} {o:RouteD} (h:w.heap[c]?=some x) (hne:c≠b) :
  (((w.setCell ⟨b,0,none⟩ (.string o.bits)).setCell ⟨b,1,none⟩ (.int .i64 o.len)).setCell ⟨b,2,none⟩ (.int .i64 o.hop)).heap[c]?=some x:=by
 rw[Below.heap_setCell _ _ _ _ hne,Below.heap_setCell _ _ _ _ hne,Below.heap_setCell _ _ _ _ hne]
 exact h
set_option maxHeartbeats 1000000 in
set_option maxRecDepth 10000 in
theorem best_x (l:List RouteD) (addr:ByteArray) (w:World) (ao:Option Addr) (cap:Nat) (hl:l.length≤4000000) (hok:∀r∈l,fitOk r addr) (hown:w.ownsRow 0 66 3 (.slice ao l.length cap) l.length (flatR l)) :
  Calls Tryz.prog 45 #[.slice ao l.length cap,.string addr] w fun e w' =>
   e=.returned (.tuple #[.agg #[.string ((bestR l addr).getD RouteD.zero).bits,.int .i64 ((bestR l addr).getD RouteD.zero).len,.int .i64 ((bestR l addr).getD RouteD.zero).hop],.bool (bestR l addr).isSome])∧Below w.heap.size w w':=by
 have HO:=hide hown
 clear hown
 go_enter Tryz.func45,Tryz.ntmps45
 go_wp2
 go_loopw [7,8] (fun t i wr=>∃k:Nat,k≤l.length∧i=.int .i64 k∧t=.bool (bestR (l.take k) addr).isSome∧wr.heap[w.heap.size]?=some (.cells #[.string RouteD.zero.bits,.int .i64 RouteD.zero.len,.int .i64 RouteD.zero.hop] 66 (0,0))∧wr.heap[w.heap.size+1]?=some (.cells #[.string ((bestR (l.take k) addr).getD RouteD.zero).bits,.int .i64 ((bestR (l.take k) addr).getD RouteD.zero).len,.int .i64 ((bestR (l.take k) addr).getD RouteD.zero).hop] 66 (0,0))∧Below w.heap.size w wr) (fun _ i _=>l.length-(intOf i).toNat)
 case atStart =>
  refine⟨0,Nat.zero_le _,rfl,rfl,?_,?_,ext_trans (ext_alloc _ _) (ext_alloc _ _)⟩
  ·exact block_ext (heap_alloc_new w _) (ext_alloc _ _)
  ·have:=heap_alloc_new (w.alloc (.cells #[.string { data:=#[] },.int .i64 0,.int .i64 0] 66)) (.cells #[.string { data:=#[] },.int .i64 0,.int .i64 0] 66)
   rw[World.size_alloc] at this
   exact this
 case round =>
  obtain⟨k,hk,rfl,rfl,hz,hb,hbr⟩:=hrel
  by_cases hkl:k<l.length
  ·obtain⟨g,hao,hg,c0,c1,c2⟩:=route_cells (owns_ext HO.out hbr) hkl
   obtain⟨q0,q1,q2,q3⟩:=hok _ (getD_mem RouteD.zero hkl)
   have hsucc:=bestR_succ (addr:=addr) hkl
   subst hao
   generalize l.getD k RouteD.zero=o at c0 c1 c2 q0 q1 q2 q3 hsucc
   generalize bestR (l.take k) addr=st at hb hsucc
   have HZ:=hide hz
   have HB:=hide hb
   have HBR:=hide hbr
   clear hz hb hbr
   go_wp2_with fail
   refine(fits_x o addr _ q0 q1 q2 q3).mono ?_
   rintro e w5 ⟨rfl,hb5⟩
   have e0:=cell_later hb5 c0
   have e1:=cell_later hb5 c1
   have e2:=cell_later hb5 c2
   have hr5:=block_ext HB.out hb5
   have r0:=cell_at hr5 0
   have r1:=cell_at hr5 1
   have r2:=cell_at hr5 2
   simp at r0 r1 r2
   have f0:=free_at hr5 0
   have f1:=free_at hr5 1
   have f2:=free_at hr5 2
   have HZ5:=hide (block_ext HZ.out hb5)
   have HB5:=hide (ext_trans HBR.out hb5)
   have HR5:=hide hr5
   have hs5:w.heap.size<w5.heap.size:=lt_of_block (block_ext HZ.out hb5)
   clear c0 c1 c2 hb5 HB HZ HBR hr5
   by_cases hf:fitsR o addr=true
   ·rcases st with _ | b
    ·have hst:bestStep addr none o=some o:=by simp[bestStep,hf]
     rw[hst] at hsucc
     have HS:=hide hsucc
     clear hsucc hst
     have HR6:=hide (fun nq:Nat=>route_stored (w:=w5.drewN nq) (o:=o) HR5.out)
     have HZ6:=hide (fun nq:Nat=>other_stored (w:=w5.drewN nq) (o:=o) (b:=w.heap.size+1) HZ5.out (by omega))
     have HB6:=hide (fun nq:Nat=>((((below_drewN HB5.out nq).setCell (p:=⟨w.heap.size+1,0,none⟩) (by simp) (.string o.bits)).setCell (p:=⟨w.heap.size+1,1,none⟩) (by simp) (.int .i64 o.len)).setCell (p:=⟨w.heap.size+1,2,none⟩) (by simp) (.int .i64 o.hop)))
     go_wp2
     go_quiet (fail)
     go_wp2
     go_roundw
     case rel =>
      refine⟨k+1,by omega,by go_num,by rw[HS.out];rfl,?_,by rw[HS.out];exact HR6.out nq,HB6.out nq⟩
      exact HZ6.out nq
     case measure=>simp[intOf];omega
    ·by_cases hlen:b.len<o.len
     ·have hst:bestStep addr (some b) o=some o:=by simp[bestStep,hf,hlen]
      rw[hst] at hsucc
      have HS:=hide hsucc
      clear hsucc hst
      have HR6:=hide (fun nq:Nat=>route_stored (w:=w5.drewN nq) (o:=o) HR5.out)
      have HZ6:=hide (fun nq:Nat=>other_stored (w:=w5.drewN nq) (o:=o) (b:=w.heap.size+1) HZ5.out (by omega))
      have HB6:=hide (fun nq:Nat=>((((below_drewN HB5.out nq).setCell (p:=⟨w.heap.size+1,0,none⟩) (by simp) (.string o.bits)).setCell (p:=⟨w.heap.size+1,1,none⟩) (by simp) (.int .i64 o.len)).setCell (p:=⟨w.heap.size+1,2,none⟩) (by simp) (.int .i64 o.hop)))
      go_wp2
      go_quiet (fail)
      go_wp2
      go_roundw
      case rel =>
       refine⟨k+1,by omega,by go_num,by rw[HS.out];rfl,?_,by rw[HS.out];exact HR6.out nq,HB6.out nq⟩
       exact HZ6.out nq
      case measure=>simp[intOf];omega
     ·have hst:bestStep addr (some b) o=some b:=by simp[bestStep,hlen]
      rw[hst] at hsucc
      have HS:=hide hsucc
      clear hsucc hst
      go_wp2
      go_quiet (fail)
      go_wp2
      go_roundw
      case rel=>exact⟨k+1,by omega,by go_num,by rw[HS.out];rfl,HZ5.out,by rw[HS.out];exact HR5.out,below_drewN HB5.out _⟩
      case measure=>simp[intOf];omega
   ·have hf':fitsR o addr=false:=by simpa using hf
    have hst:bestStep addr st o=st:=by simp[bestStep,hf']
    rw[hst] at hsucc
    have HS:=hide hsucc
    clear hsucc hst hf
    go_wp2
    go_quiet (fail)
    go_wp2
    go_roundw
    case rel=>exact⟨k+1,by omega,by go_num,by rw[HS.out],HZ5.out,by rw[HS.out];exact HR5.out,below_drewN HB5.out _⟩
    case measure=>simp[intOf];omega
  ·have ht:l.take k=l:=List.take_of_length_le (by omega)
   rw[ht] at hb
   generalize hbest:bestR l addr=st at hb
   have HBE:=hide hbest
   have HT:=hide ht
   have r0:=cell_at hb 0
   have r1:=cell_at hb 1
   have r2:=cell_at hb 2
   have z0:=cell_at hz 0
   have z1:=cell_at hz 1
   have z2:=cell_at hz 2
   have f0:=free_at hz 0
   have f1:=free_at hz 1
   have f2:=free_at hz 2
   simp at r0 r1 r2 z0 z1 z2
   have HBR:=hide hbr
   clear hz hb hbr hbest ht
   have hs5:w.heap.size<wr.heap.size:=World.block_lt_of_cell? _ _ z0
   go_wp2
   refine bodyPost_ret (v:=.tuple #[.agg #[.string (st.getD RouteD.zero).bits,.int .i64 (st.getD RouteD.zero).len,.int .i64 (st.getD RouteD.zero).hop],.bool st.isSome]) ?_ rfl ⟨?_,?_⟩
   ·simp[results,Tryz.results45,go_sem,z0,z1,z2,HT.out,HBE.out]
   ·rw[HBE.out]
   ·exact((HBR.out.setCell (by simp) _).setCell (by simp) _).setCell (by simp) _
end Go.Proofs.YtnapboelfimaaaaGreatDoor
namespace Go.Proofs.YtnapboelfimaaaaGreatDoor
open Go.RowKit Go.Deep
abbrev AnsD:=Ans
def AnsD.cells (a:AnsD):List Value:=[.int .i64 a.err,.int .i64 a.hop,.int .i64 a.reads]
def RefD.ok (d:RefD):Prop:=(∀r∈d.fours,0≤r.len∧r.len≤32∧r.bits.size=4)∧(∀r∈d.sixes,0≤r.len∧r.len≤128∧r.bits.size=16)
theorem routes_fit {d:RefD} (h:d.ok) {f:Int} {addr:ByteArray} (ha:addr.size=famSize f):∀r∈d.routes f,fitOk r addr:=by
 intro r hr
 unfold RefD.routes at hr
 unfold famSize at ha
 split at hr
 ·rename_i e
  rw[if_pos e] at ha
  obtain⟨a,b,c⟩:=h.1 r hr
  exact⟨a,by rw[c];omega,by rw[ha];omega,by omega⟩
 ·rename_i e4
  rw[if_neg e4] at ha
  split at hr
  ·rename_i e
   rw[if_pos e] at ha
   obtain⟨a,b,c⟩:=h.2 r hr
   exact⟨a,by rw[c];omega,by rw[ha];omega,by omega⟩
  ·cases hr
theorem routes_small {d:RefD} (h:d.small) (f:Int):(d.routes f).length≤4000000:=by
 have h1:=h.1
 have h2:=h.2
 unfold RefD.routes
 split
 ·omega
 ·split
  ·omega
  ·simp
set_option maxHeartbeats 400000 in
theorem routes_fixed (f:Int) (rb:Nat) (d:RefD) (w:World) (hr:RefAt w rb d):∃ao cap,w.ownsRow 0 66 3 (.slice ao (d.routes f).length cap) (d.routes f).length (flatR (d.routes f)) ∧
  ∀w',Below w.heap.size w w'→Calls Tryz.prog 24 #[.pointer (some ⟨rb,0,none⟩),.int .i64 f] w' fun e w''=>e=.returned (.slice ao (d.routes f).length cap)∧w''=w':=by
 obtain⟨a4,a6,c4,c6,hb,h4,h6⟩:=hr
 by_cases f4:f=4
 ·subst f4
  refine⟨a4,c4,h4,fun w' hbw=>?_⟩
  have k1:=cell_at (block_ext hb hbw) 1
  simp at k1
  clear hb h4 h6 hbw
  go_enter Tryz.func24,Tryz.ntmps24
  go_wp2
  go_ret
  exact⟨rfl,rfl⟩
 ·by_cases f6:f=6
  ·subst f6
   refine⟨a6,c6,h6,fun w' hbw=>?_⟩
   have k2:=cell_at (block_ext hb hbw) 2
   simp at k2
   clear hb h4 h6 hbw
   go_enter Tryz.func24,Tryz.ntmps24
   go_wp2
   go_ret
   exact⟨rfl,rfl⟩
  ·have HV:=hide (show d.routes f=[] by simp[RefD.routes,f4,f6])
   refine⟨none,0,by rw[HV.out];exact World.ownsRow_nil _ _ _ _,fun w' hbw=>?_⟩
   have e4:(f==4)=false:=by simpa using f4
   have e6:(f==6)=false:=by simpa using f6
   clear hb h4 h6 hbw f4 f6
   go_enter Tryz.func24,Tryz.ntmps24
   go_wp2
   go_ret
   rw[HV.out]
   exact⟨rfl,rfl⟩
def lookupR (best:Option RouteD) (g:AnsD):Bool:=match best with
 | none=>g.err==7&&g.hop==0
 | some r=>g.err==0&&g.hop==r.hop
def mostReads (f:Int):Int:=if f=6 then 33 else 9
theorem bcell {W w1:World} (hb:Below W.heap.size W w1):(∀b o,b<W.heap.size→w1.cell? ⟨b,o,none⟩=W.cell? ⟨b,o,none⟩)∧(∀b o,b<W.heap.size→w1.frozen? ⟨b,o,none⟩=W.frozen? ⟨b,o,none⟩) :=
 ⟨fun b o h=>hb.cell (p:=⟨b,o,none⟩) h,fun b o h=>hb.frozen (p:=⟨b,o,none⟩) h⟩
theorem stays {W:World} {a:Addr} {v:Value} (h:W.cell? a=some v):∀w':World,Below W.heap.size W w'→w'.cell? a=some v:=fun _ hb=>cell_later hb h
theorem ext_drew (W:World):Below W.heap.size W W.drew:=Below.drew (Below.refl _ _)
theorem ext_set3 {wr wa:World} {k:Nat} {x y z:Value} (h:Below wr.heap.size wr wa) (hk:wr.heap.size≤k):Below wr.heap.size wr (((wa.setCell ⟨k,0,none⟩ x).setCell ⟨k,1,none⟩ y).setCell ⟨k,2,none⟩ z) :=
 ((h.setCell hk _).setCell hk _).setCell hk _
set_option maxHeartbeats 1000000 in
set_option maxRecDepth 10000 in
theorem lookup_main (rb:Nat) (d:RefD) (o:OpD) (g:AnsD) (w:World) (hr:RefAt w rb d) (hs:d.small) (hok:d.ok) (hf:famSize o.family≠0) (hb:o.bits.size=famSize o.family) (hr1:1≤g.reads) (hr2:g.reads≤mostReads o.family) :
  Calls Tryz.prog 32 #[.pointer (some ⟨rb,0,none⟩),.agg #[.int .i64 o.code,.int .i64 o.family,.string o.bits,.int .i64 o.len,.int .i64 o.hop],.agg #[.int .i64 g.err,.int .i64 g.hop,.int .i64 g.reads]] w fun e w' =>
   e=.returned (.bool (lookupR (bestR (d.routes o.family) o.bits) g))∧Below w.heap.size w w':=by
 have hsz:(famSize o.family:Int)≤16:=by rcases famSize_cases o.family with h | h | h <;> omega
 have e0:((famSize o.family:Int)==0)=false:=by simp[hf]
 have e1:((o.bits.size:Int) != (famSize o.family:Int))=false:=by simp[hb]
 have HF:=hide (routes_fit hok hb)
 have HS:=hide (routes_small hs o.family)
 obtain⟨wx,hwx⟩:∃wx:World,wx=(w.alloc (.cells #[.int .i64 o.code,.int .i64 o.family,.string o.bits,.int .i64 o.len,.int .i64 o.hop] 27)).alloc (.cells #[.int .i64 g.err,.int .i64 g.hop,.int .i64 g.reads] 59):=⟨_,rfl⟩
 have HW:=hide hwx
 have hbx:Below w.heap.size w wx:=by rw[hwx];exact ext_trans (ext_alloc _ _) (ext_alloc _ _)
 have hxs:w.heap.size+1<wx.heap.size:=by rw[hwx];simp
 obtain⟨ao,cap,hrow,hroutes⟩:=routes_fixed o.family rb d wx (hr.ext hbx)
 have HRow:=hide hrow
 have HRoutes:=hide hroutes
 clear hrow hroutes
 have HBX:=hide hbx
 have o1:wx.cell? ⟨w.heap.size,1,none⟩=some (.int .i64 o.family):=by rw[hwx];simp
 have o2:wx.cell? ⟨w.heap.size,2,none⟩=some (.string o.bits):=by rw[hwx];simp
 have a0:wx.cell? ⟨w.heap.size+1,0,none⟩=some (.int .i64 g.err):=by rw[hwx];exact cell_new (by simp)
 have a1:wx.cell? ⟨w.heap.size+1,1,none⟩=some (.int .i64 g.hop):=by rw[hwx];exact cell_new (by simp)
 have a2:wx.cell? ⟨w.heap.size+1,2,none⟩=some (.int .i64 g.reads):=by rw[hwx];exact cell_new (by simp)
 clear hwx hb hf hbx hr
 obtain⟨rs,hrs⟩:∃rs,rs=d.routes o.family:=⟨_,rfl⟩
 rw[←hrs] at HF HS HRow HRoutes
 obtain⟨bst,hbst⟩:∃bst,bst=bestR rs o.bits:=⟨_,rfl⟩
 have HP:=hide (show bestR (d.routes o.family) o.bits=bst by rw[←hrs,hbst])
 have HBest:=hide (show ∀w':World,Below wx.heap.size wx w'→Calls Tryz.prog 45 #[.slice ao rs.length cap,.string o.bits] w' fun e w''=>e=.returned (.tuple #[.agg #[.string (bst.getD RouteD.zero).bits,.int .i64 (bst.getD RouteD.zero).len,.int .i64 (bst.getD RouteD.zero).hop],.bool bst.isSome])∧Below w'.heap.size w' w'' from fun w' hb=>by rw[hbst];exact best_x rs _ _ ao cap HS.out HF.out (owns_ext HRow.out hb))
 clear hrs hbst
 by_cases h6:o.family=6
 ·have e6:(o.family==6)=true:=by simp[h6]
  have hm:g.reads≤33:=by simpa [mostReads,h6] using hr2
  clear hr2 h6
  go_enter Tryz.func32,Tryz.ntmps32
  go_wp2_with fail
  rw[←HW.out]
  refine(size_any _ _).mono ?_
  rintro e w2 ⟨rfl,hw2⟩
  rw[hw2]
  clear hw2
  go_wp2_with fail
  have s1:=stays o1
  have s2:=stays o2
  have s3:=stays a0
  have s4:=stays a1
  clear o1 o2 a0 a1 a2
  go_region_held3 (fun w'=>Below wx.heap.size wx w') (first | (assumption) | (exact ext_drew wx) | (exact Below.drew (ext_alloc wx _)) | (exact ext_trans (by assumption) (by assumption)) | (exact ext_trans (by assumption) (ext_alloc _ _)) | (exact ext_set3 (by assumption) (Nat.le_refl _)) | (exact ext_trans (ext_trans (ext_drew wx) hb5) (ext_alloc _ _))) (first | (go_at_call 24;refine(HRoutes.out _ (by assumption)).mono ?_;rintro e w5 ⟨rfl,rfl⟩) | (go_at_call 45;refine(HBest.out _ (by assumption)).mono ?_;rintro e w5 ⟨rfl,hb5⟩;have hcur:=ext_trans (by assumption) hb5;have k3:=s3 _ hcur;have k4:=s4 _ hcur;have hlt5:w.heap.size+1<w5.heap.size:=Nat.lt_of_lt_of_le hxs hcur.size;obtain⟨hc5,hf5⟩:=bcell hb5))
  all_goals
   have HX:=hide (ext_trans HBX.out (by assumption:Below wx.heap.size wx _))
   clear s1 s2 s3 s4
   rcases bst with _ | r
   ·by_cases q1:g.err=7
    ·have q1':(g.err==7)=true:=by simpa using q1
     clear q1
     go_wp2
     go_ret
     exact⟨ret_bool (by rw[HP.out];simp[lookupR,q1']),HX.out⟩
    ·have q1':(g.err==7)=false:=by simpa using q1
     clear q1
     go_wp2
     go_ret
     exact⟨ret_bool (by rw[HP.out];simp[lookupR,q1']),HX.out⟩
   ·by_cases q1:g.err=0
    ·have q1':(g.err==0)=true:=by simpa using q1
     clear q1
     go_wp2
     go_ret
     exact⟨ret_bool (by rw[HP.out];simp[lookupR,q1']),HX.out⟩
    ·have q1':(g.err==0)=false:=by simpa using q1
     clear q1
     go_wp2
     go_ret
     exact⟨ret_bool (by rw[HP.out];simp[lookupR,q1']),HX.out⟩
 ·have e6:(o.family==6)=false:=by simpa using h6
  have hm:g.reads≤9:=by simpa [mostReads,h6] using hr2
  clear hr2 h6
  go_enter Tryz.func32,Tryz.ntmps32
  go_wp2_with fail
  rw[←HW.out]
  refine(size_any _ _).mono ?_
  rintro e w2 ⟨rfl,hw2⟩
  rw[hw2]
  clear hw2
  go_wp2_with fail
  have s1:=stays o1
  have s2:=stays o2
  have s3:=stays a0
  have s4:=stays a1
  clear o1 o2 a0 a1 a2
  go_region_held3 (fun w'=>Below wx.heap.size wx w') (first | (assumption) | (exact ext_drew wx) | (exact Below.drew (ext_alloc wx _)) | (exact ext_trans (by assumption) (by assumption)) | (exact ext_trans (by assumption) (ext_alloc _ _)) | (exact ext_set3 (by assumption) (Nat.le_refl _)) | (exact ext_trans (ext_trans (ext_drew wx) hb5) (ext_alloc _ _))) (first | (go_at_call 24;refine(HRoutes.out _ (by assumption)).mono ?_;rintro e w5 ⟨rfl,rfl⟩) | (go_at_call 45;refine(HBest.out _ (by assumption)).mono ?_;rintro e w5 ⟨rfl,hb5⟩;have hcur:=ext_trans (by assumption) hb5;have k3:=s3 _ hcur;have k4:=s4 _ hcur;have hlt5:w.heap.size+1<w5.heap.size:=Nat.lt_of_lt_of_le hxs hcur.size;obtain⟨hc5,hf5⟩:=bcell hb5))
  all_goals
   have HX:=hide (ext_trans HBX.out (by assumption:Below wx.heap.size wx _))
   clear s1 s2 s3 s4
   rcases bst with _ | r
   ·by_cases q1:g.err=7
    ·have q1':(g.err==7)=true:=by simpa using q1
     clear q1
     go_wp2
     go_ret
     exact⟨ret_bool (by rw[HP.out];simp[lookupR,q1']),HX.out⟩
    ·have q1':(g.err==7)=false:=by simpa using q1
     clear q1
     go_wp2
     go_ret
     exact⟨ret_bool (by rw[HP.out];simp[lookupR,q1']),HX.out⟩
   ·by_cases q1:g.err=0
    ·have q1':(g.err==0)=true:=by simpa using q1
     clear q1
     go_wp2
     go_ret
     exact⟨ret_bool (by rw[HP.out];simp[lookupR,q1']),HX.out⟩
    ·have q1':(g.err==0)=false:=by simpa using q1
     clear q1
     go_wp2
     go_ret
     exact⟨ret_bool (by rw[HP.out];simp[lookupR,q1']),HX.out⟩
end Go.Proofs.YtnapboelfimaaaaGreatDoor
namespace Go.Proofs.YtnapboelfimaaaaGreatDoor
open Go.RowKit Go.Deep
theorem RefAt.other {w:World} {rb b off:Nat} {d:RefD} {c:Array Value} {t:TypeId} {fz:Nat × Nat} {v:Value} (h:RefAt w rb d) (hb:w.heap[b]?=some (.cells c t fz)) (h1:t≠48) (h2:t≠66):RefAt (w.setCell ⟨b,off,none⟩ v) rb d:=by
 obtain⟨a4,a6,c4,c6,hr,h4,h6⟩:=h
 refine⟨a4,a6,c4,c6,?_,owns_other h4 hb h2,owns_other h6 hb h2⟩
 rw[Below.heap_setCell]
 ·exact hr
 ·rintro rfl
  rw[hr] at hb
  simp at hb
  exact h1 hb.2.1.symm
set_option maxHeartbeats 400000 in
set_option maxRecDepth 10000 in
theorem insert_bad (rb:Nat) (o:OpD) (full:Bool) (w:World) (hb:badOp o≠0) :
  Calls Tryz.prog 28 #[.pointer (some ⟨rb,0,none⟩),.agg #[.int .i64 o.code,.int .i64 o.family,.string o.bits,.int .i64 o.len,.int .i64 o.hop],.bool full] w fun e w'=>e=.returned (.int .i64 (badOp o))∧Below w.heap.size w w':=by
 have e1:(badOp o != 0)=true:=by simpa using hb
 clear hb
 go_enter Tryz.func28,Tryz.ntmps28
 go_wp2_with fail
 refine(bad_any o _).mono ?_
 rintro e w1 ⟨rfl,hb1⟩
 have HB:=hide (ext_trans (ext_alloc w _) hb1)
 clear hb1
 go_wp2
 go_ret
 exact⟨rfl,HB.out⟩
set_option maxHeartbeats 400000 in
set_option maxRecDepth 10000 in
theorem insert_hop (rb:Nat) (o:OpD) (full:Bool) (w:World) (hb:badOp o=0) (hh:o.hop<0∨65535<o.hop) :
  Calls Tryz.prog 28 #[.pointer (some ⟨rb,0,none⟩),.agg #[.int .i64 o.code,.int .i64 o.family,.string o.bits,.int .i64 o.len,.int .i64 o.hop],.bool full] w fun e w'=>e=.returned (.int .i64 6)∧Below w.heap.size w w':=by
 have e1:(badOp o != 0)=false:=by simp[hb]
 clear hb
 by_cases h1:o.hop<0
 ·clear hh
  go_enter Tryz.func28,Tryz.ntmps28
  go_wp2_with fail
  refine(bad_any o _).mono ?_
  rintro e w1 ⟨rfl,hb1⟩
  have HB:=hide (ext_trans (ext_alloc w _) hb1)
  have c4:=cell_later hb1 (show (w.alloc (.cells #[.int .i64 o.code,.int .i64 o.family,.string o.bits,.int .i64 o.len,.int .i64 o.hop] 27)).cell? ⟨w.heap.size,4,none⟩=some (.int .i64 o.hop) from cell_new rfl)
  clear hb1
  go_wp2
  go_ret
  exact⟨rfl,HB.out⟩
 ·have h2:65535<o.hop:=by omega
  clear hh
  go_enter Tryz.func28,Tryz.ntmps28
  go_wp2_with fail
  refine(bad_any o _).mono ?_
  rintro e w1 ⟨rfl,hb1⟩
  have HB:=hide (ext_trans (ext_alloc w _) hb1)
  have c4:=cell_later hb1 (show (w.alloc (.cells #[.int .i64 o.code,.int .i64 o.family,.string o.bits,.int .i64 o.len,.int .i64 o.hop] 27)).cell? ⟨w.heap.size,4,none⟩=some (.int .i64 o.hop) from cell_new rfl)
  clear hb1
  go_wp2
  go_ret
  exact⟨rfl,HB.out⟩
set_option maxHeartbeats 400000 in
set_option maxRecDepth 10000 in
theorem insert_full (rb:Nat) (d:RefD) (o:OpD) (w:World) (hr:RefAt w rb d) (hs:d.small) (hb:badOp o=0) (h1:0≤o.hop) (h2:o.hop≤65535) (he:d.enough=false) :
  Calls Tryz.prog 28 #[.pointer (some ⟨rb,0,none⟩),.agg #[.int .i64 o.code,.int .i64 o.family,.string o.bits,.int .i64 o.len,.int .i64 o.hop],.bool true] w fun e w'=>e=.returned (.int .i64 8)∧Below w.heap.size w w':=by
 have e1:(badOp o != 0)=false:=by simp[hb]
 have HR:=hide (hr.ext (ext_alloc w (.cells #[.int .i64 o.code,.int .i64 o.family,.string o.bits,.int .i64 o.len,.int .i64 o.hop] 27)))
 clear hb hr
 go_enter Tryz.func28,Tryz.ntmps28
 go_wp2_with fail
 refine(bad_any o _).mono ?_
 rintro e w1 ⟨rfl,hb1⟩
 have HB:=hide (ext_trans (ext_alloc w _) hb1)
 have c4:=cell_later hb1 (show (w.alloc (.cells #[.int .i64 o.code,.int .i64 o.family,.string o.bits,.int .i64 o.len,.int .i64 o.hop] 27)).cell? ⟨w.heap.size,4,none⟩=some (.int .i64 o.hop) from cell_new rfl)
 have HR1:=hide (HR.out.ext hb1)
 clear hb1
 go_wp2_with fail
 refine(enough_any rb d _ HR1.out hs).mono ?_
 rintro e w2 ⟨rfl,hb2⟩
 have HB2:=hide (ext_trans HB.out hb2)
 clear hb2
 go_wp2
 go_ret
 exact⟨rfl,HB2.out⟩
set_option maxHeartbeats 1000000 in
set_option maxRecDepth 10000 in
theorem insert_ok (rb:Nat) (d:RefD) (o:OpD) (w:World) (hr:RefAt w rb d) (hs:d.small) (hb:badOp o=0) (h1:0≤o.hop) (h2:o.hop≤65535) :
  Calls Tryz.prog 28 #[.pointer (some ⟨rb,0,none⟩),.agg #[.int .i64 o.code,.int .i64 o.family,.string o.bits,.int .i64 o.len,.int .i64 o.hop],.bool false] w fun e w'=>e=.returned (.int .i64 0)∧RefAt w' rb (d.put o.family (withR (d.routes o.family) ⟨o.bits,o.len,o.hop⟩))∧Fr [rb] w w':=by
 have e1:(badOp o != 0)=false:=by simp[hb]
 have HR:=hide (hr.ext (ext_alloc w (.cells #[.int .i64 o.code,.int .i64 o.family,.string o.bits,.int .i64 o.len,.int .i64 o.hop] 27)))
 have hbx:=block_ext (heap_alloc_new w (.cells #[.int .i64 o.code,.int .i64 o.family,.string o.bits,.int .i64 o.len,.int .i64 o.hop] 27)) (Below.refl _ _)
 have HL:=hide (routes_small hs o.family)
 clear hb hr
 go_enter Tryz.func28,Tryz.ntmps28
 go_wp2_with fail
 refine(bad_any o _).mono ?_
 rintro e w1 ⟨rfl,hb1⟩
 have HB:=hide (ext_trans (ext_alloc w _) hb1)
 have hb1x:=block_ext hbx hb1
 have c4:=cell_at hb1x 4
 simp at c4
 have HR1:=hide (HR.out.ext hb1)
 have HX1:=hide hb1x
 clear hb1 hbx hb1x
 go_wp2_with fail
 refine(enough_any rb d _ HR1.out hs).mono ?_
 rintro e wx ⟨rfl,hb2⟩
 have HB2:=hide (ext_trans HB.out hb2)
 have hx2:=block_ext HX1.out hb2
 obtain⟨ao,cap,hrow,hroutes⟩:=routes_fixed o.family rb d wx (HR1.out.ext hb2)
 have HRow:=hide hrow
 have HRoutes:=hide hroutes
 have HR2:=hide (HR1.out.ext hb2)
 have s1:=stays (show wx.cell? ⟨w.heap.size,1,none⟩=some (.int .i64 o.family) from cell_at hx2 1)
 have s2:=stays (show wx.cell? ⟨w.heap.size,2,none⟩=some (.string o.bits) from cell_at hx2 2)
 have s3:=stays (show wx.cell? ⟨w.heap.size,3,none⟩=some (.int .i64 o.len) from cell_at hx2 3)
 have s4:=stays (show wx.cell? ⟨w.heap.size,4,none⟩=some (.int .i64 o.hop) from cell_at hx2 4)
 clear hb2 hx2 hrow hroutes c4
 obtain⟨rs,hrs⟩:∃rs,rs=d.routes o.family:=⟨_,rfl⟩
 rw[←hrs] at HL HRow HRoutes
 have HRS:=hide hrs
 clear hrs
 go_wp2
 go_region_held3 (fun w'=>Below wx.heap.size wx w') (first | (assumption) | (exact ext_drew wx)) (first | (go_at_call 24;refine(HRoutes.out _ (by assumption)).mono ?_;rintro e w5 ⟨rfl,rfl⟩) | (go_at_call 42;refine(with_x rs ⟨o.bits,o.len,o.hop⟩ _ ao cap HL.out (owns_ext HRow.out (by assumption))).mono ?_;rintro e w5 ⟨ao5,cp5,rfl,hown5,hb5⟩;have hcur:=ext_trans (by assumption) hb5))
 have k1:=s1 _ hcur
 have HR5:=hide (HR2.out.ext hcur)
 have HO5:=hide (owns_base hown5 (Nat.zero_le _))
 have HB5:=hide (ext_trans HB2.out hcur)
 clear s1 s2 s3 s4 hown5 hb5 hcur
 go_wp2_with fail
 refine(set_any o.family rb d _ ao5 cp5 w5 HR5.out HO5.out).mono ?_
 rintro e w6 ⟨rfl,hr6,off,v,hw6⟩
 have HR6:=hide hr6
 have HF6:=hide (show Fr [rb] w w6 by rw[hw6];exact(Fr.of_below HB5.out).setCell (.inl (by simp)) v)
 clear hr6 hw6
 go_wp2
 go_ret
 exact⟨rfl,by rw[←HRS.out];exact HR6.out,HF6.out⟩
end Go.Proofs.YtnapboelfimaaaaGreatDoor
namespace Go.Proofs.YtnapboelfimaaaaGreatDoor
open Go.RowKit Go.Deep
set_option maxHeartbeats 400000 in
set_option maxRecDepth 10000 in
theorem do_code (rb:Nat) (o:OpD) (w:World) (hc:o.code<1∨4<o.code) :
  Calls Tryz.prog 20 #[.pointer (some ⟨rb,0,none⟩),.agg #[.int .i64 o.code,.int .i64 o.family,.string o.bits,.int .i64 o.len,.int .i64 o.hop],.agg #[.int .i64 2,.int .i64 0,.int .i64 0]] w fun e w'=>e=.returned (.bool true)∧Below w.heap.size w w':=by
 have e1:(o.code==1)=false:=by simp;omega
 have e2:(o.code==2)=false:=by simp;omega
 have e3:(o.code==3)=false:=by simp;omega
 have e4:(o.code==4)=false:=by simp;omega
 clear hc
 go_enter Tryz.func20,Tryz.ntmps20
 go_wp2
 go_ret
 exact⟨rfl,ext_trans (ext_alloc _ _) (ext_trans (ext_alloc _ _) (ext_alloc _ _))⟩
set_option maxHeartbeats 400000 in
set_option maxRecDepth 10000 in
theorem do_compact (rb:Nat) (o:OpD) (w:World) (hc:o.code=4) :
  Calls Tryz.prog 20 #[.pointer (some ⟨rb,0,none⟩),.agg #[.int .i64 o.code,.int .i64 o.family,.string o.bits,.int .i64 o.len,.int .i64 o.hop],.agg #[.int .i64 0,.int .i64 0,.int .i64 0]] w fun e w'=>e=.returned (.bool true)∧Below w.heap.size w w':=by
 have e1:(o.code==1)=false:=by simp;omega
 have e2:(o.code==2)=false:=by simp;omega
 have e3:(o.code==3)=false:=by simp;omega
 have e4:(o.code==4)=true:=by simp;omega
 clear hc
 go_enter Tryz.func20,Tryz.ntmps20
 go_wp2
 go_ret
 exact⟨rfl,ext_trans (ext_alloc _ _) (ext_trans (ext_alloc _ _) (ext_alloc _ _))⟩
set_option maxHeartbeats 400000 in
set_option maxRecDepth 10000 in
theorem do_insert (rb:Nat) (d':RefD) (o:OpD) (err:Int) (full:Bool) (w:World) (hrb:rb<w.heap.size) (hc:o.code=1) (hf:(err==8)=full)
  (hI:∀w',Below w.heap.size w w'→Calls Tryz.prog 28 #[.pointer (some ⟨rb,0,none⟩),.agg #[.int .i64 o.code,.int .i64 o.family,.string o.bits,.int .i64 o.len,.int .i64 o.hop],.bool full] w' fun e w''=>e=.returned (.int .i64 err)∧RefAt w'' rb d'∧Fr [rb] w' w'') :
  Calls Tryz.prog 20 #[.pointer (some ⟨rb,0,none⟩),.agg #[.int .i64 o.code,.int .i64 o.family,.string o.bits,.int .i64 o.len,.int .i64 o.hop],.agg #[.int .i64 err,.int .i64 0,.int .i64 0]] w fun e w'=>e=.returned (.bool true)∧RefAt w' rb d'∧Fr [rb] w w':=by
 have e1:(o.code==1)=true:=by simp;omega
 have HI:=hide hI
 clear hc hI
 obtain⟨wx,hwx⟩:∃wx:World,wx=((w.alloc (.cells #[.int .i64 o.code,.int .i64 o.family,.string o.bits,.int .i64 o.len,.int .i64 o.hop] 27)).alloc (.cells #[.int .i64 err,.int .i64 0,.int .i64 0] 59)).alloc (.cells #[.int .i64 0,.int .i64 0,.int .i64 0] 59):=⟨_,rfl⟩
 have HW:=hide hwx
 have hbx:Below w.heap.size w wx:=by rw[hwx];exact ext_trans (ext_alloc _ _) (ext_trans (ext_alloc _ _) (ext_alloc _ _))
 have hg:wx.heap[w.heap.size+1]?=some (.cells #[.int .i64 err,.int .i64 0,.int .i64 0] 59 (0,0)):=by
  rw[hwx]
  exact block_ext (by have:=heap_alloc_new (w.alloc (.cells #[.int .i64 o.code,.int .i64 o.family,.string o.bits,.int .i64 o.len,.int .i64 o.hop] 27)) (.cells #[.int .i64 err,.int .i64 0,.int .i64 0] 59);rw[World.size_alloc] at this;exact this) (ext_alloc _ _)
 have hwt:wx.heap[w.heap.size+1+1]?=some (.cells #[.int .i64 0,.int .i64 0,.int .i64 0] 59 (0,0)):=by
  rw[hwx]
  have:=heap_alloc_new ((w.alloc (.cells #[.int .i64 o.code,.int .i64 o.family,.string o.bits,.int .i64 o.len,.int .i64 o.hop] 27)).alloc (.cells #[.int .i64 err,.int .i64 0,.int .i64 0] 59)) (.cells #[.int .i64 0,.int .i64 0,.int .i64 0] 59)
  rw[World.size_alloc,World.size_alloc] at this
  exact this
 have HBX:=hide hbx
 have HG:=hide hg
 have HT:=hide hwt
 clear hwx hbx hg hwt
 go_enter Tryz.func20,Tryz.ntmps20
 go_wp2_with fail
 rw[←HW.out]
 refine(HI.out wx HBX.out).mono ?_
 rintro e w5 ⟨rfl,hr5,hf5⟩
 have hg5:=hf5.at HG.out (by simp;omega)
 have ht5:=hf5.at HT.out (by simp;omega)
 have g0:=cell_at hg5 0
 have g1:=cell_at hg5 1
 have g2:=cell_at hg5 2
 have t0:=cell_at ht5 0
 have t1:=cell_at ht5 1
 have t2:=cell_at ht5 2
 have tf:=free_at ht5 0
 simp at g0 g1 g2 t0 t1 t2
 have HR:=hide (hr5.other (b:=w.heap.size+1+1) (off:=0) (v:=.int .i64 err) ht5 (by decide) (by decide))
 have HF:=hide (show Fr [rb] w (w5.setCell ⟨w.heap.size+1+1,0,none⟩ (.int .i64 err)) from ((Fr.of_below HBX.out).trans hf5).setCell (.inr (by omega)) _)
 clear hr5 hf5 hg5 ht5
 go_wp2
 go_ret
 exact⟨ret_bool (by simp),HR.out,HF.out⟩
set_option maxHeartbeats 400000 in
set_option maxRecDepth 10000 in
theorem do_delete_bad (rb:Nat) (d:RefD) (o:OpD) (w:World) (hr:RefAt w rb d) (hc:o.code=2) (hb:badOp o≠0) :
  Calls Tryz.prog 20 #[.pointer (some ⟨rb,0,none⟩),.agg #[.int .i64 o.code,.int .i64 o.family,.string o.bits,.int .i64 o.len,.int .i64 o.hop],.agg #[.int .i64 (badOp o),.int .i64 0,.int .i64 0]] w fun e w'=>e=.returned (.bool true)∧RefAt w' rb d∧Fr [rb] w w':=by
 have e1:(o.code==1)=false:=by simp;omega
 have e2:(o.code==2)=true:=by simp;omega
 have e3:(badOp o==0)=false:=by simpa using hb
 obtain⟨err,herr⟩:∃err,err=badOp o:=⟨_,rfl⟩
 have HE:=hide herr
 rw[←herr] at e3
 rw[←herr]
 clear hc hb herr
 obtain⟨wx,hwx⟩:∃wx:World,wx=((w.alloc (.cells #[.int .i64 o.code,.int .i64 o.family,.string o.bits,.int .i64 o.len,.int .i64 o.hop] 27)).alloc (.cells #[.int .i64 err,.int .i64 0,.int .i64 0] 59)).alloc (.cells #[.int .i64 0,.int .i64 0,.int .i64 0] 59):=⟨_,rfl⟩
 have HW:=hide hwx
 have hbx:Below w.heap.size w wx:=by rw[hwx];exact ext_trans (ext_alloc _ _) (ext_trans (ext_alloc _ _) (ext_alloc _ _))
 have hg:wx.heap[w.heap.size+1]?=some (.cells #[.int .i64 err,.int .i64 0,.int .i64 0] 59 (0,0)):=by
  rw[hwx]
  exact block_ext (by have:=heap_alloc_new (w.alloc (.cells #[.int .i64 o.code,.int .i64 o.family,.string o.bits,.int .i64 o.len,.int .i64 o.hop] 27)) (.cells #[.int .i64 err,.int .i64 0,.int .i64 0] 59);rw[World.size_alloc] at this;exact this) (ext_alloc _ _)
 have hwt:wx.heap[w.heap.size+1+1]?=some (.cells #[.int .i64 0,.int .i64 0,.int .i64 0] 59 (0,0)):=by
  rw[hwx]
  have:=heap_alloc_new ((w.alloc (.cells #[.int .i64 o.code,.int .i64 o.family,.string o.bits,.int .i64 o.len,.int .i64 o.hop] 27)).alloc (.cells #[.int .i64 err,.int .i64 0,.int .i64 0] 59)) (.cells #[.int .i64 0,.int .i64 0,.int .i64 0] 59)
  rw[World.size_alloc,World.size_alloc] at this
  exact this
 have HBX:=hide hbx
 have HG:=hide hg
 have HT:=hide hwt
 clear hwx hbx hg hwt
 have HR:=hide (hr.ext HBX.out)
 clear hr
 go_enter Tryz.func20,Tryz.ntmps20
 go_wp2_with fail
 rw[←HW.out]
 refine(bad_any o wx).mono ?_
 rintro e w5 ⟨rfl,hb5⟩
 rw[←HE.out]
 have hg5:=block_ext HG.out hb5
 have ht5:=block_ext HT.out hb5
 have g0:=cell_at hg5 0
 have g1:=cell_at hg5 1
 have g2:=cell_at hg5 2
 have t0:=cell_at ht5 0
 have t1:=cell_at ht5 1
 have t2:=cell_at ht5 2
 have tf:=free_at ht5 0
 simp at g0 g1 g2 t0 t1 t2
 have HR5:=hide ((HR.out.ext hb5).other (b:=w.heap.size+1+1) (off:=0) (v:=.int .i64 err) ht5 (by decide) (by decide))
 have HF:=hide (show Fr [rb] w (w5.setCell ⟨w.heap.size+1+1,0,none⟩ (.int .i64 err)) from (Fr.of_below (ext_trans HBX.out hb5)).setCell (.inr (by omega)) _)
 clear hb5 hg5 ht5
 go_wp2
 go_ret
 exact⟨ret_bool (by simp),HR5.out,HF.out⟩
set_option maxHeartbeats 1000000 in
set_option maxRecDepth 10000 in
theorem do_delete_ok (rb:Nat) (d:RefD) (o:OpD) (err:Int) (w:World) (hr:RefAt w rb d) (hs:d.small) (hc:o.code=2) (hb:badOp o=0) (herr:err=if thereR (d.routes o.family) ⟨o.bits,o.len,0⟩ then 0 else 7) :
  Calls Tryz.prog 20 #[.pointer (some ⟨rb,0,none⟩),.agg #[.int .i64 o.code,.int .i64 o.family,.string o.bits,.int .i64 o.len,.int .i64 o.hop],.agg #[.int .i64 err,.int .i64 0,.int .i64 0]] w fun e w'=>e=.returned (.bool true)∧RefAt w' rb (d.put o.family (withoutR (d.routes o.family) ⟨o.bits,o.len,0⟩))∧Fr [rb] w w':=by
 have e1:(o.code==1)=false:=by simp;omega
 have e2:(o.code==2)=true:=by simp;omega
 have HL:=hide (routes_small hs o.family)
 have hrb:=hr.lt
 have HBAD:=hide hb
 have HERR0:=hide herr
 clear hc hb herr
 obtain⟨wx,hwx⟩:∃wx:World,wx=((w.alloc (.cells #[.int .i64 o.code,.int .i64 o.family,.string o.bits,.int .i64 o.len,.int .i64 o.hop] 27)).alloc (.cells #[.int .i64 err,.int .i64 0,.int .i64 0] 59)).alloc (.cells #[.int .i64 0,.int .i64 0,.int .i64 0] 59):=⟨_,rfl⟩
 have HW:=hide hwx
 have hbx:Below w.heap.size w wx:=by rw[hwx];exact ext_trans (ext_alloc _ _) (ext_trans (ext_alloc _ _) (ext_alloc _ _))
 have hg:wx.heap[w.heap.size+1]?=some (.cells #[.int .i64 err,.int .i64 0,.int .i64 0] 59 (0,0)):=by
  rw[hwx]
  exact block_ext (by have:=heap_alloc_new (w.alloc (.cells #[.int .i64 o.code,.int .i64 o.family,.string o.bits,.int .i64 o.len,.int .i64 o.hop] 27)) (.cells #[.int .i64 err,.int .i64 0,.int .i64 0] 59);rw[World.size_alloc] at this;exact this) (ext_alloc _ _)
 have hwt:wx.heap[w.heap.size+1+1]?=some (.cells #[.int .i64 0,.int .i64 0,.int .i64 0] 59 (0,0)):=by
  rw[hwx]
  have:=heap_alloc_new ((w.alloc (.cells #[.int .i64 o.code,.int .i64 o.family,.string o.bits,.int .i64 o.len,.int .i64 o.hop] 27)).alloc (.cells #[.int .i64 err,.int .i64 0,.int .i64 0] 59)) (.cells #[.int .i64 0,.int .i64 0,.int .i64 0] 59)
  rw[World.size_alloc,World.size_alloc] at this
  exact this
 have HBX:=hide hbx
 have HG:=hide hg
 have HT:=hide hwt
 clear hwx hbx hg hwt
 have hop:wx.heap[w.heap.size]?=some (.cells #[.int .i64 o.code,.int .i64 o.family,.string o.bits,.int .i64 o.len,.int .i64 o.hop] 27 (0,0)):=by
  rw[HW.out]
  exact block_ext (block_ext (heap_alloc_new w _) (ext_alloc _ _)) (ext_alloc _ _)
 have HOP:=hide hop
 have HR:=hide (hr.ext HBX.out)
 clear hr hop
 go_enter Tryz.func20,Tryz.ntmps20
 go_wp2_with fail
 rw[←HW.out]
 refine(bad_any o wx).mono ?_
 rintro e w4 ⟨rfl,hb4⟩
 rw[HBAD.out]
 have ht4:=block_ext HT.out hb4
 have t0:=cell_at ht4 0
 have t1:=cell_at ht4 1
 have t2:=cell_at ht4 2
 have tf:=free_at ht4 0
 simp at t0 t1 t2
 have hs4:w.heap.size+1+1<w4.heap.size:=lt_of_block ht4
 obtain⟨wy,hwy⟩:∃wy:World,wy=w4.setCell ⟨w.heap.size+1+1,0,none⟩ (.int .i64 0):=⟨_,rfl⟩
 have HY:=hide hwy
 have hty:wy.heap[w.heap.size+1+1]?=some (.cells #[.int .i64 0,.int .i64 0,.int .i64 0] 59 (0,0)):=by rw[hwy];exact heap_setCell_at _ ht4
 have hgy:wy.heap[w.heap.size+1]?=some (.cells #[.int .i64 err,.int .i64 0,.int .i64 0] 59 (0,0)):=by rw[hwy,Below.heap_setCell _ _ _ _ (by simp)];exact block_ext HG.out hb4
 have hoy:wy.heap[w.heap.size]?=some (.cells #[.int .i64 o.code,.int .i64 o.family,.string o.bits,.int .i64 o.len,.int .i64 o.hop] 27 (0,0)):=by rw[hwy,Below.heap_setCell _ _ _ _ (by simp;omega)];exact block_ext HOP.out hb4
 have hry:RefAt wy rb d:=by rw[hwy];exact(HR.out.ext hb4).other ht4 (by decide) (by decide)
 have hfy:Fr [rb] w wy:=by rw[hwy];exact(Fr.of_below (ext_trans HBX.out hb4)).setCell (.inr (by omega)) _
 obtain⟨ao,cap,hrow,hroutes⟩:=routes_fixed o.family rb d wy hry
 obtain⟨rs,hrs⟩:∃rs,rs=d.routes o.family:=⟨_,rfl⟩
 have herr:=HERR0.out
 rw[←hrs] at HL hrow hroutes herr
 have HRS:=hide hrs
 have HRow:=hide hrow
 have HRoutes:=hide hroutes
 have HERR:=hide herr
 have HRY:=hide hry
 have HFY:=hide hfy
 have HTY:=hide hty
 have HGY:=hide hgy
 have s1:=stays (show wy.cell? ⟨w.heap.size,1,none⟩=some (.int .i64 o.family) from cell_at hoy 1)
 have s2:=stays (show wy.cell? ⟨w.heap.size,2,none⟩=some (.string o.bits) from cell_at hoy 2)
 have s3:=stays (show wy.cell? ⟨w.heap.size,3,none⟩=some (.int .i64 o.len) from cell_at hoy 3)
 clear hwy hty hgy hoy hry hfy hrow hroutes herr hrs hb4 ht4
 go_wp2_with fail
 rw[←HY.out]
 go_region_held3 (fun w'=>Below wy.heap.size wy w') (first | (assumption) | (exact ext_drew wy)) (first | (go_at_call 24;refine(HRoutes.out _ (by assumption)).mono ?_;rintro e w5 ⟨rfl,rfl⟩) | (go_at_call 30;refine(without_x rs ⟨o.bits,o.len,0⟩ _ ao cap HL.out (owns_ext HRow.out (by assumption))).mono ?_;rintro e w5 ⟨ao5,cp5,rfl,hown5,hb5⟩;have hcur:=ext_trans (by assumption) hb5))
 have k1:=s1 _ hcur
 have hgz:=block_ext HGY.out hcur
 have htz:=block_ext HTY.out hcur
 have HRZ:=hide (HRY.out.ext hcur)
 have HO5:=hide (owns_base hown5 (Nat.zero_le _))
 have HF5:=hide (HFY.out.trans (Fr.of_below hcur))
 have HGZ:=hide hgz
 have HTZ:=hide htz
 clear s1 s2 s3 hown5 hb5 hcur t0 t1 t2 tf hgz htz
 go_wp2_with fail
 refine(set_any o.family rb d _ ao5 cp5 w5 HRZ.out HO5.out).mono ?_
 rintro e w6 ⟨rfl,hr6,off,v,hw6⟩
 have hg6:w6.heap[w.heap.size+1]?=some (.cells #[.int .i64 err,.int .i64 0,.int .i64 0] 59 (0,0)):=by rw[hw6,Below.heap_setCell _ _ _ _ (by simp;omega)];exact HGZ.out
 have ht6:w6.heap[w.heap.size+1+1]?=some (.cells #[.int .i64 0,.int .i64 0,.int .i64 0] 59 (0,0)):=by rw[hw6,Below.heap_setCell _ _ _ _ (by simp;omega)];exact HTZ.out
 have hf6:Fr [rb] w w6:=by rw[hw6];exact HF5.out.setCell (.inl (by simp)) v
 have g0:=cell_at hg6 0
 have g1:=cell_at hg6 1
 have g2:=cell_at hg6 2
 have t0:=cell_at ht6 0
 have t1:=cell_at ht6 1
 have t2:=cell_at ht6 2
 have tf:=free_at ht6 0
 simp at g0 g1 g2 t0 t1 t2
 have HR6:=hide hr6
 have HR7:=hide (hr6.other (b:=w.heap.size+1+1) (off:=0) (v:=.int .i64 7) ht6 (by decide) (by decide))
 have HF6:=hide hf6
 have HF7:=hide (hf6.setCell (b:=w.heap.size+1+1) (off:=0) (.inr (by omega)) (.int .i64 7))
 clear hr6 hw6 hg6 ht6 hf6
 by_cases hth:thereR rs ⟨o.bits,o.len,0⟩=true
 ·have he0:err=0:=by rw[HERR.out,if_pos hth]
  subst he0
  go_wp2
  go_ret
  exact⟨rfl,by rw[←HRS.out];exact HR6.out,HF6.out⟩
 ·have he7:err=7:=by rw[HERR.out,if_neg hth]
  have hth':thereR rs ⟨o.bits,o.len,0⟩=false:=by simpa using hth
  subst he7
  go_wp2
  go_ret
  exact⟨rfl,by rw[←HRS.out];exact HR7.out,HF7.out⟩
end Go.Proofs.YtnapboelfimaaaaGreatDoor
