/- RefB, RefC, RefD, TieA: parts of the proof, one behind the other. -/
import Derived.Test.YtnapboelfimaaaaGreatDoorB29
import Derived.Laws.AppendOwnNone
import Derived.Deep.RegionHeld3
namespace Go.Proofs.YtnapboelfimaaaaGreatDoor
open Go.RowKit Go.Deep
set_option maxHeartbeats 400000 in
set_option maxRecDepth 10000 in
theorem bad_any (o:OpD) (w:World) :
  Calls Tryz.prog 29 #[.agg #[.int .i64 o.code,.int .i64 o.family,.string o.bits,.int .i64 o.len,.int .i64 o.hop]] w fun e w'=>e=.returned (.int .i64 (badOp o))∧Below w.heap.size w w':=by
 have hsz:(famSize o.family:Int)≤16:=by rcases famSize_cases o.family with h | h | h <;> omega
 by_cases h0:famSize o.family=0
 ·have HV:=hide (show badOp o=3 by simp[badOp,h0])
  have e0:((famSize o.family:Int)==0)=true:=by simp[h0]
  clear h0
  have HB:=hide (ext_alloc w (.cells #[.int .i64 o.code,.int .i64 o.family,.string o.bits,.int .i64 o.len,.int .i64 o.hop] 27))
  go_enter Tryz.func29,Tryz.ntmps29
  go_wp2_with (go_at_call 43;refine(size_any _ _).mono ?_;rintro e w' ⟨rfl,rfl⟩)
  go_ret
  exact⟨ret_int HV.out.symm,HB.out⟩
 ·by_cases h1:o.len<0∨8*famSize o.family<o.len
  ·have HV:=hide (show badOp o=4 by simp[badOp,h0,h1])
   have e0:((famSize o.family:Int)==0)=false:=by simp[h0]
   clear h0
   have HB:=hide (ext_alloc w (.cells #[.int .i64 o.code,.int .i64 o.family,.string o.bits,.int .i64 o.len,.int .i64 o.hop] 27))
   by_cases hl:o.len<0
   ·clear h1
    go_enter Tryz.func29,Tryz.ntmps29
    go_wp2_with (go_at_call 43;refine(size_any _ _).mono ?_;rintro e w' ⟨rfl,rfl⟩)
    go_ret
    exact⟨ret_int HV.out.symm,HB.out⟩
   ·have hl2:8*famSize o.family<o.len:=by omega
    clear h1
    go_enter Tryz.func29,Tryz.ntmps29
    go_wp2_with (go_at_call 43;refine(size_any _ _).mono ?_;rintro e w' ⟨rfl,rfl⟩)
    go_ret
    exact⟨ret_int HV.out.symm,HB.out⟩
  ·by_cases h2:o.bits.size=famSize o.family
   ·exact bad_loop o w (by omega) (by omega) h2 (by omega)
   ·have HV:=hide (show badOp o=5 by simp[badOp,h0,h1,h2])
    have e0:((famSize o.family:Int)==0)=false:=by simp[h0]
    have e1:((o.bits.size:Int) != (famSize o.family:Int))=true:=by simp;omega
    have hl:0≤o.len:=by omega
    have hl2:o.len≤8*famSize o.family:=by omega
    clear h0 h1 h2
    have HB:=hide (ext_alloc w (.cells #[.int .i64 o.code,.int .i64 o.family,.string o.bits,.int .i64 o.len,.int .i64 o.hop] 27))
    go_enter Tryz.func29,Tryz.ntmps29
    go_wp2_with (go_at_call 43;refine(size_any _ _).mono ?_;rintro e w' ⟨rfl,rfl⟩)
    go_ret
    exact⟨ret_int HV.out.symm,HB.out⟩
structure RefD where
 words:Int
 fours:List RouteD
 sixes:List RouteD
def RefAt (w:World) (rb:Nat) (d:RefD):Prop :=
 ∃(a4 a6:Option Addr) (c4 c6:Nat),w.heap[rb]?=some (.cells #[.int .i64 d.words,.slice a4 d.fours.length c4,.slice a6 d.sixes.length c6] 48 (0,0)) ∧
  w.ownsRow 0 66 3 (.slice a4 d.fours.length c4) d.fours.length (flatR d.fours)∧w.ownsRow 0 66 3 (.slice a6 d.sixes.length c6) d.sixes.length (flatR d.sixes)
def RefD.routes (d:RefD) (f:Int):List RouteD:=if f=4 then d.fours else if f=6 then d.sixes else []
set_option maxHeartbeats 400000 in
theorem routes_any (f:Int) (rb:Nat) (d:RefD) (w:World) (hr:RefAt w rb d) :
  Calls Tryz.prog 24 #[.pointer (some ⟨rb,0,none⟩),.int .i64 f] w fun e w'=>w'=w∧∃ao cap,e=.returned (.slice ao (d.routes f).length cap)∧w.ownsRow 0 66 3 (.slice ao (d.routes f).length cap) (d.routes f).length (flatR (d.routes f)):=by
 obtain⟨a4,a6,c4,c6,hb,h4,h6⟩:=hr
 have k1:=cell_at hb 1
 have k2:=cell_at hb 2
 simp at k1 k2
 have H4:=hide h4
 have H6:=hide h6
 clear hb h4 h6
 by_cases f4:f=4
 ·subst f4
  go_enter Tryz.func24,Tryz.ntmps24
  go_wp2
  go_ret
  exact⟨rfl,a4,c4,rfl,H4.out⟩
 ·by_cases f6:f=6
  ·subst f6
   go_enter Tryz.func24,Tryz.ntmps24
   go_wp2
   go_ret
   exact⟨rfl,a6,c6,rfl,H6.out⟩
  ·have e4:(f==4)=false:=by simpa using f4
   have e6:(f==6)=false:=by simpa using f6
   have HV:=hide (show d.routes f=[] by simp[RefD.routes,f4,f6])
   clear f4 f6
   go_enter Tryz.func24,Tryz.ntmps24
   go_wp2
   go_ret
   rw[HV.out]
   exact⟨rfl,none,0,rfl,World.ownsRow_nil _ _ _ _⟩
end Go.Proofs.YtnapboelfimaaaaGreatDoor
namespace Go.Proofs.YtnapboelfimaaaaGreatDoor
open Go.RowKit Go.Deep
def sameP (a r:RouteD):Bool:=a.bits.toList==r.bits.toList&&a.len==r.len
def withoutR (l:List RouteD) (r:RouteD):List RouteD:=l.filter fun a=>!sameP a r
def thereR (l:List RouteD) (r:RouteD):Bool:=l.any fun a=>sameP a r
theorem withoutR_succ {l:List RouteD} {r:RouteD} {k:Nat} (hk:k<l.length) :
  withoutR (l.take (k+1)) r=(if sameP (l.getD k RouteD.zero) r then withoutR (l.take k) r else withoutR (l.take k) r++[l.getD k RouteD.zero])∧thereR (l.take (k+1)) r=(thereR (l.take k) r || sameP (l.getD k RouteD.zero) r):=by
 rw[List.getD_eq_getElem?_getD,List.getElem?_eq_getElem hk]
 unfold withoutR thereR
 rw[List.take_succ_eq_append_getElem hk,List.filter_append,List.any_append]
 simp only[Option.getD_some]
 cases h:sameP l[k] r <;> simp[h]
theorem withoutR_le (l:List RouteD) (r:RouteD) (k:Nat):(withoutR (l.take k) r).length≤k:=Nat.le_trans (List.length_filter_le _ _) (List.length_take_le _ _)
theorem without_step {wi wx w3:World} {B:Nat} {ao:Option Addr} {cp:Nat} {a b:List RouteD} {o:RouteD} {v':Value} {ob:Obj} (K:b=a++[o]) (hown:wx.ownsRow B 66 3 (.slice ao a.length cp) a.length (flatR a)) (hbr:Below B wi wx) (hz:B≤wx.heap.size)
  (hown':w3.ownsRow B 66 3 v' (a.length+1) (flatR a++o.cells)) (hgrow:(wx.alloc ob).grownBy w3 (Value.slice ao a.length cp).ownBlock) :
  ∃ao' cp',v'=.slice ao' b.length cp'∧w3.ownsRow B 66 3 (.slice ao' b.length cp') b.length (flatR b)∧Below B wi w3:=by
 subst K
 rw[flatR_snoc,List.length_append,List.length_singleton]
 obtain⟨ao',cp',hv⟩:=owns_shape hown'
 rw[hv] at hown'
 exact⟨ao',cp',hv,hown',(hbr.alloc hz ob).grown hgrow (by simp;omega) (fun k hk=>(hown.lt k hk).1)⟩
set_option maxHeartbeats 1000000 in
set_option maxRecDepth 10000 in
theorem without_x (l:List RouteD) (r:RouteD) (w:World) (ao:Option Addr) (cap:Nat) (hl:l.length≤4000000) (hown:w.ownsRow 0 66 3 (.slice ao l.length cap) l.length (flatR l)) :
  Calls Tryz.prog 30 #[.slice ao l.length cap,.agg #[.string r.bits,.int .i64 r.len,.int .i64 r.hop]] w fun e w' =>
   ∃ao' cap',e=.returned (.tuple #[.slice ao' (withoutR l r).length cap',.bool (thereR l r)])∧w'.ownsRow w.heap.size 66 3 (.slice ao' (withoutR l r).length cap') (withoutR l r).length (flatR (withoutR l r))∧Below w.heap.size w w':=by
 obtain⟨i0,hi,hz0,hz1,hz2⟩:=info_parts infoRoute
 obtain⟨wi,hwi⟩:∃wi:World,wi=w.alloc (.cells #[.string r.bits,.int .i64 r.len,.int .i64 r.hop] 66):=⟨_,rfl⟩
 have HW:=hide hwi
 have hsz:wi.heap.size=w.heap.size+1:=by rw[hwi];simp
 have hbi:Below w.heap.size w wi:=by rw[hwi];exact ext_alloc _ _
 have hr:wi.heap[w.heap.size]?=some (.cells #[.string r.bits,.int .i64 r.len,.int .i64 r.hop] 66 (0,0)):=by rw[hwi];exact heap_alloc_new _ _
 clear hwi
 have HO:=hide (owns_ext hown hbi)
 have HBI:=hide hbi
 have HR:=hide hr
 clear hown hbi hr
 go_enter Tryz.func30,Tryz.ntmps30
 go_wp2
 rw[←HW.out]
 go_loopw [6,7,8] (fun v t i wr=>∃(k cp:Nat) (ao':Option Addr),k≤l.length∧i=.int .i64 k∧t=.bool (thereR (l.take k) r)∧v=.slice ao' (withoutR (l.take k) r).length cp∧wr.ownsRow (w.heap.size+1) 66 3 v (withoutR (l.take k) r).length (flatR (withoutR (l.take k) r))∧Below (w.heap.size+1) wi wr) (fun _ _ i _=>l.length-(intOf i).toNat)
 case atStart=>exact⟨0,0,none,Nat.zero_le _,rfl,rfl,rfl,World.ownsRow_nil _ _ _ _,Below.refl _ _⟩
 case round =>
  obtain⟨k,cp,ao',hk,rfl,rfl,rfl,hown,hbr⟩:=hrel
  have hle:=withoutR_le l r k
  have hbr':Below wi.heap.size wi wr:=by rw[hsz];exact hbr
  have hrr:=block_ext HR.out hbr'
  have d0:=cell_at hrr 0
  have d1:=cell_at hrr 1
  simp at d0 d1
  have HOW:=hide hown
  have HBR:=hide hbr
  have hz3:w.heap.size+1≤wr.heap.size:=by have:=hbr.size;omega
  by_cases hkl:k<l.length
  ·obtain⟨g,hao,hg,c0,c1,c2⟩:=route_cells (owns_ext HO.out hbr') hkl
   obtain⟨s1,s2⟩:=withoutR_succ (r:=r) hkl
   generalize l.getD k RouteD.zero=o at c0 c1 c2 s1 s2
   subst hao
   have hrl:=route_news wr o 66
   clear hown hbr hbr' hrr
   by_cases e1:(o.bits.toList==r.bits.toList)=true
   ·by_cases e2:(o.len==r.len)=true
    ·have hs:sameP o r=true:=by simp only[sameP,e1,e2];rfl
     rw[hs] at s1 s2
     simp only[if_true] at s1
     have S1:=hide s1
     have S2:=hide s2
     clear s1 s2 hs hrl
     go_wp2
     go_quiet (fail)
     go_wp2
     go_roundw
     case rel=>exact⟨k+1,cp,ao',by omega,by go_num,by rw[S2.out];simp,by rw[S1.out],by rw[S1.out];exact owns_ext HOW.out (below_drewN (Below.refl _ _) _),below_drewN HBR.out _⟩
     case measure=>simp[intOf];omega
    ·have e2':(o.len==r.len)=false:=by simpa using e2
     have hs:sameP o r=false:=by simp only[sameP,e1,e2'];rfl
     rw[hs] at s1 s2
     simp only[Bool.false_eq_true,if_false,Bool.or_false] at s1 s2
     have S1:=hide s1
     have S2:=hide s2
     clear s1 s2 hs
     go_wp2
     go_quiet (fail)
     go_wp2_with (at_builtin;refine wpList_append_own _ rfl _ _ 46 rfl (w.heap.size+1) 66 i0 (.agg #[.string .empty,.int .i64 0,.int .i64 0]) 3 32 Tryz.underlying46 hi hz0 hz1 hz2 rfl (by decide) _ (withoutR (l.take k) r).length (flatR (withoutR (l.take k) r)) rfl ?_ ⟨wr.heap.size,0,none⟩ 1 1 o.cells rfl rfl ?_ ?_ ?_ ?_ ?_ ?_)
     ·exact(owns_ext HOW.out (below_drewN (Below.refl _ _) nq)).alloc _
     ·exact route_news (wr.drewN nq) o _
     ·exact route_one o
     ·unfold maxLen;omega
     ·omega
     ·first | omega | (simp;omega)
     ·intro v' w3 hown' hgrow _
      obtain⟨ao2,cp2,hv,R1,R2⟩:=without_step S1.out (owns_ext HOW.out (below_drewN (Below.refl _ _) nq)) (below_drewN HBR.out nq) hz3 hown' hgrow
      rw[hv]
      have HR1:=hide R1
      have HR2:=hide R2
      clear hown' hgrow R1 R2
      go_wp2
      go_roundw
      case rel=>exact⟨k+1,cp2,ao2,by omega,by go_num,by rw[S2.out],rfl,HR1.out,HR2.out⟩
      case measure=>simp[intOf];omega
   ·have e1':(o.bits.toList==r.bits.toList)=false:=by simpa using e1
    have hs:sameP o r=false:=by simp only[sameP,e1'];rfl
    rw[hs] at s1 s2
    simp only[Bool.false_eq_true,if_false,Bool.or_false] at s1 s2
    have S1:=hide s1
    have S2:=hide s2
    clear s1 s2 hs
    go_wp2
    go_quiet (fail)
    go_wp2_with (at_builtin;refine wpList_append_own _ rfl _ _ 46 rfl (w.heap.size+1) 66 i0 (.agg #[.string .empty,.int .i64 0,.int .i64 0]) 3 32 Tryz.underlying46 hi hz0 hz1 hz2 rfl (by decide) _ (withoutR (l.take k) r).length (flatR (withoutR (l.take k) r)) rfl ?_ ⟨wr.heap.size,0,none⟩ 1 1 o.cells rfl rfl ?_ ?_ ?_ ?_ ?_ ?_)
    ·exact(owns_ext HOW.out (below_drewN (Below.refl _ _) nq)).alloc _
    ·exact route_news (wr.drewN nq) o _
    ·exact route_one o
    ·unfold maxLen;omega
    ·omega
    ·first | omega | (simp;omega)
    ·intro v' w3 hown' hgrow _
     obtain⟨ao2,cp2,hv,R1,R2⟩:=without_step S1.out (owns_ext HOW.out (below_drewN (Below.refl _ _) nq)) (below_drewN HBR.out nq) hz3 hown' hgrow
     rw[hv]
     have HR1:=hide R1
     have HR2:=hide R2
     clear hown' hgrow R1 R2
     go_wp2
     go_roundw
     case rel=>exact⟨k+1,cp2,ao2,by omega,by go_num,by rw[S2.out],rfl,HR1.out,HR2.out⟩
     case measure=>simp[intOf];omega
  ·have HT:=hide (show l.take k=l from List.take_of_length_le (by omega))
   go_wp2
   go_ret2
   rw[HT.out] at HOW ⊢
   exact⟨ao',cp,rfl,owns_base HOW.out (by omega),HBI.out.trans (HBR.out.mono (by omega))⟩
end Go.Proofs.YtnapboelfimaaaaGreatDoor
namespace Go.Proofs.YtnapboelfimaaaaGreatDoor
open Go.RowKit Go.Deep
def putR (rest:List RouteD) (r:RouteD):List RouteD:=rest.takeWhile (fun a=>aheadR a r)++r :: rest.dropWhile (fun a=>aheadR a r)
def withR (l:List RouteD) (r:RouteD):List RouteD:=putR (withoutR l r) r
theorem putR_at {rest:List RouteD} {r:RouteD} {k:Nat} (hk:k≤rest.length) (h1:∀i,i<k→aheadR (rest.getD i RouteD.zero) r=true) (h2:k<rest.length→aheadR (rest.getD k RouteD.zero) r=false):putR rest r=rest.take k++[r]++rest.drop k:=by
 unfold putR
 induction rest generalizing k with
 | nil=>simp
 | cons a rest ih =>
  cases k with
  | zero =>
   have:=h2 (by simp)
   simp only[List.getD_cons_zero] at this
   simp[this]
  | succ k =>
   have h0:=h1 0 (by omega)
   simp only[List.getD_cons_zero] at h0
   have:=ih (k:=k) (by simpa using hk) (fun i hi=>by simpa using h1 (i+1) (by omega)) (fun h=>by simpa using h2 (by simpa using h))
   simp only[List.takeWhile_cons,List.dropWhile_cons,h0,if_true,List.take_succ_cons,List.drop_succ_cons,List.cons_append]
   rw[this]
theorem take_snocR {l:List RouteD} {k:Nat} (h:k<l.length):l.take (k+1)=l.take k++[l.getD k RouteD.zero]:=by
 rw[List.getD_eq_getElem?_getD,List.getElem?_eq_getElem h,List.take_succ_eq_append_getElem h]
 rfl
theorem rest_news {w:World} {base g cap k:Nat} {l:List RouteD} (h:w.ownsRow base 66 3 (.slice (some ⟨g,0,none⟩) l.length cap) l.length (flatR l)) (hk:k≤l.length):∀j u,(flatR (l.drop k))[j]?=some u→w.cell? ((⟨g,k*3,none⟩:Addr).add j)=some u:=by
 intro j u hj
 have hlt:j<(flatR (l.drop k)).length:=by
  rcases Nat.lt_or_ge j (flatR (l.drop k)).length with h | h
  ·exact h
  ·rw[List.getElem?_eq_none h] at hj;cases hj
 rw[flatR_len,List.length_drop] at hlt
 have e:(⟨g,k*3,none⟩:Addr).add j=⟨g,k*3+j,none⟩:=by unfold Addr.add;split <;> simp_all
 rw[e,h.cellAt (k*3+j) (by omega)]
 have hs:flatR l=flatR (l.take k)++flatR (l.drop k):=by rw[←flatR_append,List.take_append_drop]
 rw[hs,List.getElem?_append_right (by rw[flatR_len,List.length_take];omega),flatR_len,List.length_take,Nat.min_eq_left hk,Nat.add_sub_cancel_left]
 exact hj
theorem flatR_one (l:List RouteD):∀u∈flatR l,u.oneCell'=true:=by
 intro u hu
 obtain⟨o,_,ho⟩:=List.mem_flatMap.1 hu
 exact route_one o u ho
theorem owns_cap {w:World} {base:Nat} {e:TypeId} {size:Nat} {ao:Option Addr} {m cap:Nat} {n:Nat} {xs:List Value} (h:w.ownsRow base e size (.slice ao m cap) n xs):n≤cap:=by
 rcases h.2 with ⟨e,rfl⟩ | ⟨g,cp,cur,e,_,_,hle,_⟩
 ·omega
 ·cases e;exact hle
theorem held_ext {wr wa wb:World} {a1 a2 a3 a4 a5 a6:Addr} {v1 v2 v3 v4 v5 v6:Value} (h:wa.cell? a1=some v1∧wa.cell? a2=some v2∧wa.cell? a3=some v3∧wa.cell? a4=some v4∧wa.cell? a5=some v5∧wa.cell? a6=some v6∧Below wr.heap.size wr wa) (hb:Below wa.heap.size wa wb) :
  wb.cell? a1=some v1∧wb.cell? a2=some v2∧wb.cell? a3=some v3∧wb.cell? a4=some v4∧wb.cell? a5=some v5∧wb.cell? a6=some v6∧Below wr.heap.size wr wb :=
 ⟨cell_later hb h.1,cell_later hb h.2.1,cell_later hb h.2.2.1,cell_later hb h.2.2.2.1,cell_later hb h.2.2.2.2.1,cell_later hb h.2.2.2.2.2.1,ext_trans h.2.2.2.2.2.2 hb⟩
set_option maxHeartbeats 1000000 in
set_option maxRecDepth 10000 in
theorem with_x (l:List RouteD) (r:RouteD) (w:World) (ao:Option Addr) (cap:Nat) (hl:l.length≤4000000) (hown:w.ownsRow 0 66 3 (.slice ao l.length cap) l.length (flatR l)) :
  Calls Tryz.prog 42 #[.slice ao l.length cap,.agg #[.string r.bits,.int .i64 r.len,.int .i64 r.hop]] w fun e w' =>
   ∃ao' cap',e=.returned (.slice ao' (withR l r).length cap')∧w'.ownsRow w.heap.size 66 3 (.slice ao' (withR l r).length cap') (withR l r).length (flatR (withR l r))∧Below w.heap.size w w':=by
 obtain⟨i0,hi,hz0,hz1,hz2⟩:=info_parts infoRoute
 have HO:=hide (hown.alloc (.cells #[.string r.bits,.int .i64 r.len,.int .i64 r.hop] 66))
 clear hown
 go_enter Tryz.func42,Tryz.ntmps42
 go_wp2_with fail
 refine(without_x l r _ ao cap hl HO.out).mono ?_
 rintro e w1 ⟨ra,rc,rfl,hown1,hb1⟩
 have hrest:(withoutR l r).length≤l.length:=List.length_filter_le _ _
 have HD:=hide (show withR l r=putR (withoutR l r) r from rfl)
 have hr1:w1.heap[w.heap.size]?=some (.cells #[.string r.bits,.int .i64 r.len,.int .i64 r.hop] 66 (0,0)):=block_ext (heap_alloc_new w _) hb1
 have HR1:=hide hr1
 have hs1:w.heap.size+1≤w1.heap.size:=by have:=hb1.size;simpa using this
 have HB1:=hide (show Below w.heap.size w w1 from ext_trans (ext_alloc _ _) hb1)
 rw[World.size_alloc] at hown1
 generalize withoutR l r=rest at hown1 hrest HD
 have HO1:=hide hown1
 clear hown1 hb1 hr1 HO
 go_wp2
 go_loopw [7,8] (fun v i wr=>∃(k cp:Nat) (ao':Option Addr),k≤rest.length∧i=.int .i64 k∧(∀i,i<k→aheadR (rest.getD i RouteD.zero) r=true)∧v=.slice ao' k cp∧wr.ownsRow w1.heap.size 66 3 v k (flatR (rest.take k))∧Below w1.heap.size w1 wr) (fun _ i _=>rest.length-(intOf i).toNat)
 case atStart=>exact⟨0,0,none,Nat.zero_le _,rfl,fun i hi=>by omega,rfl,World.ownsRow_nil _ _ _ _,Below.refl _ _⟩
 case round =>
  obtain⟨k,cp,ao',hk,rfl,hall,rfl,hown,hbr⟩:=hrel
  have hrr:=block_ext HR1.out hbr
  have d0:=cell_at hrr 0
  have d1:=cell_at hrr 1
  have d2:=cell_at hrr 2
  simp at d0 d1 d2
  have HOW:=hide hown
  have HBR:=hide hbr
  have HA:=hide hall
  have hz3:w1.heap.size≤wr.heap.size:=hbr.size
  clear hall
  by_cases hkl:k<rest.length
  ·obtain⟨g,hao,hg,c0,c1,c2⟩:=route_cells (owns_ext HO1.out hbr) hkl
   clear hown hbr hrr
   have hk2:(k:Int)<rest.length:=by omega
   obtain⟨o,ho⟩:∃o,o=rest.getD k RouteD.zero:=⟨_,rfl⟩
   rw[←ho] at c0 c1 c2
   have HQ:=hide ho
   clear ho
   subst hao
   by_cases hah:aheadR o r=true
   ·go_wp2
    go_region_held3 (fun w'=>w'.cell? ⟨g,k*3,none⟩=some (.string o.bits)∧w'.cell? ⟨g,k*3+1,none⟩=some (.int .i64 o.len)∧w'.cell? ⟨g,k*3+2,none⟩=some (.int .i64 o.hop)∧w'.cell? ⟨w.heap.size,0,none⟩=some (.string r.bits)∧w'.cell? ⟨w.heap.size,1,none⟩=some (.int .i64 r.len)∧w'.cell? ⟨w.heap.size,2,none⟩=some (.int .i64 r.hop)∧Below wr.heap.size wr w') (first | (exact⟨c0,c1,c2,d0,d1,d2,Below.drew (Below.refl _ _)⟩) | (exact held_ext (by assumption) (by assumption))) (first | (go_at_call 53;refine(ahead_x o r _).mono ?_;rintro e w5 ⟨rfl,hb5⟩))
    rename_i hS
    obtain⟨p0,p1,p2,p3,p4,p5,p6⟩:=hS
    clear hb5 c0 c1 c2 d0 d1 d2
    have HP6:=hide p6
    have hz5:wr.heap.size≤w5.heap.size:=p6.size
    clear p6 p3 p4 p5
    have HK:=hide (by have:=take_snocR hkl;rw[←HQ.out] at this;exact this)
    go_wp2_with (at_builtin;refine wpList_append_own _ rfl _ _ 46 rfl w1.heap.size 66 i0 (.agg #[.string .empty,.int .i64 0,.int .i64 0]) 3 32 Tryz.underlying46 hi hz0 hz1 hz2 rfl (by decide) _ k (flatR (rest.take k)) rfl ?_ ⟨w5.heap.size,0,none⟩ 1 1 o.cells rfl rfl ?_ ?_ ?_ ?_ ?_ ?_)
    ·exact(owns_ext HOW.out HP6.out).alloc _
    ·exact route_news w5 o _
    ·exact route_one o
    ·unfold maxLen;omega
    ·omega
    ·first | omega | (simp;omega)
    ·intro v' w3 hown' hgrow _
     obtain⟨ao2,cp2,hv⟩:=owns_shape hown'
     have HB3:=hide (show Below w1.heap.size w1 w3 from ((HBR.out.trans (HP6.out.mono hz3)).alloc (by omega) _).grown hgrow (by simp;omega) (fun k hk=>(HOW.out.lt k hk).1))
     rw[hv] at hown' ⊢
     rw[←flatR_snoc,←HK.out] at hown'
     have HO3:=hide hown'
     clear hown' hgrow
     go_wp2
     go_roundw
     case rel =>
      refine⟨k+1,cp2,ao2,by omega,by go_num,?_,rfl,HO3.out,HB3.out⟩
      intro i hi
      by_cases e:i=k
      ·rw[e,←HQ.out];exact hah
      ·exact HA.out i (by omega)
     case measure=>simp[intOf];omega
   ·have hah':aheadR o r=false:=by simpa using hah
    go_wp2
    go_region_held3 (fun w'=>w'.cell? ⟨g,k*3,none⟩=some (.string o.bits)∧w'.cell? ⟨g,k*3+1,none⟩=some (.int .i64 o.len)∧w'.cell? ⟨g,k*3+2,none⟩=some (.int .i64 o.hop)∧w'.cell? ⟨w.heap.size,0,none⟩=some (.string r.bits)∧w'.cell? ⟨w.heap.size,1,none⟩=some (.int .i64 r.len)∧w'.cell? ⟨w.heap.size,2,none⟩=some (.int .i64 r.hop)∧Below wr.heap.size wr w') (first | (exact⟨c0,c1,c2,d0,d1,d2,Below.drew (Below.refl _ _)⟩) | (exact held_ext (by assumption) (by assumption))) (first | (go_at_call 53;refine(ahead_x o r _).mono ?_;rintro e w5 ⟨rfl,hb5⟩))
    rename_i hS
    obtain⟨p0,p1,p2,p3,p4,p5,p6⟩:=hS
    clear hb5 c0 c1 c2 d0 d1 d2 p0 p1 p2
    have HP6:=hide p6
    have hz5:wr.heap.size≤w5.heap.size:=p6.size
    clear p6
    have HK:=hide (show putR rest r=rest.take k++[r]++rest.drop k from putR_at hk HA.out (fun _=>by rw[←HQ.out];exact hah'))
    go_wp2_with (at_builtin;refine wpList_append_own _ rfl (.tmp 36) (.tmp 38) 46 rfl w1.heap.size 66 i0 (.agg #[.string .empty,.int .i64 0,.int .i64 0]) 3 32 Tryz.underlying46 hi hz0 hz1 hz2 rfl (by decide) _ k (flatR (rest.take k)) rfl ?_ ⟨w5.heap.size,0,none⟩ 1 1 r.cells rfl rfl ?_ ?_ ?_ ?_ ?_ ?_)
    ·exact(owns_ext HOW.out HP6.out).alloc _
    ·exact route_news w5 r _
    ·exact route_one r
    ·unfold maxLen;omega
    ·omega
    ·first | omega | (simp;omega)
    ·intro v' w3 hown' hgrow _
     obtain⟨ao2,cp2,hv⟩:=owns_shape hown'
     have HB3:=hide (show Below w1.heap.size w1 w3 from ((HBR.out.trans (HP6.out.mono hz3)).alloc (by omega) _).grown hgrow (by simp;omega) (fun k hk=>(HOW.out.lt k hk).1))
     rw[hv] at hown' ⊢
     have HO3:=hide hown'
     have hz6:w1.heap.size≤w3.heap.size:=by have:=hgrow.size;simp at this;omega
     clear hown' hgrow
     have hrc:=owns_cap HO1.out
     have hkc:k<rc:=by omega
     go_wp2_with (at_builtin;refine wpList_append_own _ rfl (.tmp 40) (.tmp 43) 46 rfl w1.heap.size 66 i0 (.agg #[.string .empty,.int .i64 0,.int .i64 0]) 3 32 Tryz.underlying46 hi hz0 hz1 hz2 rfl (by decide) _ (k+1) (flatR (rest.take k)++r.cells) rfl HO3.out ⟨g,k*3,none⟩ (rest.length-k) (rc-k) (flatR (rest.drop k)) rfl ?_ ?_ ?_ ?_ ?_ ?_ ?_)
     ·rw[flatR_len,List.length_drop]
     ·exact rest_news (owns_ext HO1.out HB3.out) hk
     ·exact flatR_one _
     ·unfold maxLen;omega
     ·omega
     ·omega
     ·intro v4 w4 hown4 hgrow4 _
      obtain⟨ao4,cp4,hv4⟩:=owns_shape hown4
      have HB4:=hide (HB3.out.grown hgrow4 hz6 (fun k hk=>(HO3.out.lt k hk).1))
      rw[hv4] at hown4 ⊢
      have HL:=hide (show (putR rest r).length=k+1+(rest.length-k) by rw[HK.out];simp;omega)
      have hfl:flatR (rest.take k)++(r.cells++flatR (rest.drop k))=flatR (putR rest r):=by rw[HK.out,flatR_append,flatR_snoc,List.append_assoc]
      rw[hfl,←HL.out] at hown4
      have HO4:=hide hown4
      clear hown4 hgrow4 hfl
      rw[←HL.out]
      go_wp2
      go_ret
      rw[HD.out]
      exact⟨ao4,cp4,rfl,owns_base HO4.out (by omega),HB1.out.trans (HB4.out.mono (by omega))⟩
  ·have hkk:k=rest.length:=by omega
   have hg0:decide ((k:Int)<(rest.length:Int))=false:=by simp;omega
   have HK:=hide (show putR rest r=rest.take k++[r]++rest.drop k from putR_at hk HA.out (fun h=>by omega))
   have HKK:=hide hkk
   clear hown hbr hrr hkk
   go_wp2
   go_quiet (fail)
   go_wp2_with (at_builtin;refine wpList_append_own _ rfl (.tmp 36) (.tmp 38) 46 rfl w1.heap.size 66 i0 (.agg #[.string .empty,.int .i64 0,.int .i64 0]) 3 32 Tryz.underlying46 hi hz0 hz1 hz2 rfl (by decide) _ k (flatR (rest.take k)) rfl ?_ ⟨wr.heap.size,0,none⟩ 1 1 r.cells rfl rfl ?_ ?_ ?_ ?_ ?_ ?_)
   ·exact(owns_ext HOW.out (below_drewN (Below.refl _ _) nq)).alloc _
   ·exact route_news (wr.drewN nq) r _
   ·exact route_one r
   ·unfold maxLen;omega
   ·omega
   ·first | omega | (simp;omega)
   ·intro v' w3 hown' hgrow _
    obtain⟨ao2,cp2,hv⟩:=owns_shape hown'
    have HB3:=hide (show Below w1.heap.size w1 w3 from ((below_drewN HBR.out nq).alloc hz3 _).grown hgrow (by simp;omega) (fun k hk=>(HOW.out.lt k hk).1))
    rw[hv] at hown' ⊢
    have HO3:=hide hown'
    have hz6:w1.heap.size≤w3.heap.size:=by have:=hgrow.size;simp at this;omega
    clear hown' hgrow
    have HL:=hide (show (putR rest r).length=k+1 by rw[HK.out,HKK.out];simp)
    have HFL:=hide (show flatR (rest.take k)++r.cells=flatR (putR rest r) by rw[HK.out,HKK.out,flatR_append,flatR_snoc];simp[flatR])
    have hm0:rest.length-k=0:=by omega
    rcases HO1.out.2 with ⟨e,e0⟩ | ⟨g,cc,cur,e,_⟩
    ·simp only[Value.slice.injEq] at e
     obtain⟨rfl,e1,rfl⟩:=e
     have hk0:k=0:=by omega
     subst hk0
     have hr0:rest=[]:=by cases rest with
      | nil=>rfl
      | cons a t=>simp at e1
     subst hr0
     go_wp2_with (at_builtin;refine wpList_append_own_none rfl (.tmp 40) (.tmp 43) 46 rfl w1.heap.size 66 i0 3 Tryz.underlying46 hi _ _ _ rfl HO3.out rfl ?_)
     go_ret
     rw[HD.out]
     have hO:=HO3.out
     rw[HFL.out] at hO
     exact⟨ao2,cp2,by rw[HL.out];rfl,by rw[HL.out];exact owns_base hO (by omega),HB1.out.trans (HB3.out.mono (by omega))⟩
    ·simp only[Value.slice.injEq] at e
     obtain⟨rfl,_,rfl⟩:=e
     by_cases hrk:rc=k
     ·subst hrk
      go_wp2_with (at_builtin;refine wpList_append_own _ rfl (.tmp 40) (.tmp 43) 46 rfl w1.heap.size 66 i0 (.agg #[.string .empty,.int .i64 0,.int .i64 0]) 3 32 Tryz.underlying46 hi hz0 hz1 hz2 rfl (by decide) _ (rc+1) (flatR (rest.take rc)++r.cells) rfl HO3.out ⟨g,0,none⟩ 0 0 [] rfl rfl ?_ ?_ ?_ ?_ ?_ ?_)
      ·intro j u hj;cases hj
      ·intro u hu;cases hu
      ·unfold maxLen;omega
      ·omega
      ·omega
      ·intro v4 w4 hown4 hgrow4 _
       obtain⟨ao4,cp4,hv4⟩:=owns_shape hown4
       have HB4:=hide (HB3.out.grown hgrow4 hz6 (fun j hj=>(HO3.out.lt j hj).1))
       rw[hv4] at hown4 ⊢
       have HO4:=hide (show w4.ownsRow w1.heap.size 66 3 (.slice ao4 (putR rest r).length cp4) (putR rest r).length (flatR (putR rest r)) by rw[HL.out,←HFL.out];simpa using hown4)
       clear hown4 hgrow4
       go_wp2
       go_ret
       rw[HD.out]
       exact⟨ao4,cp4,by rw[HL.out];rfl,owns_base HO4.out (by omega),HB1.out.trans (HB4.out.mono (by omega))⟩
     ·have hkc:k<rc:=by have:=owns_cap HO1.out;omega
      go_wp2_with (at_builtin;refine wpList_append_own _ rfl (.tmp 40) (.tmp 43) 46 rfl w1.heap.size 66 i0 (.agg #[.string .empty,.int .i64 0,.int .i64 0]) 3 32 Tryz.underlying46 hi hz0 hz1 hz2 rfl (by decide) _ (k+1) (flatR (rest.take k)++r.cells) rfl HO3.out ⟨g,k*3,none⟩ 0 (rc-k) [] rfl rfl ?_ ?_ ?_ ?_ ?_ ?_)
      ·intro j u hj;cases hj
      ·intro u hu;cases hu
      ·unfold maxLen;omega
      ·omega
      ·omega
      ·intro v4 w4 hown4 hgrow4 _
       obtain⟨ao4,cp4,hv4⟩:=owns_shape hown4
       have HB4:=hide (HB3.out.grown hgrow4 hz6 (fun k hk=>(HO3.out.lt k hk).1))
       rw[hv4] at hown4 ⊢
       have HO4:=hide (show w4.ownsRow w1.heap.size 66 3 (.slice ao4 (putR rest r).length cp4) (putR rest r).length (flatR (putR rest r)) by rw[HL.out,←HFL.out];simpa using hown4)
       clear hown4 hgrow4
       go_wp2
       go_ret
       rw[HD.out]
       exact⟨ao4,cp4,by rw[HL.out];rfl,owns_base HO4.out (by omega),HB1.out.trans (HB4.out.mono (by omega))⟩
end Go.Proofs.YtnapboelfimaaaaGreatDoor
namespace Go.Proofs.YtnapboelfimaaaaGreatDoor
open Go.RowKit Go.Deep
theorem before_trans {x y z:Nat × Nat × Nat} (h1:before2 x y) (h2:before2 y z):before2 x z:=by
 unfold before2 at *
 omega
theorem before_tot {x y:Nat × Nat × Nat} (h:¬(x.1=y.1∧x.2.1=y.2.1)):before2 x y∨before2 y x:=by
 unfold before2
 rcases Nat.lt_trichotomy (addr x) (addr y) with h1 | h1 | h1
 ·exact Or.inl (Or.inl h1)
 ·rcases Nat.lt_trichotomy x.1 y.1 with h2 | h2 | h2
  ·exact Or.inl (Or.inr ⟨h1,h2⟩)
  ·refine absurd ⟨h2,?_⟩ h
   unfold addr at h1
   rw[h2] at h1
   exact Nat.eq_of_mul_eq_mul_right (Nat.two_pow_pos _) h1
  ·exact Or.inr (Or.inr ⟨h1.symm,h2⟩)
 ·exact Or.inr (Or.inl h1)
def bef (x y:Nat × Nat × Nat):Bool:=decide (addr x<addr y∨addr x=addr y∧x.1<y.1)
theorem bef_iff {x y:Nat × Nat × Nat}:bef x y=true↔before2 x y:=by unfold bef before2;exact decide_eq_true_iff
def putX (L:List (Nat × Nat × Nat)) (x:Nat × Nat × Nat):List (Nat × Nat × Nat):=L.takeWhile (fun a=>bef a x)++x :: L.dropWhile (fun a=>bef a x)
theorem put_mem (L:List (Nat × Nat × Nat)) (x y:Nat × Nat × Nat):y∈putX L x↔y=x∨y∈L:=by
 have h:y∈L↔y∈L.takeWhile (fun a=>bef a x)∨y∈L.dropWhile (fun a=>bef a x):=by
  rw[←List.mem_append,List.takeWhile_append_dropWhile]
 unfold putX
 rw[h,List.mem_append,List.mem_cons]
 constructor
 ·rintro (h | h | h)
  ·exact Or.inr (Or.inl h)
  ·exact Or.inl h
  ·exact Or.inr (Or.inr h)
 ·rintro (h | h | h)
  ·exact Or.inr (Or.inl h)
  ·exact Or.inl h
  ·exact Or.inr (Or.inr h)
theorem take_bef (x:Nat × Nat × Nat):∀(L:List (Nat × Nat × Nat)),∀a∈L.takeWhile (fun a=>bef a x),before2 a x
 | [],a,h=>by simp at h
 | y :: L,a,h=>by
  rw[List.takeWhile_cons] at h
  by_cases hy:bef y x=true
  ·rw[if_pos hy] at h
   rcases List.mem_cons.1 h with rfl | h
   ·exact bef_iff.1 hy
   ·exact take_bef x L a h
  ·rw[if_neg hy] at h
   cases h
theorem drop_bef (x:Nat × Nat × Nat):∀(L:List (Nat × Nat × Nat)),L.Pairwise before2→(∀y∈L,before2 y x∨before2 x y)→∀b∈L.dropWhile (fun a=>bef a x),before2 x b
 | [],_,_,b,h=>by simp at h
 | y :: L,hs,hne,b,h=>by
  obtain⟨h1,h2⟩:=List.pairwise_cons.1 hs
  rw[List.dropWhile_cons] at h
  by_cases hy:bef y x=true
  ·rw[if_pos hy] at h
   exact drop_bef x L h2 (fun z hz=>hne z (List.mem_cons_of_mem _ hz)) b h
  ·rw[if_neg hy] at h
   have hx:before2 x y:=by
    rcases hne y (List.mem_cons_self ..) with q | q
    ·exact absurd (bef_iff.2 q) hy
    ·exact q
   rcases List.mem_cons.1 h with rfl | h
   ·exact hx
   ·exact before_trans hx (h1 b h)
theorem put_sorted {L:List (Nat × Nat × Nat)} {x:Nat × Nat × Nat} (hs:L.Pairwise before2) (hne:∀y∈L,before2 y x∨before2 x y):(putX L x).Pairwise before2:=by
 unfold putX
 rw[List.pairwise_append,List.pairwise_cons]
 refine⟨hs.sublist (List.takeWhile_sublist _),⟨drop_bef x L hs hne,hs.sublist (List.dropWhile_sublist _)⟩,?_⟩
 intro a ha b hb
 have h1:=take_bef x L a ha
 rcases List.mem_cons.1 hb with rfl | hb
 ·exact h1
 ·exact before_trans h1 (drop_bef x L hs hne b hb)
def sameK (y x:Nat × Nat × Nat):Bool:=decide (y.1=x.1∧y.2.1=x.2.1)
theorem sameK_no {y x:Nat × Nat × Nat}:(!sameK y x)=true↔¬(y.1=x.1∧y.2.1=x.2.1):=by unfold sameK;rw[Bool.not_eq_true',decide_eq_false_iff_not]
theorem dump_put {M:Tab} {dm l v h:Nat} (hT:TabOk (8+4*dm) M) (hT':TabOk (8+4*dm) (updT M l v (some h))) (hL:8+4*dm≤128):dumpR (updT M l v (some h)) dm=putX ((dumpR M dm).filter fun y=>!sameK y (l,v,h)) (l,v,h):=by
 apply sorted_unique (dumpR_sorted _ _ (by omega)) (put_sorted ((dumpR_sorted M dm (by omega)).sublist List.filter_sublist) ?_)
 ·intro y
  rw[mem_dumpR hT' hL,put_mem,List.mem_filter,mem_dumpR hT hL,sameK_no]
  obtain⟨a,b,c⟩:=y
  unfold updT
  simp only
  by_cases e:a=l∧b=v
  ·rw[if_pos e]
   simp only[Option.some.injEq,Prod.mk.injEq,e,true_and,and_self,not_true_eq_false,and_false,or_false]
   exact eq_comm
  ·rw[if_neg e]
   simp only[Prod.mk.injEq,e,not_false_eq_true,and_true]
   constructor
   ·exact Or.inr
   ·rintro (⟨h1,h2,_⟩ | h1)
    ·exact absurd ⟨h1,h2⟩ e
    ·exact h1
 ·intro y hy
  exact before_tot (sameK_no.1 (List.mem_filter.1 hy).2)
theorem dump_cut {M:Tab} {dm l v:Nat} (h:Nat) (hT:TabOk (8+4*dm) M) (hT':TabOk (8+4*dm) (updT M l v none)) (hL:8+4*dm≤128):dumpR (updT M l v none) dm=(dumpR M dm).filter fun y=>!sameK y (l,v,h):=by
 apply sorted_unique (dumpR_sorted _ _ (by omega)) ((dumpR_sorted M dm (by omega)).sublist List.filter_sublist)
 intro y
 rw[mem_dumpR hT' hL,List.mem_filter,mem_dumpR hT hL,sameK_no]
 obtain⟨a,b,c⟩:=y
 unfold updT
 simp only
 by_cases e:a=l∧b=v
 ·rw[if_pos e]
  simp[e]
 ·rw[if_neg e]
  simp[e]
def RtIn (n:Nat) (y:Nat × Nat × Nat):Prop:=y.1≤8*n∧y.2.1<2^y.1
theorem RtIn.whole {n:Nat} {y:Nat × Nat × Nat} (h:RtIn n y) (hn:n≤16):Whole n (addr y) :=
 whole_of (l:=y.1) (addr_lt (l:=y.1) (v:=y.2.1) (h:=y.2.2) (by have:=h.1;omega) h.2) h.1 (by omega) (Nat.mul_mod_left _ _)
theorem keyS_list (n K:Nat):(keyS n K).toList=digL K 0 n:=by unfold keyS;rw[ByteArray.toList_mk]
theorem addr_key {x y:Nat × Nat × Nat} (h:y.1=x.1):addr y=addr x↔y.2.1=x.2.1:=by
 unfold addr
 rw[h]
 constructor
 ·exact fun e=>Nat.eq_of_mul_eq_mul_right (Nat.two_pow_pos _) e
 ·intro e;rw[e]
theorem same_rd {n:Nat} (hn:n≤16) {y x:Nat × Nat × Nat} (hy:RtIn n y) (hx:RtIn n x) (hop:Int):sameP (rdOf n y) ⟨keyS n (addr x),(x.1:Int),hop⟩=sameK y x:=by
 rw[Bool.eq_iff_iff]
 unfold sameP sameK rdOf
 simp only[keyS_list,Bool.and_eq_true,beq_iff_eq,decide_eq_true_eq]
 rw[same_whole (by omega) (hy.whole hn) (hx.whole hn)]
 constructor
 ·rintro ⟨h1,h2⟩
  have h3:y.1=x.1:=by omega
  exact⟨h3,(addr_key h3).1 h1⟩
 ·rintro ⟨h1,h2⟩
  exact⟨(addr_key h1).2 h2,by omega⟩
theorem ahead_rd {n:Nat} (hn:n≤16) {y x:Nat × Nat × Nat} (hy:RtIn n y) (hx:RtIn n x):aheadR (rdOf n y) (rdOf n x)=bef y x:=by
 rw[Bool.eq_iff_iff]
 unfold aheadR bef rdOf
 simp only[keyS_list,Bool.or_eq_true,Bool.and_eq_true,beq_iff_eq,decide_eq_true_eq]
 rw[same_whole (by omega) (hy.whole hn) (hx.whole hn),less_whole (by omega) (hy.whole hn) (hx.whole hn),decide_eq_true_eq]
 constructor
 ·rintro (h | ⟨h1,h2⟩)
  ·exact Or.inl h
  ·exact Or.inr ⟨h1,by omega⟩
 ·rintro (h | ⟨h1,h2⟩)
  ·exact Or.inl h
  ·exact Or.inr ⟨h1,by omega⟩
theorem without_rd {n:Nat} (hn:n≤16) {L:List (Nat × Nat × Nat)} {x:Nat × Nat × Nat} (hL:∀y∈L,RtIn n y) (hx:RtIn n x) (hop:Int):withoutR (L.map (rdOf n)) ⟨keyS n (addr x),(x.1:Int),hop⟩=(L.filter fun y=>!sameK y x).map (rdOf n):=by
 unfold withoutR
 rw[List.filter_map]
 congr 1
 apply List.filter_congr
 intro y hy
 show (!sameP (rdOf n y) _)=_
 rw[same_rd hn (hL y hy) hx]
theorem put_rd {n:Nat} (hn:n≤16) {x:Nat × Nat × Nat} (hx:RtIn n x) {L:List (Nat × Nat × Nat)} (hL:∀y∈L,RtIn n y):putR (L.map (rdOf n)) (rdOf n x)=(putX L x).map (rdOf n):=by
 have key:∀L:List (Nat × Nat × Nat),(∀y∈L,RtIn n y)→(L.map (rdOf n)).takeWhile (fun a=>aheadR a (rdOf n x))=(L.takeWhile fun a=>bef a x).map (rdOf n)∧(L.map (rdOf n)).dropWhile (fun a=>aheadR a (rdOf n x))=(L.dropWhile fun a=>bef a x).map (rdOf n):=by
  intro L
  induction L with
  | nil=>intro _;exact⟨rfl,rfl⟩
  | cons y L ih =>
   intro h
   obtain⟨i1,i2⟩:=ih (fun z hz=>h z (List.mem_cons_of_mem _ hz))
   rw[List.map_cons,List.takeWhile_cons,List.dropWhile_cons,List.takeWhile_cons,List.dropWhile_cons,ahead_rd hn (h y (List.mem_cons_self ..)) hx]
   by_cases hb:bef y x=true
   ·rw[if_pos hb,if_pos hb,if_pos hb,if_pos hb,i1,i2]
    exact⟨rfl,rfl⟩
   ·rw[if_neg hb,if_neg hb,if_neg hb,if_neg hb]
    exact⟨rfl,rfl⟩
 obtain⟨h1,h2⟩:=key L hL
 unfold putR putX
 rw[h1,h2,List.map_append,List.map_cons]
theorem with_rd {n:Nat} (hn:n≤16) {x:Nat × Nat × Nat} (hx:RtIn n x) {L:List (Nat × Nat × Nat)} (hL:∀y∈L,RtIn n y):withR (L.map (rdOf n)) (rdOf n x)=(putX (L.filter fun y=>!sameK y x) x).map (rdOf n):=by
 unfold withR
 have h:=without_rd hn hL hx (x.2.2:Int)
 rw[show (⟨keyS n (addr x),(x.1:Int),(x.2.2:Int)⟩:RouteD)=rdOf n x from rfl] at h
 rw[h,put_rd hn hx (fun y hy=>hL y (List.mem_filter.1 hy).1)]
theorem keyS_key {n:Nat} {s:ByteArray} (hs:s.size=n) (hn:n≤16):keyS n (keyNum s)=s:=by
 have h1:(digL (keyNum s) 0 n).toArray=s.data:=by
  have hsz:s.data.size=n:=hs
  apply Array.ext
  ·simp[digL_len,hsz]
  ·intro i hi1 hi2
   have hi:i<n:=by omega
   simp only[digL_map,List.getElem_toArray,List.getElem_map,List.getElem_range,Nat.zero_add]
   have e:dig (keyNum s) i=sbyte s i:=keyNum_byte s i (by omega)
   rw[e]
   unfold sbyte
   rw[List.getD_eq_getElem?_getD,Array.getElem?_toList,Array.getElem?_eq_getElem hi2]
   simp
 unfold keyS
 rw[h1]
theorem pref_addr {o:OpD} (h:PrefOk o) (x:Nat):addr (o.l,o.v,x)=o.key:=by
 unfold addr OpD.v fitK
 simp only
 exact Nat.div_mul_cancel (Nat.dvd_of_mod_eq_zero h.zero)
theorem fam_le (f:Int):famBytes f≤16:=by unfold famBytes;split <;> (try split) <;> omega
theorem pref_bits {o:OpD} (h:PrefOk o) (x:Nat):keyS (famBytes o.family) (addr (o.l,o.v,x))=o.bits:=by
 rw[pref_addr h]
 exact keyS_key h.size (fam_le _)
theorem pref_in {o:OpD} (h:PrefOk o) (x:Nat):RtIn (famBytes o.family) (o.l,o.v,x):=⟨by have:=h.len;rw[fam_bits h.famok] at this;exact this,h.v⟩
theorem tell_in {S:St} (h:S.ok) {f:Int} (hf:famBytes f≠0):∀y∈dumpR (S.M (fam f)) (dp (fam f)),RtIn (famBytes f) y:=fun _ hy=>⟨(rt_ok h hf hy).len,(rt_ok h hf hy).val⟩
theorem with_tell {S T:St} (h:S.ok) (hT:T.ok) {o:OpD} (hp:PrefOk o) (h0:0≤o.hop) (hM:T.M (fam o.family)=updT (S.M (fam o.family)) o.l o.v (some o.hop.toNat)):withR (tellL S o.family) ⟨o.bits,o.len,o.hop⟩=tellL T o.family:=by
 have e:(⟨o.bits,o.len,o.hop⟩:RouteD)=rdOf (famBytes o.family) (o.l,o.v,o.hop.toNat):=by
  unfold rdOf
  rw[pref_bits hp]
  have:=hp.len0
  congr 1
  ·show o.len=(o.len.toNat:Int);omega
  ·show o.hop=(o.hop.toNat:Int);omega
 have hT':=hT.tab (fam o.family)
 rw[hM] at hT'
 unfold tellL
 rw[e,with_rd (fam_le _) (pref_in hp _) (tell_in h hp.famok),hM,dump_put (h.tab _) hT' (dp_le _)]
theorem without_tell {S T:St} (h:S.ok) (hT:T.ok) {o:OpD} (hp:PrefOk o) (hM:T.M (fam o.family)=updT (S.M (fam o.family)) o.l o.v none) (x:Int):withoutR (tellL S o.family) ⟨o.bits,o.len,x⟩=tellL T o.family:=by
 have e:(⟨o.bits,o.len,x⟩:RouteD)=⟨keyS (famBytes o.family) (addr (o.l,o.v,0)),((o.l,o.v,0):Nat × Nat × Nat).1,x⟩:=by
  rw[pref_bits hp]
  have:=hp.len0
  congr 1
  show o.len=(o.len.toNat:Int);omega
 have hT':=hT.tab (fam o.family)
 rw[hM] at hT'
 unfold tellL
 rw[e,without_rd (fam_le _) (tell_in h hp.famok) (pref_in hp _),hM,dump_cut 0 (h.tab _) hT' (dp_le _)]
theorem there_tell {S:St} (h:S.ok) {o:OpD} (hp:PrefOk o) (x:Int):thereR (tellL S o.family) ⟨o.bits,o.len,x⟩=(S.M (fam o.family) o.l o.v).isSome:=by
 have e:(⟨o.bits,o.len,x⟩:RouteD)=⟨keyS (famBytes o.family) (addr (o.l,o.v,0)),((o.l,o.v,0):Nat × Nat × Nat).1,x⟩:=by
  rw[pref_bits hp]
  have:=hp.len0
  congr 1
  show o.len=(o.len.toNat:Int);omega
 rw[e,Bool.eq_iff_iff]
 unfold thereR tellL
 rw[List.any_eq_true]
 have hm:=fun y=>mem_dumpR (h.tab (fam o.family)) (dp_le _) y
 constructor
 ·rintro ⟨r,hr,hs⟩
  obtain⟨y,hy,rfl⟩:=List.mem_map.1 hr
  rw[same_rd (fam_le _) (tell_in h hp.famok y hy) (pref_in hp 0)] at hs
  unfold sameK at hs
  have hs':=of_decide_eq_true hs
  have hy':=(hm y).1 hy
  rw[hs'.1,hs'.2] at hy'
  simp only at hy'
  rw[hy']
  rfl
 ·intro hs
  obtain⟨z,hz⟩:=Option.isSome_iff_exists.1 hs
  refine⟨rdOf (famBytes o.family) (o.l,o.v,z),List.mem_map_of_mem ((hm (o.l,o.v,z)).2 hz),?_⟩
  rw[same_rd (fam_le _) (pref_in hp z) (pref_in hp 0)]
  simp[sameK]
end Go.Proofs.YtnapboelfimaaaaGreatDoor
