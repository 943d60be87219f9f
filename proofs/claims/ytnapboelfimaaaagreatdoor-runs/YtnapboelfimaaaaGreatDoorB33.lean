/- HoldC, HoldD, HoldE, HoldF: parts of the proof, one behind the other. -/
import Derived.Test.YtnapboelfimaaaaGreatDoorB32
import Derived.ArgAppend
import Derived.Deep.DeepAppendWide
namespace Go.Proofs.YtnapboelfimaaaaGreatDoor
open Go.RowKit Go.Deep
def GrewAt (w w':World) (ao:Option Addr) (cap:Nat) (g' cap':Nat):Prop :=
 (Below w.heap.size w w'∧w.heap.size≤g')∨(ao=some ⟨g',0,none⟩∧cap'=cap∧w.grownBy w' (some g'))
theorem wpList_append_one {P:Program} (w:World) {ops:Array Oper} {rest:List Oper} {o:Oper} {a:Act} {Q:Exit→Act→World→Prop}
  (hg:o.guard=none) (s x:Operand) (t:TypeId) (hop:o.op=Op.call { callee:=Callee.builtin Builtin.append,args:=#[s,x],argTypes:=#[t,t] })
  (base:Nat) (e:TypeId) (i:TypeInfo) (z:Value) (size bytes:Nat) (h1:P.underlying t=some (.slice e)) (h2:P.info? e=some i) (h3:i.zero=some z) (h4:i.size=size) (h5:i.bytes=bytes) (h6:z.cells.size=size) (h7:0<size)
  (ao:Option Addr) (n cap:Nat) (xs:List Value) (hs:a.eval s=.slice ao n cap) (hown:w.ownsRow base e size (.slice ao n cap) n xs)
  (ad:Addr) (news:List Value) (hx:a.eval x=.slice (some ad) 1 1) (hn:news.length=1*size) (hc:∀j u,news[j]?=some u→w.cell? (ad.add j)=some u) (h1c:∀u∈news,u.oneCell'=true)
  (b1:n+1≤maxLen) (b2:(n+1+(n+1)/4+192)*bytes≤281474976710656) (hbase:base≤w.heap.size)
  (hK:∀g' cap' w',w'.ownsRow base e size (.slice (some ⟨g',0,none⟩) (n+1) cap') (n+1) (xs++news)→GrewAt w w' ao cap g' cap'→wpList P ops Q rest (a.put o.dst (.slice (some ⟨g',0,none⟩) (n+1) cap')) w') :
  wpList P ops Q (o :: rest) a w:=by
 by_cases hfull:cap<n+1
 ·refine wpList_plain hg fun K hK'=>?_
  obtain⟨cp',w',hrun,ho,hb⟩:∃cp' w',(Builtin.append_ #[t,t] o.type #[.slice ao n cap,.slice (some ad) 1 1]).run P w=.ok (.slice (some ⟨w.heap.size,0,none⟩) (n+1) cp') w'∧w'.ownsRow w.heap.size e size (.slice (some ⟨w.heap.size,0,none⟩) (n+1) cp') (n+1) (xs++news)∧Below w.heap.size w w':=by
   rcases hown.2 with ⟨ev,e1⟩ | ⟨g,cp,cur,ev,_⟩
   ·cases ev
    obtain rfl:xs=[]:=List.eq_nil_of_length_eq_zero (by have:=hown.1;simpa using this)
    subst h4 h5
    have hr:=run_append_nil (P:=P) w t o.type e i z h1 h2 h3 ad 1 1 news hn hc (by omega) (by omega) (by omega)
    refine⟨_,_,hr,⟨by simpa using hn,.inr ⟨w.heap.size,_,_,rfl,Nat.le_refl _,heap_alloc_new w.drew _,grownCap_ge w 1 0 e,grownCap_le_maxLen w 1 0 e (by simpa using b1),?_,?_⟩⟩,ext_trans (ext_drew w) (ext_alloc w.drew _)⟩
    ·have hge:=grownCap_ge w 1 0 e
     simp only[Array.size_append,List.size_toArray,size_zeroCells,h6,hn,←Nat.add_mul]
     congr 1
     omega
    ·rw[Array.toList_append,Nat.zero_add,←hn]
     exact List.take_left
   ·cases ev
    subst h4 h5
    have hlen:(xs++news).length=(n+1)*i.size:=by rw[List.length_append,hown.1,hn,←Nat.add_mul]
    have hr:=run_append_grow (P:=P) w t o.type e i z h1 h2 h3 ⟨g,0,none⟩ n cap xs hown.1 (hown.cells rfl) ad 1 1 news hn hc hfull (by simp only[maxLen] at b1;omega) (growslice_fits_wide hfull b2)
    refine⟨_,_,hr,⟨hlen,.inr ⟨w.heap.size,_,_,rfl,Nat.le_refl _,heap_alloc_new w.drew _,grownCap_ge w (n+1) cap e,grownCap_le_maxLen w (n+1) cap e b1,?_,?_⟩⟩,ext_trans (ext_drew w) (ext_alloc w.drew _)⟩
    ·have hge:=grownCap_ge w (n+1) cap e
     simp only[Array.size_append,List.size_toArray,size_zeroCells,h6,hown.1,hn,←Nat.add_mul]
     congr 1
     omega
    ·simp only[Array.toList_append]
     rw[←hlen]
     exact List.take_left
  unfold Oper.wp
  simp[execOp,hop,resolve,invoke,builtin,hs,hx,hrun,Result.andThen]
  exact hK' _ _ (hK _ cp' w' (owns_base ho hbase) (.inl ⟨hb,Nat.le_refl _⟩))
 ·rcases hown.2 with ⟨ev,e0⟩ | ⟨g,cp,cur,ev,hbg,hh,hle,r⟩
  ·cases ev;omega
  ·cases ev
   refine wpList_append_fits w hg s x t hop base e i size h1 h2 h4 g n cap xs hs hown ad 1 1 news hx hn hc h1c (by omega) ?_
   intro w' ho hgr
   exact hK g cap w' ho (.inr ⟨rfl,rfl,hgr⟩)
theorem GrewAt.fr {w w':World} {ao:Option Addr} {cap g' cap':Nat} (h:GrewAt w w' ao cap g' cap'):Fr (bls ao) w w':=by
 rcases h with ⟨hb,_⟩ | ⟨rfl,_,hg⟩
 ·exact Fr.of_below hb
 ·exact⟨hg.os,hg.tape,hg.output,hg.size,fun k hk hn=>hg.block k hk (fun e=>hn (by cases e;simp[bls]))⟩
theorem row_kept {w w':World} {b b2 e size n m cap cu g' cap':Nat} {ao au:Option Addr} {xs ys news:List Value} (hsz:0<size) (hown:w.ownsRow b e size (.slice ao n cap) n xs) (hu:w.ownsRow b2 e size (.slice au m cu) m ys) (hle:au=ao→m≤n)
  (hown':w'.ownsRow b e size (.slice (some ⟨g',0,none⟩) (n+1) cap') (n+1) (xs++news)) (hgr:GrewAt w w' ao cap g' cap'):w'.ownsRow b2 e size (.slice au m cu) m ys:=by
 rcases hgr with ⟨hb,_⟩ | ⟨rfl,rfl,hg⟩
 ·exact owns_ext hu hb
 ·refine⟨hu.1,?_⟩
  rcases hu.2 with h0 | ⟨g2,c2,cur2,ev,hb2,hh2,hle2,hm2,hs2,ht2⟩
  ·exact .inl h0
  ·simp only[Value.slice.injEq] at ev
   obtain⟨rfl,_,rfl⟩:=ev
   by_cases hgg:g2=g'
   ·subst hgg
    have hmn:=hle rfl
    rcases hown.2 with ⟨ev,_⟩ | ⟨g3,c3,cur3,ev,hb3,hh3,hle3,hm3,hs3,ht3⟩
    ·cases ev
    ·cases ev
     rw[hh2] at hh3
     simp only[Option.some.injEq,Obj.cells.injEq,and_true] at hh3
     subst hh3
     rcases hown'.2 with ⟨ev,_⟩ | ⟨g4,c4,cur4,ev,hb4,hh4,hle4,hm4,hs4,ht4⟩
     ·cases ev
     ·cases ev
      have hcc:cu=cap':=Nat.eq_of_mul_eq_mul_right hsz (hs2.symm.trans hs3)
      refine .inr ⟨g2,cu,cur4,rfl,hb2,hh4,hle2,hm2,by rw[hs4,hcc],?_⟩
      have h1:m*size≤n*size:=Nat.mul_le_mul_right _ hmn
      have h2:cur4.toList.take (m*size)=(xs++news).take (m*size):=by rw[←ht4,List.take_take,Nat.min_eq_left (by rw[Nat.succ_mul];omega)]
      rw[h2,List.take_append_of_le_length (by rw[hown.1];exact h1),←ht3,List.take_take,Nat.min_eq_left h1]
      exact ht2
   ·exact .inr ⟨g2,cu,cur2,rfl,hb2,by rw[hg.block g2 (lt_of_block hh2) (by simpa using hgg)];exact hh2,hle2,hm2,hs2,ht2⟩
theorem block_kept {w w':World} {b e size n cap g' cap' k:Nat} {ao:Option Addr} {xs:List Value} {c:Array Value} {t:TypeId} {fz:Nat × Nat} (hown:w.ownsRow b e size (.slice ao n cap) n xs) (hgr:GrewAt w w' ao cap g' cap') (hk:w.heap[k]?=some (.cells c t fz)) (hne:t≠e):w'.heap[k]?=some (.cells c t fz) :=
 hgr.fr.at hk (not_bls hown hk hne)
theorem other_kept {w w':World} {b b2 e e2 size s2 n m cap g' cap':Nat} {ao:Option Addr} {v:Value} {xs ys:List Value} (hown:w.ownsRow b e size (.slice ao n cap) n xs) (hu:w.ownsRow b2 e2 s2 v m ys) (hne:e2≠e) (hgr:GrewAt w w' ao cap g' cap'):w'.ownsRow b2 e2 s2 v m ys :=
 owns_frh hu hgr.fr (fun _ _ hg=>not_bls hown hg hne)
def Le (x y:HoldD):Prop:=(x.a1=y.a1→x.l1≤y.l1)∧(x.a2=y.a2→x.l2≤y.l2)∧(x.a3=y.a3→x.l3≤y.l3)
theorem Le.refl (x:HoldD):Le x x:=⟨fun _=>Nat.le_refl _,fun _=>Nat.le_refl _,fun _=>Nat.le_refl _⟩
theorem infoAnswer:(Tryz.prog.info? 59).map (fun i=>(i.zero,i.size,i.bytes))=some (some (.agg #[.int .i64 0,.int .i64 0,.int .i64 0]),3,24):=by kernel_rfl
theorem infoOpC:(Tryz.prog.info? 27).map (fun i=>(i.zero,i.size,i.bytes))=some (some (.agg #[.int .i64 0,.int .i64 0,.string .empty,.int .i64 0,.int .i64 0]),5,48):=by kernel_rfl
theorem three_news (w:World) (x y z:Value) (t:TypeId):∀j u,[x,y,z][j]?=some u→(w.alloc (.cells #[x,y,z] t)).cell? ((⟨w.heap.size,0,none⟩:Addr).add j)=some u:=by
 intro j u hj
 have e:(⟨w.heap.size,0,none⟩:Addr).add j=⟨w.heap.size,j,none⟩:=by unfold Addr.add;split <;> simp_all
 rw[e,cell_new rfl]
 simpa using hj
theorem five_news (w:World) (x y z p q:Value) (t:TypeId):∀j u,[x,y,z,p,q][j]?=some u→(w.alloc (.cells #[x,y,z,p,q] t)).cell? ((⟨w.heap.size,0,none⟩:Addr).add j)=some u:=by
 intro j u hj
 have e:(⟨w.heap.size,0,none⟩:Addr).add j=⟨w.heap.size,j,none⟩:=by unfold Addr.add;split <;> simp_all
 rw[e,cell_new rfl]
 simpa using hj
theorem HoldOk.ext {w w':World} {x:HoldD} (h:HoldOk w x) (hb:Below w.heap.size w w'):HoldOk w' x :=
 ⟨h.1,block_ext h.2.1 hb,owns_ext h.2.2.1 hb,owns_ext h.2.2.2.1 hb,owns_ext h.2.2.2.2 hb⟩
theorem HoldOk.lt {w:World} {x:HoldD} (h:HoldOk w x):x.hb<w.heap.size:=lt_of_block h.2.1
theorem HoldOk.set {w:World} {x:HoldD} {b off:Nat} {c:Array Value} {fz:Nat × Nat} {v:Value} (h:HoldOk w x) (hb:w.heap[b]?=some (.cells c 63 fz)) (hne:x.hb≠b):HoldOk (w.setCell ⟨b,off,none⟩ v) x :=
 ⟨h.1,by rw[Below.heap_setCell _ _ _ _ hne];exact h.2.1,owns_other h.2.2.1 hb (by decide),owns_other h.2.2.2.1 hb (by decide),owns_other h.2.2.2.2 hb (by decide)⟩
theorem HoldOk.grew1 {w w':World} {x:HoldD} {b n cap g' cap':Nat} {ao:Option Addr} {xs news:List Value} (h:HoldOk w x) (hle:x.a1=ao→x.l1≤n) (hown:w.ownsRow b 59 3 (.slice ao n cap) n xs) (hown':w'.ownsRow b 59 3 (.slice (some ⟨g',0,none⟩) (n+1) cap') (n+1) (xs++news)) (hgr:GrewAt w w' ao cap g' cap'):HoldOk w' x :=
 ⟨h.1,block_kept hown hgr h.2.1 (by decide),row_kept (by decide) hown h.2.2.1 hle hown' hgr,other_kept hown h.2.2.2.1 (by decide) hgr,other_kept hown h.2.2.2.2 (by decide) hgr⟩
theorem HoldOk.grew2 {w w':World} {x:HoldD} {b n cap g' cap':Nat} {ao:Option Addr} {xs news:List Value} (h:HoldOk w x) (hle:x.a2=ao→x.l2≤n) (hown:w.ownsRow b 66 3 (.slice ao n cap) n xs) (hown':w'.ownsRow b 66 3 (.slice (some ⟨g',0,none⟩) (n+1) cap') (n+1) (xs++news)) (hgr:GrewAt w w' ao cap g' cap'):HoldOk w' x :=
 ⟨h.1,block_kept hown hgr h.2.1 (by decide),other_kept hown h.2.2.1 (by decide) hgr,row_kept (by decide) hown h.2.2.2.1 hle hown' hgr,other_kept hown h.2.2.2.2 (by decide) hgr⟩
theorem HoldOk.grew3 {w w':World} {x:HoldD} {b n cap g' cap':Nat} {ao:Option Addr} {xs news:List Value} (h:HoldOk w x) (hle:x.a3=ao→x.l3≤n) (hown:w.ownsRow b 27 5 (.slice ao n cap) n xs) (hown':w'.ownsRow b 27 5 (.slice (some ⟨g',0,none⟩) (n+1) cap') (n+1) (xs++news)) (hgr:GrewAt w w' ao cap g' cap'):HoldOk w' x :=
 ⟨h.1,block_kept hown hgr h.2.1 (by decide),other_kept hown h.2.2.1 (by decide) hgr,other_kept hown h.2.2.2.1 (by decide) hgr,row_kept (by decide) hown h.2.2.2.2 hle hown' hgr⟩
theorem grew_lies {w w':World} {ao:Option Addr} {cap g' cap':Nat} (h:GrewAt w w' ao cap g' cap'):ao=some ⟨g',0,none⟩∨w.heap.size≤g':=by
 rcases h with ⟨_,h⟩ | ⟨h,_⟩
 ·exact .inr h
 ·exact .inl h
structure Making (h:HoldD) (w wc:World) (s1 s2 s3:Value):Prop where
 blk:wc.heap[w.heap.size]?=some (.cells #[s1,s2,s3,.int .i64 h.mark] 63 (0,0))
 old:∀x,HoldOk w x→Le x h→HoldOk wc x
 fr:Fr (bls h.a1++bls h.a2++bls h.a3) w wc
theorem making_start (h:HoldD) (w:World):Making h w (w.alloc (.cells #[.slice none 0 0,.slice none 0 0,.slice none 0 0,.int .i64 h.mark] 63)) (.slice none 0 0) (.slice none 0 0) (.slice none 0 0) :=
 ⟨heap_alloc_new _ _,fun _ hx _=>hx.ext (ext_alloc _ _),Fr.of_below (ext_alloc _ _)⟩
theorem making_one {h:HoldD} {w wc wa:World} {s1 s2 s3:Value} {g k:Nat} {ob:Obj} (hh:HoldOk w h) (m:Making h w wc s1 s2 s3) (hown':wa.ownsRow 0 59 3 (.slice (some ⟨g,0,none⟩) (h.l1+1) k) (h.l1+1) (rep (markA (-h.mark)) h.l1++markA (-h.mark))) (hgr:GrewAt (wc.alloc ob) wa h.a1 h.c1 g k) :
  Making h w (wa.setCell ⟨w.heap.size,0,none⟩ (.slice (some ⟨g,0,none⟩) (h.l1+1) k)) (.slice (some ⟨g,0,none⟩) (h.l1+1) k) s2 s3∧(wa.setCell ⟨w.heap.size,0,none⟩ (.slice (some ⟨g,0,none⟩) (h.l1+1) k)).ownsRow 0 59 3 (.slice (some ⟨g,0,none⟩) (h.l1+1) k) (h.l1+1) (rep (markA (-h.mark)) (h.l1+1)):=by
 have hc:=((m.old h hh (Le.refl h)).ext (ext_alloc wc ob)).2.2.1
 have hb:=block_kept hc hgr (block_ext m.blk (ext_alloc wc ob)) (by decide)
 have hsz:w.heap.size≤wc.heap.size:=m.fr.size
 refine⟨⟨heap_setCell_at _ hb,fun x hx hle=>?_,?_⟩,?_⟩
 ·exact(((m.old x hx hle).ext (ext_alloc wc ob)).grew1 hle.1 hc hown' hgr).set hb (by have:=hx.lt;omega)
 ·refine Fr.setCell (m.fr.trans ((Fr.of_below (ext_alloc wc ob)).trans (hgr.fr.mono (fun k hk _=>by simp[hk])))) (.inr (Nat.le_refl _)) _
 ·rw[rep_snoc]
  exact owns_other hown' hb (by decide)
theorem making_two {h:HoldD} {w wc wa:World} {s1 s2 s3:Value} {g k:Nat} {ob:Obj} (hh:HoldOk w h) (m:Making h w wc s1 s2 s3) (hown':wa.ownsRow 0 66 3 (.slice (some ⟨g,0,none⟩) (h.l2+1) k) (h.l2+1) (rep (markR (-h.mark)) h.l2++markR (-h.mark))) (hgr:GrewAt (wc.alloc ob) wa h.a2 h.c2 g k) :
  Making h w (wa.setCell ⟨w.heap.size,1,none⟩ (.slice (some ⟨g,0,none⟩) (h.l2+1) k)) s1 (.slice (some ⟨g,0,none⟩) (h.l2+1) k) s3∧(wa.setCell ⟨w.heap.size,1,none⟩ (.slice (some ⟨g,0,none⟩) (h.l2+1) k)).ownsRow 0 66 3 (.slice (some ⟨g,0,none⟩) (h.l2+1) k) (h.l2+1) (rep (markR (-h.mark)) (h.l2+1)) ∧
   ∀n xs v,wc.ownsRow 0 59 3 v n xs→(wa.setCell ⟨w.heap.size,1,none⟩ (.slice (some ⟨g,0,none⟩) (h.l2+1) k)).ownsRow 0 59 3 v n xs:=by
 have hc:=((m.old h hh (Le.refl h)).ext (ext_alloc wc ob)).2.2.2.1
 have hb:=block_kept hc hgr (block_ext m.blk (ext_alloc wc ob)) (by decide)
 have hsz:w.heap.size≤wc.heap.size:=m.fr.size
 refine⟨⟨heap_setCell_at _ hb,fun x hx hle=>?_,?_⟩,?_,fun n xs v ho=>?_⟩
 ·exact(((m.old x hx hle).ext (ext_alloc wc ob)).grew2 hle.2.1 hc hown' hgr).set hb (by have:=hx.lt;omega)
 ·refine Fr.setCell (m.fr.trans ((Fr.of_below (ext_alloc wc ob)).trans (hgr.fr.mono (fun k hk _=>by simp[hk])))) (.inr (Nat.le_refl _)) _
 ·rw[rep_snoc]
  exact owns_other hown' hb (by decide)
 ·exact owns_other (other_kept hc (ho.alloc ob) (by decide) hgr) hb (by decide)
theorem making_three {h:HoldD} {w wc wa:World} {s1 s2 s3:Value} {g k:Nat} {ob:Obj} (hh:HoldOk w h) (m:Making h w wc s1 s2 s3) (hown':wa.ownsRow 0 27 5 (.slice (some ⟨g,0,none⟩) (h.l3+1) k) (h.l3+1) (rep (markO (-h.mark)) h.l3++markO (-h.mark))) (hgr:GrewAt (wc.alloc ob) wa h.a3 h.c3 g k) :
  Making h w (wa.setCell ⟨w.heap.size,2,none⟩ (.slice (some ⟨g,0,none⟩) (h.l3+1) k)) s1 s2 (.slice (some ⟨g,0,none⟩) (h.l3+1) k)∧(wa.setCell ⟨w.heap.size,2,none⟩ (.slice (some ⟨g,0,none⟩) (h.l3+1) k)).ownsRow 0 27 5 (.slice (some ⟨g,0,none⟩) (h.l3+1) k) (h.l3+1) (rep (markO (-h.mark)) (h.l3+1)) ∧
   (∀n xs v,wc.ownsRow 0 59 3 v n xs→(wa.setCell ⟨w.heap.size,2,none⟩ (.slice (some ⟨g,0,none⟩) (h.l3+1) k)).ownsRow 0 59 3 v n xs) ∧
   ∀n xs v,wc.ownsRow 0 66 3 v n xs→(wa.setCell ⟨w.heap.size,2,none⟩ (.slice (some ⟨g,0,none⟩) (h.l3+1) k)).ownsRow 0 66 3 v n xs:=by
 have hc:=((m.old h hh (Le.refl h)).ext (ext_alloc wc ob)).2.2.2.2
 have hb:=block_kept hc hgr (block_ext m.blk (ext_alloc wc ob)) (by decide)
 have hsz:w.heap.size≤wc.heap.size:=m.fr.size
 refine⟨⟨heap_setCell_at _ hb,fun x hx hle=>?_,?_⟩,?_,fun n xs v ho=>?_,fun n xs v ho=>?_⟩
 ·exact(((m.old x hx hle).ext (ext_alloc wc ob)).grew3 hle.2.2 hc hown' hgr).set hb (by have:=hx.lt;omega)
 ·refine Fr.setCell (m.fr.trans ((Fr.of_below (ext_alloc wc ob)).trans (hgr.fr.mono (fun k hk _=>by simp[hk])))) (.inr (Nat.le_refl _)) _
 ·rw[rep_snoc]
  exact owns_other hown' hb (by decide)
 ·exact owns_other (other_kept hc (ho.alloc ob) (by decide) hgr) hb (by decide)
 ·exact owns_other (other_kept hc (ho.alloc ob) (by decide) hgr) hb (by decide)
end Go.Proofs.YtnapboelfimaaaaGreatDoor
namespace Go.Proofs.YtnapboelfimaaaaGreatDoor
open Go.RowKit Go.Deep
theorem grown_cells {h:HoldD} {w wc wa:World} {s1 s2 s3:Value} {ob:Obj} (hh:HoldOk w h) (m:Making h w wc s1 s2 s3) (hk:∀(k:Nat) (c:Array Value) (fz:Nat × Nat),(wc.alloc ob).heap[k]?=some (.cells c 63 fz)→wa.heap[k]?=some (.cells c 63 fz)) :
  (wa.cell? ⟨w.heap.size,0,none⟩=some s1∧wa.cell? ⟨w.heap.size,1,none⟩=some s2∧wa.cell? ⟨w.heap.size,2,none⟩=some s3)∧(wa.frozen? ⟨w.heap.size,0,none⟩=false∧wa.frozen? ⟨w.heap.size,1,none⟩=false∧wa.frozen? ⟨w.heap.size,2,none⟩=false)∧w.heap.size<wa.heap.size ∧
  wa.cell? ⟨h.hb,0,none⟩=some (.slice h.a1 h.l1 h.c1)∧wa.cell? ⟨h.hb,1,none⟩=some (.slice h.a2 h.l2 h.c2)∧wa.cell? ⟨h.hb,2,none⟩=some (.slice h.a3 h.l3 h.c3)∧wa.cell? ⟨h.hb,3,none⟩=some (.int .i64 h.mark):=by
 have h1:=hk _ _ _ (block_ext m.blk (ext_alloc wc ob))
 have hb:=hk _ _ _ (block_ext (m.old h hh (Le.refl h)).2.1 (ext_alloc wc ob))
 exact⟨⟨cell_at h1 0,cell_at h1 1,cell_at h1 2⟩,⟨free_at h1 0,free_at h1 1,free_at h1 2⟩,lt_of_block h1,cell_at hb 0,cell_at hb 1,cell_at hb 2,cell_at hb 3⟩
structure Longer (h h':HoldD) (w w':World):Prop where
 at_:h'.hb=w.heap.size
 mark:h'.mark=h.mark
 l1:h'.l1=h.l1+1
 l2:h'.l2=h.l2+1
 l3:h'.l3=h.l3+1
 ok:HoldOk w' h'
 old:∀x,HoldOk w x→Le x h→HoldOk w' x∧Le x h'
 fr:Fr (bls h.a1++bls h.a2++bls h.a3) w w'
 lies:∀k∈bls h'.a1++bls h'.a2++bls h'.a3,k∈bls h.a1++bls h.a2++bls h.a3∨w.heap.size≤k
theorem three_at {w:World} {n:Nat} (hn:n=w.heap.size) (x y z:Value) (t:TypeId):∀j u,[x,y,z][j]?=some u→(w.alloc (.cells #[x,y,z] t)).cell? ((⟨n,0,none⟩:Addr).add j)=some u:=by
 subst hn
 exact three_news w x y z t
theorem five_at {w:World} {n:Nat} (hn:n=w.heap.size) (x y z p q:Value) (t:TypeId):∀j u,[x,y,z,p,q][j]?=some u→(w.alloc (.cells #[x,y,z,p,q] t)).cell? ((⟨n,0,none⟩:Addr).add j)=some u:=by
 subst hn
 exact five_news w x y z p q t
theorem longer_le {w wx:World} {e size g n m cap b:Nat} {ao au:Option Addr} {ys:List Value} (hg:ao=some ⟨g,0,none⟩∨wx.heap.size≤g) (hs:w.heap.size≤wx.heap.size) (hu:w.ownsRow b e size (.slice au m cap) m ys) (hle:au=ao→m≤n):au=some ⟨g,0,none⟩→m≤n+1:=by
 intro h
 rcases hg with hg | hg
 ·have:=hle (by rw[h,hg]);omega
 ·rcases hu.2 with ⟨ev,h0⟩ | ⟨g2,cp,cur,ev,_,hh,_⟩
  ·omega
  ·simp only[Value.slice.injEq] at ev
   have:=lt_of_block hh
   rw[ev.1] at h
   simp only[Option.some.injEq,Addr.mk.injEq,and_true] at h
   omega
theorem longer_lies {w wx:World} {g:Nat} {ao:Option Addr} {S:List Nat} (hg:ao=some ⟨g,0,none⟩∨wx.heap.size≤g) (hs:w.heap.size≤wx.heap.size) (hS:∀k,k∈bls ao→k∈S):g∈S∨w.heap.size≤g:=by
 rcases hg with hg | hg
 ·exact .inl (hS g (by rw[hg];simp[bls]))
 ·exact .inr (by omega)
set_option maxHeartbeats 1000000 in
set_option maxRecDepth 10000 in
theorem longer_any (h:HoldD) (w:World) (hh:HoldOk w h) (hl:h.l1+1≤2932031007402∧h.l2+1≤2932031007402∧h.l3+1≤2932031007402) :
  Calls Tryz.prog 34 #[.pointer (some ⟨h.hb,0,none⟩)] w fun e w'=>∃h':HoldD,e=.returned (.pointer (some ⟨h'.hb,0,none⟩))∧Longer h h' w w':=by
 have HH:=hide hh
 obtain⟨⟨s0,s1,s2,s3,s4⟩,hb,h1,h2,h3⟩:=hh
 obtain⟨i0,hi,hz0,hz1,hz2⟩:=info_parts infoAnswer
 obtain⟨i1,hj,hy0,hy1,hy2⟩:=info_parts infoRoute
 obtain⟨i2,hq,hx0,hx1,hx2⟩:=info_parts infoOpC
 obtain⟨hl1,hl2,hl3⟩:=hl
 have q0:=cell_at hb 0
 have q1:=cell_at hb 1
 have q2:=cell_at hb 2
 have q3:=cell_at hb 3
 simp[HoldD.cells] at q0 q1 q2 q3
 have hlt:=lt_of_block hb
 clear hb h1 h2 h3
 have M0:=hide (making_start h w)
 go_enter Tryz.func34,Tryz.ntmps34
 go_wp2_with (at_builtin;refine wpList_append_one _ rfl (.tmp 20) (.tmp 23) 55 rfl 0 59 i0 (.agg #[.int .i64 0,.int .i64 0,.int .i64 0]) 3 24 Tryz.underlying55 hi hz0 hz1 hz2 rfl (by decide) _ _ _ (rep (markA (-h.mark)) h.l1) rfl (((M0.out.old h HH.out (Le.refl h)).ext (ext_alloc _ _)).2.2.1) ⟨w.heap.size+1,0,none⟩ (markA (-h.mark)) rfl rfl ?_ ?_ ?_ ?_ ?_ ?_)
 ·have:=three_news (w.alloc (.cells #[.slice none 0 0,.slice none 0 0,.slice none 0 0,.int .i64 h.mark] 63)) (.int .i64 0) (.int .i64 (-h.mark)) (.int .i64 0) 59
  rw[World.size_alloc] at this
  exact this
 ·intro u hu;simp only[markA,List.mem_cons,List.not_mem_nil,or_false] at hu;rcases hu with rfl | rfl | rfl <;> rfl
 ·unfold maxLen;omega
 ·omega
 ·exact Nat.zero_le _
 ·intro g1 k1 wa hown1 hgr1
  obtain⟨m1,o1⟩:=making_one HH.out M0.out hown1 hgr1
  obtain⟨⟨n0,n1,n2⟩,⟨f0,f1,f2⟩,hsz1,p0,p1,p2,p3⟩:=grown_cells HH.out M0.out (fun k c fz hk=>block_kept ((M0.out.old h HH.out (Le.refl h)).ext (ext_alloc _ _)).2.2.1 hgr1 hk (by decide))
  have hne:h.hb≠w.heap.size:=by omega
  have G1:=hide (grew_lies hgr1)
  have M1:=hide m1
  have O1:=hide o1
  clear m1 o1 hown1 hgr1 q0 q1 q2 q3
  go_wp2_with (at_builtin;refine wpList_append_one _ rfl (.tmp 31) (.tmp 34) 46 rfl 0 66 i1 (.agg #[.string .empty,.int .i64 0,.int .i64 0]) 3 32 Tryz.underlying46 hj hy0 hy1 hy2 rfl (by decide) _ _ _ (rep (markR (-h.mark)) h.l2) rfl (((M1.out.old h HH.out (Le.refl h)).ext (ext_alloc _ _)).2.2.2.1) ⟨wa.heap.size,0,none⟩ (markR (-h.mark)) rfl rfl ?_ ?_ ?_ ?_ ?_ ?_)
  ·exact three_at (by simp) (.string .empty) (.int .i64 0) (.int .i64 (-h.mark)) 66
  ·intro u hu;simp only[markR,List.mem_cons,List.not_mem_nil,or_false] at hu;rcases hu with rfl | rfl | rfl <;> rfl
  ·unfold maxLen;omega
  ·omega
  ·exact Nat.zero_le _
  ·intro g2 k2 wb hown2 hgr2
   obtain⟨m2,o2,t2⟩:=making_two HH.out M1.out hown2 hgr2
   have O1b:=hide (t2 _ _ _ O1.out)
   obtain⟨⟨n0b,n1b,n2b⟩,⟨f0b,f1b,f2b⟩,hsz2,p0b,p1b,p2b,p3b⟩:=grown_cells HH.out M1.out (fun k c fz hk=>block_kept ((M1.out.old h HH.out (Le.refl h)).ext (ext_alloc _ _)).2.2.2.1 hgr2 hk (by decide))
   have G2:=hide (grew_lies hgr2)
   have M2:=hide m2
   have O2:=hide o2
   clear m2 o2 hown2 hgr2 t2 n0 n1 n2 f0 f1 f2 p0 p1 p2 p3
   go_wp2_with (at_builtin;refine wpList_append_one _ rfl (.tmp 42) (.tmp 45) 28 rfl 0 27 i2 (.agg #[.int .i64 0,.int .i64 0,.string .empty,.int .i64 0,.int .i64 0]) 5 48 Tryz.underlying28 hq hx0 hx1 hx2 rfl (by decide) _ _ _ (rep (markO (-h.mark)) h.l3) rfl (((M2.out.old h HH.out (Le.refl h)).ext (ext_alloc _ _)).2.2.2.2) ⟨wb.heap.size,0,none⟩ (markO (-h.mark)) rfl rfl ?_ ?_ ?_ ?_ ?_ ?_)
   ·exact five_at (by simp) (.int .i64 0) (.int .i64 0) (.string .empty) (.int .i64 0) (.int .i64 (-h.mark)) 27
   ·intro u hu;simp only[markO,List.mem_cons,List.not_mem_nil,or_false] at hu;rcases hu with rfl | rfl | rfl | rfl | rfl <;> rfl
   ·unfold maxLen;omega
   ·omega
   ·exact Nat.zero_le _
   ·intro g3 k3 wd hown3 hgr3
    obtain⟨m3,o3,t1,t2⟩:=making_three HH.out M2.out hown3 hgr3
    have O1c:=hide (t1 _ _ _ O1b.out)
    have O2c:=hide (t2 _ _ _ O2.out)
    obtain⟨⟨n0c,n1c,n2c⟩,⟨f0c,f1c,f2c⟩,hsz3,p0c,p1c,p2c,p3c⟩:=grown_cells HH.out M2.out (fun k c fz hk=>block_kept ((M2.out.old h HH.out (Le.refl h)).ext (ext_alloc _ _)).2.2.2.2 hgr3 hk (by decide))
    have G3:=hide (grew_lies hgr3)
    have M3:=hide m3
    have O3:=hide o3
    have hsa:w.heap.size≤wa.heap.size:=by omega
    have hsb:w.heap.size≤wb.heap.size:=by omega
    clear m3 o3 hown3 hgr3 t1 t2 n0b n1b n2b f0b f1b f2b p0b p1b p2b p3b
    go_wp2
    go_ret
    have hg1:w.heap.size≤((w.alloc (.cells #[.slice none 0 0,.slice none 0 0,.slice none 0 0,.int .i64 h.mark] 63)).alloc (.cells #[.int .i64 0,.int .i64 (-h.mark),.int .i64 0] 59)).heap.size:=by rw[World.size_alloc,World.size_alloc];omega
    have hg2:w.heap.size≤((wa.setCell ⟨w.heap.size,0,none⟩ (.slice (some ⟨g1,0,none⟩) (h.l1+1) k1)).alloc (.cells #[.string .empty,.int .i64 0,.int .i64 (-h.mark)] 66)).heap.size:=by rw[World.size_alloc];simp;omega
    have hg3:w.heap.size≤((wb.setCell ⟨w.heap.size,1,none⟩ (.slice (some ⟨g2,0,none⟩) (h.l2+1) k2)).alloc (.cells #[.int .i64 0,.int .i64 0,.string .empty,.int .i64 0,.int .i64 (-h.mark)] 27)).heap.size:=by rw[World.size_alloc];simp;omega
    refine⟨⟨w.heap.size,h.mark,some ⟨g1,0,none⟩,h.l1+1,k1,some ⟨g2,0,none⟩,h.l2+1,k2,some ⟨g3,0,none⟩,h.l3+1,k3⟩,rfl,rfl,rfl,rfl,rfl,rfl,⟨⟨s0,s1,hl1,hl2,hl3⟩,M3.out.blk,O1c.out,O2c.out,O3.out⟩,?_,M3.out.fr,?_⟩
    ·intro x hx hle
     refine⟨M3.out.old x hx hle,?_,?_,?_⟩
     ·exact longer_le G1.out hg1 hx.2.2.1 hle.1
     ·exact longer_le G2.out hg2 hx.2.2.2.1 hle.2.1
     ·exact longer_le G3.out hg3 hx.2.2.2.2 hle.2.2
    ·intro k hk
     simp only[bls,List.cons_append,List.nil_append,List.mem_cons,List.not_mem_nil,or_false] at hk
     rcases hk with rfl | rfl | rfl
     ·exact longer_lies G1.out hg1 (fun k hk=>by simp[hk])
     ·exact longer_lies G2.out hg2 (fun k hk=>by simp[hk])
     ·exact longer_lies G3.out hg3 (fun k hk=>by simp[hk])
end Go.Proofs.YtnapboelfimaaaaGreatDoor
namespace Go.Proofs.YtnapboelfimaaaaGreatDoor
open Go.RowKit Go.Deep
theorem infoHold:(Tryz.prog.info? 49).map (fun i=>(i.zero,i.size,i.bytes))=some (some (.pointer none),1,8):=by kernel_rfl
def HoldD.rows (x:HoldD):List Nat:=bls x.a1++bls x.a2++bls x.a3
def HoldD.ptr (x:HoldD):Value:=.pointer (some ⟨x.hb,0,none⟩)
theorem owns_fr' {w w':World} {base e size n m cap:Nat} {ao:Option Addr} {xs:List Value} {S:List Nat} (h:w.ownsRow base e size (.slice ao m cap) n xs) (hf:Fr S w w') (hn:∀g∈bls ao,g ∉ S):w'.ownsRow base e size (.slice ao m cap) n xs:=by
 refine⟨h.1,?_⟩
 rcases h.2 with h0 | ⟨g,cp,cur,e1,hb,hh,r⟩
 ·exact .inl h0
 ·simp only[Value.slice.injEq] at e1
  exact .inr ⟨g,cp,cur,by rw[e1.1,e1.2.1,e1.2.2],hb,hf.at hh (hn g (by rw[e1.1];simp[bls])),r⟩
theorem HoldOk.fr {w w':World} {x:HoldD} {S:List Nat} (h:HoldOk w x) (hf:Fr S w w') (h1:x.hb ∉ S) (h2:∀k∈x.rows,k ∉ S):HoldOk w' x :=
 ⟨h.1,hf.at h.2.1 h1,owns_fr' h.2.2.1 hf (fun g hg=>h2 g (by simp[HoldD.rows,hg])),owns_fr' h.2.2.2.1 hf (fun g hg=>h2 g (by simp[HoldD.rows,hg])),owns_fr' h.2.2.2.2 hf (fun g hg=>h2 g (by simp[HoldD.rows,hg]))⟩
theorem HoldOk.other {w:World} {x:HoldD} {b off:Nat} {c:Array Value} {t:TypeId} {fz:Nat × Nat} {v:Value} (h:HoldOk w x) (hb:w.heap[b]?=some (.cells c t fz)) (h1:t≠63) (h2:t≠59) (h3:t≠66) (h4:t≠27):HoldOk (w.setCell ⟨b,off,none⟩ v) x:=by
 refine⟨h.1,?_,owns_other h.2.2.1 hb h2,owns_other h.2.2.2.1 hb h3,owns_other h.2.2.2.2 hb h4⟩
 rw[Below.heap_setCell]
 ·exact h.2.1
 ·rintro rfl
  have:=h.2.1
  rw[hb] at this
  simp at this
  exact h1 this.2.1
theorem HoldOk.grew0 {w w':World} {x:HoldD} {b e size n cap g' cap':Nat} {ao:Option Addr} {xs:List Value} (h:HoldOk w x) (h1:e≠63) (h2:e≠59) (h3:e≠66) (h4:e≠27) (hown:w.ownsRow b e size (.slice ao n cap) n xs) (hgr:GrewAt w w' ao cap g' cap'):HoldOk w' x :=
 ⟨h.1,block_kept hown hgr h.2.1 h1.symm,other_kept hown h.2.2.1 h2.symm hgr,other_kept hown h.2.2.2.1 h3.symm hgr,other_kept hown h.2.2.2.2 h4.symm hgr⟩
structure HoldsAt (w:World) (b:Nat) (psv:Value) (ao:Option Addr) (cap:Nat) (hs:List HoldD):Prop where
 blk:w.heap[b]?=some (.cells #[psv,.slice ao hs.length cap] 35 (0,0))
 row:w.ownsRow 0 49 1 (.slice ao hs.length cap) hs.length (hs.map HoldD.ptr)
 ok:∀x∈hs,HoldOk w x
theorem holds_snoc {w wa:World} {b:Nat} {psv:Value} {ao:Option Addr} {cap g k:Nat} {hs:List HoldD} {h:HoldD} {ob:Obj} (H:HoldsAt w b psv ao cap hs) (hh:HoldOk w h)
  (hown':wa.ownsRow 0 49 1 (.slice (some ⟨g,0,none⟩) (hs.length+1) k) (hs.length+1) (hs.map HoldD.ptr++[h.ptr])) (hgr:GrewAt (w.alloc ob) wa ao cap g k) :
  HoldsAt (wa.setCell ⟨b,1,none⟩ (.slice (some ⟨g,0,none⟩) (hs.length+1) k)) b psv (some ⟨g,0,none⟩) k (hs++[h])∧(∀x,HoldOk w x→HoldOk (wa.setCell ⟨b,1,none⟩ (.slice (some ⟨g,0,none⟩) (hs.length+1) k)) x)∧Fr ([b]++bls ao) w (wa.setCell ⟨b,1,none⟩ (.slice (some ⟨g,0,none⟩) (hs.length+1) k)) ∧
   (∀(n:Nat) (c:Array Value) (t:TypeId) (fz:Nat × Nat),w.heap[n]?=some (.cells c t fz)→t≠35→t≠49→(wa.setCell ⟨b,1,none⟩ (.slice (some ⟨g,0,none⟩) (hs.length+1) k)).heap[n]?=some (.cells c t fz)):=by
 have hr:=H.row.alloc ob
 have hb:=block_kept hr hgr (block_ext H.blk (ext_alloc w ob)) (by decide)
 have all:∀x,HoldOk w x→HoldOk (wa.setCell ⟨b,1,none⟩ (.slice (some ⟨g,0,none⟩) (hs.length+1) k)) x:=fun x hx =>
  ((hx.ext (ext_alloc w ob)).grew0 (by decide) (by decide) (by decide) (by decide) hr hgr).other hb (by decide) (by decide) (by decide) (by decide)
 have hf:Fr ([b]++bls ao) w (wa.setCell ⟨b,1,none⟩ (.slice (some ⟨g,0,none⟩) (hs.length+1) k)) :=
  Fr.setCell ((Fr.of_below (ext_alloc w ob)).trans (hgr.fr.mono (fun k hk _=>by simp[hk]))) (.inl (by simp)) _
 refine⟨⟨?_,?_,?_⟩,all,hf,?_⟩
 ·rw[List.length_append,List.length_singleton]
  exact heap_setCell_at _ hb
 ·rw[List.length_append,List.length_singleton,List.map_append,List.map_singleton]
  exact owns_other hown' hb (by decide)
 ·intro x hx
  rcases List.mem_append.1 hx with hx | hx
  ·exact all x (H.ok x hx)
  ·rw[List.mem_singleton.1 hx]
   exact all h hh
 ·intro n c t fz hn ht1 ht2
  refine hf.at hn ?_
  simp only[List.cons_append,List.nil_append,List.mem_cons,not_or]
  refine⟨?_,not_bls H.row hn ht2⟩
  rintro rfl
  rw[H.blk] at hn
  simp at hn
  exact ht1 hn.2.1.symm
end Go.Proofs.YtnapboelfimaaaaGreatDoor
namespace Go.Proofs.YtnapboelfimaaaaGreatDoor
open Go.RowKit Go.Deep
theorem not_rows {w:World} {x:HoldD} {k:Nat} {c:Array Value} {t:TypeId} {fz:Nat × Nat} (h:HoldOk w x) (hk:w.heap[k]?=some (.cells c t fz)) (h1:t≠59) (h2:t≠66) (h3:t≠27):k ∉ x.rows:=by
 simp only[HoldD.rows,List.mem_append,not_or]
 exact⟨⟨not_bls h.2.2.1 hk h1,not_bls h.2.2.2.1 hk h2⟩,not_bls h.2.2.2.2 hk h3⟩
structure Keeping (w wr:World) (b:Nat) (psv:Value) (ao:Option Addr) (hs L:List HoldD) (h0 cur:HoldD) (j:Nat) (ao':Option Addr) (cap':Nat):Prop where
 at_:HoldsAt wr b psv ao' cap' (hs++L)
 len:L.length=j+1
 cur_ok:HoldOk wr cur
 le:∀x∈hs++L,Le x cur
 l1:cur.l1=h0.l1+j
 l2:cur.l2=h0.l2+j
 l3:cur.l3=h0.l3+j
 fr:Fr ([b,h0.hb]++bls ao++h0.rows) w wr
 new:∀x∈L,(x.hb=h0.hb∨w.heap.size≤x.hb)∧∀k∈x.rows,k∈h0.rows∨w.heap.size≤k
 cur_new:∀k∈cur.rows,k∈h0.rows∨w.heap.size≤k
 row_new:∀k∈bls ao',k∈bls ao∨w.heap.size≤k
theorem holds_longer {w w2:World} {b:Nat} {psv:Value} {ao:Option Addr} {cap:Nat} {hs:List HoldD} {cur h':HoldD} (H:HoldsAt w b psv ao cap hs) (hc:HoldOk w cur) (hle:∀x∈hs,Le x cur) (hl:Longer cur h' w w2):HoldsAt w2 b psv ao cap hs :=
 ⟨hl.fr.at H.blk (not_rows hc H.blk (by decide) (by decide) (by decide)),owns_frh H.row hl.fr (fun g c hg=>not_rows hc hg (by decide) (by decide) (by decide)),fun x hx=>(hl.old x (H.ok x hx) (hle x hx)).1⟩
theorem keep_step {w wr w2 wa:World} {b:Nat} {psv:Value} {ao ao':Option Addr} {hs L:List HoldD} {h0 cur h':HoldD} {j cap' g k:Nat} {ob:Obj} (K:Keeping w wr b psv ao hs L h0 cur j ao' cap') (hl:Longer cur h' wr w2)
  (hown':wa.ownsRow 0 49 1 (.slice (some ⟨g,0,none⟩) ((hs++L).length+1) k) ((hs++L).length+1) ((hs++L).map HoldD.ptr++[h'.ptr])) (hgr:GrewAt (w2.alloc ob) wa ao' cap' g k) :
  Keeping w (wa.setCell ⟨b,1,none⟩ (.slice (some ⟨g,0,none⟩) ((hs++L).length+1) k)) b psv ao hs (L++[h']) h0 h' (j+1) (some ⟨g,0,none⟩) k:=by
 have H2:=holds_longer K.at_ K.cur_ok K.le hl
 obtain⟨S,all,hf,_⟩:=holds_snoc H2 hl.ok hown' hgr
 have hs1:w.heap.size≤wr.heap.size:=K.fr.size
 have hs2:wr.heap.size≤w2.heap.size:=hl.fr.size
 have hn:∀k∈h'.rows,k∈h0.rows∨w.heap.size≤k:=by
  intro k hk
  rcases hl.lies k hk with h | h
  ·exact K.cur_new k h
  ·exact .inr (by omega)
 refine⟨by rw[←List.append_assoc];exact S,by simp[K.len],all _ hl.ok,?_,by rw[hl.l1,K.l1];omega,by rw[hl.l2,K.l2];omega,by rw[hl.l3,K.l3];omega,?_,?_,hn,?_⟩
 ·intro x hx
  rw[←List.append_assoc] at hx
  rcases List.mem_append.1 hx with hx | hx
  ·exact(hl.old x (K.at_.ok x hx) (K.le x hx)).2
  ·rw[List.mem_singleton.1 hx];exact Le.refl _
 ·have f1:Fr ([b,h0.hb]++bls ao++h0.rows) w w2:=by
   refine⟨hl.fr.os.trans K.fr.os,hl.fr.tape.trans K.fr.tape,hl.fr.output.trans K.fr.output,Nat.le_trans hs1 hs2,fun k hk hnk=>?_⟩
   rw[hl.fr.block k (by omega) ?_]
   ·exact K.fr.block k hk hnk
   ·intro hk2
    rcases K.cur_new k hk2 with h | h
    ·exact hnk (by simp[h])
    ·omega
  refine⟨hf.os.trans f1.os,hf.tape.trans f1.tape,hf.output.trans f1.output,Nat.le_trans f1.size hf.size,fun k hk hnk=>?_⟩
  rw[hf.block k (by omega) ?_]
  ·exact f1.block k hk hnk
  ·intro hk2
   simp only[List.cons_append,List.nil_append,List.mem_cons] at hk2
   rcases hk2 with rfl | hk2
   ·exact hnk (by simp)
   ·rcases K.row_new k hk2 with h | h
    ·exact hnk (by simp[h])
    ·omega
 ·intro x hx
  rcases List.mem_append.1 hx with hx | hx
  ·exact K.new x hx
  ·rw[List.mem_singleton.1 hx]
   exact⟨.inr (by rw[hl.at_];exact hs1),hn⟩
 ·intro k hk
  rcases grew_lies hgr with h | h
  ·exact K.row_new k (by rw[h];exact hk)
  ·simp only[bls,List.mem_singleton] at hk
   subst hk
   rw[World.size_alloc] at h
   exact .inr (by omega)
end Go.Proofs.YtnapboelfimaaaaGreatDoor
