/- KeyM, WOk, On, Good: parts of the proof, one behind the other. -/
import Derived.Test.YtnapboelfimaaaaGreatDoorB10
namespace Go.Proofs.YtnapboelfimaaaaGreatDoor
theorem fit_fit {K l len:Nat} (h:len≤l) (hl:l≤136):fitK K l/2^(l-len)=fitK K len:=by
 unfold fitK
 rw[Nat.div_div_eq_div_mul,←Nat.pow_add]
 congr 2;omega
theorem fourV_key {K l len:Nat} (h:len+4≤l) (hl:l≤136):fourV l (fitK K l) len=fitK K (len+4)%16:=by
 unfold fourV
 rw[fit_fit h hl]
theorem mod_div16 (X k:Nat) (hk:k≤4):X%16/2^(4-k)=X/2^(4-k)%2^k:=by
 rcases k with _ | _ | _ | _ | _ | k
 ·simp;omega
 ·simp;omega
 ·simp;omega
 ·simp;omega
 ·simp
 ·omega
theorem pnum_key {K l len:Nat} (h1:len≤l) (h2:l<len+4) (hl:len+4≤136):pnum l (fitK K l) len=2^(l-len)-1+fitK K (len+4)%16/2^(4-(l-len)):=by
 unfold pnum num
 rw[mod_div16 _ _ (by omega)]
 congr 2
 have:=fit_fit (K:=K) (l:=len+4) (len:=l) (by omega) hl
 rw[show len+4-l=4-(l-len) by omega] at this
 exact this.symm
theorem fit_lt {K l:Nat} (hK:K<2^136) (hl:l≤136):fitK K l<2^l:=by
 unfold fitK
 rw[Nat.div_lt_iff_lt_mul (Nat.two_pow_pos _),←Nat.pow_add,show l+(136-l)=136 by omega]
 exact hK
end Go.Proofs.YtnapboelfimaaaaGreatDoor
namespace Go.Proofs.YtnapboelfimaaaaGreatDoor
def WOk (W:Nat→Nat):Prop:=∀a,W a<4294967296
theorem wok_set {W:Nat→Nat} {a v:Nat} (h:WOk W) (hv:v<4294967296):WOk (setW W a v):=by
 intro b
 unfold setW
 split
 ·exact hv
 ·exact h b
theorem wok_copy {W:Nat→Nat} {d s n:Nat} (h:WOk W):WOk (copyW W d s n):=by
 intro b
 unfold copyW
 split
 ·exact h _
 ·exact h _
theorem wok_put {W:Nat→Nat} {x:Nat} {n:NodeD} (h:WOk W) (hn:n.ok):WOk (putNode W x n):=by
 obtain⟨h1,h2,h3,h4⟩:=hn
 exact wok_set (wok_set h (by omega)) (by omega)
theorem given_in {A:Ar} {F:Nat→List Nat} (h:ArOk A F) (hb:∀a,A.size≤a→A.frees F a=0) {s:Nat} (h1:1≤s) (h2:s≤32):A.given s=0∨A.given s+s≤A.size:=by
 have hc:=h.lists s h1 h2
 cases hF:F s with
 | nil=>rw[hF] at hc;exact Or.inl hc
 | cons x xs =>
  rw[hF] at hc
  obtain⟨g1,_,_⟩:=hc
  right
  rw[g1]
  have hm:x∈F s:=by rw[hF];simp
  by_cases q:x+s≤A.size
  ·exact q
  ·have e1:=ffp_mem (F:=F) (show s<33 by omega) hm (show x≤x+s-1 by omega) (by omega)
   have e2:=hb (x+s-1) (by omega)
   unfold Ar.frees at e2
   omega
theorem wok_give {A:Ar} {b n:Nat} (h:WOk A.word) (hg:n≠0→A.given n<4294967296):WOk (A.give b n).word:=by
 unfold Ar.give
 split
 ·exact h
 ·rename_i hz;exact wok_set h (hg hz)
theorem wok_take {A:Ar} {n:Nat} (h:WOk A.word) (hn:1≤n) (hg:∀s,1≤s→s≤32→A.given s<4294967296):WOk (A.take n).1.word:=by
 unfold Ar.take
 split
 ·rename_i s hs
  obtain⟨h1,h2,h3⟩:=fit_some hs
  refine wok_give (A:={ A with given:=setW A.given s (A.word (A.given s)),free:=A.free-s }) h ?_
  intro hz
  show setW A.given s (A.word (A.given s)) (s-n)<_
  rw[setW_ne (by omega)]
  exact hg _ (by omega) (by omega)
 ·split
  ·exact h
  ·exact h
theorem Inv.frees_in {A:Ar} {F:Nat→List Nat} {M:Bool→Tab} (h:Inv A F M):∀a,A.size≤a→A.frees F a=0:=by
 intro a ha
 have:=h.sep a
 rw[edge_high ha] at this
 omega
theorem Inv.given_lt {A:Ar} {F:Nat→List Nat} {M:Bool→Tab} (h:Inv A F M) {s:Nat} (h1:1≤s) (h2:s≤32):A.given s<65536:=by
 have h3:=h.ar.size
 rcases given_in h.ar h.frees_in h1 h2 with q | q <;> omega
end Go.Proofs.YtnapboelfimaaaaGreatDoor
namespace Go.Proofs.YtnapboelfimaaaaGreatDoor
structure On (A:Ar) (M:Tab) (d len u x:Nat):Prop where
 rep:Rep A.word M d len u x
 apart:∀a,edge A a+inB a x 2+fp A.word d x a≤1
theorem On.root {A:Ar} {F:Nat→List Nat} {M:Bool→Tab} (h:Inv A F M) (q:Bool) {b:Nat} (hb:b<256) (h0:A.word (rt q+b)%65536≠0):On A (M q) (dp q) 8 b (A.word (rt q+b)%65536):=by
 refine⟨(h.root q).rep b hb h0,fun a=>?_⟩
 have e1:=h.sepq q a
 have e2:=live1_le A.word (rt q) (dp q) a hb
 unfold live1 at e2
 rw[if_neg h0] at e2
 omega
theorem On.kid {A:Ar} {M:Tab} {d len u x f:Nat} (h:On A M (d+1) len u x) (hf:f<16) (hb:(nodeAt A.word x).ways.testBit f=true):On A M d (len+4) (16*u+f) ((nodeAt A.word x).kid f):=by
 refine⟨h.rep.2 f hf hb,fun a=>?_⟩
 have e1:=h.apart a
 have e2:=fp_kid (W:=A.word) (x:=x) d a hf hb
 omega
theorem in_arena {A:Ar} {a:Nat} (h:edge A a=0):1024≤a∧a<A.size:=by
 unfold edge at h
 split at h
 ·omega
 ·omega
theorem On.lt {A:Ar} {M:Tab} {d len u x:Nat} (h:On A M d len u x):1024≤x∧x+1<A.size:=by
 have e1:=h.apart x
 have e2:=h.apart (x+1)
 rw[inB_one (b:=x) (Nat.le_refl _) (by omega)] at e1
 rw[inB_one (b:=x) (by omega) (by omega)] at e2
 have h1:=in_arena (A:=A) (a:=x) (by omega)
 have h2:=in_arena (A:=A) (a:=x+1) (by omega)
 omega
theorem On.block {A:Ar} {M:Tab} {d len u x:Nat} (h:On A M d len u x) {b n:Nat} (hb:∀a,inB a b n≤fp A.word d x a) (hn:n≠0):1024≤b∧b+n≤A.size:=by
 have e1:=h.apart b
 have e2:=h.apart (b+n-1)
 have e3:=hb b
 have e4:=hb (b+n-1)
 rw[inB_one (Nat.le_refl _) (by omega)] at e3
 rw[inB_one (by omega) (by omega)] at e4
 have h1:=in_arena (A:=A) (a:=b) (by omega)
 have h2:=in_arena (A:=A) (a:=b+n-1) (by omega)
 omega
theorem On.hops {A:Ar} {M:Tab} {d len u x:Nat} (h:On A M d len u x):(nodeAt A.word x).hops+ones 16 (nodeAt A.word x).routes≤A.size∧(nodeAt A.word x).hops<A.size∧(ones 16 (nodeAt A.word x).routes≠0→1024≤(nodeAt A.word x).hops):=by
 have hl:=h.lt
 have hz:=ones16_zero (x:=(nodeAt A.word x).routes) (by have:=h.rep.node.lt;omega)
 by_cases h0:ones 16 (nodeAt A.word x).routes=0
 ·have e:=h.rep.node.hops0 (hz.1 h0)
  rw[h0,e]
  exact⟨by omega,by omega,fun q=>absurd rfl q⟩
 ·have:=h.block (b:=(nodeAt A.word x).hops) (n:=ones 16 (nodeAt A.word x).routes) (fun a=>by have:=fp_own A.word d x a;omega) h0
  exact⟨this.2,by omega,fun _=>this.1⟩
theorem On.kids {A:Ar} {M:Tab} {d len u x:Nat} (h:On A M d len u x):(nodeAt A.word x).children+2*ones 16 (nodeAt A.word x).ways≤A.size∧(nodeAt A.word x).children<A.size∧(ones 16 (nodeAt A.word x).ways≠0→1024≤(nodeAt A.word x).children):=by
 have hl:=h.lt
 have hz:=ones16_zero (x:=(nodeAt A.word x).ways) h.rep.node.lt2
 by_cases h0:ones 16 (nodeAt A.word x).ways=0
 ·have e:=h.rep.node.kids0 (hz.1 h0)
  rw[h0,e]
  exact⟨by omega,by omega,fun q=>absurd rfl q⟩
 ·have:=h.block (b:=(nodeAt A.word x).children) (n:=2*ones 16 (nodeAt A.word x).ways) (fun a=>by have:=fp_own A.word d x a;omega) (by omega)
  exact⟨this.2,by omega,fun _=>this.1⟩
theorem On.ok {A:Ar} {M:Tab} {d len u x:Nat} (h:On A M d len u x):(nodeAt A.word x).ok:=⟨by have:=h.rep.node.lt;omega,h.rep.node.lt2,Nat.mod_lt _ (by decide),h.rep.node.lt3⟩
theorem On.hop_in {A:Ar} {M:Tab} {d len u x i:Nat} (h:On A M d len u x) (hi:i<16) (hb:(nodeAt A.word x).routes.testBit i=true):1024≤(nodeAt A.word x).hops+ones i (nodeAt A.word x).routes∧(nodeAt A.word x).hops+ones i (nodeAt A.word x).routes<A.size:=by
 have e1:=ones_lt hi hb
 have e2:=h.hops
 have e3:=e2.2.2 (by omega)
 omega
end Go.Proofs.YtnapboelfimaaaaGreatDoor
namespace Go.Proofs.YtnapboelfimaaaaGreatDoor
structure Good (A:Ar) (F:Nat→List Nat) (m:Nat):Prop where
 ok:ArOk A F
 wok:WOk A.word
 out:∀a,a<1024∨A.size≤a→A.frees F a=0
 top:1024≤A.top
 lo:-(m:Int)≤A.free
 hi:A.free≤65536+(m:Int)
theorem Inv.good {A:Ar} {F:Nat→List Nat} {M:Bool→Tab} (h:Inv A F M) (hw:WOk A.word):Good A F 0:=by
 have hp:=h.pos
 have hz:=h.ar.size
 refine⟨h.ar,hw,?_,h.top,by omega,by omega⟩
 intro a ha
 have e:=h.sep a
 have:edge A a=1:=if_pos ha
 omega
theorem Good.given_in {A:Ar} {F:Nat→List Nat} {m:Nat} (h:Good A F m) {s:Nat} (h1:1≤s) (h2:s≤32):A.given s=0∨A.given s+s≤A.size:=Go.Proofs.YtnapboelfimaaaaGreatDoor.given_in h.ok (fun a ha=>h.out a (Or.inr ha)) h1 h2
theorem Good.given_lt {A:Ar} {F:Nat→List Nat} {m:Nat} (h:Good A F m) {s:Nat} (h1:1≤s) (h2:s≤32):A.given s<65536:=by
 have h3:=h.ok.size
 rcases h.given_in h1 h2 with q | q <;> omega
theorem good_block {A:Ar} {F:Nat→List Nat} {m:Nat} (h:Good A F m) {x n:Nat} (hn:1≤n) (hx:∀a,inB a x n≤A.frees F a):1024≤x∧x+n≤A.size:=by
 have e1:=hx x
 have e2:=hx (x+n-1)
 rw[inB_one (Nat.le_refl _) (by omega)] at e1
 rw[inB_one (by omega) (by omega)] at e2
 have o1:=h.out x
 have o2:=h.out (x+n-1)
 refine⟨?_,?_⟩
 ·by_cases q:1024≤x
  ·exact q
  ·have:=o1 (by omega);omega
 ·by_cases q:x+n≤A.size
  ·exact q
  ·have:=o2 (by omega);omega
theorem good_take {A B:Ar} {F:Nat→List Nat} {m n x:Nat} (h:Good A F m) (h1:1≤n) (h2:n≤32) (e:A.take n=(B,some x)):∃F',Good B F' (m+n)∧Took A F B F' x n∧1024≤x∧x+n≤A.size:=by
 have hw:=wok_take (n:=n) h.wok h1 (fun s a b=>by have:=h.given_lt a b;omega)
 have ht:=take_top A n
 rw[e] at hw ht
 rcases take_ok h.ok h1 h2 (by have:=h.top;omega) with ⟨q,_⟩ | ⟨x',B',F',q,T⟩
 ·rw[e] at q;simp at q
 ·rw[e] at q
  simp only[Prod.mk.injEq,Option.some.injEq] at q
  obtain⟨rfl,rfl⟩:=q
  have hb:=good_block h (x:=x) h1 (fun a=>by have:=T.frees a;omega)
  have l1:=h.lo
  have l2:=h.hi
  have l3:=T.free
  have tp:=h.top
  refine⟨F',⟨T.ok,hw,?_,Nat.le_trans tp ht,by omega,by omega⟩,T,hb⟩
  intro a ha
  have e1:=T.frees a
  have e2:=h.out a (by rw[←T.size];exact ha)
  omega
theorem good_none {A B:Ar} {F:Nat→List Nat} {m n:Nat} (h:Good A F m) (h1:1≤n) (h2:n≤32) (e:A.take n=(B,none)):B=A:=by
 rcases take_ok h.ok h1 h2 (by have:=h.top;omega) with ⟨q,_⟩ | ⟨x',B',F',q,T⟩
 ·rw[e] at q;simp only[Prod.mk.injEq] at q;exact q.1
 ·rw[e] at q;simp at q
theorem good_set {A:Ar} {F:Nat→List Nat} {m a v:Nat} (h:Good A F m) (ha:A.frees F a=0) (hv:v<4294967296):Good ({ A with word:=setW A.word a v }:Ar) F m:=by
 refine⟨ok_word h.ok (fun b hb=>setW_ne (by intro q;subst q;omega)),wok_set h.wok hv,h.out,h.top,h.lo,h.hi⟩
theorem good_put {A:Ar} {F:Nat→List Nat} {m x:Nat} {n:NodeD} (h:Good A F m) (hn:n.ok) (hx:∀a,inB a x 2+A.frees F a≤1):Good (A.putN x n) F m:=by
 refine⟨ok_word h.ok (fun b hb=>putNode_out (by have:=hx b;omega)),wok_put h.wok hn,h.out,h.top,h.lo,h.hi⟩
theorem good_grow {A B:Ar} {F:Nat→List Nat} {m b n gap more x:Nat} (h:Good A F m) (hm:1≤more) (hn:n+more≤32) (hg:gap≤n) (hb:n≠0→b≠0) (ha:∀a,A.frees F a+inB a b n≤1) (hin:n≠0→1024≤b∧b+n≤A.size) (e:A.grow b n gap more=(B,some x)) :
  ∃F',Good B F' (m+more)∧Grown A F B F' b n gap more x∧1024≤x∧x+(n+more)≤A.size:=by
 have ht:=grow_top A b n gap more
 rw[e] at ht
 have hw:WOk B.word:=by
  unfold Ar.grow at e
  cases htk:A.take (n+more) with
  | mk C o =>
   rw[htk] at e
   cases o with
   | none=>simp at e
   | some y =>
    simp only[Prod.mk.injEq,Option.some.injEq] at e
    obtain⟨rfl,rfl⟩:=e
    obtain⟨F',g,_,_,_⟩:=good_take h (by omega) hn htk
    unfold Ar.growAt
    refine wok_give (A:={ C with word:=_ }) (wok_copy (wok_copy g.wok)) (fun q=>?_)
    have:=g.given_lt (s:=n) (by omega) (by omega)
    show C.given n<_
    omega
 rcases grow_ok h.ok hm hn hg (by have:=h.top;omega) hb ha with ⟨q,_⟩ | ⟨x',B',F',q,G⟩
 ·rw[e] at q;simp at q
 ·rw[e] at q
  simp only[Prod.mk.injEq,Option.some.injEq] at q
  obtain⟨rfl,rfl⟩:=q
  have l1:=h.lo
  have l2:=h.hi
  have l3:=G.free
  have tp:=h.top
  have hout:∀a,a<1024∨A.size≤a→A.frees F a+inB a b n=0:=by
   intro a ha
   rw[h.out a ha]
   by_cases q:n=0
   ·subst q;rw[inB_nil]
   ·have:=hin q
    unfold inB
    rw[if_neg (by omega)]
  have e1:=G.frees x
  have e2:=G.frees (x+(n+more)-1)
  rw[inB_one (b:=x) (Nat.le_refl _) (by omega)] at e1
  rw[inB_one (b:=x) (by omega) (by omega)] at e2
  have o1:=hout x
  have o2:=hout (x+(n+more)-1)
  refine⟨F',⟨G.ok,hw,?_,Nat.le_trans tp ht,by omega,by omega⟩,G,?_,?_⟩
  ·intro a ha
   have e1:=G.frees a
   have e2:=hout a (by rw[←G.size];exact ha)
   omega
  ·by_cases q:1024≤x
   ·exact q
   ·have:=o1 (by omega);omega
  ·by_cases q:x+(n+more)≤A.size
   ·exact q
   ·have:=o2 (by omega);omega
theorem good_shrink {A:Ar} {F:Nat→List Nat} {m b n gap less:Nat} (h:Good A F m) (hl:1≤less) (hn:n≤32) (hg:gap+less≤n) (hin:1024≤b∧b+n≤A.size) (ha:∀a,A.frees F a+inB a b n≤1) :
  ∃F',Good (A.shrink b n gap less) F' (m+less)∧Shrunk A F (A.shrink b n gap less) F' b n gap less:=by
 obtain⟨F',S⟩:=shrink_ok h.ok hl hn hg (by omega) ha
 have l1:=h.lo
 have l2:=h.hi
 have l3:=S.free
 have tp:=h.top
 have hw:WOk (A.shrink b n gap less).word:=by
  unfold Ar.shrink
  refine wok_give (A:={ A with word:=_ }) (wok_copy h.wok) (fun q=>?_)
  have:=h.given_lt (s:=less) (by omega) (by omega)
  show A.given less<_
  omega
 refine⟨F',⟨S.ok,hw,?_,by rw[S.top];exact tp,by omega,by omega⟩,S⟩
 intro a ha
 rw[S.frees]
 have e2:=h.out a (by rw[←S.size];exact ha)
 have:inB a (b+n-less) less=0:=by
  unfold inB
  rw[S.size] at ha
  rw[if_neg (by omega)]
 omega
theorem good_hB {A:Ar} {F:Nat→List Nat} {m n more:Nat} (h:Good A F m) (hm:1≤more) (hn:n+more≤32) (hm2:m≤4000):∀x B,A.take (n+more)=(B,some x)→B.size=A.size∧x+(n+more)≤A.size∧(n≠0→B.given n<65536)∧-100000≤B.free∧B.free≤100000:=by
 intro x B e
 obtain⟨F',g,T,_,hx⟩:=good_take h (by omega) hn e
 have l1:=g.lo
 have l2:=g.hi
 exact⟨T.size,hx,fun q=>g.given_lt (by omega) (by omega),by omega,by omega⟩
end Go.Proofs.YtnapboelfimaaaaGreatDoor
