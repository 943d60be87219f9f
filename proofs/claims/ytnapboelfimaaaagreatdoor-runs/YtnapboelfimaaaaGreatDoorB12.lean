/- GoodB, GoodC, ByteM, DumS: parts of the proof, one behind the other. -/
import Derived.Test.YtnapboelfimaaaaGreatDoorB11
import GoSem.Op.String
namespace Go.Proofs.YtnapboelfimaaaaGreatDoor
theorem nodeAt_ok {W:Nat→Nat} (h:WOk W) (x:Nat):(nodeAt W x).ok:=by
 have h1:=h x
 have h2:=h (x+1)
 unfold nodeAt NodeD.ok
 exact⟨Nat.mod_lt _ (by decide),by show W x/65536<65536;omega,Nat.mod_lt _ (by decide),by show W (x+1)/65536<65536;omega⟩
theorem Good.mono {A:Ar} {F:Nat→List Nat} {m k:Nat} (h:Good A F m) (hk:m≤k):Good A F k:=⟨h.ok,h.wok,h.out,h.top,by have:=h.lo;omega,by have:=h.hi;omega⟩
structure OnF (A:Ar) (F:Nat→List Nat) (M:Tab) (d len u x:Nat):Prop where
 rep:Rep A.word M d len u x
 apart:∀a,edge A a+inB a x 2+fp A.word d x a+A.frees F a≤1
theorem OnF.on {A:Ar} {F:Nat→List Nat} {M:Tab} {d len u x:Nat} (h:OnF A F M d len u x):On A M d len u x:=⟨h.rep,fun a=>by have:=h.apart a;omega⟩
theorem OnF.root {A:Ar} {F:Nat→List Nat} {M:Bool→Tab} (h:Inv A F M) (q:Bool) {b:Nat} (hb:b<256) (h0:A.word (rt q+b)%65536≠0):OnF A F (M q) (dp q) 8 b (A.word (rt q+b)%65536):=by
 refine⟨(h.root q).rep b hb h0,fun a=>?_⟩
 have e1:=h.sepq q a
 have e2:=live1_le A.word (rt q) (dp q) a hb
 unfold live1 at e2
 rw[if_neg h0] at e2
 omega
theorem OnF.kid {A:Ar} {F:Nat→List Nat} {M:Tab} {d len u x f:Nat} (h:OnF A F M (d+1) len u x) (hf:f<16) (hb:(nodeAt A.word x).ways.testBit f=true):OnF A F M d (len+4) (16*u+f) ((nodeAt A.word x).kid f):=by
 refine⟨h.rep.2 f hf hb,fun a=>?_⟩
 have e1:=h.apart a
 have e2:=fp_kid (W:=A.word) (x:=x) d a hf hb
 omega
theorem OnF.hopsApart {A:Ar} {F:Nat→List Nat} {M:Tab} {d len u x:Nat} (h:OnF A F M d len u x) (a:Nat):A.frees F a+inB a (nodeAt A.word x).hops (ones 16 (nodeAt A.word x).routes)≤1:=by
 have:=h.apart a
 have:=fp_own A.word d x a
 omega
theorem OnF.kidsApart {A:Ar} {F:Nat→List Nat} {M:Tab} {d len u x:Nat} (h:OnF A F M d len u x) (a:Nat):A.frees F a+inB a (nodeAt A.word x).children (2*ones 16 (nodeAt A.word x).ways)≤1:=by
 have:=h.apart a
 have:=fp_own A.word d x a
 omega
theorem OnF.hopsIn {A:Ar} {F:Nat→List Nat} {M:Tab} {d len u x:Nat} (h:OnF A F M d len u x) (h0:ones 16 (nodeAt A.word x).routes≠0):1024≤(nodeAt A.word x).hops∧(nodeAt A.word x).hops+ones 16 (nodeAt A.word x).routes≤A.size:=⟨h.on.hops.2.2 h0,h.on.hops.1⟩
theorem OnF.kidsIn {A:Ar} {F:Nat→List Nat} {M:Tab} {d len u x:Nat} (h:OnF A F M d len u x) (h0:2*ones 16 (nodeAt A.word x).ways≠0):1024≤(nodeAt A.word x).children∧(nodeAt A.word x).children+2*ones 16 (nodeAt A.word x).ways≤A.size:=⟨h.on.kids.2.2 (by omega),h.on.kids.1⟩
theorem OnF.reach {A:Ar} {F:Nat→List Nat} {M:Tab} {l v d u x:Nat} (h:OnF A F M d 8 u x) (h1:8≤l) (h3:l≤8+4*d) (h2:v/2^(l-8)=u) :
  ∃t d2 y,reach A.word l v ((l-8)/4) 8 x=(y,8+4*t)∧t≤(l-8)/4∧d=d2+t∧OnF A F M d2 (8+4*t) (v/2^(l-(8+4*t))) y∧(t<(l-8)/4→(nodeAt A.word y).ways.testBit (fourV l v (8+4*t))=false):=by
 obtain⟨t,d2,y,e,q1,q2,q3,q4,q5⟩:=reach_facts (l:=l) (v:=v) ((l-8)/4) d 8 u x h.rep (by omega) (by omega) h2
 exact⟨t,d2,y,e,q1,q2,⟨q3,fun a=>by have:=h.apart a;have:=q4 a;omega⟩,q5⟩
theorem ones16_room {x f:Nat} (hf:f<16) (hb:x.testBit f=false):ones 16 x≤15:=by
 have:=ones_more (n:=16) hb (or_bit _ _) (fun i hi=>or_bits x _ i hi)
 have h16:=ones_le 16 (x ||| 2^f)
 rw[if_pos hf] at this
 omega
theorem chainLoop_good (l v:Nat):∀(s len:Nat) (A:Ar) (F:Nat→List Nat) (n:NodeD) (m:Nat),Good A F m→n.ok→(∃F',Good (chainLoop l v s len A n).1 F' (m+2*s))∧∀n',(chainLoop l v s len A n).2=some n'→n'.ok:=by
 intro s
 induction s with
 | zero =>
  intro len A F n m h hn
  refine⟨⟨F,h⟩,?_⟩
  intro n' e
  simp only[chainLoop,Option.some.injEq] at e
  subst e
  exact hn
 | succ s ih =>
  intro len A F n m h hn
  unfold chainLoop
  cases e:A.take 2 with
  | mk B o =>
   cases o with
   | none =>
    have:=good_none h (by omega) (by omega) e
    subst this
    exact⟨⟨F,h.mono (by omega)⟩,fun n' q=>by simp at q⟩
   | some b =>
    obtain⟨F',g,T,hb1,hb2⟩:=good_take h (by omega) (by omega) e
    have hz:=h.ok.size
    have g2:=good_put (x:=b) g hn (fun a=>by have:=T.frees a;have:=h.ok.apart a;omega)
    obtain⟨⟨F2,k1⟩,k2⟩:=ih len (B.putN b n) F' ⟨0,2^fourV l v (len+4*s),0,b⟩ (m+2) g2 ⟨(by decide:0<65536),Nat.pow_lt_pow_right (n:=16) (by decide) (fourV_lt _ _ _),(by decide:0<65536),by show b<65536;omega⟩
    exact⟨⟨F2,k1.mono (by omega)⟩,k2⟩
theorem chainN_good {l v h s len m:Nat} {A:Ar} {F:Nat→List Nat} (hA:Good A F m) (hh:h<4294967296) (hp:pnum l v (len+4*s)<15):(∃F',Good (chainN l v h s len A).1 F' (m+2*s+1))∧∀n',(chainN l v h s len A).2=some n'→n'.ok:=by
 unfold chainN
 cases e:A.take 1 with
 | mk B o =>
  cases o with
  | none =>
   have:=good_none hA (by omega) (by omega) e
   subst this
   exact⟨⟨F,hA.mono (by omega)⟩,fun n' q=>by simp at q⟩
  | some b =>
   obtain⟨F',g,T,hb1,hb2⟩:=good_take hA (by omega) (by omega) e
   have hz:=hA.ok.size
   have g2:=good_set (a:=b) g (by have:=T.frees b;have:=hA.ok.apart b;rw[inB_one (Nat.le_refl _) (by omega)] at *;omega) hh
   obtain⟨⟨F2,k1⟩,k2⟩:=chainLoop_good l v s len _ F' ⟨2^pnum l v (len+4*s),0,b,0⟩ (m+1) g2 ⟨Nat.pow_lt_pow_right (n:=16) (by decide) (by omega),(by decide:0<65536),by show b<65536;omega,(by decide:0<65536)⟩
   exact⟨⟨F2,k1.mono (by omega)⟩,k2⟩
theorem moreHop_ok {n:NodeD} {k p:Nat} (h:n.ok) (hk:k<16) (hp:p<65536):(n.moreHop k p).ok:=⟨or_lt (n:=16) h.1 hk,h.2.1,hp,h.2.2.2⟩
theorem moreKid_ok {n:NodeD} {f p:Nat} (h:n.ok) (hk:f<16) (hp:p<65536):(n.moreKid f p).ok:=⟨h.1,or_lt (n:=16) h.2.1 hk,h.2.2.1,hp⟩
theorem grow_none {A B:Ar} {F:Nat→List Nat} {m b n gap more:Nat} (h:Good A F m) (h1:1≤more) (h2:n+more≤32) (e:A.grow b n gap more=(B,none)):B=A:=by
 unfold Ar.grow at e
 cases ht:A.take (n+more) with
 | mk C o =>
  rw[ht] at e
  cases o with
  | none=>simp only[Prod.mk.injEq,and_true] at e;rw[←e];exact good_none h (by omega) h2 ht
  | some y=>simp at e
theorem putHopN_wok {A:Ar} {F:Nat→List Nat} {M:Tab} {m l v h d len u y:Nat} (hA:Good A F m) (hO:OnF A F M d len u y) (hh:h<4294967296) (h1:len≤l) (h3:l<len+4):WOk (putHopN l v h len A y).1.word:=by
 unfold putHopN
 have hp:=pnum_lt (v:=v) h1 (show l≤len+3 by omega)
 have hn:=nodeAt_ok hA.wok y
 split
 ·exact wok_set hA.wok hh
 ·rename_i hb
  have h16:=ones16_room (x:=(nodeAt A.word y).routes) (f:=pnum l v len) (by omega) (by simpa using hb)
  have hm:=ones_mono (nodeAt A.word y).routes (show pnum l v len≤16 by omega)
  cases e:A.grow (nodeAt A.word y).hops (ones 16 (nodeAt A.word y).routes) (ones (pnum l v len) (nodeAt A.word y).routes) 1 with
  | mk B o =>
   cases o with
   | none =>
    have:=grow_none hA (by omega) (by omega) e
    subst this
    exact hA.wok
   | some p =>
    obtain⟨F',g,G,hb1,hb2⟩:=good_grow hA (by omega) (by omega) hm (fun q=>by have:=hO.hopsIn q;omega) hO.hopsApart hO.hopsIn e
    have hz:=hA.ok.size
    exact wok_set (wok_put g.wok (moreHop_ok hn (by omega) (by omega))) hh
theorem putKidN_wok {A:Ar} {F:Nat→List Nat} {M:Tab} {m f d len u y:Nat} {child:NodeD} (hA:Good A F m) (hO:OnF A F M d len u y) (hf:f<16) (hb:(nodeAt A.word y).ways.testBit f=false) (hc:child.ok):WOk (putKidN f A y child).1.word:=by
 unfold putKidN
 have hn:=nodeAt_ok hA.wok y
 have h16:=ones16_room hf hb
 have hm:=ones_mono (nodeAt A.word y).ways (show f≤16 by omega)
 cases e:A.grow (nodeAt A.word y).children (2*ones 16 (nodeAt A.word y).ways) (2*ones f (nodeAt A.word y).ways) 2 with
 | mk B o =>
  cases o with
  | none =>
   have:=grow_none hA (by omega) (by omega) e
   subst this
   exact hA.wok
  | some p =>
   obtain⟨F',g,G,hb1,hb2⟩:=good_grow hA (by omega) (by omega) (by omega) (fun q=>by have:=hO.kidsIn q;omega) hO.kidsApart hO.kidsIn e
   have hz:=hA.ok.size
   exact wok_put (wok_put g.wok (moreKid_ok hn hf (by omega))) hc
theorem OnF.chained {A B:Ar} {F F':Nat→List Nat} {M M':Tab} {d len u y d' len' u' c:Nat} {n:NodeD} {tk:Nat→Nat} (h:OnF A F M d len u y) (C:Chained A F B F' M' d' len' u' n (fun _=>0) tk c):OnF B F' M d len u y∧nodeAt B.word y=nodeAt A.word y:=by
 have hw:∀a,1≤inB a y 2+fp A.word d y a→B.word a=A.word a:=fun a ha=>C.word a (by have:=h.apart a;omega)
 have e0:=hw y (by rw[inB_one (Nat.le_refl _) (by omega)];omega)
 have e1:=hw (y+1) (by rw[inB_one (by omega) (by omega)];omega)
 obtain⟨r1,r2,r3⟩:=rep_move h.rep (agree_refl M len u) e0 e1 (fun a ha=>hw a (by omega))
 refine⟨⟨r1,fun a=>?_⟩,node_same e0 e1⟩
 have e2:=h.apart a
 have e3:=C.frees a
 have e4:=r2 a
 have e5:edge B a=edge A a:=by unfold edge;rw[C.size]
 omega
theorem putTree_wok {A:Ar} {F:Nat→List Nat} {M:Tab} {L m l v h d u x:Nat} (hA:Good A F m) (hT:TabOk L M) (hL:L≤128) (hO:OnF A F M d 8 u x) (hh:h<4294967296) (h1:8≤l) (h3:l≤8+4*d) (hl:l≤128) (h2:v/2^(l-8)=u):WOk (putTree l v h A x).1.word:=by
 obtain⟨t,d2,y,e,q1,q2,O,q5⟩:=hO.reach h1 h3 h2
 unfold putTree
 rw[e]
 simp only[]
 split
 ·rename_i hlt
  exact putHopN_wok hA O hh (by omega) hlt
 ·rename_i hge
  have hp:pnum l v (8+4*t+4+4*((l-(8+4*t+4))/4))<15:=pnum_lt (by omega) (by omega)
  have hbit:=q5 (by omega)
  have hnext:=fourV_next (l:=l) (v:=v) (len:=8+4*t) (by omega) rfl
  have hany:anyBelow M (8+4*t+4) (v/2^(l-(8+4*t+4)))=false:=by
   have hway:=O.rep.node.way _ (fourV_lt l v (8+4*t))
   rw[hnext,←hway]
   exact hbit
  have hs:=single_new (l:=l) (v:=v) (h:=h) hT hL hany
  obtain⟨⟨F2,k1⟩,k2⟩:=chainN_good (l:=l) (v:=v) (h:=h) (s:=(l-(8+4*t+4))/4) (len:=8+4*t+4) hA hh hp
  rcases chainN_ok (h:=h) (d:=0) (live:=edge A) hl (fun a ha=>by have:=hA.ok.size;rw[edge_high (by omega)];omega) hA.ok (by have:=hA.top;omega) hs (show 8+4*t+4+4*((l-(8+4*t+4))/4)≤l by omega) (by omega) (fun a=>by have:=O.apart a;omega) with ⟨c1,_⟩ | ⟨B,n,F',tk,c1,C,_⟩
  ·cases ec:chainN l v h ((l-(8+4*t+4))/4) (8+4*t+4) A with
   | mk B o =>
    rw[ec] at c1 k1
    cases o with
    | none=>exact k1.wok
    | some n=>simp at c1
  ·rw[c1] at k1 k2
   rw[c1]
   obtain⟨O2,en⟩:=O.chained C
   have k3:Good B F' (m+2*((l-(8+4*t+4))/4)+1):=by
    refine⟨C.ok,k1.wok,?_,k1.top,k1.lo,k1.hi⟩
    intro a ha
    have e1:=C.frees a
    rw[C.size] at ha
    have e2:=hA.out a ha
    omega
   exact putKidN_wok k3 O2 (fourV_lt _ _ _) (by rw[en];exact hbit) (k2 n rfl)
theorem putRoot_wok {A:Ar} {F:Nat→List Nat} {M:Bool→Tab} (h:Inv A F M) (hw:WOk A.word) (q:Bool) {l v x:Nat} (h1:8≤l) (h3:l≤8+4*dp q) (hv:v<2^l) (hx:x<4294967296):WOk (putRoot A q l v x).1.word:=by
 have hb:v/2^(l-8)<256:=by
  rw[Nat.div_lt_iff_lt_mul (Nat.two_pow_pos _)]
  have:256*2^(l-8)=2^l:=by rw[show (256:Nat)=2^8 from rfl,←Nat.pow_add];congr 1;omega
  omega
 have hg:=h.good hw
 have hd:=dp_le q
 unfold putRoot
 split
 ·rename_i h0
  have hp:pnum l v (8+4*((l-8)/4))<15:=pnum_lt (by omega) (by omega)
  obtain⟨⟨F2,k1⟩,k2⟩:=chainN_good (l:=l) (v:=v) (h:=x) (s:=(l-8)/4) (len:=8) hg hx hp
  cases ec:chainN l v x ((l-8)/4) 8 A with
  | mk B o =>
   rw[ec] at k1 k2
   cases o with
   | none=>exact k1.wok
   | some n =>
    simp only[]
    cases et:B.take 2 with
    | mk C o =>
     cases o with
     | none =>
      have:=good_none k1 (by omega) (by omega) et
      subst this
      exact k1.wok
     | some y =>
      obtain⟨F3,g,T,b1,b2⟩:=good_take k1 (by omega) (by omega) et
      have hz:=k1.ok.size
      have hw2:=wok_put (x:=y) g.wok (k2 n rfl)
      refine wok_set hw2 ?_
      have:=hw2 (rt q+v/2^(l-8))
      omega
 ·rename_i h0
  exact putTree_wok hg (h.tab q) (by omega) (OnF.root h q hb h0) hx h1 h3 (by omega) rfl
end Go.Proofs.YtnapboelfimaaaaGreatDoor
namespace Go.Proofs.YtnapboelfimaaaaGreatDoor
theorem removeN_free (l v:Nat):∀(d len:Nat) (A:Ar) (x:Nat),A.free≤(removeN l v d len A x).1.free∧(removeN l v d len A x).1.free≤A.free+(2*d+2:Nat)∧(removeN l v d len A x).1.size=A.size∧(removeN l v d len A x).1.top=A.top:=by
 have hsh:∀(A:Ar) (b n g k:Nat),(A.shrink b n g k).free=A.free+k∧(A.shrink b n g k).size=A.size∧(A.shrink b n g k).top=A.top:=by
  intro A b n g k
  unfold Ar.shrink Ar.give
  split
  ·rename_i q;subst q;exact⟨by simp,rfl,rfl⟩
  ·exact⟨rfl,rfl,rfl⟩
 intro d
 induction d with
 | zero =>
  intro len A x
  unfold removeN
  split
  ·split
   ·obtain⟨h1,h2,h3⟩:=hsh A (nodeAt A.word x).hops (ones 16 (nodeAt A.word x).routes) (ones (pnum l v len) (nodeAt A.word x).routes) 1
    exact⟨by show A.free≤(A.shrink _ _ _ _).free;omega,by show (A.shrink _ _ _ _).free≤_;omega,h2,h3⟩
   ·exact⟨by show A.free≤A.free;omega,by show A.free≤_;omega,rfl,rfl⟩
  ·exact⟨by show A.free≤A.free;omega,by show A.free≤_;omega,rfl,rfl⟩
 | succ d ih =>
  intro len A x
  unfold removeN
  split
  ·split
   ·obtain⟨h1,h2,h3⟩:=hsh A (nodeAt A.word x).hops (ones 16 (nodeAt A.word x).routes) (ones (pnum l v len) (nodeAt A.word x).routes) 1
    exact⟨by show A.free≤(A.shrink _ _ _ _).free;omega,by show (A.shrink _ _ _ _).free≤_;omega,h2,h3⟩
   ·exact⟨by show A.free≤A.free;omega,by show A.free≤_;omega,rfl,rfl⟩
  ·simp only[]
   split
   ·have k:=ih (len+4) A ((nodeAt A.word x).kid (fourV l v len))
    cases e:removeN l v d (len+4) A ((nodeAt A.word x).kid (fourV l v len)) with
    | mk B r =>
     obtain⟨fo,em⟩:=r
     rw[e] at k
     obtain⟨k1,k2,k3,k4⟩:=k
     simp only[] at k1 k2 k3 k4 ⊢
     split
     ·obtain⟨h1,h2,h3⟩:=hsh B (nodeAt A.word x).children (2*ones 16 (nodeAt A.word x).ways) (2*ones (fourV l v len) (nodeAt A.word x).ways) 2
      exact⟨by show A.free≤(B.shrink _ _ _ _).free;omega,by show (B.shrink _ _ _ _).free≤_;omega,h2.trans k3,h3.trans k4⟩
     ·exact⟨by show A.free≤B.free;omega,by show B.free≤_;omega,k3,k4⟩
   ·exact⟨by show A.free≤A.free;omega,by show A.free≤_;omega,rfl,rfl⟩
theorem dropHop_ok {n:NodeD} {k:Nat} (h:n.ok) (hk:k<16):(n.dropHop k).ok:=by
 refine⟨clr_lt (n:=16) h.1 hk,h.2.1,?_,h.2.2.2⟩
 show (if ones 16 n.routes=1 then 0 else n.hops)<65536
 split
 ·omega
 ·exact h.2.2.1
theorem dropKid_ok {n:NodeD} {k:Nat} (h:n.ok) (hk:k<16):(n.dropKid k).ok:=by
 refine⟨h.1,clr_lt (n:=16) h.2.1 hk,h.2.2.1,?_⟩
 show (if 2*ones 16 n.ways=2 then 0 else n.children)<65536
 split
 ·omega
 ·exact h.2.2.2
theorem removed_good {A B:Ar} {F F':Nat→List Nat} {M:Tab} {l v d len u x m:Nat} (h:Good A F m) (hO:OnF A F M d len u x) (R:Removed A F B F' M l v d len u x) (hw:WOk B.word) (hf1:A.free≤B.free) (hf2:B.free≤A.free+(2*d+2:Nat)):Good B F' (m+(2*d+2)):=by
 have l1:=h.lo
 have l2:=h.hi
 refine⟨R.ok,hw,?_,by rw[R.top];exact h.top,by omega,by omega⟩
 intro a ha
 rw[R.size] at ha
 have e1:=R.frees a
 have e2:=hO.apart a
 have e3:edge A a=1:=if_pos ha
 omega
theorem removeN_wok {M:Tab} {L l v:Nat} (hT:TabOk L M) (hL:L≤128):∀(d len u x:Nat) (A:Ar) (F:Nat→List Nat) (m:Nat),Good A F m→OnF A F M d len u x→len≤l→l≤len+4*d+3→v/2^(l-len)=u→WOk (removeN l v d len A x).1.word:=by
 have hleaf:∀(d len u x:Nat) (A:Ar) (F:Nat→List Nat) (m:Nat),Good A F m→OnF A F M d len u x→len≤l→l<len+4→(nodeAt A.word x).routes.testBit (pnum l v len)=true→WOk ((A.shrink (nodeAt A.word x).hops (ones 16 (nodeAt A.word x).routes) (ones (pnum l v len) (nodeAt A.word x).routes) 1).putN x ((nodeAt A.word x).dropHop (pnum l v len))).word:=by
  intro d len u x A F m hA hO h1 h3 hb
  have hp:=pnum_lt (v:=v) h1 (show l≤len+3 by omega)
  have hlt:=ones_lt (n:=16) (by omega) hb
  have h16:=ones_le 16 (nodeAt A.word x).routes
  obtain⟨F',g,S⟩:=good_shrink (gap:=ones (pnum l v len) (nodeAt A.word x).routes) (less:=1) hA (by omega) (by omega) (by omega) (hO.hopsIn (by omega)) hO.hopsApart
  exact wok_put g.wok (dropHop_ok (nodeAt_ok hA.wok x) (by omega))
 intro d
 induction d with
 | zero =>
  intro len u x A F m hA hO h1 h3 h2
  unfold removeN
  split
  ·rename_i hlt
   split
   ·rename_i hb;exact hleaf _ _ _ _ _ _ _ hA hO h1 hlt hb
   ·exact hA.wok
  ·exact hA.wok
 | succ d ih =>
  intro len u x A F m hA hO h1 h3 h2
  unfold removeN
  split
  ·rename_i hlt
   split
   ·rename_i hb;exact hleaf _ _ _ _ _ _ _ hA hO h1 hlt hb
   ·exact hA.wok
  ·rename_i hge
   simp only[]
   split
   ·rename_i hb
    have hO2:=hO.kid (fourV_lt l v len) hb
    have hnext:=fourV_next (l:=l) (v:=v) (len:=len) (by omega) h2
    have k:=ih (len+4) (16*u+fourV l v len) ((nodeAt A.word x).kid (fourV l v len)) A F m hA hO2 (by omega) (by omega) hnext
    have kf:=removeN_free l v d (len+4) A ((nodeAt A.word x).kid (fourV l v len))
    have kr:=remove_ok (l:=l) (v:=v) hT hL d (len+4) (16*u+fourV l v len) ((nodeAt A.word x).kid (fourV l v len)) A F hA.ok hO2.rep (by omega) (by omega) hnext (fun a=>by have:=hO2.apart a;omega) (by have:=hO2.apart 0;rw[edge_low (by omega)] at this;omega)
    cases e:removeN l v d (len+4) A ((nodeAt A.word x).kid (fourV l v len)) with
    | mk B r =>
     obtain⟨fo,em⟩:=r
     rw[e] at k kf kr
     simp only[] at k kf ⊢
     split
     ·rename_i hem
      rcases kr with ⟨_,q⟩ | ⟨_,B',F',q,R⟩
      ·simp only[Prod.mk.injEq] at q;rw[hem] at q;simp at q
      ·simp only[Prod.mk.injEq] at q
       obtain⟨rfl,_,_⟩:=q
       have g:=removed_good hA hO2 R k kf.1 kf.2.1
       have h16:=ones_le 16 (nodeAt A.word x).ways
       have hlt:=ones_lt (n:=16) (fourV_lt l v len) hb
       obtain⟨F2,g2,S⟩:=good_shrink (b:=(nodeAt A.word x).children) (n:=2*ones 16 (nodeAt A.word x).ways) (gap:=2*ones (fourV l v len) (nodeAt A.word x).ways) (less:=2) g (by omega) (by omega) (by omega) (by rw[R.size];exact hO.kidsIn (by omega)) (by
        intro a
        have e1:=R.frees a
        have e2:=hO.apart a
        have e3:inB a (nodeAt A.word x).children (2*ones 16 (nodeAt A.word x).ways)+fp A.word d ((nodeAt A.word x).kid (fourV l v len)) a≤fp A.word (d+1) x a:=by
         show _≤inB a (nodeAt A.word x).hops (ones 16 (nodeAt A.word x).routes)+inB a (nodeAt A.word x).children (2*ones 16 (nodeAt A.word x).ways)+sumTo 16 fun f=>if (nodeAt A.word x).ways.testBit f then fp A.word d ((nodeAt A.word x).kid f) a else 0
         have:=le_sumTo (fun f=>if (nodeAt A.word x).ways.testBit f then fp A.word d ((nodeAt A.word x).kid f) a else 0) (fourV_lt l v len)
         simp only[hb,if_true] at this
         omega
        omega)
       exact wok_put g2.wok (dropKid_ok (nodeAt_ok hA.wok x) (fourV_lt _ _ _))
     ·exact k
   ·exact hA.wok
theorem delLong_wok {A:Ar} {F:Nat→List Nat} {M:Bool→Tab} (h:Inv A F M) (hw:WOk A.word) (q:Bool) {l v:Nat} (h1:8≤l) (h3:l≤8+4*dp q) (hv:v<2^l):WOk (delLong A q l v).1.word:=by
 have hL:=dp_le q
 have hb:=byte_of h1 hv
 have hg:=h.good hw
 unfold delLong
 split
 ·exact hw
 ·rename_i h0
  have hO:=OnF.root h q hb h0
  have k:=removeN_wok (l:=l) (v:=v) (h.tab q) hL (dp q) 8 _ _ A F 0 hg hO h1 (by omega) rfl
  have kf:=removeN_free l v (dp q) 8 A (A.word (rt q+v/2^(l-8))%65536)
  have kr:=remove_ok (l:=l) (v:=v) (h.tab q) hL (dp q) 8 _ _ A F h.ar hO.rep h1 (by omega) rfl (fun a=>by have:=hO.apart a;omega) (by have:=hO.apart 0;rw[edge_low (by omega)] at this;omega)
  cases e:removeN l v (dp q) 8 A (A.word (rt q+v/2^(l-8))%65536) with
  | mk B r =>
   obtain⟨fo,em⟩:=r
   rw[e] at k kf kr
   simp only[] at k kf ⊢
   split
   ·rename_i hem
    rcases kr with ⟨_,q2⟩ | ⟨_,B',F',q2,R⟩
    ·simp only[Prod.mk.injEq] at q2;rw[hem] at q2;simp at q2
    ·simp only[Prod.mk.injEq] at q2
     obtain⟨rfl,_,_⟩:=q2
     have g:=removed_good hg hO R k kf.1 kf.2.1
     have hz:=hw (rt q+v/2^(l-8))
     refine wok_set (wok_give k (fun _=>by have:=g.given_lt (s:=2) (by omega) (by omega);omega)) (by omega)
   ·exact k
structure Src (A:Ar) (M:Bool→Tab):Prop where
 size:2048≤A.size
 size2:A.size≤65536
 root:∀q,Root A.word (M q) (rt q) (dp q)
 tab:∀q,TabOk (8+4*dp q) (M q)
 sep:∀a,edge A a+liveR A.word (rt false) (dp false) a+liveR A.word (rt true) (dp true) a≤1
 fits:1024+costR A.word (rt false) (dp false)+costR A.word (rt true) (dp true)≤A.size
 wok:WOk A.word
theorem Inv.src {A:Ar} {F:Nat→List Nat} {M:Bool→Tab} (h:Inv A F M) (hw:WOk A.word):Src A M:=⟨h.size,h.ar.size,h.root,h.tab,fun a=>by have:=h.sep a;omega,h.fits,hw⟩
theorem Src.on {A:Ar} {M:Bool→Tab} (h:Src A M) (q:Bool) {b:Nat} (hb:b<256) (h0:A.word (rt q+b)%65536≠0):On A (M q) (dp q) 8 b (A.word (rt q+b)%65536):=by
 refine⟨(h.root q).rep b hb h0,fun a=>?_⟩
 have e1:=h.sep a
 have e2:=live1_le A.word (rt q) (dp q) a hb
 unfold live1 at e2
 rw[if_neg h0] at e2
 cases q <;> omega
theorem putRoot_src {A:Ar} {F:Nat→List Nat} {M:Bool→Tab} (h:Inv A F M) (hw:WOk A.word) (q:Bool) {l v x:Nat} (h1:8≤l) (h3:l≤8+4*dp q) (hv:v<2^l) (hx:x<4294967296) (hf:(putRoot A q l v x).2=false):Src (putRoot A q l v x).1 M∧(putRoot A q l v x).1.size=A.size:=by
 have hwk:=putRoot_wok h hw q h1 h3 hv hx
 rcases putRoot_ok (x:=x) h q h1 h3 hv with ⟨i1,i2,i3,i4⟩ | ⟨B,F',i1,i2,i3⟩
 ·generalize hR:putRoot A q l v x=R at i1 i2 i3 hwk
  obtain⟨B,o⟩:=R
  simp only[] at i1 i2 i3 hwk ⊢
  have hmv:∀p,Root B.word (M p) (rt p) (dp p)∧(∀a,liveR B.word (rt p) (dp p) a=liveR A.word (rt p) (dp p) a)∧costR B.word (rt p) (dp p)=costR A.word (rt p) (dp p):=by
   intro p
   refine root_move (h.root p) (fun a t1 t2=>i2 a ?_) (fun a t=>i2 a ?_)
   ·have e1:=h.sepq p a
    rw[edge_low (by have:=rt_le p;omega)] at e1
    omega
   ·have e1:=h.sepq p a
    omega
  refine⟨⟨by rw[i3];exact h.size,by rw[i3];exact h.ar.size,fun p=>(hmv p).1,h.tab,fun a=>?_,?_,hwk⟩,i3⟩
  ·rw[(hmv false).2.1,(hmv true).2.1]
   have e1:=h.sep a
   have e2:edge B a=edge A a:=by unfold edge;rw[i3]
   omega
  ·rw[(hmv false).2.2,(hmv true).2.2,i3]
   exact h.fits
 ·rw[i1] at hf;simp at hf
theorem Src.compact {A:Ar} {M:Bool→Tab} (h:Src A M):Inv (compactN A.word A.size) (fun _=>[]) M∧(compactN A.word A.size).size=A.size:=by
 obtain⟨c1,c2,c3,c4⟩:=compact_ok h.root h.tab h.size h.size2 h.fits
 exact⟨c1,c4⟩
theorem wok_fill {U W:Nat→Nat} {b s n:Nat} (h:WOk U) (h2:WOk W):WOk (fillW U W b s n):=by
 intro a
 unfold fillW
 split
 ·exact h2 _
 ·exact h _
theorem copyHops_wok {W:Nat→Nat} {A:Ar} {x:Nat} (h:WOk A.word) (h2:WOk W):WOk (copyHops W A x).word:=by
 unfold copyHops
 split
 ·exact h
 ·exact wok_fill h h2
theorem own_cost (W:Nat→Nat) (d x:Nat):ones 16 (nodeAt W x).routes+2*ones 16 (nodeAt W x).ways≤costW W d x:=by
 cases d with
 | zero=>exact Nat.le_refl _
 | succ d=>unfold costW;omega
theorem copied_ok {W:Nat→Nat} {A:Ar} {x d:Nat} (h2:WOk W) (ht:A.top+costW W d x≤65536):(copiedNode W A x).ok:=by
 have hn:=nodeAt_ok h2 x
 have ho:=own_cost W d x
 have hh:=(hops_facts W A x).1
 refine⟨hn.1,hn.2.1,?_,?_⟩
 ·show (if ones 16 (nodeAt W x).routes=0 then (nodeAt W x).hops else A.top)<65536
  split
  ·exact hn.2.2.1
  ·omega
 ·show (if ones 16 (nodeAt W x).ways=0 then (nodeAt W x).children else (copyHops W A x).top)<65536
  split
  ·exact hn.2.2.2
  ·omega
theorem copyN_wok {W:Nat→Nat} {M:Tab} (h2:WOk W):∀(d len u x y:Nat) (A:Ar),Rep W M d len u x→y+2≤A.top→A.top+costW W d x≤65536→WOk A.word→WOk (copyN W d A x y).word:=by
 intro d
 induction d with
 | zero =>
  intro len u x y A hr hy ht hA
  unfold copyN
  exact wok_put (copyHops_wok hA h2) (copied_ok h2 ht)
 | succ d ih =>
  intro len u x y A hr hy ht hA
  have hcost:costW W (d+1) x=ones 16 (nodeAt W x).routes+2*ones 16 (nodeAt W x).ways+sumTo (ones 16 (nodeAt W x).ways) (fun k=>costW W d ((nodeAt W x).children+2*k)):=by
   show ones 16 (nodeAt W x).routes+2*ones 16 (nodeAt W x).ways+(sumTo 16 fun f=>if (nodeAt W x).ways.testBit f then costW W d ((nodeAt W x).kid f) else 0)=_
   rw[←sum_select (nodeAt W x).ways (fun k=>costW W d ((nodeAt W x).children+2*k)) 16]
   rfl
  have hh:=hops_facts W A x
  unfold copyN
  refine wok_put ?_ (copied_ok h2 ht)
  split
  ·exact copyHops_wok hA h2
  ·rename_i hw0
   have hbase:WOk ((copyHops W A x).bump (2*ones 16 (nodeAt W x).ways)).word:=copyHops_wok hA h2
   have hbt:((copyHops W A x).bump (2*ones 16 (nodeAt W x).ways)).top=A.top+ones 16 (nodeAt W x).routes+2*ones 16 (nodeAt W x).ways:=by
    show (copyHops W A x).top+_=_
    rw[hh.1]
   have key:∀k,k≤ones 16 (nodeAt W x).ways→WOk ((List.range k).foldl (fun B k=>copyN W d B ((nodeAt W x).children+2*k) ((copyHops W A x).top+2*k)) ((copyHops W A x).bump (2*ones 16 (nodeAt W x).ways))).word:=by
    intro k
    induction k with
    | zero=>intro _;exact hbase
    | succ k ihk =>
     intro hk
     rw[List.range_succ,List.foldl_append]
     simp only[List.foldl_cons,List.foldl_nil]
     have kk:=kids_ok (p:=(copyHops W A x).top) (fun len u x y A=>copy_ok d len u x y A) hr ((copyHops W A x).bump (2*ones 16 (nodeAt W x).ways)) rfl (by rw[hbt];omega) k (by omega) _ rfl
     have ih2:=ihk (by omega)
     generalize hB:(List.range k).foldl (fun B k=>copyN W d B ((nodeAt W x).children+2*k) ((copyHops W A x).top+2*k)) ((copyHops W A x).bump (2*ones 16 (nodeAt W x).ways))=B at kk ih2
     obtain⟨f,f1,f2,f3⟩:=select (show k<ones 16 (nodeAt W x).ways by omega)
     have hrk:=hr.2 f f1 f2
     unfold NodeD.kid at hrk
     rw[f3] at hrk
     have hsb:=sum_below (fun k=>costW W d ((nodeAt W x).children+2*k)) (show k<ones 16 (nodeAt W x).ways by omega)
     refine ih _ _ _ _ B hrk ?_ ?_ ih2
     ·rw[kk.1,hbt,hh.1];omega
     ·rw[kk.1,hbt];omega
   exact key _ (Nat.le_refl _)
theorem copyFirsts_wok {W:Nat→Nat} {M:Tab} {q:Bool} (h2:WOk W) (R:Root W M (rt q) (dp q)) (A:Ar) (hA:1024≤A.top) (ht:A.top+costR W (rt q) (dp q)≤65536) (hw:WOk A.word):∀k,k≤256→WOk (copyFirsts W q A k).word:=by
 intro k
 induction k with
 | zero=>intro _;exact hw
 | succ k ih =>
  intro hk
  have h1:=ih (by omega)
  have hf:=firsts_ok R A hA ht k (by omega)
  rw[copyFirsts_succ]
  have hz:=h2 (rt q+k)
  have hsb:=sum_below (cost1 W (rt q) (dp q)) (show k<256 by omega)
  have hsb2:sumTo k (cost1 W (rt q) (dp q))+cost1 W (rt q) (dp q) k≤costR W (rt q) (dp q):=hsb
  unfold copyFirst1
  split
  ·exact wok_set h1 (by omega)
  ·rename_i h0
   have hc1:cost1 W (rt q) (dp q) k=2+costW W (dp q) (W (rt q+k)%65536):=if_neg h0
   rw[hc1] at hsb2
   have ht2:=hf.top
   have hr:=R.rep k (by omega) h0
   refine wok_set (copyN_wok (M:=M) h2 (dp q) 8 k _ _ _ hr ?_ ?_ h1) ?_
   ·show _+2≤(copyFirsts W q A k).top+2;omega
   ·show (copyFirsts W q A k).top+2+_≤_;omega
   ·omega
theorem compactN_wok {A:Ar} {M:Bool→Tab} (h:Src A M):WOk (compactN A.word A.size).word:=by
 have hf:=h.fits
 have hz:=h.size2
 have h0:WOk (newAr A.size).word:=fun a=>by show 0<4294967296;decide
 have r1:=copyRoot_ok (h.root false) (newAr A.size) (Nat.le_refl _) (by show 1024+_≤_;omega)
 have w1:=copyFirsts_wok h.wok (h.root false) (newAr A.size) (Nat.le_refl _) (by show 1024+_≤_;omega) h0 256 (Nat.le_refl _)
 have w2:WOk (copyShorts A.word false (copyFirsts A.word false (newAr A.size) 256)).word:=wok_fill w1 h.wok
 have ht:=r1.top
 unfold compactN
 refine wok_fill (copyFirsts_wok h.wok (h.root true) _ ?_ ?_ w2 256 (Nat.le_refl _)) h.wok
 ·rw[ht];show 1024≤1024+_;omega
 ·rw[ht];show 1024+_+_≤_;omega
theorem insLong_wok {A:Ar} {F:Nat→List Nat} {M:Bool→Tab} (h:Inv A F M) (hw:WOk A.word) (q:Bool) {l v x:Nat} (h1:8≤l) (h3:l≤8+4*dp q) (hv:v<2^l) (hx:x<4294967296):WOk (insLong A q l v x).1.word:=by
 have k1:=putRoot_wok h hw q h1 h3 hv hx
 have k2:=putRoot_src h hw q h1 h3 hv hx
 unfold insLong
 split
 ·exact hw
 ·cases e:putRoot A q l v x with
  | mk B o =>
   rw[e] at k1 k2
   cases o with
   | true=>exact k1
   | false =>
    have S:=(k2 rfl).1
    exact putRoot_wok S.compact.1 (compactN_wok S) q h1 h3 hv hx
theorem wok_mark {W:Nat→Nat} {M:Tab} {r dm l v:Nat} {t:Bool} (h:WOk W) (R:Root W M r dm) (hl:l<8) (hv:v<2^l):WOk (markW W r l v t):=by
 intro a
 unfold markW
 split
 ·rename_i ha
  have hfit:(v+1)*2^(8-l)≤256:=by
   have:(v+1)*2^(8-l)≤2^l*2^(8-l):=Nat.mul_le_mul_right _ (by omega)
   rw[←Nat.pow_add,show l+(8-l)=8 by omega] at this
   exact this
  have hs:W a/65536<2^8:=by
   have:=R.lt (a-r) (by omega)
   rw[show r+(a-r)=a by omega] at this
   exact this
  split
  ·have:=or_lt (n:=8) hs hl;omega
  ·have:=clr_lt (n:=8) hs hl;omega
 ·exact h a
theorem shortN_wok {A:Ar} {F:Nat→List Nat} {M:Bool→Tab} (h:Inv A F M) (hw:WOk A.word) (q:Bool) {l v:Nat} (o:Option Nat) (hl:l<8) (hv:v<2^l) (hx:∀x,o=some x→x<4294967296):WOk (shortN A q l v o).word:=by
 unfold shortN
 cases o with
 | none=>exact wok_mark hw (h.root q) hl hv
 | some x=>exact wok_set (wok_mark hw (h.root q) hl hv) (hx x rfl)
theorem insN_wok {A:Ar} {F:Nat→List Nat} {M:Bool→Tab} (h:Inv A F M) (hw:WOk A.word) (q:Bool) {l v x:Nat} (h3:l≤8+4*dp q) (hv:v<2^l) (hx:x<4294967296):WOk (insN A q l v x).1.word:=by
 unfold insN
 split
 ·rename_i hl;exact shortN_wok h hw q (some x) hl hv (fun y e=>by cases e;exact hx)
 ·exact insLong_wok h hw q (by omega) h3 hv hx
theorem delN_wok {A:Ar} {F:Nat→List Nat} {M:Bool→Tab} (h:Inv A F M) (hw:WOk A.word) (q:Bool) {l v:Nat} (h3:l≤8+4*dp q) (hv:v<2^l):WOk (delN A q l v).1.word:=by
 unfold delN
 split
 ·rename_i hl
  split
  ·exact shortN_wok h hw q none hl hv (fun y e=>by cases e)
  ·exact hw
 ·exact delLong_wok h hw q (by omega) h3 hv
end Go.Proofs.YtnapboelfimaaaaGreatDoor
namespace Go.Proofs.YtnapboelfimaaaaGreatDoor
open Go
def dig (K i:Nat):Nat:=K/2^(8*(16-i))%256
theorem dig_lt (K i:Nat):dig K i<256:=Nat.mod_lt _ (by decide)
def digL (K:Nat):Nat→Nat→List UInt8
 | _,0=>[]
 | i,m+1=>UInt8.ofNat (dig K i) :: digL K (i+1) m
theorem digL_map (K:Nat):∀m i,digL K i m=(List.range m).map fun j=>UInt8.ofNat (dig K (i+j)):=by
 intro m
 induction m with
 | zero=>intro i;rfl
 | succ m ih =>
  intro i
  rw[List.range_succ_eq_map,List.map_cons,List.map_map]
  show UInt8.ofNat (dig K i) :: digL K (i+1) m=_
  rw[ih]
  congr 1
  apply List.map_congr_left
  intro j _
  simp only[Function.comp]
  congr 2
  omega
theorem digL_len (K m i:Nat):(digL K i m).length=m:=by rw[digL_map];simp
def part (K i m:Nat):Nat:=K/2^(8*(17-i-m))%2^(8*m)
theorem part_succ {K i m:Nat} (h:i+(m+1)≤17):part K i (m+1)=dig K i*2^(8*m)+part K (i+1) m:=by
 unfold part dig
 rw[show 17-i-(m+1)=17-(i+1)-m by omega]
 generalize hX:K/2^(8*(17-(i+1)-m))=X
 have hK:K/2^(8*(16-i))=X/2^(8*m):=by
  rw[←hX,Nat.div_div_eq_div_mul,←Nat.pow_add]
  congr 2
  omega
 rw[hK]
 rw[show 8*(m+1)=8*m+8 by omega,Nat.pow_add,Nat.mod_mul]
 rw[show (2:Nat)^8=256 from rfl,Nat.mul_comm (2^(8*m)),Nat.add_comm]
theorem part_lt (K i m:Nat):part K i m<2^(8*m):=Nat.mod_lt _ (Nat.two_pow_pos _)
theorem ofNat_lt {a b:Nat} (ha:a<256) (hb:b<256):(UInt8.ofNat a<UInt8.ofNat b)↔a<b:=by
 rw[UInt8.lt_iff_toNat_lt]
 simp[Nat.mod_eq_of_lt ha,Nat.mod_eq_of_lt hb]
theorem ofNat_eq {a b:Nat} (ha:a<256) (hb:b<256):(UInt8.ofNat a=UInt8.ofNat b)↔a=b:=by
 rw[←UInt8.toNat_inj]
 simp[Nat.mod_eq_of_lt ha,Nat.mod_eq_of_lt hb]
theorem less_part (K L:Nat):∀m i,i+m≤17→Op.bytesLess (digL K i m) (digL L i m)=decide (part K i m<part L i m):=by
 intro m
 induction m with
 | zero =>
  intro i _
  show Op.bytesLess [] []=_
  unfold part
  simp[Op.bytesLess,Nat.mod_one]
 | succ m ih =>
  intro i hi
  show Op.bytesLess (UInt8.ofNat (dig K i) :: digL K (i+1) m) (UInt8.ofNat (dig L i) :: digL L (i+1) m)=_
  unfold Op.bytesLess
  rw[ih (i+1) (by omega),part_succ hi,part_succ hi]
  have h1:=part_lt K (i+1) m
  have h2:=part_lt L (i+1) m
  have d1:=dig_lt K i
  have d2:=dig_lt L i
  generalize part K (i+1) m=p at *
  generalize part L (i+1) m=q at *
  generalize 2^(8*m)=N at *
  have e1:(decide (UInt8.ofNat (dig K i)<UInt8.ofNat (dig L i)))=decide (dig K i<dig L i):=by
   simp only[ofNat_lt d1 d2]
  have e2:(UInt8.ofNat (dig K i)==UInt8.ofNat (dig L i))=decide (dig K i=dig L i):=by
   by_cases q:dig K i=dig L i
   ·rw[q];simp
   ·have:UInt8.ofNat (dig K i)≠UInt8.ofNat (dig L i):=fun h=>q ((ofNat_eq d1 d2).1 h)
    simp[q,this]
  rw[e1,e2]
  generalize dig K i=a at *
  generalize dig L i=b at *
  rcases Nat.lt_trichotomy a b with hab | hab | hab
  ·have:a*N+p<b*N+q:=by
    have:(a+1)*N≤b*N:=Nat.mul_le_mul_right _ hab
    rw[Nat.add_mul,Nat.one_mul] at this
    omega
   simp[hab,this]
  ·subst hab
   simp
  ·have:¬a*N+p<b*N+q:=by
    have:(b+1)*N≤a*N:=Nat.mul_le_mul_right _ hab
    rw[Nat.add_mul,Nat.one_mul] at this
    omega
   have h3:¬a<b:=by omega
   have h4:¬a=b:=by omega
   simp[h3,h4,this]
theorem part_zero {K n:Nat} (hK:K<2^136) (hn:n≤17):part K 0 n=K/2^(8*(17-n)):=by
 unfold part
 rw[show 17-0-n=17-n by omega]
 refine Nat.mod_eq_of_lt ?_
 rw[Nat.div_lt_iff_lt_mul (Nat.two_pow_pos _),←Nat.pow_add,show 8*n+8*(17-n)=136 by omega]
 exact hK
def Whole (n K:Nat):Prop:=K<2^136∧K%2^(8*(17-n))=0
theorem whole_of {n l K:Nat} (hK:K<2^136) (hl:l≤8*n) (hn:n≤17) (h:K%2^(136-l)=0):Whole n K:=by
 refine⟨hK,?_⟩
 have hd:2^(8*(17-n)) ∣ 2^(136-l):=Nat.pow_dvd_pow 2 (by omega)
 exact Nat.mod_eq_zero_of_dvd (Nat.dvd_trans hd (Nat.dvd_of_mod_eq_zero h))
theorem less_whole {n K L:Nat} (hn:n≤17) (h1:Whole n K) (h2:Whole n L):Op.bytesLess (digL K 0 n) (digL L 0 n)=decide (K<L):=by
 rw[less_part K L n 0 (by omega),part_zero h1.1 hn,part_zero h2.1 hn]
 have hp:=Nat.two_pow_pos (8*(17-n))
 have e1:=Nat.div_add_mod K (2^(8*(17-n)))
 have e2:=Nat.div_add_mod L (2^(8*(17-n)))
 rw[h1.2] at e1
 rw[h2.2] at e2
 generalize 2^(8*(17-n))=N at *
 generalize K/N=a at *
 generalize L/N=b at *
 congr 1
 apply propext
 constructor
 ·intro q
  have:=Nat.mul_lt_mul_of_pos_left q hp
  omega
 ·intro q
  by_cases hab:a<b
  ·exact hab
  ·have:=Nat.mul_le_mul_left N (show b≤a by omega)
   omega
theorem bytesLess_irrefl:∀l:List UInt8,Op.bytesLess l l=false:=by
 intro l
 induction l with
 | nil=>rfl
 | cons a l ih=>unfold Op.bytesLess;rw[ih];simp
theorem same_whole {n K L:Nat} (hn:n≤17) (h1:Whole n K) (h2:Whole n L):(digL K 0 n=digL L 0 n)↔K=L:=by
 constructor
 ·intro e
  have q1:=less_whole hn h1 h2
  have q2:=less_whole hn h2 h1
  have q3:=bytesLess_irrefl (digL L 0 n)
  rw[e] at q1 q2
  rw[q3] at q1 q2
  have h3:¬K<L:=of_decide_eq_false q1.symm
  have h4:¬L<K:=of_decide_eq_false q2.symm
  omega
 ·intro e;rw[e]
end Go.Proofs.YtnapboelfimaaaaGreatDoor
namespace Go.Proofs.YtnapboelfimaaaaGreatDoor
end Go.Proofs.YtnapboelfimaaaaGreatDoor
