/- MathJ, MathK, MathL, MathM: parts of the proof, one behind the other. -/
import Derived.Test.YtnapboelfimaaaaGreatDoorB02
namespace Go.Proofs.YtnapboelfimaaaaGreatDoor
theorem remove_stay {A:Ar} {F:Nat→List Nat} {B:Ar} {F':Nat→List Nat} {M:Tab} {l v d len u x:Nat} (hr:Rep A.word M (d+1) len u x) (h1:len+4≤l) (h2:v/2^(l-len)=u)
  (hs:∀a,inB a x 2+fp A.word (d+1) x a+A.frees F a≤1) (hb:(nodeAt A.word x).ways.testBit (fourV l v len)=true) (hany:anyBelow (updT M l v none) (len+4) (16*u+fourV l v len)=true)
  (R:Removed A F B F' M l v d (len+4) (16*u+fourV l v len) ((nodeAt A.word x).kid (fourV l v len))):Removed A F B F' M l v (d+1) len u x:=by
 have n:=hr.node
 have hkid:=fun a=>fp_kid (W:=A.word) (x:=x) d a (fourV_lt l v len) hb
 have hx:∀a,1≤inB a x 2→B.word a=A.word a:=by
  intro a q
  apply R.word
  ·have:=hs a;have:=hkid a;omega
  ·have:=hs a;have:=hkid a;omega
 have hN:nodeAt B.word x=nodeAt A.word x:=node_same (hx x (by rw[inB_one (Nat.le_refl _) (by omega)];omega)) (hx (x+1) (by rw[inB_one (by omega) (by omega)];omega))
 have hown:=fp_own A.word (d+1) x
 have hn':NodeOk B.word (updT M l v none) len u x:=by
  refine node_ways n h1 h2 (by rw[hN]) (by rw[hN]) (by rw[hN];exact n.lt2) (by rw[hN];exact n.lt3) (by rw[hN];exact n.kids0) (by rw[hN,hb,hany]) (by rw[hN];intros;rfl) ?_
  intro i hi
  have q2:=hs ((nodeAt A.word x).hops+i)
  have q3:inB ((nodeAt A.word x).hops+i) (nodeAt A.word x).hops (ones 16 (nodeAt A.word x).routes)=1:=inB_one (by omega) (by omega)
  have q4:=le_sumTo (fun f=>if (nodeAt A.word x).ways.testBit f then fp A.word d ((nodeAt A.word x).kid f) ((nodeAt A.word x).hops+i) else 0) (fourV_lt l v len)
  simp only[hb,if_true] at q4
  have q5:inB ((nodeAt A.word x).hops+i) ((nodeAt A.word x).kid (fourV l v len)) 2≤inB ((nodeAt A.word x).hops+i) (nodeAt A.word x).children (2*ones 16 (nodeAt A.word x).ways):=by
   have h3:=ones_lt (fourV_lt l v len) hb
   generalize (nodeAt A.word x).hops+i=a
   unfold NodeD.kid inB
   split
   ·rw[if_pos (by omega)];exact Nat.le_refl _
   ·omega
  simp only[fp] at q2
  apply R.word <;> omega
 obtain⟨r1,r2,r3⟩:=rep_ways (o:=none) hr h1 h2 hn' (by rw[hN]) (by rw[hN]) (by rw[hN];intros;rfl) (by
  intro f hf hff hbf
  rw[hN]
  have hq:∀a,1≤inB a ((nodeAt A.word x).kid f) 2+fp A.word d ((nodeAt A.word x).kid f) a→B.word a=A.word a:=by
   intro a q
   have q1:=fp_two (W:=A.word) (x:=x) d a hf (fourV_lt l v len) hff hbf hb
   have q2:=hs a
   apply R.word <;> omega
  refine⟨hq _ ?_,hq _ ?_,fun a q=>hq a (by omega)⟩
  ·rw[inB_one (Nat.le_refl _) (by omega)];omega
  ·rw[inB_one (by omega) (by omega)];omega) (by
  intro _
  rw[hN];exact R.rep)
 rw[hN] at r2 r3
 simp only[hb,if_true] at r2 r3
 refine⟨R.ok,r1,?_,?_,?_,R.size,R.top⟩
 ·intro a
  have:=r2 a
  have:=R.frees a
  omega
 ·have:=R.free
  omega
 ·intro a q1 q2
  have:=hkid a
  apply R.word <;> omega
theorem remove_drop {A:Ar} {F:Nat→List Nat} {B:Ar} {F':Nat→List Nat} {M:Tab} {l v d len u x:Nat} (hr:Rep A.word M (d+1) len u x) (h1:len+4≤l) (h2:v/2^(l-len)=u)
  (hs:∀a,inB a x 2+fp A.word (d+1) x a+A.frees F a≤1) (hz:fp A.word (d+1) x 0=0) (hb:(nodeAt A.word x).ways.testBit (fourV l v len)=true) (hany:anyBelow (updT M l v none) (len+4) (16*u+fourV l v len)=false)
  (he:∀a,fp B.word d ((nodeAt A.word x).kid (fourV l v len)) a=0) (hec:costW B.word d ((nodeAt A.word x).kid (fourV l v len))=0)
  (R:Removed A F B F' M l v d (len+4) (16*u+fourV l v len) ((nodeAt A.word x).kid (fourV l v len))) :
  ∃F'',Removed A F ((B.shrink (nodeAt A.word x).children (2*ones 16 (nodeAt A.word x).ways) (2*ones (fourV l v len) (nodeAt A.word x).ways) 2).putN x ((nodeAt A.word x).dropKid (fourV l v len))) F'' M l v (d+1) len u x:=by
 have n:=hr.node
 have hf4:=fourV_lt l v len
 have hkid:=fun a=>fp_kid (W:=A.word) (x:=x) d a hf4 hb
 have htwo:=fun a f hf hff hbf=>fp_two (W:=A.word) (x:=x) (f:=f) d a hf hf4 hff hbf hb
 have hown:=fp_own A.word (d+1) x
 have hlt:=ones_lt hf4 hb
 have hle:=ones_le 16 (nodeAt A.word x).ways
 have hcl:=ones16_clr hf4 hb
 have hsum:∀a,inB a (nodeAt A.word x).hops (ones 16 (nodeAt A.word x).routes)+inB a (nodeAt A.word x).children (2*ones 16 (nodeAt A.word x).ways)+fp A.word d ((nodeAt A.word x).kid (fourV l v len)) a≤fp A.word (d+1) x a:=by
  intro a
  have q4:=le_sumTo (fun f=>if (nodeAt A.word x).ways.testBit f then fp A.word d ((nodeAt A.word x).kid f) a else 0) hf4
  simp only[hb,if_true] at q4
  simp only[fp]
  omega
 have hkin:∀a f,f<16→(nodeAt A.word x).ways.testBit f=true→inB a ((nodeAt A.word x).kid f) 2≤inB a (nodeAt A.word x).children (2*ones 16 (nodeAt A.word x).ways):=by
  intro a f hf hbf
  have h3:=ones_lt hf hbf
  unfold NodeD.kid inB
  split
  ·rw[if_pos (by omega)];exact Nat.le_refl _
  ·omega
 have hh0:(nodeAt A.word x).children≠0:=by
  intro e
  have:=hown 0
  rw[e,inB_one (b:=0) (Nat.le_refl 0) (by omega)] at this
  omega
 have hhops:∀a,1≤inB a (nodeAt A.word x).hops (ones 16 (nodeAt A.word x).routes)→B.word a=A.word a:=by
  intro a q
  have q1:=hsum a
  have q2:=hs a
  have q3:=hkin a _ hf4 hb
  apply R.word <;> omega
 have hkids:∀f,f<16→f≠fourV l v len→(nodeAt A.word x).ways.testBit f=true→∀a,1≤inB a ((nodeAt A.word x).kid f) 2+fp A.word d ((nodeAt A.word x).kid f) a→B.word a=A.word a:=by
  intro f hf hff hbf a q
  have q1:=htwo a f hf hff hbf
  have q2:=hs a
  apply R.word <;> omega
 have hkidsum:∀f,f<16→(nodeAt A.word x).ways.testBit f=true→∀a,inB a (nodeAt A.word x).children (2*ones 16 (nodeAt A.word x).ways)+fp A.word d ((nodeAt A.word x).kid f) a≤fp A.word (d+1) x a:=by
  intro f hf hbf a
  have q4:=le_sumTo (fun f=>if (nodeAt A.word x).ways.testBit f then fp A.word d ((nodeAt A.word x).kid f) a else 0) hf
  simp only[hbf,if_true] at q4
  simp only[fp]
  omega
 have hlt2:=n.lt2
 have hlt3:=n.lt3
 have hrou:(nodeAt A.word x).routes<65536:=by have:=n.lt;omega
 have hhop:(nodeAt A.word x).hops<65536:=Nat.mod_lt _ (by decide)
 obtain⟨F'',S⟩:=shrink_ok (b:=(nodeAt A.word x).children) (n:=2*ones 16 (nodeAt A.word x).ways) (gap:=2*ones (fourV l v len) (nodeAt A.word x).ways) (less:=2) R.ok (by omega) (by omega) (by omega) hh0 (by
  intro a
  have q1:=hs a
  have q2:=hsum a
  have q3:=R.frees a
  have q4:=he a
  omega)
 generalize hC:B.shrink (nodeAt A.word x).children (2*ones 16 (nodeAt A.word x).ways) (2*ones (fourV l v len) (nodeAt A.word x).ways) 2=C at S
 have hclr:clr (nodeAt A.word x).ways (fourV l v len)<65536:=clr_lt (n:=16) hlt2 hf4
 have hcnt0:clr (nodeAt A.word x).ways (fourV l v len)=0↔2*ones 16 (nodeAt A.word x).ways=2:=by
  rw[←ones16_zero hclr];omega
 have hN':nodeAt (C.putN x ((nodeAt A.word x).dropKid (fourV l v len))).word x=(nodeAt A.word x).dropKid (fourV l v len):=nodeAt_put hrou hhop
 have hout:∀a,inB a x 2=0→(C.putN x ((nodeAt A.word x).dropKid (fourV l v len))).word a=C.word a:=fun a q=>putNode_out q
 have hchild:∀i,i<2*ones 16 (nodeAt A.word x).ways→inB ((nodeAt A.word x).children+i) x 2=0:=by
  intro i hi
  have q1:=hs ((nodeAt A.word x).children+i)
  have q2:=hown ((nodeAt A.word x).children+i)
  rw[inB_one (b:=(nodeAt A.word x).children) (by omega) (by omega)] at q2
  omega
 have hn':NodeOk (C.putN x ((nodeAt A.word x).dropKid (fourV l v len))).word (updT M l v none) len u x:=by
  refine node_ways n h1 h2 (by rw[hN'];rfl) (by rw[hN'];rfl) (by rw[hN'];exact hclr) ?_ ?_ ?_ ?_ ?_
  ·rw[hN']
   show (if 2*ones 16 (nodeAt A.word x).ways=2 then 0 else (nodeAt A.word x).children)<65536
   split <;> omega
  ·rw[hN'];intro e
   show (if 2*ones 16 (nodeAt A.word x).ways=2 then 0 else (nodeAt A.word x).children)=0
   rw[if_pos (hcnt0.1 e)]
  ·rw[hN',hany];exact clr_bit _ _
  ·intro i hi;rw[hN'];exact clr_bits _ _ i hi
  ·intro i hi
   have q:inB ((nodeAt A.word x).hops+i) (nodeAt A.word x).hops (ones 16 (nodeAt A.word x).routes)=1:=inB_one (by omega) (by omega)
   have q1:=hsum ((nodeAt A.word x).hops+i)
   have q2:=hs ((nodeAt A.word x).hops+i)
   rw[hout _ (by omega),S.word _ (by omega)]
   exact hhops _ (by omega)
 have hkidd:∀f,f<16→f≠fourV l v len→(nodeAt A.word x).ways.testBit f=true→((nodeAt A.word x).dropKid (fourV l v len)).kid f=(nodeAt A.word x).children+2*ones f (clr (nodeAt A.word x).ways (fourV l v len)):=by
  intro f hf hff hbf
  show (if 2*ones 16 (nodeAt A.word x).ways=2 then 0 else (nodeAt A.word x).children)+_=_
  rw[if_neg]
  ·rfl
  ·intro q
   have:=hcnt0.2 q
   rw[←clr_bits _ (fourV l v len) f hff,this] at hbf
   simp at hbf
 obtain⟨r1,r2,r3⟩:=rep_ways (o:=none) hr h1 h2 hn' (by rw[hN'];rfl) (by rw[hN'];rfl) (by rw[hN'];exact fun i hi=>clr_bits _ _ i hi) (by
  intro f hf hff hbf
  rw[hN',hkidd f hf hff hbf]
  obtain⟨e1,e2⟩:=kid_del (W:=B.word) (W':=C.word) (c:=(nodeAt A.word x).children) hb (clr_bit _ _) (fun i hi=>clr_bits _ _ i hi) hf hff hbf S.head S.tail
  have hone:ones f (nodeAt A.word x).ways=ones f (clr (nodeAt A.word x).ways (fourV l v len))+(if fourV l v len<f then 1 else 0):=ones_more (clr_bit _ _) hb (fun i hi=>(clr_bits _ _ i hi).symm)
  have hof:=ones_lt hf hbf
  refine⟨?_,?_,?_⟩
  ·rw[hout _ (hchild _ (by omega)),e1]
   refine hkids f hf hff hbf _ ?_
   show 1≤inB ((nodeAt A.word x).kid f) _ _+_
   rw[inB_one (Nat.le_refl _) (by omega)];omega
  ·rw[Nat.add_assoc,hout _ (hchild _ (by omega)),←Nat.add_assoc,e2]
   refine hkids f hf hff hbf _ ?_
   show 1≤inB ((nodeAt A.word x).kid f+1) _ _+_
   rw[inB_one (by omega) (by omega)];omega
  ·intro a q
   have q1:=hkidsum f hf hbf a
   have q2:=hs a
   rw[hout a (by omega),S.word a (by omega)]
   exact hkids f hf hff hbf a (by omega)) (by
  rw[hN']
  intro e
  rw[show ((nodeAt A.word x).dropKid (fourV l v len)).ways.testBit (fourV l v len)=false from clr_bit _ _] at e
  cases e)
 rw[hN'] at r2 r3
 have hfal:((nodeAt A.word x).dropKid (fourV l v len)).ways.testBit (fourV l v len)=false:=clr_bit _ _
 have hdw:((nodeAt A.word x).dropKid (fourV l v len)).ways=clr (nodeAt A.word x).ways (fourV l v len):=rfl
 simp only[hb,hfal,if_true] at r2 r3
 rw[hdw] at r2 r3
 have hd2:∀a,inB a (nodeAt A.word x).children (2*ones 16 (nodeAt A.word x).ways)=inB a ((nodeAt A.word x).dropKid (fourV l v len)).children (2*ones 16 (clr (nodeAt A.word x).ways (fourV l v len)))+inB a ((nodeAt A.word x).children+2*ones 16 (nodeAt A.word x).ways-2) 2:=by
  intro a
  show _=inB a (if 2*ones 16 (nodeAt A.word x).ways=2 then 0 else (nodeAt A.word x).children) _+_
  by_cases q:2*ones 16 (nodeAt A.word x).ways=2
  ·rw[if_pos q,show 2*ones 16 (clr (nodeAt A.word x).ways (fourV l v len))=0 by omega,inB_nil,q]
   simp
  ·rw[if_neg q]
   have:=@inB_split a (nodeAt A.word x).children 2 (2*ones 16 (clr (nodeAt A.word x).ways (fourV l v len)))
   rw[show 2*ones 16 (clr (nodeAt A.word x).ways (fourV l v len))+2=2*ones 16 (nodeAt A.word x).ways by omega] at this
   rw[this]
   congr 2
   omega
 refine⟨F'',⟨?_,r1,?_,?_,?_,S.size.trans R.size,S.top.trans R.top⟩⟩
 ·apply ok_word S.ok
  intro a q
  apply putNode_out
  have q1:=S.frees a
  have q2:=hs a
  have q3:=hown a
  have q4:=hd2 a
  have q5:=R.frees a
  have q6:=he a
  have q7:=hsum a
  omega
 ·intro a
  have q1:=S.frees a
  have q2:=r2 a
  have q4:=hd2 a
  have q5:=R.frees a
  have q6:=he a
  simp only[Bool.false_eq_true,if_false] at q2
  show C.frees F'' a+_=_
  omega
 ·have:=R.free
  simp only[Bool.false_eq_true,if_false] at r3
  show C.free+_=_
  rw[S.free]
  omega
 ·intro a q1 q2
  rw[hout a q1]
  have q3:=hsum a
  have q4:=hkid a
  rw[S.word a (by omega)]
  apply R.word <;> omega
end Go.Proofs.YtnapboelfimaaaaGreatDoor
namespace Go.Proofs.YtnapboelfimaaaaGreatDoor
theorem fp_nil {W:Nat→Nat} {d x:Nat} (hr:(nodeAt W x).routes=0) (hw:(nodeAt W x).ways=0):(∀a,fp W d x a=0)∧costW W d x=0:=by
 have h0:ones 16 0=0:=by decide
 cases d with
 | zero=>exact⟨fun a=>by simp[fp,hr,hw,h0,inB_nil],by simp[costW,hr,hw,h0]⟩
 | succ d =>
  refine⟨fun a=>?_,?_⟩
  ·simp only[fp,hr,hw,h0,Nat.mul_zero,inB_nil,Nat.zero_testBit]
   rw[sumTo_zero fun i _=>by simp]
  ·simp only[costW,hr,hw,h0,Nat.mul_zero,Nat.zero_testBit]
   rw[sumTo_zero fun i _=>by simp]
theorem isEmpty_any {W:Nat→Nat} {M:Tab} {L len u x:Nat} {n':NodeD} (n:NodeOk W M len u x) (h:TabOk L M) (hL:L≤128) (e:nodeAt W x=n'):n'.isEmpty=!anyBelow M len u:=by
 rw[node_empty n h hL,e]
 simp[NodeD.isEmpty]
theorem remove_ok {M:Tab} {L l v:Nat} (hT:TabOk L M) (hL:L≤128):∀(d len u x:Nat) (A:Ar) (F:Nat→List Nat),ArOk A F→Rep A.word M d len u x→len≤l→l≤len+4*d+3→v/2^(l-len)=u →
  (∀a,inB a x 2+fp A.word d x a+A.frees F a≤1)→fp A.word d x 0=0 →
  (M l v=none∧removeN l v d len A x=(A,false,false))∨((M l v).isSome=true∧∃B F',removeN l v d len A x=(B,true,!anyBelow (updT M l v none) len u)∧Removed A F B F' M l v d len u x):=by
 intro d
 induction d with
 | zero =>
  intro len u x A F h hr h1 h3 h2 hs hz
  have hl:l<len+4:=by omega
  have hb:=bit_pnum hr.node h1 h2 (by omega)
  unfold removeN
  rw[if_pos hl]
  by_cases hm:(M l v).isSome=true
  ·right
   refine⟨hm,?_⟩
   rw[if_pos (by rw[hb];exact hm)]
   obtain⟨F',R⟩:=remove_leaf h hr h1 h2 hl hs hz hm
   refine⟨_,F',?_,R⟩
   congr 2
   refine isEmpty_any R.rep.node (tab_upd_none hT) hL ?_
   refine nodeAt_put ?_ ?_
   ·have:=clr_lt (n:=15) (k:=pnum l v len) (show (nodeAt A.word x).routes<2^15 from hr.node.lt) (pnum_lt h1 (by omega))
    show clr _ _<65536
    omega
   ·show (if ones 16 (nodeAt A.word x).routes=1 then 0 else (nodeAt A.word x).hops)<65536
    have:(nodeAt A.word x).hops<65536:=Nat.mod_lt _ (by decide)
    split <;> omega
  ·left
   rw[if_neg (by rw[hb];exact hm)]
   exact⟨by simpa using hm,rfl⟩
 | succ d ih =>
  intro len u x A F h hr h1 h3 h2 hs hz
  unfold removeN
  by_cases hl:l<len+4
  ·have hb:=bit_pnum hr.node h1 h2 (by omega)
   rw[if_pos hl]
   by_cases hm:(M l v).isSome=true
   ·right
    refine⟨hm,?_⟩
    rw[if_pos (by rw[hb];exact hm)]
    obtain⟨F',R⟩:=remove_leaf h hr h1 h2 hl hs hz hm
    refine⟨_,F',?_,R⟩
    congr 2
    refine isEmpty_any R.rep.node (tab_upd_none hT) hL ?_
    refine nodeAt_put ?_ ?_
    ·have:=clr_lt (n:=15) (k:=pnum l v len) (show (nodeAt A.word x).routes<2^15 from hr.node.lt) (pnum_lt h1 (by omega))
     show clr _ _<65536
     omega
    ·show (if ones 16 (nodeAt A.word x).routes=1 then 0 else (nodeAt A.word x).hops)<65536
     have:(nodeAt A.word x).hops<65536:=Nat.mod_lt _ (by decide)
     split <;> omega
   ·left
    rw[if_neg (by rw[hb];exact hm)]
    exact⟨by simpa using hm,rfl⟩
  ·rw[if_neg hl]
   have hf4:=fourV_lt l v len
   have hway:=hr.node.way _ hf4
   have hnext:=fourV_next (v:=v) (u:=u) (show len+4≤l by omega) h2
   simp only[]
   by_cases hb:(nodeAt A.word x).ways.testBit (fourV l v len)=true
   ·rw[if_pos hb]
    have hkid:=fun a=>fp_kid (W:=A.word) (x:=x) d a hf4 hb
    rcases ih (len+4) (16*u+fourV l v len) ((nodeAt A.word x).kid (fourV l v len)) A F h (hr.2 _ hf4 hb) (by omega) (by omega) hnext (fun a=>by have:=hs a;have:=hkid a;omega) (by have:=hkid 0;omega) with ⟨hm,e⟩ | ⟨hm,B,F',e,R⟩
    ·left
     rw[e]
     exact⟨hm,rfl⟩
    ·right
     refine⟨hm,?_⟩
     rw[e]
     cases hany:anyBelow (updT M l v none) (len+4) (16*u+fourV l v len) with
     | true =>
      refine⟨B,F',?_,remove_stay hr (by omega) h2 hs hb hany R⟩
      have:anyBelow (updT M l v none) len u=true:=(anyBelow_split (tab_upd_none hT) hL).2 (Or.inr ⟨_,hf4,hany⟩)
      simp[this]
     | false =>
      have hem:=node_empty R.rep.node (tab_upd_none hT) hL
      rw[hany] at hem
      have hem':(nodeAt B.word ((nodeAt A.word x).kid (fourV l v len))).routes=0∧(nodeAt B.word ((nodeAt A.word x).kid (fourV l v len))).ways=0:=by
       simpa using hem.symm
      obtain⟨z1,z2⟩:=fp_nil (d:=d) hem'.1 hem'.2
      obtain⟨F'',R2⟩:=remove_drop hr (by omega) h2 hs hz hb hany z1 z2 R
      refine⟨_,F'',?_,R2⟩
      simp only[Bool.not_false,if_true]
      congr 2
      refine isEmpty_any R2.rep.node (tab_upd_none hT) hL ?_
      refine nodeAt_put ?_ ?_
      ·have:=hr.node.lt
       show (nodeAt A.word x).routes<65536
       omega
      ·show (nodeAt A.word x).hops<65536
       exact Nat.mod_lt _ (by decide)
   ·left
    rw[if_neg hb]
    refine⟨?_,rfl⟩
    cases hm:M l v with
    | none=>rfl
    | some y =>
     have:=below_here (u:=16*u+fourV l v len) hT hL (show len+4≤l by omega) hnext (by rw[hm];rfl)
     rw[hway] at hb
     exact absurd this hb
end Go.Proofs.YtnapboelfimaaaaGreatDoor
namespace Go.Proofs.YtnapboelfimaaaaGreatDoor
def reach (W:Nat→Nat) (l v:Nat):Nat→Nat→Nat→Nat × Nat
 | 0,len,x=>(x,len)
 | s+1,len,x=>if (nodeAt W x).ways.testBit (fourV l v len) then reach W l v s (len+4) ((nodeAt W x).kid (fourV l v len)) else (x,len)
theorem fp_hop_kid {W:Nat→Nat} {x f:Nat} (d a:Nat) (hf:f<16) (hb:(nodeAt W x).ways.testBit f=true):inB a (nodeAt W x).hops (ones 16 (nodeAt W x).routes)+(inB a ((nodeAt W x).kid f) 2+fp W d ((nodeAt W x).kid f) a)≤fp W (d+1) x a:=by
 have h1:=le_sumTo (fun f=>if (nodeAt W x).ways.testBit f then fp W d ((nodeAt W x).kid f) a else 0) hf
 simp only[hb,if_true] at h1
 have h2:inB a ((nodeAt W x).kid f) 2≤inB a (nodeAt W x).children (2*ones 16 (nodeAt W x).ways):=by
  have h3:=ones_lt hf hb
  unfold NodeD.kid inB
  split
  ·rw[if_pos (by omega)];exact Nat.le_refl _
  ·omega
 simp only[fp]
 omega
theorem reach_facts {W:Nat→Nat} {M:Tab} {l v:Nat}:∀(s d len u x:Nat),Rep W M d len u x→s≤d→len+4*s≤l→v/2^(l-len)=u →
  ∃t d2 y,reach W l v s len x=(y,len+4*t)∧t≤s∧d=d2+t∧Rep W M d2 (len+4*t) (v/2^(l-(len+4*t))) y∧(∀a,inB a y 2+fp W d2 y a≤inB a x 2+fp W d x a)∧(t<s→(nodeAt W y).ways.testBit (fourV l v (len+4*t))=false):=by
 intro s
 induction s with
 | zero =>
  intro d len u x hr _ _ h2
  exact⟨0,d,x,rfl,Nat.le_refl _,rfl,by simpa [h2] using hr,fun a=>Nat.le_refl _,fun h=>absurd h (by omega)⟩
 | succ s ih =>
  intro d len u x hr hd h1 h2
  unfold reach
  by_cases hb:(nodeAt W x).ways.testBit (fourV l v len)=true
  ·rw[if_pos hb]
   obtain⟨d,rfl⟩:∃d',d=d'+1:=⟨d-1,by omega⟩
   obtain⟨t,d2,y,e,q1,q2,q3,q4,q5⟩:=ih d (len+4) (16*u+fourV l v len) _ (hr.2 _ (fourV_lt _ _ _) hb) (by omega) (by omega) (fourV_next (by omega) h2)
   refine⟨t+1,d2,y,?_,by omega,by omega,?_,?_,?_⟩
   ·rw[e];congr 1;omega
   ·rw[show len+4*(t+1)=len+4+4*t by omega];exact q3
   ·intro a
    have:=q4 a
    have:=fp_kid (W:=W) (x:=x) d a (fourV_lt l v len) hb
    omega
   ·intro h
    rw[show len+4*(t+1)=len+4+4*t by omega]
    exact q5 (by omega)
  ·rw[if_neg hb]
   exact⟨0,d,x,rfl,by omega,rfl,by simpa [h2] using hr,fun a=>Nat.le_refl _,fun _=>by simpa using hb⟩
theorem put_up {W W':Nat→Nat} {M:Tab} {l v h:Nat} (hl:l≤128):∀(t s d d2 len u x y:Nat),Rep W M d len u x→s≤d→len+4*s≤l→v/2^(l-len)=u→reach W l v s len x=(y,len+4*t)→d=d2+t→(∀a,inB a x 2+fp W d x a≤1) →
  Rep W' (updT M l v (some h)) d2 (len+4*t) (v/2^(l-(len+4*t))) y→(∀a,inB a y 2=0→fp W d2 y a=0→1≤inB a x 2+fp W d x a→W' a=W a) →
  Rep W' (updT M l v (some h)) d len u x∧(∀a,fp W' d x a+fp W d2 y a=fp W d x a+fp W' d2 y a)∧costW W' d x+costW W d2 y=costW W d x+costW W' d2 y:=by
 intro t
 induction t with
 | zero =>
  intro s d d2 len u x y hr hsd h1 h2 e hd hs hR hW
  have hx:y=x:=by
   cases s with
   | zero=>simp[reach] at e;exact e.symm
   | succ s =>
    unfold reach at e
    split at e
    ·rename_i hb
     obtain⟨d',rfl⟩:∃d',d=d'+1:=⟨d-1,by omega⟩
     obtain⟨t',d3,y',e',q1,q2,q3,q4,q5⟩:=reach_facts (W:=W) (M:=M) (l:=l) (v:=v) s d' (len+4) _ _ (hr.2 _ (fourV_lt _ _ _) hb) (by omega) (by omega) (fourV_next (by omega) h2)
     rw[e'] at e
     simp at e
     omega
    ·simp at e;exact e.symm
  subst hx
  have hdd:d=d2:=by omega
  subst hdd
  refine⟨?_,fun a=>by omega,by omega⟩
  simpa [h2] using hR
 | succ t ih =>
  intro s d d2 len u x y hr hsd h1 h2 e hd hs hR hW
  cases s with
  | zero=>simp[reach] at e
  | succ s =>
   unfold reach at e
   split at e
   ·rename_i hb
    obtain⟨d,rfl⟩:∃d',d=d'+1:=⟨d-1,by omega⟩
    have hf4:=fourV_lt l v len
    have hnext:=fourV_next (v:=v) (u:=u) (show len+4≤l by omega) h2
    have hkid:=fun a=>fp_kid (W:=W) (x:=x) d a hf4 hb
    have hkid2:=fun a=>fp_hop_kid (W:=W) (x:=x) d a hf4 hb
    have e':reach W l v s (len+4) ((nodeAt W x).kid (fourV l v len))=(y,len+4+4*t):=by rw[e];congr 1;omega
    obtain⟨t',d3,y',e'',q1,q2,q3,q4,q5⟩:=reach_facts (W:=W) (M:=M) (l:=l) (v:=v) s d (len+4) _ _ (hr.2 _ hf4 hb) (by omega) (by omega) hnext
    rw[e'] at e''
    simp at e''
    obtain⟨rfl,e3⟩:=e''
    have e4:t'=t:=by omega
    subst e4
    have e5:d3=d2:=by omega
    subst e5
    obtain⟨i1,i2,i3⟩:=ih s d d3 (len+4) _ _ y (hr.2 _ hf4 hb) (by omega) (by omega) hnext e' (by omega) (fun a=>by have:=hs a;have:=hkid a;omega) (by rw[show len+4+4*t'=len+4*(t'+1) by omega];exact hR) (fun a q1 q2 q3=>hW a q1 q2 (by have:=hkid a;omega))
    have n:=hr.node
    have hx:∀a,1≤inB a x 2→W' a=W a:=by
     intro a q
     have r1:=hs a
     have r2:=hkid a
     have r3:=q4 a
     exact hW a (by omega) (by omega) (by omega)
    have hN:nodeAt W' x=nodeAt W x:=node_same (hx x (by rw[inB_one (Nat.le_refl _) (by omega)];omega)) (hx (x+1) (by rw[inB_one (by omega) (by omega)];omega))
    have hn':NodeOk W' (updT M l v (some h)) len u x:=by
     refine node_ways n (by omega) h2 (by rw[hN]) (by rw[hN]) (by rw[hN];exact n.lt2) (by rw[hN];exact n.lt3) (by rw[hN];exact n.kids0) (by rw[hN,hb,anyBelow_put hl (by omega) hnext]) (by rw[hN];intros;rfl) ?_
     intro i hi
     have r1:=hs ((nodeAt W x).hops+i)
     have r2:=hkid2 ((nodeAt W x).hops+i)
     have r3:=q4 ((nodeAt W x).hops+i)
     rw[inB_one (b:=(nodeAt W x).hops) (by omega) (by omega)] at r2
     exact hW _ (by omega) (by omega) (by omega)
    obtain⟨r1,r2,r3⟩:=rep_ways (o:=some h) hr (by omega) h2 hn' (by rw[hN]) (by rw[hN]) (by rw[hN];intros;rfl) (by
     intro f hf hff hbf
     rw[hN]
     have hq:∀a,1≤inB a ((nodeAt W x).kid f) 2+fp W d ((nodeAt W x).kid f) a→W' a=W a:=by
      intro a q
      have r1:=fp_two (W:=W) (x:=x) d a hf hf4 hff hbf hb
      have r2:=hs a
      have r3:=q4 a
      exact hW a (by omega) (by omega) (by omega)
     refine⟨hq _ ?_,hq _ ?_,fun a q=>hq a (by omega)⟩
     ·rw[inB_one (Nat.le_refl _) (by omega)];omega
     ·rw[inB_one (by omega) (by omega)];omega) (by
     intro _
     rw[hN];exact i1)
    rw[hN] at r2 r3
    simp only[hb,if_true] at r2 r3
    refine⟨r1,?_,?_⟩
    ·intro a
     have:=r2 a
     have:=i2 a
     omega
    ·omega
   ·simp at e
end Go.Proofs.YtnapboelfimaaaaGreatDoor
namespace Go.Proofs.YtnapboelfimaaaaGreatDoor
theorem give_top (A:Ar) (b n:Nat):(A.give b n).top=A.top:=by unfold Ar.give;split <;> rfl
theorem take_top (A:Ar) (n:Nat):A.top≤(A.take n).1.top:=by
 unfold Ar.take
 split
 ·rw[give_top];exact Nat.le_refl _
 ·split
  ·exact Nat.le_refl _
  ·simp only[];omega
def Ar.fresh (A:Ar):Prop:=∀s,1≤s→s≤32→A.given s=0
theorem take_fresh {A:Ar} {n:Nat} (h:A.fresh) (h1:1≤n):A.take n=if A.size-A.top<n then (A,none) else ({ A with top:=A.top+n,free:=A.free-n },some A.top):=by
 unfold Ar.take
 rw[fit_none fun s q1 q2=>h s (by omega) (by omega)]
structure Single (M:Tab) (l v h len u:Nat):Prop where
 only:∀k j,j<2^k→(M (len+k) (u*2^k+j)).isSome=true→len+k=l∧u*2^k+j=v
 is:M l v=some h
theorem Single.kid {M:Tab} {l v h len u f:Nat} (s:Single M l v h len u) (hf:f<16):Single M l v h (len+4) (16*u+f):=by
 refine⟨?_,s.is⟩
 intro k j hj hm
 have e:u*2^(k+4)+(f*2^k+j)=(16*u+f)*2^k+j:=by
  have:u*(2^k*2^4)=16*u*2^k:=by rw[Nat.mul_comm (2^k),←Nat.mul_assoc,Nat.mul_comm u]
  rw[Nat.pow_add,Nat.add_mul]
  omega
 have:=s.only (k+4) (f*2^k+j) (by
  have:(f+1)*2^k≤16*2^k:=Nat.mul_le_mul_right _ (by omega)
  rw[Nat.pow_add];rw[Nat.add_mul] at this;omega) (by rw[e,show len+(k+4)=len+4+k by omega];exact hm)
 rw[e] at this
 exact⟨by omega,this.2⟩
theorem single_any {M:Tab} {l v h len u:Nat} (s:Single M l v h len u) (hl:l≤128):anyBelow M len u=(decide (len≤l)&&decide (v/2^(l-len)=u)):=by
 rw[Bool.eq_iff_iff,anyBelow_iff]
 simp only[Bool.and_eq_true,decide_eq_true_eq]
 constructor
 ·rintro ⟨k,j,hk,hj,hm⟩
  obtain⟨e1,e2⟩:=s.only k j hj hm
  refine⟨by omega,?_⟩
  rw[show l-len=k by omega]
  exact div_of hj e2
 ·rintro ⟨h1,h2⟩
  have e:=(here_iff (fu:=l-len) (j:=v%2^(l-len)) h1 h2 (Nat.mod_lt _ (Nat.two_pow_pos _))).2 ⟨rfl,rfl⟩
  refine⟨l-len,v%2^(l-len),by omega,Nat.mod_lt _ (Nat.two_pow_pos _),?_⟩
  rw[e.1,e.2,s.is];rfl
def Pend (W:Nat→Nat) (M:Tab) (d len u:Nat) (n:NodeD) (tk:Nat→Nat) (c:Nat):Prop :=
 ∀W' y,(∀a,1≤tk a→W' a=W a)→nodeAt W' y=n→Rep W' M d len u y∧(∀a,fp W' d y a=tk a)∧costW W' d y=c
theorem ones_pow_below {k i:Nat} (h:i≤k):ones i (2^k)=0:=by
 induction i with
 | zero=>rfl
 | succ i ih =>
  rw[ones_succ,ih (by omega),Nat.testBit_two_pow]
  simp;omega
theorem ones_pow_all {k:Nat} (h:k<16):ones 16 (2^k)=1:=by
 have h0:(0:Nat).testBit k=false:=by simp
 have:=ones_more (n:=16) h0 (show (2^k).testBit k=true by simp) (fun i hi=>by rw[Nat.testBit_two_pow];simp;omega)
 rw[this,if_pos h]
 decide
theorem pend_base {W:Nat→Nat} {M:Tab} {d l v h len u b:Nat} (s:Single M l v h len u) (hl:l≤128) (h1:len≤l) (h3:l<len+4) (h2:v/2^(l-len)=u) (hW:W b=h) :
  Pend W M d len u ⟨2^pnum l v len,0,b,0⟩ (fun a=>inB a b 1) 1:=by
 intro W' y ha hn
 replace ha:∀a,1≤inB a b 1→W' a=W a:=ha
 have hp:=pnum_lt (v:=v) h1 (show l≤len+3 by omega)
 have hno:NodeOk W' M len u y:=by
  refine⟨?_,?_,?_,?_,?_,?_,?_,?_⟩
  ·rw[hn];exact Nat.pow_lt_pow_right (n:=15) (by decide) hp
  ·rw[hn];exact(by decide:0<65536)
  ·rw[hn];exact(by decide:0<65536)
  ·rw[hn];intro e;have:=Nat.two_pow_pos (pnum l v len);simp only[] at e;omega
  ·rw[hn];intro _;rfl
  ·intro fu j hfu hj
   rw[hn]
   show (2^pnum l v len).testBit (num fu j)=_
   rw[Nat.testBit_two_pow,Bool.eq_iff_iff,decide_eq_true_eq]
   constructor
   ·intro e
    have:=num_inj (by omega) hfu (Nat.mod_lt _ (Nat.two_pow_pos _)) hj e
    have e2:=(here_iff (fu:=fu) (j:=j) h1 h2 hj).2 ⟨this.1.symm,this.2.symm⟩
    rw[e2.1,e2.2,s.is];rfl
   ·intro hm
    have e2:=(here_iff (fu:=fu) (j:=j) h1 h2 hj).1 (s.only fu j hj hm)
    obtain⟨rfl,rfl⟩:=e2
    rfl
  ·intro fu j h' hfu hj hm
   have e2:=(here_iff (fu:=fu) (j:=j) h1 h2 hj).1 (s.only fu j hj (by rw[hm];rfl))
   have e3:=s.only fu j hj (by rw[hm];rfl)
   rw[e3.1,e3.2,s.is] at hm
   obtain⟨rfl,rfl⟩:=e2
   rw[hn]
   show W' (b+ones (pnum l v len) (2^pnum l v len))=h'
   rw[ones_pow_below (Nat.le_refl _),Nat.add_zero,ha b (by rw[inB_one (Nat.le_refl _) (by omega)];omega),hW]
   simpa using hm
  ·intro f hf
   rw[hn,single_any (s.kid hf) hl]
   show (0:Nat).testBit f=_
   simp;omega
 have hr:(nodeAt W' y).routes=2^pnum l v len:=by rw[hn]
 have hw:(nodeAt W' y).ways=0:=by rw[hn]
 have hh:(nodeAt W' y).hops=b:=by rw[hn]
 have h16:ones 16 0=0:=by decide
 have hpw:=ones_pow_all (show pnum l v len<16 by omega)
 cases d with
 | zero =>
  refine⟨⟨hno,hw⟩,?_,?_⟩
  ·intro a;simp only[fp,hr,hw,hh,h16,hpw,Nat.mul_zero,inB_nil,Nat.add_zero]
  ·simp only[costW,hr,hw,h16,hpw,Nat.mul_zero]
 | succ d =>
  refine⟨⟨hno,?_⟩,?_,?_⟩
  ·intro f hf hb;rw[hw] at hb;simp at hb
  ·intro a
   simp only[fp,hr,hw,hh,h16,hpw,Nat.mul_zero,inB_nil,Nat.add_zero]
   rw[sumTo_zero fun i _=>by simp,Nat.add_zero]
  ·simp only[costW,hr,hw,h16,hpw,Nat.mul_zero]
   rw[sumTo_zero fun i _=>by simp]
theorem pend_step {W W0:Nat→Nat} {M:Tab} {d l v h len u b c:Nat} {n:NodeD} {tk:Nat→Nat} (s:Single M l v h len u) (hl:l≤128) (h1:len+4≤l) (h2:v/2^(l-len)=u) (hb:b<65536)
  (hn1:n.routes<65536) (hn2:n.hops<65536) (hW:∀a,1≤tk a→W0 a=W a) (hsep:∀a,inB a b 2+tk a≤1) (P:Pend W M d (len+4) (16*u+fourV l v len) n tk c) :
  Pend (putNode W0 b n) M (d+1) len u ⟨0,2^fourV l v len,0,b⟩ (fun a=>inB a b 2+tk a) (c+2):=by
 intro W' y ha hn
 replace ha:∀a,1≤inB a b 2+tk a→W' a=putNode W0 b n a:=ha
 have hf4:=fourV_lt l v len
 have hnext:=fourV_next (v:=v) (u:=u) h1 h2
 have hr:(nodeAt W' y).routes=0:=by rw[hn]
 have hw:(nodeAt W' y).ways=2^fourV l v len:=by rw[hn]
 have hh:(nodeAt W' y).hops=0:=by rw[hn]
 have hc:(nodeAt W' y).children=b:=by rw[hn]
 have hk:(nodeAt W' y).kid (fourV l v len)=b:=by
  unfold NodeD.kid
  rw[hw,hc,ones_pow_below (Nat.le_refl _)];omega
 have hnb:nodeAt W' b=n:=by
  rw[←nodeAt_put (W:=W0) (x:=b) hn1 hn2]
  exact node_same (ha b (by rw[inB_one (Nat.le_refl _) (by omega)];omega)) (ha (b+1) (by rw[inB_one (by omega) (by omega)];omega))
 obtain⟨p1,p2,p3⟩:=P W' b (by
  intro a q
  rw[ha a (by omega),putNode_out (by have:=hsep a;omega)]
  exact hW a q) hnb
 have hno:NodeOk W' M len u y:=by
  refine⟨?_,?_,?_,?_,?_,?_,?_,?_⟩
  ·rw[hr];decide
  ·rw[hw];exact Nat.pow_lt_pow_right (n:=16) (by decide) hf4
  ·rw[hc];exact hb
  ·intro _;exact hh
  ·rw[hw];intro e;have:=Nat.two_pow_pos (fourV l v len);omega
  ·intro fu j hfu hj
   rw[hr]
   cases hm:(M (len+fu) (u*2^fu+j)).isSome with
   | false=>simp
   | true=>have:=s.only fu j hj hm;omega
  ·intro fu j h' hfu hj hm
   have:=s.only fu j hj (by rw[hm];rfl)
   omega
  ·intro f hf
   rw[hw,single_any (s.kid hf) hl,hnext,Nat.testBit_two_pow,Bool.eq_iff_iff]
   simp
   omega
 have h16:ones 16 0=0:=by decide
 have hpw:=ones_pow_all hf4
 refine⟨⟨hno,?_⟩,?_,?_⟩
 ·intro f hf hbit
  rw[hw,Nat.testBit_two_pow,decide_eq_true_eq] at hbit
  subst hbit
  rw[hk];exact p1
 ·intro a
  have h0:sumTo 16 (fun f=>if (nodeAt W' y).ways.testBit f then fp W' d ((nodeAt W' y).kid f) a else 0)=tk a:=by
   have:=sumTo_one (n:=16) (k:=fourV l v len) (g:=fun _=>0) (g':=fun f=>if (nodeAt W' y).ways.testBit f then fp W' d ((nodeAt W' y).kid f) a else 0) hf4 (by
    intro f _ hff
    rw[hw,Nat.testBit_two_pow]
    simp[Ne.symm hff])
   rw[sumTo_zero (g:=fun _=>0) fun _ _=>rfl] at this
   rw[hk,p2 a,hw,Nat.testBit_two_pow_self] at this
   rw[hw]
   simpa using this
  simp only[fp]
  rw[h0,hr,hw,hh,hc,h16,hpw,inB_nil,Nat.zero_add]
 ·have h0:sumTo 16 (fun f=>if (nodeAt W' y).ways.testBit f then costW W' d ((nodeAt W' y).kid f) else 0)=c:=by
   have:=sumTo_one (n:=16) (k:=fourV l v len) (g:=fun _=>0) (g':=fun f=>if (nodeAt W' y).ways.testBit f then costW W' d ((nodeAt W' y).kid f) else 0) hf4 (by
    intro f _ hff
    rw[hw,Nat.testBit_two_pow]
    simp[Ne.symm hff])
   rw[sumTo_zero (g:=fun _=>0) fun _ _=>rfl] at this
   rw[hk,p3,hw,Nat.testBit_two_pow_self] at this
   rw[hw]
   simpa using this
  simp only[costW]
  rw[h0,hr,hw,h16,hpw]
  omega
end Go.Proofs.YtnapboelfimaaaaGreatDoor
