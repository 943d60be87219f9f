/- MathV, MathW, ArA, ArB: parts of the proof, one behind the other. -/
import Derived.Test.YtnapboelfimaaaaGreatDoorB00
import Derived.Test.YtnapboelfimaaaaGreatDoorB05
import Derived.BigQuiet
import Derived.Deep.QuietTactic
namespace Go.Proofs.YtnapboelfimaaaaGreatDoor
def newAr (size:Nat):Ar:=⟨size,fun _=>0,1024,fun _=>0,(size:Int)-1024⟩
def copyFirst1 (W:Nat→Nat) (q:Bool) (A:Ar) (b:Nat):Ar :=
  if W (rt q+b)%65536=0 then { A with word:=setW A.word (rt q+b) (65536*(W (rt q+b)/65536)) }
  else { copyN W (dp q) (A.bump 2) (W (rt q+b)%65536) A.top with word:=setW (copyN W (dp q) (A.bump 2) (W (rt q+b)%65536) A.top).word (rt q+b) (A.top+65536*(W (rt q+b)/65536)) }
def copyFirsts (W:Nat→Nat) (q:Bool) (A:Ar) (k:Nat):Ar:=(List.range k).foldl (copyFirst1 W q) A
def copyShorts (W:Nat→Nat) (q:Bool) (A:Ar):Ar:={ A with word:=fillW A.word W (rt q+256) (rt q+256) 256 }
def compactN (W:Nat→Nat) (size:Nat):Ar:=copyShorts W true (copyFirsts W true (copyShorts W false (copyFirsts W false (newAr size) 256)) 256)
theorem copyFirsts_succ (W:Nat→Nat) (q:Bool) (A:Ar) (k:Nat):copyFirsts W q A (k+1)=copyFirst1 W q (copyFirsts W q A k) k:=by
  unfold copyFirsts
  rw[List.range_succ,List.foldl_append]
  rfl
structure Firsts (W:Nat→Nat) (M:Tab) (q:Bool) (A B:Ar) (k:Nat):Prop where
  top:B.top=A.top+sumTo k (cost1 W (rt q) (dp q))
  free:B.free=A.free-(sumTo k (cost1 W (rt q) (dp q)):Nat)
  given:B.given=A.given
  size:B.size=A.size
  word:∀a,inB a (rt q) k=0→(a<A.top∨A.top+sumTo k (cost1 W (rt q) (dp q))≤a)→B.word a=A.word a
  none:∀b,b<k→W (rt q+b)%65536=0→B.word (rt q+b)=65536*(W (rt q+b)/65536)
  some:∀b,b<k→W (rt q+b)%65536≠0→B.word (rt q+b)=A.top+sumTo b (cost1 W (rt q) (dp q))+65536*(W (rt q+b)/65536)∧Rep B.word M (dp q) 8 b (A.top+sumTo b (cost1 W (rt q) (dp q))) ∧
    (∀a,fp B.word (dp q) (A.top+sumTo b (cost1 W (rt q) (dp q))) a=inB a (A.top+sumTo b (cost1 W (rt q) (dp q))+2) (costW W (dp q) (W (rt q+b)%65536)))∧costW B.word (dp q) (A.top+sumTo b (cost1 W (rt q) (dp q)))=costW W (dp q) (W (rt q+b)%65536)
theorem sum_mono (c:Nat→Nat) {k m:Nat} (h:k≤m):sumTo k c≤sumTo m c:=by
  induction m with
  | zero => have : k = 0 := by omega
            subst this;exact Nat.le_refl _
  | succ m ih =>
    by_cases e:k=m+1
    · subst e;exact Nat.le_refl _
    · have:=ih (by omega)
      simp only[sumTo];omega
theorem firsts_ok {W:Nat→Nat} {M:Tab} {q:Bool} (R:Root W M (rt q) (dp q)) (A:Ar) (hA:1024≤A.top) (ht:A.top+costR W (rt q) (dp q)≤65536):∀k,k≤256→Firsts W M q A (copyFirsts W q A k) k:=by
  have hr:=rt_le q
  intro k
  induction k with
  | zero =>
    intro _
    exact⟨rfl,by simp[copyFirsts,sumTo],rfl,rfl,fun _ _ _=>rfl,fun b q _=>by omega,fun b q _=>by omega⟩
  | succ k ih =>
    intro hk
    have I:=ih (by omega)
    have hmono:=sum_mono (cost1 W (rt q) (dp q)) (show k+1≤256 by omega)
    have htt:A.top+sumTo (k+1) (cost1 W (rt q) (dp q))≤65536:=by
      have:sumTo 256 (cost1 W (rt q) (dp q))=costR W (rt q) (dp q):=rfl
      omega
    simp only[sumTo] at htt
    rw[copyFirsts_succ]
    generalize hB:copyFirsts W q A k=B at I
    unfold copyFirst1
    have hIt:=I.top
    by_cases h0:W (rt q+k)%65536=0
    · rw[if_pos h0]
      have hc:cost1 W (rt q) (dp q) k=0:=by unfold cost1;rw[if_pos h0]
      have hout:∀a,a≠rt q+k→setW B.word (rt q+k) (65536*(W (rt q+k)/65536)) a=B.word a:=fun a p=>setW_ne p
      refine⟨?_,?_,I.given,I.size,?_,?_,?_⟩
      · simp only[sumTo];rw[hc];exact hIt
      · simp only[sumTo];rw[hc];exact I.free
      · intro a p1 p2
        simp only[sumTo] at p2
        rw[hc] at p2
        have p3:¬(rt q≤a∧a<rt q+(k+1)):=fun p=>by rw[inB_one p.1 p.2] at p1;omega
        show setW _ _ _ a=_
        rw[hout a (by omega)]
        exact I.word a (by unfold inB;rw[if_neg (by omega)]) p2
      · intro b p1 p2
        show setW _ _ _ _=_
        by_cases e:b=k
        · subst e;exact setW_same _ _ _
        · rw[hout _ (by omega)];exact I.none b (by omega) p2
      · intro b p1 p2
        have e:b≠k:=by rintro rfl;exact p2 h0
        obtain⟨j1,j2,j3,j4⟩:=I.some b (by omega) p2
        have hm:=rep_move (W':=setW B.word (rt q+k) (65536*(W (rt q+k)/65536))) (M':=M) (x':=A.top+sumTo b (cost1 W (rt q) (dp q))) j2 (agree_refl _ _ _) (hout _ (by omega)) (hout _ (by omega)) (by
          intro a p
          rw[j3 a] at p
          have:=inB_pos p
          exact hout a (by omega))
        refine⟨?_,hm.1,fun a=>by rw[hm.2.1 a,j3 a],by rw[hm.2.2,j4]⟩
        show setW _ _ _ _=_
        rw[hout _ (by omega)];exact j1
    · rw[if_neg h0]
      have hc:cost1 W (rt q) (dp q) k=2+costW W (dp q) (W (rt q+k)%65536):=by unfold cost1;rw[if_neg h0]
      rw[hc] at htt
      have c:=copy_ok (M:=M) (dp q) 8 k (W (rt q+k)%65536) B.top (B.bump 2) (R.rep k (by omega) h0) (Nat.le_refl _) (by show B.top+2+_≤_;omega)
      generalize hC:copyN W (dp q) (B.bump 2) (W (rt q+k)%65536) B.top=C at c
      have hCw:∀a,inB a B.top 2=0→(a<B.top+2∨B.top+2+costW W (dp q) (W (rt q+k)%65536)≤a)→C.word a=B.word a:=c.word
      have hout:∀a,a≠rt q+k→setW C.word (rt q+k) (B.top+65536*(W (rt q+k)/65536)) a=C.word a:=fun a p=>setW_ne p
      refine⟨?_,?_,c.given.trans I.given,c.size.trans I.size,?_,?_,?_⟩
      · simp only[sumTo];rw[hc]
        show C.top=_
        rw[c.top]
        show B.top+2+_=_
        omega
      · simp only[sumTo];rw[hc]
        show C.free=_
        rw[c.free]
        show B.free-_-_=_
        rw[I.free]
        omega
      · intro a p1 p2
        simp only[sumTo] at p2
        rw[hc] at p2
        have p3:¬(rt q≤a∧a<rt q+(k+1)):=fun p=>by rw[inB_one p.1 p.2] at p1;omega
        show setW _ _ _ a=_
        rw[hout a (by omega),hCw a (by unfold inB;rw[if_neg (by omega)]) (by omega)]
        exact I.word a (by unfold inB;rw[if_neg (by omega)]) (by omega)
      · intro b p1 p2
        have e:b≠k:=by rintro rfl;exact h0 p2
        show setW _ _ _ _=_
        rw[hout _ (by omega),hCw _ (by unfold inB;rw[if_neg (by omega)]) (by omega)]
        exact I.none b (by omega) p2
      · intro b p1 p2
        by_cases e:b=k
        · subst e
          rw[←hIt]
          have hm:=rep_move (W':=setW C.word (rt q+b) (B.top+65536*(W (rt q+b)/65536))) (M':=M) (x':=B.top) c.rep (agree_refl _ _ _) (hout _ (by omega)) (hout _ (by omega)) (by
            intro a p
            rw[c.fp a] at p
            have p3:B.top+2≤a:=(inB_pos p).1
            exact hout a (by omega))
          exact⟨setW_same _ _ _,hm.1,fun a=>by rw[hm.2.1 a,c.fp a];rfl,by rw[hm.2.2,c.cost]⟩
        · obtain⟨j1,j2,j3,j4⟩:=I.some b (by omega) p2
          have hcb:cost1 W (rt q) (dp q) b=2+costW W (dp q) (W (rt q+b)%65536):=by unfold cost1;rw[if_neg p2]
          have hsb:=sum_below (cost1 W (rt q) (dp q)) (show b<k by omega)
          rw[hcb] at hsb
          have hall:∀a,a≠rt q+k→a<B.top→setW C.word (rt q+k) (B.top+65536*(W (rt q+k)/65536)) a=B.word a:=by
            intro a p3 p4
            rw[hout a p3]
            exact hCw a (by unfold inB;rw[if_neg (by omega)]) (by omega)
          have hm:=rep_move (W':=setW C.word (rt q+k) (B.top+65536*(W (rt q+k)/65536))) (M':=M) (x':=A.top+sumTo b (cost1 W (rt q) (dp q))) j2 (agree_refl _ _ _) (hall _ (by omega) (by omega)) (hall _ (by omega) (by omega)) (by
            intro a p
            rw[j3 a] at p
            have:=inB_pos p
            exact hall a (by omega) (by omega))
          refine⟨?_,hm.1,fun a=>by rw[hm.2.1 a,j3 a],by rw[hm.2.2,j4]⟩
          show setW _ _ _ _=_
          rw[hall _ (by omega) (by omega)];exact j1
structure CopiedRoot (W:Nat→Nat) (M:Tab) (q:Bool) (A B:Ar):Prop where
  root:Root B.word M (rt q) (dp q)
  live:∀a,liveR B.word (rt q) (dp q) a=inB a A.top (costR W (rt q) (dp q))
  cost:costR B.word (rt q) (dp q)=costR W (rt q) (dp q)
  top:B.top=A.top+costR W (rt q) (dp q)
  free:B.free=A.free-costR W (rt q) (dp q)
  given:B.given=A.given
  size:B.size=A.size
  word:∀a,inB a (rt q) 512=0→(a<A.top∨A.top+costR W (rt q) (dp q)≤a)→B.word a=A.word a
theorem copyRoot_ok {W:Nat→Nat} {M:Tab} {q:Bool} (R:Root W M (rt q) (dp q)) (A:Ar) (hA:1024≤A.top) (ht:A.top+costR W (rt q) (dp q)≤65536):CopiedRoot W M q A (copyShorts W q (copyFirsts W q A 256)):=by
  have hr:=rt_le q
  have I:=firsts_ok R A hA ht 256 (Nat.le_refl _)
  generalize copyFirsts W q A 256=C at I
  have hin:∀i,i<256→(copyShorts W q C).word (rt q+256+i)=W (rt q+256+i):=by
    intro i hi
    show fillW _ _ _ _ _ _=_
    unfold fillW
    rw[if_pos (by omega),show rt q+256+(rt q+256+i-(rt q+256))=rt q+256+i by omega]
  have hout:∀a,a<rt q+256∨rt q+512≤a→(copyShorts W q C).word a=C.word a:=by
    intro a ha
    show fillW _ _ _ _ _ a=_
    unfold fillW
    rw[if_neg (by omega)]
  have hS:∀b,b<256→W (rt q+b)%65536≠0→A.top+sumTo b (cost1 W (rt q) (dp q))+2≤65536:=by
    intro b hb h0
    have e1:=sum_below (cost1 W (rt q) (dp q)) hb
    have e2:sumTo 256 (cost1 W (rt q) (dp q))=costR W (rt q) (dp q):=rfl
    have e3:cost1 W (rt q) (dp q) b=2+costW W (dp q) (W (rt q+b)%65536):=by unfold cost1;rw[if_neg h0]
    omega
  have hsome:∀b,b<256→W (rt q+b)%65536≠0→(copyShorts W q C).word (rt q+b)%65536=A.top+sumTo b (cost1 W (rt q) (dp q))∧(copyShorts W q C).word (rt q+b)/65536=W (rt q+b)/65536∧Rep (copyShorts W q C).word M (dp q) 8 b (A.top+sumTo b (cost1 W (rt q) (dp q))) ∧
      (∀a,fp (copyShorts W q C).word (dp q) (A.top+sumTo b (cost1 W (rt q) (dp q))) a=inB a (A.top+sumTo b (cost1 W (rt q) (dp q))+2) (costW W (dp q) (W (rt q+b)%65536)))∧costW (copyShorts W q C).word (dp q) (A.top+sumTo b (cost1 W (rt q) (dp q)))=costW W (dp q) (W (rt q+b)%65536):=by
    intro b hb h0
    obtain⟨j1,j2,j3,j4⟩:=I.some b hb h0
    have hs:=hS b hb h0
    have hm:=rep_move (W':=(copyShorts W q C).word) (M':=M) (x':=A.top+sumTo b (cost1 W (rt q) (dp q))) j2 (agree_refl _ _ _) (hout _ (by omega)) (hout _ (by omega)) (by
      intro a p
      rw[j3 a] at p
      have:=inB_pos p
      exact hout a (by omega))
    rw[hout _ (by omega),j1]
    refine⟨by omega,by omega,hm.1,fun a=>by rw[hm.2.1 a,j3 a],by rw[hm.2.2,j4]⟩
  have hnone:∀b,b<256→W (rt q+b)%65536=0→(copyShorts W q C).word (rt q+b)%65536=0∧(copyShorts W q C).word (rt q+b)/65536=W (rt q+b)/65536:=by
    intro b hb h0
    rw[hout _ (by omega),I.none b hb h0]
    constructor <;> omega
  have hdiv:∀b,b<256→(copyShorts W q C).word (rt q+b)/65536=W (rt q+b)/65536:=by
    intro b hb
    by_cases h0:W (rt q+b)%65536=0
    · exact(hnone b hb h0).2
    · exact(hsome b hb h0).2.1
  have hzero:∀b,b<256→((copyShorts W q C).word (rt q+b)%65536=0↔W (rt q+b)%65536=0):=by
    intro b hb
    by_cases h0:W (rt q+b)%65536=0
    · exact⟨fun _=>h0,fun _=>(hnone b hb h0).1⟩
    · rw[(hsome b hb h0).1]
      exact⟨fun e=>by omega,fun e=>absurd e h0⟩
  have hlive1:∀a b,b<256→live1 (copyShorts W q C).word (rt q) (dp q) a b=inB a (A.top+sumTo b (cost1 W (rt q) (dp q))) (cost1 W (rt q) (dp q) b):=by
    intro a b hb
    unfold live1
    by_cases h0:W (rt q+b)%65536=0
    · have e3:cost1 W (rt q) (dp q) b=0:=by unfold cost1;rw[if_pos h0]
      rw[if_pos ((hzero b hb).2 h0),e3,inB_nil]
    · have e3:cost1 W (rt q) (dp q) b=2+costW W (dp q) (W (rt q+b)%65536):=by unfold cost1;rw[if_neg h0]
      obtain⟨j1,j2,j3,j4,j5⟩:=hsome b hb h0
      rw[if_neg (fun e=>h0 ((hzero b hb).1 e)),j1,j4 a,e3,inB_split]
  have hcost1:∀b,b<256→cost1 (copyShorts W q C).word (rt q) (dp q) b=cost1 W (rt q) (dp q) b:=by
    intro b hb
    by_cases h0:W (rt q+b)%65536=0
    · unfold cost1;rw[if_pos ((hzero b hb).2 h0),if_pos h0]
    · obtain⟨j1,j2,j3,j4,j5⟩:=hsome b hb h0
      unfold cost1;rw[if_neg (fun e=>h0 ((hzero b hb).1 e)),if_neg h0,j1,j5]
  have htop:=I.top
  refine⟨⟨?_,?_,?_,?_,?_⟩,?_,?_,htop,I.free,I.given,I.size,?_⟩
  · intro b hb;rw[hdiv b hb];exact R.lt b hb
  · intro b l hb hl;rw[hdiv b hb];exact R.short b l hb hl
  · intro l v x hl hv hm
    have h7:2^l≤2^7:=Nat.pow_le_pow_right (by decide) (by omega)
    rw[Nat.add_assoc (rt q+256),hin _ (by omega),←Nat.add_assoc]
    exact R.hop l v x hl hv hm
  · intro b hb;rw[hzero b hb];exact R.node b hb
  · intro b hb h0
    have h0':W (rt q+b)%65536≠0:=fun e=>h0 ((hzero b hb).2 e)
    obtain⟨j1,j2,j3,j4,j5⟩:=hsome b hb h0'
    rw[j1];exact j3
  · intro a
    have:liveR (copyShorts W q C).word (rt q) (dp q) a=sumTo 256 (fun b=>inB a (A.top+sumTo b (cost1 W (rt q) (dp q))) (cost1 W (rt q) (dp q) b)):=sumTo_congr fun b hb=>hlive1 a b hb
    rw[this,sum_blocks]
    rfl
  · exact sumTo_congr fun b hb=>hcost1 b hb
  · intro a p1 p2
    have p3:¬(rt q≤a∧a<rt q+512):=fun p=>by rw[inB_one p.1 p.2] at p1;omega
    rw[hout a (by omega)]
    exact I.word a (by unfold inB;rw[if_neg (by omega)]) p2
theorem compact_ok {W:Nat→Nat} {M:Bool→Tab} {size:Nat} (R:∀q,Root W (M q) (rt q) (dp q)) (T:∀q,TabOk (8+4*dp q) (M q)) (h1:2048≤size) (h2:size≤65536) (hc:1024+costR W (rt false) (dp false)+costR W (rt true) (dp true)≤size) :
    Inv (compactN W size) (fun _=>[]) M∧(compactN W size).fresh∧(compactN W size).free=(compactN W size).size-(compactN W size).top∧(compactN W size).size=size:=by
  have c1:=copyRoot_ok (R false) (newAr size) (Nat.le_refl _) (by show 1024+_≤_;omega)
  unfold compactN
  generalize copyShorts W false (copyFirsts W false (newAr size) 256)=A1 at c1
  have t1:A1.top=1024+costR W (rt false) (dp false):=c1.top
  have c2:=copyRoot_ok (R true) A1 (by omega) (by omega)
  generalize copyShorts W true (copyFirsts W true A1 256)=A2 at c2
  have t2:A2.top=1024+costR W (rt false) (dp false)+costR W (rt true) (dp true):=by rw[c2.top,t1]
  have s2:A2.size=size:=by rw[c2.size,c1.size];rfl
  have f1:A1.free=(size:Int)-1024-costR W (rt false) (dp false):=c1.free
  have f2:A2.free=(size:Int)-1024-costR W (rt false) (dp false)-costR W (rt true) (dp true):=by rw[c2.free,f1]
  have g2:A2.given=fun _=>0:=by rw[c2.given,c1.given];rfl
  have hl1:∀a,liveR A1.word (rt false) (dp false) a=inB a 1024 (costR W (rt false) (dp false)):=c1.live
  have rf:rt false=0:=rfl
  have rtr:rt true=512:=rfl
  obtain⟨m1,m2,m3⟩:=root_move (W':=A2.word) c1.root (fun a p1 p2=>c2.word a (by rw[rtr];unfold inB;rw[if_neg (by omega)]) (by omega)) (by
    intro a p
    rw[hl1 a] at p
    have:=inB_pos p
    exact c2.word a (by rw[rtr];unfold inB;rw[if_neg (by omega)]) (by omega))
  refine⟨⟨⟨?_,?_,?_,rfl,?_⟩,?_,?_,?_,T,?_,?_⟩,?_,?_,s2⟩
  · intro s _ _
    show A2.given s=0
    rw[g2]
  · rw[t2,s2];exact hc
  · rw[s2];exact h2
  · intro a
    show ffp _ a+inB a A2.top (A2.size-A2.top)≤1
    have:ffp (fun _=>[]) a=0:=sumTo_zero fun s _=>rfl
    rw[this]
    have:=inB_le a A2.top (A2.size-A2.top)
    omega
  · rw[s2];exact h1
  · rw[t2];omega
  · intro q
    cases q
    · exact m1
    · exact c2.root
  · intro a
    have e1:liveR A2.word (rt false) (dp false) a=inB a 1024 (costR W (rt false) (dp false)):=by rw[m2 a];exact hl1 a
    have e2:=c2.live a
    rw[t1] at e2
    have e3:ffp (fun _=>[]) a=0:=sumTo_zero fun s _=>rfl
    rw[e1,e2]
    show edge A2 a+_+_+(ffp _ a+inB a A2.top (A2.size-A2.top))≤1
    rw[e3,t2,s2]
    unfold edge inB
    rw[s2]
    generalize costR W (rt false) (dp false)=x at hc
    generalize costR W (rt true) (dp true)=y at hc
    repeat' split
    all_goals omega
  · rw[m3,c1.cost,c2.cost,f2,s2]
    omega
  · intro s _ _
    rw[g2]
  · rw[f2,s2,t2]
    omega
end Go.Proofs.YtnapboelfimaaaaGreatDoor
namespace Go.Proofs.YtnapboelfimaaaaGreatDoor
def insLong (A:Ar) (q:Bool) (l v h:Nat):Ar × Bool :=
 if A.free<needRoot A.word q l v then (A,false)
 else match putRoot A q l v h with
  | (B,true)=>(B,true)
  | (B,false)=>putRoot (compactN B.word B.size) q l v h
theorem need_root {W W':Nat→Nat} {M:Bool→Tab} {q:Bool} {l v:Nat} (R:Root W (M q) (rt q) (dp q)) (R':Root W' (M q) (rt q) (dp q)) (h1:8≤l) (h3:l≤8+4*dp q) (hv:v<2^l):needRoot W q l v=needRoot W' q l v:=by
 have hb:=byte_of h1 hv
 have hz:W (rt q+v/2^(l-8))%65536=0↔W' (rt q+v/2^(l-8))%65536=0:=by rw[R.node _ hb,R'.node _ hb]
 unfold needRoot
 by_cases h0:W (rt q+v/2^(l-8))%65536=0
 ·rw[if_pos h0,if_pos (hz.1 h0)]
 ·rw[if_neg h0,if_neg fun e=>h0 (hz.2 e)]
  exact need_same (R.rep _ hb h0) (R'.rep _ hb fun e=>h0 (hz.2 e)) h1 h3 rfl
theorem insLong_ok {A:Ar} {F:Nat→List Nat} {M:Bool→Tab} (h:Inv A F M) (q:Bool) {l v x:Nat} (h1:8≤l) (h3:l≤8+4*dp q) (hv:v<2^l) :
  (A.free<needRoot A.word q l v∧insLong A q l v x=(A,false))∨((needRoot A.word q l v:Int)≤A.free∧∃B F',insLong A q l v x=(B,true)∧Inv B F' (updM M q l v (some x))∧B.size=A.size):=by
 unfold insLong
 by_cases hn:A.free<needRoot A.word q l v
 ·rw[if_pos hn];exact Or.inl ⟨hn,rfl⟩
 ·rw[if_neg hn]
  right
  refine⟨by omega,?_⟩
  rcases putRoot_ok (x:=x) h q h1 h3 hv with ⟨i1,i2,i3,i4⟩ | ⟨B,F',i1,i2,i3⟩
  ·generalize hR:putRoot A q l v x=R at i1 i2 i3
   obtain⟨B,o⟩:=R
   simp only[] at i1 i2 i3
   subst i1
   simp only[]
   have hsep:=h.sepq q
   have hmv:∀p,Root B.word (M p) (rt p) (dp p)∧(∀a,liveR B.word (rt p) (dp p) a=liveR A.word (rt p) (dp p) a)∧costR B.word (rt p) (dp p)=costR A.word (rt p) (dp p):=by
    intro p
    refine root_move (h.root p) (fun a t1 t2=>i2 a ?_) (fun a t=>i2 a ?_)
    ·have e1:=h.sepq p a
     rw[edge_low (by have:=rt_le p;omega)] at e1
     omega
    ·have e1:=h.sepq p a
     omega
   have hfr:=h.free
   have hcost:1024+costR B.word (rt false) (dp false)+costR B.word (rt true) (dp true)≤B.size:=by
    rw[(hmv false).2.2,(hmv true).2.2,i3]
    omega
   obtain⟨c1,c2,c3,c4⟩:=compact_ok (fun p=>(hmv p).1) h.tab (by rw[i3];exact h.size) (by rw[i3];exact h.ar.size) hcost
   generalize hC:compactN B.word B.size=C at c1 c2 c3 c4
   have hneed:needRoot C.word q l v=needRoot A.word q l v:=need_root (M:=M) (c1.root q) (h.root q) h1 h3 hv
   have hCf:=c1.free
   have hcs:∀p,costR C.word (rt p) (dp p)=costR A.word (rt p) (dp p):=fun p=>costR_same (c1.root p) (h.root p)
   rw[hcs false,hcs true,c4,i3] at hCf
   rcases putRoot_ok (x:=x) c1 q h1 h3 hv with ⟨j1,j2,j3,j4⟩ | ⟨D,F',j1,j2,j3⟩
   ·exfalso
    apply j4
    refine⟨c2,?_⟩
    rw[hneed]
    have e1:=c1.ar.top
    omega
   ·exact⟨D,F',j1,j2,by rw[j3,c4,i3]⟩
  ·rw[i1]
   exact⟨B,F',rfl,i2,i3⟩
theorem sumTo_in {b n:Nat}:∀ {N:Nat},(∀a,N≤a→inB a b n=0)→sumTo N (fun a=>inB a b n)=n:=by
 have aux:∀N,sumTo N (fun a=>inB a b n)=min N (b+n)-min N b:=by
  intro N
  induction N with
  | zero=>simp[sumTo]
  | succ N ih =>
   simp only[sumTo]
   rw[ih]
   unfold inB
   split <;> omega
 intro N h
 rw[aux]
 by_cases hn:n=0
 ·subst hn;simp
 ·have:b+n≤N:=by
   by_cases q:b+n≤N
   ·exact q
   ·have:=h (b+n-1) (by omega)
    rw[inB_one (by omega) (by omega)] at this
    omega
  omega
theorem sumTo_swap (n m:Nat) (g:Nat→Nat→Nat):sumTo n (fun a=>sumTo m (fun f=>g a f))=sumTo m (fun f=>sumTo n (fun a=>g a f)):=by
 induction n with
 | zero=>simp only[sumTo];rw[sumTo_zero fun _ _=>rfl]
 | succ n ih =>
  simp only[sumTo]
  rw[ih,sumTo_add]
theorem fp_sum {W:Nat→Nat} {N:Nat}:∀ {d x:Nat},(∀a,N≤a→fp W d x a=0)→sumTo N (fun a=>fp W d x a)=costW W d x:=by
 intro d
 induction d with
 | zero =>
  intro x h
  simp only[fp,costW]
  rw[sumTo_add,sumTo_in fun a q=>by have:=h a q;simp only[fp] at this;omega,sumTo_in fun a q=>by have:=h a q;simp only[fp] at this;omega]
 | succ d ih =>
  intro x h
  simp only[fp,costW]
  rw[sumTo_add,sumTo_add,sumTo_in fun a q=>by have:=h a q;simp only[fp] at this;omega,sumTo_in fun a q=>by have:=h a q;simp only[fp] at this;omega,sumTo_swap]
  congr 1
  apply sumTo_congr
  intro f hf
  by_cases hb:(nodeAt W x).ways.testBit f=true
  ·simp only[hb,if_true]
   apply ih
   intro a q
   have:=h a q
   have h2:=fp_kid (W:=W) (x:=x) d a hf hb
   omega
  ·simp only[hb]
   exact sumTo_zero fun _ _=>by simp
theorem live_sum {W:Nat→Nat} {r dm N:Nat} (h:∀a,N≤a→liveR W r dm a=0):sumTo N (fun a=>liveR W r dm a)=costR W r dm:=by
 unfold liveR costR
 rw[sumTo_swap]
 apply sumTo_congr
 intro b hb
 have hl:∀a,N≤a→live1 W r dm a b=0:=fun a q=>by have:=h a q;have:=live1_le W r dm a hb;omega
 unfold live1 cost1
 by_cases h0:W (r+b)%65536=0
 ·simp only[h0,if_true]
  exact sumTo_zero fun _ _=>by simp
 ·simp only[h0,if_false]
  have hl':∀a,N≤a→inB a (W (r+b)%65536) 2+fp W dm (W (r+b)%65536) a=0:=by
   intro a q
   have:=hl a q
   unfold live1 at this
   rw[if_neg h0] at this
   exact this
  rw[sumTo_add,sumTo_in fun a q=>by have:=hl' a q;omega,fp_sum fun a q=>by have:=hl' a q;omega]
theorem sumTo_const (n:Nat):sumTo n (fun _=>1)=n:=by
 induction n with
 | zero=>rfl
 | succ n ih=>simp only[sumTo,ih]
theorem Inv.fits {A:Ar} {F:Nat→List Nat} {M:Bool→Tab} (h:Inv A F M):1024+costR A.word (rt false) (dp false)+costR A.word (rt true) (dp true)≤A.size:=by
 have hz:∀a,A.size≤a→liveR A.word (rt false) (dp false) a=0∧liveR A.word (rt true) (dp true) a=0:=by
  intro a q
  have:=h.sep a
  rw[edge_high q] at this
  omega
 have h1:=live_sum fun a q=>(hz a q).1
 have h2:=live_sum fun a q=>(hz a q).2
 have h3:sumTo A.size (fun a=>inB a 0 1024)=1024:=sumTo_in fun a q=>by
  have:=h.size
  unfold inB;rw[if_neg (by omega)]
 have h4:sumTo A.size (fun a=>inB a 0 1024+liveR A.word (rt false) (dp false) a+liveR A.word (rt true) (dp true) a)≤sumTo A.size (fun _=>1):=by
  apply sumTo_le
  intro a ha
  have:=h.sep a
  have he:inB a 0 1024≤edge A a:=by
   unfold inB edge
   split
   ·rw[if_pos (by omega)];exact Nat.le_refl _
   ·omega
  omega
 rw[sumTo_const,sumTo_add,sumTo_add,h1,h2,h3] at h4
 exact h4
theorem Inv.pos {A:Ar} {F:Nat→List Nat} {M:Bool→Tab} (h:Inv A F M):0≤A.free∧A.free≤A.size:=by
 have h1:=h.fits
 have h2:=h.free
 omega
theorem compactInv {A:Ar} {F:Nat→List Nat} {M:Bool→Tab} (h:Inv A F M):Inv (compactN A.word A.size) (fun _=>[]) M∧(compactN A.word A.size).size=A.size:=by
 obtain⟨c1,c2,c3,c4⟩:=compact_ok h.root h.tab h.size h.ar.size h.fits
 exact⟨c1,c4⟩
theorem free_same {A A':Ar} {F F':Nat→List Nat} {M:Bool→Tab} (h:Inv A F M) (h':Inv A' F' M) (hs:A.size=A'.size):A.free=A'.free:=by
 have e1:=h.free
 have e2:=h'.free
 rw[costR_same (h.root false) (h'.root false),costR_same (h.root true) (h'.root true)] at e1
 omega
end Go.Proofs.YtnapboelfimaaaaGreatDoor
namespace Go.Proofs.YtnapboelfimaaaaGreatDoor
open Go.RowKit Go.Deep
def givenCells (A:Ar):List Value:=(List.range 33).map fun s=>Value.int .i64 (A.given s:Int)
def arCells (wb:Nat) (A:Ar):List Value:=.slice (some ⟨wb,0,none⟩) A.size A.size :: .int .i64 (A.top:Int) :: (givenCells A++[.int .i64 A.free])
def wordCells (A:Ar):List Value:=(List.range A.size).map fun i=>Value.int .u32 (A.word i:Int)
structure ArAt (w:World) (ab wb:Nat) (A:Ar):Prop where
 arena:w.heap[ab]?=some (.cells (arCells wb A).toArray 103 (0,0))
 words:w.heap[wb]?=some (.cells (wordCells A).toArray 136 (0,0))
theorem given_get (A:Ar) (s:Nat) (h:s≤32):(givenCells A)[s]?=some (.int .i64 (A.given s:Int)):=by
 unfold givenCells
 rw[List.getElem?_map,List.getElem?_range (by omega)]
 rfl
theorem given_len (A:Ar):(givenCells A).length=33:=by simp[givenCells]
theorem word_get (A:Ar) (i:Nat) (h:i<A.size):(wordCells A)[i]?=some (.int .u32 (A.word i:Int)):=by
 unfold wordCells
 rw[List.getElem?_map,List.getElem?_range h]
 rfl
theorem word_len (A:Ar):(wordCells A).length=A.size:=by simp[wordCells]
theorem ArAt.slice {w:World} {ab wb:Nat} {A:Ar} (h:ArAt w ab wb A):w.cell? ⟨ab,0,none⟩=some (.slice (some ⟨wb,0,none⟩) A.size A.size):=by
 rw[cell_at h.arena];simp[arCells]
theorem ArAt.top {w:World} {ab wb:Nat} {A:Ar} (h:ArAt w ab wb A):w.cell? ⟨ab,1,none⟩=some (.int .i64 (A.top:Int)):=by
 rw[cell_at h.arena];simp[arCells]
theorem ArAt.given {w:World} {ab wb:Nat} {A:Ar} (h:ArAt w ab wb A) {s:Nat} (hs:s≤32):w.cell? ⟨ab,2+s,none⟩=some (.int .i64 (A.given s:Int)):=by
 rw[cell_at h.arena,List.getElem?_toArray,Nat.add_comm]
 unfold arCells
 rw[List.getElem?_cons_succ,List.getElem?_cons_succ,List.getElem?_append_left (by rw[given_len];omega)]
 exact given_get A s hs
theorem ArAt.free {w:World} {ab wb:Nat} {A:Ar} (h:ArAt w ab wb A):w.cell? ⟨ab,35,none⟩=some (.int .i64 A.free):=by
 rw[cell_at h.arena,List.getElem?_toArray]
 unfold arCells
 rw[List.getElem?_cons_succ,List.getElem?_cons_succ,List.getElem?_append_right (by rw[given_len];decide),given_len]
 rfl
theorem ArAt.word {w:World} {ab wb:Nat} {A:Ar} (h:ArAt w ab wb A) {i:Nat} (hi:i<A.size):w.cell? ⟨wb,i,none⟩=some (.int .u32 (A.word i:Int)):=by
 rw[cell_at h.words,List.getElem?_toArray]
 exact word_get A i hi
theorem ArAt.fa {w:World} {ab wb:Nat} {A:Ar} (h:ArAt w ab wb A) (i:Nat):w.frozen? ⟨ab,i,none⟩=false:=free_at h.arena i
theorem ArAt.fw {w:World} {ab wb:Nat} {A:Ar} (h:ArAt w ab wb A) (i:Nat):w.frozen? ⟨wb,i,none⟩=false:=free_at h.words i
theorem ArAt.la {w:World} {ab wb:Nat} {A:Ar} (h:ArAt w ab wb A):ab<w.heap.size:=lt_of_block h.arena
theorem ArAt.lw {w:World} {ab wb:Nat} {A:Ar} (h:ArAt w ab wb A):wb<w.heap.size:=lt_of_block h.words
theorem ArAt.ne {w:World} {ab wb:Nat} {A:Ar} (h:ArAt w ab wb A):ab≠wb:=by
 rintro rfl
 have h1:=h.arena
 rw[h.words] at h1
 simp at h1
theorem ArAt.kept {w w':World} {ab wb:Nat} {A:Ar} (h:ArAt w ab wb A) (h1:w'.heap[ab]?=w.heap[ab]?) (h2:w'.heap[wb]?=w.heap[wb]?):ArAt w' ab wb A:=⟨h1.trans h.arena,h2.trans h.words⟩
theorem ArAt.ext {w w':World} {ab wb:Nat} {A:Ar} (h:ArAt w ab wb A) (hb:Below w.heap.size w w'):ArAt w' ab wb A:=h.kept (hb.block _ h.la) (hb.block _ h.lw)
theorem ArAt.fr {w w':World} {ab wb:Nat} {A:Ar} {S:List Nat} (h:ArAt w ab wb A) (hf:Fr S w w') (h1:ab ∉ S) (h2:wb ∉ S):ArAt w' ab wb A:=h.kept (hf.block _ h.la h1) (hf.block _ h.lw h2)
theorem ArAt.other {w:World} {ab wb b off:Nat} {A:Ar} {v:Value} (h:ArAt w ab wb A) (h1:ab≠b) (h2:wb≠b):ArAt (w.setCell ⟨b,off,none⟩ v) ab wb A:=h.kept (Below.heap_setCell _ _ _ _ h1) (Below.heap_setCell _ _ _ _ h2)
theorem ArAt.setTop {w:World} {ab wb:Nat} {A:Ar} (h:ArAt w ab wb A) (t:Nat):ArAt (w.setCell ⟨ab,1,none⟩ (.int .i64 (t:Int))) ab wb { A with top:=t }:=by
 refine⟨?_,?_⟩
 ·rw[heap_setCell_at _ h.arena];rfl
 ·rw[Below.heap_setCell _ _ _ _ h.ne.symm];exact h.words
theorem ArAt.setFree {w:World} {ab wb:Nat} {A:Ar} (h:ArAt w ab wb A) (t:Int):ArAt (w.setCell ⟨ab,35,none⟩ (.int .i64 t)) ab wb { A with free:=t }:=by
 refine⟨?_,?_⟩
 ·rw[heap_setCell_at _ h.arena]
  congr 2
 ·rw[Below.heap_setCell _ _ _ _ h.ne.symm];exact h.words
theorem ArAt.setGiven {w:World} {ab wb:Nat} {A:Ar} (h:ArAt w ab wb A) {s:Nat} (hs:s≤32) (t:Nat):ArAt (w.setCell ⟨ab,2+s,none⟩ (.int .i64 (t:Int))) ab wb { A with given:=setW A.given s t }:=by
 refine⟨?_,?_⟩
 ·rw[heap_setCell_at _ h.arena]
  have e:(arCells wb A).toArray.setIfInBounds (2+s) (.int .i64 (t:Int))=(arCells wb { A with given:=setW A.given s t }).toArray:=by
   rw[List.setIfInBounds_toArray]
   congr 1
   unfold arCells
   rw[Nat.add_comm,List.set_cons_succ,List.set_cons_succ,List.set_append_left _ _ (by rw[given_len];omega)]
   congr 3
   apply List.ext_getElem?
   intro i
   rw[List.getElem?_set]
   by_cases hi:i≤32
   ·rw[given_get A i hi,given_get { A with given:=setW A.given s t } i hi]
    by_cases e:s=i
    ·subst e;rw[if_pos rfl,if_pos (by rw[given_len];omega)];simp only[setW_same]
    ·rw[if_neg e];simp only[setW_ne (Ne.symm e)]
   ·rw[if_neg (by omega),List.getElem?_eq_none (by rw[given_len];omega),List.getElem?_eq_none (by rw[given_len];omega)]
  rw[e]
 ·rw[Below.heap_setCell _ _ _ _ h.ne.symm];exact h.words
theorem ArAt.setWord {w:World} {ab wb:Nat} {A:Ar} (h:ArAt w ab wb A) {i:Nat} (hi:i<A.size) (t:Nat):ArAt (w.setCell ⟨wb,i,none⟩ (.int .u32 (t:Int))) ab wb { A with word:=setW A.word i t }:=by
 refine⟨?_,?_⟩
 ·rw[Below.heap_setCell _ _ _ _ h.ne];exact h.arena
 ·rw[heap_setCell_at _ h.words]
  have e:(wordCells A).toArray.setIfInBounds i (.int .u32 (t:Int))=(wordCells { A with word:=setW A.word i t }).toArray:=by
   rw[List.setIfInBounds_toArray]
   congr 1
   apply List.ext_getElem?
   intro j
   rw[List.getElem?_set]
   by_cases hj:j<A.size
   ·rw[word_get _ j hj,word_get { A with word:=setW A.word i t } j hj]
    by_cases e:i=j
    ·subst e;simp[word_len,setW_same,hi]
    ·rw[if_neg e];simp only[setW_ne (Ne.symm e)]
   ·rw[if_neg (by omega),List.getElem?_eq_none (by rw[word_len];omega),List.getElem?_eq_none (by rw[word_len];show A.size≤j;omega)]
  rw[e]
theorem ArAt.drew {w:World} {ab wb:Nat} {A:Ar} (h:ArAt w ab wb A):ArAt w.drew ab wb A:=⟨h.arena,h.words⟩
theorem ArAt.drewN {w:World} {ab wb:Nat} {A:Ar} (n:Nat) (h:ArAt w ab wb A):ArAt (w.drewN n) ab wb A:=h.ext (below_drewN (Below.refl _ _) n)
theorem ArAt.alloc {w:World} {ab wb:Nat} {A:Ar} (h:ArAt w ab wb A) (o:Obj):ArAt (w.alloc o) ab wb A:=h.ext (ext_alloc _ _)
theorem Fr.drew {S:List Nat} {a w:World} (h:Fr S a w):Fr S a w.drew:=⟨h.os,h.tape,h.output,h.size,h.block⟩
theorem Fr.alloc {S:List Nat} {a w:World} (h:Fr S a w) (o:Obj):Fr S a (w.alloc o):=h.trans (Fr.of_below (ext_alloc _ _))
theorem Fr.drewN {S:List Nat} {a w:World} (h:Fr S a w) (n:Nat):Fr S a (w.drewN n):=h.trans (Fr.of_below (below_drewN (Below.refl _ _) n))
theorem Fr.after {S S':List Nat} {a b c:World} (h:Fr S a b) (k:Fr S' b c) (hs:∀x,x∈S'→x∈S∨a.heap.size≤x):Fr S a c :=
 ⟨k.os.trans h.os,k.tape.trans h.tape,k.output.trans h.output,Nat.le_trans h.size k.size,fun i hi hn=>(k.block i (Nat.lt_of_lt_of_le hi h.size) (fun hm=>by rcases hs i hm with q | q;exact hn q;omega)).trans (h.block i hi hn)⟩
theorem heap_al (w:World) (o:Obj) (n:Nat):(w.alloc o).heap[n]?=if n=w.heap.size then some o else w.heap[n]?:=by
 by_cases h:n=w.heap.size
 ·rw[if_pos h,h];exact heap_alloc_new _ _
 ·rw[if_neg h]
  by_cases h2:n<w.heap.size
  ·exact Below.heap_alloc _ _ _ h2
  ·rw[Array.getElem?_eq_none (by simp;omega),Array.getElem?_eq_none (by omega)]
end Go.Proofs.YtnapboelfimaaaaGreatDoor
namespace Go.Proofs.YtnapboelfimaaaaGreatDoor
open Go.RowKit Go.Deep
set_option maxHeartbeats 400000 in
set_option maxRecDepth 10000 in
theorem give_any (A:Ar) (ab wb b n:Nat) (w:World) (h:ArAt w ab wb A) (hn:n≤32) (hb:n≠0→b<A.size) (hg:n≠0→A.given n<65536) (hf1:-100000≤A.free) (hf2:A.free≤100000) :
  Calls Tryz.prog 123 #[.pointer (some ⟨ab,0,none⟩),.agg #[.int .i64 b,.int .i64 n]] w fun e w'=>e=.returned (.tuple #[])∧ArAt w' ab wb (A.give b n)∧Fr [ab,wb] w w':=by
 by_cases hz:n=0
 ·subst hz
  have HA:=hide (show ArAt (w.alloc (.cells #[.int .i64 b,.int .i64 0] 172)) ab wb (A.give b 0) from h.ext (ext_alloc _ _))
  go_enter Tryz.func123,Tryz.ntmps123
  go_wp2
  exact bodyPost_ret (v:=.tuple #[]) (by simp[results,Tryz.results123,go_sem]) rfl ⟨rfl,HA.out,Fr.of_below (ext_alloc _ _)⟩
 ·have hb':=hb hz
  replace hg:=hg hz
  have e0:((n:Int)==0)=false:=by simp[hz]
  have HA:=hide h
  have c0:=h.slice
  have c1:=h.given hn
  have c2:=h.free
  have c3:=h.fw b
  have c4:=h.fa (2+n)
  have c5:=h.fa 35
  have c6:=h.word hb'
  have hne:=h.ne
  have hne2:=h.ne.symm
  have hla:=h.la
  have hlw:=h.lw
  have h35:35≠2+n:=by omega
  have h35':2+n≠35:=by omega
  clear h hb
  go_enter Tryz.func123,Tryz.ntmps123
  go_wp2
  go_region
  go_wp2
  go_region
  go_wp2
  go_region
  go_wp2
  go_end0
  refine⟨rfl,?_,?_⟩
  ·have h1:=(((HA.out.setWord hb' (A.given n)).setGiven hn b).setFree (A.free+n)).alloc (.cells #[.int .i64 b,.int .i64 n] 172)
   have e:A.give b n={ A with word:=setW A.word b (A.given n),given:=setW A.given n b,free:=A.free+n }:=by simp[Ar.give,hz]
   rw[e]
   exact h1.drew.drew.drew
  ·exact(((((Fr.refl _ _).setCell (Or.inl (by simp)) _).setCell (Or.inl (by simp)) _).setCell (Or.inl (by simp)) _).alloc _).drew.drew.drew
theorem give_at (A:Ar) (ab wb:Nat) (x y:Int) (b n:Nat) (w:World) (h:ArAt w ab wb A) (hx:x=b) (hy:y=n) (hn:n≤32) (hb:n≠0→b<A.size) (hg:n≠0→A.given n<65536) (hf1:-100000≤A.free) (hf2:A.free≤100000) :
  Calls Tryz.prog 123 #[.pointer (some ⟨ab,0,none⟩),.agg #[.int .i64 x,.int .i64 y]] w fun e w'=>e=.returned (.tuple #[])∧ArAt w' ab wb (A.give b n)∧Fr [ab,wb] w w':=by
 subst hx hy
 exact give_any A ab wb b n w h hn hb hg hf1 hf2
end Go.Proofs.YtnapboelfimaaaaGreatDoor
