/- Proved: every call, in every order, is answered as the document says, and no list that came out or was handed in is touched again (statement All), for all scripts. This text: SndA, Open, AllP: parts of the proof, one behind the other. -/
import Derived.Test.YtnapboelfimaaaaGreatDoorB36
import Derived.Test.YtnapboelfimaaaaGreatDoorB29
import Derived.Test.YtnapboelfimaaaaGreatDoorCards
import Derived.Test.YtnapboelfimaaaaGreatDoorTie
import Derived.ProofKit
import Derived.OpenShut
import Derived.SizedLaws
import Derived.Deep.Slices
import Derived.Deep.DeepHandedRow
import Derived.Lib.LaidTab
namespace Go.Proofs.YtnapboelfimaaaaGreatDoor
open Go.RowKit Go.Deep
set_option maxHeartbeats 400000 in
set_option maxRecDepth 10000 in
theorem upTo_none (w:World) (ao:Option Addr) (cap:Nat) (least last top code:Int) :
  Calls Tryz.prog 8 #[.slice ao 0 cap,.int .i64 least,.int .i64 last,.int .i64 top,.int .i64 code] w fun e w'=>e=.returned (.int .i64 (-1))∧Below w.heap.size w w':=by
 go_enter Tryz.func8,Tryz.ntmps8
 go_wp2
 refine wp_loop_rounds 1 ?_;rw[rounds_succ]
 go_wp2
 go_ret
 exact⟨rfl,ext_alloc w _⟩
theorem upTo_any (w:World) (ao:Option Addr) (cap:Nat) (ss:List StepD) (least last top code:Int) (hZ:TzTab w) (hn:ss.length*56≤140737488351232) (hs:ScriptAt w ao ss) :
  Calls Tryz.prog 8 #[.slice ao ss.length cap,.int .i64 least,.int .i64 last,.int .i64 top,.int .i64 code] w fun e w'=>e=.returned (.int .i64 (-1))∧Below w.heap.size w w':=by
 by_cases h:ss=[]
 ·subst h
  exact upTo_none w ao cap least last top code
 ·obtain⟨b,off,rfl,hlt,hc⟩:=hs.2 h
  exact upTo_all w b off cap ss least last top code hZ hn hs.1 hlt hc
def bitsA:ByteArray:=⟨#[10,0,0,0]⟩
def bitsB:ByteArray:=⟨#[10,1,0,0]⟩
def soundOps:List OpD:=[⟨1,4,bitsA,8,1⟩,⟨1,4,bitsB,16,2⟩,⟨3,4,bitsB,0,0⟩,⟨2,4,bitsB,16,0⟩,⟨3,4,bitsB,0,0⟩,⟨4,0,.empty,0,0⟩]
def soundScript (k:Nat):List StepD:=[⟨1,0,2048,[],none,0,0⟩,⟨2,0,0,soundOps,some ⟨k,0,none⟩,6,0⟩,⟨3,0,0,[],none,0,4⟩,⟨4,0,0,[],none,0,0⟩]
def soundWorld (w:World):World:=(w.alloc (.cells (soundOps.flatMap OpD.cells).toArray 27)).alloc (.cells ((soundScript w.heap.size).flatMap StepD.cells).toArray 30)
theorem sound_ext (w:World):Below w.heap.size w (soundWorld w):=ext_trans (ext_alloc _ _) (ext_alloc _ _)
theorem sound_at (w:World):ScriptAt (soundWorld w) (some ⟨w.heap.size+1,0,none⟩) (soundScript w.heap.size):=by
 have h1:(soundWorld w).heap[w.heap.size+1]?=some (.cells ((soundScript w.heap.size).flatMap StepD.cells).toArray 30 (0,0)):=by
  have:=heap_alloc_new (w.alloc (.cells (soundOps.flatMap OpD.cells).toArray 27)) (.cells ((soundScript w.heap.size).flatMap StepD.cells).toArray 30)
  rw[World.size_alloc] at this
  exact this
 have h0:(soundWorld w).heap[w.heap.size]?=some (.cells (soundOps.flatMap OpD.cells).toArray 27 (0,0)) :=
  block_ext (heap_alloc_new w _) (ext_alloc _ _)
 refine⟨?_,fun _=>⟨_,_,rfl,lt_of_block h1,?_⟩⟩
 ·have e1:(⟨1,0,2048,[],none,0,0⟩:StepD).ok∧OpsAt (soundWorld w) none []:=⟨by simp[StepD.ok,i64ok],by simp[OpsAt]⟩
  have e3:(⟨3,0,0,[],none,0,4⟩:StepD).ok∧OpsAt (soundWorld w) none []:=⟨by simp[StepD.ok,i64ok],by simp[OpsAt]⟩
  have e4:(⟨4,0,0,[],none,0,0⟩:StepD).ok∧OpsAt (soundWorld w) none []:=⟨by simp[StepD.ok,i64ok],by simp[OpsAt]⟩
  have e2:(⟨2,0,0,soundOps,some ⟨w.heap.size,0,none⟩,6,0⟩:StepD).ok∧OpsAt (soundWorld w) (some ⟨w.heap.size,0,none⟩) soundOps:=by
   refine⟨by simp[StepD.ok,i64ok,soundOps],?_,fun _=>⟨_,_,rfl,lt_of_block h0,?_⟩⟩
   ·intro o ho
    simp only[soundOps,List.mem_cons,List.not_mem_nil,or_false] at ho
    rcases ho with rfl | rfl | rfl | rfl | rfl | rfl <;> constructor <;> simp[bitsA,bitsB,ByteArray.size]
   ·intro i hi j hj
    rw[cell_at h0]
    simp only[soundOps,List.length_cons,List.length_nil] at hi
    rcases i with _ | _ | _ | _ | _ | _ | i
    all_goals first | (rcases j with _ | _ | _ | _ | _ | j <;> first | rfl | omega) | omega
  intro s hs
  simp only[soundScript,List.mem_cons,List.not_mem_nil,or_false] at hs
  rcases hs with rfl | rfl | rfl | rfl
  ·exact e1
  ·exact e2
  ·exact e3
  ·exact e4
 ·intro i hi j hj
  rw[cell_at h1]
  simp only[soundScript,List.length_cons,List.length_nil] at hi
  rcases i with _ | _ | _ | _ | i
  all_goals first | (rcases j with _ | _ | _ | _ | _ | j <;> first | rfl | omega) | omega
set_option maxHeartbeats 400000 in
set_option maxRecDepth 10000 in
theorem sound_any (w:World) (top code:Int) (hZ:TzTab w) :
  Calls Tryz.prog 7 #[.int .i64 top,.int .i64 code] w fun e w'=>e=.returned (.bool true)∧Below w.heap.size w w':=by
 have HU:=hide (upTo_any (soundWorld w) (some ⟨w.heap.size+1,0,none⟩) 4 (soundScript w.heap.size) 1 4 top code (hZ.ext (sound_ext w)) (by simp[soundScript]) (sound_at w))
 go_enter Tryz.func7,Tryz.ntmps7
 go_wp2_with fail
 refine HU.out.mono ?_
 rintro e w1 ⟨rfl,hb⟩
 have HB:=hide (ext_trans (sound_ext w) hb)
 clear hb HU
 go_wp2
 go_ret
 exact⟨rfl,HB.out⟩
set_option maxHeartbeats 400000 in
set_option maxRecDepth 10000 in
theorem runs_walk (w:World) (ao:Option Addr) (cap:Nat) (ss:List StepD) (hn:ss.length*56≤140737488351232) (hs:ScriptAt w ao ss) (hZ:TzTab w) :
  Calls Tryz.prog 4 #[.slice ao ss.length cap] w fun e w'=>e=.returned (.bool true)∧Below w.heap.size w w':=by
 have HS:=hide hs
 have HZ:=hide hZ
 clear hs hZ
 go_enter Tryz.func4,Tryz.ntmps4
 go_wp2_with fail
 refine(sound_any w 3 3 HZ.out).mono ?_
 rintro e w1 ⟨rfl,hb1⟩
 have HS1:=hide (HS.out.ext (Nat.le_refl _) hb1)
 have HZ1:=hide (HZ.out.ext hb1)
 have HB1:=hide hb1
 clear hb1 HS
 go_wp2_with fail
 refine(upTo_any w1 ao cap ss 2 2 3 3 HZ1.out hn HS1.out).mono ?_
 rintro e w2 ⟨rfl,hb2⟩
 have HB2:=hide (ext_trans HB1.out hb2)
 clear hb2 HB1 HS1
 go_wp2
 go_ret
 exact⟨rfl,HB2.out⟩
set_option maxHeartbeats 400000 in
set_option maxRecDepth 10000 in
theorem dumps_walk (w:World) (ao:Option Addr) (cap:Nat) (ss:List StepD) (hn:ss.length*56≤140737488351232) (hs:ScriptAt w ao ss) (hZ:TzTab w) :
  Calls Tryz.prog 5 #[.slice ao ss.length cap] w fun e w'=>e=.returned (.bool true)∧Below w.heap.size w w':=by
 have HS:=hide hs
 have HZ:=hide hZ
 clear hs hZ
 go_enter Tryz.func5,Tryz.ntmps5
 go_wp2_with fail
 refine(sound_any w 3 3 HZ.out).mono ?_
 rintro e w1 ⟨rfl,hb1⟩
 have HS1:=hide (HS.out.ext (Nat.le_refl _) hb1)
 have HZ1:=hide (HZ.out.ext hb1)
 have HB1:=hide hb1
 clear hb1 HS
 go_wp2_with fail
 refine(upTo_any w1 ao cap ss 3 3 3 3 HZ1.out hn HS1.out).mono ?_
 rintro e w2 ⟨rfl,hb2⟩
 have HB2:=hide (ext_trans HB1.out hb2)
 clear hb2 HB1 HS1
 go_wp2
 go_ret
 exact⟨rfl,HB2.out⟩
set_option maxHeartbeats 400000 in
set_option maxRecDepth 10000 in
theorem all_walk (w:World) (ao:Option Addr) (cap:Nat) (ss:List StepD) (hn:ss.length*56≤140737488351232) (hs:ScriptAt w ao ss) (hZ:TzTab w) :
  Calls Tryz.prog 6 #[.slice ao ss.length cap] w fun e w'=>e=.returned (.bool true)∧Below w.heap.size w w':=by
 have HS:=hide hs
 have HZ:=hide hZ
 clear hs hZ
 go_enter Tryz.func6,Tryz.ntmps6
 go_wp2_with fail
 refine(sound_any w 4 4 HZ.out).mono ?_
 rintro e w1 ⟨rfl,hb1⟩
 have HS1:=hide (HS.out.ext (Nat.le_refl _) hb1)
 have HZ1:=hide (HZ.out.ext hb1)
 have HB1:=hide hb1
 clear hb1 HS
 go_wp2_with fail
 refine(upTo_any w1 ao cap ss 1 4 4 4 HZ1.out hn HS1.out).mono ?_
 rintro e w2 ⟨rfl,hb2⟩
 have HB2:=hide (ext_trans HB1.out hb2)
 clear hb2 HB1 HS1
 go_wp2
 go_ret
 exact⟨rfl,HB2.out⟩
end Go.Proofs.YtnapboelfimaaaaGreatDoor
namespace Go.Proofs.YtnapboelfimaaaaGreatDoor
open Go.ChangeShapes Go.WideShapes Go.RowKit Go.Deep
theorem cellsInt:Tryz.prog.cellsOf 3=1:=by kernel_rfl
theorem cellsString:Tryz.prog.cellsOf 9=1:=by kernel_rfl
theorem cellsOp:Tryz.prog.cellsOf 27=5:=by kernel_rfl
theorem cellsOps:Tryz.prog.cellsOf 28=1:=by kernel_rfl
theorem bytesOp:Tryz.prog.bytesOf 27=48:=by kernel_rfl
section
variable {H:Type} {enc:TypeId × Value→H} {w:World} {base:Nat} {spare:Nat→Bool} {held:Bool}
theorem trod_struct5 {P:Program} {t:TypeId} {f0 f1 f2 f3 f4:Field} {fuel:Nat} {cs:List Value} {x:DataW H × List MemPlace} (ht:P.underlying t=some (.struct #[f0,f1,f2,f3,f4])) (h:DataW.trod enc P w base spare held fuel t cs=some x) :
  ∃y0 y1 y2 y3 y4 n,x=(.agg [y0.1,y1.1,y2.1,y3.1,y4.1],y0.2++(y1.2++(y2.2++(y3.2++y4.2))))∧cs.length=P.cellsOf t∧DataW.trod enc P w base spare held n f0.type ((cs.drop f0.offset).take (P.cellsOf f0.type))=some y0 ∧
   DataW.trod enc P w base spare held n f1.type ((cs.drop f1.offset).take (P.cellsOf f1.type))=some y1∧DataW.trod enc P w base spare held n f2.type ((cs.drop f2.offset).take (P.cellsOf f2.type))=some y2 ∧
   DataW.trod enc P w base spare held n f3.type ((cs.drop f3.offset).take (P.cellsOf f3.type))=some y3∧DataW.trod enc P w base spare held n f4.type ((cs.drop f4.offset).take (P.cellsOf f4.type))=some y4:=by
 obtain⟨xs,n,_,rfl,hl,hlen,hf⟩:=DataW.trod_struct ht h
 match xs,hlen with
 | [y0,y1,y2,y3,y4],_=>exact⟨y0,y1,y2,y3,y4,n,by simp,hl,by simpa using hf 0 f0 rfl,by simpa using hf 1 f1 rfl,by simpa using hf 2 f2 rfl,by simpa using hf 3 f3 rfl,by simpa using hf 4 f4 rfl⟩
theorem list5 {α:Type} {l:List α} (h:l.length=5):∃a b c d e,l=[a,b,c,d,e]:=by
 match l,h with
 | [a,b,c,d,e],_=>exact⟨a,b,c,d,e,rfl⟩
theorem op_ext {a b:OpD} (h:a.cells=b.cells):a=b:=by
 cases a
 cases b
 simp only[OpD.cells,List.cons.injEq,Value.int.injEq,Value.string.injEq,true_and,and_true] at h
 obtain⟨rfl,rfl,rfl,rfl,rfl⟩:=h
 rfl
theorem open_op {fuel:Nat} {cs:List Value} {x:DataW H × List MemPlace} (h:DataW.trod enc Tryz.prog w base spare held fuel 27 cs=some x):∃o:OpD,o.ok∧cs=o.cells:=by
 obtain⟨y0,y1,y2,y3,y4,n,rfl,hl,h0,h1,h2,h3,h4⟩:=trod_struct5 Tryz.underlying27 h
 rw[cellsOp] at hl
 obtain⟨a,b,c,d,e,rfl⟩:=list5 hl
 simp only[cellsInt,cellsString] at h0 h1 h2 h3 h4
 obtain⟨i0,e0,_,b0⟩:=DataW.trod_int Tryz.underlying3 h0
 obtain⟨i1,e1,_,b1⟩:=DataW.trod_int Tryz.underlying3 h1
 obtain⟨s2,e2,_,b2⟩:=DataW.trod_string Tryz.underlying9 h2
 obtain⟨i3,e3,_,b3⟩:=DataW.trod_int Tryz.underlying3 h3
 obtain⟨i4,e4,_,b4⟩:=DataW.trod_int Tryz.underlying3 h4
 simp at e0 e1 e2 e3 e4
 subst e0 e1 e2 e3 e4
 obtain⟨p0,q0⟩:=bounds_i64 b0
 obtain⟨p1,q1⟩:=bounds_i64 b1
 obtain⟨p3,q3⟩:=bounds_i64 b3
 obtain⟨p4,q4⟩:=bounds_i64 b4
 exact⟨⟨i0,i1,s2,i3,i4⟩,⟨p0,q0,p1,q1,p3,q3,p4,q4,by simpa [maxLen] using b2⟩,rfl⟩
theorem spot_none {a:Addr} {v:Value} (h:w.cell? a=some v):a=⟨a.block,a.off,none⟩:=by
 rcases a with ⟨b,o,s⟩
 cases s with
 | none=>rfl
 | some s =>
  unfold World.cell? at h
  split at h
  ·simp at h
  ·simp at h
theorem add_none (b off k:Nat):(⟨b,off,none⟩:Addr).add k=⟨b,off+k,none⟩:=by unfold Addr.add;split <;> simp_all
theorem rows5 {α:Type} (d:α) {a:Addr} {len:Nat} (cells:α→List Value) (hlen5:∀x,(cells x).length=5) (hlen:0<len) (h:∀i,i<len→∃x:α,w.cells? base (a.add (i*5)) 5=some (cells x)) :
  ∃xs:List α,xs.length=len∧∃b off,a=⟨b,off,none⟩∧b<w.heap.size∧∀i,i<len→∀j,j<5→w.cell? ⟨b,off+(i*5+j),none⟩=(cells (xs.getD i d))[j]?:=by
 have:Inhabited α:=⟨d⟩
 obtain⟨f,hf⟩:=choose_lt h
 have hsp:a=⟨a.block,a.off,none⟩:=by
  have h0:=(World.cells?_some (hf 0 hlen)).2.2 0 (by omega)
  simp only[Nat.zero_mul] at h0
  have e:(a.add 0).add 0=a:=by simp[Addr.add]
  rw[e] at h0
  have h5:=hlen5 (f 0)
  rw[List.getElem?_eq_getElem (by omega)] at h0
  exact spot_none h0
 refine⟨(List.range len).map f,by simp,a.block,a.off,hsp,World.cells?_block (by simpa [Addr.add] using hf 0 hlen) (by omega),?_⟩
 intro i hi j hj
 have hij:=(World.cells?_some (hf i hi)).2.2 j (by omega)
 rw[hsp,add_none,add_none] at hij
 rw[show a.off+(i*5+j)=a.off+i*5+j by omega,hij]
 simp[List.getD,hi]
theorem open_ops {fuel:Nat} {cs:List Value} {x:DataW H × List MemPlace} (h:DataW.trod enc Tryz.prog w base spare held fuel 28 cs=some x) :
  ∃(ops:List OpD) (ao:Option Addr) (cap:Nat),cs=[.slice ao ops.length cap]∧OpsAt w ao ops∧((∀n∈x.1.weights Tryz.prog 28,n≤reachBytes)→ops.length*48≤140737488351232):=by
 rcases open_slice Tryz.underlying28 h with ⟨rfl,rfl⟩ | ⟨a,len,cap,m,n,D,Pl,rfl,hb,hl,hm,hmm,rfl,hx⟩
 ·exact⟨[],none,0,rfl,⟨by simp,by simp⟩,fun _=>by simp⟩
 ·have hlm:len≤m:=by subst hmm;split <;> omega
  rw[cellsOp] at hx
  by_cases h0:len=0
  ·subst h0
   exact⟨[],some a,cap,rfl,⟨by simp,by simp⟩,fun _=>by simp⟩
  ·have hx':∀i,i<len→∃o:OpD,w.cells? base (a.add (i*5)) 5=some o.cells:=by
    intro i hi
    obtain⟨cs',h1,h2⟩:=hx i (by omega)
    obtain⟨o,_,rfl⟩:=open_op h2
    exact⟨o,h1⟩
   obtain⟨ops,hlen,b,off,rfl,hblt,hc⟩:=rows5 ⟨0,0,.empty,0,0⟩ OpD.cells (fun _=>rfl) (by omega) hx'
   subst hlen
   refine⟨ops,some ⟨b,off,none⟩,cap,rfl,⟨?_,fun _=>⟨b,off,rfl,hblt,hc⟩⟩,?_⟩
   ·intro o ho
    obtain⟨i,hi,rfl⟩:=List.getElem_of_mem ho
    obtain⟨cs',h1,h2⟩:=hx i (by omega)
    obtain⟨o',ok',rfl⟩:=open_op h2
    have e:ops[i].cells=o'.cells:=by
     apply List.ext_getElem?
     intro j
     by_cases hj:j<5
     ·have g1:=(World.cells?_some h1).2.2 j hj
      have g2:=hc i hi j hj
      rw[add_none,add_none,show off+i*5+j=off+(i*5+j) by omega,g2] at g1
      rw[←g1]
      simp[List.getD,hi]
     ·rw[List.getElem?_eq_none (by simp[OpD.cells];omega),List.getElem?_eq_none (by simp[OpD.cells];omega)]
    rw[op_ext e]
    exact ok'
   ·intro hw
    have:=hw ((ops.length+((List.range (m-ops.length)).map fun j=>D (ops.length+j)).length)*Tryz.prog.bytesOf 27) (by simp[DataW.weights,Tryz.underlying28])
    rw[bytesOp] at this
    simp only[reachBytes] at this
    omega
theorem open_step {fuel:Nat} {cs:List Value} {x:DataW H × List MemPlace} (h:DataW.trod enc Tryz.prog w base spare held fuel 30 cs=some x) (hw:∀n∈x.1.weights Tryz.prog 30,n≤reachBytes) :
  ∃s:StepD,s.ok∧OpsAt w s.opsAt s.ops∧cs=s.cells:=by
 obtain⟨y0,y1,y2,y3,y4,n,rfl,hl,h0,h1,h2,h3,h4⟩:=trod_struct5 Tryz.underlying30 h
 rw[show Tryz.prog.cellsOf 30=5 from by kernel_rfl] at hl
 obtain⟨a,b,c,d,e,rfl⟩:=list5 hl
 simp only[cellsInt,cellsOps] at h0 h1 h2 h3 h4
 obtain⟨i0,e0,_,b0⟩:=DataW.trod_int Tryz.underlying3 h0
 obtain⟨i1,e1,_,b1⟩:=DataW.trod_int Tryz.underlying3 h1
 obtain⟨i2,e2,_,b2⟩:=DataW.trod_int Tryz.underlying3 h2
 obtain⟨ops,ao,cap,e3,b3,b5⟩:=open_ops h3
 obtain⟨i4,e4,_,b4⟩:=DataW.trod_int Tryz.underlying3 h4
 simp at e0 e1 e2 e3 e4
 subst e0 e1 e2 e3 e4
 refine⟨⟨i0,i1,i2,ops,ao,cap,i4⟩,⟨bounds_i64 b0,bounds_i64 b1,bounds_i64 b2,bounds_i64 b4,b5 fun n hn=>hw n ?_⟩,b3,rfl⟩
 simp only[DataW.weights,Tryz.underlying30]
 exact DataW.weights_mem_each (j:=3) (t:=28) (d:=y3.1) rfl rfl n hn
theorem weights_mem_all {P:Program} {e:TypeId} {l:List (DataW H)} {d:DataW H} {n:Nat} (hd:d∈l) (hn:n∈d.weights P e):n∈DataW.weightsAll P e l:=by
 induction l with
 | nil=>cases hd
 | cons x l ih =>
  simp only[DataW.weightsAll,List.mem_append]
  rcases List.mem_cons.1 hd with rfl | h
  ·exact .inl hn
  ·exact .inr (ih h)
theorem open_script {fuel:Nat} {cs:List Value} {x:DataW H × List MemPlace} (h:DataW.trod enc Tryz.prog w base spare held fuel 22 cs=some x) (hw:∀n∈x.1.weights Tryz.prog 22,n≤reachBytes) :
  ∃(ss:List StepD) (ao:Option Addr) (cap:Nat),cs=[.slice ao ss.length cap]∧ScriptAt w ao ss∧ss.length*56≤140737488351232:=by
 rcases open_slice Tryz.underlying22 h with ⟨rfl,rfl⟩ | ⟨a,len,cap,m,n,D,Pl,rfl,hb,hl,hm,hmm,rfl,hx⟩
 ·exact⟨[],none,0,rfl,⟨by simp,by simp⟩,by simp⟩
 ·have hlm:len≤m:=by subst hmm;split <;> omega
  rw[show Tryz.prog.cellsOf 30=5 from by kernel_rfl] at hx
  by_cases h0:len=0
  ·subst h0
   exact⟨[],some a,cap,rfl,⟨by simp,by simp⟩,by simp⟩
  ·have hx':∀i,i<len→∃s:StepD,s.ok∧OpsAt w s.opsAt s.ops∧w.cells? base (a.add (i*5)) 5=some s.cells:=by
    intro i hi
    obtain⟨cs',h1,h2⟩:=hx i (by omega)
    obtain⟨s,hok,hops,rfl⟩:=open_step h2 (fun n hn=>hw n (by
     simp only[DataW.weights,Tryz.underlying22,List.mem_cons,List.mem_append]
     exact .inr (.inl (weights_mem_all (List.mem_map_of_mem (List.mem_range.2 hi)) hn))))
    exact⟨s,hok,hops,h1⟩
   obtain⟨ss,hlen,b,off,rfl,hblt,hc⟩:=rows5 (len:=len) (α:={ s:StepD // s.ok∧OpsAt w s.opsAt s.ops }) ⟨StepD.zero,by simp[StepD.zero,StepD.ok,i64ok,OpsAt]⟩ (fun s=>s.1.cells) (fun _=>rfl) (by omega) (fun i hi=>by
    obtain⟨s,h1,h2,h3⟩:=hx' i hi
    exact⟨⟨s,h1,h2⟩,h3⟩)
   subst hlen
   refine⟨ss.map (·.1),some ⟨b,off,none⟩,cap,by simp,⟨?_,fun _=>⟨b,off,rfl,hblt,?_⟩⟩,?_⟩
   ·intro s hs
    obtain⟨y,_,rfl⟩:=List.mem_map.1 hs
    exact y.2
   ·intro i hi j hj
    rw[List.length_map] at hi
    rw[hc i hi j hj]
    simp[List.getD,hi]
   ·have:=hw ((ss.length+((List.range (m-ss.length)).map fun j=>D (ss.length+j)).length)*Tryz.prog.bytesOf 30) (by simp[DataW.weights,Tryz.underlying22])
    rw[show Tryz.prog.bytesOf 30=56 from by kernel_rfl] at this
    simp only[reachBytes] at this
    rw[List.length_map]
    omega
end
def tzL:List Int:=[0,1,56,2,57,49,28,3,61,58,42,50,38,29,17,4,62,47,59,36,45,43,51,22,53,39,33,30,24,18,12,5,63,55,48,27,60,41,37,16,46,35,44,21,52,32,23,11,54,26,40,15,34,20,31,10,25,14,19,9,13,8,7,6]
theorem tzL_get:∀j,j<64→tzL.getD j 0=((Go.Lib.deBruijn64tab.getD j 0:Nat):Int):=by decide
theorem tz_of_laid {W:World} (h:laidMet Tryz.prog [("math/bits.deBruijn32tab",Rows.laid_math_bits_deBruijn32tab),("math/bits.deBruijn64tab",Rows.laid_math_bits_deBruijn64tab)] W):TzTab W:=by
 obtain⟨ps,⟨_,_,_,_,_,q,_,_,_,_,hrest,_⟩,_⟩:=h
 obtain⟨g,t,cs,fuel,p,q',hg,ht,hvar,hd,_,_⟩:=hrest
 obtain rfl:1=g:=Option.some.inj ((show Tryz.prog.globalNamed "math/bits.deBruijn64tab" = some 1 by kernel_rfl).symm.trans hg)
 obtain rfl:146=t:=Option.some.inj ((show (Tryz.prog.globals[1]?).map (·.type)=some 146 by kernel_rfl).symm.trans ht)
 have hcs:=Go.Lib.cells_of_tab (k:=.u8) (zs:=tzL) (n:=64) (e:=5) (by kernel_rfl) (by kernel_rfl) (by kernel_rfl) (by kernel_rfl) hd
 have htab:Go.Lib.TabIs Tryz.prog W "math/bits.deBruijn64tab" .u8 tzL:=by
  unfold Go.Lib.TabIs
  rw[hvar,←hcs]
 intro j hj
 have hc:=htab.cell (show Tryz.prog.globalNamed "math/bits.deBruijn64tab" = some 1 by kernel_rfl) j (by simpa [tzL] using hj)
 rw[hc,tzL_get j hj]
end Go.Proofs.YtnapboelfimaaaaGreatDoor
/- Proved: every call, in every order, is answered as the document says, and no list that came out or was handed in is touched again (statement All), for all scripts. -/
namespace Go.Proofs.YtnapboelfimaaaaGreatDoor.all
open Go.ChangeShapes Go.WideShapes Go.ChangeAt Go.RowKit Go.Deep
theorem laidOut:laidOutB Tryz.prog=true:=by kernel_rfl
theorem own:ownKnob Tryz.prog.godebug=none:=by kernel_rfl
set_option maxRecDepth 10000 in
theorem contract (H:Type) (enc:TypeId × Value→H) (W:World) (base:Nat) (args:Array Value) (ds gs:List (DataW H)) (before:List MemPlace)
  (hval:∀(j:Nat) t v,Tryz.f6.params[j]?=some t→args[j]?=some v→Value.okWide Tryz.prog W .any base t v)
  (hW:DataW.Whole enc Tryz.prog Tryz.f6.params.toList Rows.allSpec.vars false W args.toList ds gs before)
  (hsz:(DataW.weightsEach Tryz.prog (Tryz.f6.params.toList++Rows.allSpec.plain.varTypes Tryz.prog) (ds++gs)).all (·≤reachBytes)=true) (hlaid:laidMet Tryz.prog Rows.allRow.laid W) :
  Calls Tryz.prog 6 args W fun e W'=>∃v,e=.returned v∧Rows.allSpec.post enc Tryz.prog Tryz.f6 false true false false W args v W':=by
 have hW':=hW
 obtain⟨p,q,hA0,hV,rfl,hfz,hnd⟩:=hW
 have hA:DataW.TrodAll enc Tryz.prog W 0 (fun _=>true) true Tryz.f6.params.toList args.toList ds p:=hA0
 rw[Tryz.params6] at hA hval hsz
 obtain⟨v0,vs0,d0,ds0,p0,q0,hargs,rfl,rfl,h0,r0⟩:=trodAll_cons hA
 obtain⟨rfl,rfl,rfl⟩:=trodAll_nil r0
 obtain rfl:args=#[v0]:=by cases args;simp_all
 obtain⟨rfl,rfl⟩:=trodVars_none hV
 obtain⟨a0,len,cap,rfl⟩:=okWide_slice Tryz.underlying22 (hval 0 22 v0 rfl rfl)
 have h0k:=h0
 obtain⟨fuel,hf⟩:=h0
 obtain⟨ss,ao,cap',e,hs,hn⟩:=open_script hf (fun n hn=>by
  have:=List.all_eq_true.1 hsz n (DataW.weights_mem_each (j:=0) (t:=22) rfl rfl n hn)
  simpa using this)
 simp[Value.cells] at e
 obtain⟨rfl,rfl,rfl⟩:=e
 clear hA0 hsz
 simp only[List.append_nil] at hW'
 refine(all_walk W a0 cap ss hn hs (tz_of_laid hlaid)).mono fun e W' ⟨he,hg⟩=>?_
 subst he
 have hlt:∀x∈p0,x.block<W.heap.size:=fun x hx=>by simpa using hW'.lt x hx
 have hArg:=Below.trod laidOut (by kernel_rfl) (of_decide_eq_true (by kernel_rfl)) h0k hg hlt
 exact⟨_,rfl,[d0],[],p0,[],p0,[],hW',trodAll_cons_mk (shut_bool Tryz.underlying4 true) trodAll_mk0,(by have h1:=trodAll_cons_mk hArg trodAll_mk0;rw[List.append_nil] at h1;exact h1),rfl,hg.frame _,fun h=>by cases h⟩
def lay (xs:List Int):Obj→Obj
 | .cells _ t frozen=>.cells (xs.map (Value.int .u8)).toArray t frozen
 | o=>o
def tab32:List Int:=[0,1,28,2,29,14,24,3,30,22,20,15,25,17,4,8,31,27,13,23,21,19,16,7,26,12,18,6,11,5,10,9]
def tab64:List Int:=[0,1,56,2,57,49,28,3,61,58,42,50,38,29,17,4,62,47,59,36,45,43,51,22,53,39,33,30,24,18,12,5,63,55,48,27,60,41,37,16,46,35,44,21,52,32,23,11,54,26,40,15,34,20,31,10,25,14,19,9,13,8,7,6]
theorem laid_met (os:Os):laidMet Tryz.prog Rows.allRow.laid (({ World.holding Tryz.prog os ⟨#[],#[],[]⟩ with heap:=((World.holding Tryz.prog os ⟨#[],#[],[]⟩).heap.modify 0 (lay tab32)).modify 1 (lay tab64) }:World).forCall (fun _ _=>0) ⟨#[],#[.slice none 0 0],[]⟩).memory :=
 laidMet_of_run' 8 (by kernel_rfl) (by kernel_rfl)
theorem reads (os:Os) {H:Type} (enc:TypeId × Value→H):∃places,DataW.whole enc Tryz.prog (({ World.holding Tryz.prog os ⟨#[],#[],[]⟩ with heap:=((World.holding Tryz.prog os ⟨#[],#[],[]⟩).heap.modify 0 (lay tab32)).modify 1 (lay tab64) }:World).forCall (fun _ _=>0) ⟨#[],#[.slice none 0 0],[]⟩).memory Tryz.f6.params.toList Rows.allSpec.vars false #[Value.slice none 0 0].toList 8=some ([.nil],[],places) :=
 ⟨[],by kernel_rfl⟩
set_option maxRecDepth 100000 in
theorem lifted (os:Os) (started:os.Started) (H:Type) (enc:TypeId × Value→H) (F:Stop.Interp) :
  ReturnsInHanded {} Tryz.checked os 6 .any ((OpenSpec.ofChange Rows.allSpec).preRow enc Tryz.prog Tryz.f6 Rows.allRow.domain false Rows.allRow.laid) (((OpenSpec.ofChange Rows.allSpec).at F).post enc Tryz.prog Tryz.f6 false true false false):=by
 obtain⟨places,hx⟩:=reads os enc
 refine returnsInHanded_of_row (C:=Tryz.checked) (s:=OpenSpec.ofChange Rows.allSpec) own started (by kernel_rfl) Tryz.func6
  (witness_row_at (enc:=enc) (C:=Tryz.checked) false ({ World.holding Tryz.prog os ⟨#[],#[],[]⟩ with heap:=((World.holding Tryz.prog os ⟨#[],#[],[]⟩).heap.modify 0 (lay tab32)).modify 1 (lay tab64) }:World) #[.slice none 0 0] rfl (by kernel_rfl) (by kernel_rfl) (by kernel_rfl)
   (OpenSpec.preRow_of_cond 8 hx (by kernel_rfl) (fun k hk=>by cases hk) (by kernel_rfl) (laid_met os))) ?_
 intro W base args ds gs before hval hW _ _ hsz hlaid _ _
 exact contract H enc W base args ds gs before hval hW hsz hlaid
theorem said:Rows.AllSaid :=
 OpenClaim.holds_of_cond 6 Tryz.f6 rfl rfl rfl rfl rfl rfl rfl ⟨rfl,rfl,rfl,rfl,rfl⟩ rfl rfl rfl rfl rfl (by kernel_rfl) Tryz.func6 (by kernel_rfl)
  (of_decide_eq_true (by kernel_rfl)) (by unfold Func.isWrapper;first | (rw[if_pos (by decide +kernel)];kernel_rfl) | (rw[if_neg (by decide +kernel)];exact⟨rfl,rfl⟩))
  (fun os started H enc _ F=>by rw[OpenClaim.pre_eq_preRow];exact lifted os started H enc F)
theorem plain (f:FuncId) (fn:Func) (hf:Tryz.pinned.checked.prog.funcNamed Rows.allRow.func=some f) (hfn:Tryz.pinned.checked.prog.funcs[f]?=some fn) :
  true=Tryz.pinned.checked.prog.looks []∧∀(j:Nat) t,fn.params[j]?=some t→Tryz.pinned.checked.prog.wantsStandIn t=false:=by
 obtain rfl:f=6:=Option.some.inj ((show Tryz.prog.funcNamed Rows.allRow.func=some 6 by kernel_rfl).symm.trans hf) |>.symm
 obtain rfl:fn=Tryz.f6:=(Option.some.inj (Tryz.func6.symm.trans hfn)).symm
 refine⟨by kernel_rfl,fun j t ht=>?_⟩
 rw[Tryz.params6] at ht
 obtain rfl:t=22:=by simpa using Array.mem_of_getElem? ht
 exact(show Tryz.prog.wantsStandIn 22=false by kernel_rfl)
end Go.Proofs.YtnapboelfimaaaaGreatDoor.all
namespace Go.Proofs.YtnapboelfimaaaaGreatDoor
theorem all_card:Rows.AllCardSaid :=
 Claim7.holds_tied_plain_at .later [] _ _ _ _ all.said (fun _ h=>by cases h) (by kernel_rfl) (fun _ h=>by cases h) all_row_tie rfl ⟨rfl,rfl⟩ (by kernel_rfl) rfl all.plain (by kernel_rfl)
end Go.Proofs.YtnapboelfimaaaaGreatDoor
