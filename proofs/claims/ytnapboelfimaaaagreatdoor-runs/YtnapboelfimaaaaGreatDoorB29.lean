/- ShA, ShM, Data, RefA: parts of the proof, one behind the other. -/
import Derived.Test.YtnapboelfimaaaaGreatDoorB18
import Derived.Test.YtnapboelfimaaaaGreatDoorB27
import Derived.Test.YtnapboelfimaaaaGreatDoorB28
import Derived.BigQuiet
import Derived.Deep.QuietTactic
import Derived.Lib.RabinKarpLaws
namespace Go.Proofs.YtnapboelfimaaaaGreatDoor
open Go.RowKit Go.Deep
theorem owns_slice {w:World} {base:Nat} {e:TypeId} {size:Nat} {v:Value} {n:Nat} {xs:List Value} (h:w.ownsRow base e size v n xs):∃ao cap,v=.slice ao n cap:=by
 rcases h.2 with ⟨e,h0⟩ | ⟨g,cap,cur,e,_⟩
 ·exact⟨none,0,by rw[e,h0]⟩
 ·exact⟨_,cap,e⟩
theorem TzTab.ext {w w':World} (h:TzTab w) (hb:Below w.heap.size w w'):TzTab w':=fun j hj=>cell_ext (h j hj) hb
def tellL (S:St) (f:Int):List RouteD:=(dumpR (S.M (fam f)) (dp (fam f))).map (rdOf (famBytes f))
theorem dump_any (S:St) (hS:S.ok) (b:FB) (w:World) (h:b.lies w S.A) (hZ:TzTab w) (x:Int) (f:Int) (hx:x=f) (hf:famBytes f≠0) :
  Calls Tryz.prog 23 #[.pointer (some ⟨b.fb,0,none⟩),.int .i64 x] w fun e w'=>∃v,e=.returned v∧w'.ownsRow w.heap.size 66 3 v (tellL S f).length (flatR (tellL S f))∧Below w.heap.size w w':=by
 subst hx
 have:=fdump_any S hS b w h hZ x hf
 unfold tellL
 rw[List.length_map]
 exact this
theorem tell_le {S:St} (hS:S.ok) (f:Int):(tellL S f).length≤67584:=by
 unfold tellL
 rw[List.length_map]
 exact hS.len _
theorem run_get (S:St):∀(os:List OpD) (i:Nat) (o:OpD),os[i]?=some o→(S.run os).2[i]?=some ((S.run (os.take i)).1.step o).2:=by
 intro os
 induction os generalizing S with
 | nil=>intro i o h;simp at h
 | cons p os ih =>
  intro i o h
  cases i with
  | zero=>cases h;rfl
  | succ i =>
   show (((S.step p).1.run os).2)[i]?=_
   exact ih (S.step p).1 i o h
theorem run_next {S:St} {os:List OpD} {i:Nat} {o:OpD} (h:os[i]?=some o):(S.run (os.take (i+1))).1=((S.run (os.take i)).1.step o).1:=by rw[run_take h]
theorem FB.moved.keep {b b':FB} {w w':World} {A B:Ar} {k:Nat} {c:Array Value} {t:TypeId} {fz:Nat × Nat} (h:b.moved b' w w' B) (hl:b.lies w A) (hk:w.heap[k]?=some (.cells c t fz)) (h1:t≠81) (h2:t≠103) (h3:t≠136):w'.heap[k]?=some (.cells c t fz):=by
 refine h.fr.at hk ?_
 have n1:=ty_ne hk hl.tab.tab h1
 have n2:=ty_ne hk hl.tab.ar.arena h2
 have n3:=ty_ne hk hl.tab.ar.words h3
 simp
 exact⟨n1,n2,n3⟩
theorem free_x (b:FB) (A:Ar) (w:World) (h:b.lies w A):Calls Tryz.prog 15 #[.pointer (some ⟨b.fb,0,none⟩)] w fun e w'=>e=.returned (.int .i64 A.free)∧w'=w :=
 free_any b.fb b.tb b.ab A.free w (by rw[cell_at h.fib];rfl) h.tab.cell h.tab.ar.free
theorem FB.ge.mono {b:FB} {K L:Nat} (h:b.ge K) (hl:L≤K):b.ge L:=⟨Nat.le_trans hl h.1,Nat.le_trans hl h.2.1,Nat.le_trans hl h.2.2.1,Nat.le_trans hl h.2.2.2⟩
theorem St.ok.tab {S:St} (h:S.ok) (q:Bool):TabOk (8+4*dp q) (S.M q):=by
 obtain⟨F,hI⟩:=h.inv
 exact hI.tab q
theorem dump_none (q:Bool):dumpR (noTab q) (dp q)=[]:=by
 rw[List.eq_nil_iff_forall_not_mem]
 intro x hx
 have hT:=(inv_new (n:=2048) (by omega) (by omega)).tab q
 have:=(mem_dumpR hT (dp_le q) x).1 hx
 cases this
theorem tell_count (S:St):(tellL S 4).length+(tellL S 6).length=count2 S.M:=by
 unfold tellL count2
 rw[List.length_map,List.length_map,show fam 4=false by decide,show fam 6=true by decide]
end Go.Proofs.YtnapboelfimaaaaGreatDoor
namespace Go.Proofs.YtnapboelfimaaaaGreatDoor
open Go.RowKit Go.Deep
def kb (K k:Nat):Nat:=K/2^(135-k)%2
theorem mod256_div {x j:Nat} (hj:j≤7):x%256/2^j%2=x/2^j%2:=by
 rcases (by omega:j=0∨j=1∨j=2∨j=3∨j=4∨j=5∨j=6∨j=7) with rfl | rfl | rfl | rfl | rfl | rfl | rfl | rfl <;> omega
theorem kb_byte {K k:Nat} (hk:k<136):kbyte K (k/8)/2^(7-k%8)%2=kb K k:=by
 unfold kbyte kb
 rw[mod256_div (by omega),Nat.div_div_eq_div_mul,←Nat.pow_add,show 8*(16-k/8)+(7-k%8)=135-k by omega]
theorem fit_succ {K l:Nat} (hl:l<136):fitK K (l+1)=2*fitK K l+kb K l:=by
 unfold fitK kb
 have e:K/2^(136-l)=K/2^(135-l)/2:=by
  rw[Nat.div_div_eq_div_mul,←Nat.pow_succ,show (135-l).succ=136-l by omega]
 rw[e,show 136-(l+1)=135-l by omega]
 omega
theorem fit_zero {K:Nat} (h:K<2^136):fitK K 0=0:=by unfold fitK;exact Nat.div_eq_of_lt h
theorem fit_down {A B i l:Nat} (hil:i≤l) (hl:l≤136) (h:fitK A l=fitK B l):fitK A i=fitK B i:=by
 unfold fitK at *
 have e:∀X:Nat,X/2^(136-i)=X/2^(136-l)/2^(l-i):=by
  intro X
  rw[Nat.div_div_eq_div_mul,←Nat.pow_add,show 136-l+(l-i)=136-i by omega]
 rw[e A,e B,h]
theorem fit_bit {A B i l:Nat} (hil:i<l) (hl:l≤136) (h:kb A i≠kb B i):fitK A l≠fitK B l:=by
 intro e
 have e1:=fit_down (show i+1≤l by omega) hl e
 have e0:=fit_down (show i≤l by omega) hl e
 rw[fit_succ (by omega),fit_succ (by omega),e0] at e1
 omega
theorem fit_addr {l v h:Nat}:fitK (addr (l,v,h)) l=v:=by
 unfold fitK addr
 simp only
 exact Nat.mul_div_cancel _ (Nat.two_pow_pos _)
theorem addr_lt {l v h:Nat} (hl:l≤136) (hv:v<2^l):addr (l,v,h)<2^136:=by
 unfold addr
 simp only
 have h1:v*2^(136-l)<2^l*2^(136-l):=Nat.mul_lt_mul_of_pos_right hv (Nat.two_pow_pos _)
 rw[←Nat.pow_add,show l+(136-l)=136 by omega] at h1
 exact h1
theorem keyS_size (n K:Nat):(keyS n K).size=n:=by unfold keyS;simp[ByteArray.size,digL_len]
theorem keyS_byte {n K i:Nat} (hi:i<n):sbyte (keyS n K) i=kbyte K i:=by
 unfold sbyte keyS
 simp only
 rw[digL_map,List.getD_eq_getElem?_getD,List.getElem?_map,List.getElem?_range hi]
 simp only[Option.map_some,Option.getD_some,Nat.zero_add]
 have:=dig_lt K i
 show (UInt8.ofNat (dig K i)).toNat=dig K i
 simp
 omega
structure RtOk (M:Tab) (n:Nat) (x:Nat × Nat × Nat):Prop where
 len:x.1≤8*n
 val:x.2.1<2^x.1
 hop:x.2.2≤65535
 tab:M x.1 x.2.1=some x.2.2
theorem rt_ok {S:St} (h:S.ok) {f:Int} (hf:famBytes f≠0) {x:Nat × Nat × Nat} (hx:x∈dumpR (S.M (fam f)) (dp (fam f))):RtOk (S.M (fam f)) (famBytes f) x:=by
 have hT:=h.tab (fam f)
 have hm:=(mem_dumpR hT (dp_le _) x).1 hx
 have hb:=fam_bits hf
 have hl:=hT.len x.1 x.2.1 (by rw[hm];rfl)
 have hv:=hT.val x.1 x.2.1 (by rw[hm];rfl)
 exact⟨by omega,hv,h.hops _ _ _ _ hm,hm⟩
theorem free_eq {S T:St} (hS:S.ok) (hT:T.ok) (hM:S.M=T.M) (hs:S.A.size=T.A.size):S.A.free=T.A.free:=by
 obtain⟨F,h1⟩:=hS.inv
 obtain⟨F',h2⟩:=hT.inv
 rw[←hM] at h2
 exact free_same h1 h2 hs
theorem free_least {S:St} (h:S.ok):(S.A.size:Int)-1280-64*(count2 S.M:Nat)≤S.A.free:=by
 obtain⟨F,h1⟩:=h.inv
 have:=free_room h1
 omega
end Go.Proofs.YtnapboelfimaaaaGreatDoor
namespace Go.Proofs.YtnapboelfimaaaaGreatDoor
open Go.RowKit Go.Deep
def OpD.cells (o:OpD):List Value:=[.int .i64 o.code,.int .i64 o.family,.string o.bits,.int .i64 o.len,.int .i64 o.hop]
def OpD.agg (o:OpD):Value:=.agg #[.int .i64 o.code,.int .i64 o.family,.string o.bits,.int .i64 o.len,.int .i64 o.hop]
def i64ok (x:Int):Prop:=-9223372036854775808≤x∧x≤9223372036854775807
def OpsAt (w:World) (ao:Option Addr) (ops:List OpD):Prop :=
 (∀o∈ops,o.ok)∧(ops≠[]→∃b off,ao=some ⟨b,off,none⟩∧b<w.heap.size∧∀i,i<ops.length→∀j,j<5→w.cell? ⟨b,off+(i*5+j),none⟩=((ops.getD i ⟨0,0,.empty,0,0⟩).cells)[j]?)
structure StepD where
 kind:Int
 n:Int
 words:Int
 ops:List OpD
 opsAt:Option Addr
 opsCap:Nat
 family:Int
def StepD.ok (s:StepD):Prop:=i64ok s.kind∧i64ok s.n∧i64ok s.words∧i64ok s.family∧s.ops.length*48≤140737488351232
def StepD.opsVal (s:StepD):Value:=.slice s.opsAt s.ops.length s.opsCap
def StepD.cells (s:StepD):List Value:=[.int .i64 s.kind,.int .i64 s.n,.int .i64 s.words,s.opsVal,.int .i64 s.family]
def StepD.zero:StepD:=⟨0,0,0,[],none,0,0⟩
def ScriptAt (w:World) (ao:Option Addr) (ss:List StepD):Prop :=
 (∀s∈ss,s.ok∧OpsAt w s.opsAt s.ops)∧(ss≠[]→∃b off,ao=some ⟨b,off,none⟩∧b<w.heap.size∧∀i,i<ss.length→∀j,j<5→w.cell? ⟨b,off+(i*5+j),none⟩=((ss.getD i StepD.zero).cells)[j]?)
theorem OpsAt.ext {w w':World} {B:Nat} {ao:Option Addr} {ops:List OpD} (h:OpsAt w ao ops) (hB:w.heap.size≤B) (hb:Below B w w'):OpsAt w' ao ops:=by
 refine⟨h.1,fun hne=>?_⟩
 obtain⟨b,off,e,hlt,hc⟩:=h.2 hne
 exact⟨b,off,e,Nat.lt_of_lt_of_le hlt hb.size,fun i hi j hj=>(hb.cell (p:=⟨b,off+(i*5+j),none⟩) (by simp;omega)).trans (hc i hi j hj)⟩
theorem ScriptAt.ext {w w':World} {B:Nat} {ao:Option Addr} {ss:List StepD} (h:ScriptAt w ao ss) (hB:w.heap.size≤B) (hb:Below B w w'):ScriptAt w' ao ss:=by
 refine⟨fun s hs=>⟨(h.1 s hs).1,(h.1 s hs).2.ext hB hb⟩,fun hne=>?_⟩
 obtain⟨b,off,e,hlt,hc⟩:=h.2 hne
 exact⟨b,off,e,Nat.lt_of_lt_of_le hlt hb.size,fun i hi j hj=>(hb.cell (p:=⟨b,off+(i*5+j),none⟩) (by simp;omega)).trans (hc i hi j hj)⟩
theorem step_cells {w w':World} {B b off k:Nat} {ss:List StepD} (hlt:b<w.heap.size) (hB:w.heap.size≤B) (hb:Below B w w') (hk:k<ss.length) (hc:∀i,i<ss.length→∀j,j<5→w.cell? ⟨b,off+(i*5+j),none⟩=((ss.getD i StepD.zero).cells)[j]?) :
  w'.cell? ⟨b,off+k*5,none⟩=some (.int .i64 (ss.getD k StepD.zero).kind)∧w'.cell? ⟨b,off+k*5+1,none⟩=some (.int .i64 (ss.getD k StepD.zero).n)∧w'.cell? ⟨b,off+k*5+2,none⟩=some (.int .i64 (ss.getD k StepD.zero).words)∧w'.cell? ⟨b,off+k*5+3,none⟩=some (ss.getD k StepD.zero).opsVal∧w'.cell? ⟨b,off+k*5+4,none⟩=some (.int .i64 (ss.getD k StepD.zero).family):=by
 have g:∀j,j<5→w'.cell? ⟨b,off+(k*5+j),none⟩=((ss.getD k StepD.zero).cells)[j]?:=fun j hj=>(hb.cell (p:=⟨b,off+(k*5+j),none⟩) (by simp;omega)).trans (hc k hk j hj)
 exact⟨g 0 (by omega),g 1 (by omega),g 2 (by omega),g 3 (by omega),g 4 (by omega)⟩
theorem op_cells {w w':World} {B b off k:Nat} {ops:List OpD} (hlt:b<w.heap.size) (hB:w.heap.size≤B) (hb:Below B w w') (hk:k<ops.length) (hc:∀i,i<ops.length→∀j,j<5→w.cell? ⟨b,off+(i*5+j),none⟩=((ops.getD i ⟨0,0,.empty,0,0⟩).cells)[j]?) :
  w'.cell? ⟨b,off+k*5,none⟩=some (.int .i64 (ops.getD k ⟨0,0,.empty,0,0⟩).code)∧w'.cell? ⟨b,off+k*5+1,none⟩=some (.int .i64 (ops.getD k ⟨0,0,.empty,0,0⟩).family)∧w'.cell? ⟨b,off+k*5+2,none⟩=some (.string (ops.getD k ⟨0,0,.empty,0,0⟩).bits)∧w'.cell? ⟨b,off+k*5+3,none⟩=some (.int .i64 (ops.getD k ⟨0,0,.empty,0,0⟩).len)∧w'.cell? ⟨b,off+k*5+4,none⟩=some (.int .i64 (ops.getD k ⟨0,0,.empty,0,0⟩).hop):=by
 have g:∀j,j<5→w'.cell? ⟨b,off+(k*5+j),none⟩=((ops.getD k ⟨0,0,.empty,0,0⟩).cells)[j]?:=fun j hj=>(hb.cell (p:=⟨b,off+(k*5+j),none⟩) (by simp;omega)).trans (hc k hk j hj)
 exact⟨g 0 (by omega),g 1 (by omega),g 2 (by omega),g 3 (by omega),g 4 (by omega)⟩
theorem getD_mem {α:Type} {l:List α} {k:Nat} (d:α) (h:k<l.length):l.getD k d∈l:=by
 rw[List.getD_eq_getElem?_getD,List.getElem?_eq_getElem h]
 exact List.getElem_mem h
def keptOps (code:Int) (ops:List OpD):List OpD:=ops.filter fun o=>decide (o.code≤code) || decide (4<o.code)
theorem keptOps_yes (code:Int) (ops:List OpD) (m:Nat) (h:m<ops.length) (hy:(ops.getD m ⟨0,0,.empty,0,0⟩).code≤code∨4<(ops.getD m ⟨0,0,.empty,0,0⟩).code) :
  keptOps code (ops.take (m+1))=keptOps code (ops.take m)++[ops.getD m ⟨0,0,.empty,0,0⟩]:=by
 unfold keptOps
 rw[List.getD_eq_getElem?_getD,List.getElem?_eq_getElem h] at hy ⊢
 rw[List.take_succ_eq_append_getElem h,List.filter_append]
 simp only[Option.getD_some] at hy ⊢
 rw[List.filter_cons_of_pos (by simpa using hy)]
 rfl
theorem keptOps_no (code:Int) (ops:List OpD) (m:Nat) (h:m<ops.length) (hy:¬((ops.getD m ⟨0,0,.empty,0,0⟩).code≤code∨4<(ops.getD m ⟨0,0,.empty,0,0⟩).code)) :
  keptOps code (ops.take (m+1))=keptOps code (ops.take m):=by
 unfold keptOps
 rw[List.getD_eq_getElem?_getD,List.getElem?_eq_getElem h] at hy
 rw[List.take_succ_eq_append_getElem h,List.filter_append]
 simp only[Option.getD_some] at hy
 rw[List.filter_cons_of_neg (by simpa using hy)]
 simp
theorem keptOps_le (code:Int) (ops:List OpD) (m:Nat):(keptOps code (ops.take m)).length≤m :=
 Nat.le_trans (List.length_filter_le _ _) (List.length_take_le _ _)
theorem opsFlat_len (l:List OpD):(l.flatMap OpD.cells).length=l.length*5:=by
 induction l with
 | nil=>rfl
 | cons o l ih=>rw[List.flatMap_cons,List.length_append,ih];simp[OpD.cells];omega
theorem op_news (w:World) (o:OpD) (t:TypeId):∀j u,o.cells[j]?=some u→(w.alloc (.cells #[.int .i64 o.code,.int .i64 o.family,.string o.bits,.int .i64 o.len,.int .i64 o.hop] t)).cell? ((⟨w.heap.size,0,none⟩:Addr).add j)=some u:=by
 intro j u hj
 have e:(⟨w.heap.size,0,none⟩:Addr).add j=⟨w.heap.size,j,none⟩:=by unfold Addr.add;split <;> simp_all
 rw[e,cell_new rfl]
 simpa [OpD.cells] using hj
theorem op_one (o:OpD):∀u∈o.cells,u.oneCell'=true:=by
 intro u hu
 simp only[OpD.cells,List.mem_cons,List.not_mem_nil,or_false] at hu
 rcases hu with rfl | rfl | rfl | rfl | rfl <;> rfl
theorem kept_snoc {a b:List OpD} {o:OpD} (K:b=a++[o]):b.length=a.length+1∧b.flatMap OpD.cells=a.flatMap OpD.cells++o.cells:=by
 subst K
 simp
theorem owns_shape {w:World} {base:Nat} {e:TypeId} {size:Nat} {v:Value} {n:Nat} {xs:List Value} (h:w.ownsRow base e size v n xs):∃ao cp,v=.slice ao n cp:=by
 rcases h.2 with ⟨rfl,rfl⟩ | ⟨g,cp,cur,hv,_⟩
 ·exact⟨_,_,rfl⟩
 ·exact⟨_,_,hv⟩
end Go.Proofs.YtnapboelfimaaaaGreatDoor
namespace Go.Proofs.YtnapboelfimaaaaGreatDoor
open Go.RowKit Go.Deep
theorem ret_bool {a b:Bool} (h:a=b):Ending.returned (.bool a)=.returned (.bool b):=by rw[h]
def byteAt (s:ByteArray) (i:Nat):Nat:=(s.data.toList.getD i 0).toNat
def bitN (s:ByteArray) (i:Nat):Nat:=byteAt s (i/8)/2^(7-i%8)%2
theorem byteAt_eq (s:ByteArray) (i:Nat) (h:i<s.size):byteAt s i=(s[i]).toNat:=by
 unfold byteAt
 rw[List.getD_eq_getElem?_getD,byte_at s i h]
 rfl
theorem byteAt_lt (s:ByteArray) (i:Nat):byteAt s i<256:=by
 unfold byteAt
 exact UInt8.toNat_lt _
theorem bitN_le (s:ByteArray) (i:Nat):bitN s i<2:=Nat.mod_lt _ (by decide)
set_option maxHeartbeats 400000 in
set_option maxRecDepth 10000 in
theorem bit_any (s:ByteArray) (i:Nat) (w:World) (h:i<8*s.size) (hi:i≤1048576) :
  Calls Tryz.prog 44 #[.string s,.int .i64 i] w fun e w'=>e=.returned (.int .i64 (bitN s i))∧w'=w:=by
 have h1:i/8<s.size:=by omega
 have h2:(0:Int)≤7-(i:Int)%8:=by omega
 have h3:=byteAt_eq s (i/8) h1
 have h4:=byteAt_lt s (i/8)
 rw[h3] at h4
 have h5:(s[i/8].toNat/2^(7-i%8))<256:=Nat.lt_of_le_of_lt (Nat.div_le_self _ _) h4
 have H3:=hide h3
 clear h3
 go_enter Tryz.func44,Tryz.ntmps44
 go_wp2
 go_ret
 refine⟨ret_int ?_,rfl⟩
 show bits BinOp.and IntKind.i64 (wrap64 ((s[i/8].toNat:Int)/2^(7-i%8))) 1=_
 have e1:((s[i/8].toNat:Int)/2^(7-i%8))=((s[i/8].toNat/2^(7-i%8):Nat):Int):=by
  rw[Int.natCast_ediv];norm_cast
 rw[e1]
 unfold bitN
 rw[H3.out]
 generalize s[i/8].toNat/2^(7-i%8)=q at h5
 rw[IntWalk.wrap64_in _ ⟨by omega,by omega⟩,and_one _ (by omega)]
theorem bit_x (a:Int) (s:ByteArray) (w:World) (h0:0≤a) (h:a<8*s.size) (hi:a≤1048576) :
  Calls Tryz.prog 44 #[.string s,.int .i64 a] w fun e w'=>e=.returned (.int .i64 (bitN s a.toNat))∧w'=w:=by
 obtain⟨n,rfl⟩:=Int.eq_ofNat_of_zero_le h0
 exact bit_any s n w (by omega) (by omega)
def famSize (f:Int):Nat:=if f=4 then 4 else if f=6 then 16 else 0
set_option maxHeartbeats 400000 in
theorem size_any (f:Int) (w:World):Calls Tryz.prog 43 #[.int .i64 f] w fun e w'=>e=.returned (.int .i64 (famSize f))∧w'=w:=by
 by_cases h4:f=4
 ·subst h4
  go_enter Tryz.func43,Tryz.ntmps43
  go_wp2
  go_ret
  exact⟨rfl,rfl⟩
 ·by_cases h6:f=6
  ·subst h6
   go_enter Tryz.func43,Tryz.ntmps43
   go_wp2
   go_ret
   exact⟨rfl,rfl⟩
  ·have e4:(f==4)=false:=by simpa using h4
   have e6:(f==6)=false:=by simpa using h6
   go_enter Tryz.func43,Tryz.ntmps43
   go_wp2
   go_ret
   exact⟨ret_int (by simp[famSize,h4,h6]),rfl⟩
def aheadR (a b:RouteD):Bool:=Op.bytesLess a.bits.toList b.bits.toList || (a.bits.toList==b.bits.toList&&decide (a.len<b.len))
set_option maxHeartbeats 400000 in
set_option maxRecDepth 10000 in
theorem ahead_x (a b:RouteD) (w:World):Calls Tryz.prog 53 #[.agg #[.string a.bits,.int .i64 a.len,.int .i64 a.hop],.agg #[.string b.bits,.int .i64 b.len,.int .i64 b.hop]] w fun e w'=>e=.returned (.bool (aheadR a b))∧Below w.heap.size w w':=by
 have hb:∀w:World,Below w.heap.size w ((w.alloc (.cells #[.string a.bits,.int .i64 a.len,.int .i64 a.hop] 66)).alloc (.cells #[.string b.bits,.int .i64 b.len,.int .i64 b.hop] 66)):=fun w=>ext_trans (ext_alloc _ _) (ext_alloc _ _)
 have HB:=hide (hb w)
 clear hb
 by_cases h1:Op.bytesLess a.bits.toList b.bits.toList=true
 ·go_enter Tryz.func53,Tryz.ntmps53
  go_wp2
  go_ret
  exact⟨ret_bool (by simp[aheadR,h1]),HB.out⟩
 ·have h1':Op.bytesLess a.bits.toList b.bits.toList=false:=by simpa using h1
  by_cases h2:(a.bits.toList==b.bits.toList)=true
  ·go_enter Tryz.func53,Tryz.ntmps53
   go_wp2
   go_ret
   exact⟨ret_bool (by simp[aheadR,h1',h2]),HB.out⟩
  ·have h2':(a.bits.toList==b.bits.toList)=false:=by simpa using h2
   go_enter Tryz.func53,Tryz.ntmps53
   go_wp2
   go_ret
   exact⟨ret_bool (by simp[aheadR,h1',h2']),HB.out⟩
def fitsTo (r:RouteD) (addr:ByteArray) (n:Nat):Bool:=(List.range n).all fun i=>bitN r.bits i==bitN addr i
theorem fitsTo_succ (r:RouteD) (addr:ByteArray) (n:Nat):fitsTo r addr (n+1)=(fitsTo r addr n&&bitN r.bits n==bitN addr n):=by
 simp[fitsTo,List.range_succ]
theorem fitsTo_false {r:RouteD} {addr:ByteArray} {k n:Nat} (hk:k<n) (h:bitN r.bits k≠bitN addr k):fitsTo r addr n=false:=by
 simp only[fitsTo,List.all_eq_false]
 exact⟨k,List.mem_range.2 hk,by simpa using h⟩
def fitsR (r:RouteD) (addr:ByteArray):Bool:=fitsTo r addr r.len.toNat
set_option maxHeartbeats 400000 in
set_option maxRecDepth 10000 in
theorem fits_x (r:RouteD) (addr:ByteArray) (w:World) (h0:0≤r.len) (h1:r.len≤8*r.bits.size) (h2:r.len≤8*addr.size) (h3:r.len≤1048576) :
  Calls Tryz.prog 54 #[.agg #[.string r.bits,.int .i64 r.len,.int .i64 r.hop],.string addr] w fun e w'=>e=.returned (.bool (fitsR r addr))∧Below w.heap.size w w':=by
 have HB:=hide (ext_alloc w (.cells #[.string r.bits,.int .i64 r.len,.int .i64 r.hop] 66))
 go_enter Tryz.func54,Tryz.ntmps54
 go_wp2
 go_loop [5] (fun i=>∃k:Nat,(k:Int)≤r.len∧i=.int .i64 k∧fitsTo r addr k=true) (fun i=>r.len.toNat-(intOf i).toNat)
 case atStart=>exact⟨0,by omega,rfl,rfl⟩
 case round =>
  obtain⟨k,hk,rfl,hf⟩:=hrel
  by_cases hlt:(k:Int)<r.len
  ·have hs:=fitsTo_succ r addr k
   rw[hf] at hs
   have HS:=hide hs
   have HF:=hide hf
   clear hs hf
   by_cases hb:bitN r.bits k=bitN addr k
   ·have hb':((bitN r.bits k:Int) != (bitN addr k:Int))=false:=by simp[hb]
    have HE:=hide hb
    clear hb
    go_wp2_with fail
    refine(bit_x _ _ _ (by omega) (by omega) (by omega)).mono ?_
    rintro e w' ⟨rfl,rfl⟩
    go_wp2_with fail
    refine(bit_x _ _ _ (by omega) (by omega) (by omega)).mono ?_
    rintro e w' ⟨rfl,rfl⟩
    rw[Int.toNat_natCast]
    go_wp2
    go_round
    case rel=>exact⟨k+1,by omega,by go_num,by rw[HS.out];simp[HE.out]⟩
    case measure=>simp[intOf];omega
   ·have hb':((bitN r.bits k:Int) != (bitN addr k:Int))=true:=by simp;omega
    have HN:=hide (fitsTo_false (n:=r.len.toNat) (by omega) hb)
    clear hb
    go_wp2_with fail
    refine(bit_x _ _ _ (by omega) (by omega) (by omega)).mono ?_
    rintro e w' ⟨rfl,rfl⟩
    go_wp2_with fail
    refine(bit_x _ _ _ (by omega) (by omega) (by omega)).mono ?_
    rintro e w' ⟨rfl,rfl⟩
    rw[Int.toNat_natCast]
    go_wp2
    go_ret
    exact⟨ret_bool HN.out.symm,HB.out⟩
  ·have HF:=hide hf
   have hkr:r.len.toNat=k:=by omega
   have HK:=hide hkr
   clear hf hkr
   go_wp2
   go_ret
   exact⟨ret_bool (by unfold fitsR;rw[HK.out,HF.out]),HB.out⟩
def zeroBits (s:ByteArray) (a n:Nat):Bool:=(List.range n).all fun i=>decide (i<a) || bitN s i==0
theorem zeroBits_false {s:ByteArray} {a n k:Nat} (hk:k<n) (ha:a≤k) (h:bitN s k=1):zeroBits s a n=false:=by
 simp only[zeroBits,List.all_eq_false]
 exact⟨k,List.mem_range.2 hk,by simp[h];omega⟩
theorem zeroBits_succ (s:ByteArray) (a k:Nat) (h:bitN s k≠1):zeroBits s a (k+1)=zeroBits s a k:=by
 have:=bitN_le s k
 have h0:bitN s k=0:=by omega
 simp[zeroBits,List.range_succ,h0]
def badOp (o:OpD):Int :=
 if famSize o.family=0 then 3
 else if o.len<0∨8*famSize o.family<o.len then 4
 else if o.bits.size≠famSize o.family then 5
 else if zeroBits o.bits o.len.toNat (8*famSize o.family) then 0 else 5
theorem famSize_cases (f:Int):famSize f=0∨famSize f=4∨famSize f=16:=by
 unfold famSize
 split
 ·exact .inr (.inl rfl)
 ·split
  ·exact .inr (.inr rfl)
  ·exact .inl rfl
set_option maxHeartbeats 400000 in
set_option maxRecDepth 10000 in
theorem bad_loop (o:OpD) (w:World) (h0:0≤o.len) (h1:o.len≤8*famSize o.family) (h2:o.bits.size=famSize o.family) (hn:(famSize o.family:Int)≠0) :
  Calls Tryz.prog 29 #[.agg #[.int .i64 o.code,.int .i64 o.family,.string o.bits,.int .i64 o.len,.int .i64 o.hop]] w fun e w'=>e=.returned (.int .i64 (badOp o))∧Below w.heap.size w w':=by
 have HB:=hide (ext_alloc w (.cells #[.int .i64 o.code,.int .i64 o.family,.string o.bits,.int .i64 o.len,.int .i64 o.hop] 27))
 have HV:=hide (show badOp o=if zeroBits o.bits o.len.toNat (8*famSize o.family) then 0 else 5 by
  unfold badOp
  rw[if_neg (by omega),if_neg (by omega),if_neg (by simp[h2])])
 have hsz:(famSize o.family:Int)≤16:=by rcases famSize_cases o.family with h | h | h <;> omega
 obtain⟨n,hfn⟩:∃n,n=famSize o.family:=⟨_,rfl⟩
 rw[←hfn] at h1 h2 hn hsz
 have HN:=hide hfn
 clear hfn
 have e0:((n:Int)==0)=false:=by simpa using hn
 have e1:((o.bits.size:Int) != (n:Int))=false:=by simp[h2]
 have H2:=hide h2
 have hz:o.bits.size≤n:=by omega
 have hz':n≤o.bits.size:=by omega
 clear h2
 go_enter Tryz.func29,Tryz.ntmps29
 go_wp2_with fail
 refine(size_any _ _).mono ?_
 rintro e w' ⟨rfl,rfl⟩
 rw[←HN.out]
 go_wp2
 go_loop [4] (fun i=>∃k:Nat,(k:Int)≤8*n∧o.len≤k∧i=.int .i64 k∧zeroBits o.bits o.len.toNat k=true) (fun i=>8*n-(intOf i).toNat)
 case atStart =>
  obtain⟨m,hm⟩:=Int.eq_ofNat_of_zero_le h0
  refine⟨m,by omega,by omega,by rw[hm],?_⟩
  simp only[zeroBits,List.all_eq_true,List.mem_range]
  intro i hi
  simp[hm,hi]
 case round =>
  obtain⟨k,hk,hk2,rfl,hf⟩:=hrel
  have HF:=hide hf
  clear hf
  by_cases hlt:(k:Int)<8*n
  ·by_cases hb:bitN o.bits k=1
   ·have hb':((bitN o.bits k:Int)==1)=true:=by simp[hb]
    have HZ:=hide (zeroBits_false (n:=8*n) (by omega) (a:=o.len.toNat) (by omega) hb)
    clear hb
    go_wp2_with fail
    refine(bit_x _ _ _ (by omega) (by omega) (by omega)).mono ?_
    rintro e w' ⟨rfl,rfl⟩
    rw[Int.toNat_natCast]
    go_wp2
    go_ret
    exact⟨ret_int (by rw[HV.out,←HN.out,HZ.out];rfl),HB.out⟩
   ·have hb':((bitN o.bits k:Int)==1)=false:=by simp;omega
    have HS:=hide (zeroBits_succ o.bits o.len.toNat k hb)
    clear hb
    go_wp2_with fail
    refine(bit_x _ _ _ (by omega) (by omega) (by omega)).mono ?_
    rintro e w' ⟨rfl,rfl⟩
    rw[Int.toNat_natCast]
    go_wp2
    go_round
    case rel=>exact⟨k+1,by omega,by omega,by go_num,by rw[HS.out,HF.out]⟩
    case measure=>simp[intOf];omega
  ·have HK:=hide (show 8*n=k by omega)
   go_wp2
   go_ret
   exact⟨ret_int (by rw[HV.out,←HN.out,HK.out,HF.out];rfl),HB.out⟩
end Go.Proofs.YtnapboelfimaaaaGreatDoor
