/- InS, BuP, Del, CoW: parts of the proof, one behind the other. -/
import Derived.Test.YtnapboelfimaaaaGreatDoorB16
import Derived.Test.YtnapboelfimaaaaGreatDoorB21
namespace Go.Proofs.YtnapboelfimaaaaGreatDoor
open Go.RowKit Go.Deep
theorem shortPlace_b (f x:Int) (q:Bool) (l b pl:Nat) (w:World) (hq:q=decide (f=6)) (hx:x=l) (hl:l<8) (hb:b<256) (hp:pl=rt q+256+2^l+b/2^(8-l)):Calls Tryz.prog 60 #[.int .i64 f,.int .i64 x,.int .u8 b] w fun e w'=>e=.returned (.int .i64 (pl:Nat))∧Below w.heap.size w w':=by
 subst hp
 refine(shortPlace_any f x q l b w hq hx hl hb).mono ?_
 rintro e w' ⟨rfl,n,rfl⟩
 exact⟨rfl,drewN_ext w n⟩
set_option maxHeartbeats 2000000 in
set_option maxRecDepth 10000 in
theorem insertShort_any (A:Ar) (tb ab wb:Nat) (f:Int) (q:Bool) (K l v hop:Nat) (w:World) (h:TabAt w tb ab wb A) (hs:Sane A) (hq:q=decide (f=6)) (hsz:2048≤A.size) (hsh:∀b,b<256→A.word (rt q+b)/65536<256) (hl:l<8) (hv:v<2^l) (hkb:kbyte K 0=v*2^(8-l)) (hhop:hop<65536) :
  Calls Tryz.prog 97 #[.pointer (some ⟨tb,0,none⟩),.int .i64 f,.agg (prefL K l).toArray,.int .i64 hop] w fun e w'=>e=.returned (.tuple #[])∧TabAt w' tb ab wb (shortN A q l v (some hop))∧Fr [wb] w w':=by
 obtain⟨b1,b2⟩:=short_byte hl hv
 have hr:=rt_le q
 obtain⟨n8,hn8⟩:∃n8,n8=2^(8-l):=⟨_,rfl⟩
 have hn:n8*2^l=256:=by rw[hn8,←Nat.pow_add,show 8-l+l=8 by omega]
 obtain⟨kb,hkbd⟩:∃kb,kb=v*2^(8-l):=⟨_,rfl⟩
 have hfit8:kb+n8≤256:=by
  have:(v+1)*2^(8-l)≤2^l*2^(8-l):=Nat.mul_le_mul_right _ (by omega)
  rw[←Nat.pow_add,show l+(8-l)=8 by omega,Nat.add_mul,Nat.one_mul] at this
  rw[hkbd,hn8]
  exact this
 have HMS:=hide (fun (w:World) (h:TabAt w tb ab wb A)=>markShort_one A tb ab wb f q K l kb n8 w h hs hq hsz hsh hl (hkb.trans hkbd.symm) hn hfit8)
 obtain⟨off,hoff⟩:∃off,off=rt q+256+2^l+v:=⟨_,rfl⟩
 obtain⟨pl,hpl⟩:∃pl,off=pl:=⟨_,rfl⟩
 have HSP:=hide (fun (w:World)=>shortPlace_b f l q l kb pl w hq rfl hl (by omega) (by rw[←hpl,hoff,hkbd,b2]))
 have HMW:=hide (show markPart A.word (rt q+kb) n8 l true=markW A.word (rt q) l v true by rw[hkbd,hn8];exact mark_part _ _ _ _ _)
 have h7:2^l≤2^7:=Nat.pow_le_pow_right (by decide) (by omega)
 have hin:off<A.size:=by omega
 have hp0:=heap_alloc_new w (.cells (prefL K l).toArray 128)
 have hkk:kbyte K 0=kb:=hkb.trans hkbd.symm
 have HH:=hide h
 have hlt:=h.lt
 have hlw:=h.ar.lw
 have hnw:=h.nw
 have HP0:=hide hp0
 have hhp':(hop:Int)<65536:=by omega
 have hwh:IntKind.u32.wrap (hop:Int)=(hop:Int):=by rw[IntKind.wrap_u32];omega
 have HOF:=hide hoff
 clear h hq hn8 hkbd hkb b1 b2 hp0 hoff
 go_enter Tryz.func97,Tryz.ntmps97
 go_wp2_with (show wpList _ _ _ (⟨_,.load 128 _,_,_,_,_⟩ :: _) _ _;refine wpList_load_whole rfl 128 _ rfl w.heap.size rfl (prefL K l) _ 128 (0,0) HP0.out Tryz.underlying128 rfl (pref_info K l) ?_)
 refine(HMS.out _ (HH.out.ext (ext_alloc _ _))).mono ?_
 rintro e wq ⟨rfl,hT1,hF1⟩
 have hpb:=hF1.at HP0.out (show w.heap.size ∉ [wb] by simp;omega)
 rw[HMW.out] at hT1
 have HTW:=hide hT1
 have HF1:=hide (Fr.after (Fr.alloc (Fr.refl [wb] w) _) hF1 (fun y hy=>Or.inl hy):Fr [wb] w wq)
 clear hT1 hF1 HMW HMS
 obtain⟨AW,hAW⟩:∃AW:Ar,AW={ A with word:=markW A.word (rt q) l v true }:=⟨_,rfl⟩
 rw[←hAW] at HTW
 have hws:AW.size=A.size:=by rw[hAW]
 have HAW:=hide hAW
 have hfit:off + [hop].length≤AW.size:=by rw[hws];simp;omega
 obtain⟨pb,hpbd⟩:∃pb,pb=w.heap.size:=⟨_,rfl⟩
 have HPB:=hide hpbd
 rw[←hpbd] at hpb
 have hpw:pb≠wb:=by omega
 have hnpb:pb ∉ [wb]:=by simpa using hpw
 have hntb:tb ∉ [wb]:=by simpa using hnw
 have hlq:=lt_of_block hpb
 have hltq:=HTW.out.lt
 have KS:∀w',Fr [wb] wq w'→(fun w':World=>Fr [wb] wq w'∧w'.cell? ⟨tb,0,none⟩=some (.pointer (some ⟨ab,0,none⟩))∧w'.cell? ⟨pb,0,none⟩=some (.int .u8 (kb:Int))∧w'.cell? ⟨pb,17,none⟩=some (.int .i64 (l:Int))) w':=fun w' hf=>⟨hf,HTW.out.frw hf hntb,by have:=pref_at K l (hf.at hpb hnpb) 0 (by omega);rw[hkk] at this;exact this,by
  rw[cell_at (hf.at hpb hnpb),List.getElem?_toArray]
  unfold prefL
  rw[List.getElem?_append_right (by simp[keyL])]
  simp[keyL]⟩
 simp only[] at KS
 have HOFF:=hide hpl
 clear hpl hpbd hAW hws
 go_wp2_with fail
 rw[←HPB.out]
 go_region_held3 (fun w':World=>Fr [wb] wq w'∧w'.cell? ⟨tb,0,none⟩=some (.pointer (some ⟨ab,0,none⟩))∧w'.cell? ⟨pb,0,none⟩=some (.int .u8 (kb:Int))∧w'.cell? ⟨pb,17,none⟩=some (.int .i64 (l:Int))) (with_reducible (first | assumption | exact KS _ (fr_below (drew_ext wq)) | exact KS _ (by assumption) | exact KS _ (fr_below (by assumption)) | exact KS _ (fr_below (ext_trans (by assumption) (ext_alloc _ _))) | exact KS _ (fr_below (Below.drew (ext_alloc _ _))) | exact KS _ (Fr.alloc (by assumption) _) | (refine KS _ (Fr.setCell (Fr.setCell (by assumption) (Or.inr ?_) _) (Or.inr ?_) _) <;> first | assumption | exact Nat.le_refl _))) (first | (go_at_call 60;refine(HSP.out _).mono ?_;rintro e w5 ⟨rfl,hb5⟩;with_reducible (first | (have b5:=new_drew hb5;have S5:=(ext_trans (Below.drew (ext_alloc _ _)) hb5:Below wq.heap.size wq w5)) | (have S5:=(ext_trans (drew_ext wq) hb5:Below wq.heap.size wq w5)));clear hb5) | (first | (go_at_call 104;refine(write_any AW ab wb _ off 1 1 [hop] _ _ (HTW.out.ar.ext S5) (by rw[HOFF.out] <;> first | rfl | omega) (by simp) rfl hfit (by intro j u hj;rw[addr_add];exact one_src 0 0 hj (by rw[cell_at b5];rfl))).mono ?_;rintro e w6 ⟨rfl,hA6,hF6⟩;have F6:=(Fr.after (fr_below S5) hF6 (fun y hy=>Or.inl hy):Fr [wb] wq w6);clear hF6) | (go_at_call 104;refine(write_any AW ab wb _ off 1 1 [hop] _ _ (HTW.out.ar.ext (ext_trans S5 (ext_alloc _ _))) (by rw[HOFF.out] <;> first | rfl | omega) (by simp) rfl hfit (by intro j u hj;rw[addr_add];exact one_src 0 0 hj (by rw[cell_new rfl];rfl))).mono ?_;rintro e w6 ⟨rfl,hA6,hF6⟩;have F6:=(Fr.after (fr_below (ext_trans S5 (ext_alloc _ _))) hF6 (fun y hy=>Or.inl hy):Fr [wb] wq w6);clear hF6)))
 all_goals
  have hX:=HTW.out.of F6 hntb hA6
  rw[lay_one,HAW.out,HOF.out] at hX
  have HX:=hide (And.intro hX (Fr.after HF1.out F6 (fun y hy=>Or.inl hy):Fr [wb] w w6))
  clear hX F6 hA6 KS
  go_wp2
  go_end0
  exact⟨rfl,HX.out.1,HX.out.2⟩
end Go.Proofs.YtnapboelfimaaaaGreatDoor
namespace Go.Proofs.YtnapboelfimaaaaGreatDoor
open Go.RowKit Go.Deep
theorem run_build_pref (K:Nat) (l:Int) (w:World):(Instr.build 128 #[(0,.agg (keyL K).toArray),(1,.int .i64 l)]).run Tryz.prog w=.ok (.agg (keyL K++[Value.int .i64 l]).toArray) w:=by kernel_rfl
theorem exec_build_pref {a:Act} {o:Oper} {x y:Operand} (ho:o.op=.build 128 #[(0,x),(1,y)]) (K l:Nat) (hx:a.eval x=.agg (keyL K).toArray) (hy:a.eval y=.int .i64 (l:Int)) (w:World):(execOp a.eval o).run Tryz.prog w=.ok (.value (.agg (prefL K l).toArray)) w:=by
 unfold execOp
 simp only[ho,List.map_toArray,List.map_cons,List.map_nil,hx,hy,Sem.run_bind,Sem.run_pure,Result.andThen_ok,run_build_pref,prefL]
theorem wpList_build_pref {ops:Array Oper} {rest:List Oper} {o:Oper} {a:Act} {w:World} {Q:Exit→Act→World→Prop} (hgd:o.guard=none) (x y:Operand) (ho:o.op=.build 128 #[(0,x),(1,y)]) (K l:Nat) (hx:a.eval x=.agg (keyL K).toArray) (hy:a.eval y=.int .i64 (l:Int))
  (h:wpList Tryz.prog ops Q rest (a.put o.dst (.agg (prefL K l).toArray)) w):wpList Tryz.prog ops Q (o :: rest) a w :=
 wpList_plain hgd fun _ hK=>by
  unfold Oper.wp
  rw[exec_build_pref ho K l hx hy w]
  exact hK _ _ h
theorem yieldsIf_build_pref {ops:Array Oper} {S:World→Prop} {o:Oper} {a:Act} (hw:Region.wanted o (yielded ops a.tmps)=true) (x y:Operand) (ho:o.op=.build 128 #[(0,x),(1,y)]) (K l:Nat) (hx:a.eval x=.agg (keyL K).toArray) (hy:a.eval y=.int .i64 (l:Int)):YieldsIf Tryz.prog ops S o (.agg (prefL K l).toArray) a :=
 .inl ⟨hw,fun w _=>exec_build_pref ho K l hx hy w⟩
theorem pref_one (K l:Nat):∀v∈prefL K l,v.oneCell'=true:=by
 intro v hv
 unfold prefL at hv
 rcases List.mem_append.1 hv with h | h
 ·exact key_one K v h
 ·simp at h;subst h;rfl
end Go.Proofs.YtnapboelfimaaaaGreatDoor
namespace Go.Proofs.YtnapboelfimaaaaGreatDoor
open Go.RowKit Go.Deep
set_option maxHeartbeats 2000000 in
set_option maxRecDepth 10000 in
theorem delete_short (A:Ar) (F:Nat→List Nat) (M:Bool→Tab) (tb ab wb:Nat) (f:Int) (q:Bool) (s:ByteArray) (K l v:Nat) (w:World) (h:TabAt w tb ab wb A) (hI:Inv A F M) (hw:WOk A.word) (hq:q=decide (f=6)) (hs16:s.size≤16) (hK:K=keyNum s) (hl:l<8) (hv:v<2^l) (hkb:kbyte K 0=v*2^(8-l)) (R:Ar × Bool) (hR:delN A q l v=R) :
  Calls Tryz.prog 125 #[.pointer (some ⟨tb,0,none⟩),.int .i64 f,.string s,.int .i64 (l:Nat)] w fun e w'=>e=.returned (.bool R.2)∧TabAt w' tb ab wb R.1∧Fr [ab,wb] w w':=by
 have hd:=dp_le q;have hG:=hI.good hw;have hs:=hG.sane (by omega);have HKO:=hide (fun (w:World)=>keyOf_any s w (by omega));rw[←hK] at HKO;have hsz:=hI.size;have hl':(l:Int)≤128:=(by omega);have hna:=h.na;have hnw:=h.nw;have hla:=h.ar.la;have hlw:=h.ar.lw;have hlt:=h.lt;have HT:=hide h
 have HSH:=hide (fun (w:World)=>short_any K l w (by omega))
 rw[show decide (l<8)=true by simpa using hl] at HSH
 unfold delN at hR
 rw[if_pos hl] at hR
 have HDS:=hide (fun (w:World) (h:TabAt w tb ab wb A)=>deleteShort_any A tb ab wb f q K l v w h hs hq hsz (fun b hb=>(hI.root q).lt b hb) hl hv hkb)
 clear h hI hw hq hK hd hG hs
 go_enter Tryz.func125,Tryz.ntmps125
 go_wp2_with fail;refine(HKO.out _).mono ?_;rintro e w1 ⟨rfl,hb1⟩;go_wp2_with (first | (show wpList _ _ _ (⟨_,.build 128 _,_,_,_,_⟩ :: _) _ _;refine wpList_build_pref rfl _ _ rfl K l rfl rfl ?_) | (show wpList _ _ _ (⟨_,.store 128 _ _,_,_,_,_⟩ :: _) _ _;refine wpList_store_whole rfl 128 _ _ rfl w1.heap.size (prefL K l) rfl rfl 128 _ (heap_alloc_new _ _) (pref_info K l) rfl (pref_one K l) ?_;intro wp bp hFp hsp) | (show wpList _ _ _ (⟨_,.load 128 _,_,_,_,_⟩ :: _) _ _;refine wpList_load_whole rfl 128 _ rfl w1.heap.size rfl (prefL K l) _ 128 (0,0) (by assumption) Tryz.underlying128 rfl (pref_info K l) ?_));have hBp:Below w.heap.size w wp:=fr_nil (Fr.after (S:=[]) (Fr.alloc (Fr.of_below hb1) _) hFp (by intro y hy;have:=hb1.size;simp at hy;right;omega));have HTP:=hide (HT.out.ext hBp);have HBP:=hide hBp;have hs1:=hb1.size;have hlp:=lt_of_block bp;clear hb1 hFp hsp hBp
 refine(HSH.out _).mono ?_
 rintro e w2 ⟨rfl,hb2⟩
 have bp2:=block_ext bp hb2
 have HT2:=hide (HTP.out.ext hb2)
 have HB2:=hide (ext_trans HBP.out hb2)
 clear hb2 bp
 go_wp2_with (show wpList _ _ _ (⟨_,.load 128 _,_,_,_,_⟩ :: _) _ _;refine wpList_load_whole rfl 128 _ rfl w1.heap.size rfl (prefL K l) _ 128 (0,0) (by assumption) Tryz.underlying128 rfl (pref_info K l) ?_)
 refine HDS.out _ HT2.out _ ?_ ?_
 ·intro w3 hbit hT3 hF3
  rw[if_pos hbit] at hR
  subst hR
  have HX:=hide (And.intro hT3 (Fr.after (fr_below HB2.out) hF3 (fun y hy=>Or.inl (by simp at hy ⊢;exact Or.inr hy)):Fr [ab,wb] w w3))
  clear hT3 hF3
  go_wp2
  go_ret
  exact⟨rfl,HX.out.1,HX.out.2⟩
 ·intro w3 hbit hT3 hF3
  rw[if_neg (by rw[hbit];decide)] at hR
  subst hR
  have HX:=hide (And.intro hT3 (Fr.after (fr_below HB2.out) hF3 (fun y hy=>Or.inl (by simp at hy ⊢;exact Or.inr hy)):Fr [ab,wb] w w3))
  clear hT3 hF3
  go_wp2
  go_ret
  exact⟨rfl,HX.out.1,HX.out.2⟩
set_option maxHeartbeats 2000000 in
set_option maxRecDepth 10000 in
theorem delete_none (A:Ar) (F:Nat→List Nat) (M:Bool→Tab) (tb ab wb:Nat) (f:Int) (q:Bool) (s:ByteArray) (K l:Nat) (w:World) (h:TabAt w tb ab wb A) (hI:Inv A F M) (hw:WOk A.word) (hq:q=decide (f=6)) (hs16:s.size≤16) (hK:K=keyNum s) (h8:8≤l) (hl:l≤8+4*dp q) (h0:A.word (rt q+kbyte K 0)%65536=0) :
  Calls Tryz.prog 125 #[.pointer (some ⟨tb,0,none⟩),.int .i64 f,.string s,.int .i64 (l:Nat)] w fun e w'=>e=.returned (.bool false)∧TabAt w' tb ab wb A∧Fr [ab,wb] w w':=by
 have hd:=dp_le q;have hG:=hI.good hw;have hs:=hG.sane (by omega);have HKO:=hide (fun (w:World)=>keyOf_any s w (by omega));rw[←hK] at HKO;have hsz:=hI.size;have hl':(l:Int)≤128:=(by omega);have hna:=h.na;have hnw:=h.nw;have hla:=h.ar.la;have hlw:=h.ar.lw;have hlt:=h.lt;have HT:=hide h
 have HSH:=hide (fun (w:World)=>short_any K l w (by omega))
 rw[show decide (l<8)=false by simpa using h8] at HSH
 have hk0:=kbyte_lt K 0
 have HFI:=hide (fun (w:World) (h:TabAt w tb ab wb A)=>first_any A tb ab wb f q (kbyte K 0) w h hs hq hk0 hsz ((hI.root q).lt _ hk0))
 rw[h0] at HFI
 obtain⟨sh,hshd⟩:∃sh,sh=A.word (rt q+kbyte K 0)/65536:=⟨_,rfl⟩
 obtain⟨pl,hpl⟩:∃pl,pl=rt q+kbyte K 0:=⟨_,rfl⟩
 rw[←hshd,←hpl] at HFI
 clear h hI hw hq hK hd hG hs h0 hshd hpl
 go_enter Tryz.func125,Tryz.ntmps125
 go_wp2_with fail;refine(HKO.out _).mono ?_;rintro e w1 ⟨rfl,hb1⟩;go_wp2_with (first | (show wpList _ _ _ (⟨_,.build 128 _,_,_,_,_⟩ :: _) _ _;refine wpList_build_pref rfl _ _ rfl K l rfl rfl ?_) | (show wpList _ _ _ (⟨_,.store 128 _ _,_,_,_,_⟩ :: _) _ _;refine wpList_store_whole rfl 128 _ _ rfl w1.heap.size (prefL K l) rfl rfl 128 _ (heap_alloc_new _ _) (pref_info K l) rfl (pref_one K l) ?_;intro wp bp hFp hsp) | (show wpList _ _ _ (⟨_,.load 128 _,_,_,_,_⟩ :: _) _ _;refine wpList_load_whole rfl 128 _ rfl w1.heap.size rfl (prefL K l) _ 128 (0,0) (by assumption) Tryz.underlying128 rfl (pref_info K l) ?_));have hBp:Below w.heap.size w wp:=fr_nil (Fr.after (S:=[]) (Fr.alloc (Fr.of_below hb1) _) hFp (by intro y hy;have:=hb1.size;simp at hy;right;omega));have HTP:=hide (HT.out.ext hBp);have HBP:=hide hBp;have hs1:=hb1.size;have hlp:=lt_of_block bp;clear hb1 hFp hsp hBp
 refine(HSH.out _).mono ?_
 rintro e w2 ⟨rfl,hb2⟩
 have bp2:=block_ext bp hb2
 have d0:=pref_at K l bp2 0 (by omega)
 have hl2:=lt_of_block bp2
 have HT2:=hide (HTP.out.ext hb2)
 have HB2:=hide (ext_trans HBP.out hb2)
 clear hb2 bp bp2
 go_wp2_with fail
 refine(HFI.out _ HT2.out).mono ?_
 rintro e w3 ⟨rfl,hb3⟩
 have HX:=hide (And.intro (HT2.out.ext hb3) (ext_trans HB2.out hb3))
 clear hb3
 go_wp2
 go_ret
 exact⟨rfl,HX.out.1.ext (ext_alloc _ _),fr_below (ext_trans HX.out.2 (ext_alloc _ _))⟩
set_option maxHeartbeats 4000000 in
set_option maxRecDepth 10000 in
theorem delete_some (A B:Ar) (F:Nat→List Nat) (M:Bool→Tab) (tb ab wb:Nat) (f:Int) (q:Bool) (s:ByteArray) (K l x0:Nat) (fo em:Bool) (w:World) (h:TabAt w tb ab wb A) (hI:Inv A F M) (hw:WOk A.word) (hq:q=decide (f=6)) (hs16:s.size≤16) (hK:K=keyNum s) (h8:8≤l) (hl:l≤8+4*dp q) (hx0:A.word (rt q+kbyte K 0)%65536=x0) (h0:x0≠0) (hx1:x0+2≤A.size) (hBs:B.size=A.size) (hsB:Sane B)
  (hRM:∀w',TabAt w' tb ab wb A→Calls Tryz.prog 127 #[.pointer (some ⟨tb,0,none⟩),.int .i64 (x0:Nat),.int .i64 0,.agg (prefL K l).toArray] w' fun e w''=>e=.returned (.tuple #[.bool fo,.bool em])∧TabAt w'' tb ab wb B∧Fr [ab,wb] w' w'')
  (R:Ar × Bool) (hR:(if em then ({ B.give x0 2 with word:=setW (B.give x0 2).word (rt q+kbyte K 0) (65536*(A.word (rt q+kbyte K 0)/65536)) },fo) else (B,fo))=R) :
  Calls Tryz.prog 125 #[.pointer (some ⟨tb,0,none⟩),.int .i64 f,.string s,.int .i64 (l:Nat)] w fun e w'=>e=.returned (.bool R.2)∧TabAt w' tb ab wb R.1∧Fr [ab,wb] w w':=by
 have hd:=dp_le q;have hG:=hI.good hw;have hs:=hG.sane (by omega);have HKO:=hide (fun (w:World)=>keyOf_any s w (by omega));rw[←hK] at HKO;have hsz:=hI.size;have hl':(l:Int)≤128:=(by omega);have hna:=h.na;have hnw:=h.nw;have hla:=h.ar.la;have hlw:=h.ar.lw;have hlt:=h.lt;have HT:=hide h
 have HSH:=hide (fun (w:World)=>short_any K l w (by omega))
 rw[show decide (l<8)=false by simpa using h8] at HSH
 have hk0:=kbyte_lt K 0
 have hrt:=rt_le q
 have hshl:=(hI.root q).lt _ hk0
 have HFI:=hide (fun (w:World) (h:TabAt w tb ab wb A)=>first_any A tb ab wb f q (kbyte K 0) w h hs hq hk0 hsz hshl)
 rw[hx0] at HFI
 obtain⟨sh,hshd⟩:∃sh,sh=A.word (rt q+kbyte K 0)/65536:=⟨_,rfl⟩
 obtain⟨pl,hpl⟩:∃pl,pl=rt q+kbyte K 0:=⟨_,rfl⟩
 rw[←hshd] at HFI hR hshl
 rw[←hpl] at HFI hR
 have hplB:pl<B.size:=by omega
 have HRM:=hide hRM
 have hx0':((x0:Int)==0)=false:=by simp;omega
 have hx65:x0<65536:=by have:=hs.size;omega
 have HGI:=hide (fun (w:World) (h:ArAt w ab wb B)=>give_any B ab wb x0 2 w h (by omega) (fun _=>by omega) (fun _=>by have:=hsB.given 2 (by omega) (by omega);have:=hsB.size;omega) (by have:=hsB.free1;omega) (by have:=hsB.free2;omega))
 have hCs:(B.give x0 2).size=B.size:=by unfold Ar.give;split <;> rfl
 obtain⟨C,hC⟩:∃C,C=B.give x0 2:=⟨_,rfl⟩
 rw[←hC] at HGI hR hCs
 have hplC:pl<C.size:=by omega
 clear h hI hw hq hK hd hG hs h0 hshd hpl hRM hC hx0 hsB hCs hBs hplB
 go_enter Tryz.func125,Tryz.ntmps125
 go_wp2_with fail;refine(HKO.out _).mono ?_;rintro e w1 ⟨rfl,hb1⟩;go_wp2_with (first | (show wpList _ _ _ (⟨_,.build 128 _,_,_,_,_⟩ :: _) _ _;refine wpList_build_pref rfl _ _ rfl K l rfl rfl ?_) | (show wpList _ _ _ (⟨_,.store 128 _ _,_,_,_,_⟩ :: _) _ _;refine wpList_store_whole rfl 128 _ _ rfl w1.heap.size (prefL K l) rfl rfl 128 _ (heap_alloc_new _ _) (pref_info K l) rfl (pref_one K l) ?_;intro wp bp hFp hsp) | (show wpList _ _ _ (⟨_,.load 128 _,_,_,_,_⟩ :: _) _ _;refine wpList_load_whole rfl 128 _ rfl w1.heap.size rfl (prefL K l) _ 128 (0,0) (by assumption) Tryz.underlying128 rfl (pref_info K l) ?_));have hBp:Below w.heap.size w wp:=fr_nil (Fr.after (S:=[]) (Fr.alloc (Fr.of_below hb1) _) hFp (by intro y hy;have:=hb1.size;simp at hy;right;omega));have HTP:=hide (HT.out.ext hBp);have HBP:=hide hBp;have hs1:=hb1.size;have hlp:=lt_of_block bp;clear hb1 hFp hsp hBp
 refine(HSH.out _).mono ?_
 rintro e w2 ⟨rfl,hb2⟩
 have bp2:=block_ext bp hb2
 have d0:=pref_at K l bp2 0 (by omega)
 have hl2:=lt_of_block bp2
 have HBP2:=hide bp2
 have HT2:=hide (HTP.out.ext hb2)
 have HB2:=hide (ext_trans HBP.out hb2)
 clear hb2 bp bp2
 go_wp2_with fail
 refine(HFI.out _ HT2.out).mono ?_
 rintro e w3 ⟨rfl,hb3⟩
 have bp3:=block_ext HBP2.out (ext_trans hb3 (ext_alloc w3 (.cells #[.int .i64 (x0:Int),.int .u8 (sh:Int)] 121)))
 have bf3:=heap_alloc_new w3 (.cells #[.int .i64 (x0:Int),.int .u8 (sh:Int)] 121)
 have HT3:=hide (HT2.out.ext (ext_trans hb3 (ext_alloc w3 (.cells #[.int .i64 (x0:Int),.int .u8 (sh:Int)] 121))))
 have HB3:=hide (ext_trans HB2.out (ext_trans hb3 (ext_alloc w3 (.cells #[.int .i64 (x0:Int),.int .u8 (sh:Int)] 121))))
 have hww:=(ext_trans HB2.out hb3).size
 have hs3:=hb3.size
 clear hb3 d0
 go_wp2_with (show wpList _ _ _ (⟨_,.load 128 _,_,_,_,_⟩ :: _) _ _;refine wpList_load_whole rfl 128 _ rfl w1.heap.size rfl (prefL K l) _ 128 (0,0) (by assumption) Tryz.underlying128 rfl (pref_info K l) ?_)
 refine(HRM.out _ HT3.out).mono ?_
 rintro e w4 ⟨rfl,hT4,hF4⟩
 have hfs:w3.heap.size ∉ [ab,wb]:=by simp;omega
 have hts:tb ∉ [ab,wb]:=by simp;omega
 have bf4:=hF4.at bf3 hfs
 have HF4:=hide (Fr.after (fr_below HB3.out) hF4 (fun y hy=>Or.inl hy):Fr [ab,wb] w w4)
 have HT4:=hide hT4
 have hlf4:=lt_of_block bf4
 have hlt4:=hT4.lt
 clear hT4 hF4 bp3 bf3
 cases em with
 | false =>
  simp only[Bool.false_eq_true,if_false] at hR
  subst hR
  go_wp2
  go_ret
  exact⟨rfl,HT4.out,HF4.out⟩
 | true =>
  simp only[if_true] at hR
  subst hR
  obtain⟨fb,hfb⟩:∃fb,fb=w3.heap.size:=⟨_,rfl⟩
  have HFB:=hide hfb
  rw[←hfb] at bf4 hfs hlf4
  have hwfb:w.heap.size≤fb:=by omega
  have hft:tb≠fb:=by omega
  have hfa:ab≠fb:=by omega
  have hfw:wb≠fb:=by omega
  clear hfb
  obtain⟨wq,hwq⟩:∃wz,wz=w4:=⟨_,rfl⟩
  subst hwq
  have KS:∀w',Fr [ab,wb] wq w'→(fun w':World=>Fr [ab,wb] wq w'∧w'.cell? ⟨tb,0,none⟩=some (.pointer (some ⟨ab,0,none⟩))∧w'.cell? ⟨fb,0,none⟩=some (.int .i64 (x0:Int))∧w'.cell? ⟨fb,1,none⟩=some (.int .u8 (sh:Int))) w':=fun w' hf=>⟨hf,HT4.out.frw hf hts,(cells2 (hf.at bf4 hfs)).1,(cells2 (hf.at bf4 hfs)).2.1⟩
  simp only[] at KS
  go_wp2_with fail
  rw[←HFB.out]
  go_region_held3 (fun w':World=>Fr [ab,wb] wq w'∧w'.cell? ⟨tb,0,none⟩=some (.pointer (some ⟨ab,0,none⟩))∧w'.cell? ⟨fb,0,none⟩=some (.int .i64 (x0:Int))∧w'.cell? ⟨fb,1,none⟩=some (.int .u8 (sh:Int))) (with_reducible (first | assumption | exact KS _ (fr_below (drew_ext wq)) | exact KS _ (by assumption))) ((go_at_call 123;refine(HGI.out _ HT4.out.ar.drew).mono ?_;rintro e w5 ⟨rfl,hA5,hF5⟩;have F5:=(Fr.after (fr_below (drew_ext wq)) hF5 (fun y hy=>Or.inl hy):Fr [ab,wb] wq w5);clear hF5))
  have hT5:=HT4.out.of F5 hts hA5
  have bf5:=F5.at bf4 hfs
  obtain⟨k0,k1,k2,k3⟩:=cells2 bf5
  have hlf5:=lt_of_block bf5
  have bf6:=heap_setCell_at (off:=0) (.int .i64 0) bf5
  have hT6:=hT5.other (off:=0) (v:=.int .i64 0) hft hfa hfw
  have hF6:=(Fr.after HF4.out F5 (fun y hy=>Or.inl hy):Fr [ab,wb] w w5).setCell (off:=0) (Or.inr hwfb) (.int .i64 0)
  obtain⟨wq,hwq⟩:∃wz,wz=w5.setCell ⟨fb,0,none⟩ (.int .i64 0):=⟨_,rfl⟩
  rw[←hwq] at bf6 hT6 hF6
  have bf6':wq.heap[fb]?=some (.cells #[.int .i64 0,.int .u8 (sh:Int)] 121 (0,0)):=bf6
  have HWQ:=hide hwq
  have HTW:=hide hT6
  have HF6:=hide hF6
  have hlf6:=lt_of_block bf6'
  have hlt6:=hT6.lt
  have hfw1:fb ∉ [wb]:=by simpa using hfw.symm
  have htw1:tb ∉ [wb]:=by simpa using hnw
  have KS:∀w',Fr [wb] wq w'→(fun w':World=>Fr [wb] wq w'∧w'.cell? ⟨tb,0,none⟩=some (.pointer (some ⟨ab,0,none⟩))∧w'.cell? ⟨fb,0,none⟩=some (.int .i64 0)∧w'.cell? ⟨fb,1,none⟩=some (.int .u8 (sh:Int))) w':=fun w' hf=>⟨hf,HTW.out.frw hf htw1,(cells2 (hf.at bf6' hfw1)).1,(cells2 (hf.at bf6' hfw1)).2.1⟩
  simp only[] at KS
  clear hT5 bf5 hA5 F5 hwq hT6 hF6 bf6 bf4
  go_wp2_with fail
  rw[←HWQ.out]
  clear k0 k1 k2 k3
  go_region_held3 (fun w':World=>Fr [wb] wq w'∧w'.cell? ⟨tb,0,none⟩=some (.pointer (some ⟨ab,0,none⟩))∧w'.cell? ⟨fb,0,none⟩=some (.int .i64 0)∧w'.cell? ⟨fb,1,none⟩=some (.int .u8 (sh:Int))) (with_reducible (first | assumption | exact KS _ (fr_below (drew_ext wq)) | exact KS _ (by assumption) | exact KS _ (fr_below (by assumption)) | exact KS _ (fr_below (ext_trans (by assumption) (ext_alloc _ _))) | exact KS _ (fr_below (Below.drew (ext_alloc _ _))) | exact KS _ (Fr.alloc (by assumption) _) | (refine KS _ (Fr.setCell (Fr.setCell (by assumption) (Or.inr ?_) _) (Or.inr ?_) _) <;> first | assumption | exact Nat.le_refl _))) ((go_at_call 118;refine(writeFirst_any C ab wb _ pl 0 sh _ HTW.out.ar.drew (by omega) hshl rfl hplC).mono ?_;rintro e w7 ⟨rfl,hA7,hF7⟩;have F7:=(Fr.after (fr_below (drew_ext wq)) hF7 (fun y hy=>Or.inl hy):Fr [wb] wq w7);clear hF7))
  have hX:=HTW.out.of F7 htw1 hA7
  rw[show 0+65536*sh=65536*sh by omega] at hX
  have HX:=hide (And.intro hX (Fr.after HF6.out F7 (fun y hy=>Or.inl (by simp at hy ⊢;exact Or.inr hy)):Fr [ab,wb] w w7))
  clear KS F7 hA7 hX
  go_wp2
  go_ret
  exact⟨rfl,HX.out.1,HX.out.2⟩
theorem byte_short {K l:Nat} (hK:K<2^136) (hl:l≤8) (hz:K%2^(136-l)=0):kbyte K 0=fitK K l*2^(8-l):=by
 unfold kbyte fitK
 have h1:K=K/2^(136-l)*2^(136-l):=by
  have:=Nat.div_add_mod K (2^(136-l))
  rw[hz,Nat.add_zero,Nat.mul_comm] at this
  exact this.symm
 have h2:(2:Nat)^(136-l)=2^(8-l)*2^128:=by rw[←Nat.pow_add];congr 1;omega
 have h3:K/2^(8*(16-0))=K/2^(136-l)*2^(8-l):=by
  conv=>lhs;rw[h1,h2,←Nat.mul_assoc]
  rw[show 8*(16-0)=128 by omega,Nat.mul_div_cancel _ (Nat.two_pow_pos _),h2]
 rw[h3]
 apply Nat.mod_eq_of_lt
 rw[←h3,show 8*(16-0)=128 by omega,Nat.div_lt_iff_lt_mul (Nat.two_pow_pos _)]
 have:256*2^128=2^136:=by decide
 omega
theorem delete_any (A:Ar) (F:Nat→List Nat) (M:Bool→Tab) (tb ab wb:Nat) (f x:Int) (q:Bool) (s:ByteArray) (K l:Nat) (w:World) (h:TabAt w tb ab wb A) (hI:Inv A F M) (hw:WOk A.word) (hq:q=decide (f=6)) (hs16:s.size≤16) (hK:K=keyNum s) (hx:x=l) (hl:l≤8+4*dp q) (hz:K%2^(136-l)=0) (R:Ar × Bool) (hR:delN A q l (fitK K l)=R) :
  Calls Tryz.prog 125 #[.pointer (some ⟨tb,0,none⟩),.int .i64 f,.string s,.int .i64 x] w fun e w'=>e=.returned (.bool R.2)∧TabAt w' tb ab wb R.1∧Fr [ab,wb] w w':=by
 subst hx
 have hd:=dp_le q
 have hKl:K<2^136:=by rw[hK];exact keyNum_lt s
 have hv:=fit_lt (l:=l) hKl (by omega)
 by_cases h8:l<8
 ·exact delete_short A F M tb ab wb f q s K l (fitK K l) w h hI hw hq hs16 hK h8 hv (byte_short hKl (by omega) hz) R hR
 ·unfold delN at hR
  rw[if_neg h8] at hR
  unfold delLong at hR
  have hbf:=byte_fit (K:=K) (l:=l) hKl (by omega) (by omega)
  rw[hbf] at hR
  by_cases h0:A.word (rt q+kbyte K 0)%65536=0
  ·rw[if_pos h0] at hR
   subst hR
   exact delete_none A F M tb ab wb f q s K l w h hI hw hq hs16 hK (by omega) hl h0
  ·rw[if_neg h0] at hR
   have hG:=hI.good hw
   have hO:=OnF.root hI q (kbyte_lt K 0) h0
   have hlt:=hO.on.lt
   have hdp:dp q≤30:=by unfold dp;split <;> omega
   have kw:=removeN_wok (v:=fitK K l) (hI.tab q) (by omega) (dp q) 8 _ _ A F 0 hG hO (by omega) (by omega) hbf
   have kf:=removeN_free l (fitK K l) (dp q) 8 A (A.word (rt q+kbyte K 0)%65536)
   have kr:=remove_ok (l:=l) (v:=fitK K l) (hI.tab q) (by omega) (dp q) 8 _ _ A F hG.ok hO.rep (by omega) (by omega) hbf (fun a=>by have:=hO.apart a;omega) (by have:=hO.apart 0;rw[edge_low (by omega)] at this;omega)
   have hrm:=fun w' h'=>remove_any (K:=K) (tb:=tb) (ab:=ab) (wb:=wb) (hI.tab q) (by omega) (by omega) (dp q) 0 _ _ 0 A F hG (by omega) hdp hO (by omega) (by omega) hbf _ rfl w' h'
   cases e:removeN l (fitK K l) (dp q) 8 A (A.word (rt q+kbyte K 0)%65536) with
   | mk B r =>
    obtain⟨fo,em⟩:=r
    rw[show 8+4*0=8 from rfl,e] at hrm
    rw[e] at kw kf kr hR
    simp only[] at kw kf hR hrm
    have hsB:Sane B:=by
     rcases kr with ⟨_,q⟩ | ⟨_,B',F',q,R⟩
     ·simp only[Prod.mk.injEq] at q
      rw[q.1]
      exact hG.sane (by omega)
     ·simp only[Prod.mk.injEq] at q
      obtain⟨rfl,_,_⟩:=q
      exact(removed_good hG hO R kw kf.1 kf.2.1).sane (by omega)
    exact delete_some A B F M tb ab wb f q s K l _ fo em w h hI hw hq hs16 hK (by omega) hl rfl h0 (by omega) kf.2.2.1 hsB hrm R hR
end Go.Proofs.YtnapboelfimaaaaGreatDoor
namespace Go.Proofs.YtnapboelfimaaaaGreatDoor
open Go.RowKit Go.Deep
structure Cp (w:World) (tb ab wb rb ab0 wb0:Nat) (O A:Ar) (k:Nat):Prop where
 tab:TabAt w tb ab wb A
 old:ArAt w ab0 wb0 O
 rd:w.heap[rb]?=some (.cells #[.pointer (some ⟨ab0,0,none⟩),.int .i64 (k:Int)] 93 (0,0))
 n1:ab0≠ab
 n2:ab0≠wb
 n3:wb0≠ab
 n4:wb0≠wb
theorem ty_ne {w:World} {b c:Nat} {x y:Array Value} {t u:TypeId} {p q:Nat × Nat} (h:w.heap[b]?=some (.cells x t p)) (k:w.heap[c]?=some (.cells y u q)) (htu:t≠u):b≠c:=by
 intro e
 subst e
 rw[h] at k
 injection k with k
 injection k with _ k2
 exact htu k2
theorem Cp.ra {w:World} {tb ab wb rb ab0 wb0:Nat} {O A:Ar} {k:Nat} (h:Cp w tb ab wb rb ab0 wb0 O A k):rb≠ab:=ty_ne h.rd h.tab.ar.arena (by decide)
theorem Cp.rw' {w:World} {tb ab wb rb ab0 wb0:Nat} {O A:Ar} {k:Nat} (h:Cp w tb ab wb rb ab0 wb0 O A k):rb≠wb:=ty_ne h.rd h.tab.ar.words (by decide)
theorem Cp.rt {w:World} {tb ab wb rb ab0 wb0:Nat} {O A:Ar} {k:Nat} (h:Cp w tb ab wb rb ab0 wb0 O A k):rb≠tb:=ty_ne h.rd h.tab.tab (by decide)
theorem Cp.ra0 {w:World} {tb ab wb rb ab0 wb0:Nat} {O A:Ar} {k:Nat} (h:Cp w tb ab wb rb ab0 wb0 O A k):rb≠ab0:=ty_ne h.rd h.old.arena (by decide)
theorem Cp.rw0 {w:World} {tb ab wb rb ab0 wb0:Nat} {O A:Ar} {k:Nat} (h:Cp w tb ab wb rb ab0 wb0 O A k):rb≠wb0:=ty_ne h.rd h.old.words (by decide)
theorem Cp.lr {w:World} {tb ab wb rb ab0 wb0:Nat} {O A:Ar} {k:Nat} (h:Cp w tb ab wb rb ab0 wb0 O A k):rb<w.heap.size:=lt_of_block h.rd
theorem Cp.ext {w w':World} {tb ab wb rb ab0 wb0:Nat} {O A:Ar} {k:Nat} (h:Cp w tb ab wb rb ab0 wb0 O A k) (hb:Below w.heap.size w w'):Cp w' tb ab wb rb ab0 wb0 O A k:=⟨h.tab.ext hb,h.old.ext hb,block_ext h.rd hb,h.n1,h.n2,h.n3,h.n4⟩
theorem Cp.other {w:World} {tb ab wb rb ab0 wb0 b off:Nat} {O A:Ar} {k:Nat} {v:Value} (h:Cp w tb ab wb rb ab0 wb0 O A k) (h1:tb≠b) (h2:ab≠b) (h3:wb≠b) (h4:rb≠b) (h5:ab0≠b) (h6:wb0≠b):Cp (w.setCell ⟨b,off,none⟩ v) tb ab wb rb ab0 wb0 O A k:=⟨h.tab.other h1 h2 h3,h.old.other h5 h6,(Below.heap_setCell _ _ _ _ h4).trans h.rd,h.n1,h.n2,h.n3,h.n4⟩
theorem fill_next (U W:Nat→Nat) (b s i:Nat):setW (fillW U W b s i) (b+i) (W (s+i))=fillW U W b s (i+1):=by
 funext a
 unfold setW fillW
 by_cases h:a=b+i
 ·subst h
  rw[if_pos rfl,if_pos (by omega),show b+i-b=i by omega]
 ·rw[if_neg h]
  by_cases h2:b≤a∧a<b+i
  ·rw[if_pos h2,if_pos (by omega)]
  ·rw[if_neg h2,if_neg (by omega)]
theorem fill_zero (U W:Nat→Nat) (b s:Nat):fillW U W b s 0=U:=by
 funext a
 unfold fillW
 rw[if_neg (by omega)]
set_option maxHeartbeats 2000000 in
set_option maxRecDepth 10000 in
theorem copyWords_any (O A:Ar) (tb ab wb rb ab0 wb0 from' at' n k:Nat) (x y z:Int) (w:World) (h:Cp w tb ab wb rb ab0 wb0 O A k) (hx:x=from') (hy:y=at') (hz:z=n) (h1:from'+n≤O.size) (h2:at'+n≤A.size) (hO:O.size≤65536) (hA:A.size≤65536) (hk:k≤10000000000) :
  Calls Tryz.prog 102 #[.pointer (some ⟨tb,0,none⟩),.pointer (some ⟨rb,0,none⟩),.int .i64 x,.agg #[.int .i64 y,.int .i64 z]] w fun e w'=>e=.returned (.tuple #[])∧Cp w' tb ab wb rb ab0 wb0 O { A with word:=fillW A.word O.word at' from' n } (k+n)∧Fr [rb,wb] w w':=by
 subst hx hy hz
 have hn':(n:Int)≤65536:=by omega
 have hra:=h.ra
 have hrw:=h.rw'
 have hrt:=h.rt
 have hra0:=h.ra0
 have hrw0:=h.rw0
 have n1:=h.n1
 have n2:=h.n2
 have n3:=h.n3
 have n4:=h.n4
 have hla:=h.tab.ar.la
 have hlw:=h.tab.ar.lw
 have hlt:=h.tab.lt
 have hl0:=h.old.la
 have hlw0:=h.old.lw
 have hlr:=h.lr
 have hna:=h.tab.na
 have hnw:=h.tab.nw
 obtain⟨wx,hwx⟩:∃wx,wx=(w.alloc (.cells #[.int .i64 (at':Int),.int .i64 (n:Int)] 172)).alloc (.cells #[.int .u32 0] 136):=⟨_,rfl⟩
 have HBX:Below w.heap.size w wx:=by rw[hwx];exact ext_trans (ext_alloc _ _) (ext_alloc _ _)
 obtain⟨bb,hbb⟩:∃bb,bb=w.heap.size:=⟨_,rfl⟩
 obtain⟨cb,hcb⟩:∃cb,cb=w.heap.size+1:=⟨_,rfl⟩
 have bx:wx.heap[bb]?=some (.cells #[.int .i64 (at':Int),.int .i64 (n:Int)] 172 (0,0)):=by rw[hwx,hbb];exact block_ext (heap_alloc_new _ _) (ext_alloc _ _)
 have cx:wx.heap[cb]?=some (.cells #[.int .u32 0] 136 (0,0)):=by rw[hwx,hcb,←World.size_alloc w (.cells #[.int .i64 (at':Int),.int .i64 (n:Int)] 172)];exact heap_alloc_new _ _
 have hCx:=h.ext HBX
 obtain⟨q0,q1,q2,q3⟩:=cells2 bx
 have hlbx:=lt_of_block bx
 have hlcx:=lt_of_block cx
 have HWX:=hide hwx
 have HBB:=hide hbb
 have HCB:=hide hcb
 have HC0:=hide hCx
 have HB0:=hide HBX
 have HBX2:=hide bx
 have HCX:=hide cx
 have hwb:w.heap.size≤bb:=by omega
 have hwc:w.heap.size≤cb:=by omega
 have hbr:rb≠bb:=by omega
 have hbw:wb≠bb:=by omega
 have hbt:tb≠bb:=by omega
 have hba:ab≠bb:=by omega
 have hba0:ab0≠bb:=by omega
 have hbw0:wb0≠bb:=by omega
 have hcr:rb≠cb:=by omega
 have hcw:wb≠cb:=by omega
 have hct:tb≠cb:=by omega
 have hca:ab≠cb:=by omega
 have hca0:ab0≠cb:=by omega
 have hcw0:wb0≠cb:=by omega
 have hbc:bb≠cb:=by omega
 clear h hwx hbb hcb HBX hCx
 go_enter Tryz.func102,Tryz.ntmps102
 go_wp2_with fail
 rw[←HWX.out,←HCB.out,←HBB.out]
 clear bx cx
 go_loopw [12] (fun iv wr=>∃(i:Nat) (v:Value),iv=.int .i64 (i:Int)∧i≤n∧Cp wr tb ab wb rb ab0 wb0 O { A with word:=fillW A.word O.word at' from' i } (k+i)∧wr.heap[bb]?=some (.cells #[.int .i64 (at':Int),.int .i64 (n:Int)] 172 (0,0))∧wr.heap[cb]?=some (.cells #[v] 136 (0,0))∧Fr [rb,wb] w wr) (fun iv _=>n-(intOf iv).toNat)
 case atStart =>
  refine⟨0,_,rfl,by omega,?_,HBX2.out,HCX.out,fr_below HB0.out⟩
  rw[fill_zero]
  exact HC0.out
 case round =>
  obtain⟨i,v0,rfl,hi,hC,bb1,cb1,hF⟩:=hrel
  have HC:=hide hC
  have HF:=hide hF
  have HBB1:=hide bb1
  have HCB1:=hide cb1
  clear hC hF
  by_cases hlt2:i<n
  ·have hlt3:(i:Int)<n:=by omega
   obtain⟨v,hv⟩:∃v,v=O.word (from'+i):=⟨_,rfl⟩
   have HV:=hide hv
   have HRD:=hide (fun (x:Int) (sb cap:Nat) (w:World) (h:Cp w tb ab wb rb ab0 wb0 O { A with word:=fillW A.word O.word at' from' i } (k+i)) (hx:x=(from':Int)+(i:Int)) (hc:w.heap[cb]?=some (.cells #[v0] 136 (0,0))) (hs:w.cell? ⟨sb,0,none⟩=some (.pointer (some ⟨cb,0,none⟩)))=>read1_any O ab0 wb0 rb x (from'+i) cb sb cap ((k+i:Nat):Int) w h.old hO (by rw[hx];push_cast;rfl) (by omega) h.rd (by omega) (by omega) v0 hc hs (by omega))
   rw[←hv] at HRD
   clear hv
   go_wp2_with fail
   refine(HRD.out _ _ _ _ (HC.out.ext (ext_alloc _ _)) rfl (block_ext HCB1.out (ext_alloc _ _)) (by rw[cell_new rfl];rfl)).mono ?_
   rintro e w3 ⟨rfl,hA3,hr3,hc3,hF3⟩
   have bb3:=hF3.at (block_ext HBB1.out (ext_alloc _ _)) (show bb ∉ [rb,cb] by simp;omega)
   have hCx:=HC.out.ext (ext_alloc wr (.cells #[.pointer (some ⟨cb,0,none⟩)] 138))
   have htr:tb ∉ [rb,cb]:=by simp;omega
   have hT3:=hCx.tab.of hF3 htr (hCx.tab.ar.fr hF3 (by simp;omega) (by simp;omega))
   have hF3':Fr [rb,wb] w w3:=Fr.after (HF.out.alloc _) hF3 (fun y hy=>by
    simp at hy
    rcases hy with rfl | rfl
    ·exact Or.inl (by simp)
    ·exact Or.inr hwc)
   rw[show ((k+i:Nat):Int)+1=((k+(i+1):Nat):Int) by omega] at hr3
   have HR3:=hide hr3
   have HA3:=hide hA3
   have HF3:=hide hF3'
   have HTW:=hide hT3
   clear hF3 hCx hA3 hr3 hF3' hT3 HC HF HBB1 HCB1 bb1 cb1 q0 q1 q2 q3
   obtain⟨wq,hwq⟩:∃wz,wz=w3:=⟨_,rfl⟩
   subst hwq
   obtain⟨pi,hpi⟩:∃pi,pi=at'+i:=⟨_,rfl⟩
   have hwr:IntKind.i64.wrap ((at':Int)+(i:Int))=(pi:Int):=by rw[IntKind.wrap_i64];omega
   have hbw1:bb ∉ [wb]:=by simpa using hbw.symm
   have hcw1:cb ∉ [wb]:=by simpa using hcw.symm
   have htw1:tb ∉ [wb]:=by simpa using hnw
   have hlb3:=lt_of_block bb3
   have hlc3:=lt_of_block hc3
   have hlt3':=HTW.out.lt
   have KS:∀w',Fr [wb] wq w'→(fun w':World=>Fr [wb] wq w'∧w'.cell? ⟨tb,0,none⟩=some (.pointer (some ⟨ab,0,none⟩))∧w'.cell? ⟨bb,0,none⟩=some (.int .i64 (at':Int))∧w'.cell? ⟨cb,0,none⟩=some (.int .u32 (v:Int))) w':=fun w' hf=>⟨hf,HTW.out.frw hf htw1,(cells2 (hf.at bb3 hbw1)).1,by rw[cell_at (hf.at hc3 hcw1)];rfl⟩
   simp only[] at KS
   have hfit:pi + [v].length≤({ A with word:=fillW A.word O.word at' from' i }:Ar).size:=by show pi+1≤A.size;omega
   have HPI:=hide hpi
   clear hpi
   go_wp2_with fail
   go_region_held3 (fun w':World=>Fr [wb] wq w'∧w'.cell? ⟨tb,0,none⟩=some (.pointer (some ⟨ab,0,none⟩))∧w'.cell? ⟨bb,0,none⟩=some (.int .i64 (at':Int))∧w'.cell? ⟨cb,0,none⟩=some (.int .u32 (v:Int))) (with_reducible (first | assumption | exact KS _ (fr_below (drew_ext wq)) | exact KS _ (by assumption) | exact KS _ (fr_below (by assumption)) | exact KS _ (fr_below (ext_trans (by assumption) (ext_alloc _ _))) | exact KS _ (fr_below (Below.drew (ext_alloc _ _))) | exact KS _ (Fr.alloc (by assumption) _) | (refine KS _ (Fr.setCell (Fr.setCell (by assumption) (Or.inr ?_) _) (Or.inr ?_) _) <;> first | assumption | exact Nat.le_refl _))) ((go_at_call 104;refine(write_any { A with word:=fillW A.word O.word at' from' i } ab wb _ pi 1 1 [v] _ _ (HTW.out.ar.ext (Below.drew (ext_alloc _ _))) rfl (by simp) rfl hfit (by intro j u hj;rw[addr_add];exact one_src 0 0 hj (cell_new (w:=wq) rfl))).mono ?_;rintro e w6 ⟨rfl,hA6,hF6⟩;have F6:=(Fr.after (fr_below (Below.drew (ext_alloc _ _))) hF6 (fun y hy=>Or.inl hy):Fr [wb] wq w6);clear hF6))
   have hT6:=HTW.out.of F6 htw1 hA6
   rw[lay_one] at hT6
   have e6:setW (fillW A.word O.word at' from' i) pi v=fillW A.word O.word at' from' (i+1):=by rw[HPI.out,HV.out];exact fill_next _ _ _ _ _
   have hT6':TabAt w6 tb ab wb { A with word:=fillW A.word O.word at' from' (i+1) }:=by rw[←e6];exact hT6
   have HX:=hide (show Cp w6 tb ab wb rb ab0 wb0 O { A with word:=fillW A.word O.word at' from' (i+1) } (k+(i+1))∧w6.heap[bb]?=some (.cells #[.int .i64 (at':Int),.int .i64 (n:Int)] 172 (0,0))∧w6.heap[cb]?=some (.cells #[.int .u32 (v:Int)] 136 (0,0))∧Fr [rb,wb] w w6 from ⟨⟨hT6',HA3.out.fr F6 (by simpa using n2) (by simpa using n4),F6.at HR3.out (by simpa using hrw),n1,n2,n3,n4⟩,F6.at bb3 hbw1,F6.at hc3 hcw1,Fr.after HF3.out F6 (fun y hy=>Or.inl (by simp at hy ⊢;exact Or.inr hy))⟩)
   clear KS hT6 hT6' hA6 F6 bb3 hc3
   go_wp2
   go_roundw
   case rel=>exact⟨i+1,_,by go_num,by omega,HX.out⟩
   case measure=>simp[intOf];omega
  ·have hin:i=n:=by omega
   subst hin
   go_wp2
   go_end0
   exact⟨rfl,HC.out,HF.out⟩
end Go.Proofs.YtnapboelfimaaaaGreatDoor
