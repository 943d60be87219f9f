/- Zer, ByB, ByC, ByD: parts of the proof, one behind the other. -/
import Derived.Test.YtnapboelfimaaaaGreatDoorB16
import Derived.Test.YtnapboelfimaaaaGreatDoorB17
import Derived.Test.YtnapboelfimaaaaGreatDoorB19
import Derived.Test.YtnapboelfimaaaaGreatDoorB21
import Derived.Test.YtnapboelfimaaaaGreatDoorB25
namespace Go.Proofs.YtnapboelfimaaaaGreatDoor
open Go.RowKit Go.Deep
theorem sbyte_get {s:ByteArray} {i:Nat} (h:i<s.size):sbyte s i=s[i].toNat:=by
 unfold sbyte
 have h2:i<s.data.toList.length:=by simpa using h
 rw[List.getD_eq_getElem?_getD,List.getElem?_eq_getElem h2]
 simp[ByteArray.getElem_eq_getElem_data]
set_option maxHeartbeats 2000000 in
set_option maxRecDepth 10000 in
theorem zeroFrom_any (s:ByteArray) (l:Nat) (b:Bool) (w:World) (hs:s.size≤16) (hl:l≤8*s.size) (hb:b=true↔zeroN s l s.size) :
  Calls Tryz.prog 62 #[.string s,.int .i64 (l:Nat)] w fun e w'=>e=.returned (.bool b)∧Below w.heap.size w w':=by
 have hl':(l:Int)≤128:=by omega
 have hs':(s.size:Int)≤16:=by omega
 go_enter Tryz.func62,Tryz.ntmps62
 go_wp2
 go_loopw [5] (fun v wr=>∃i:Nat,v=.int .i64 (i:Int)∧l/8≤i∧i≤s.size∧(∀j,l/8≤j→j<i→sbyte s j*2^(l-8*j)%256=0)∧Below w.heap.size w wr) (fun v _=>s.size-(intOf v).toNat)
 case atStart=>exact⟨l/8,by simp,Nat.le_refl _,by omega,fun j h1 h2=>by omega,Below.refl _ _⟩
 case round =>
  obtain⟨i,rfl,hi1,hi2,hz,hB⟩:=hrel
  have HZ:=hide hz
  have HB:=hide hB
  clear hz hB
  by_cases hi:i<s.size
  ·have hi':(i:Int)<s.size:=by omega
   have hg:=sbyte_get hi
   by_cases hz0:sbyte s i*2^(l-8*i)%256=0
   ·have HN:=hide (show ∀j,l/8≤j→j<i+1→sbyte s j*2^(l-8*j)%256=0 from fun j h1 h2=>by
     by_cases e:j=i
     ·subst e;exact hz0
     ·exact HZ.out j h1 (by omega))
    by_cases h8:8*i≤l
    ·have h8':(0:Int)≤(l:Int)-8*i:=by omega
     have e1:((s[i].toNat:Int)*2^(l-8*i)%256 != 0)=false:=by
      rw[←hg]
      have:((sbyte s i*2^(l-8*i)%256:Nat):Int)=0:=by rw[hz0];rfl
      push_cast at this
      rw[this]
      rfl
     clear hg hz0
     go_wp2
     go_roundw
     case rel=>exact⟨i+1,by go_num,by omega,by omega,HN.out,HB.out⟩
     case measure=>simp[intOf];omega
    ·have h8':(l:Int)-8*i<0:=by omega
     have e1:(s[i].toNat:Int)%256=0:=by
      rw[show l-8*i=0 by omega,Nat.pow_zero,Nat.mul_one,hg] at hz0
      have:((s[i].toNat%256:Nat):Int)=0:=by rw[hz0];rfl
      push_cast at this
      exact this
     clear hg hz0
     go_wp2
     go_roundw
     case rel=>exact⟨i+1,by go_num,by omega,by omega,HN.out,HB.out⟩
     case measure=>simp[intOf];omega
   ·have hbf:b=false:=by
     cases b with
     | false=>rfl
     | true=>exact absurd (hb.1 rfl i hi1 hi) hz0
    subst hbf
    have HNZ:=hide hz0
    by_cases h8:8*i≤l
    ·have h8':(0:Int)≤(l:Int)-8*i:=by omega
     have e1:((s[i].toNat:Int)*2^(l-8*i)%256 != 0)=true:=by
      rw[←hg]
      have:((sbyte s i*2^(l-8*i)%256:Nat):Int)≠0:=by omega
      push_cast at this
      simpa using this
     clear hg hz0 hb
     go_wp2
     go_ret
     exact⟨rfl,HB.out⟩
    ·have h8':(l:Int)-8*i<0:=by omega
     have e1:¬(s[i].toNat:Int)%256=0:=by
      rw[show l-8*i=0 by omega,Nat.pow_zero,Nat.mul_one,hg] at hz0
      have:((s[i].toNat%256:Nat):Int)≠0:=by omega
      push_cast at this
      exact this
     clear hg hz0 hb
     go_wp2
     go_ret
     exact⟨rfl,HB.out⟩
  ·have hbt:b=true:=hb.2 (fun j h1 h2=>HZ.out j h1 (by omega))
   subst hbt
   have hi':(s.size:Int)≤i:=by omega
   clear hb
   go_wp2
   go_ret
   exact⟨rfl,HB.out⟩
end Go.Proofs.YtnapboelfimaaaaGreatDoor
namespace Go.Proofs.YtnapboelfimaaaaGreatDoor
open Go.RowKit Go.Deep
theorem famBytes_cases (f:Int):famBytes f=0∨famBytes f=4∨famBytes f=16:=by
 unfold famBytes
 split
 ·exact Or.inr (Or.inl rfl)
 ·split
  ·exact Or.inr (Or.inr rfl)
  ·exact Or.inl rfl
set_option maxHeartbeats 2000000 in
set_option maxRecDepth 10000 in
theorem prefixFault_any (f:Int) (s:ByteArray) (l c:Int) (w:World) (hl1:-9223372036854775808≤l) (hl2:l≤9223372036854775807) (hs:s.size≤9223372036854775807) (hc:c=prefFault f s l) :
  Calls Tryz.prog 50 #[.int .i64 f,.string s,.int .i64 l] w fun e w'=>e=.returned (.int .i64 c)∧Below w.heap.size w w':=by
 unfold prefFault at hc
 have hfc:=famBytes_cases f
 obtain⟨n,hn⟩:∃n,n=famBytes f:=⟨_,rfl⟩
 have HAB:=hide (fun (w:World)=>addressBytes_any f w)
 rw[←hn] at hc hfc HAB
 clear hn
 by_cases h0:n=0
 ·rw[if_pos h0] at hc
  subst hc
  have e0:((n:Int)==0)=true:=by simp[h0]
  clear hfc h0
  go_enter Tryz.func50,Tryz.ntmps50
  go_wp2_with (go_at_call 35;refine(HAB.out _).mono ?_;rintro e w' ⟨rfl,rfl⟩)
  go_ret
  exact⟨rfl,Below.refl _ _⟩
 ·rw[if_neg h0] at hc
  have e0:((n:Int)==0)=false:=by simp[h0]
  have hn16:(n:Int)≤16:=by omega
  by_cases hl0:l<0
  ·rw[if_pos (Or.inl hl0)] at hc
   subst hc
   clear hfc h0
   go_enter Tryz.func50,Tryz.ntmps50
   go_wp2_with (go_at_call 35;refine(HAB.out _).mono ?_;rintro e w' ⟨rfl,rfl⟩)
   go_ret
   exact⟨rfl,Below.refl _ _⟩
  ·by_cases hl8:8*(n:Int)<l
   ·rw[if_pos (Or.inr hl8)] at hc
    subst hc
    clear hfc h0
    go_enter Tryz.func50,Tryz.ntmps50
    go_wp2_with (go_at_call 35;refine(HAB.out _).mono ?_;rintro e w' ⟨rfl,rfl⟩)
    go_ret
    exact⟨rfl,Below.refl _ _⟩
   ·rw[if_neg (by omega)] at hc
    by_cases hsn:s.size=n
    ·obtain⟨ln,hln⟩:∃ln:Nat,(ln:Int)=l:=⟨l.toNat,by omega⟩
     subst hln
     rw[show ((ln:Int)).toNat=ln by omega] at hc
     obtain⟨z,hz⟩:∃z:Bool,z=decide (keyNum s%2^(136-ln)=0):=⟨_,rfl⟩
     have hzi:=zero_iff (s:=s) (l:=ln) hsn (by omega) (by omega)
     rw[←hsn] at hzi
     have HZF:=hide (fun (w:World)=>zeroFrom_any s ln z w (by omega) (by omega) (by rw[hzi,hz];simp))
     have e2:(s.size:Int)≤(n:Int):=by omega
     have e3:(n:Int)≤(s.size:Int):=by omega
     have hc2:c=if z then 0 else 5:=by
      rw[hc,hz]
      by_cases hk:keyNum s%2^(136-ln)=0
      ·rw[if_pos ⟨hsn,hk⟩];simp[hk]
      ·rw[if_neg (fun h=>hk h.2)];simp[hk]
     clear hc hz hzi hfc h0 hsn
     cases z with
     | true =>
      simp only[if_true] at hc2
      subst hc2
      go_enter Tryz.func50,Tryz.ntmps50
      go_wp2_with (first | (go_at_call 35;refine(HAB.out _).mono ?_;rintro e w' ⟨rfl,rfl⟩) | (go_at_call 62;refine(HZF.out _).mono ?_;rintro e w2 ⟨rfl,hb2⟩))
      go_ret
      exact⟨rfl,hb2⟩
     | false =>
      simp only[Bool.false_eq_true,if_false] at hc2
      subst hc2
      go_enter Tryz.func50,Tryz.ntmps50
      go_wp2_with (first | (go_at_call 35;refine(HAB.out _).mono ?_;rintro e w' ⟨rfl,rfl⟩) | (go_at_call 62;refine(HZF.out _).mono ?_;rintro e w2 ⟨rfl,hb2⟩))
      go_ret
      exact⟨rfl,hb2⟩
    ·rw[if_neg (fun h=>hsn h.1)] at hc
     subst hc
     have e2:(s.size:Int)<(n:Int)∨(n:Int)<(s.size:Int):=by omega
     have e3:((s.size:Int) != (n:Int))=true:=by simp;omega
     clear hfc h0 hsn
     go_enter Tryz.func50,Tryz.ntmps50
     go_wp2_with (go_at_call 35;refine(HAB.out _).mono ?_;rintro e w' ⟨rfl,rfl⟩)
     go_ret
     exact⟨rfl,Below.refl _ _⟩
end Go.Proofs.YtnapboelfimaaaaGreatDoor
namespace Go.Proofs.YtnapboelfimaaaaGreatDoor
open Go.RowKit Go.Deep
theorem cells4x {w:World} {b:Nat} {a0 a1 a2 a3:Value} {t:TypeId} (h:w.heap[b]?=some (.cells #[a0,a1,a2,a3] t (0,0))):w.cell? ⟨b,0,none⟩=some a0∧w.cell? ⟨b,1,none⟩=some a1∧w.cell? ⟨b,2,none⟩=some a2∧w.cell? ⟨b,3,none⟩=some a3∧True:=by
 rw[cell_at h,cell_at h,cell_at h,cell_at h]
 exact⟨rfl,rfl,rfl,rfl,trivial⟩
def deedVal (o:OpD):Value :=
 if o.code=1 then .iface 105 (.agg #[.int .i64 o.family,.string o.bits,.int .i64 o.len,.int .i64 o.hop])
 else if o.code=2 then .iface 107 (.agg #[.int .i64 o.family,.int .i64 o.len,.string o.bits])
 else if o.code=3 then .iface 109 (.agg #[.int .i64 o.family,.string o.bits])
 else if o.code=4 then .iface 111 (.agg #[]) else .nilIface
structure OpD.ok (o:OpD):Prop where
 code1:-9223372036854775808≤o.code
 code2:o.code≤9223372036854775807
 fam1:-9223372036854775808≤o.family
 fam2:o.family≤9223372036854775807
 len1:-9223372036854775808≤o.len
 len2:o.len≤9223372036854775807
 hop1:-9223372036854775808≤o.hop
 hop2:o.hop≤9223372036854775807
 bits:o.bits.size≤9223372036854775807
set_option maxHeartbeats 2000000 in
set_option maxRecDepth 10000 in
theorem deedOf_any (o:OpD) (w:World):Calls Tryz.prog 39 #[.agg #[.int .i64 o.code,.int .i64 o.family,.string o.bits,.int .i64 o.len,.int .i64 o.hop]] w fun e w'=>e=.returned (deedVal o)∧Below w.heap.size w w':=by
 obtain⟨code,f,s,l,hop⟩:=o
 by_cases h1:code=1
 ·subst h1
  have HV:=hide (show deedVal ⟨1,f,s,l,hop⟩=.iface 105 (.agg #[.int .i64 f,.string s,.int .i64 l,.int .i64 hop]) from rfl)
  (go_enter Tryz.func39,Tryz.ntmps39;go_wp2;go_ret;exact⟨by rw[HV.out];rfl,ext_alloc _ _⟩)
 ·by_cases h2:code=2
  ·subst h2
   have HV:=hide (show deedVal ⟨2,f,s,l,hop⟩=.iface 107 (.agg #[.int .i64 f,.int .i64 l,.string s]) from rfl)
   clear h1
   (go_enter Tryz.func39,Tryz.ntmps39;go_wp2;go_ret;exact⟨by rw[HV.out];rfl,ext_alloc _ _⟩)
  ·by_cases h3:code=3
   ·subst h3
    have HV:=hide (show deedVal ⟨3,f,s,l,hop⟩=.iface 109 (.agg #[.int .i64 f,.string s]) from rfl)
    clear h1 h2
    (go_enter Tryz.func39,Tryz.ntmps39;go_wp2;go_ret;exact⟨by rw[HV.out];rfl,ext_alloc _ _⟩)
   ·by_cases h4:code=4
    ·subst h4
     have HV:=hide (show deedVal ⟨4,f,s,l,hop⟩=.iface 111 (.agg #[]) from rfl)
     clear h1 h2 h3
     (go_enter Tryz.func39,Tryz.ntmps39;go_wp2;go_ret;exact⟨by rw[HV.out];rfl,ext_alloc _ _⟩)
    ·have HV:=hide (show deedVal ⟨code,f,s,l,hop⟩=.nilIface by unfold deedVal;simp only[h1,h2,h3,h4,if_false])
     have e1:(code==1)=false:=by simpa using h1
     have e2:(code==2)=false:=by simpa using h2
     have e3:(code==3)=false:=by simpa using h3
     have e4:(code==4)=false:=by simpa using h4
     clear h1 h2 h3 h4
     (go_enter Tryz.func39,Tryz.ntmps39;go_wp2;go_ret;exact⟨by rw[HV.out];rfl,ext_alloc _ _⟩)
theorem ta_ins (v:Value) (w:World):(Instr.typeAssert (.iface 105 v) 84 105 true).run Tryz.prog w=.ok (.tuple #[v,.bool true]) w:=by kernel_rfl
theorem ta_del (v:Value) (w:World):(Instr.typeAssert (.iface 107 v) 84 107 true).run Tryz.prog w=.ok (.tuple #[v,.bool true]) w:=by kernel_rfl
theorem ta_look (v:Value) (w:World):(Instr.typeAssert (.iface 109 v) 84 109 true).run Tryz.prog w=.ok (.tuple #[v,.bool true]) w:=by kernel_rfl
theorem ta_del_ins (v:Value) (w:World):(Instr.typeAssert (.iface 107 v) 84 105 true).run Tryz.prog w=.ok (.tuple #[.agg #[.int .i64 0,.string ByteArray.empty,.int .i64 0,.int .i64 0],.bool false]) w:=by kernel_rfl
theorem ta_look_ins (v:Value) (w:World):(Instr.typeAssert (.iface 109 v) 84 105 true).run Tryz.prog w=.ok (.tuple #[.agg #[.int .i64 0,.string ByteArray.empty,.int .i64 0,.int .i64 0],.bool false]) w:=by kernel_rfl
theorem ta_look_del (v:Value) (w:World):(Instr.typeAssert (.iface 109 v) 84 107 true).run Tryz.prog w=.ok (.tuple #[.agg #[.int .i64 0,.int .i64 0,.string ByteArray.empty],.bool false]) w:=by kernel_rfl
theorem ta_com_ins (v:Value) (w:World):(Instr.typeAssert (.iface 111 v) 84 105 true).run Tryz.prog w=.ok (.tuple #[.agg #[.int .i64 0,.string ByteArray.empty,.int .i64 0,.int .i64 0],.bool false]) w:=by kernel_rfl
theorem ta_com_del (v:Value) (w:World):(Instr.typeAssert (.iface 111 v) 84 107 true).run Tryz.prog w=.ok (.tuple #[.agg #[.int .i64 0,.int .i64 0,.string ByteArray.empty],.bool false]) w:=by kernel_rfl
theorem ta_com_look (v:Value) (w:World):(Instr.typeAssert (.iface 111 v) 84 109 true).run Tryz.prog w=.ok (.tuple #[.agg #[.int .i64 0,.string ByteArray.empty],.bool false]) w:=by kernel_rfl
set_option maxHeartbeats 2000000 in
set_option maxRecDepth 10000 in
theorem fault_any (o:OpD) (w:World) (hok:o.ok):Calls Tryz.prog 40 #[deedVal o] w fun e w'=>e=.returned (.int .i64 (opFault o))∧Below w.heap.size w w':=by
 obtain⟨code,f,s,l,hop⟩:=o
 have hl1:=hok.len1
 have hl2:=hok.len2
 have hsz:=hok.bits
 simp only at hl1 hl2 hsz
 have HPF:=hide (fun (w:World)=>prefixFault_any f s l (prefFault f s l) w hl1 hl2 hsz rfl)
 obtain⟨pf,hpf⟩:∃pf,pf=prefFault f s l:=⟨_,rfl⟩
 rw[←hpf] at HPF
 by_cases h1:code=1
 ·subst h1
  have hF:opFault ⟨1,f,s,l,hop⟩=if pf=0 then hopFault hop else pf:=by rw[hpf];rfl
  rw[show deedVal ⟨1,f,s,l,hop⟩=.iface 105 (.agg #[.int .i64 f,.string s,.int .i64 l,.int .i64 hop]) from rfl,hF]
  have hta:=ta_ins
  have HHF:=hide (fun (w:World)=>hopFault_any hop w)
  have hhf:(if 0≤hop∧hop≤65535 then 0 else 6:Int)=hopFault hop:=rfl
  rw[hhf] at HHF
  obtain⟨hf,hhf2⟩:∃hf,hf=hopFault hop:=⟨_,rfl⟩
  rw[←hhf2] at HHF ⊢
  clear hhf hhf2 hpf hF hok
  by_cases hp0:pf=0
  ·rw[if_pos hp0]
   have e0:(pf != 0)=false:=by simp[hp0]
   clear hp0
   go_enter Tryz.func40,Tryz.ntmps40
   go_wp2_with (first | (go_at_call 50;refine(HPF.out _).mono ?_;rintro e w1 ⟨rfl,hb1⟩;have b1:=new_plain hb1;have hx1:=lt_of_block b1;obtain⟨k0,k1,k2,k3,k4⟩:=cells4x b1) | (go_at_call 51;refine(HHF.out _).mono ?_;rintro e w2 ⟨rfl,nn,rfl⟩))
   go_ret
   exact⟨rfl,ext_trans (ext_trans (ext_alloc _ _) hb1) (drewN_ext _ _)⟩
  ·rw[if_neg hp0]
   have e0:(pf != 0)=true:=by simpa using hp0
   clear hp0
   go_enter Tryz.func40,Tryz.ntmps40
   go_wp2_with (go_at_call 50;refine(HPF.out _).mono ?_;rintro e w1 ⟨rfl,hb1⟩)
   go_ret
   exact⟨rfl,ext_trans (ext_alloc _ _) hb1⟩
 ·by_cases h2:code=2
  ·subst h2
   have hF:opFault ⟨2,f,s,l,hop⟩=pf:=by rw[hpf];rfl
   rw[show deedVal ⟨2,f,s,l,hop⟩=.iface 107 (.agg #[.int .i64 f,.int .i64 l,.string s]) from rfl,hF]
   have hta:=ta_del
   have hta2:=ta_del_ins
   clear h1 hF hpf hok
   go_enter Tryz.func40,Tryz.ntmps40
   go_wp2_with (go_at_call 50;refine(HPF.out _).mono ?_;rintro e w1 ⟨rfl,hb1⟩)
   go_ret
   exact⟨rfl,ext_trans (ext_alloc _ _) hb1⟩
  ·by_cases h3:code=3
   ·subst h3
    have HAF:=hide (fun (w:World)=>addressFault_any f s (addrFault f s) w rfl)
    have hF:opFault ⟨3,f,s,l,hop⟩=addrFault f s:=rfl
    rw[show deedVal ⟨3,f,s,l,hop⟩=.iface 109 (.agg #[.int .i64 f,.string s]) from rfl,hF]
    obtain⟨af,haf⟩:∃af,af=addrFault f s:=⟨_,rfl⟩
    rw[←haf] at HAF ⊢
    have hta:=ta_look
    have hta2:=ta_look_ins
    have hta3:=ta_look_del
    clear h1 h2 hF hpf hok haf
    go_enter Tryz.func40,Tryz.ntmps40
    go_wp2_with (go_at_call 52;refine(HAF.out _).mono ?_;rintro e w1 ⟨rfl,nn,rfl⟩)
    go_ret
    exact⟨rfl,ext_trans (ext_alloc _ _) (drewN_ext _ _)⟩
   ·by_cases h4:code=4
    ·subst h4
     rw[show deedVal ⟨4,f,s,l,hop⟩=.iface 111 (.agg #[]) from rfl,show opFault ⟨4,f,s,l,hop⟩=0 from rfl]
     have hta:=ta_com_ins
     have hta2:=ta_com_del
     have hta3:=ta_com_look
     clear h1 h2 h3 hpf hok
     go_enter Tryz.func40,Tryz.ntmps40
     go_wp2
     go_ret
     exact⟨rfl,Below.refl _ _⟩
    ·have HV:=hide (show deedVal ⟨code,f,s,l,hop⟩=.nilIface by unfold deedVal;simp only[h1,h2,h3,h4,if_false])
     have hF:opFault ⟨code,f,s,l,hop⟩=2:=by unfold opFault;simp only[h1,h2,h3,h4,if_false]
     rw[HV.out,hF]
     clear h1 h2 h3 h4 hF hpf hok
     go_enter Tryz.func40,Tryz.ntmps40
     go_wp2
     go_ret
     exact⟨rfl,Below.refl _ _⟩
end Go.Proofs.YtnapboelfimaaaaGreatDoor
namespace Go.Proofs.YtnapboelfimaaaaGreatDoor
open Go.RowKit Go.Deep
def Ans.val (a:Ans):Value:=.agg #[.int .i64 a.err,.int .i64 a.hop,.int .i64 a.reads]
theorem store3 {w:World} {b:Nat} {a0 a1 a2 c0 c1 c2:Value} {t:TypeId} (h:w.heap[b]?=some (.cells #[a0,a1,a2] t (0,0))):(((w.setCell ⟨b,0,none⟩ c0).setCell ⟨b,1,none⟩ c1).setCell ⟨b,2,none⟩ c2).heap[b]?=some (.cells #[c0,c1,c2] t (0,0)):=by
 rw[heap_setCell_at _ (heap_setCell_at _ (heap_setCell_at _ h))]
 rfl
theorem Moved.done {w wx w3:World} {tb ab wb b:Nat} {B:Ar} {v0 v1 v2:Value} (hb:Below w.heap.size w wx) (h:Moved wx w3 tb ab wb B) (hbw:w.heap.size≤b) (hbx:b<wx.heap.size) (h1:tb<w.heap.size) (h2:ab<w.heap.size) (h3:wb<w.heap.size):Moved w (((w3.setCell ⟨b,0,none⟩ v0).setCell ⟨b,1,none⟩ v1).setCell ⟨b,2,none⟩ v2) tb ab wb B:=by
 obtain⟨⟨ab',wb',hor,hT⟩,hF⟩:=h
 have hs:=hb.size
 refine⟨⟨ab',wb',?_,((hT.other (by omega) (by omega) (by omega)).other (by omega) (by omega) (by omega)).other (by omega) (by omega) (by omega)⟩,(((Fr.after (fr_below hb) hF (fun y hy=>Or.inl hy):Fr [tb,ab,wb] w w3).setCell (Or.inr hbw) _).setCell (Or.inr hbw) _).setCell (Or.inr hbw) _⟩
 rcases hor with h | h
 ·exact Or.inl h
 ·exact Or.inr ⟨by omega,by omega⟩
theorem Moved.blk {w w':World} {tb ab wb b:Nat} {B:Ar} {o:Obj} (h:Moved w w' tb ab wb B) (hb:w.heap[b]?=some o) (h1:b≠tb) (h2:b≠ab) (h3:b≠wb):w'.heap[b]?=some o:=h.2.at hb (by simp;omega)
set_option maxHeartbeats 2000000 in
set_option maxRecDepth 10000 in
theorem doIns_any (S:St) (o:OpD) (tb ab wb:Nat) (w:World) (h:TabAt w tb ab wb S.A) (hS:S.ok) (hc:o.code=1) (hf:opFault o=0) :
  Calls Tryz.prog 93 #[.agg #[.int .i64 o.family,.string o.bits,.int .i64 o.len,.int .i64 o.hop],.pointer (some ⟨tb,0,none⟩)] w fun e w'=>e=.returned (S.step o).2.val∧Moved w w' tb ab wb (S.step o).1.A:=by
 obtain⟨F,hI⟩:=hS.inv
 obtain⟨hp,h0,h1⟩:=fault_ins hc hf
 have hst:S.step o=S.put o (insN S.A (fam o.family) o.l o.v o.hop.toNat):=by
  unfold St.step
  rw[if_pos hf,if_pos hc]
 rw[hst]
 have hl:o.len=((o.l:Nat):Int):=by unfold OpD.l;have:=hp.len0;omega
 have hh:o.hop=((o.hop.toNat:Nat):Int):=by omega
 have h16:o.bits.size≤16:=by rw[hp.size];rcases famBytes_cases o.family with h | h | h <;> omega
 have HIN:=hide (fun (w:World) (h:TabAt w tb ab wb S.A)=>insert_any S.A F S.M tb ab wb o.family (fam o.family) o.bits o.key o.l o.hop.toNat w h hI hS.wok rfl h16 rfl hp.len (by omega) hp.zero _ rfl)
 rw[←hl,←hh] at HIN
 obtain⟨f,hfd⟩:∃f,f=o.family:=⟨_,rfl⟩
 obtain⟨s,hsd⟩:∃s,s=o.bits:=⟨_,rfl⟩
 obtain⟨len,hld⟩:∃l,l=o.len:=⟨_,rfl⟩
 obtain⟨hop,hhd⟩:∃l,l=o.hop:=⟨_,rfl⟩
 have hvv:o.v=fitK o.key o.l:=rfl
 rw[←hvv] at HIN
 obtain⟨R,hR⟩:∃R,R=insN S.A (fam o.family) o.l o.v o.hop.toNat:=⟨_,rfl⟩
 rw[←hR] at HIN ⊢
 rw[←hfd,←hsd,←hld,←hhd] at HIN ⊢
 have hlt:=h.lt
 have hla:=h.ar.la
 have hlw:=h.ar.lw
 obtain⟨wx,hwx⟩:∃wx,wx=(w.alloc (.cells #[.int .i64 f,.string s,.int .i64 len,.int .i64 hop] 105)).alloc (.cells #[.int .i64 0,.int .i64 0,.int .i64 0] 59):=⟨_,rfl⟩
 have hBx:Below w.heap.size w wx:=by rw[hwx];exact ext_trans (ext_alloc _ _) (ext_alloc _ _)
 have bz:wx.heap[w.heap.size+1]?=some (.cells #[.int .i64 0,.int .i64 0,.int .i64 0] 59 (0,0)):=by rw[hwx,←World.size_alloc w (.cells #[.int .i64 f,.string s,.int .i64 len,.int .i64 hop] 105)];exact heap_alloc_new _ _
 have hlz:=lt_of_block bz
 have HT:=hide (h.ext hBx)
 have HBX:=hide hBx
 have HBZ:=hide bz
 have HWX:=hide hwx
 clear h hI hS hf hc hp hst hR hl hh hfd hsd hld hhd hvv hwx hBx bz h0 h1 h16
 go_enter Tryz.func93,Tryz.ntmps93
 go_wp2_with fail
 rw[←HWX.out]
 refine(HIN.out _ HT.out).mono ?_
 rintro e w3 ⟨rfl,hM⟩
 have bz3:=hM.blk HBZ.out (by omega) (by omega) (by omega)
 have hl3:=lt_of_block bz3
 obtain⟨z0,z1,z2⟩:=cells3 bz3
 have zf:=fun i=>free_at bz3 i
 have zf0:=zf 0
 have zf1:=zf 1
 have zf2:=zf 2
 obtain⟨B,r⟩:=R
 cases r with
 | true =>
  have hX:=store3 (c0:=.int .i64 0) (c1:=.int .i64 0) (c2:=.int .i64 0) bz3
  have hD:=Moved.done (v0:=.int .i64 0) (v1:=.int .i64 0) (v2:=.int .i64 0) HBX.out hM (b:=w.heap.size+1) (by omega) hlz hlt hla hlw
  obtain⟨w9,hw9⟩:∃w9,w9=(((w3.setCell ⟨w.heap.size+1,0,none⟩ (.int .i64 0)).setCell ⟨w.heap.size+1,1,none⟩ (.int .i64 0)).setCell ⟨w.heap.size+1,2,none⟩ (.int .i64 0)):=⟨_,rfl⟩
  rw[←hw9] at hX hD
  have HX:=hide (And.intro hX hD)
  have HW9:=hide hw9
  clear hM hX hD hw9 zf bz3
  go_wp2
  rw[←HW9.out]
  obtain⟨y0,y1,y2⟩:=cells3 HX.out.1
  exact bodyPost_ret (v:=(⟨0,0,0⟩:Ans).val) (by simp[results,Tryz.results93,go_sem,Ans.val,y0,y1,y2]) rfl ⟨rfl,HX.out.2⟩
 | false =>
  have hX:=store3 (c0:=.int .i64 8) (c1:=.int .i64 0) (c2:=.int .i64 0) bz3
  have hD:=Moved.done (v0:=.int .i64 8) (v1:=.int .i64 0) (v2:=.int .i64 0) HBX.out hM (b:=w.heap.size+1) (by omega) hlz hlt hla hlw
  obtain⟨w9,hw9⟩:∃w9,w9=(((w3.setCell ⟨w.heap.size+1,0,none⟩ (.int .i64 8)).setCell ⟨w.heap.size+1,1,none⟩ (.int .i64 0)).setCell ⟨w.heap.size+1,2,none⟩ (.int .i64 0)):=⟨_,rfl⟩
  rw[←hw9] at hX hD
  have HX:=hide (And.intro hX hD)
  have HW9:=hide hw9
  clear hM hX hD hw9 zf bz3
  go_wp2
  rw[←HW9.out]
  obtain⟨y0,y1,y2⟩:=cells3 HX.out.1
  exact bodyPost_ret (v:=(⟨8,0,0⟩:Ans).val) (by simp[results,Tryz.results93,go_sem,Ans.val,y0,y1,y2]) rfl ⟨rfl,HX.out.2⟩
set_option maxHeartbeats 2000000 in
set_option maxRecDepth 10000 in
theorem doDel_any (S:St) (o:OpD) (tb ab wb:Nat) (w:World) (h:TabAt w tb ab wb S.A) (hS:S.ok) (hc:o.code=2) (hf:opFault o=0) :
  Calls Tryz.prog 124 #[.agg #[.int .i64 o.family,.int .i64 o.len,.string o.bits],.pointer (some ⟨tb,0,none⟩)] w fun e w'=>e=.returned (S.step o).2.val∧Moved w w' tb ab wb (S.step o).1.A:=by
 obtain⟨F,hI⟩:=hS.inv
 have hp:=fault_del hc hf
 have hst:S.step o=S.del o (delN S.A (fam o.family) o.l o.v):=by
  unfold St.step
  rw[if_pos hf,if_neg (by omega),if_pos hc]
 rw[hst]
 have hl:o.len=((o.l:Nat):Int):=by unfold OpD.l;have:=hp.len0;omega
 have h16:o.bits.size≤16:=by rw[hp.size];rcases famBytes_cases o.family with h | h | h <;> omega
 have HIN:=hide (fun (w:World) (h:TabAt w tb ab wb S.A)=>(delete_any S.A F S.M tb ab wb o.family o.len (fam o.family) o.bits o.key o.l w h hI hS.wok rfl h16 rfl hl hp.len hp.zero _ rfl).mono (R':=fun e w'=>e=.returned (.bool (delN S.A (fam o.family) o.l (fitK o.key o.l)).2)∧Moved w w' tb ab wb (delN S.A (fam o.family) o.l (fitK o.key o.l)).1) (by rintro e w' ⟨he,hT,hF⟩;exact⟨he,Moved.same hT hF⟩))
 obtain⟨f,hfd⟩:∃f,f=o.family:=⟨_,rfl⟩
 obtain⟨s,hsd⟩:∃s,s=o.bits:=⟨_,rfl⟩
 obtain⟨len,hld⟩:∃l,l=o.len:=⟨_,rfl⟩
 have hvv:o.v=fitK o.key o.l:=rfl
 rw[←hvv] at HIN
 obtain⟨R,hR⟩:∃R,R=delN S.A (fam o.family) o.l o.v:=⟨_,rfl⟩
 rw[←hR] at HIN ⊢
 rw[←hfd,←hsd,←hld] at HIN ⊢
 have hlt:=h.lt
 have hla:=h.ar.la
 have hlw:=h.ar.lw
 obtain⟨wx,hwx⟩:∃wx,wx=(w.alloc (.cells #[.int .i64 f,.int .i64 len,.string s] 107)).alloc (.cells #[.int .i64 0,.int .i64 0,.int .i64 0] 59):=⟨_,rfl⟩
 have hBx:Below w.heap.size w wx:=by rw[hwx];exact ext_trans (ext_alloc _ _) (ext_alloc _ _)
 have bz:wx.heap[w.heap.size+1]?=some (.cells #[.int .i64 0,.int .i64 0,.int .i64 0] 59 (0,0)):=by rw[hwx,←World.size_alloc w (.cells #[.int .i64 f,.int .i64 len,.string s] 107)];exact heap_alloc_new _ _
 have hlz:=lt_of_block bz
 have HT:=hide (h.ext hBx)
 have HBX:=hide hBx
 have HBZ:=hide bz
 have HWX:=hide hwx
 clear h hI hS hf hc hp hst hR hl hfd hsd hld hvv hwx hBx bz h16
 go_enter Tryz.func124,Tryz.ntmps124
 go_wp2_with fail
 rw[←HWX.out]
 refine(HIN.out _ HT.out).mono ?_
 rintro e w3 ⟨rfl,hM⟩
 have bz3:=hM.blk HBZ.out (by omega) (by omega) (by omega)
 have hl3:=lt_of_block bz3
 obtain⟨z0,z1,z2⟩:=cells3 bz3
 have zf:=fun i=>free_at bz3 i
 have zf0:=zf 0
 have zf1:=zf 1
 have zf2:=zf 2
 obtain⟨B,r⟩:=R
 cases r with
 | true =>
  have hX:=store3 (c0:=.int .i64 0) (c1:=.int .i64 0) (c2:=.int .i64 0) bz3
  have hD:=Moved.done (v0:=.int .i64 0) (v1:=.int .i64 0) (v2:=.int .i64 0) HBX.out hM (b:=w.heap.size+1) (by omega) hlz hlt hla hlw
  obtain⟨w9,hw9⟩:∃w9,w9=(((w3.setCell ⟨w.heap.size+1,0,none⟩ (.int .i64 0)).setCell ⟨w.heap.size+1,1,none⟩ (.int .i64 0)).setCell ⟨w.heap.size+1,2,none⟩ (.int .i64 0)):=⟨_,rfl⟩
  rw[←hw9] at hX hD
  have HX:=hide (And.intro hX hD)
  have HW9:=hide hw9
  clear hM hX hD hw9 zf bz3
  go_wp2
  rw[←HW9.out]
  obtain⟨y0,y1,y2⟩:=cells3 HX.out.1
  exact bodyPost_ret (v:=(⟨0,0,0⟩:Ans).val) (by simp[results,Tryz.results124,go_sem,Ans.val,y0,y1,y2]) rfl ⟨rfl,HX.out.2⟩
 | false =>
  have hX:=store3 (c0:=.int .i64 7) (c1:=.int .i64 0) (c2:=.int .i64 0) bz3
  have hD:=Moved.done (v0:=.int .i64 7) (v1:=.int .i64 0) (v2:=.int .i64 0) HBX.out hM (b:=w.heap.size+1) (by omega) hlz hlt hla hlw
  obtain⟨w9,hw9⟩:∃w9,w9=(((w3.setCell ⟨w.heap.size+1,0,none⟩ (.int .i64 7)).setCell ⟨w.heap.size+1,1,none⟩ (.int .i64 0)).setCell ⟨w.heap.size+1,2,none⟩ (.int .i64 0)):=⟨_,rfl⟩
  rw[←hw9] at hX hD
  have HX:=hide (And.intro hX hD)
  have HW9:=hide hw9
  clear hM hX hD hw9 zf bz3
  go_wp2
  rw[←HW9.out]
  obtain⟨y0,y1,y2⟩:=cells3 HX.out.1
  exact bodyPost_ret (v:=(⟨7,0,0⟩:Ans).val) (by simp[results,Tryz.results124,go_sem,Ans.val,y0,y1,y2]) rfl ⟨rfl,HX.out.2⟩
set_option maxHeartbeats 2000000 in
set_option maxRecDepth 10000 in
theorem doCom_any (S:St) (o:OpD) (tb ab wb:Nat) (w:World) (h:TabAt w tb ab wb S.A) (hS:S.ok) (hc:o.code=4) :
  Calls Tryz.prog 139 #[.agg #[],.pointer (some ⟨tb,0,none⟩)] w fun e w'=>e=.returned (S.step o).2.val∧Moved w w' tb ab wb (S.step o).1.A:=by
 obtain⟨F,hI⟩:=hS.inv
 have hf:opFault o=0:=by unfold opFault;rw[if_neg (by omega),if_neg (by omega),if_neg (by omega),if_pos hc]
 have hst:S.step o=(⟨compactN S.A.word S.A.size,S.M⟩,⟨0,0,0⟩):=by
  unfold St.step
  rw[if_pos hf,if_neg (by omega),if_neg (by omega),if_neg (by omega)]
 rw[hst]
 have HIN:=hide (fun (w:World) (h:TabAt w tb ab wb S.A)=>(compact_any S.A S.M tb ab wb w h (hI.src hS.wok) ((hI.good hS.wok).sane (by omega))).mono (R':=fun e w'=>e=.returned (.tuple #[])∧Moved w w' tb ab wb (compactN S.A.word S.A.size)) (by rintro e w' ⟨he,⟨ab',wb',h1,h2,hT⟩,hF⟩;exact⟨he,⟨ab',wb',Or.inr ⟨h1,h2⟩,hT⟩,hF.mono (fun y hy _=>by simp at hy ⊢;exact Or.inl hy)⟩))
 have hlt:=h.lt
 have hla:=h.ar.la
 have hlw:=h.ar.lw
 obtain⟨wx,hwx⟩:∃wx,wx=(w.alloc (.cells #[] 111)).alloc (.cells #[.int .i64 0,.int .i64 0,.int .i64 0] 59):=⟨_,rfl⟩
 have hBx:Below w.heap.size w wx:=by rw[hwx];exact ext_trans (ext_alloc _ _) (ext_alloc _ _)
 have bz:wx.heap[w.heap.size+1]?=some (.cells #[.int .i64 0,.int .i64 0,.int .i64 0] 59 (0,0)):=by rw[hwx,←World.size_alloc w (.cells #[] 111)];exact heap_alloc_new _ _
 have hlz:=lt_of_block bz
 have HT:=hide (h.ext hBx)
 have HBX:=hide hBx
 have HBZ:=hide bz
 have HWX:=hide hwx
 clear h hI hS hf hc hst hwx hBx bz
 go_enter Tryz.func139,Tryz.ntmps139
 go_wp2_with fail
 rw[←HWX.out]
 refine(HIN.out _ HT.out).mono ?_
 rintro e w3 ⟨rfl,hM⟩
 have bz3:=hM.blk HBZ.out (by omega) (by omega) (by omega)
 have hl3:=lt_of_block bz3
 obtain⟨z0,z1,z2⟩:=cells3 bz3
 have zf:=fun i=>free_at bz3 i
 have zf0:=zf 0
 have zf1:=zf 1
 have zf2:=zf 2
 have hX:=store3 (c0:=.int .i64 0) (c1:=.int .i64 0) (c2:=.int .i64 0) bz3
 have hD:=Moved.done (v0:=.int .i64 0) (v1:=.int .i64 0) (v2:=.int .i64 0) HBX.out hM (b:=w.heap.size+1) (by omega) hlz hlt hla hlw
 obtain⟨w9,hw9⟩:∃w9,w9=(((w3.setCell ⟨w.heap.size+1,0,none⟩ (.int .i64 0)).setCell ⟨w.heap.size+1,1,none⟩ (.int .i64 0)).setCell ⟨w.heap.size+1,2,none⟩ (.int .i64 0)):=⟨_,rfl⟩
 rw[←hw9] at hX hD
 have HX:=hide (And.intro hX hD)
 have HW9:=hide hw9
 clear hM hX hD hw9 zf bz3
 go_wp2
 rw[←HW9.out]
 obtain⟨y0,y1,y2⟩:=cells3 HX.out.1
 exact bodyPost_ret (v:=(⟨0,0,0⟩:Ans).val) (by simp[results,Tryz.results139,go_sem,Ans.val,y0,y1,y2]) rfl ⟨rfl,HX.out.2⟩
set_option maxHeartbeats 2000000 in
set_option maxRecDepth 10000 in
theorem doLook_any (S:St) (o:OpD) (tb ab wb:Nat) (w:World) (h:TabAt w tb ab wb S.A) (hS:S.ok) (hc:o.code=3) (hf:opFault o=0) :
  Calls Tryz.prog 132 #[.agg #[.int .i64 o.family,.string o.bits],.pointer (some ⟨tb,0,none⟩)] w fun e w'=>e=.returned (S.step o).2.val∧Moved w w' tb ab wb (S.step o).1.A:=by
 obtain⟨F,hI⟩:=hS.inv
 obtain⟨hsz,hfm⟩:=fault_look hc hf
 have hst:S.step o=(S,lookAns S.A.word (fam o.family) o.key (hopN S.M (fam o.family) o.key)):=by
  unfold St.step
  rw[if_pos hf,if_neg (by omega),if_neg (by omega),if_pos hc]
 rw[hst]
 have h16:o.bits.size≤16:=by rw[hsz];rcases famBytes_cases o.family with h | h | h <;> omega
 have HLK:=hide (fun (w:World) (h:TabAt w tb ab wb S.A)=>lookup_any S.A F S.M tb ab wb o.family (fam o.family) o.bits o.key w h ((hI.good hS.wok).sane (by omega)) hI rfl h16 rfl)
 obtain⟨f,hfd⟩:∃f,f=o.family:=⟨_,rfl⟩
 obtain⟨s,hsd⟩:∃s,s=o.bits:=⟨_,rfl⟩
 have hhop:bestL (S.M (fam o.family)) o.key 129=hopN S.M (fam o.family) o.key:=rfl
 rw[hhop] at HLK
 obtain⟨W,hW⟩:∃W,W=S.A.word:=⟨_,rfl⟩
 obtain⟨q,hq⟩:∃q,q=fam o.family:=⟨_,rfl⟩
 obtain⟨ho,hho⟩:∃x,x=hopN S.M (fam o.family) o.key:=⟨_,rfl⟩
 obtain⟨K,hK⟩:∃K,K=o.key:=⟨_,rfl⟩
 rw[←hho,←hW,←hq,←hK] at HLK ⊢
 rw[←hfd,←hsd] at HLK ⊢
 obtain⟨A,hA⟩:∃A,A=S.A:=⟨_,rfl⟩
 rw[←hA] at h HLK ⊢
 have hlt:=h.lt
 have hla:=h.ar.la
 have hlw:=h.ar.lw
 obtain⟨wx,hwx⟩:∃wx,wx=(w.alloc (.cells #[.int .i64 f,.string s] 109)).alloc (.cells #[.int .i64 0,.int .i64 0,.int .i64 0] 59):=⟨_,rfl⟩
 have hBx:Below w.heap.size w wx:=by rw[hwx];exact ext_trans (ext_alloc _ _) (ext_alloc _ _)
 have bz:wx.heap[w.heap.size+1]?=some (.cells #[.int .i64 0,.int .i64 0,.int .i64 0] 59 (0,0)):=by rw[hwx,←World.size_alloc w (.cells #[.int .i64 f,.string s] 109)];exact heap_alloc_new _ _
 have hlz:=lt_of_block bz
 have HT:=hide (h.ext hBx)
 have HBX:=hide hBx
 have HBZ:=hide bz
 have HWX:=hide hwx
 clear h hI hS hf hc hst hfd hsd hwx hBx bz h16 hsz hfm hhop hW hq hho hK hA
 go_enter Tryz.func132,Tryz.ntmps132
 go_wp2_with fail
 rw[←HWX.out]
 refine(HLK.out _ HT.out).mono ?_
 rintro e w3 ⟨rfl,hb3⟩
 have hM:Moved wx w3 tb ab wb A:=Moved.same (HT.out.ext hb3) (fr_below hb3)
 have bz3:=block_ext HBZ.out hb3
 have hl3:=lt_of_block bz3
 obtain⟨z0,z1,z2⟩:=cells3 bz3
 have zf:=fun i=>free_at bz3 i
 have zf0:=zf 0
 have zf1:=zf 1
 have zf2:=zf 2
 clear hb3
 cases ho with
 | none =>
  simp only[lookVal]
  obtain⟨rd,hrd⟩:∃rd,rd=readsN W q K false:=⟨_,rfl⟩
  have HV:=hide (show (lookAns W q K none).val=(⟨7,0,(rd:Int)⟩:Ans).val by rw[hrd];rfl)
  rw[←hrd]
  have hX:=store3 (c0:=.int .i64 7) (c1:=.int .i64 0) (c2:=.int .i64 (rd:Int)) bz3
  have hD:=Moved.done (v0:=.int .i64 7) (v1:=.int .i64 0) (v2:=.int .i64 (rd:Int)) HBX.out hM (b:=w.heap.size+1) (by omega) hlz hlt hla hlw
  obtain⟨w9,hw9⟩:∃w9,w9=(((w3.setCell ⟨w.heap.size+1,0,none⟩ (.int .i64 7)).setCell ⟨w.heap.size+1,1,none⟩ (.int .i64 0)).setCell ⟨w.heap.size+1,2,none⟩ (.int .i64 (rd:Int))):=⟨_,rfl⟩
  rw[←hw9] at hX hD
  have HX:=hide (And.intro hX hD)
  have HW9:=hide hw9
  clear hM hX hD hw9 zf bz3 hrd
  go_wp2
  rw[←HW9.out]
  obtain⟨y0,y1,y2⟩:=cells3 HX.out.1
  exact bodyPost_ret (v:=(⟨7,0,(rd:Int)⟩:Ans).val) (by simp[results,Tryz.results132,go_sem,Ans.val,y0,y1,y2]) rfl ⟨by rw[HV.out],HX.out.2⟩
 | some hp =>
  simp only[lookVal]
  obtain⟨rd,hrd⟩:∃rd,rd=readsN W q K true:=⟨_,rfl⟩
  have HV:=hide (show (lookAns W q K (some hp)).val=(⟨0,(hp:Int),(rd:Int)⟩:Ans).val by rw[hrd];rfl)
  rw[←hrd]
  have hX:=store3 (c0:=.int .i64 0) (c1:=.int .i64 (hp:Int)) (c2:=.int .i64 (rd:Int)) bz3
  have hD:=Moved.done (v0:=.int .i64 0) (v1:=.int .i64 (hp:Int)) (v2:=.int .i64 (rd:Int)) HBX.out hM (b:=w.heap.size+1) (by omega) hlz hlt hla hlw
  obtain⟨w9,hw9⟩:∃w9,w9=(((w3.setCell ⟨w.heap.size+1,0,none⟩ (.int .i64 0)).setCell ⟨w.heap.size+1,1,none⟩ (.int .i64 (hp:Int))).setCell ⟨w.heap.size+1,2,none⟩ (.int .i64 (rd:Int))):=⟨_,rfl⟩
  rw[←hw9] at hX hD
  have HX:=hide (And.intro hX hD)
  have HW9:=hide hw9
  clear hM hX hD hw9 zf bz3 hrd
  go_wp2
  rw[←HW9.out]
  obtain⟨y0,y1,y2⟩:=cells3 HX.out.1
  exact bodyPost_ret (v:=(⟨0,(hp:Int),(rd:Int)⟩:Ans).val) (by simp[results,Tryz.results132,go_sem,Ans.val,y0,y1,y2]) rfl ⟨by rw[HV.out],HX.out.2⟩
end Go.Proofs.YtnapboelfimaaaaGreatDoor
