/- KeyW, TrE, LookB, Sho: parts of the proof, one behind the other. -/
import Derived.Test.YtnapboelfimaaaaGreatDoorB10
import Derived.Test.YtnapboelfimaaaaGreatDoorB13
import Derived.Deep.RegionHeld3
import Derived.Deep.MidRow
import Derived.Deep.DeepCutAuto
namespace Go.Proofs.YtnapboelfimaaaaGreatDoor
def withK (K d f:Nat):Nat:=K+f*2^(124-4*d)
theorem with_low {K d f j:Nat} (hd:d≤31) (hf:f<16) (hK:K%2^(128-4*d)=0) (hj:j≤d/2):kbyte (withK K d f) j=kbyte K j:=by
 obtain⟨q,hq⟩:=Nat.dvd_of_mod_eq_zero hK
 have e:8*(16-j)=(128-4*d)+(8*(16-j)-(128-4*d)):=by omega
 have hlt:f*2^(124-4*d)<2^(128-4*d):=by
  rw[show 128-4*d=(124-4*d)+4 by omega,Nat.pow_add]
  have:=Nat.two_pow_pos (124-4*d)
  rw[Nat.mul_comm]
  exact Nat.mul_lt_mul_of_pos_left (by omega) this
 unfold kbyte withK
 rw[e,Nat.pow_add,←Nat.div_div_eq_div_mul,←Nat.div_div_eq_div_mul,hq,Nat.mul_add_div (Nat.two_pow_pos _),Nat.div_eq_of_lt hlt,Nat.add_zero,Nat.mul_div_cancel_left _ (Nat.two_pow_pos _)]
theorem with_high {K d f j:Nat} (hd:d≤31) (hK:K%2^(128-4*d)=0) (hj:1+d/2<j) (hj2:j<17):kbyte (withK K d f) j=kbyte K j:=by
 obtain⟨q,hq⟩:=Nat.dvd_of_mod_eq_zero hK
 have e1:128-4*d=8*(16-j)+(8+(128-4*d-8*(16-j)-8)):=by omega
 have e2:124-4*d=8*(16-j)+(8+(124-4*d-8*(16-j)-8)):=by omega
 unfold kbyte withK
 rw[hq,e1,e2,Nat.pow_add,Nat.pow_add,Nat.pow_add,Nat.pow_add]
 generalize 2^(128-4*d-8*(16-j)-8)=x
 generalize 2^(124-4*d-8*(16-j)-8)=y
 have hp:=Nat.two_pow_pos (8*(16-j))
 generalize 2^(8*(16-j))=z at hp
 rw[show z*(2^8*x)*q+f*(z*(2^8*y))=z*(2^8*(x*q+f*y)) by simp only[Nat.mul_add,Nat.mul_assoc,Nat.mul_left_comm],show z*(2^8*x)*q=z*(2^8*(x*q)) by simp only[Nat.mul_assoc],Nat.mul_div_cancel_left _ hp,Nat.mul_div_cancel_left _ hp]
 omega
theorem with_even {K m f:Nat} (hd:2*m≤31) (hf:f<16) (hK:K%2^(128-4*(2*m))=0):kbyte K (1+m)=0∧kbyte (withK K (2*m) f) (1+m)=f*16:=by
 obtain⟨q,hq⟩:=Nat.dvd_of_mod_eq_zero hK
 have hp:=Nat.two_pow_pos (8*(16-(1+m)))
 unfold kbyte withK
 rw[hq,show 128-4*(2*m)=8*(16-(1+m))+8 by omega,show 124-4*(2*m)=8*(16-(1+m))+4 by omega,Nat.pow_add,Nat.pow_add]
 generalize 2^(8*(16-(1+m)))=z at hp
 rw[show z*2^8*q+f*(z*2^4)=z*(256*q+f*16) by simp only[Nat.mul_add,Nat.mul_assoc,Nat.mul_left_comm],show z*2^8*q=z*(256*q) by simp only[Nat.mul_assoc],Nat.mul_div_cancel_left _ hp,Nat.mul_div_cancel_left _ hp]
 omega
theorem with_odd {K m f:Nat} (hd:2*m+1≤31) (hf:f<16) (hK:K%2^(128-4*(2*m+1))=0):kbyte K (1+m)%16=0∧kbyte (withK K (2*m+1) f) (1+m)=kbyte K (1+m)+f:=by
 obtain⟨q,hq⟩:=Nat.dvd_of_mod_eq_zero hK
 have hp:=Nat.two_pow_pos (8*(16-(1+m)))
 unfold kbyte withK
 rw[hq,show 128-4*(2*m+1)=8*(16-(1+m))+4 by omega,show 124-4*(2*m+1)=8*(16-(1+m)) by omega,Nat.pow_add]
 generalize 2^(8*(16-(1+m)))=z at hp
 rw[show z*2^4*q+f*z=z*(16*q+f) by rw[Nat.mul_add,Nat.mul_assoc,Nat.mul_comm f z],show z*2^4*q=z*(16*q) by simp only[Nat.mul_assoc],Nat.mul_div_cancel_left _ hp,Nat.mul_div_cancel_left _ hp]
 omega
end Go.Proofs.YtnapboelfimaaaaGreatDoor
namespace Go.Proofs.YtnapboelfimaaaaGreatDoor
open Go.RowKit Go.Deep
theorem drew_ext (W:World):Below W.heap.size W W.drew:=Below.drew (Below.refl _ _)
def numK (K l:Nat):Nat:=2^((l-8)%4)-1+kfour K ((l-8)/4)/2^(4-(l-8)%4)
theorem pref_cells (K l:Nat) {w:World} {b:Nat} {t:TypeId} {fz:Nat × Nat} (h:w.heap[b]?=some (.cells #[.int .u8 (kbyte K 0:Int),.int .u8 (kbyte K 1:Int),.int .u8 (kbyte K 2:Int),.int .u8 (kbyte K 3:Int),.int .u8 (kbyte K 4:Int),.int .u8 (kbyte K 5:Int),.int .u8 (kbyte K 6:Int),.int .u8 (kbyte K 7:Int),.int .u8 (kbyte K 8:Int),.int .u8 (kbyte K 9:Int),.int .u8 (kbyte K 10:Int),.int .u8 (kbyte K 11:Int),.int .u8 (kbyte K 12:Int),.int .u8 (kbyte K 13:Int),.int .u8 (kbyte K 14:Int),.int .u8 (kbyte K 15:Int),.int .u8 (kbyte K 16:Int),.int .i64 (l:Int)] t fz)):w.cell? ⟨b,0,none⟩=some (.int .u8 (kbyte K 0:Int))∧w.cell? ⟨b,1,none⟩=some (.int .u8 (kbyte K 1:Int))∧w.cell? ⟨b,2,none⟩=some (.int .u8 (kbyte K 2:Int))∧w.cell? ⟨b,3,none⟩=some (.int .u8 (kbyte K 3:Int))∧w.cell? ⟨b,4,none⟩=some (.int .u8 (kbyte K 4:Int))∧w.cell? ⟨b,5,none⟩=some (.int .u8 (kbyte K 5:Int))∧w.cell? ⟨b,6,none⟩=some (.int .u8 (kbyte K 6:Int))∧w.cell? ⟨b,7,none⟩=some (.int .u8 (kbyte K 7:Int))∧w.cell? ⟨b,8,none⟩=some (.int .u8 (kbyte K 8:Int))∧w.cell? ⟨b,9,none⟩=some (.int .u8 (kbyte K 9:Int))∧w.cell? ⟨b,10,none⟩=some (.int .u8 (kbyte K 10:Int))∧w.cell? ⟨b,11,none⟩=some (.int .u8 (kbyte K 11:Int))∧w.cell? ⟨b,12,none⟩=some (.int .u8 (kbyte K 12:Int))∧w.cell? ⟨b,13,none⟩=some (.int .u8 (kbyte K 13:Int))∧w.cell? ⟨b,14,none⟩=some (.int .u8 (kbyte K 14:Int))∧w.cell? ⟨b,15,none⟩=some (.int .u8 (kbyte K 15:Int))∧w.cell? ⟨b,16,none⟩=some (.int .u8 (kbyte K 16:Int))∧w.cell? ⟨b,17,none⟩=some (.int .i64 (l:Int)):=by
 simp[World.cell?,h]
theorem sizeKey:(Tryz.prog.info? 126).map (·.size)=some 17:=by kernel_rfl
theorem range_key (K l:Nat) {w:World} {b:Nat} {t:TypeId} {fz:Nat × Nat} (h:w.heap[b]?=some (.cells #[.int .u8 (kbyte K 0:Int),.int .u8 (kbyte K 1:Int),.int .u8 (kbyte K 2:Int),.int .u8 (kbyte K 3:Int),.int .u8 (kbyte K 4:Int),.int .u8 (kbyte K 5:Int),.int .u8 (kbyte K 6:Int),.int .u8 (kbyte K 7:Int),.int .u8 (kbyte K 8:Int),.int .u8 (kbyte K 9:Int),.int .u8 (kbyte K 10:Int),.int .u8 (kbyte K 11:Int),.int .u8 (kbyte K 12:Int),.int .u8 (kbyte K 13:Int),.int .u8 (kbyte K 14:Int),.int .u8 (kbyte K 15:Int),.int .u8 (kbyte K 16:Int),.int .i64 (l:Int)] t fz)):w.rangeAt b 0 (keyL K):=fun j v hj=>by
 have hlt:j<(keyL K).length:=(List.getElem?_eq_some_iff.1 hj).1
 have e:(#[.int .u8 (kbyte K 0:Int),.int .u8 (kbyte K 1:Int),.int .u8 (kbyte K 2:Int),.int .u8 (kbyte K 3:Int),.int .u8 (kbyte K 4:Int),.int .u8 (kbyte K 5:Int),.int .u8 (kbyte K 6:Int),.int .u8 (kbyte K 7:Int),.int .u8 (kbyte K 8:Int),.int .u8 (kbyte K 9:Int),.int .u8 (kbyte K 10:Int),.int .u8 (kbyte K 11:Int),.int .u8 (kbyte K 12:Int),.int .u8 (kbyte K 13:Int),.int .u8 (kbyte K 14:Int),.int .u8 (kbyte K 15:Int),.int .u8 (kbyte K 16:Int),.int .i64 (l:Int)]:Array Value)=(prefL K l).toArray:=rfl
 rw[e] at h
 rw[cell_at h,List.getElem?_toArray,Nat.zero_add]
 unfold prefL
 rw[List.getElem?_append_left hlt]
 exact hj
theorem depth_x (K l:Nat) (w:World) (hl:l≤128) (h8:8≤l):Calls Tryz.prog 106 #[.agg #[.int .u8 (kbyte K 0:Int),.int .u8 (kbyte K 1:Int),.int .u8 (kbyte K 2:Int),.int .u8 (kbyte K 3:Int),.int .u8 (kbyte K 4:Int),.int .u8 (kbyte K 5:Int),.int .u8 (kbyte K 6:Int),.int .u8 (kbyte K 7:Int),.int .u8 (kbyte K 8:Int),.int .u8 (kbyte K 9:Int),.int .u8 (kbyte K 10:Int),.int .u8 (kbyte K 11:Int),.int .u8 (kbyte K 12:Int),.int .u8 (kbyte K 13:Int),.int .u8 (kbyte K 14:Int),.int .u8 (kbyte K 15:Int),.int .u8 (kbyte K 16:Int),.int .i64 (l:Int)]] w fun e w'=>e=.returned (.int .i64 (((l-8)/4:Nat):Int))∧Below w.heap.size w w':=depth_any K l w hl h8
theorem numberOf_x (further value:Nat) (x y:Int) (w:World) (hx:x=further) (hy:y=value) (h:further≤3) (hv:value≤15):Calls Tryz.prog 68 #[.int .i64 x,.int .i64 y] w fun e w'=>e=.returned (.int .i64 ((2^further-1+value:Nat):Int))∧w'=w:=by
 subst hx hy
 exact numberOf_any further value w h hv
set_option maxHeartbeats 1000000 in
set_option maxRecDepth 10000 in
theorem number_x (K l:Nat) (w:World) (hl:l≤128) (h8:8≤l):Calls Tryz.prog 109 #[.agg #[.int .u8 (kbyte K 0:Int),.int .u8 (kbyte K 1:Int),.int .u8 (kbyte K 2:Int),.int .u8 (kbyte K 3:Int),.int .u8 (kbyte K 4:Int),.int .u8 (kbyte K 5:Int),.int .u8 (kbyte K 6:Int),.int .u8 (kbyte K 7:Int),.int .u8 (kbyte K 8:Int),.int .u8 (kbyte K 9:Int),.int .u8 (kbyte K 10:Int),.int .u8 (kbyte K 11:Int),.int .u8 (kbyte K 12:Int),.int .u8 (kbyte K 13:Int),.int .u8 (kbyte K 14:Int),.int .u8 (kbyte K 15:Int),.int .u8 (kbyte K 16:Int),.int .i64 (l:Int)]] w fun e w'=>e=.returned (.int .i64 (numK K l:Nat))∧Below w.heap.size w w':=by
 have hl':(l:Int)≤128:=by omega
 have h8':(8:Int)≤l:=by omega
 have HW0:=heap_alloc_new w (.cells #[.int .u8 (kbyte K 0:Int),.int .u8 (kbyte K 1:Int),.int .u8 (kbyte K 2:Int),.int .u8 (kbyte K 3:Int),.int .u8 (kbyte K 4:Int),.int .u8 (kbyte K 5:Int),.int .u8 (kbyte K 6:Int),.int .u8 (kbyte K 7:Int),.int .u8 (kbyte K 8:Int),.int .u8 (kbyte K 9:Int),.int .u8 (kbyte K 10:Int),.int .u8 (kbyte K 11:Int),.int .u8 (kbyte K 12:Int),.int .u8 (kbyte K 13:Int),.int .u8 (kbyte K 14:Int),.int .u8 (kbyte K 15:Int),.int .u8 (kbyte K 16:Int),.int .i64 (l:Int)] 128)
 obtain⟨wx,hwx⟩:∃wx,wx=w.alloc (.cells #[.int .u8 (kbyte K 0:Int),.int .u8 (kbyte K 1:Int),.int .u8 (kbyte K 2:Int),.int .u8 (kbyte K 3:Int),.int .u8 (kbyte K 4:Int),.int .u8 (kbyte K 5:Int),.int .u8 (kbyte K 6:Int),.int .u8 (kbyte K 7:Int),.int .u8 (kbyte K 8:Int),.int .u8 (kbyte K 9:Int),.int .u8 (kbyte K 10:Int),.int .u8 (kbyte K 11:Int),.int .u8 (kbyte K 12:Int),.int .u8 (kbyte K 13:Int),.int .u8 (kbyte K 14:Int),.int .u8 (kbyte K 15:Int),.int .u8 (kbyte K 16:Int),.int .i64 (l:Int)] 128):=⟨_,rfl⟩
 rw[←hwx] at HW0
 have hsx:wx.heap.size=w.heap.size+1:=by rw[hwx];simp
 have HBX:=hide (show Below w.heap.size w wx by rw[hwx];exact ext_alloc _ _)
 have HW:=hide hwx
 have f16:=kfour_lt K ((l-8)/4)
 have q16:kfour K ((l-8)/4)/2^(4-(l-8)%4)≤15:=Nat.le_trans (Nat.div_le_self _ _) (by omega)
 obtain⟨fu,hfu⟩:∃fu,fu=(l-8)%4:=⟨_,rfl⟩
 obtain⟨r4,hr4⟩:∃r4,r4=4-fu:=⟨_,rfl⟩
 have e1:((l:Int)-8)%4=(fu:Int):=by omega
 have e2:IntKind.i64.wrap (4-(fu:Int))=(r4:Int):=by rw[IntKind.wrap_i64];omega
 have hr5:(r4:Int)≤4:=by omega
 rw[←hfu,←hr4] at q16
 have HN:=hide (show numK K l=2^fu-1+kfour K ((l-8)/4)/2^r4 by unfold numK;rw[←hfu,←hr4])
 have hfu3:fu≤3:=by omega
 have HD:=hide (show ((kfour K ((l-8)/4):Nat):Int)/2^r4=((kfour K ((l-8)/4)/2^r4:Nat):Int) by rw[Int.natCast_ediv];norm_cast)
 clear hwx hfu hr4
 go_enter Tryz.func109,Tryz.ntmps109
 go_wp2_with fail
 rw[←HW.out]
 have KS:∀w',Below wx.heap.size wx w'→(fun w':World=>Below wx.heap.size wx w'∧w'.rangeAt w.heap.size 0 (keyL K)∧w'.cell? ⟨w.heap.size,0,none⟩=some (.int .u8 (kbyte K 0:Int))∧w'.cell? ⟨w.heap.size,1,none⟩=some (.int .u8 (kbyte K 1:Int))∧w'.cell? ⟨w.heap.size,2,none⟩=some (.int .u8 (kbyte K 2:Int))∧w'.cell? ⟨w.heap.size,3,none⟩=some (.int .u8 (kbyte K 3:Int))∧w'.cell? ⟨w.heap.size,4,none⟩=some (.int .u8 (kbyte K 4:Int))∧w'.cell? ⟨w.heap.size,5,none⟩=some (.int .u8 (kbyte K 5:Int))∧w'.cell? ⟨w.heap.size,6,none⟩=some (.int .u8 (kbyte K 6:Int))∧w'.cell? ⟨w.heap.size,7,none⟩=some (.int .u8 (kbyte K 7:Int))∧w'.cell? ⟨w.heap.size,8,none⟩=some (.int .u8 (kbyte K 8:Int))∧w'.cell? ⟨w.heap.size,9,none⟩=some (.int .u8 (kbyte K 9:Int))∧w'.cell? ⟨w.heap.size,10,none⟩=some (.int .u8 (kbyte K 10:Int))∧w'.cell? ⟨w.heap.size,11,none⟩=some (.int .u8 (kbyte K 11:Int))∧w'.cell? ⟨w.heap.size,12,none⟩=some (.int .u8 (kbyte K 12:Int))∧w'.cell? ⟨w.heap.size,13,none⟩=some (.int .u8 (kbyte K 13:Int))∧w'.cell? ⟨w.heap.size,14,none⟩=some (.int .u8 (kbyte K 14:Int))∧w'.cell? ⟨w.heap.size,15,none⟩=some (.int .u8 (kbyte K 15:Int))∧w'.cell? ⟨w.heap.size,16,none⟩=some (.int .u8 (kbyte K 16:Int))∧w'.cell? ⟨w.heap.size,17,none⟩=some (.int .i64 (l:Int))) w':=fun w' hb=>⟨hb,range_key K l (block_ext HW0 hb),pref_cells K l (block_ext HW0 hb)⟩
 have hu:=Tryz.underlying126
 have hi:(Tryz.prog.info? 126).map (·.size)=some (keyL K).length:=by rw[sizeKey];simp[keyL]
 go_region_held3 (fun w':World=>Below wx.heap.size wx w'∧w'.rangeAt w.heap.size 0 (keyL K)∧w'.cell? ⟨w.heap.size,0,none⟩=some (.int .u8 (kbyte K 0:Int))∧w'.cell? ⟨w.heap.size,1,none⟩=some (.int .u8 (kbyte K 1:Int))∧w'.cell? ⟨w.heap.size,2,none⟩=some (.int .u8 (kbyte K 2:Int))∧w'.cell? ⟨w.heap.size,3,none⟩=some (.int .u8 (kbyte K 3:Int))∧w'.cell? ⟨w.heap.size,4,none⟩=some (.int .u8 (kbyte K 4:Int))∧w'.cell? ⟨w.heap.size,5,none⟩=some (.int .u8 (kbyte K 5:Int))∧w'.cell? ⟨w.heap.size,6,none⟩=some (.int .u8 (kbyte K 6:Int))∧w'.cell? ⟨w.heap.size,7,none⟩=some (.int .u8 (kbyte K 7:Int))∧w'.cell? ⟨w.heap.size,8,none⟩=some (.int .u8 (kbyte K 8:Int))∧w'.cell? ⟨w.heap.size,9,none⟩=some (.int .u8 (kbyte K 9:Int))∧w'.cell? ⟨w.heap.size,10,none⟩=some (.int .u8 (kbyte K 10:Int))∧w'.cell? ⟨w.heap.size,11,none⟩=some (.int .u8 (kbyte K 11:Int))∧w'.cell? ⟨w.heap.size,12,none⟩=some (.int .u8 (kbyte K 12:Int))∧w'.cell? ⟨w.heap.size,13,none⟩=some (.int .u8 (kbyte K 13:Int))∧w'.cell? ⟨w.heap.size,14,none⟩=some (.int .u8 (kbyte K 14:Int))∧w'.cell? ⟨w.heap.size,15,none⟩=some (.int .u8 (kbyte K 15:Int))∧w'.cell? ⟨w.heap.size,16,none⟩=some (.int .u8 (kbyte K 16:Int))∧w'.cell? ⟨w.heap.size,17,none⟩=some (.int .i64 (l:Int))) (first | (assumption) | (exact KS _ (drew_ext wx)) | (exact KS _ (ext_trans (And.left (by assumption)) (by assumption)))) (first | (go_at_call 106;refine(depth_x K l _ hl h8).mono ?_;rintro e w5 ⟨rfl,hb5⟩) | (go_at_call 115;refine(four_any K ((l-8)/4) _ _ (by omega) (by omega)).mono ?_;rintro e w6 ⟨rfl,hb6⟩) | (go_at_call 68;refine(numberOf_x fu (kfour K ((l-8)/4)/2^r4) _ _ _ rfl HD.out hfu3 q16).mono ?_;rintro e w7 ⟨rfl,rfl⟩))
 have HX:=hide (show Below w.heap.size w _ from ext_trans HBX.out (And.left (by assumption)))
 clear KS HW0 HBX hu hi
 go_wp2
 go_ret
 exact⟨retI (by rw[HN.out,Int.natCast_add,←HD.out]),HX.out⟩
end Go.Proofs.YtnapboelfimaaaaGreatDoor
namespace Go.Proofs.YtnapboelfimaaaaGreatDoor
open Go.RowKit Go.Deep
set_option maxHeartbeats 400000 in
set_option maxRecDepth 10000 in
theorem flongest_any (nd sh:Nat) (w:World) (h:sh<256):Calls Tryz.prog 134 #[.agg #[.int .i64 nd,.int .u8 sh]] w fun e w'=>e=.returned (.int .i64 ((Lib.bitLen sh:Int)-1))∧Below w.heap.size w w':=by
 have hb:Lib.bitLen sh≤8:=Lib.bitLen_le _ 8 (by omega) (by omega)
 go_enter Tryz.func134,Tryz.ntmps134
 go_wp2_with (go_at_call 137;refine(len8_any sh _ h).mono ?_;rintro e w' ⟨rfl,rfl⟩)
 go_ret
 exact⟨rfl,ext_alloc _ _⟩
theorem bit8_of (x k:Nat) (hx:x<256):(bits BinOp.and IntKind.u8 ((x:Int)/2^k) 1==1)=x.testBit k:=by
 have e1:((x:Int)/2^k)=((x/2^k:Nat):Int):=by rw[Int.natCast_ediv];norm_cast
 have h2:x/2^k<256:=Nat.lt_of_le_of_lt (Nat.div_le_self _ _) hx
 have e:=u8_and_nat (x/2^k) 1 h2 (by omega)
 rw[e1,show (1:Int)=((1:Nat):Int) from rfl,e,nat_mask1,Nat.testBit_eq_decide_div_mod_eq,Bool.eq_iff_iff]
 simp only[beq_iff_eq,decide_eq_true_eq]
 omega
set_option maxHeartbeats 400000 in
set_option maxRecDepth 10000 in
theorem hasShort_any (nd sh l:Nat) (w:World) (h:sh<256) (hl:l<8):Calls Tryz.prog 58 #[.agg #[.int .i64 nd,.int .u8 sh],.int .i64 l] w fun e w'=>e=.returned (.bool (sh.testBit l))∧Below w.heap.size w w':=by
 have HB:=hide (bit8_of sh l h)
 go_enter Tryz.func58,Tryz.ntmps58
 go_wp2
 go_ret
 exact⟨retB HB.out,ext_alloc _ _⟩
set_option maxHeartbeats 400000 in
set_option maxRecDepth 10000 in
theorem shortPlace_any (f x:Int) (q:Bool) (l b:Nat) (w:World) (hq:q=decide (f=6)) (hx:x=l) (hl:l<8) (hb:b<256):Calls Tryz.prog 60 #[.int .i64 f,.int .i64 x,.int .u8 b] w fun e w'=>e=.returned (.int .i64 ((rt q+256+2^l+b/2^(8-l):Nat):Int))∧∃n,w'=w.drewN n:=by
 subst hx
 have HQ:=hide hq
 clear hq
 have hr:=rt_le q
 obtain⟨p1,p2⟩:=two_pow_le (show l≤7 by omega)
 rw[show (2:Int)^7=128 from rfl] at p2
 obtain⟨r8,hr8⟩:∃r8,r8=8-l:=⟨_,rfl⟩
 have e2:(8:Int)-l=(r8:Int):=by omega
 have hbd:b/2^r8≤255:=Nat.le_trans (Nat.div_le_self _ _) (by omega)
 have HD:=hide (show ((b:Nat):Int)/2^r8=((b/2^r8:Nat):Int) by rw[Int.natCast_ediv];norm_cast)
 have HP:=hide (show (2:Int)^l=((2^l:Nat):Int) by norm_cast)
 rw[←hr8]
 have hr9:r8≤8:=by omega
 clear hr8
 go_enter Tryz.func60,Tryz.ntmps60
 have W1:IntKind.i64.wrap ((rt q:Int)+256)=((rt q+256:Nat):Int):=by rw[IntKind.wrap_i64];omega
 have W3:IntKind.i64.wrap (8-(l:Int))=(r8:Int):=by rw[IntKind.wrap_i64];omega
 go_wp2
 go_quiet ((go_at_call 57;exact Calls.quiet_of_same (base_any f q _ HQ.out)))
 go_wp2
 go_ret
 have h2:2^l≤2^7:=Nat.pow_le_pow_right (by decide) (by omega)
 refine⟨retI ?_,nq,rfl⟩
 show wrap64 ((rt q:Int)+256+2^l+(b:Int)/2^r8)=_
 rw[HD.out,HP.out]
 generalize b/2^r8=y at hbd
 generalize (2^l:Nat)=z at h2
 rw[IntWalk.wrap64_in _ ⟨by omega,by omega⟩]
 omega
set_option maxHeartbeats 400000 in
theorem count_any (ab rb:Nat) (k:Int) (w:World) (hr:w.heap[rb]?=some (.cells #[.pointer (some ⟨ab,0,none⟩),.int .i64 k] 93 (0,0))):Calls Tryz.prog 136 #[.pointer (some ⟨rb,0,none⟩)] w fun e w'=>e=.returned (.int .i64 k)∧w'=w:=by
 have c1:=cell_two1 hr
 go_enter Tryz.func136,Tryz.ntmps136
 go_wp2
 go_ret
 exact⟨rfl,rfl⟩
set_option maxHeartbeats 400000 in
theorem asize_any (A:Ar) (ab wb:Nat) (w:World) (h:ArAt w ab wb A):Calls Tryz.prog 100 #[.pointer (some ⟨ab,0,none⟩)] w fun e w'=>e=.returned (.int .i64 (A.size:Nat))∧w'=w:=by
 have c1:=h.slice
 go_enter Tryz.func100,Tryz.ntmps100
 go_wp2
 go_ret
 exact⟨rfl,rfl⟩
end Go.Proofs.YtnapboelfimaaaaGreatDoor
namespace Go.Proofs.YtnapboelfimaaaaGreatDoor
open Go.RowKit Go.Deep
def markPart (W:Nat→Nat) (s k l:Nat) (there:Bool):Nat→Nat:=fun a=>if s≤a∧a<s+k then W a%65536+65536*(if there then W a/65536 ||| 2^l else clr (W a/65536) l) else W a
theorem andNot_clr (x l:Nat) (hx:x<256) (hl:l<8):bits BinOp.andNot IntKind.u8 (x:Int) ((2:Int)^l)=((clr x l:Nat):Int):=by
 have hp:2^l≤2^7:=Nat.pow_le_pow_right (by decide) (by omega)
 have h1:=u8_andNot_nat x (2^l) hx (by omega)
 rw[show (2:Int)^l=((2^l:Nat):Int) by norm_cast,h1]
 congr 1
 apply Nat.eq_of_testBit_eq
 intro i
 rw[Nat.testBit_and]
 by_cases hi:i=l
 ·subst hi
  rw[clr_bit,show 255-2^i=2^8-(2^i+1) by omega,Nat.testBit_two_pow_sub_succ (by omega),Nat.testBit_two_pow_self]
  simp
 ·rw[clr_bits _ _ _ hi,show 255-2^l=2^8-(2^l+1) by omega,Nat.testBit_two_pow_sub_succ (by omega),Nat.testBit_two_pow]
  by_cases h8:i<8
  ·simp[h8,Ne.symm hi]
  ·have:x.testBit i=false:=Nat.testBit_lt_two_pow (Nat.lt_of_lt_of_le hx (Nat.pow_le_pow_right (n:=2) (by decide) (show 8≤i by omega)))
   simp[this]
theorem or_set (x l:Nat) (hx:x<256) (hl:l<8):bits BinOp.or IntKind.u8 ((clr x l:Nat):Int) ((2:Int)^l)=((x ||| 2^l:Nat):Int):=by
 have hp:2^l≤2^7:=Nat.pow_le_pow_right (by decide) (by omega)
 have hc:clr x l<256:=clr_lt (n:=8) hx hl
 have h1:=u8_or_nat (clr x l) (2^l) hc (by omega)
 rw[show (2:Int)^l=((2^l:Nat):Int) by norm_cast,h1]
 congr 1
 apply Nat.eq_of_testBit_eq
 intro i
 rw[Nat.testBit_or,Nat.testBit_or]
 by_cases hi:i=l
 ·subst hi;simp
 ·rw[clr_bits _ _ _ hi]
theorem or_zero (x l:Nat) (hx:x<256) (hl:l<8):bits BinOp.or IntKind.u8 ((clr x l:Nat):Int) 0=((clr x l:Nat):Int):=by
 have hc:clr x l<256:=clr_lt (n:=8) hx hl
 have h1:=u8_or_nat (clr x l) 0 hc (by omega)
 rw[Nat.or_zero] at h1
 exact h1
theorem pref_at (K l:Nat) {w:World} {b:Nat} {t:TypeId} {fz:Nat × Nat} (h:w.heap[b]?=some (.cells (prefL K l).toArray t fz)) (i:Nat) (hi:i<17):w.cell? ⟨b,i,none⟩=some (.int .u8 (kbyte K i:Int)):=by
 rw[cell_at h,List.getElem?_toArray]
 unfold prefL
 rw[List.getElem?_append_left (by simp[keyL];omega)]
 exact keyL_get K i hi
theorem markPart_word {A:Ar} {s k l a:Nat} {there:Bool} (h:s+k≤a):markPart A.word s k l there a=A.word a:=by
 unfold markPart
 rw[if_neg (by omega)]
theorem markPart_next (W:Nat→Nat) (r kb k l:Nat):setW (markPart W (r+kb) k l true) (r+(kb+k)) (W (r+(kb+k))%65536+65536*(W (r+(kb+k))/65536 ||| 2^l))=markPart W (r+kb) (k+1) l true:=by
 funext a
 by_cases e:a=r+(kb+k)
 ·subst e
  rw[setW_same]
  unfold markPart
  rw[if_pos (by omega)]
  rfl
 ·rw[setW_ne e]
  unfold markPart
  by_cases h:r+kb≤a∧a<r+kb+k
  ·rw[if_pos h,if_pos (show r+kb≤a∧a<r+kb+(k+1) by omega)]
  ·rw[if_neg h,if_neg (show ¬(r+kb≤a∧a<r+kb+(k+1)) by omega)]
set_option maxHeartbeats 1000000 in
set_option maxRecDepth 10000 in
theorem markShort_one (A:Ar) (tb ab wb:Nat) (f:Int) (q:Bool) (K l kb n8:Nat) (w:World) (h:TabAt w tb ab wb A) (hs:Sane A) (hq:q=decide (f=6)) (hsz:2048≤A.size) (hsh:∀b,b<256→A.word (rt q+b)/65536<256) (hl:l<8) (hkb:kbyte K 0=kb) (hn8:n8*2^l=256) (hfit:kb+n8≤256) :
  Calls Tryz.prog 103 #[.pointer (some ⟨tb,0,none⟩),.int .i64 f,.agg (prefL K l).toArray,.int .u8 1] w fun e w'=>e=.returned (.tuple #[])∧TabAt w' tb ab wb { A with word:=markPart A.word (rt q+kb) n8 l true }∧Fr [wb] w w':=by
 have HQ:=hide hq
 have hr:=rt_le q
 have e1:(256:Int)/2^l=(n8:Int):=by
  have h2:256/2^l=n8:=by rw[←hn8];exact Nat.mul_div_cancel _ (Nat.two_pow_pos l)
  rw[←h2,Int.natCast_ediv]
  norm_cast
 obtain⟨wx,hwx⟩:∃wx,wx=w.alloc (.cells (prefL K l).toArray 128):=⟨_,rfl⟩
 have hp0:wx.heap[w.heap.size]?=some (.cells (prefL K l).toArray 128 (0,0)):=by rw[hwx];exact heap_alloc_new _ _
 have HTX:=hide (show TabAt wx tb ab wb A by rw[hwx];exact h.ext (ext_alloc _ _))
 have hsx:wx.heap.size=w.heap.size+1:=by rw[hwx];simp
 have HWX:=hide hwx
 have HFX:=hide (show Fr [wb] w wx by rw[hwx];exact(Fr.refl _ _).alloc _)
 have hlt:=h.lt
 have hlw:=h.ar.lw
 have hla:=h.ar.la
 have c17:=pref_len K l w 128
 have hl7:(l:Int)≤7:=by omega
 have HP0:=hide hp0
 clear hq hwx h hp0
 go_enter Tryz.func103,Tryz.ntmps103
 go_wp2_with fail
 rw[←HWX.out]
 clear c17
 go_loopw [14] (fun i wr=>∃k:Nat,k≤n8∧i=.int .i64 k∧TabAt wr tb ab wb { A with word:=markPart A.word (rt q+kb) k l true }∧Fr [wb] wx wr) (fun i _=>n8-(intOf i).toNat)
 case atStart =>
  refine⟨0,by omega,rfl,?_,Fr.refl _ _⟩
  have e:markPart A.word (rt q+kb) 0 l true=A.word:=by
   funext a
   unfold markPart
   rw[if_neg (by omega)]
  rw[e];exact HTX.out
 case round =>
  obtain⟨k,hk,rfl,hT,hF⟩:=hrel
  by_cases hkn:k<n8
  ·have hpb:=hF.at HP0.out (show w.heap.size ∉ [wb] by simp;omega)
   have d0:=pref_at K l hpb 0 (by omega)
   have d17:wr.cell? ⟨w.heap.size,17,none⟩=some (.int .i64 (l:Int)):=by
    rw[cell_at hpb,List.getElem?_toArray]
    unfold prefL
    rw[List.getElem?_append_right (by simp[keyL])]
    simp[keyL]
   rw[hkb] at d0
   have hkn':(k:Int)<n8:=by omega
   have hn256:(n8:Int)≤256:=by omega
   have hw1:w.heap.size<wr.heap.size:=lt_of_block hpb
   have hsane:Sane { A with word:=markPart A.word (rt q+kb) k l true }:=by
    refine⟨hs.size,hs.top,hs.given,?_,hs.free1,hs.free2⟩
    intro a
    show markPart A.word (rt q+kb) k l true a<4294967296
    unfold markPart
    split
    ·rename_i hin
     have h1:=hsh (a-rt q) (by omega)
     rw[show rt q+(a-rt q)=a by omega] at h1
     have h2:=or_lt (n:=8) (k:=l) h1 hl
     simp only[if_true]
     omega
    ·exact hs.word a
   have hword:markPart A.word (rt q+kb) k l true (rt q+(kb+k))=A.word (rt q+(kb+k)):=markPart_word (A:=A) (by omega)
   have hsh2:=hsh (kb+k) (by omega)
   obtain⟨nd,hnd⟩:∃nd,nd=A.word (rt q+(kb+k))%65536:=⟨_,rfl⟩
   obtain⟨sh,hshd⟩:∃sh,sh=A.word (rt q+(kb+k))/65536:=⟨_,rfl⟩
   have hnd2:nd<65536:=by omega
   have hsh3:sh<256:=by omega
   have HND:=hide hnd
   have HSH:=hide hshd
   have HFI:=hide (first_any { A with word:=markPart A.word (rt q+kb) k l true } tb ab wb f q (kb+k) wr hT hsane HQ.out (by omega) hsz (by show markPart A.word (rt q+kb) k l true _/65536<256;rw[hword];exact hsh2))
   have HT:=hide hT
   have HF:=hide hF
   have O1:=hide (andNot_clr sh l hsh3 hl)
   have O2:=hide (or_set sh l hsh3 hl)
   have HSA:=hide hsane
   have HWD:=hide hword
   clear hword hsane hT hF hnd hshd hpb
   go_wp2_with fail
   have hfi:=HFI.out
   rw[Int.natCast_add] at hfi
   refine hfi.mono ?_
   clear hfi
   rintro e w1 ⟨rfl,hb1⟩
   have E1:(({ A with word:=markPart A.word (rt q+kb) k l true }:Ar).word (rt q+(kb+k))%65536:Nat)=nd:=by show markPart A.word (rt q+kb) k l true _%65536=nd;rw[HWD.out,HND.out]
   have E2:(({ A with word:=markPart A.word (rt q+kb) k l true }:Ar).word (rt q+(kb+k))/65536:Nat)=sh:=by show markPart A.word (rt q+kb) k l true _/65536=sh;rw[HWD.out,HSH.out]
   rw[E1,E2]
   clear E1 E2
   have hT1:=HT.out.ext hb1
   have t0:=hT1.cell
   have hw2:w.heap.size<w1.heap.size:=Nat.lt_of_lt_of_le hw1 hb1.size
   have d17':w1.cell? ⟨w.heap.size,17,none⟩=some (.int .i64 (l:Int)):=by rw[hb1.cell (p:=⟨w.heap.size,17,none⟩) hw1];exact d17
   have HT1:=hide hT1
   have HB1:=hide hb1
   have hlt1:=hT1.lt
   clear hT1 hb1 d17
   go_wp2_with fail
   go_region
   have hp7:(2:Int)^l%256=(2:Int)^l:=by
    obtain⟨p1,p2⟩:=two_pow_le (show l≤7 by omega)
    rw[show (2:Int)^7=128 from rfl] at p2
    omega
   have EQ:=hide (show bits BinOp.or IntKind.u8 (bits BinOp.andNot IntKind.u8 (sh:Int) ((2:Int)^l%256)) ((2:Int)^l%256)=((sh ||| 2^l:Nat):Int) by rw[hp7,O1.out,O2.out])
   have hor:=or_lt (n:=8) (k:=l) (show sh<2^8 from hsh3) hl
   clear hp7
   go_wp2_with fail
   go_region_with (go_at_call 118;rw[EQ.out];refine(writeFirst_any { A with word:=markPart A.word (rt q+kb) k l true } ab wb _ (rt q+(kb+k)) nd (sh ||| 2^l) _ (HT1.out.ar.alloc _).drew.drew hnd2 hor (by omega) (by show rt q+(kb+k)<A.size;omega)).mono ?_;rintro e w3 ⟨rfl,hA3,hF3⟩)
   all_goals
    have e3:setW (markPart A.word (rt q+kb) k l true) (rt q+(kb+k)) (nd+65536*(sh ||| 2^l))=markPart A.word (rt q+kb) (k+1) l true:=by
     rw[HND.out,HSH.out]
     exact markPart_next _ _ _ _ _
    have hX:TabAt w3 tb ab wb { A with word:=markPart A.word (rt q+kb) (k+1) l true }:=by
     have:=(HT1.out.ext (Below.drew (Below.drew (ext_alloc _ _)))).of hF3 (by have:=HT1.out.nw;simpa using this) hA3
     rw[e3] at this
     exact this
    have HX:=hide (And.intro hX (Fr.after (Fr.drew (Fr.drew (Fr.alloc (HF.out.trans (Fr.of_below HB1.out)) _))) hF3 (fun y hy=>Or.inl hy)))
    clear hX hF3 hA3 e3
    go_wp2
    go_roundw
    case rel=>exact⟨k+1,by omega,by go_num,HX.out.1,HX.out.2⟩
    case measure=>simp[intOf];omega
  ·have hk':k=n8:=by omega
   subst hk'
   go_wp2
   go_end0
   exact⟨rfl,hT,HFX.out.trans hF⟩
end Go.Proofs.YtnapboelfimaaaaGreatDoor
