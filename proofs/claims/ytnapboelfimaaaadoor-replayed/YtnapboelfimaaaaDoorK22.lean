/- Dea, Wri, ByC: parts of the proof, one behind the other. -/
import Derived.Test.YtnapboelfimaaaaDoorK10
import Derived.Test.YtnapboelfimaaaaDoorK16
import Derived.Test.YtnapboelfimaaaaDoorK19
import Derived.Test.YtnapboelfimaaaaDoorK20
import Derived.Test.YtnapboelfimaaaaDoorK21
import Derived.Deep.DeepCutAuto
import Derived.Deep.RegionHeld3
/- Helpers of the walks with regions that draw. -/
namespace Go.Proofs.YtnapboelfimaaaaDoor
open Go.RowKit Go.Deep
theorem range_pref (K l : Nat) {w : World} {b : Nat} {t : TypeId} {fz : Nat × Nat} (h : w.heap[b]? = some (.cells (prefL K l).toArray t fz)) : w.rangeAt b 0 (keyL K) := fun j v hj => by
  have hlt : j < (keyL K).length := (List.getElem?_eq_some_iff.1 hj).1
  rw [cell_at h, List.getElem?_toArray, Nat.zero_add]
  unfold prefL
  rw [List.getElem?_append_left hlt]
  exact hj
theorem range_whole (K l : Nat) {w : World} {b : Nat} {t : TypeId} {fz : Nat × Nat} (h : w.heap[b]? = some (.cells (prefL K l).toArray t fz)) : w.rangeAt b 0 (prefL K l) := fun j v hj => by
  rw [cell_at h, List.getElem?_toArray, Nat.zero_add]
  exact hj
theorem pref_17 (K l : Nat) {w : World} {b : Nat} {t : TypeId} {fz : Nat × Nat} (h : w.heap[b]? = some (.cells (prefL K l).toArray t fz)) : w.cell? ⟨b, 17, none⟩ = some (.int .i64 (l : Int)) := by
  rw [cell_at h, List.getElem?_toArray]
  unfold prefL
  rw [List.getElem?_append_right (by simp [keyL])]
  simp [keyL]
theorem node_x (A : Ar) (tb ab wb : Nat) (x : Int) (p : Nat) (n : NodeD) (w : World) (h : TabAt w tb ab wb A) (hs : Sane A) (hx : x = p) (hp : p + 1 < A.size) (hn : n = nodeAt A.word p) :
    Calls Tryd.prog 91 #[.pointer (some ⟨tb, 0, none⟩), .int .i64 x] w fun e w' => e = .returned (.agg #[.int .u16 n.routes, .int .u16 n.ways, .int .i64 n.hops, .int .i64 n.children]) ∧ Below w.heap.size w w' := by
  subst hn
  exact node_any A tb ab wb x p w h hs hx hp
theorem new_plain {W w' : World} {c : Array Value} {t : TypeId} (hb : Below (W.alloc (.cells c t)).heap.size (W.alloc (.cells c t)) w') : w'.heap[W.heap.size]? = some (.cells c t (0, 0)) := block_ext (heap_alloc_new _ _) hb
theorem new_drew {W w' : World} {c : Array Value} {t : TypeId} (hb : Below (W.alloc (.cells c t)).drew.heap.size (W.alloc (.cells c t)).drew w') : w'.heap[W.heap.size]? = some (.cells c t (0, 0)) := block_ext (block_ext (heap_alloc_new _ _) (drew_ext _)) hb
theorem cells4 {w : World} {b : Nat} {a0 a1 a2 a3 : Value} {t : TypeId} (h : w.heap[b]? = some (.cells #[a0, a1, a2, a3] t (0, 0))) : w.cell? ⟨b, 0, none⟩ = some a0 ∧ w.cell? ⟨b, 1, none⟩ = some a1 ∧ w.cell? ⟨b, 2, none⟩ = some a2 ∧ w.cell? ⟨b, 3, none⟩ = some a3 ∧ w.frozen? ⟨b, 0, none⟩ = false ∧ w.frozen? ⟨b, 1, none⟩ = false ∧ w.frozen? ⟨b, 2, none⟩ = false ∧ w.frozen? ⟨b, 3, none⟩ = false := by
  simp [World.cell?, World.frozen?, h]
theorem store4 {w : World} {b : Nat} {a0 a1 a2 a3 c0 c1 c2 c3 : Value} {t : TypeId} (h : w.heap[b]? = some (.cells #[a0, a1, a2, a3] t (0, 0))) : ((((w.setCell ⟨b, 0, none⟩ c0).setCell ⟨b, 1, none⟩ c1).setCell ⟨b, 2, none⟩ c2).setCell ⟨b, 3, none⟩ c3).heap[b]? = some (.cells #[c0, c1, c2, c3] t (0, 0)) := by
  have g : ∀ (w : World) (i : Nat) (c : Array Value) (v : Value), w.heap[b]? = some (.cells c t (0, 0)) → (w.setCell ⟨b, i, none⟩ v).heap[b]? = some (.cells (c.setIfInBounds i v) t (0, 0)) := by
    intro w i c v hw
    have hlt := lt_of_block hw
    have h' : w.heap[b] = .cells c t (0, 0) := by simpa [Array.getElem?_eq_getElem hlt] using hw
    show (w.heap.modify b _)[b]? = _
    rw [Array.getElem?_eq_getElem (by simpa using hlt), Array.getElem_modify_self, h']
    rfl
  rw [g _ 3 _ c3 (g _ 2 _ c2 (g _ 1 _ c1 (g _ 0 _ c0 h)))]
  rfl
theorem Good.sane {A : Ar} {F : Nat → List Nat} {m : Nat} (h : Good A F m) (hm : m ≤ 4000) : Sane A := ⟨h.ok.size, h.ok.top, fun s h1 h2 => h.given_in h1 h2, h.wok, by have := h.lo; omega, by have := h.hi; omega⟩
theorem take_some (A : Ar) (ab wb n : Nat) (x : Int) (w : World) (h : ArAt w ab wb A) (hs : Sane A) (hx : x = n) (h1 : 1 ≤ n) (h2 : n ≤ 32) (B : Ar) (y : Nat) (e : A.take n = (B, some y)) :
    Calls Tryd.prog 106 #[.pointer (some ⟨ab, 0, none⟩), .int .i64 x] w fun e w' => e = .returned (.tuple #[.agg #[.int .i64 (y : Nat), .int .i64 n], .bool true]) ∧ ArAt w' ab wb B ∧ Fr [ab, wb] w w' := by
  subst hx
  refine take_any A ab wb n w h hs h1 h2 _ ?_ ?_
  · intro x' B' w' e' hA hF
    rw [e] at e'
    simp only [Prod.mk.injEq, Option.some.injEq] at e'
    obtain ⟨rfl, rfl⟩ := e'
    exact ⟨rfl, hA, hF⟩
  · intro w' e'
    rw [e] at e'
    simp at e'
theorem take_no (A : Ar) (ab wb n : Nat) (x : Int) (w : World) (h : ArAt w ab wb A) (hs : Sane A) (hx : x = n) (h1 : 1 ≤ n) (h2 : n ≤ 32) (B : Ar) (e : A.take n = (B, none)) :
    Calls Tryd.prog 106 #[.pointer (some ⟨ab, 0, none⟩), .int .i64 x] w fun e w' => e = .returned (.tuple #[.agg #[.int .i64 0, .int .i64 0], .bool false]) ∧ ArAt w' ab wb B ∧ Fr [ab, wb] w w' := by
  subst hx
  refine take_any A ab wb n w h hs h1 h2 _ ?_ ?_
  · intro x' B' w' e' hA hF
    rw [e] at e'
    simp at e'
  · intro w' e' hA hF
    rw [e] at e'
    simp only [Prod.mk.injEq, and_true] at e'
    subst e'
    exact ⟨rfl, hA, hF⟩
theorem grow_some (A : Ar) (ab wb b n gap more : Nat) (x y z u : Int) (w : World) (h : ArAt w ab wb A) (hs : Sane A) (hx : x = b) (hy : y = n) (hz : z = gap) (hu : u = more) (h1 : 1 ≤ more) (h2 : n + more ≤ 32) (h3 : gap ≤ n) (h4 : b + n ≤ A.size) (h5 : b < A.size)
    (hB : ∀ x B, A.take (n + more) = (B, some x) → B.size = A.size ∧ x + (n + more) ≤ A.size ∧ (n ≠ 0 → B.given n < 65536) ∧ -100000 ≤ B.free ∧ B.free ≤ 100000) (B : Ar) (p : Nat) (e : A.grow b n gap more = (B, some p)) :
    Calls Tryd.prog 104 #[.pointer (some ⟨ab, 0, none⟩), .agg #[.int .i64 x, .int .i64 y], .int .i64 z, .int .i64 u] w fun e w' => e = .returned (.tuple #[.agg #[.int .i64 (p : Nat), .int .i64 ((n + more : Nat) : Int)], .bool true]) ∧ ArAt w' ab wb B ∧ Fr [ab, wb] w w' := by
  subst hx hy hz hu
  refine grow_any A ab wb b n gap more w h hs h1 h2 h3 h4 h5 hB _ ?_ ?_
  · intro x' B' w' e' hA hF
    rw [e] at e'
    simp only [Prod.mk.injEq, Option.some.injEq] at e'
    obtain ⟨rfl, rfl⟩ := e'
    exact ⟨rfl, hA, hF⟩
  · intro w' e'
    rw [e] at e'
    simp at e'
theorem grow_no (A : Ar) (ab wb b n gap more : Nat) (x y z u : Int) (w : World) (h : ArAt w ab wb A) (hs : Sane A) (hx : x = b) (hy : y = n) (hz : z = gap) (hu : u = more) (h1 : 1 ≤ more) (h2 : n + more ≤ 32) (h3 : gap ≤ n) (h4 : b + n ≤ A.size) (h5 : b < A.size)
    (hB : ∀ x B, A.take (n + more) = (B, some x) → B.size = A.size ∧ x + (n + more) ≤ A.size ∧ (n ≠ 0 → B.given n < 65536) ∧ -100000 ≤ B.free ∧ B.free ≤ 100000) (B : Ar) (e : A.grow b n gap more = (B, none)) :
    Calls Tryd.prog 104 #[.pointer (some ⟨ab, 0, none⟩), .agg #[.int .i64 x, .int .i64 y], .int .i64 z, .int .i64 u] w fun e w' => e = .returned (.tuple #[.agg #[.int .i64 0, .int .i64 0], .bool false]) ∧ ArAt w' ab wb B ∧ Fr [ab, wb] w w' := by
  subst hx hy hz hu
  refine grow_any A ab wb b n gap more w h hs h1 h2 h3 h4 h5 hB _ ?_ ?_
  · intro x' B' w' e' hA hF
    rw [e] at e'
    simp at e'
  · intro w' e' hA hF
    rw [e] at e'
    simp only [Prod.mk.injEq, and_true] at e'
    subst e'
    exact ⟨rfl, hA, hF⟩
theorem fr_below {S : List Nat} {w w' : World} (h : Below w.heap.size w w') : Fr S w w' := Fr.of_below h
end Go.Proofs.YtnapboelfimaaaaDoor
/- Helpers: one word written, bits set and cleared, blocks of two cells. -/
namespace Go.Proofs.YtnapboelfimaaaaDoor
open Go.RowKit Go.Deep
theorem one_src {W : World} {b hp j : Nat} {u : Value} (o : Nat) (_k : Nat) (hj : (wordVals [hp])[j]? = some u) (h : W.cell? ⟨b, o, none⟩ = some (.int .u32 (hp : Int))) : W.cell? ⟨b, o + j, none⟩ = some u := by
  match j, hj with
  | 0, hj => simp [wordVals] at hj; subst hj; exact h
  | j + 1, hj => simp [wordVals] at hj
theorem or16 (x k : Nat) (hx : x < 65536) (hk : k < 16) : bits BinOp.or IntKind.u16 (x : Int) ((2 : Int) ^ k) = ((x ||| 2 ^ k : Nat) : Int) := by
  have hp : 2 ^ k ≤ 2 ^ 15 := Nat.pow_le_pow_right (by decide) (by omega)
  rw [show (2 : Int) ^ k = ((2 ^ k : Nat) : Int) by norm_cast, u16_or_nat x (2 ^ k) hx (by omega)]
theorem andNot16 (x l : Nat) (hx : x < 65536) (hl : l < 16) : bits BinOp.andNot IntKind.u16 (x : Int) ((2 : Int) ^ l) = ((clr x l : Nat) : Int) := by
  have hp : 2 ^ l ≤ 2 ^ 15 := Nat.pow_le_pow_right (by decide) (by omega)
  have h1 := u16_andNot_nat x (2 ^ l) hx (by omega)
  rw [show (2 : Int) ^ l = ((2 ^ l : Nat) : Int) by norm_cast, h1]
  congr 1
  apply Nat.eq_of_testBit_eq
  intro i
  rw [Nat.testBit_and]
  by_cases hi : i = l
  · subst hi
    rw [clr_bit, show 65535 - 2 ^ i = 2 ^ 16 - (2 ^ i + 1) by omega, Nat.testBit_two_pow_sub_succ (by omega), Nat.testBit_two_pow_self]
    simp
  · rw [clr_bits _ _ _ hi, show 65535 - 2 ^ l = 2 ^ 16 - (2 ^ l + 1) by omega, Nat.testBit_two_pow_sub_succ (by omega), Nat.testBit_two_pow]
    by_cases h8 : i < 16
    · simp [h8, Ne.symm hi]
    · have : x.testBit i = false := Nat.testBit_lt_two_pow (Nat.lt_of_lt_of_le hx (Nat.pow_le_pow_right (n := 2) (by decide) (show 16 ≤ i by omega)))
      simp [this]
theorem drewN_ext (w : World) (n : Nat) : Below w.heap.size w (w.drewN n) := ⟨rfl, rfl, rfl, Nat.le_refl _, fun _ _ => rfl⟩
theorem before_x (bm bit : Nat) (x : Int) (w : World) (hx : x = bit) (h : bm < 65536) (hb : bit ≤ 15) : Calls Tryd.prog 59 #[.int .u16 bm, .int .i64 x] w fun e w' => e = .returned (.int .i64 (ones bit bm)) ∧ Below w.heap.size w w' := by
  subst hx
  refine (before_any bm bit w h hb).mono ?_
  rintro e w' ⟨rfl, n, rfl⟩
  exact ⟨rfl, drewN_ext _ _⟩
theorem cells2 {w : World} {b : Nat} {a0 a1 : Value} {t : TypeId} (h : w.heap[b]? = some (.cells #[a0, a1] t (0, 0))) : w.cell? ⟨b, 0, none⟩ = some a0 ∧ w.cell? ⟨b, 1, none⟩ = some a1 ∧ w.frozen? ⟨b, 0, none⟩ = false ∧ w.frozen? ⟨b, 1, none⟩ = false := by
  simp [World.cell?, World.frozen?, h]
theorem store2 {w : World} {b : Nat} {a0 a1 c0 c1 : Value} {t : TypeId} (h : w.heap[b]? = some (.cells #[a0, a1] t (0, 0))) : ((w.setCell ⟨b, 0, none⟩ c0).setCell ⟨b, 1, none⟩ c1).heap[b]? = some (.cells #[c0, c1] t (0, 0)) := by
  rw [heap_setCell_at c1 (heap_setCell_at c0 h)]
  rfl
theorem TabAt.frw {w w' : World} {tb ab wb : Nat} {A : Ar} (h : TabAt w tb ab wb A) {S : List Nat} (hf : Fr S w w') (hn : tb ∉ S) : w'.cell? ⟨tb, 0, none⟩ = some (.pointer (some ⟨ab, 0, none⟩)) := by
  rw [cell_at (hf.at h.tab hn)]; rfl
theorem cells4n {w : World} {b : Nat} {n : NodeD} {t : TypeId} (h : w.heap[b]? = some (.cells #[.int .u16 n.routes, .int .u16 n.ways, .int .i64 n.hops, .int .i64 n.children] t (0, 0))) : w.cell? ⟨b, 0, none⟩ = some (.int .u16 n.routes) ∧ w.cell? ⟨b, 1, none⟩ = some (.int .u16 n.ways) ∧ w.cell? ⟨b, 2, none⟩ = some (.int .i64 n.hops) ∧ w.cell? ⟨b, 3, none⟩ = some (.int .i64 n.children) :=
  ⟨(cells4 h).1, (cells4 h).2.1, (cells4 h).2.2.1, (cells4 h).2.2.2.1⟩
end Go.Proofs.YtnapboelfimaaaaDoor
/- Deeds: what an operation is to do; its fault. -/
namespace Go.Proofs.YtnapboelfimaaaaDoor
open Go.RowKit Go.Deep
theorem cells4x {w : World} {b : Nat} {a0 a1 a2 a3 : Value} {t : TypeId} (h : w.heap[b]? = some (.cells #[a0, a1, a2, a3] t (0, 0))) : w.cell? ⟨b, 0, none⟩ = some a0 ∧ w.cell? ⟨b, 1, none⟩ = some a1 ∧ w.cell? ⟨b, 2, none⟩ = some a2 ∧ w.cell? ⟨b, 3, none⟩ = some a3 ∧ True := by
  rw [cell_at h, cell_at h, cell_at h, cell_at h]
  exact ⟨rfl, rfl, rfl, rfl, trivial⟩
def deedVal (o : OpD) : Value :=
  if o.code = 1 then .iface 76 (.agg #[.int .i64 o.family, .string o.bits, .int .i64 o.len, .int .i64 o.hop])
  else if o.code = 2 then .iface 78 (.agg #[.int .i64 o.family, .int .i64 o.len, .string o.bits])
  else if o.code = 3 then .iface 80 (.agg #[.int .i64 o.family, .string o.bits])
  else if o.code = 4 then .iface 82 (.agg #[]) else .nilIface
structure OpD.ok (o : OpD) : Prop where
  code1 : -9223372036854775808 ≤ o.code
  code2 : o.code ≤ 9223372036854775807
  fam1 : -9223372036854775808 ≤ o.family
  fam2 : o.family ≤ 9223372036854775807
  len1 : -9223372036854775808 ≤ o.len
  len2 : o.len ≤ 9223372036854775807
  hop1 : -9223372036854775808 ≤ o.hop
  hop2 : o.hop ≤ 9223372036854775807
  bits : o.bits.size ≤ 9223372036854775807
set_option maxHeartbeats 2000000 in
set_option maxRecDepth 10000 in
theorem deedOf_any (o : OpD) (w : World) : Calls Tryd.prog 28 #[.agg #[.int .i64 o.code, .int .i64 o.family, .string o.bits, .int .i64 o.len, .int .i64 o.hop]] w fun e w' => e = .returned (deedVal o) ∧ Below w.heap.size w w' := by
  obtain ⟨code, f, s, l, hop⟩ := o
  by_cases h1 : code = 1
  · subst h1
    have HV := hide (show deedVal ⟨1, f, s, l, hop⟩ = .iface 76 (.agg #[.int .i64 f, .string s, .int .i64 l, .int .i64 hop]) from rfl)
    (go_enter Tryd.func28, Tryd.ntmps28; go_wp2; go_ret; exact ⟨by rw [HV.out]; rfl, ext_alloc _ _⟩)
  · by_cases h2 : code = 2
    · subst h2
      have HV := hide (show deedVal ⟨2, f, s, l, hop⟩ = .iface 78 (.agg #[.int .i64 f, .int .i64 l, .string s]) from rfl)
      clear h1
      (go_enter Tryd.func28, Tryd.ntmps28; go_wp2; go_ret; exact ⟨by rw [HV.out]; rfl, ext_alloc _ _⟩)
    · by_cases h3 : code = 3
      · subst h3
        have HV := hide (show deedVal ⟨3, f, s, l, hop⟩ = .iface 80 (.agg #[.int .i64 f, .string s]) from rfl)
        clear h1 h2
        (go_enter Tryd.func28, Tryd.ntmps28; go_wp2; go_ret; exact ⟨by rw [HV.out]; rfl, ext_alloc _ _⟩)
      · by_cases h4 : code = 4
        · subst h4
          have HV := hide (show deedVal ⟨4, f, s, l, hop⟩ = .iface 82 (.agg #[]) from rfl)
          clear h1 h2 h3
          (go_enter Tryd.func28, Tryd.ntmps28; go_wp2; go_ret; exact ⟨by rw [HV.out]; rfl, ext_alloc _ _⟩)
        · have HV := hide (show deedVal ⟨code, f, s, l, hop⟩ = .nilIface by unfold deedVal; simp only [h1, h2, h3, h4, if_false])
          have e1 : (code == 1) = false := by simpa using h1
          have e2 : (code == 2) = false := by simpa using h2
          have e3 : (code == 3) = false := by simpa using h3
          have e4 : (code == 4) = false := by simpa using h4
          clear h1 h2 h3 h4
          (go_enter Tryd.func28, Tryd.ntmps28; go_wp2; go_ret; exact ⟨by rw [HV.out]; rfl, ext_alloc _ _⟩)
theorem ta_ins (v : Value) (w : World) : (Instr.typeAssert (.iface 76 v) 59 76 true).run Tryd.prog w = .ok (.tuple #[v, .bool true]) w := by kernel_rfl
theorem ta_del (v : Value) (w : World) : (Instr.typeAssert (.iface 78 v) 59 78 true).run Tryd.prog w = .ok (.tuple #[v, .bool true]) w := by kernel_rfl
theorem ta_look (v : Value) (w : World) : (Instr.typeAssert (.iface 80 v) 59 80 true).run Tryd.prog w = .ok (.tuple #[v, .bool true]) w := by kernel_rfl
theorem ta_del_ins (v : Value) (w : World) : (Instr.typeAssert (.iface 78 v) 59 76 true).run Tryd.prog w = .ok (.tuple #[.agg #[.int .i64 0, .string ByteArray.empty, .int .i64 0, .int .i64 0], .bool false]) w := by kernel_rfl
theorem ta_look_ins (v : Value) (w : World) : (Instr.typeAssert (.iface 80 v) 59 76 true).run Tryd.prog w = .ok (.tuple #[.agg #[.int .i64 0, .string ByteArray.empty, .int .i64 0, .int .i64 0], .bool false]) w := by kernel_rfl
theorem ta_look_del (v : Value) (w : World) : (Instr.typeAssert (.iface 80 v) 59 78 true).run Tryd.prog w = .ok (.tuple #[.agg #[.int .i64 0, .int .i64 0, .string ByteArray.empty], .bool false]) w := by kernel_rfl
theorem ta_com_ins (v : Value) (w : World) : (Instr.typeAssert (.iface 82 v) 59 76 true).run Tryd.prog w = .ok (.tuple #[.agg #[.int .i64 0, .string ByteArray.empty, .int .i64 0, .int .i64 0], .bool false]) w := by kernel_rfl
theorem ta_com_del (v : Value) (w : World) : (Instr.typeAssert (.iface 82 v) 59 78 true).run Tryd.prog w = .ok (.tuple #[.agg #[.int .i64 0, .int .i64 0, .string ByteArray.empty], .bool false]) w := by kernel_rfl
theorem ta_com_look (v : Value) (w : World) : (Instr.typeAssert (.iface 82 v) 59 80 true).run Tryd.prog w = .ok (.tuple #[.agg #[.int .i64 0, .string ByteArray.empty], .bool false]) w := by kernel_rfl
set_option maxHeartbeats 2000000 in
set_option maxRecDepth 10000 in
theorem fault_any (o : OpD) (w : World) (hok : o.ok) : Calls Tryd.prog 29 #[deedVal o] w fun e w' => e = .returned (.int .i64 (opFault o)) ∧ Below w.heap.size w w' := by
  obtain ⟨code, f, s, l, hop⟩ := o
  have hl1 := hok.len1
  have hl2 := hok.len2
  have hsz := hok.bits
  simp only at hl1 hl2 hsz
  have HPF := hide (fun (w : World) => prefixFault_any f s l (prefFault f s l) w hl1 hl2 hsz rfl)
  obtain ⟨pf, hpf⟩ : ∃ pf, pf = prefFault f s l := ⟨_, rfl⟩
  rw [← hpf] at HPF
  by_cases h1 : code = 1
  · subst h1
    have hF : opFault ⟨1, f, s, l, hop⟩ = if pf = 0 then hopFault hop else pf := by rw [hpf]; rfl
    rw [show deedVal ⟨1, f, s, l, hop⟩ = .iface 76 (.agg #[.int .i64 f, .string s, .int .i64 l, .int .i64 hop]) from rfl, hF]
    have hta := ta_ins
    have HHF := hide (fun (w : World) => hopFault_any hop w)
    have hhf : (if 0 ≤ hop ∧ hop ≤ 65535 then 0 else 6 : Int) = hopFault hop := rfl
    rw [hhf] at HHF
    obtain ⟨hf, hhf2⟩ : ∃ hf, hf = hopFault hop := ⟨_, rfl⟩
    rw [← hhf2] at HHF ⊢
    clear hhf hhf2 hpf hF hok
    by_cases hp0 : pf = 0
    · rw [if_pos hp0]
      have e0 : (pf != 0) = false := by simp [hp0]
      clear hp0
      go_enter Tryd.func29, Tryd.ntmps29
      go_wp2_with (first | (go_at_call 36; refine (HPF.out _).mono ?_; rintro e w1 ⟨rfl, hb1⟩; have b1 := new_plain hb1; have hx1 := lt_of_block b1; obtain ⟨k0, k1, k2, k3, k4⟩ := cells4x b1) | (go_at_call 37; refine (HHF.out _).mono ?_; rintro e w2 ⟨rfl, nn, rfl⟩))
      go_ret
      exact ⟨rfl, ext_trans (ext_trans (ext_alloc _ _) hb1) (drewN_ext _ _)⟩
    · rw [if_neg hp0]
      have e0 : (pf != 0) = true := by simpa using hp0
      clear hp0
      go_enter Tryd.func29, Tryd.ntmps29
      go_wp2_with (go_at_call 36; refine (HPF.out _).mono ?_; rintro e w1 ⟨rfl, hb1⟩)
      go_ret
      exact ⟨rfl, ext_trans (ext_alloc _ _) hb1⟩
  · by_cases h2 : code = 2
    · subst h2
      have hF : opFault ⟨2, f, s, l, hop⟩ = pf := by rw [hpf]; rfl
      rw [show deedVal ⟨2, f, s, l, hop⟩ = .iface 78 (.agg #[.int .i64 f, .int .i64 l, .string s]) from rfl, hF]
      have hta := ta_del
      have hta2 := ta_del_ins
      clear h1 hF hpf hok
      go_enter Tryd.func29, Tryd.ntmps29
      go_wp2_with (go_at_call 36; refine (HPF.out _).mono ?_; rintro e w1 ⟨rfl, hb1⟩)
      go_ret
      exact ⟨rfl, ext_trans (ext_alloc _ _) hb1⟩
    · by_cases h3 : code = 3
      · subst h3
        have HAF := hide (fun (w : World) => addressFault_any f s (addrFault f s) w rfl)
        have hF : opFault ⟨3, f, s, l, hop⟩ = addrFault f s := rfl
        rw [show deedVal ⟨3, f, s, l, hop⟩ = .iface 80 (.agg #[.int .i64 f, .string s]) from rfl, hF]
        obtain ⟨af, haf⟩ : ∃ af, af = addrFault f s := ⟨_, rfl⟩
        rw [← haf] at HAF ⊢
        have hta := ta_look
        have hta2 := ta_look_ins
        have hta3 := ta_look_del
        clear h1 h2 hF hpf hok haf
        go_enter Tryd.func29, Tryd.ntmps29
        go_wp2_with (go_at_call 38; refine (HAF.out _).mono ?_; rintro e w1 ⟨rfl, nn, rfl⟩)
        go_ret
        exact ⟨rfl, ext_trans (ext_alloc _ _) (drewN_ext _ _)⟩
      · by_cases h4 : code = 4
        · subst h4
          rw [show deedVal ⟨4, f, s, l, hop⟩ = .iface 82 (.agg #[]) from rfl, show opFault ⟨4, f, s, l, hop⟩ = 0 from rfl]
          have hta := ta_com_ins
          have hta2 := ta_com_del
          have hta3 := ta_com_look
          clear h1 h2 h3 hpf hok
          go_enter Tryd.func29, Tryd.ntmps29
          go_wp2
          go_ret
          exact ⟨rfl, Below.refl _ _⟩
        · have HV := hide (show deedVal ⟨code, f, s, l, hop⟩ = .nilIface by unfold deedVal; simp only [h1, h2, h3, h4, if_false])
          have hF : opFault ⟨code, f, s, l, hop⟩ = 2 := by unfold opFault; simp only [h1, h2, h3, h4, if_false]
          rw [HV.out, hF]
          clear h1 h2 h3 h4 hF hpf hok
          go_enter Tryd.func29, Tryd.ntmps29
          go_wp2
          go_ret
          exact ⟨rfl, Below.refl _ _⟩
end Go.Proofs.YtnapboelfimaaaaDoor
