/- LookB, Row, Sho: parts of the proof, one behind the other. -/
import Derived.Test.YtnapboelfimaaaaDoorK14
import Derived.Test.YtnapboelfimaaaaDoorK18
import Derived.Test.YtnapboelfimaaaaDoorK19
import Derived.Laws.Tables
import Derived.Deep.DeepCutAuto
/- Small functions that a lookup calls. -/
namespace Go.Proofs.YtnapboelfimaaaaDoor
open Go.RowKit Go.Deep
set_option maxHeartbeats 400000 in
set_option maxRecDepth 10000 in
theorem flongest_any (nd sh : Nat) (w : World) (h : sh < 256) : Calls Tryd.prog 118 #[.agg #[.int .i64 nd, .int .u8 sh]] w fun e w' => e = .returned (.int .i64 ((Lib.bitLen sh : Int) - 1)) ∧ Below w.heap.size w w' := by
  have hb : Lib.bitLen sh ≤ 8 := Lib.bitLen_le _ 8 (by omega) (by omega)
  go_enter Tryd.func118, Tryd.ntmps118
  go_wp2_with (go_at_call 121; refine (len8_any sh _ h).mono ?_; rintro e w' ⟨rfl, rfl⟩)
  go_ret
  exact ⟨rfl, ext_alloc _ _⟩
theorem bit8_of (x k : Nat) (hx : x < 256) : (bits BinOp.and IntKind.u8 ((x : Int) / 2 ^ k) 1 == 1) = x.testBit k := by
  have e1 : ((x : Int) / 2 ^ k) = ((x / 2 ^ k : Nat) : Int) := by rw [Int.natCast_ediv]; norm_cast
  have h2 : x / 2 ^ k < 256 := Nat.lt_of_le_of_lt (Nat.div_le_self _ _) hx
  have e := u8_and_nat (x / 2 ^ k) 1 h2 (by omega)
  rw [e1, show (1 : Int) = ((1 : Nat) : Int) from rfl, e, nat_mask1, Nat.testBit_eq_decide_div_mod_eq, Bool.eq_iff_iff]
  simp only [beq_iff_eq, decide_eq_true_eq]
  omega
set_option maxHeartbeats 400000 in
set_option maxRecDepth 10000 in
theorem hasShort_any (nd sh l : Nat) (w : World) (h : sh < 256) (hl : l < 8) : Calls Tryd.prog 42 #[.agg #[.int .i64 nd, .int .u8 sh], .int .i64 l] w fun e w' => e = .returned (.bool (sh.testBit l)) ∧ Below w.heap.size w w' := by
  have HB := hide (bit8_of sh l h)
  go_enter Tryd.func42, Tryd.ntmps42
  go_wp2
  go_ret
  exact ⟨retB HB.out, ext_alloc _ _⟩
set_option maxHeartbeats 400000 in
set_option maxRecDepth 10000 in
theorem shortPlace_any (f x : Int) (q : Bool) (l b : Nat) (w : World) (hq : q = decide (f = 6)) (hx : x = l) (hl : l < 8) (hb : b < 256) : Calls Tryd.prog 44 #[.int .i64 f, .int .i64 x, .int .u8 b] w fun e w' => e = .returned (.int .i64 ((rt q + 256 + 2 ^ l + b / 2 ^ (8 - l) : Nat) : Int)) ∧ ∃ n, w' = w.drewN n := by
  subst hx
  have HQ := hide hq
  clear hq
  have hr := rt_le q
  obtain ⟨p1, p2⟩ := two_pow_le (show l ≤ 7 by omega)
  rw [show (2 : Int) ^ 7 = 128 from rfl] at p2
  obtain ⟨r8, hr8⟩ : ∃ r8, r8 = 8 - l := ⟨_, rfl⟩
  have e2 : (8 : Int) - l = (r8 : Int) := by omega
  have hbd : b / 2 ^ r8 ≤ 255 := Nat.le_trans (Nat.div_le_self _ _) (by omega)
  have HD := hide (show ((b : Nat) : Int) / 2 ^ r8 = ((b / 2 ^ r8 : Nat) : Int) by rw [Int.natCast_ediv]; norm_cast)
  have HP := hide (show (2 : Int) ^ l = ((2 ^ l : Nat) : Int) by norm_cast)
  rw [← hr8]
  have hr9 : r8 ≤ 8 := by omega
  clear hr8
  go_enter Tryd.func44, Tryd.ntmps44
  have W1 : IntKind.i64.wrap ((rt q : Int) + 256) = ((rt q + 256 : Nat) : Int) := by rw [IntKind.wrap_i64]; omega
  have W3 : IntKind.i64.wrap (8 - (l : Int)) = (r8 : Int) := by rw [IntKind.wrap_i64]; omega
  go_wp2
  go_quiet ((go_at_call 41; exact Calls.quiet_of_same (base_any f q _ HQ.out)))
  go_wp2
  go_ret
  have h2 : 2 ^ l ≤ 2 ^ 7 := Nat.pow_le_pow_right (by decide) (by omega)
  refine ⟨retI ?_, nq, rfl⟩
  show wrap64 ((rt q : Int) + 256 + 2 ^ l + (b : Int) / 2 ^ r8) = _
  rw [HD.out, HP.out]
  generalize b / 2 ^ r8 = y at hbd
  generalize (2 ^ l : Nat) = z at h2
  rw [IntWalk.wrap64_in _ ⟨by omega, by omega⟩]
  omega
set_option maxHeartbeats 400000 in
theorem count_any (ab rb : Nat) (k : Int) (w : World) (hr : w.heap[rb]? = some (.cells #[.pointer (some ⟨ab, 0, none⟩), .int .i64 k] 65 (0, 0))) : Calls Tryd.prog 120 #[.pointer (some ⟨rb, 0, none⟩)] w fun e w' => e = .returned (.int .i64 k) ∧ w' = w := by
  have c1 := cell_two1 hr
  go_enter Tryd.func120, Tryd.ntmps120
  go_wp2
  go_ret
  exact ⟨rfl, rfl⟩
set_option maxHeartbeats 400000 in
theorem asize_any (A : Ar) (ab wb : Nat) (w : World) (h : ArAt w ab wb A) : Calls Tryd.prog 84 #[.pointer (some ⟨ab, 0, none⟩)] w fun e w' => e = .returned (.int .i64 (A.size : Nat)) ∧ w' = w := by
  have c1 := h.slice
  go_enter Tryd.func84, Tryd.ntmps84
  go_wp2
  go_ret
  exact ⟨rfl, rfl⟩
end Go.Proofs.YtnapboelfimaaaaDoor
/- Whole rows by value, at one stroke. -/
namespace Go.Proofs.YtnapboelfimaaaaDoor
open Go.RowKit Go.Deep
theorem wpList_store_whole {ops : Array Oper} {rest : List Oper} {o : Oper} {a : Act} {w : World} {Q : Exit → Act → World → Prop} (hgd : o.guard = none) (ty : TypeId) (x y : Operand) (ho : o.op = .store ty x y)
    (g : Nat) (L : List Value) (hx : a.eval x = .pointer (some ⟨g, 0, none⟩)) (hy : a.eval y = .agg L.toArray)
    (t : TypeId) (old : Array Value) (hg : w.heap[g]? = some (.cells old t (0, 0))) (hi : (Tryd.prog.info? ty).map (·.size) = some L.length)
    (hold : old.size = L.length) (h1 : ∀ v ∈ L, v.oneCell' = true)
    (h : ∀ w', w'.heap[g]? = some (.cells L.toArray t (0, 0)) → Fr [g] w w' → w'.heap.size = w.heap.size → wpList Tryd.prog ops Q rest (a.put o.dst undef) w') : wpList Tryd.prog ops Q (o :: rest) a w :=
  wpList_store_row hgd ty x y ho g L.toArray hx hy t old hg (by simpa using hi) (by simpa using hold) (all_oneCell_toArray h1)
    (h _ (setRow_heap _ _ _ _ _ _ hg) ⟨rfl, rfl, rfl, by simp [World.setRow], fun k _ hk => setRow_other _ _ _ _ (by simpa using hk)⟩ (by simp [World.setRow]))
theorem wpList_load_whole {ops : Array Oper} {rest : List Oper} {op : Oper} {a : Act} {w : World} {Q : Exit → Act → World → Prop} (hgd : op.guard = none) (ty : TypeId) (x : Operand) (ho : op.op = .load ty x)
    (b : Nat) (hx : a.eval x = .pointer (some ⟨b, 0, none⟩)) (L : List Value) (d : TypeDesc) (t : TypeId) (fz : Nat × Nat) (hb : w.heap[b]? = some (.cells L.toArray t fz))
    (hu : Tryd.prog.underlying ty = some d) (hd : d.isRow = true) (hi : (Tryd.prog.info? ty).map (·.size) = some L.length)
    (h : wpList Tryd.prog ops Q rest (a.put op.dst (.agg L.toArray)) w) : wpList Tryd.prog ops Q (op :: rest) a w :=
  wpList_load_mid hgd ty x ho b 0 hx L d (fun j v hj => by rw [cell_at hb, List.getElem?_toArray, Nat.zero_add]; exact hj) hu hd hi h
theorem key_one (K : Nat) : ∀ v ∈ keyL K, v.oneCell' = true := by
  intro v hv
  obtain ⟨x, _, rfl⟩ := List.mem_map.1 hv
  rfl
theorem key_info (K : Nat) : (Tryd.prog.info? 96).map (·.size) = some (keyL K).length := by rw [sizeKeyF]; simp [keyL]
theorem key_at (K : Nat) {w : World} {b : Nat} {t : TypeId} {fz : Nat × Nat} (h : w.heap[b]? = some (.cells (keyL K).toArray t fz)) (i : Nat) (hi : i < 17) : w.cell? ⟨b, i, none⟩ = some (.int .u8 (kbyte K i : Int)) := by
  rw [cell_at h, List.getElem?_toArray]
  exact keyL_get K i hi
theorem kbyte_zero (K : Nat) (h : K < 2 ^ 136) : kbyte K 0 = fitK K 8 := by
  unfold kbyte fitK
  have : K / 2 ^ (136 - 8) < 256 := by
    rw [Nat.div_lt_iff_lt_mul (Nat.two_pow_pos _)]
    have : 256 * 2 ^ (136 - 8) = 2 ^ 136 := by decide
    omega
  exact Nat.mod_eq_of_lt this
theorem kfour_fit (K d : Nat) : kfour K d = fitK K (8 + 4 * d + 4) % 16 := by
  unfold kfour fitK
  congr 3
  omega
end Go.Proofs.YtnapboelfimaaaaDoor
/- Short prefixes: the words of the first bytes. -/
namespace Go.Proofs.YtnapboelfimaaaaDoor
open Go.RowKit Go.Deep
/-- some of the first bytes are marked -/
def markPart (W : Nat → Nat) (s k l : Nat) (there : Bool) : Nat → Nat := fun a => if s ≤ a ∧ a < s + k then W a % 65536 + 65536 * (if there then W a / 65536 ||| 2 ^ l else clr (W a / 65536) l) else W a
theorem andNot_clr (x l : Nat) (hx : x < 256) (hl : l < 8) : bits BinOp.andNot IntKind.u8 (x : Int) ((2 : Int) ^ l) = ((clr x l : Nat) : Int) := by
  have hp : 2 ^ l ≤ 2 ^ 7 := Nat.pow_le_pow_right (by decide) (by omega)
  have h1 := u8_andNot_nat x (2 ^ l) hx (by omega)
  rw [show (2 : Int) ^ l = ((2 ^ l : Nat) : Int) by norm_cast, h1]
  congr 1
  apply Nat.eq_of_testBit_eq
  intro i
  rw [Nat.testBit_and]
  by_cases hi : i = l
  · subst hi
    rw [clr_bit, show 255 - 2 ^ i = 2 ^ 8 - (2 ^ i + 1) by omega, Nat.testBit_two_pow_sub_succ (by omega), Nat.testBit_two_pow_self]
    simp
  · rw [clr_bits _ _ _ hi, show 255 - 2 ^ l = 2 ^ 8 - (2 ^ l + 1) by omega, Nat.testBit_two_pow_sub_succ (by omega), Nat.testBit_two_pow]
    by_cases h8 : i < 8
    · simp [h8, Ne.symm hi]
    · have : x.testBit i = false := Nat.testBit_lt_two_pow (Nat.lt_of_lt_of_le hx (Nat.pow_le_pow_right (n := 2) (by decide) (show 8 ≤ i by omega)))
      simp [this]
theorem or_set (x l : Nat) (hx : x < 256) (hl : l < 8) : bits BinOp.or IntKind.u8 ((clr x l : Nat) : Int) ((2 : Int) ^ l) = ((x ||| 2 ^ l : Nat) : Int) := by
  have hp : 2 ^ l ≤ 2 ^ 7 := Nat.pow_le_pow_right (by decide) (by omega)
  have hc : clr x l < 256 := clr_lt (n := 8) hx hl
  have h1 := u8_or_nat (clr x l) (2 ^ l) hc (by omega)
  rw [show (2 : Int) ^ l = ((2 ^ l : Nat) : Int) by norm_cast, h1]
  congr 1
  apply Nat.eq_of_testBit_eq
  intro i
  rw [Nat.testBit_or, Nat.testBit_or]
  by_cases hi : i = l
  · subst hi; simp
  · rw [clr_bits _ _ _ hi]
theorem or_zero (x l : Nat) (hx : x < 256) (hl : l < 8) : bits BinOp.or IntKind.u8 ((clr x l : Nat) : Int) 0 = ((clr x l : Nat) : Int) := by
  have hc : clr x l < 256 := clr_lt (n := 8) hx hl
  have h1 := u8_or_nat (clr x l) 0 hc (by omega)
  rw [Nat.or_zero] at h1
  exact h1
theorem pref_at (K l : Nat) {w : World} {b : Nat} {t : TypeId} {fz : Nat × Nat} (h : w.heap[b]? = some (.cells (prefL K l).toArray t fz)) (i : Nat) (hi : i < 17) : w.cell? ⟨b, i, none⟩ = some (.int .u8 (kbyte K i : Int)) := by
  rw [cell_at h, List.getElem?_toArray]
  unfold prefL
  rw [List.getElem?_append_left (by simp [keyL]; omega)]
  exact keyL_get K i hi
theorem markPart_word {A : Ar} {s k l a : Nat} {there : Bool} (h : s + k ≤ a) : markPart A.word s k l there a = A.word a := by
  unfold markPart
  rw [if_neg (by omega)]
theorem markPart_next (W : Nat → Nat) (r kb k l : Nat) : setW (markPart W (r + kb) k l true) (r + (kb + k)) (W (r + (kb + k)) % 65536 + 65536 * (W (r + (kb + k)) / 65536 ||| 2 ^ l)) = markPart W (r + kb) (k + 1) l true := by
  funext a
  by_cases e : a = r + (kb + k)
  · subst e
    rw [setW_same]
    unfold markPart
    rw [if_pos (by omega)]
    rfl
  · rw [setW_ne e]
    unfold markPart
    by_cases h : r + kb ≤ a ∧ a < r + kb + k
    · rw [if_pos h, if_pos (show r + kb ≤ a ∧ a < r + kb + (k + 1) by omega)]
    · rw [if_neg h, if_neg (show ¬ (r + kb ≤ a ∧ a < r + kb + (k + 1)) by omega)]
set_option maxHeartbeats 1000000 in
set_option maxRecDepth 10000 in
theorem markShort_one (A : Ar) (tb ab wb : Nat) (f : Int) (q : Bool) (K l kb n8 : Nat) (w : World) (h : TabAt w tb ab wb A) (hs : Sane A) (hq : q = decide (f = 6)) (hsz : 2048 ≤ A.size) (hsh : ∀ b, b < 256 → A.word (rt q + b) / 65536 < 256) (hl : l < 8) (hkb : kbyte K 0 = kb) (hn8 : n8 * 2 ^ l = 256) (hfit : kb + n8 ≤ 256) :
    Calls Tryd.prog 87 #[.pointer (some ⟨tb, 0, none⟩), .int .i64 f, .agg (prefL K l).toArray, .int .u8 1] w fun e w' => e = .returned (.tuple #[]) ∧ TabAt w' tb ab wb { A with word := markPart A.word (rt q + kb) n8 l true } ∧ Fr [wb] w w' := by
  have HQ := hide hq
  have hr := rt_le q
  have e1 : (256 : Int) / 2 ^ l = (n8 : Int) := by
    have h2 : 256 / 2 ^ l = n8 := by rw [← hn8]; exact Nat.mul_div_cancel _ (Nat.two_pow_pos l)
    rw [← h2, Int.natCast_ediv]
    norm_cast
  obtain ⟨wx, hwx⟩ : ∃ wx, wx = w.alloc (.cells (prefL K l).toArray 98) := ⟨_, rfl⟩
  have hp0 : wx.heap[w.heap.size]? = some (.cells (prefL K l).toArray 98 (0, 0)) := by rw [hwx]; exact heap_alloc_new _ _
  have HTX := hide (show TabAt wx tb ab wb A by rw [hwx]; exact h.ext (ext_alloc _ _))
  have hsx : wx.heap.size = w.heap.size + 1 := by rw [hwx]; simp
  have HWX := hide hwx
  have HFX := hide (show Fr [wb] w wx by rw [hwx]; exact (Fr.refl _ _).alloc _)
  have hlt := h.lt
  have hlw := h.ar.lw
  have hla := h.ar.la
  have c17 := pref_len K l w 98
  have hl7 : (l : Int) ≤ 7 := by omega
  have HP0 := hide hp0
  clear hq hwx h hp0
  go_enter Tryd.func87, Tryd.ntmps87
  go_wp2_with fail
  rw [← HWX.out]
  clear c17
  go_loopw [14] (fun i wr => ∃ k : Nat, k ≤ n8 ∧ i = .int .i64 k ∧ TabAt wr tb ab wb { A with word := markPart A.word (rt q + kb) k l true } ∧ Fr [wb] wx wr) (fun i _ => n8 - (intOf i).toNat)
  case atStart =>
    refine ⟨0, by omega, rfl, ?_, Fr.refl _ _⟩
    have e : markPart A.word (rt q + kb) 0 l true = A.word := by
      funext a
      unfold markPart
      rw [if_neg (by omega)]
    rw [e]; exact HTX.out
  case round =>
    obtain ⟨k, hk, rfl, hT, hF⟩ := hrel
    by_cases hkn : k < n8
    · have hpb := hF.at HP0.out (show w.heap.size ∉ [wb] by simp; omega)
      have d0 := pref_at K l hpb 0 (by omega)
      have d17 : wr.cell? ⟨w.heap.size, 17, none⟩ = some (.int .i64 (l : Int)) := by
        rw [cell_at hpb, List.getElem?_toArray]
        unfold prefL
        rw [List.getElem?_append_right (by simp [keyL])]
        simp [keyL]
      rw [hkb] at d0
      have hkn' : (k : Int) < n8 := by omega
      have hn256 : (n8 : Int) ≤ 256 := by omega
      have hw1 : w.heap.size < wr.heap.size := lt_of_block hpb
      have hsane : Sane { A with word := markPart A.word (rt q + kb) k l true } := by
        refine ⟨hs.size, hs.top, hs.given, ?_, hs.free1, hs.free2⟩
        intro a
        show markPart A.word (rt q + kb) k l true a < 4294967296
        unfold markPart
        split
        · rename_i hin
          have h1 := hsh (a - rt q) (by omega)
          rw [show rt q + (a - rt q) = a by omega] at h1
          have h2 := or_lt (n := 8) (k := l) h1 hl
          simp only [if_true]
          omega
        · exact hs.word a
      have hword : markPart A.word (rt q + kb) k l true (rt q + (kb + k)) = A.word (rt q + (kb + k)) := markPart_word (A := A) (by omega)
      have hsh2 := hsh (kb + k) (by omega)
      obtain ⟨nd, hnd⟩ : ∃ nd, nd = A.word (rt q + (kb + k)) % 65536 := ⟨_, rfl⟩
      obtain ⟨sh, hshd⟩ : ∃ sh, sh = A.word (rt q + (kb + k)) / 65536 := ⟨_, rfl⟩
      have hnd2 : nd < 65536 := by omega
      have hsh3 : sh < 256 := by omega
      have HND := hide hnd
      have HSH := hide hshd
      have HFI := hide (first_any { A with word := markPart A.word (rt q + kb) k l true } tb ab wb f q (kb + k) wr hT hsane HQ.out (by omega) hsz (by show markPart A.word (rt q + kb) k l true _ / 65536 < 256; rw [hword]; exact hsh2))
      have HT := hide hT
      have HF := hide hF
      have O1 := hide (andNot_clr sh l hsh3 hl)
      have O2 := hide (or_set sh l hsh3 hl)
      have HSA := hide hsane
      have HWD := hide hword
      clear hword hsane hT hF hnd hshd hpb
      go_wp2_with fail
      have hfi := HFI.out
      rw [Int.natCast_add] at hfi
      refine hfi.mono ?_
      clear hfi
      rintro e w1 ⟨rfl, hb1⟩
      have E1 : (({ A with word := markPart A.word (rt q + kb) k l true } : Ar).word (rt q + (kb + k)) % 65536 : Nat) = nd := by show markPart A.word (rt q + kb) k l true _ % 65536 = nd; rw [HWD.out, HND.out]
      have E2 : (({ A with word := markPart A.word (rt q + kb) k l true } : Ar).word (rt q + (kb + k)) / 65536 : Nat) = sh := by show markPart A.word (rt q + kb) k l true _ / 65536 = sh; rw [HWD.out, HSH.out]
      rw [E1, E2]
      clear E1 E2
      have hT1 := HT.out.ext hb1
      have t0 := hT1.cell
      have hw2 : w.heap.size < w1.heap.size := Nat.lt_of_lt_of_le hw1 hb1.size
      have d17' : w1.cell? ⟨w.heap.size, 17, none⟩ = some (.int .i64 (l : Int)) := by rw [hb1.cell (p := ⟨w.heap.size, 17, none⟩) hw1]; exact d17
      have HT1 := hide hT1
      have HB1 := hide hb1
      have hlt1 := hT1.lt
      clear hT1 hb1 d17
      go_wp2_with fail
      go_region
      have hp7 : (2 : Int) ^ l % 256 = (2 : Int) ^ l := by
        obtain ⟨p1, p2⟩ := two_pow_le (show l ≤ 7 by omega)
        rw [show (2 : Int) ^ 7 = 128 from rfl] at p2
        omega
      have EQ := hide (show bits BinOp.or IntKind.u8 (bits BinOp.andNot IntKind.u8 (sh : Int) ((2 : Int) ^ l % 256)) ((2 : Int) ^ l % 256) = ((sh ||| 2 ^ l : Nat) : Int) by rw [hp7, O1.out, O2.out])
      have hor := or_lt (n := 8) (k := l) (show sh < 2 ^ 8 from hsh3) hl
      clear hp7
      go_wp2_with fail
      go_region_with (go_at_call 102; rw [EQ.out]; refine (writeFirst_any { A with word := markPart A.word (rt q + kb) k l true } ab wb _ (rt q + (kb + k)) nd (sh ||| 2 ^ l) _ (HT1.out.ar.alloc _).drew.drew hnd2 hor (by omega) (by show rt q + (kb + k) < A.size; omega)).mono ?_; rintro e w3 ⟨rfl, hA3, hF3⟩)
      all_goals
        have e3 : setW (markPart A.word (rt q + kb) k l true) (rt q + (kb + k)) (nd + 65536 * (sh ||| 2 ^ l)) = markPart A.word (rt q + kb) (k + 1) l true := by
          rw [HND.out, HSH.out]
          exact markPart_next _ _ _ _ _
        have hX : TabAt w3 tb ab wb { A with word := markPart A.word (rt q + kb) (k + 1) l true } := by
          have := (HT1.out.ext (Below.drew (Below.drew (ext_alloc _ _)))).of hF3 (by have := HT1.out.nw; simpa using this) hA3
          rw [e3] at this
          exact this
        have HX := hide (And.intro hX (Fr.after (Fr.drew (Fr.drew (Fr.alloc (HF.out.trans (Fr.of_below HB1.out)) _))) hF3 (fun y hy => Or.inl hy)))
        clear hX hF3 hA3 e3
        go_wp2
        go_roundw
        case rel => exact ⟨k + 1, by omega, by go_num, HX.out.1, HX.out.2⟩
        case measure => simp [intOf]; omega
    · have hk' : k = n8 := by omega
      subst hk'
      go_wp2
      go_end0
      exact ⟨rfl, hT, HFX.out.trans hF⟩
end Go.Proofs.YtnapboelfimaaaaDoor
