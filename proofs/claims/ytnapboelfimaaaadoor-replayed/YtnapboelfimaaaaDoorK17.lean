/- DumS, KeyN, TrD: parts of the proof, one behind the other. -/
import Derived.Test.YtnapboelfimaaaaDoorK13
import Derived.Test.YtnapboelfimaaaaDoorK16
/- The dump with one route more, or less: its length. -/
namespace Go.Proofs.YtnapboelfimaaaaDoor
theorem sorted_nodup {a : List (Nat × Nat × Nat)} (h : a.Pairwise before2) : a.Nodup := by
  refine List.Pairwise.imp ?_ h
  intro x y hxy e
  subst e
  rcases hxy with hx | hx <;> omega
theorem len_filter {α : Type} (p : α → Bool) (e : α) : ∀ (l : List α), l.Nodup → (∀ x, x ∈ l → p x = false → x = e) → l.length ≤ (l.filter p).length + 1
  | [], _, _ => by simp
  | x :: l, hn, h => by
    obtain ⟨h1, h2⟩ := List.nodup_cons.1 hn
    cases hp : p x with
    | true =>
      rw [List.filter_cons_of_pos hp]
      have := len_filter p e l h2 (fun y hy => h y (List.mem_cons_of_mem _ hy))
      simp only [List.length_cons]
      omega
    | false =>
      rw [List.filter_cons_of_neg (by simp [hp])]
      have hx := h x (List.mem_cons_self ..) hp
      have : l.filter p = l := by
        rw [List.filter_eq_self]
        intro y hy
        cases hq : p y with
        | true => rfl
        | false =>
          have := h y (List.mem_cons_of_mem _ hy) hq
          exact absurd (by rw [hx, ← this]; exact hy) h1
      rw [this]
      simp
theorem upd_none_some (M : Tab) (l v : Nat) (o : Option Nat) : updT (updT M l v o) l v none = updT M l v none := by
  funext a b
  unfold updT
  split <;> rfl
/-- with one route more the dump has at most one more -/
theorem dump_len_some {M : Tab} {dm l v h : Nat} (hT : TabOk (8 + 4 * dm) M) (hT' : TabOk (8 + 4 * dm) (updT M l v (some h))) (hL : 8 + 4 * dm ≤ 128) : (dumpR (updT M l v (some h)) dm).length ≤ (dumpR M dm).length + 1 := by
  have e := dump_perm_none (l := l) (v := v) hT' hL
  rw [upd_none_some, dump_perm_none hT hL] at e
  have h1 := len_filter (fun x : Nat × Nat × Nat => !(x.1 == l && x.2.1 == v)) (l, v, h) (dumpR (updT M l v (some h)) dm) (sorted_nodup (dumpR_sorted _ _ (by omega))) (by
    intro x hx hp
    have hx' := (mem_dumpR hT' hL x).1 hx
    simp only [Bool.not_eq_false', Bool.and_eq_true, beq_iff_eq] at hp
    obtain ⟨a, b, c⟩ := x
    simp only at hp hx'
    obtain ⟨rfl, rfl⟩ := hp
    rw [updT_same] at hx'
    cases hx'
    rfl)
  rw [← e] at h1
  have h2 := List.length_filter_le (fun x : Nat × Nat × Nat => !(x.1 == l && x.2.1 == v)) (dumpR M dm)
  omega
/-- what goes shortens the dump by one -/
theorem dump_len_none {M : Tab} {dm l v : Nat} (hT : TabOk (8 + 4 * dm) M) (hL : 8 + 4 * dm ≤ 128) : (dumpR (updT M l v none) dm).length ≤ (dumpR M dm).length := by
  rw [dump_perm_none hT hL]
  exact List.length_filter_le _ _
end Go.Proofs.YtnapboelfimaaaaDoor
/- Keys as numbers, out of bytes: a prefix's zeros. -/
namespace Go.Proofs.YtnapboelfimaaaaDoor
/-- the bytes of a family's addresses -/
def famBytes (f : Int) : Nat := if f = 4 then 4 else if f = 6 then 16 else 0
/-- a byte of a key that is a number of 136 bits -/
def kbyte (K i : Nat) : Nat := K / 2 ^ (8 * (16 - i)) % 256
def kfour (K depth : Nat) : Nat := K / 2 ^ (124 - 4 * depth) % 16
theorem kbyte_lt (K i : Nat) : kbyte K i < 256 := Nat.mod_lt _ (by decide)
theorem kfour_lt (K d : Nat) : kfour K d < 16 := Nat.mod_lt _ (by decide)
/-- a number out of its bytes -/
def digs (d : Nat → Nat) : Nat → Nat
  | 0 => 0
  | n + 1 => 256 * digs d n + d n
theorem digs_lt {d : Nat → Nat} (h : ∀ i, d i < 256) (n : Nat) : digs d n < 256 ^ n := by
  induction n with
  | zero => simp [digs]
  | succ n ih =>
    have := h n
    rw [digs, Nat.pow_succ]
    omega
theorem digs_get {d : Nat → Nat} (h : ∀ i, d i < 256) {n i : Nat} (hi : i < n) : digs d n / 256 ^ (n - 1 - i) % 256 = d i := by
  induction n with
  | zero => omega
  | succ n ih =>
    have hn := h n
    by_cases e : i = n
    · subst e
      rw [show i + 1 - 1 - i = 0 by omega, Nat.pow_zero, Nat.div_one, digs]
      omega
    · rw [digs, show n + 1 - 1 - i = (n - 1 - i) + 1 by omega, Nat.pow_succ, Nat.mul_comm (256 ^ (n - 1 - i)), ← Nat.div_div_eq_div_mul, show (256 * digs d n + d n) / 256 = digs d n by omega]
      exact ih (by omega)
def sbyte (s : ByteArray) (i : Nat) : Nat := (s.data.toList.getD i 0).toNat
theorem sbyte_lt (s : ByteArray) (i : Nat) : sbyte s i < 256 := UInt8.toNat_lt _
/-- the key of an address, or of a prefix's bytes -/
def keyNum (s : ByteArray) : Nat := digs (sbyte s) 17
theorem keyNum_lt (s : ByteArray) : keyNum s < 2 ^ 136 := by
  have := digs_lt (sbyte_lt s) 17
  exact this
theorem keyNum_byte (s : ByteArray) (i : Nat) (h : i < 17) : kbyte (keyNum s) i = sbyte s i := by
  have := digs_get (sbyte_lt s) h
  unfold kbyte keyNum
  rw [← this, show (256 : Nat) = 2 ^ 8 from rfl, ← Nat.pow_mul]

/-- all bits from a length on are 0 -/
def zeroN (s : ByteArray) (l n : Nat) : Prop := ∀ i, l / 8 ≤ i → i < n → sbyte s i * 2 ^ (l - 8 * i) % 256 = 0
theorem low_bytes (K : Nat) : ∀ m, m ≤ 16 → ((K % 2 ^ (8 * m) = 0) ↔ ∀ j, 16 - m < j → j ≤ 16 → kbyte K j = 0)
  | 0, _ => by
    constructor
    · intro _ j h1 h2; omega
    · intro _; rw [Nat.mul_zero, Nat.pow_zero]; omega
  | m + 1, hm => by
    have ih := low_bytes K m (by omega)
    have e : K % 2 ^ (8 * (m + 1)) = K % 2 ^ (8 * m) + 2 ^ (8 * m) * (K / 2 ^ (8 * m) % 256) := by
      rw [show 8 * (m + 1) = 8 * m + 8 by omega, Nat.pow_add, Nat.mod_mul]
    have hk : kbyte K (16 - m) = K / 2 ^ (8 * m) % 256 := by
      unfold kbyte
      rw [show 16 - (16 - m) = m by omega]
    have hp : 0 < 2 ^ (8 * m) := Nat.pow_pos (by decide)
    constructor
    · intro h j h1 h2
      rw [e] at h
      have h3 : K % 2 ^ (8 * m) = 0 := by omega
      have h4 : 2 ^ (8 * m) * (K / 2 ^ (8 * m) % 256) = 0 := by omega
      by_cases hj : j = 16 - m
      · subst hj
        rw [hk]
        rcases Nat.mul_eq_zero.1 h4 with h5 | h5
        · omega
        · exact h5
      · exact ih.1 h3 j (by omega) h2
    · intro h
      rw [e, ih.2 (fun j h1 h2 => h j (by omega) h2), ← hk, h (16 - m) (by omega) (by omega)]
      omega
theorem shl_zero {x r : Nat} (hx : x < 256) (hr : r < 8) : x * 2 ^ r % 256 = 0 ↔ x % 2 ^ (8 - r) = 0 := by
  have h : r = 0 ∨ r = 1 ∨ r = 2 ∨ r = 3 ∨ r = 4 ∨ r = 5 ∨ r = 6 ∨ r = 7 := by omega
  rcases h with h | h | h | h | h | h | h | h <;> subst h <;> simp only [Nat.reducePow, Nat.reduceSub] <;> omega
theorem sbyte_out {s : ByteArray} {i : Nat} (h : s.size ≤ i) : sbyte s i = 0 := by
  unfold sbyte
  have : s.data.toList.length = s.size := by simp
  rw [List.getD_eq_getElem?_getD, List.getElem?_eq_none (by omega)]
  rfl
theorem zero_iff {s : ByteArray} {l n : Nat} (hn : s.size = n) (h16 : n ≤ 16) (hl : l ≤ 8 * n) : zeroN s l n ↔ keyNum s % 2 ^ (136 - l) = 0 := by
  have hi : l / 8 ≤ 16 := by omega
  have e : keyNum s % 2 ^ (136 - l) = keyNum s % 2 ^ (8 * (16 - l / 8)) + 2 ^ (8 * (16 - l / 8)) * (keyNum s / 2 ^ (8 * (16 - l / 8)) % 2 ^ (8 - l % 8)) := by
    rw [show 136 - l = 8 * (16 - l / 8) + (8 - l % 8) by omega, Nat.pow_add, Nat.mod_mul]
  have hb : keyNum s / 2 ^ (8 * (16 - l / 8)) % 2 ^ (8 - l % 8) = sbyte s (l / 8) % 2 ^ (8 - l % 8) := by
    rw [← keyNum_byte s (l / 8) (by omega)]
    unfold kbyte
    rw [Nat.mod_mod_of_dvd]
    exact ⟨2 ^ (l % 8), by rw [← Nat.pow_add, show 8 - l % 8 + l % 8 = 8 by omega]⟩
  have hlow := low_bytes (keyNum s) (16 - l / 8) (by omega)
  have hp : 0 < 2 ^ (8 * (16 - l / 8)) := Nat.pow_pos (by decide)
  have h0 := shl_zero (sbyte_lt s (l / 8)) (show l % 8 < 8 by omega)
  constructor
  · intro h
    have h1 : keyNum s % 2 ^ (8 * (16 - l / 8)) = 0 := hlow.2 (fun j h1 h2 => by
      rw [keyNum_byte s j (by omega)]
      by_cases hj : j < n
      · have := h j (by omega) hj
        rw [show l - 8 * j = 0 by omega, Nat.pow_zero, Nat.mul_one] at this
        have := sbyte_lt s j
        omega
      · exact sbyte_out (by omega))
    have h2 : sbyte s (l / 8) % 2 ^ (8 - l % 8) = 0 := by
      by_cases hj : l / 8 < n
      · have := h (l / 8) (Nat.le_refl _) hj
        rw [show l - 8 * (l / 8) = l % 8 by omega] at this
        exact h0.1 this
      · rw [sbyte_out (by omega), Nat.zero_mod]
    rw [e, hb, h1, h2, Nat.mul_zero]
  · intro h i h1 h2
    rw [e] at h
    have h3 : keyNum s % 2 ^ (8 * (16 - l / 8)) = 0 := by omega
    have h4 : 2 ^ (8 * (16 - l / 8)) * (keyNum s / 2 ^ (8 * (16 - l / 8)) % 2 ^ (8 - l % 8)) = 0 := by omega
    by_cases hj : i = l / 8
    · subst hj
      rw [show l - 8 * (l / 8) = l % 8 by omega]
      apply h0.2
      rcases Nat.mul_eq_zero.1 h4 with h5 | h5
      · omega
      · rw [← hb]; exact h5
    · have := hlow.1 h3 i (by omega) (by omega)
      rw [keyNum_byte s i (by omega)] at this
      rw [this, Nat.zero_mul]
end Go.Proofs.YtnapboelfimaaaaDoor
/- Keys: seventeen bytes, by value. -/
namespace Go.Proofs.YtnapboelfimaaaaDoor
open Go.RowKit Go.Deep
def keyL (K : Nat) : List Value := (List.range 17).map fun i => Value.int .u8 (kbyte K i : Int)
theorem keyL_get (K i : Nat) (h : i < 17) : (keyL K)[i]? = some (.int .u8 (kbyte K i : Int)) := by
  unfold keyL
  rw [List.getElem?_map, List.getElem?_range h]
  rfl
theorem key_cell (K : Nat) (w : World) (t : TypeId) (i : Nat) (hi : i < 17) : (w.alloc (.cells (keyL K).toArray t)).cell? ⟨w.heap.size, i, none⟩ = some (.int .u8 (kbyte K i : Int)) := by
  rw [cell_new rfl, List.getElem?_toArray]
  exact keyL_get K i hi
theorem kfour_even {K e : Nat} (h : e ≤ 15) : kbyte K (1 + e) / 16 = kfour K (2 * e) := by
  unfold kbyte kfour
  have h1 : 8 * (16 - (1 + e)) = 120 - 8 * e := by omega
  have h2 : 124 - 4 * (2 * e) = (120 - 8 * e) + 4 := by omega
  rw [h1, h2, Nat.pow_add, ← Nat.div_div_eq_div_mul]
  omega
theorem kfour_odd {K e : Nat} (h : e ≤ 15) : kbyte K (1 + e) % 16 = kfour K (2 * e + 1) := by
  unfold kbyte kfour
  have h1 : 8 * (16 - (1 + e)) = 120 - 8 * e := by omega
  have h2 : 124 - 4 * (2 * e + 1) = 120 - 8 * e := by omega
  rw [h1, h2]
  omega
theorem i64_and15 (n : Int) : bits .and .i64 n 15 = n % 16 := by
  have h15 : (BitVec.ofInt 64 15).toNat = 2 ^ 4 - 1 := by decide
  have key : (BitVec.ofInt 64 n &&& BitVec.ofInt 64 15).toNat = (n % ((2 ^ 64 : Nat) : Int)).toNat % 2 ^ 4 := by
    rw [BitVec.toNat_and, BitVec.toNat_ofInt, h15, Nat.and_two_pow_sub_one_eq_mod]
  show IntKind.i64.wrap ((BitVec.ofInt 64 n &&& BitVec.ofInt 64 15).toNat : Nat) = n % 16
  rw [key, IntKind.wrap_i64]
  omega
set_option maxHeartbeats 400000 in
set_option maxRecDepth 10000 in
theorem four_any (K depth : Nat) (x : Int) (w : World) (hd : depth ≤ 31) (hx : x = depth) : Calls Tryd.prog 99 #[.agg (keyL K).toArray, .int .i64 x] w fun e w' => e = .returned (.int .i64 (kfour K depth : Nat)) ∧ Below w.heap.size w w' := by
  subst hx
  have hb := kbyte_lt K (1 + depth / 2)
  have hc := key_cell K w 96 (1 + depth / 2) (by omega)
  have i1 : (depth : Int) / 2 ≤ 15 := by omega
  have i2 : (depth : Int) ≤ 31 := by omega
  by_cases h2 : depth % 2 = 0
  · have e2 : ((depth : Int) % 2 == 0) = true := by simp; omega
    have H := hide (show kbyte K (1 + depth / 2) / 16 = kfour K depth by
      have := kfour_even (K := K) (e := depth / 2) (by omega)
      rw [show 2 * (depth / 2) = depth by omega] at this
      exact this)
    clear h2
    go_enter Tryd.func99, Tryd.ntmps99
    go_wp2
    go_ret
    exact ⟨retI (by have := H.out; show (kbyte K (1 + depth / 2) : Int) / 16 = _; omega), ext_alloc _ _⟩
  · have e2 : ((depth : Int) % 2 == 0) = false := by simp; omega
    have H := hide (show kbyte K (1 + depth / 2) % 16 = kfour K depth by
      have := kfour_odd (K := K) (e := depth / 2) (by omega)
      rw [show 2 * (depth / 2) + 1 = depth by omega] at this
      exact this)
    clear h2
    go_enter Tryd.func99, Tryd.ntmps99
    go_wp2
    go_ret
    exact ⟨retI (by have := H.out; show bits BinOp.and IntKind.i64 (kbyte K (1 + depth / 2) : Int) 15 = _; rw [i64_and15]; omega), ext_alloc _ _⟩
/-- a prefix by value -/
def prefL (K l : Nat) : List Value := keyL K ++ [.int .i64 (l : Int)]
theorem pref_len (K l : Nat) (w : World) (t : TypeId) : (w.alloc (.cells (prefL K l).toArray t)).cell? ⟨w.heap.size, 17, none⟩ = some (.int .i64 (l : Int)) := by
  rw [cell_new rfl, List.getElem?_toArray]
  unfold prefL
  rw [List.getElem?_append_right (by simp [keyL])]
  simp [keyL]
set_option maxHeartbeats 400000 in
set_option maxRecDepth 10000 in
theorem short_any (K l : Nat) (w : World) (hl : l ≤ 128) : Calls Tryd.prog 80 #[.agg (prefL K l).toArray] w fun e w' => e = .returned (.bool (decide (l < 8))) ∧ Below w.heap.size w w' := by
  have hc := pref_len K l w 98
  have hl' : (l : Int) ≤ 128 := by omega
  go_enter Tryd.func80, Tryd.ntmps80
  go_wp2
  go_ret
  exact ⟨retB (by simp; omega), ext_alloc _ _⟩
set_option maxHeartbeats 400000 in
set_option maxRecDepth 10000 in
theorem depth_any (K l : Nat) (w : World) (hl : l ≤ 128) (h8 : 8 ≤ l) : Calls Tryd.prog 90 #[.agg (prefL K l).toArray] w fun e w' => e = .returned (.int .i64 (((l - 8) / 4 : Nat) : Int)) ∧ Below w.heap.size w w' := by
  have hc := pref_len K l w 98
  have hl' : (l : Int) ≤ 128 := by omega
  have h8' : (8 : Int) ≤ l := by omega
  go_enter Tryd.func90, Tryd.ntmps90
  go_wp2
  go_ret
  exact ⟨retI (by show ((l : Int) - 8) / 4 = _; omega), ext_alloc _ _⟩
end Go.Proofs.YtnapboelfimaaaaDoor
