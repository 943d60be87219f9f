/- KeyW, Wit, Tz: parts of the proof, one behind the other. -/
import Derived.Test.YtnapboelfimaaaaDoorK17
import Derived.Test.YtnapboelfimaaaaDoorK20
import Derived.Test.YtnapboelfimaaaaDoorK31
import Derived.Lib.TrailingZeros
/- A key with four bits more. -/
namespace Go.Proofs.YtnapboelfimaaaaDoor
/-- the key that goes on by four bits at a depth -/
def withK (K d f : Nat) : Nat := K + f * 2 ^ (124 - 4 * d)
theorem with_low {K d f j : Nat} (hd : d ≤ 31) (hf : f < 16) (hK : K % 2 ^ (128 - 4 * d) = 0) (hj : j ≤ d / 2) : kbyte (withK K d f) j = kbyte K j := by
  obtain ⟨q, hq⟩ := Nat.dvd_of_mod_eq_zero hK
  have e : 8 * (16 - j) = (128 - 4 * d) + (8 * (16 - j) - (128 - 4 * d)) := by omega
  have hlt : f * 2 ^ (124 - 4 * d) < 2 ^ (128 - 4 * d) := by
    rw [show 128 - 4 * d = (124 - 4 * d) + 4 by omega, Nat.pow_add]
    have := Nat.two_pow_pos (124 - 4 * d)
    rw [Nat.mul_comm]
    exact Nat.mul_lt_mul_of_pos_left (by omega) this
  unfold kbyte withK
  rw [e, Nat.pow_add, ← Nat.div_div_eq_div_mul, ← Nat.div_div_eq_div_mul, hq, Nat.mul_add_div (Nat.two_pow_pos _), Nat.div_eq_of_lt hlt, Nat.add_zero, Nat.mul_div_cancel_left _ (Nat.two_pow_pos _)]
theorem with_high {K d f j : Nat} (hd : d ≤ 31) (hK : K % 2 ^ (128 - 4 * d) = 0) (hj : 1 + d / 2 < j) (hj2 : j < 17) : kbyte (withK K d f) j = kbyte K j := by
  obtain ⟨q, hq⟩ := Nat.dvd_of_mod_eq_zero hK
  have e1 : 128 - 4 * d = 8 * (16 - j) + (8 + (128 - 4 * d - 8 * (16 - j) - 8)) := by omega
  have e2 : 124 - 4 * d = 8 * (16 - j) + (8 + (124 - 4 * d - 8 * (16 - j) - 8)) := by omega
  unfold kbyte withK
  rw [hq, e1, e2, Nat.pow_add, Nat.pow_add, Nat.pow_add, Nat.pow_add]
  generalize 2 ^ (128 - 4 * d - 8 * (16 - j) - 8) = x
  generalize 2 ^ (124 - 4 * d - 8 * (16 - j) - 8) = y
  have hp := Nat.two_pow_pos (8 * (16 - j))
  generalize 2 ^ (8 * (16 - j)) = z at hp
  rw [show z * (2 ^ 8 * x) * q + f * (z * (2 ^ 8 * y)) = z * (2 ^ 8 * (x * q + f * y)) by simp only [Nat.mul_add, Nat.mul_assoc, Nat.mul_left_comm], show z * (2 ^ 8 * x) * q = z * (2 ^ 8 * (x * q)) by simp only [Nat.mul_assoc], Nat.mul_div_cancel_left _ hp, Nat.mul_div_cancel_left _ hp]
  omega
theorem with_even {K m f : Nat} (hd : 2 * m ≤ 31) (hf : f < 16) (hK : K % 2 ^ (128 - 4 * (2 * m)) = 0) : kbyte K (1 + m) = 0 ∧ kbyte (withK K (2 * m) f) (1 + m) = f * 16 := by
  obtain ⟨q, hq⟩ := Nat.dvd_of_mod_eq_zero hK
  have hp := Nat.two_pow_pos (8 * (16 - (1 + m)))
  unfold kbyte withK
  rw [hq, show 128 - 4 * (2 * m) = 8 * (16 - (1 + m)) + 8 by omega, show 124 - 4 * (2 * m) = 8 * (16 - (1 + m)) + 4 by omega, Nat.pow_add, Nat.pow_add]
  generalize 2 ^ (8 * (16 - (1 + m))) = z at hp
  rw [show z * 2 ^ 8 * q + f * (z * 2 ^ 4) = z * (256 * q + f * 16) by simp only [Nat.mul_add, Nat.mul_assoc, Nat.mul_left_comm], show z * 2 ^ 8 * q = z * (256 * q) by simp only [Nat.mul_assoc], Nat.mul_div_cancel_left _ hp, Nat.mul_div_cancel_left _ hp]
  omega
theorem with_odd {K m f : Nat} (hd : 2 * m + 1 ≤ 31) (hf : f < 16) (hK : K % 2 ^ (128 - 4 * (2 * m + 1)) = 0) : kbyte K (1 + m) % 16 = 0 ∧ kbyte (withK K (2 * m + 1) f) (1 + m) = kbyte K (1 + m) + f := by
  obtain ⟨q, hq⟩ := Nat.dvd_of_mod_eq_zero hK
  have hp := Nat.two_pow_pos (8 * (16 - (1 + m)))
  unfold kbyte withK
  rw [hq, show 128 - 4 * (2 * m + 1) = 8 * (16 - (1 + m)) + 4 by omega, show 124 - 4 * (2 * m + 1) = 8 * (16 - (1 + m)) by omega, Nat.pow_add]
  generalize 2 ^ (8 * (16 - (1 + m))) = z at hp
  rw [show z * 2 ^ 4 * q + f * z = z * (16 * q + f) by rw [Nat.mul_add, Nat.mul_assoc, Nat.mul_comm f z], show z * 2 ^ 4 * q = z * (16 * q) by simp only [Nat.mul_assoc], Nat.mul_div_cancel_left _ hp, Nat.mul_div_cancel_left _ hp]
  omega
theorem with_zero {K d f : Nat} (hd : d ≤ 31) (hK : K % 2 ^ (128 - 4 * d) = 0) : withK K d f % 2 ^ (124 - 4 * d) = 0 := by
  obtain ⟨q, hq⟩ := Nat.dvd_of_mod_eq_zero hK
  unfold withK
  rw [hq, show 128 - 4 * d = (124 - 4 * d) + 4 by omega, Nat.pow_add, Nat.mul_assoc, Nat.mul_add_mod, Nat.mul_mod_left]
theorem with_lt {K d f : Nat} (hd : d ≤ 31) (hf : f < 16) (hK : K % 2 ^ (128 - 4 * d) = 0) (h : K < 2 ^ 136) : withK K d f < 2 ^ 136 := by
  obtain ⟨q, hq⟩ := Nat.dvd_of_mod_eq_zero hK
  have hp := Nat.two_pow_pos (128 - 4 * d)
  have hlt : f * 2 ^ (124 - 4 * d) < 2 ^ (128 - 4 * d) := by
    rw [show 128 - 4 * d = (124 - 4 * d) + 4 by omega, Nat.pow_add]
    have := Nat.two_pow_pos (124 - 4 * d)
    rw [Nat.mul_comm]
    exact Nat.mul_lt_mul_of_pos_left (by omega) this
  rw [hq, show (136 : Nat) = (128 - 4 * d) + (8 + 4 * d) by omega, Nat.pow_add] at h
  have hq2 : q < 2 ^ (8 + 4 * d) := Nat.lt_of_mul_lt_mul_left h
  have : 2 ^ (128 - 4 * d) * (q + 1) ≤ 2 ^ (128 - 4 * d) * 2 ^ (8 + 4 * d) := Nat.mul_le_mul_left _ hq2
  rw [← Nat.pow_add, show (128 - 4 * d) + (8 + 4 * d) = 136 by omega, Nat.mul_add, Nat.mul_one] at this
  unfold withK
  omega
end Go.Proofs.YtnapboelfimaaaaDoor
/- key.with -/
namespace Go.Proofs.YtnapboelfimaaaaDoor
open Go.RowKit Go.Deep
theorem keyL_set {K K' i : Nat} {v : Nat} (hi : i < 17) (h : ∀ j, j < 17 → j ≠ i → kbyte K' j = kbyte K j) (hv : kbyte K' i = v) : (keyL K).toArray.setIfInBounds i (.int .u8 (v : Int)) = (keyL K').toArray := by
  apply Array.ext_getElem?
  intro j
  by_cases hj : j < 17
  · by_cases e : j = i
    · subst e
      rw [Array.getElem?_setIfInBounds_self_of_lt (by simp [keyL]; omega), List.getElem?_toArray, keyL_get K' _ hj, hv]
    · rw [Array.getElem?_setIfInBounds_ne (by omega), List.getElem?_toArray, List.getElem?_toArray, keyL_get K _ hj, keyL_get K' _ hj, h j hj e]
  · rw [Array.getElem?_eq_none (by simp [keyL]; omega), Array.getElem?_eq_none (by simp [keyL]; omega)]
theorem or_even {f : Nat} (hf : f < 16) : bits BinOp.or IntKind.u8 (((0 : Nat) : Int) % 16) ((f : Int) * 16) = ((f * 16 : Nat) : Int) := by
  have h := u8_or_nat 0 (f * 16) (by decide) (by omega)
  rw [Nat.zero_or] at h
  rw [← h]
  norm_cast
theorem nib : ∀ x, x < 16 → ∀ f, f < 16 → (16 * x) &&& 240 = 16 * x ∧ (16 * x) ||| f = 16 * x + f := by decide
theorem or_odd {b f : Nat} (hb : b < 256) (h0 : b % 16 = 0) (hf : f < 16) : bits BinOp.or IntKind.u8 (bits BinOp.andNot IntKind.u8 (b : Int) 15) (f : Int) = ((b + f : Nat) : Int) := by
  obtain ⟨n1, n2⟩ := nib (b / 16) (by omega) f hf
  rw [show 16 * (b / 16) = b by omega] at n1 n2
  have h1 := u8_andNot_nat b 15 hb (by decide)
  have h2 := u8_or_nat b f hb (by omega)
  rw [show 255 - 15 = 240 from rfl, n1] at h1
  rw [n2] at h2
  rw [show (15 : Int) = ((15 : Nat) : Int) from rfl, h1, h2]
theorem with_rel {w wx : World} {kb K depth f v : Nat} {t : TypeId} {z : Array Value} (h : Below w.heap.size w wx ∧ wx.heap[kb]? = some (.cells (keyL K).toArray t (0, 0)) ∧ wx.heap[kb + 1]? = some (.cells z t (0, 0))) (hk : w.heap.size ≤ kb) (hd : depth ≤ 31) (hf : f < 16) (hK : K % 2 ^ (128 - 4 * depth) = 0) (hv : kbyte (withK K depth f) (1 + depth / 2) = v) :
    (wx.setCell ⟨kb, 1 + depth / 2, none⟩ (.int .u8 (v : Int))).heap[kb]? = some (.cells (keyL (withK K depth f)).toArray t (0, 0)) ∧ (wx.setCell ⟨kb, 1 + depth / 2, none⟩ (.int .u8 (v : Int))).heap[kb + 1]? = some (.cells z t (0, 0)) ∧ Below w.heap.size w (wx.setCell ⟨kb, 1 + depth / 2, none⟩ (.int .u8 (v : Int))) := by
  obtain ⟨h1, h2, h3⟩ := h
  refine ⟨?_, (Below.heap_setCell _ _ _ _ (show kb + 1 ≠ kb by omega)).trans h3, fr_nil ((fr_below h1 : Fr [] w wx).setCell (Or.inr hk) _)⟩
  rw [heap_setCell_at _ h2, keyL_set (by omega) (fun j hj hne => ?_) hv]
  rcases Nat.lt_or_ge j (1 + depth / 2) with hl | hl
  · exact with_low hd hf hK (by omega)
  · exact with_high hd hK (by omega) hj
set_option maxHeartbeats 2000000 in
set_option maxRecDepth 10000 in
theorem with_any (K depth f : Nat) (w : World) (hd : depth ≤ 31) (hf : f < 16) (hK : K % 2 ^ (128 - 4 * depth) = 0) :
    Calls Tryd.prog 54 #[.agg (keyL K).toArray, .int .i64 (depth : Int), .int .i64 (f : Int)] w fun e w' => e = .returned (.agg (keyL (withK K depth f)).toArray) ∧ Below w.heap.size w w' := by
  have hb := kbyte_lt K (1 + depth / 2)
  have i1 : (depth : Int) / 2 ≤ 15 := by omega
  have i2 : (depth : Int) ≤ 31 := by omega
  have hf' : (f : Int) < 16 := by omega
  obtain ⟨wx, hwx⟩ : ∃ wx, wx = (w.alloc (.cells (keyL K).toArray 96)).alloc (.cells #[.int .u8 0, .int .u8 0, .int .u8 0, .int .u8 0, .int .u8 0, .int .u8 0, .int .u8 0, .int .u8 0, .int .u8 0, .int .u8 0, .int .u8 0, .int .u8 0, .int .u8 0, .int .u8 0, .int .u8 0, .int .u8 0, .int .u8 0] 96) := ⟨_, rfl⟩
  have hBx : Below w.heap.size w wx := by rw [hwx]; exact ext_trans (ext_alloc _ _) (ext_alloc _ _)
  have b1 : wx.heap[w.heap.size]? = some (.cells (keyL K).toArray 96 (0, 0)) := by rw [hwx, heap_al, if_neg (by simp), heap_al, if_pos rfl]
  have b2 : wx.heap[w.heap.size + 1]? = some (.cells (List.replicate 17 (Value.int .u8 0)).toArray 96 (0, 0)) := by rw [hwx, heap_al, if_pos (by simp)]; rfl
  obtain ⟨kb, hkb⟩ : ∃ kb, kb = w.heap.size := ⟨_, rfl⟩
  rw [← hkb] at b1 b2
  have hc := key_at K b1 (1 + depth / 2) (by omega)
  have hz := free_at b1 (1 + depth / 2)
  have hl := lt_of_block b2
  have HWX := hide hwx
  have HB := hide (And.intro hBx (And.intro b1 b2))
  have HKB := hide hkb
  clear hwx hBx b1 b2 hkb
  go_enter Tryd.func54, Tryd.ntmps54
  go_upto_if 13 with (fail)
  rw [← HWX.out, ← HKB.out]
  go_cut [] (fun wd => wd.heap[kb]? = some (.cells (keyL (withK K depth f)).toArray 96 (0, 0)) ∧ wd.heap[kb + 1]? = some (.cells (List.replicate 17 (Value.int .u8 0)).toArray 96 (0, 0)) ∧ Below w.heap.size w wd)
  case first =>
    by_cases h2 : depth % 2 = 0
    · have e2 : ((depth : Int) % 2 == 0) = true := by simp; omega
      have HW := hide (with_even (K := K) (m := depth / 2) (f := f) (by omega) hf (by rw [show 2 * (depth / 2) = depth by omega]; exact hK))
      go_wp2
      go_meet
      case rel =>
        obtain ⟨h0, h1⟩ := HW.out
        rw [show 2 * (depth / 2) = depth by omega] at h1
        rw [h0, or_even hf]
        exact with_rel HB.out (Nat.le_of_eq HKB.out.symm) hd hf hK h1
    · have e2 : ((depth : Int) % 2 == 0) = false := by simp; omega
      have HW := hide (with_odd (K := K) (m := depth / 2) (f := f) (by omega) hf (by rw [show 2 * (depth / 2) + 1 = depth by omega]; exact hK))
      go_wp2
      go_meet
      case rel =>
        obtain ⟨h0, h1⟩ := HW.out
        rw [show 2 * (depth / 2) + 1 = depth by omega] at h1
        rw [or_odd hb h0 hf]
        exact with_rel HB.out (Nat.le_of_eq HKB.out.symm) hd hf hK h1
  case rest =>
    obtain ⟨c1, c2, c3⟩ := hcut
    have hl2 := lt_of_block c2
    have HC := hide (And.intro c1 (And.intro c2 c3))
    clear c1 c2 c3
    go_wp2_with (first | (show wpList _ _ _ (⟨_, .load 96 _, _, _, _, _⟩ :: _) _ _; refine wpList_load_whole rfl 96 _ rfl kb rfl (keyL (withK K depth f)) _ _ _ HC.out.1 Tryd.underlying96 rfl (key_info _) ?_) | (show wpList _ _ _ (⟨_, .store 96 _ _, _, _, _, _⟩ :: _) _ _; refine wpList_store_whole rfl 96 _ _ rfl (kb + 1) (keyL (withK K depth f)) rfl rfl _ _ HC.out.2.1 (key_info _) (by simp [keyL]) (key_one _) ?_; intro w5 b5 hF5 hs5))
    have hl : (loadVar 96 ⟨kb + 1, 0, none⟩).run Tryd.prog w5 = .ok (.agg (keyL (withK K depth f)).toArray) w5 := run_loadVar_mid _ _ _ _ _ _ (fun j v hj => by rw [cell_at b5, List.getElem?_toArray, Nat.zero_add]; exact hj) Tryd.underlying96 rfl (key_info _)
    refine bodyPost_ret (v := .agg (keyL (withK K depth f)).toArray) (results_row rfl rfl hl) rfl ⟨rfl, ?_⟩
    exact fr_nil (Fr.after (S := []) (Fr.of_below HC.out.2.2) hF5 (by intro y hy; simp at hy; right; rw [hy, HKB.out]; omega))
end Go.Proofs.YtnapboelfimaaaaDoor
/- bits.TrailingZeros of a small number; the table of the library's text lies in block 1. -/
namespace Go.Proofs.YtnapboelfimaaaaDoor
open Go.RowKit Go.Deep
/-- the library's table, as it lies -/
def TzTab (w : World) : Prop := ∀ j, j < 64 → w.cell? ⟨1, j, none⟩ = some (.int .u8 ((Go.Lib.deBruijn64tab.getD j 0 : Nat) : Int))
theorem tz_index {x : Nat} (h0 : x ≠ 0) (hx : x < 256) : IntKind.u64.wrap (bits BinOp.and IntKind.u64 (x : Int) (IntKind.u64.wrap (-(x : Int))) * 285870213051353865) / 288230376151711744 = ((2 ^ Go.Lib.ctz 64 x * 285870213051353865 % 18446744073709551616 / 288230376151711744 : Nat) : Int) := by
  have h1 := (Go.Lib.lowest_bit 64 x h0 (by omega)).1
  have e1 : IntKind.u64.wrap (-(x : Int)) = ((2 ^ 64 - x : Nat) : Int) := by rw [IntKind.wrap_u64]; omega
  have e2 := u64_and_nat x (2 ^ 64 - x) (by omega) (by omega)
  rw [h1] at e2
  rw [e1, e2, IntKind.wrap_u64]
  generalize 2 ^ Go.Lib.ctz 64 x = y
  omega
set_option maxHeartbeats 2000000 in
set_option maxRecDepth 10000 in
theorem tz64_any (x : Nat) (w : World) (h0 : x ≠ 0) (hx : x < 256) (hT : TzTab w) :
    Calls Tryd.prog 48 #[.int .u64 (x : Int)] w fun e w' => e = .returned (.int .i64 (Go.Lib.ctz 64 x : Nat)) ∧ w' = w := by
  have hx0 : ((x : Int) == 0) = false := by simp; omega
  have E := tz_index h0 hx
  have hk := (Go.Lib.lowest_bit 64 x h0 (by omega)).2
  obtain ⟨d1, d2⟩ := Go.Lib.deBruijn64_at _ hk
  have hc := hT _ d1
  rw [d2] at hc
  obtain ⟨k, hkk⟩ : ∃ k, k = Go.Lib.ctz 64 x := ⟨_, rfl⟩
  obtain ⟨j, hj⟩ : ∃ j, j = 2 ^ Go.Lib.ctz 64 x * 285870213051353865 % 18446744073709551616 / 288230376151711744 := ⟨_, rfl⟩
  rw [← hj] at E hc d1
  rw [← hkk] at hc hk ⊢
  have d1' : (j : Int) < 64 := by omega
  have hk' : (k : Int) < 64 := by omega
  clear hj d2 hkk hT
  go_enter Tryd.func48, Tryd.ntmps48
  go_wp2
  go_ret
  exact ⟨rfl, rfl⟩
set_option maxHeartbeats 2000000 in
theorem tz64_zero (w : World) : Calls Tryd.prog 48 #[.int .u64 0] w fun e w' => e = .returned (.int .i64 64) ∧ w' = w := by
  go_enter Tryd.func48, Tryd.ntmps48
  go_wp2
  go_ret
  exact ⟨rfl, rfl⟩
set_option maxHeartbeats 2000000 in
theorem tz_any (x : Nat) (w : World) (hx : x < 256) (hT : TzTab w) :
    Calls Tryd.prog 39 #[.int .u64 (x : Int)] w fun e w' => e = .returned (.int .i64 (Go.Lib.ctz 64 x : Nat)) ∧ w' = w := by
  by_cases h0 : x = 0
  · subst h0
    go_enter Tryd.func39, Tryd.ntmps39
    go_wp2_with (go_at_call 48; refine (tz64_zero _).mono ?_; rintro e w2 ⟨rfl, rfl⟩)
    go_ret
    exact ⟨rfl, rfl⟩
  · have HT := hide hT
    clear hT
    go_enter Tryd.func39, Tryd.ntmps39
    go_wp2_with (go_at_call 48; refine (tz64_any x _ h0 hx HT.out).mono ?_; rintro e w2 ⟨rfl, rfl⟩)
    go_ret
    exact ⟨rfl, rfl⟩
end Go.Proofs.YtnapboelfimaaaaDoor
