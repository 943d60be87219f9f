/- Zer, ByB, TrE: parts of the proof, one behind the other. -/
import Derived.Test.YtnapboelfimaaaaDoorK17
import Derived.Test.YtnapboelfimaaaaDoorK18
import Derived.Deep.RegionHeld3
import Derived.Deep.MidRow
/- Are all bits from a length on 0? -/
namespace Go.Proofs.YtnapboelfimaaaaDoor
open Go.RowKit Go.Deep
theorem sbyte_get {s : ByteArray} {i : Nat} (h : i < s.size) : sbyte s i = s[i].toNat := by
  unfold sbyte
  have h2 : i < s.data.toList.length := by simpa using h
  rw [List.getD_eq_getElem?_getD, List.getElem?_eq_getElem h2]
  simp [ByteArray.getElem_eq_getElem_data]
set_option maxHeartbeats 2000000 in
set_option maxRecDepth 10000 in
theorem zeroFrom_any (s : ByteArray) (l : Nat) (b : Bool) (w : World) (hs : s.size ≤ 16) (hl : l ≤ 8 * s.size) (hb : b = true ↔ zeroN s l s.size) :
    Calls Tryd.prog 46 #[.string s, .int .i64 (l : Nat)] w fun e w' => e = .returned (.bool b) ∧ Below w.heap.size w w' := by
  have hl' : (l : Int) ≤ 128 := by omega
  have hs' : (s.size : Int) ≤ 16 := by omega
  go_enter Tryd.func46, Tryd.ntmps46
  go_wp2
  go_loopw [5] (fun v wr => ∃ i : Nat, v = .int .i64 (i : Int) ∧ l / 8 ≤ i ∧ i ≤ s.size ∧ (∀ j, l / 8 ≤ j → j < i → sbyte s j * 2 ^ (l - 8 * j) % 256 = 0) ∧ Below w.heap.size w wr) (fun v _ => s.size - (intOf v).toNat)
  case atStart => exact ⟨l / 8, by simp, Nat.le_refl _, by omega, fun j h1 h2 => by omega, Below.refl _ _⟩
  case round =>
    obtain ⟨i, rfl, hi1, hi2, hz, hB⟩ := hrel
    have HZ := hide hz
    have HB := hide hB
    clear hz hB
    by_cases hi : i < s.size
    · have hi' : (i : Int) < s.size := by omega
      have hg := sbyte_get hi
      by_cases hz0 : sbyte s i * 2 ^ (l - 8 * i) % 256 = 0
      · have HN := hide (show ∀ j, l / 8 ≤ j → j < i + 1 → sbyte s j * 2 ^ (l - 8 * j) % 256 = 0 from fun j h1 h2 => by
          by_cases e : j = i
          · subst e; exact hz0
          · exact HZ.out j h1 (by omega))
        by_cases h8 : 8 * i ≤ l
        · have h8' : (0 : Int) ≤ (l : Int) - 8 * i := by omega
          have e1 : ((s[i].toNat : Int) * 2 ^ (l - 8 * i) % 256 != 0) = false := by
            rw [← hg]
            have : ((sbyte s i * 2 ^ (l - 8 * i) % 256 : Nat) : Int) = 0 := by rw [hz0]; rfl
            push_cast at this
            rw [this]
            rfl
          clear hg hz0
          go_wp2
          go_roundw
          case rel => exact ⟨i + 1, by go_num, by omega, by omega, HN.out, HB.out⟩
          case measure => simp [intOf]; omega
        · have h8' : (l : Int) - 8 * i < 0 := by omega
          have e1 : (s[i].toNat : Int) % 256 = 0 := by
            rw [show l - 8 * i = 0 by omega, Nat.pow_zero, Nat.mul_one, hg] at hz0
            have : ((s[i].toNat % 256 : Nat) : Int) = 0 := by rw [hz0]; rfl
            push_cast at this
            exact this
          clear hg hz0
          go_wp2
          go_roundw
          case rel => exact ⟨i + 1, by go_num, by omega, by omega, HN.out, HB.out⟩
          case measure => simp [intOf]; omega
      · have hbf : b = false := by
          cases b with
          | false => rfl
          | true => exact absurd (hb.1 rfl i hi1 hi) hz0
        subst hbf
        have HNZ := hide hz0
        by_cases h8 : 8 * i ≤ l
        · have h8' : (0 : Int) ≤ (l : Int) - 8 * i := by omega
          have e1 : ((s[i].toNat : Int) * 2 ^ (l - 8 * i) % 256 != 0) = true := by
            rw [← hg]
            have : ((sbyte s i * 2 ^ (l - 8 * i) % 256 : Nat) : Int) ≠ 0 := by omega
            push_cast at this
            simpa using this
          clear hg hz0 hb
          go_wp2
          go_ret
          exact ⟨rfl, HB.out⟩
        · have h8' : (l : Int) - 8 * i < 0 := by omega
          have e1 : ¬ (s[i].toNat : Int) % 256 = 0 := by
            rw [show l - 8 * i = 0 by omega, Nat.pow_zero, Nat.mul_one, hg] at hz0
            have : ((s[i].toNat % 256 : Nat) : Int) ≠ 0 := by omega
            push_cast at this
            exact this
          clear hg hz0 hb
          go_wp2
          go_ret
          exact ⟨rfl, HB.out⟩
    · have hbt : b = true := hb.2 (fun j h1 h2 => HZ.out j h1 (by omega))
      subst hbt
      have hi' : (s.size : Int) ≤ i := by omega
      clear hb
      go_wp2
      go_ret
      exact ⟨rfl, HB.out⟩
end Go.Proofs.YtnapboelfimaaaaDoor
/- Faults of prefixes; deeds. -/
namespace Go.Proofs.YtnapboelfimaaaaDoor
open Go.RowKit Go.Deep
theorem famBytes_cases (f : Int) : famBytes f = 0 ∨ famBytes f = 4 ∨ famBytes f = 16 := by
  unfold famBytes
  split
  · exact Or.inr (Or.inl rfl)
  · split
    · exact Or.inr (Or.inr rfl)
    · exact Or.inl rfl
set_option maxHeartbeats 2000000 in
set_option maxRecDepth 10000 in
theorem prefixFault_any (f : Int) (s : ByteArray) (l c : Int) (w : World) (hl1 : -9223372036854775808 ≤ l) (hl2 : l ≤ 9223372036854775807) (hs : s.size ≤ 9223372036854775807) (hc : c = prefFault f s l) :
    Calls Tryd.prog 36 #[.int .i64 f, .string s, .int .i64 l] w fun e w' => e = .returned (.int .i64 c) ∧ Below w.heap.size w w' := by
  unfold prefFault at hc
  have hfc := famBytes_cases f
  obtain ⟨n, hn⟩ : ∃ n, n = famBytes f := ⟨_, rfl⟩
  have HAB := hide (fun (w : World) => addressBytes_any f w)
  rw [← hn] at hc hfc HAB
  clear hn
  by_cases h0 : n = 0
  · rw [if_pos h0] at hc
    subst hc
    have e0 : ((n : Int) == 0) = true := by simp [h0]
    clear hfc h0
    go_enter Tryd.func36, Tryd.ntmps36
    go_wp2_with (go_at_call 24; refine (HAB.out _).mono ?_; rintro e w' ⟨rfl, rfl⟩)
    go_ret
    exact ⟨rfl, Below.refl _ _⟩
  · rw [if_neg h0] at hc
    have e0 : ((n : Int) == 0) = false := by simp [h0]
    have hn16 : (n : Int) ≤ 16 := by omega
    by_cases hl0 : l < 0
    · rw [if_pos (Or.inl hl0)] at hc
      subst hc
      clear hfc h0
      go_enter Tryd.func36, Tryd.ntmps36
      go_wp2_with (go_at_call 24; refine (HAB.out _).mono ?_; rintro e w' ⟨rfl, rfl⟩)
      go_ret
      exact ⟨rfl, Below.refl _ _⟩
    · by_cases hl8 : 8 * (n : Int) < l
      · rw [if_pos (Or.inr hl8)] at hc
        subst hc
        clear hfc h0
        go_enter Tryd.func36, Tryd.ntmps36
        go_wp2_with (go_at_call 24; refine (HAB.out _).mono ?_; rintro e w' ⟨rfl, rfl⟩)
        go_ret
        exact ⟨rfl, Below.refl _ _⟩
      · rw [if_neg (by omega)] at hc
        by_cases hsn : s.size = n
        · obtain ⟨ln, hln⟩ : ∃ ln : Nat, (ln : Int) = l := ⟨l.toNat, by omega⟩
          subst hln
          rw [show ((ln : Int)).toNat = ln by omega] at hc
          obtain ⟨z, hz⟩ : ∃ z : Bool, z = decide (keyNum s % 2 ^ (136 - ln) = 0) := ⟨_, rfl⟩
          have hzi := zero_iff (s := s) (l := ln) hsn (by omega) (by omega)
          rw [← hsn] at hzi
          have HZF := hide (fun (w : World) => zeroFrom_any s ln z w (by omega) (by omega) (by rw [hzi, hz]; simp))
          have e2 : (s.size : Int) ≤ (n : Int) := by omega
          have e3 : (n : Int) ≤ (s.size : Int) := by omega
          have hc2 : c = if z then 0 else 5 := by
            rw [hc, hz]
            by_cases hk : keyNum s % 2 ^ (136 - ln) = 0
            · rw [if_pos ⟨hsn, hk⟩]; simp [hk]
            · rw [if_neg (fun h => hk h.2)]; simp [hk]
          clear hc hz hzi hfc h0 hsn
          cases z with
          | true =>
            simp only [if_true] at hc2
            subst hc2
            go_enter Tryd.func36, Tryd.ntmps36
            go_wp2_with (first | (go_at_call 24; refine (HAB.out _).mono ?_; rintro e w' ⟨rfl, rfl⟩) | (go_at_call 46; refine (HZF.out _).mono ?_; rintro e w2 ⟨rfl, hb2⟩))
            go_ret
            exact ⟨rfl, hb2⟩
          | false =>
            simp only [Bool.false_eq_true, if_false] at hc2
            subst hc2
            go_enter Tryd.func36, Tryd.ntmps36
            go_wp2_with (first | (go_at_call 24; refine (HAB.out _).mono ?_; rintro e w' ⟨rfl, rfl⟩) | (go_at_call 46; refine (HZF.out _).mono ?_; rintro e w2 ⟨rfl, hb2⟩))
            go_ret
            exact ⟨rfl, hb2⟩
        · rw [if_neg (fun h => hsn h.1)] at hc
          subst hc
          have e2 : (s.size : Int) < (n : Int) ∨ (n : Int) < (s.size : Int) := by omega
          have e3 : ((s.size : Int) != (n : Int)) = true := by simp; omega
          clear hfc h0 hsn
          go_enter Tryd.func36, Tryd.ntmps36
          go_wp2_with (go_at_call 24; refine (HAB.out _).mono ?_; rintro e w' ⟨rfl, rfl⟩)
          go_ret
          exact ⟨rfl, Below.refl _ _⟩
end Go.Proofs.YtnapboelfimaaaaDoor
/- The number of a prefix in its node. -/
namespace Go.Proofs.YtnapboelfimaaaaDoor
open Go.RowKit Go.Deep
theorem drew_ext (W : World) : Below W.heap.size W W.drew := Below.drew (Below.refl _ _)
def numK (K l : Nat) : Nat := 2 ^ ((l - 8) % 4) - 1 + kfour K ((l - 8) / 4) / 2 ^ (4 - (l - 8) % 4)
theorem pref_cells (K l : Nat) {w : World} {b : Nat} {t : TypeId} {fz : Nat × Nat} (h : w.heap[b]? = some (.cells #[.int .u8 (kbyte K 0 : Int), .int .u8 (kbyte K 1 : Int), .int .u8 (kbyte K 2 : Int), .int .u8 (kbyte K 3 : Int), .int .u8 (kbyte K 4 : Int), .int .u8 (kbyte K 5 : Int), .int .u8 (kbyte K 6 : Int), .int .u8 (kbyte K 7 : Int), .int .u8 (kbyte K 8 : Int), .int .u8 (kbyte K 9 : Int), .int .u8 (kbyte K 10 : Int), .int .u8 (kbyte K 11 : Int), .int .u8 (kbyte K 12 : Int), .int .u8 (kbyte K 13 : Int), .int .u8 (kbyte K 14 : Int), .int .u8 (kbyte K 15 : Int), .int .u8 (kbyte K 16 : Int), .int .i64 (l : Int)] t fz)) : w.cell? ⟨b, 0, none⟩ = some (.int .u8 (kbyte K 0 : Int)) ∧ w.cell? ⟨b, 1, none⟩ = some (.int .u8 (kbyte K 1 : Int)) ∧ w.cell? ⟨b, 2, none⟩ = some (.int .u8 (kbyte K 2 : Int)) ∧ w.cell? ⟨b, 3, none⟩ = some (.int .u8 (kbyte K 3 : Int)) ∧ w.cell? ⟨b, 4, none⟩ = some (.int .u8 (kbyte K 4 : Int)) ∧ w.cell? ⟨b, 5, none⟩ = some (.int .u8 (kbyte K 5 : Int)) ∧ w.cell? ⟨b, 6, none⟩ = some (.int .u8 (kbyte K 6 : Int)) ∧ w.cell? ⟨b, 7, none⟩ = some (.int .u8 (kbyte K 7 : Int)) ∧ w.cell? ⟨b, 8, none⟩ = some (.int .u8 (kbyte K 8 : Int)) ∧ w.cell? ⟨b, 9, none⟩ = some (.int .u8 (kbyte K 9 : Int)) ∧ w.cell? ⟨b, 10, none⟩ = some (.int .u8 (kbyte K 10 : Int)) ∧ w.cell? ⟨b, 11, none⟩ = some (.int .u8 (kbyte K 11 : Int)) ∧ w.cell? ⟨b, 12, none⟩ = some (.int .u8 (kbyte K 12 : Int)) ∧ w.cell? ⟨b, 13, none⟩ = some (.int .u8 (kbyte K 13 : Int)) ∧ w.cell? ⟨b, 14, none⟩ = some (.int .u8 (kbyte K 14 : Int)) ∧ w.cell? ⟨b, 15, none⟩ = some (.int .u8 (kbyte K 15 : Int)) ∧ w.cell? ⟨b, 16, none⟩ = some (.int .u8 (kbyte K 16 : Int)) ∧ w.cell? ⟨b, 17, none⟩ = some (.int .i64 (l : Int)) := by
  simp [World.cell?, h]
theorem sizeKey : (Tryd.prog.info? 96).map (·.size) = some 17 := by kernel_rfl
theorem range_key (K l : Nat) {w : World} {b : Nat} {t : TypeId} {fz : Nat × Nat} (h : w.heap[b]? = some (.cells #[.int .u8 (kbyte K 0 : Int), .int .u8 (kbyte K 1 : Int), .int .u8 (kbyte K 2 : Int), .int .u8 (kbyte K 3 : Int), .int .u8 (kbyte K 4 : Int), .int .u8 (kbyte K 5 : Int), .int .u8 (kbyte K 6 : Int), .int .u8 (kbyte K 7 : Int), .int .u8 (kbyte K 8 : Int), .int .u8 (kbyte K 9 : Int), .int .u8 (kbyte K 10 : Int), .int .u8 (kbyte K 11 : Int), .int .u8 (kbyte K 12 : Int), .int .u8 (kbyte K 13 : Int), .int .u8 (kbyte K 14 : Int), .int .u8 (kbyte K 15 : Int), .int .u8 (kbyte K 16 : Int), .int .i64 (l : Int)] t fz)) : w.rangeAt b 0 (keyL K) := fun j v hj => by
  have hlt : j < (keyL K).length := (List.getElem?_eq_some_iff.1 hj).1
  have e : (#[.int .u8 (kbyte K 0 : Int), .int .u8 (kbyte K 1 : Int), .int .u8 (kbyte K 2 : Int), .int .u8 (kbyte K 3 : Int), .int .u8 (kbyte K 4 : Int), .int .u8 (kbyte K 5 : Int), .int .u8 (kbyte K 6 : Int), .int .u8 (kbyte K 7 : Int), .int .u8 (kbyte K 8 : Int), .int .u8 (kbyte K 9 : Int), .int .u8 (kbyte K 10 : Int), .int .u8 (kbyte K 11 : Int), .int .u8 (kbyte K 12 : Int), .int .u8 (kbyte K 13 : Int), .int .u8 (kbyte K 14 : Int), .int .u8 (kbyte K 15 : Int), .int .u8 (kbyte K 16 : Int), .int .i64 (l : Int)] : Array Value) = (prefL K l).toArray := rfl
  rw [e] at h
  rw [cell_at h, List.getElem?_toArray, Nat.zero_add]
  unfold prefL
  rw [List.getElem?_append_left hlt]
  exact hj
theorem four_x (K depth : Nat) (x : Int) (w : World) (hd : depth ≤ 31) (hx : x = depth) : Calls Tryd.prog 99 #[.agg #[.int .u8 (kbyte K 0 : Int), .int .u8 (kbyte K 1 : Int), .int .u8 (kbyte K 2 : Int), .int .u8 (kbyte K 3 : Int), .int .u8 (kbyte K 4 : Int), .int .u8 (kbyte K 5 : Int), .int .u8 (kbyte K 6 : Int), .int .u8 (kbyte K 7 : Int), .int .u8 (kbyte K 8 : Int), .int .u8 (kbyte K 9 : Int), .int .u8 (kbyte K 10 : Int), .int .u8 (kbyte K 11 : Int), .int .u8 (kbyte K 12 : Int), .int .u8 (kbyte K 13 : Int), .int .u8 (kbyte K 14 : Int), .int .u8 (kbyte K 15 : Int), .int .u8 (kbyte K 16 : Int)], .int .i64 x] w fun e w' => e = .returned (.int .i64 (kfour K depth : Nat)) ∧ Below w.heap.size w w' := four_any K depth x w hd hx
theorem short_x (K l : Nat) (w : World) (hl : l ≤ 128) : Calls Tryd.prog 80 #[.agg #[.int .u8 (kbyte K 0 : Int), .int .u8 (kbyte K 1 : Int), .int .u8 (kbyte K 2 : Int), .int .u8 (kbyte K 3 : Int), .int .u8 (kbyte K 4 : Int), .int .u8 (kbyte K 5 : Int), .int .u8 (kbyte K 6 : Int), .int .u8 (kbyte K 7 : Int), .int .u8 (kbyte K 8 : Int), .int .u8 (kbyte K 9 : Int), .int .u8 (kbyte K 10 : Int), .int .u8 (kbyte K 11 : Int), .int .u8 (kbyte K 12 : Int), .int .u8 (kbyte K 13 : Int), .int .u8 (kbyte K 14 : Int), .int .u8 (kbyte K 15 : Int), .int .u8 (kbyte K 16 : Int), .int .i64 (l : Int)]] w fun e w' => e = .returned (.bool (decide (l < 8))) ∧ Below w.heap.size w w' := short_any K l w hl
theorem depth_x (K l : Nat) (w : World) (hl : l ≤ 128) (h8 : 8 ≤ l) : Calls Tryd.prog 90 #[.agg #[.int .u8 (kbyte K 0 : Int), .int .u8 (kbyte K 1 : Int), .int .u8 (kbyte K 2 : Int), .int .u8 (kbyte K 3 : Int), .int .u8 (kbyte K 4 : Int), .int .u8 (kbyte K 5 : Int), .int .u8 (kbyte K 6 : Int), .int .u8 (kbyte K 7 : Int), .int .u8 (kbyte K 8 : Int), .int .u8 (kbyte K 9 : Int), .int .u8 (kbyte K 10 : Int), .int .u8 (kbyte K 11 : Int), .int .u8 (kbyte K 12 : Int), .int .u8 (kbyte K 13 : Int), .int .u8 (kbyte K 14 : Int), .int .u8 (kbyte K 15 : Int), .int .u8 (kbyte K 16 : Int), .int .i64 (l : Int)]] w fun e w' => e = .returned (.int .i64 (((l - 8) / 4 : Nat) : Int)) ∧ Below w.heap.size w w' := depth_any K l w hl h8
theorem numberOf_x (further value : Nat) (x y : Int) (w : World) (hx : x = further) (hy : y = value) (h : further ≤ 3) (hv : value ≤ 15) : Calls Tryd.prog 52 #[.int .i64 x, .int .i64 y] w fun e w' => e = .returned (.int .i64 ((2 ^ further - 1 + value : Nat) : Int)) ∧ w' = w := by
  subst hx hy
  exact numberOf_any further value w h hv
set_option maxHeartbeats 1000000 in
set_option maxRecDepth 10000 in
theorem number_x (K l : Nat) (w : World) (hl : l ≤ 128) (h8 : 8 ≤ l) : Calls Tryd.prog 93 #[.agg #[.int .u8 (kbyte K 0 : Int), .int .u8 (kbyte K 1 : Int), .int .u8 (kbyte K 2 : Int), .int .u8 (kbyte K 3 : Int), .int .u8 (kbyte K 4 : Int), .int .u8 (kbyte K 5 : Int), .int .u8 (kbyte K 6 : Int), .int .u8 (kbyte K 7 : Int), .int .u8 (kbyte K 8 : Int), .int .u8 (kbyte K 9 : Int), .int .u8 (kbyte K 10 : Int), .int .u8 (kbyte K 11 : Int), .int .u8 (kbyte K 12 : Int), .int .u8 (kbyte K 13 : Int), .int .u8 (kbyte K 14 : Int), .int .u8 (kbyte K 15 : Int), .int .u8 (kbyte K 16 : Int), .int .i64 (l : Int)]] w fun e w' => e = .returned (.int .i64 (numK K l : Nat)) ∧ Below w.heap.size w w' := by
  have hl' : (l : Int) ≤ 128 := by omega
  have h8' : (8 : Int) ≤ l := by omega
  have HW0 := heap_alloc_new w (.cells #[.int .u8 (kbyte K 0 : Int), .int .u8 (kbyte K 1 : Int), .int .u8 (kbyte K 2 : Int), .int .u8 (kbyte K 3 : Int), .int .u8 (kbyte K 4 : Int), .int .u8 (kbyte K 5 : Int), .int .u8 (kbyte K 6 : Int), .int .u8 (kbyte K 7 : Int), .int .u8 (kbyte K 8 : Int), .int .u8 (kbyte K 9 : Int), .int .u8 (kbyte K 10 : Int), .int .u8 (kbyte K 11 : Int), .int .u8 (kbyte K 12 : Int), .int .u8 (kbyte K 13 : Int), .int .u8 (kbyte K 14 : Int), .int .u8 (kbyte K 15 : Int), .int .u8 (kbyte K 16 : Int), .int .i64 (l : Int)] 98)
  obtain ⟨wx, hwx⟩ : ∃ wx, wx = w.alloc (.cells #[.int .u8 (kbyte K 0 : Int), .int .u8 (kbyte K 1 : Int), .int .u8 (kbyte K 2 : Int), .int .u8 (kbyte K 3 : Int), .int .u8 (kbyte K 4 : Int), .int .u8 (kbyte K 5 : Int), .int .u8 (kbyte K 6 : Int), .int .u8 (kbyte K 7 : Int), .int .u8 (kbyte K 8 : Int), .int .u8 (kbyte K 9 : Int), .int .u8 (kbyte K 10 : Int), .int .u8 (kbyte K 11 : Int), .int .u8 (kbyte K 12 : Int), .int .u8 (kbyte K 13 : Int), .int .u8 (kbyte K 14 : Int), .int .u8 (kbyte K 15 : Int), .int .u8 (kbyte K 16 : Int), .int .i64 (l : Int)] 98) := ⟨_, rfl⟩
  rw [← hwx] at HW0
  have hsx : wx.heap.size = w.heap.size + 1 := by rw [hwx]; simp
  have HBX := hide (show Below w.heap.size w wx by rw [hwx]; exact ext_alloc _ _)
  have HW := hide hwx
  have f16 := kfour_lt K ((l - 8) / 4)
  have q16 : kfour K ((l - 8) / 4) / 2 ^ (4 - (l - 8) % 4) ≤ 15 := Nat.le_trans (Nat.div_le_self _ _) (by omega)
  obtain ⟨fu, hfu⟩ : ∃ fu, fu = (l - 8) % 4 := ⟨_, rfl⟩
  obtain ⟨r4, hr4⟩ : ∃ r4, r4 = 4 - fu := ⟨_, rfl⟩
  have e1 : ((l : Int) - 8) % 4 = (fu : Int) := by omega
  have e2 : IntKind.i64.wrap (4 - (fu : Int)) = (r4 : Int) := by rw [IntKind.wrap_i64]; omega
  have hr5 : (r4 : Int) ≤ 4 := by omega
  rw [← hfu, ← hr4] at q16
  have HN := hide (show numK K l = 2 ^ fu - 1 + kfour K ((l - 8) / 4) / 2 ^ r4 by unfold numK; rw [← hfu, ← hr4])
  have hfu3 : fu ≤ 3 := by omega
  have HD := hide (show ((kfour K ((l - 8) / 4) : Nat) : Int) / 2 ^ r4 = ((kfour K ((l - 8) / 4) / 2 ^ r4 : Nat) : Int) by rw [Int.natCast_ediv]; norm_cast)
  clear hwx hfu hr4
  go_enter Tryd.func93, Tryd.ntmps93
  go_wp2_with fail
  rw [← HW.out]
  have KS : ∀ w', Below wx.heap.size wx w' → (fun w' : World => Below wx.heap.size wx w' ∧ w'.rangeAt w.heap.size 0 (keyL K) ∧ w'.cell? ⟨w.heap.size, 0, none⟩ = some (.int .u8 (kbyte K 0 : Int)) ∧ w'.cell? ⟨w.heap.size, 1, none⟩ = some (.int .u8 (kbyte K 1 : Int)) ∧ w'.cell? ⟨w.heap.size, 2, none⟩ = some (.int .u8 (kbyte K 2 : Int)) ∧ w'.cell? ⟨w.heap.size, 3, none⟩ = some (.int .u8 (kbyte K 3 : Int)) ∧ w'.cell? ⟨w.heap.size, 4, none⟩ = some (.int .u8 (kbyte K 4 : Int)) ∧ w'.cell? ⟨w.heap.size, 5, none⟩ = some (.int .u8 (kbyte K 5 : Int)) ∧ w'.cell? ⟨w.heap.size, 6, none⟩ = some (.int .u8 (kbyte K 6 : Int)) ∧ w'.cell? ⟨w.heap.size, 7, none⟩ = some (.int .u8 (kbyte K 7 : Int)) ∧ w'.cell? ⟨w.heap.size, 8, none⟩ = some (.int .u8 (kbyte K 8 : Int)) ∧ w'.cell? ⟨w.heap.size, 9, none⟩ = some (.int .u8 (kbyte K 9 : Int)) ∧ w'.cell? ⟨w.heap.size, 10, none⟩ = some (.int .u8 (kbyte K 10 : Int)) ∧ w'.cell? ⟨w.heap.size, 11, none⟩ = some (.int .u8 (kbyte K 11 : Int)) ∧ w'.cell? ⟨w.heap.size, 12, none⟩ = some (.int .u8 (kbyte K 12 : Int)) ∧ w'.cell? ⟨w.heap.size, 13, none⟩ = some (.int .u8 (kbyte K 13 : Int)) ∧ w'.cell? ⟨w.heap.size, 14, none⟩ = some (.int .u8 (kbyte K 14 : Int)) ∧ w'.cell? ⟨w.heap.size, 15, none⟩ = some (.int .u8 (kbyte K 15 : Int)) ∧ w'.cell? ⟨w.heap.size, 16, none⟩ = some (.int .u8 (kbyte K 16 : Int)) ∧ w'.cell? ⟨w.heap.size, 17, none⟩ = some (.int .i64 (l : Int))) w' := fun w' hb => ⟨hb, range_key K l (block_ext HW0 hb), pref_cells K l (block_ext HW0 hb)⟩
  have hu := Tryd.underlying96
  have hi : (Tryd.prog.info? 96).map (·.size) = some (keyL K).length := by rw [sizeKey]; simp [keyL]
  go_region_held3 (fun w' : World => Below wx.heap.size wx w' ∧ w'.rangeAt w.heap.size 0 (keyL K) ∧ w'.cell? ⟨w.heap.size, 0, none⟩ = some (.int .u8 (kbyte K 0 : Int)) ∧ w'.cell? ⟨w.heap.size, 1, none⟩ = some (.int .u8 (kbyte K 1 : Int)) ∧ w'.cell? ⟨w.heap.size, 2, none⟩ = some (.int .u8 (kbyte K 2 : Int)) ∧ w'.cell? ⟨w.heap.size, 3, none⟩ = some (.int .u8 (kbyte K 3 : Int)) ∧ w'.cell? ⟨w.heap.size, 4, none⟩ = some (.int .u8 (kbyte K 4 : Int)) ∧ w'.cell? ⟨w.heap.size, 5, none⟩ = some (.int .u8 (kbyte K 5 : Int)) ∧ w'.cell? ⟨w.heap.size, 6, none⟩ = some (.int .u8 (kbyte K 6 : Int)) ∧ w'.cell? ⟨w.heap.size, 7, none⟩ = some (.int .u8 (kbyte K 7 : Int)) ∧ w'.cell? ⟨w.heap.size, 8, none⟩ = some (.int .u8 (kbyte K 8 : Int)) ∧ w'.cell? ⟨w.heap.size, 9, none⟩ = some (.int .u8 (kbyte K 9 : Int)) ∧ w'.cell? ⟨w.heap.size, 10, none⟩ = some (.int .u8 (kbyte K 10 : Int)) ∧ w'.cell? ⟨w.heap.size, 11, none⟩ = some (.int .u8 (kbyte K 11 : Int)) ∧ w'.cell? ⟨w.heap.size, 12, none⟩ = some (.int .u8 (kbyte K 12 : Int)) ∧ w'.cell? ⟨w.heap.size, 13, none⟩ = some (.int .u8 (kbyte K 13 : Int)) ∧ w'.cell? ⟨w.heap.size, 14, none⟩ = some (.int .u8 (kbyte K 14 : Int)) ∧ w'.cell? ⟨w.heap.size, 15, none⟩ = some (.int .u8 (kbyte K 15 : Int)) ∧ w'.cell? ⟨w.heap.size, 16, none⟩ = some (.int .u8 (kbyte K 16 : Int)) ∧ w'.cell? ⟨w.heap.size, 17, none⟩ = some (.int .i64 (l : Int))) (first | (assumption) | (exact KS _ (drew_ext wx)) | (exact KS _ (ext_trans (And.left (by assumption)) (by assumption)))) (first | (go_at_call 90; refine (depth_x K l _ hl h8).mono ?_; rintro e w5 ⟨rfl, hb5⟩) | (go_at_call 99; refine (four_any K ((l - 8) / 4) _ _ (by omega) (by omega)).mono ?_; rintro e w6 ⟨rfl, hb6⟩) | (go_at_call 52; refine (numberOf_x fu (kfour K ((l - 8) / 4) / 2 ^ r4) _ _ _ rfl HD.out hfu3 q16).mono ?_; rintro e w7 ⟨rfl, rfl⟩))
  have HX := hide (show Below w.heap.size w _ from ext_trans HBX.out (And.left (by assumption)))
  clear KS HW0 HBX hu hi
  go_wp2
  go_ret
  exact ⟨retI (by rw [HN.out, Int.natCast_add, ← HD.out]), HX.out⟩
end Go.Proofs.YtnapboelfimaaaaDoor
