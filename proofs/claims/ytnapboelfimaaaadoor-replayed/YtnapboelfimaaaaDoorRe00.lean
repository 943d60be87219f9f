/- KeeF, FouM, FouA: parts of the proof, one behind the other. -/
import Derived.Test.YtnapboelfimaaaaDoorK40
/- More of what stays; what an operation that is refused changes: nothing. -/
namespace Go.Proofs.YtnapboelfimaaaaDoor
open Go.RowKit Go.Deep
/-- rows of routes stay, whatever is done -/
theorem FB.moved.owns {b b' : FB} {w w' : World} {A B : Ar} {base size n : Nat} {v : Value} {xs : List Value} (h : b.moved b' w w' B) (hl : b.lies w A) (ho : w.ownsRow base 47 size v n xs) : w'.ownsRow base 47 size v n xs := by
  refine ⟨ho.1, ?_⟩
  rcases ho.2 with h0 | ⟨g, cap, cur, rfl, hbg, hgg, rest⟩
  · exact .inl h0
  · exact .inr ⟨g, cap, cur, rfl, hbg, h.keep hl hgg (by decide) (by decide) (by decide), rest⟩
theorem next_same {M : Bool → Tab} {o : OpD} (h : mErr M o ≠ 0 ∨ o.code = 3 ∨ o.code = 4) : mNext M o = M := by
  unfold mNext
  by_cases hf : opFault o = 0
  · rw [if_pos hf]
    unfold mErr at h
    rw [if_pos hf] at h
    rcases fault_code hf with hc | hc | hc | hc
    · rw [if_neg (by omega), if_neg (by omega)] at h
      omega
    · rw [if_neg (by omega), if_pos hc]
      rw [if_pos hc] at h
      cases hm : M (fam o.family) o.l o.v with
      | none => exact updM_id hm
      | some x =>
        rw [hm] at h
        simp at h
        omega
    · rw [if_neg (by omega), if_neg (by omega)]
    · rw [if_neg (by omega), if_neg (by omega)]
  · rw [if_neg hf]
/-- what is refused, a lookup, a Compact: the tables stay -/
theorem step_same {S : St} (h : S.ok) {o : OpD} (hc : (S.step o).2.err ≠ 0 ∨ o.code = 3 ∨ o.code = 4) : (S.step o).1.M = S.M := by
  by_cases h8 : (S.step o).2.err = 8
  · rw [(step_full h h8).2.1]
  · obtain ⟨m1, m2, _⟩ := step_m h h8
    rw [m1]
    rw [m2] at hc
    exact next_same hc
theorem tell_count (S : St) : (tellL S 4).length + (tellL S 6).length = count2 S.M := by
  unfold tellL count2
  rw [List.length_map, List.length_map, show fam 4 = false by decide, show fam 6 = true by decide]
theorem same_x (l : List RouteD) (n b1 b2 : Nat) (v1 v2 : Value) (w : World) (hn : n = l.length) (h1 : w.ownsRow b1 47 3 v1 n (flatR l)) (h2 : w.ownsRow b2 47 3 v2 n (flatR l)) (hl : n ≤ 4194304) :
    Calls Tryd.prog 16 #[v1, v2] w fun e w' => e = .returned (.bool true) ∧ Below w.heap.size w w' := by
  subst hn
  exact same_any l b1 b2 v1 v2 w h1 h2 hl
/-- two Fibs side by side, and what they hold -/
structure Duo (w0 : World) (b c : FB) (R G : St) (w : World) : Prop where
  lb : b.lies w R.A
  lc : c.lies w G.A
  ap : b.apart c
  gb : b.ge w0.heap.size
  gc : c.ge w0.heap.size
  bw : Below w0.heap.size w0 w
  okR : R.ok
  okG : G.ok
theorem Duo.ext {w0 : World} {b c : FB} {R G : St} {w w' : World} (h : Duo w0 b c R G w) (hb : Below w.heap.size w w') : Duo w0 b c R G w' := ⟨h.lb.ext hb, h.lc.ext hb, h.ap, h.gb, h.gc, ext_trans h.bw hb, h.okR, h.okG⟩
theorem Duo.left {w0 : World} {b b' c : FB} {R G T : St} {w w' : World} (h : Duo w0 b c R G w) (hm : b.moved b' w w' T.A) (hT : T.ok) : Duo w0 b' c T G w' :=
  ⟨hm.lies, hm.other h.lc h.ap, hm.apart c _ h.lc h.ap, hm.ge _ h.gb h.bw.size, h.gc, h.bw.trans (hm.below h.gb h.bw.size), hT, h.okG⟩
theorem Duo.right {w0 : World} {b c c' : FB} {R G T : St} {w w' : World} (h : Duo w0 b c R G w) (hm : c.moved c' w w' T.A) (hT : T.ok) : Duo w0 b c' R T w' :=
  ⟨hm.other h.lb h.ap.symm, hm.lies, (hm.apart b _ h.lb h.ap.symm).symm, h.gb, hm.ge _ h.gc h.bw.size, h.bw.trans (hm.below h.gc h.bw.size), h.okR, hT⟩
/-- one operation of the argument, in whatever world -/
theorem OpsOn.cell {w w' : World} {b off : Nat} {ops : List OpD} {i : Nat} {o : OpD} (h : OpsOn w (some ⟨b, off, none⟩) ops) (hb : Below w.heap.size w w') (ho : ops[i]? = some o) : b < w'.heap.size ∧ w'.cell? ⟨b, off + i * 5, none⟩ = some (.int .i64 o.code) ∧ w'.cell? ⟨b, off + i * 5 + 1, none⟩ = some (.int .i64 o.family) ∧ w'.cell? ⟨b, off + i * 5 + 2, none⟩ = some (.string o.bits) ∧ w'.cell? ⟨b, off + i * 5 + 3, none⟩ = some (.int .i64 o.len) ∧ w'.cell? ⟨b, off + i * 5 + 4, none⟩ = some (.int .i64 o.hop) := by
  obtain ⟨b', off', o', e1, e2, _, _, hl, r⟩ := h.at hb (List.getElem?_eq_some_iff.1 ho).1
  simp only [Option.some.injEq, Addr.mk.injEq, and_true] at e1
  obtain ⟨rfl, rfl⟩ := e1
  rw [ho] at e2
  cases e2
  exact ⟨hl, r⟩
/-- one, where the Fib is known by its first block alone -/
theorem one_x (S T : St) (o : OpD) (a : Ans) (b : FB) (fb : Nat) (w : World) (h : b.lies w S.A) (hS : S.ok) (hok : o.ok) (hfb : b.fb = fb) (hT : T = (S.step o).1) (ha : a = (S.step o).2) :
    Calls Tryd.prog 14 #[.pointer (some ⟨fb, 0, none⟩), .agg #[.int .i64 o.code, .int .i64 o.family, .string o.bits, .int .i64 o.len, .int .i64 o.hop]] w fun e w' => e = .returned (.tuple #[.agg #[.int .i64 a.err, .int .i64 a.hop, .int .i64 a.reads], .bool true]) ∧ ∃ b', b'.fb = fb ∧ b.moved b' w w' T.A ∧ T.ok := by
  subst hfb hT ha
  refine (one_any S o b w h hS hok).mono ?_
  rintro e w' ⟨rfl, b', hm⟩
  exact ⟨rfl, b', hm.fb, hm, (step_ok hS o).1⟩
theorem dumps_x (S T : St) (hS : S.ok) (hT : T.ok) (b c : FB) (fb gb : Nat) (w : World) (hb : b.lies w S.A) (hc : c.lies w T.A) (hM : S.M = T.M) (hZ : TzTab w) (h1 : b.fb = fb) (h2 : c.fb = gb) :
    Calls Tryd.prog 18 #[.pointer (some ⟨fb, 0, none⟩), .pointer (some ⟨gb, 0, none⟩)] w fun e w' => e = .returned (.bool true) ∧ Below w.heap.size w w' := by
  subst h1 h2
  exact dumps_any S T hS hT b c w hb hc hM hZ
end Go.Proofs.YtnapboelfimaaaaDoor
/- Bits of keys; the longest route of a dump that fits. -/
namespace Go.Proofs.YtnapboelfimaaaaDoor
/-- the bit k of a key, from the left -/
def kb (K k : Nat) : Nat := K / 2 ^ (135 - k) % 2
theorem kb_lt (K k : Nat) : kb K k < 2 := Nat.mod_lt _ (by decide)
theorem mod256_div {x j : Nat} (hj : j ≤ 7) : x % 256 / 2 ^ j % 2 = x / 2 ^ j % 2 := by
  rcases (by omega : j = 0 ∨ j = 1 ∨ j = 2 ∨ j = 3 ∨ j = 4 ∨ j = 5 ∨ j = 6 ∨ j = 7) with rfl | rfl | rfl | rfl | rfl | rfl | rfl | rfl <;> omega
theorem kb_byte {K k : Nat} (hk : k < 136) : kbyte K (k / 8) / 2 ^ (7 - k % 8) % 2 = kb K k := by
  unfold kbyte kb
  rw [mod256_div (by omega), Nat.div_div_eq_div_mul, ← Nat.pow_add, show 8 * (16 - k / 8) + (7 - k % 8) = 135 - k by omega]
theorem fit_succ {K l : Nat} (hl : l < 136) : fitK K (l + 1) = 2 * fitK K l + kb K l := by
  unfold fitK kb
  have e : K / 2 ^ (136 - l) = K / 2 ^ (135 - l) / 2 := by
    rw [Nat.div_div_eq_div_mul, ← Nat.pow_succ, show (135 - l).succ = 136 - l by omega]
  rw [e, show 136 - (l + 1) = 135 - l by omega]
  omega
theorem fit_zero {K : Nat} (h : K < 2 ^ 136) : fitK K 0 = 0 := by unfold fitK; exact Nat.div_eq_of_lt h
theorem fit_down {A B i l : Nat} (hil : i ≤ l) (hl : l ≤ 136) (h : fitK A l = fitK B l) : fitK A i = fitK B i := by
  unfold fitK at *
  have e : ∀ X : Nat, X / 2 ^ (136 - i) = X / 2 ^ (136 - l) / 2 ^ (l - i) := by
    intro X
    rw [Nat.div_div_eq_div_mul, ← Nat.pow_add, show 136 - l + (l - i) = 136 - i by omega]
  rw [e A, e B, h]
theorem fit_bit {A B i l : Nat} (hil : i < l) (hl : l ≤ 136) (h : kb A i ≠ kb B i) : fitK A l ≠ fitK B l := by
  intro e
  have e1 := fit_down (show i + 1 ≤ l by omega) hl e
  have e0 := fit_down (show i ≤ l by omega) hl e
  rw [fit_succ (by omega), fit_succ (by omega), e0] at e1
  omega
theorem kb_zero {l v h k : Nat} (h1 : l ≤ k) (h2 : k < 136) : kb (addr (l, v, h)) k = 0 := by
  unfold kb addr
  simp only
  rw [show 136 - l = (k - l + 1) + (135 - k) by omega, Nat.pow_add, ← Nat.mul_assoc, Nat.mul_div_cancel _ (Nat.two_pow_pos _), Nat.pow_succ, ← Nat.mul_assoc]
  omega
theorem fit_addr {l v h : Nat} : fitK (addr (l, v, h)) l = v := by
  unfold fitK addr
  simp only
  exact Nat.mul_div_cancel _ (Nat.two_pow_pos _)
theorem addr_lt {l v h : Nat} (hl : l ≤ 136) (hv : v < 2 ^ l) : addr (l, v, h) < 2 ^ 136 := by
  unfold addr
  simp only
  have h1 : v * 2 ^ (136 - l) < 2 ^ l * 2 ^ (136 - l) := Nat.mul_lt_mul_of_pos_right hv (Nat.two_pow_pos _)
  rw [← Nat.pow_add, show l + (136 - l) = 136 by omega] at h1
  exact h1
/-- bytes of a string that is a key's -/
theorem keyS_size (n K : Nat) : (keyS n K).size = n := by unfold keyS; simp [ByteArray.size, digL_len]
theorem keyS_byte {n K i : Nat} (hi : i < n) : sbyte (keyS n K) i = kbyte K i := by
  unfold sbyte keyS
  simp only
  rw [digL_map, List.getD_eq_getElem?_getD, List.getElem?_map, List.getElem?_range hi]
  simp only [Option.map_some, Option.getD_some, Nat.zero_add]
  have := dig_lt K i
  show (UInt8.ofNat (dig K i)).toNat = dig K i
  simp
  omega
end Go.Proofs.YtnapboelfimaaaaDoor
/- Of the laws' own functions: bit, fits. -/
namespace Go.Proofs.YtnapboelfimaaaaDoor
open Go.RowKit Go.Deep
theorem i64_and1 (n : Int) : bits .and .i64 n 1 = n % 2 := by
  have h1 : (BitVec.ofInt 64 1).toNat = 2 ^ 1 - 1 := by decide
  have key : (BitVec.ofInt 64 n &&& BitVec.ofInt 64 1).toNat = (n % ((2 ^ 64 : Nat) : Int)).toNat % 2 ^ 1 := by
    rw [BitVec.toNat_and, BitVec.toNat_ofInt, h1, Nat.and_two_pow_sub_one_eq_mod]
  show IntKind.i64.wrap ((BitVec.ofInt 64 n &&& BitVec.ofInt 64 1).toNat : Nat) = n % 2
  rw [key, IntKind.wrap_i64]
  omega
set_option maxHeartbeats 1000000 in
set_option maxRecDepth 10000 in
theorem bit_any (s : ByteArray) (n k K : Nat) (w : World) (hs : s.size = n) (hn : n ≤ 16) (hk : k < 8 * n) (h : ∀ i, i < n → sbyte s i = kbyte K i) :
    Calls Tryd.prog 22 #[.string s, .int .i64 (k : Int)] w fun e w' => e = .returned (.int .i64 (kb K k : Nat)) ∧ w' = w := by
  have hi : k / 8 < s.size := by omega
  have hi' : (k : Int) / 8 < s.size := by omega
  have hg := sbyte_get hi
  rw [h (k / 8) (by omega)] at hg
  have hb := kb_byte (K := K) (show k < 136 by omega)
  have hk' : (k : Int) < 128 := by omega
  have HG := hide hg
  have HB := hide hb
  clear hg hb h
  go_enter Tryd.func22, Tryd.ntmps22
  go_wp2
  go_ret
  refine ⟨ret_int ?_, rfl⟩
  have hx : s[k / 8].toNat < 256 := by rw [← HG.out]; exact kbyte_lt _ _
  have hy : s[k / 8].toNat / 2 ^ (7 - k % 8) < 256 := Nat.lt_of_le_of_lt (Nat.div_le_self _ _) hx
  have e1 : ((s[k / 8].toNat : Int) / 2 ^ (7 - k % 8)) = ((s[k / 8].toNat / 2 ^ (7 - k % 8) : Nat) : Int) := by norm_cast
  rw [e1, ← HG.out] at *
  have hb := HB.out
  generalize kbyte K (k / 8) / 2 ^ (7 - k % 8) = y at *
  rw [IntWalk.wrap64_in _ ⟨by omega, by omega⟩, i64_and1, ← hb]
  omega
set_option maxHeartbeats 1000000 in
set_option maxRecDepth 10000 in
/-- do the first bits of two addresses agree? -/
theorem fits_any (s1 s2 : ByteArray) (n l A B : Nat) (hop : Int) (w : World) (h1 : s1.size = n) (h2 : s2.size = n) (hn : n ≤ 16) (hl : l ≤ 8 * n) (hA : A < 2 ^ 136) (hB : B < 2 ^ 136) (hA' : ∀ i, i < n → sbyte s1 i = kbyte A i) (hB' : ∀ i, i < n → sbyte s2 i = kbyte B i) :
    Calls Tryd.prog 23 #[.agg #[.string s1, .int .i64 (l : Int), .int .i64 hop], .string s2] w fun e w' => e = .returned (.bool (decide (fitK A l = fitK B l))) ∧ Below w.heap.size w w' := by
  have hn' : (n : Int) ≤ 16 := by omega
  have hl' : (l : Int) ≤ 8 * n := by omega
  have hnl : ¬ (8 * (n : Int) < l) := by omega
  obtain ⟨rb, hrb⟩ : ∃ rb, rb = w.heap.size := ⟨_, rfl⟩
  obtain ⟨wx, hwx⟩ : ∃ wx, wx = w.alloc (.cells #[.string s1, .int .i64 (l : Int), .int .i64 hop] 47) := ⟨_, rfl⟩
  have hbx : Below w.heap.size w wx := by rw [hwx]; exact ext_alloc _ _
  have bz : wx.heap[rb]? = some (.cells #[.string s1, .int .i64 (l : Int), .int .i64 hop] 47 (0, 0)) := by rw [hwx, hrb]; exact heap_alloc_new _ _
  obtain ⟨c0, c1, c2⟩ := cells3 bz
  have hlz := lt_of_block bz
  have HBX := hide hbx
  have HWX := hide hwx
  have HRB := hide hrb
  have HBA := hide (fun (k : Nat) (w : World) (hk : k < 8 * n) => bit_any s1 n k A w h1 hn hk hA')
  have HBB := hide (fun (k : Nat) (w : World) (hk : k < 8 * n) => bit_any s2 n k B w h2 hn hk hB')
  have HZ := hide (show fitK A 0 = fitK B 0 by rw [fit_zero hA, fit_zero hB])
  clear hbx hwx bz hrb hA' hB' hA hB
  go_enter Tryd.func23, Tryd.ntmps23
  go_wp2
  rw [← HWX.out, ← HRB.out]
  go_loopw [5] (fun v wr => ∃ i : Nat, v = .int .i64 (i : Int) ∧ i ≤ l ∧ fitK A i = fitK B i ∧ wr = wx) (fun v _ => l - (intOf v).toNat)
  case atStart => exact ⟨0, rfl, Nat.zero_le _, HZ.out, rfl⟩
  case round =>
    obtain ⟨i, rfl, hi, hf, rfl⟩ := hrel
    have HF := hide hf
    clear hf
    by_cases hil : i < l
    · have hil' : (i : Int) < l := by omega
      go_wp2_with fail
      refine (HBA.out i _ (by omega)).mono ?_
      rintro e w1 ⟨rfl, rfl⟩
      go_wp2_with fail
      refine (HBB.out i _ (by omega)).mono ?_
      rintro e w2 ⟨rfl, rfl⟩
      by_cases hb : kb A i = kb B i
      · have eb : ((kb A i : Int) != (kb B i : Int)) = false := by rw [hb]; simp
        have HN := hide (show fitK A (i + 1) = fitK B (i + 1) by rw [fit_succ (by omega), fit_succ (by omega), HF.out, hb])
        clear hb
        go_wp2
        exact ⟨⟨i + 1, by simp, by omega, HN.out, trivial⟩, by simp [intOf]; omega⟩
      · have eb : ((kb A i : Int) != (kb B i : Int)) = true := by simp; omega
        have HN := hide (fit_bit hil (by omega) hb)
        clear hb
        go_wp2
        go_ret
        exact ⟨by rw [decide_eq_false HN.out]; rfl, HBX.out⟩
    · obtain rfl : i = l := by omega
      go_wp2
      go_ret
      exact ⟨by rw [decide_eq_true HF.out]; rfl, HBX.out⟩
end Go.Proofs.YtnapboelfimaaaaDoor
