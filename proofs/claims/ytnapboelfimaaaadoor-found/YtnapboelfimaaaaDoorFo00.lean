/- KeeF, FouM: parts of the proof, one behind the other. -/
import Derived.Test.YtnapboelfimaaaaDoorK40
/- More of what stays; what an operation that is refused changes: nothing. -/
namespace Go.Proofs.YtnapboelfimaaaaDoor
open Go.RowKit Go.Deep
/-- rows of routes stay, whatever is done -/
theorem FB.moved.owns {b b' : FB} {w w' : World} {A B : Ar} {base size n : Nat} {v : Value} {xs : List Value} (h : b.moved b' w w' B) (hl : b.lies w A) (ho : w.ownsRow base 47 size v n xs) : w'.ownsRow base 47 size v n xs := by
  refine ⟨ho.1, ?_⟩
  rcases ho.2 with h0 | ⟨g, cap, cur, rfl, hbg, hgg, rest⟩
  · exact .inl h0
  · exact .inr ⟨g, cap, cur, rfl, hbg, h.keep hl hgg (by decide) (by decide) (by decide), rest⟩
theorem next_same {M : Bool → Tab} {o : OpD} (h : mErr M o ≠ 0 ∨ o.code = 3 ∨ o.code = 4) : mNext M o = M := by
  unfold mNext
  by_cases hf : opFault o = 0
  · rw [if_pos hf]
    unfold mErr at h
    rw [if_pos hf] at h
    rcases fault_code hf with hc | hc | hc | hc
    · rw [if_neg (by omega), if_neg (by omega)] at h
      omega
    · rw [if_neg (by omega), if_pos hc]
      rw [if_pos hc] at h
      cases hm : M (fam o.family) o.l o.v with
      | none => exact updM_id hm
      | some x =>
        rw [hm] at h
        simp at h
        omega
    · rw [if_neg (by omega), if_neg (by omega)]
    · rw [if_neg (by omega), if_neg (by omega)]
  · rw [if_neg hf]
/-- what is refused, a lookup, a Compact: the tables stay -/
theorem step_same {S : St} (h : S.ok) {o : OpD} (hc : (S.step o).2.err ≠ 0 ∨ o.code = 3 ∨ o.code = 4) : (S.step o).1.M = S.M := by
  by_cases h8 : (S.step o).2.err = 8
  · rw [(step_full h h8).2.1]
  · obtain ⟨m1, m2, _⟩ := step_m h h8
    rw [m1]
    rw [m2] at hc
    exact next_same hc
theorem tell_count (S : St) : (tellL S 4).length + (tellL S 6).length = count2 S.M := by
  unfold tellL count2
  rw [List.length_map, List.length_map, show fam 4 = false by decide, show fam 6 = true by decide]
theorem same_x (l : List RouteD) (n b1 b2 : Nat) (v1 v2 : Value) (w : World) (hn : n = l.length) (h1 : w.ownsRow b1 47 3 v1 n (flatR l)) (h2 : w.ownsRow b2 47 3 v2 n (flatR l)) (hl : n ≤ 4194304) :
    Calls Tryd.prog 16 #[v1, v2] w fun e w' => e = .returned (.bool true) ∧ Below w.heap.size w w' := by
  subst hn
  exact same_any l b1 b2 v1 v2 w h1 h2 hl
/-- two Fibs side by side, and what they hold -/
structure Duo (w0 : World) (b c : FB) (R G : St) (w : World) : Prop where
  lb : b.lies w R.A
  lc : c.lies w G.A
  ap : b.apart c
  gb : b.ge w0.heap.size
  gc : c.ge w0.heap.size
  bw : Below w0.heap.size w0 w
  okR : R.ok
  okG : G.ok
theorem Duo.ext {w0 : World} {b c : FB} {R G : St} {w w' : World} (h : Duo w0 b c R G w) (hb : Below w.heap.size w w') : Duo w0 b c R G w' := ⟨h.lb.ext hb, h.lc.ext hb, h.ap, h.gb, h.gc, ext_trans h.bw hb, h.okR, h.okG⟩
theorem Duo.left {w0 : World} {b b' c : FB} {R G T : St} {w w' : World} (h : Duo w0 b c R G w) (hm : b.moved b' w w' T.A) (hT : T.ok) : Duo w0 b' c T G w' :=
  ⟨hm.lies, hm.other h.lc h.ap, hm.apart c _ h.lc h.ap, hm.ge _ h.gb h.bw.size, h.gc, h.bw.trans (hm.below h.gb h.bw.size), hT, h.okG⟩
theorem Duo.right {w0 : World} {b c c' : FB} {R G T : St} {w w' : World} (h : Duo w0 b c R G w) (hm : c.moved c' w w' T.A) (hT : T.ok) : Duo w0 b c' R T w' :=
  ⟨hm.other h.lb h.ap.symm, hm.lies, (hm.apart b _ h.lb h.ap.symm).symm, h.gb, hm.ge _ h.gc h.bw.size, h.bw.trans (hm.below h.gc h.bw.size), h.okR, hT⟩
/-- one operation of the argument, in whatever world -/
theorem OpsOn.cell {w w' : World} {b off : Nat} {ops : List OpD} {i : Nat} {o : OpD} (h : OpsOn w (some ⟨b, off, none⟩) ops) (hb : Below w.heap.size w w') (ho : ops[i]? = some o) : b < w'.heap.size ∧ w'.cell? ⟨b, off + i * 5, none⟩ = some (.int .i64 o.code) ∧ w'.cell? ⟨b, off + i * 5 + 1, none⟩ = some (.int .i64 o.family) ∧ w'.cell? ⟨b, off + i * 5 + 2, none⟩ = some (.string o.bits) ∧ w'.cell? ⟨b, off + i * 5 + 3, none⟩ = some (.int .i64 o.len) ∧ w'.cell? ⟨b, off + i * 5 + 4, none⟩ = some (.int .i64 o.hop) := by
  obtain ⟨b', off', o', e1, e2, _, _, hl, r⟩ := h.at hb (List.getElem?_eq_some_iff.1 ho).1
  simp only [Option.some.injEq, Addr.mk.injEq, and_true] at e1
  obtain ⟨rfl, rfl⟩ := e1
  rw [ho] at e2
  cases e2
  exact ⟨hl, r⟩
/-- one, where the Fib is known by its first block alone -/
theorem one_x (S T : St) (o : OpD) (a : Ans) (b : FB) (fb : Nat) (w : World) (h : b.lies w S.A) (hS : S.ok) (hok : o.ok) (hfb : b.fb = fb) (hT : T = (S.step o).1) (ha : a = (S.step o).2) :
    Calls Tryd.prog 14 #[.pointer (some ⟨fb, 0, none⟩), .agg #[.int .i64 o.code, .int .i64 o.family, .string o.bits, .int .i64 o.len, .int .i64 o.hop]] w fun e w' => e = .returned (.tuple #[.agg #[.int .i64 a.err, .int .i64 a.hop, .int .i64 a.reads], .bool true]) ∧ ∃ b', b'.fb = fb ∧ b.moved b' w w' T.A ∧ T.ok := by
  subst hfb hT ha
  refine (one_any S o b w h hS hok).mono ?_
  rintro e w' ⟨rfl, b', hm⟩
  exact ⟨rfl, b', hm.fb, hm, (step_ok hS o).1⟩
theorem dumps_x (S T : St) (hS : S.ok) (hT : T.ok) (b c : FB) (fb gb : Nat) (w : World) (hb : b.lies w S.A) (hc : c.lies w T.A) (hM : S.M = T.M) (hZ : TzTab w) (h1 : b.fb = fb) (h2 : c.fb = gb) :
    Calls Tryd.prog 18 #[.pointer (some ⟨fb, 0, none⟩), .pointer (some ⟨gb, 0, none⟩)] w fun e w' => e = .returned (.bool true) ∧ Below w.heap.size w w' := by
  subst h1 h2
  exact dumps_any S T hS hT b c w hb hc hM hZ
end Go.Proofs.YtnapboelfimaaaaDoor
/- Bits of keys; the longest route of a dump that fits. -/
namespace Go.Proofs.YtnapboelfimaaaaDoor
/-- the bit k of a key, from the left -/
def kb (K k : Nat) : Nat := K / 2 ^ (135 - k) % 2
theorem kb_lt (K k : Nat) : kb K k < 2 := Nat.mod_lt _ (by decide)
theorem mod256_div {x j : Nat} (hj : j ≤ 7) : x % 256 / 2 ^ j % 2 = x / 2 ^ j % 2 := by
  rcases (by omega : j = 0 ∨ j = 1 ∨ j = 2 ∨ j = 3 ∨ j = 4 ∨ j = 5 ∨ j = 6 ∨ j = 7) with rfl | rfl | rfl | rfl | rfl | rfl | rfl | rfl <;> omega
theorem kb_byte {K k : Nat} (hk : k < 136) : kbyte K (k / 8) / 2 ^ (7 - k % 8) % 2 = kb K k := by
  unfold kbyte kb
  rw [mod256_div (by omega), Nat.div_div_eq_div_mul, ← Nat.pow_add, show 8 * (16 - k / 8) + (7 - k % 8) = 135 - k by omega]
theorem fit_succ {K l : Nat} (hl : l < 136) : fitK K (l + 1) = 2 * fitK K l + kb K l := by
  unfold fitK kb
  have e : K / 2 ^ (136 - l) = K / 2 ^ (135 - l) / 2 := by
    rw [Nat.div_div_eq_div_mul, ← Nat.pow_succ, show (135 - l).succ = 136 - l by omega]
  rw [e, show 136 - (l + 1) = 135 - l by omega]
  omega
theorem fit_zero {K : Nat} (h : K < 2 ^ 136) : fitK K 0 = 0 := by unfold fitK; exact Nat.div_eq_of_lt h
theorem fit_down {A B i l : Nat} (hil : i ≤ l) (hl : l ≤ 136) (h : fitK A l = fitK B l) : fitK A i = fitK B i := by
  unfold fitK at *
  have e : ∀ X : Nat, X / 2 ^ (136 - i) = X / 2 ^ (136 - l) / 2 ^ (l - i) := by
    intro X
    rw [Nat.div_div_eq_div_mul, ← Nat.pow_add, show 136 - l + (l - i) = 136 - i by omega]
  rw [e A, e B, h]
theorem fit_bit {A B i l : Nat} (hil : i < l) (hl : l ≤ 136) (h : kb A i ≠ kb B i) : fitK A l ≠ fitK B l := by
  intro e
  have e1 := fit_down (show i + 1 ≤ l by omega) hl e
  have e0 := fit_down (show i ≤ l by omega) hl e
  rw [fit_succ (by omega), fit_succ (by omega), e0] at e1
  omega
theorem kb_zero {l v h k : Nat} (h1 : l ≤ k) (h2 : k < 136) : kb (addr (l, v, h)) k = 0 := by
  unfold kb addr
  simp only
  rw [show 136 - l = (k - l + 1) + (135 - k) by omega, Nat.pow_add, ← Nat.mul_assoc, Nat.mul_div_cancel _ (Nat.two_pow_pos _), Nat.pow_succ, ← Nat.mul_assoc]
  omega
theorem fit_addr {l v h : Nat} : fitK (addr (l, v, h)) l = v := by
  unfold fitK addr
  simp only
  exact Nat.mul_div_cancel _ (Nat.two_pow_pos _)
theorem addr_lt {l v h : Nat} (hl : l ≤ 136) (hv : v < 2 ^ l) : addr (l, v, h) < 2 ^ 136 := by
  unfold addr
  simp only
  have h1 : v * 2 ^ (136 - l) < 2 ^ l * 2 ^ (136 - l) := Nat.mul_lt_mul_of_pos_right hv (Nat.two_pow_pos _)
  rw [← Nat.pow_add, show l + (136 - l) = 136 by omega] at h1
  exact h1
/-- bytes of a string that is a key's -/
theorem keyS_size (n K : Nat) : (keyS n K).size = n := by unfold keyS; simp [ByteArray.size, digL_len]
theorem keyS_byte {n K i : Nat} (hi : i < n) : sbyte (keyS n K) i = kbyte K i := by
  unfold sbyte keyS
  simp only
  rw [digL_map, List.getD_eq_getElem?_getD, List.getElem?_map, List.getElem?_range hi]
  simp only [Option.map_some, Option.getD_some, Nat.zero_add]
  have := dig_lt K i
  show (UInt8.ofNat (dig K i)).toNat = dig K i
  simp
  omega
end Go.Proofs.YtnapboelfimaaaaDoor
