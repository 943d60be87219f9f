/- RoD, KeeA, KeeB: parts of the proof, one behind the other. -/
import Derived.Test.YtnapboelfimaaaaDoorK00
import Derived.Test.YtnapboelfimaaaaDoorK32
/- Routes, and rows of them. -/
namespace Go.Proofs.YtnapboelfimaaaaDoor
open Go.RowKit Go.Deep
theorem ret_int {k : IntKind} {a b : Int} (h : a = b) : Ending.returned (.int k a) = .returned (.int k b) := by rw [h]
/-- a route -/
structure RouteD where
  bits : ByteArray
  len : Int
  hop : Int
def RouteD.cells (r : RouteD) : List Value := [.string r.bits, .int .i64 r.len, .int .i64 r.hop]
def RouteD.agg (r : RouteD) : Value := .agg #[.string r.bits, .int .i64 r.len, .int .i64 r.hop]
def flatR (l : List RouteD) : List Value := l.flatMap RouteD.cells
theorem infoRoute : (Tryd.prog.info? 47).map (fun i => (i.zero, i.size, i.bytes)) = some (some (.agg #[.string .empty, .int .i64 0, .int .i64 0]), 3, 32) := by kernel_rfl
def RouteD.zero : RouteD := ⟨.empty, 0, 0⟩
theorem flatR_len (l : List RouteD) : (flatR l).length = l.length * 3 := by
  unfold flatR
  induction l with
  | nil => rfl
  | cons o l ih => rw [List.flatMap_cons, List.length_append, ih]; simp [RouteD.cells]; omega
theorem flatR_get (l : List RouteD) (k j : Nat) (hk : k < l.length) (hj : j < 3) : (flatR l)[k * 3 + j]? = ((l.getD k RouteD.zero).cells)[j]? := by
  unfold flatR
  induction l generalizing k with
  | nil => simp at hk
  | cons o l ih =>
    rw [List.flatMap_cons]
    cases k with
    | zero =>
      rw [Nat.zero_mul, Nat.zero_add, List.getElem?_append_left (by simp [RouteD.cells]; omega)]
      rfl
    | succ k =>
      rw [List.getElem?_append_right (by simp [RouteD.cells]; omega)]
      have e : (k + 1) * 3 + j - o.cells.length = k * 3 + j := by simp [RouteD.cells]; omega
      rw [e, ih k (by simpa using hk)]
      rfl
theorem flatR_snoc (l : List RouteD) (r : RouteD) : flatR (l ++ [r]) = flatR l ++ r.cells := by simp [flatR]
theorem flatR_append (l m : List RouteD) : flatR (l ++ m) = flatR l ++ flatR m := by simp [flatR]
/-- the cells of one route of a row -/
theorem route_cells {w : World} {base k : Nat} {ao : Option Addr} {cap : Nat} {l : List RouteD} (h : w.ownsRow base 47 3 (.slice ao l.length cap) l.length (flatR l)) (hk : k < l.length) :
    ∃ g, ao = some ⟨g, 0, none⟩ ∧ g < w.heap.size ∧ w.cell? ⟨g, k * 3, none⟩ = some (.string (l.getD k RouteD.zero).bits) ∧ w.cell? ⟨g, k * 3 + 1, none⟩ = some (.int .i64 (l.getD k RouteD.zero).len) ∧ w.cell? ⟨g, k * 3 + 2, none⟩ = some (.int .i64 (l.getD k RouteD.zero).hop) := by
  rcases h.2 with ⟨e, e0⟩ | ⟨g, cp, cur, e, hb, hh, r⟩
  · omega
  · cases e
    have c := fun j (hj : j < 3) => (h.cellAt (k * 3 + j) (by omega)).trans (flatR_get l k j hk hj)
    exact ⟨g, rfl, lt_of_block hh, c 0 (by omega), c 1 (by omega), c 2 (by omega)⟩
theorem route_news (w : World) (o : RouteD) (t : TypeId) : ∀ j u, o.cells[j]? = some u → (w.alloc (.cells #[.string o.bits, .int .i64 o.len, .int .i64 o.hop] t)).cell? ((⟨w.heap.size, 0, none⟩ : Addr).add j) = some u := by
  intro j u hj
  have e : (⟨w.heap.size, 0, none⟩ : Addr).add j = ⟨w.heap.size, j, none⟩ := by unfold Addr.add; split <;> simp_all
  rw [e, cell_new rfl]
  simpa [RouteD.cells] using hj
theorem route_one (o : RouteD) : ∀ u ∈ o.cells, u.oneCell' = true := by
  intro u hu
  simp only [RouteD.cells, List.mem_cons, List.not_mem_nil, or_false] at hu
  rcases hu with rfl | rfl | rfl <;> rfl
theorem owns_below {w w' : World} {B base : Nat} {e : TypeId} {size : Nat} {v : Value} {n : Nat} {xs : List Value} (h : w.ownsRow base e size v n xs) (hB : w.heap.size ≤ B) (hb : Below B w w') : w'.ownsRow base e size v n xs :=
  owns_ext h (hb.mono hB)
theorem owns_base {w : World} {base base' : Nat} {e : TypeId} {size : Nat} {v : Value} {n : Nat} {xs : List Value} (h : w.ownsRow base e size v n xs) (hb : base' ≤ base) : w.ownsRow base' e size v n xs := by
  refine ⟨h.1, ?_⟩
  rcases h.2 with h0 | ⟨g, cap, cur, e, hg, r⟩
  · exact .inl h0
  · exact .inr ⟨g, cap, cur, e, Nat.le_trans hb hg, r⟩
end Go.Proofs.YtnapboelfimaaaaDoor
/- Of the laws' own functions: pick, words, fib. -/
namespace Go.Proofs.YtnapboelfimaaaaDoor
open Go.RowKit Go.Deep
def pickN (c : Int) (n : Nat) : Nat := (if c < 0 then -(c + 1) else c).toNat % n
def wordsN (c : Int) : Nat := if pickN c 8 < 6 then 2048 + 100 * pickN c 8 else 2048 + pickN c 63489
theorem wordsN_in (c : Int) : 2048 ≤ wordsN c ∧ wordsN c ≤ 65536 := by
  unfold wordsN
  have h1 : pickN c 63489 < 63489 := Nat.mod_lt _ (by decide)
  split <;> omega
theorem tmod_nat (m n : Nat) : (m : Int).tmod (n : Int) = ((m % n : Nat) : Int) := (Int.ofNat_tmod m n).symm
set_option maxHeartbeats 400000 in
theorem pick_any (c x : Int) (n : Nat) (w : World) (h1 : -9223372036854775808 ≤ c) (h2 : c ≤ 9223372036854775807) (hx : x = (n : Nat)) (hn : 0 < n) (hn2 : n ≤ 65536) :
    Calls Tryd.prog 20 #[.int .i64 c, .int .i64 x] w fun e w' => e = .returned (.int .i64 (pickN c n : Nat)) ∧ w' = w := by
  subst hx
  have hn0 : ((n : Int) == 0) = false := by simp; omega
  by_cases hc : c < 0
  · obtain ⟨m, hm⟩ : ∃ m : Nat, c + 1 = -(m : Int) := ⟨(-(c + 1)).toNat, by omega⟩
    have HM := hide hm
    clear hm
    go_enter Tryd.func20, Tryd.ntmps20
    go_wp2
    go_ret
    refine ⟨ret_int ?_, rfl⟩
    have e : pickN c n = m % n := by
      unfold pickN
      rw [if_pos hc, HM.out, Int.neg_neg, Int.toNat_natCast]
    rw [e, HM.out, Int.neg_tmod, Int.neg_neg, tmod_nat]
  · have hc' : 0 ≤ c := by omega
    go_enter Tryd.func20, Tryd.ntmps20
    go_wp2
    go_ret
    refine ⟨ret_int ?_, rfl⟩
    unfold pickN
    rw [if_neg (by omega)]
    obtain ⟨m, rfl⟩ := Int.eq_ofNat_of_zero_le hc'
    rfl
set_option maxHeartbeats 400000 in
set_option maxRecDepth 10000 in
theorem words_any (c : Int) (w : World) (h1 : -9223372036854775808 ≤ c) (h2 : c ≤ 9223372036854775807) :
    Calls Tryd.prog 11 #[.int .i64 c] w fun e w' => e = .returned (.int .i64 (wordsN c : Nat)) ∧ w' = w := by
  have hp := pickN c 8
  by_cases h6 : pickN c 8 < 6
  · have h6' : (pickN c 8 : Int) < 6 := by omega
    have E := hide (show wordsN c = 2048 + 100 * pickN c 8 by unfold wordsN; rw [if_pos h6])
    go_enter Tryd.func11, Tryd.ntmps11
    go_wp2_with (go_at_call 20; refine (pick_any c 8 8 _ h1 h2 (by omega) (by omega) (by omega)).mono ?_; rintro e w' ⟨rfl, rfl⟩)
    go_ret
    exact ⟨by rw [E.out]; simp, rfl⟩
  · have h6' : ¬ (pickN c 8 : Int) < 6 := by omega
    have E := hide (show wordsN c = 2048 + pickN c 63489 by unfold wordsN; rw [if_neg h6])
    have h7 : pickN c 63489 < 63489 := Nat.mod_lt _ (by decide)
    go_enter Tryd.func11, Tryd.ntmps11
    go_wp2_with fail
    refine (pick_any c 8 8 _ h1 h2 (by omega) (by omega) (by omega)).mono ?_
    rintro e w' ⟨rfl, rfl⟩
    go_wp2_with fail
    refine (pick_any c 63489 63489 _ h1 h2 (by omega) (by omega) (by omega)).mono ?_
    rintro e w' ⟨rfl, rfl⟩
    go_wp2
    go_ret
    exact ⟨by rw [E.out]; simp, rfl⟩
/-- a new Fib, of new blocks -/
theorem fib_any (n : Nat) (w : World) (h : 2048 ≤ n) (h2 : n ≤ 65536) :
    Calls Tryd.prog 10 #[.int .i64 (n : Int)] w fun e w' => e = .returned (.pointer (some ⟨w.heap.size + 3, 0, none⟩)) ∧ Below w.heap.size w w' ∧ FB.lies ⟨w.heap.size + 3, w.heap.size + 2, w.heap.size + 1, w.heap.size⟩ w' (newAr n) := by
  go_enter Tryd.func10, Tryd.ntmps10
  go_wp2_with (go_at_call 19; refine (fibNew_any n _ h h2).mono ?_; rintro e w' ⟨rfl, hb, hf⟩)
  go_ret
  exact ⟨rfl, hb, hf⟩
end Go.Proofs.YtnapboelfimaaaaDoor
/- Of the laws' own functions: one. -/
namespace Go.Proofs.YtnapboelfimaaaaDoor
open Go.RowKit Go.Deep
def OpD.arr (o : OpD) : Array Value := #[.int .i64 o.code, .int .i64 o.family, .string o.bits, .int .i64 o.len, .int .i64 o.hop]
theorem ops_one {o : OpD} (h : o.ok) : OpsIn o.arr 0 [o] := by
  refine ⟨fun j p hj => ?_, fun p hp => by simp at hp; subst hp; exact h⟩
  cases j with
  | zero => cases hj; exact ⟨rfl, rfl, rfl, rfl, rfl⟩
  | succ j => simp at hj
set_option maxHeartbeats 1000000 in
set_option maxRecDepth 10000 in
theorem one_any (S : St) (o : OpD) (b : FB) (w : World) (h : b.lies w S.A) (hS : S.ok) (hok : o.ok) :
    Calls Tryd.prog 14 #[.pointer (some ⟨b.fb, 0, none⟩), .agg o.arr] w fun e w' => e = .returned (.tuple #[(S.step o).2.val, .bool true]) ∧ ∃ b', b.moved b' w w' (S.step o).1.A := by
  obtain ⟨l0, l1, l2, l3⟩ := h.lt
  obtain ⟨wx, hwx⟩ : ∃ wx, wx = ((w.alloc (.cells #[.int .i64 o.code, .int .i64 o.family, .string o.bits, .int .i64 o.len, .int .i64 o.hop] 37)).alloc (.cells #[.int .i64 0, .int .i64 0, .int .i64 0] 33)).alloc (.cells #[.int .i64 o.code, .int .i64 o.family, .string o.bits, .int .i64 o.len, .int .i64 o.hop] 37) := ⟨_, rfl⟩
  have hbx : Below w.heap.size w wx := by rw [hwx]; exact ext_trans (ext_trans (ext_alloc _ _) (ext_alloc _ _)) (ext_alloc _ _)
  have b1 : wx.heap[w.heap.size + 1]? = some (.cells #[.int .i64 0, .int .i64 0, .int .i64 0] 33 (0, 0)) := by rw [hwx, heap_al, if_neg (by simp), heap_al, if_pos (by simp)]
  have b2 : wx.heap[w.heap.size + 1 + 1]? = some (.cells o.arr 37 (0, 0)) := by rw [hwx, heap_al, if_pos (by simp)]; rfl
  have hlx := lt_of_block b2
  obtain ⟨a, ha⟩ : ∃ a, a = (S.step o).2 := ⟨_, rfl⟩
  obtain ⟨A1, hA1⟩ : ∃ A1, A1 = (S.step o).1.A := ⟨_, rfl⟩
  have hrun : Calls Tryd.prog 12 #[.pointer (some ⟨b.fb, 0, none⟩), .slice (some ⟨w.heap.size + 1 + 1, 0, none⟩) 1 1] wx fun e w' => e = .returned (.slice (some ⟨wx.heap.size, 0, none⟩) 1 1) ∧ Moved wx w' b.tb b.ab b.wb (S.step o).1.A ∧ ∃ X, w'.heap[wx.heap.size]? = some (.cells X 33 (0, 0)) ∧ AnsIn X 1 [(S.step o).2] :=
    run_any S [o] b.fb b.tb b.ab b.wb (w.heap.size + 1 + 1) 0 1 o.arr 37 wx (h.ext hbx) hS b2 (ops_one hok) (by omega) (by omega) (by omega) (by simp)
  rw [← ha, ← hA1] at hrun ⊢
  have HR := hide hrun
  have HB := hide (And.intro hbx (And.intro b1 h))
  have HWX := hide hwx
  clear hwx hbx b1 b2 h hrun ha hA1
  go_enter Tryd.func14, Tryd.ntmps14
  simp only [OpD.arr]
  go_wp2_with fail
  rw [← HWX.out]
  refine HR.out.mono ?_
  rintro e w3 ⟨rfl, hM, X, hXX, hA⟩
  obtain ⟨x0, x1, x2⟩ := hA.get 0 a rfl
  rw [← cell_at hXX] at x0 x1 x2
  rw [Nat.zero_mul] at x0 x1 x2
  rw [Nat.zero_add] at x1 x2
  have hr3 := hM.2.at HB.out.2.1 (by simp; omega)
  obtain ⟨z0, z1, z2⟩ := cells3 hr3
  have f0 := free_at hr3 0
  have f1 := free_at hr3 1
  have f2 := free_at hr3 2
  have hlr := lt_of_block hr3
  have hlX := lt_of_block hXX
  obtain ⟨xb, hxb⟩ : ∃ xb, xb = wx.heap.size := ⟨_, rfl⟩
  obtain ⟨qb, hqb⟩ : ∃ qb, qb = w.heap.size + 1 := ⟨_, rfl⟩
  rw [← hxb] at x0 x1 x2 hlX ⊢
  rw [← hqb] at z0 z1 z2 f0 f1 f2 hlr hr3 ⊢
  have HM := hide hM
  have HR3 := hide hr3
  have hqw : w.heap.size ≤ qb := by omega
  have hX := store3 (c0 := .int .i64 a.err) (c1 := .int .i64 a.hop) (c2 := .int .i64 a.reads) hr3
  have hD := Moved.done (v0 := .int .i64 a.err) (v1 := .int .i64 a.hop) (v2 := .int .i64 a.reads) HB.out.1 hM (b := qb) hqw (by omega) l1 l2 l3
  have HX := hide (And.intro hX hD)
  clear hM hr3 hA hXX hX hxb hqb hD
  go_wp2
  obtain ⟨w9, hw9⟩ : ∃ w9, w9 = (((w3.setCell ⟨qb, 0, none⟩ (.int .i64 a.err)).setCell ⟨qb, 1, none⟩ (.int .i64 a.hop)).setCell ⟨qb, 2, none⟩ (.int .i64 a.reads)) := ⟨_, rfl⟩
  have hX := HX.out
  rw [← hw9] at hX ⊢
  clear z0 z1 z2
  obtain ⟨y0, y1, y2⟩ := cells3 hX.1
  exact bodyPost_ret (v := .tuple #[a.val, .bool true]) (by simp [results, Tryd.results14, go_sem, Ans.val, y0, y1, y2]) rfl ⟨rfl, FB.move HB.out.2.2 hX.2⟩
end Go.Proofs.YtnapboelfimaaaaDoor
