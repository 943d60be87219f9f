/- NodeB, TrA, TrB: parts of the proof, one behind the other. -/
import Derived.Test.YtnapboelfimaaaaDoorK10
import Derived.Test.YtnapboelfimaaaaDoorK11
import Derived.Deep.RegionHeld3
/- The blocks of a node; the longest of its prefixes that fit. -/
namespace Go.Proofs.YtnapboelfimaaaaDoor
open Go.RowKit Go.Deep
set_option maxHeartbeats 400000 in
set_option maxRecDepth 10000 in
theorem hopBlock_any (n : NodeD) (w : World) (hn : n.ok) : Calls Tryd.prog 94 #[.agg #[.int .u16 n.routes, .int .u16 n.ways, .int .i64 n.hops, .int .i64 n.children]] w fun e w' => e = .returned (.agg #[.int .i64 n.hops, .int .i64 (ones 16 n.routes)]) ∧ Below w.heap.size w w' := by
  obtain ⟨h1, h2, h3, h4⟩ := hn
  have ho := ones_le 16 n.routes
  go_enter Tryd.func94, Tryd.ntmps94
  go_wp2
  go_region_with (go_at_call 60; refine (onesCount_any _ _ h1).mono ?_; rintro e w' ⟨rfl, nq, rfl⟩)
  all_goals go_wp2
  all_goals
    refine bodyPost_ret (v := .agg #[.int .i64 n.hops, .int .i64 (ones 16 n.routes)]) (by simp [results, Tryd.results94, go_sem]) rfl ⟨rfl, ?_⟩
    exact ((below_drewN (ext_trans (ext_alloc _ _) (ext_alloc _ _)) _).setCell (by simp) _).setCell (by simp) _
set_option maxHeartbeats 400000 in
set_option maxRecDepth 10000 in
theorem childBlock_any (n : NodeD) (w : World) (hn : n.ok) : Calls Tryd.prog 92 #[.agg #[.int .u16 n.routes, .int .u16 n.ways, .int .i64 n.hops, .int .i64 n.children]] w fun e w' => e = .returned (.agg #[.int .i64 n.children, .int .i64 ((2 * ones 16 n.ways : Nat) : Int)]) ∧ Below w.heap.size w w' := by
  obtain ⟨h1, h2, h3, h4⟩ := hn
  have ho := ones_le 16 n.ways
  go_enter Tryd.func92, Tryd.ntmps92
  go_wp2
  go_region_with (go_at_call 60; refine (onesCount_any _ _ h2).mono ?_; rintro e w' ⟨rfl, nq, rfl⟩)
  all_goals go_wp2
  all_goals
    refine bodyPost_ret (v := .agg #[.int .i64 n.children, .int .i64 ((2 * ones 16 n.ways : Nat) : Int)]) (by simp [results, Tryd.results92, go_sem]; rw [IntKind.wrap_i64]; omega) rfl ⟨rfl, ?_⟩
    exact ((below_drewN (ext_trans (ext_alloc _ _) (ext_alloc _ _)) _).setCell (by simp) _).setCell (by simp) _
end Go.Proofs.YtnapboelfimaaaaDoor
/- Nodes and first bytes are read and written. -/
namespace Go.Proofs.YtnapboelfimaaaaDoor
open Go.RowKit Go.Deep
def NodeD.agg (n : NodeD) : Value := .agg #[.int .u16 n.routes, .int .u16 n.ways, .int .i64 n.hops, .int .i64 n.children]
set_option maxHeartbeats 400000 in
set_option maxRecDepth 10000 in
theorem readNode_any (A : Ar) (ab wb rb : Nat) (x : Int) (p : Nat) (k : Int) (w : World) (h : ArAt w ab wb A) (hs : Sane A) (hx : x = p) (hp : p + 1 < A.size) (hr : w.heap[rb]? = some (.cells #[.pointer (some ⟨ab, 0, none⟩), .int .i64 k] 65 (0, 0))) (hk1 : 0 ≤ k) (hk2 : k ≤ 1000000000000) :
    Calls Tryd.prog 50 #[.pointer (some ⟨rb, 0, none⟩), .int .i64 x] w fun e w' => e = .returned (nodeAt A.word p).agg ∧ ArAt w' ab wb A ∧ w'.heap[rb]? = some (.cells #[.pointer (some ⟨ab, 0, none⟩), .int .i64 (k + 1)] 65 (0, 0)) ∧ Fr [rb] w w' := by
  subst hx
  have hsz := hs.size
  have hw1 := hs.word p
  have hw2 := hs.word (p + 1)
  have hla := h.la
  have hlw := h.lw
  have hlr := lt_of_block hr
  have E1 := hide (show bits BinOp.and IntKind.u32 (A.word (p + 1) : Int) 65535 = ((A.word (p + 1) % 65536 : Nat) : Int) by
    have := u32_and_nat (A.word (p + 1)) 65535 hw2 (by omega)
    rw [show (65535 : Nat) = 2 ^ 16 - 1 from rfl, Nat.and_two_pow_sub_one_eq_mod] at this
    exact this)
  go_enter Tryd.func50, Tryd.ntmps50
  go_wp2_with fail
  refine (read2_any A ab wb rb _ p (w.heap.size + 1) (w.heap.size + 1 + 1) (w.heap.size + 1 + 1 + 1) 2 k _ ((((h.alloc _).alloc _).alloc _).alloc _) hsz rfl hp ?_ hk1 hk2 (.int .u32 0) (.int .u32 0) ?_ ?_ ?_ ?_ (by omega) (by omega) (by omega) (by omega) (by omega)).mono ?_
  · exact block_ext hr (ext_trans (ext_trans (ext_trans (ext_alloc _ _) (ext_alloc _ _)) (ext_alloc _ _)) (ext_alloc _ _))
  · simp only [heap_al, World.size_alloc]; simp
  · simp only [heap_al, World.size_alloc]; simp
  · simp only [World.cell?, heap_al, World.size_alloc]; simp
  · simp only [World.cell?, heap_al, World.size_alloc]; simp
  rintro e w' ⟨rfl, hA', hr', hc', hd', hF'⟩
  have b0 : w'.heap[w.heap.size]? = some (.cells #[.int .u16 0, .int .u16 0, .int .i64 0, .int .i64 0] 116 (0, 0)) := by
    refine hF'.at ?_ (by simp; omega)
    simp only [heap_al, World.size_alloc]
    rw [if_neg (by omega), if_neg (by omega), if_neg (by omega), if_pos trivial]
  have d0 := cell_at b0 0
  have d1 := cell_at b0 1
  have d2 := cell_at b0 2
  have d3 := cell_at b0 3
  simp at d0 d1 d2 d3
  have f0 := free_at b0 0
  have f1 := free_at b0 1
  have f2 := free_at b0 2
  have f3 := free_at b0 3
  have k0 := cell_at hc' 0
  have k1 := cell_at hd' 0
  simp at k0 k1
  have HA := hide hA'
  have HR := hide hr'
  have HF := hide hF'
  clear hA' hr' hF' hc' hd' b0
  go_wp2
  have V1 : IntKind.u16.wrap (A.word p : Int) = ((A.word p % 65536 : Nat) : Int) := by rw [IntKind.wrap_u16]; omega
  have V2 : wrap64 (bits BinOp.and IntKind.u32 (A.word (p + 1) : Int) 65535) = ((A.word (p + 1) % 65536 : Nat) : Int) := by
    rw [E1.out, IntWalk.wrap64_in _ ⟨by omega, by omega⟩]
  have V3 : (A.word p : Int) / 65536 = ((A.word p / 65536 : Nat) : Int) := by omega
  have V4 : (A.word (p + 1) : Int) / 65536 = ((A.word (p + 1) / 65536 : Nat) : Int) := by omega
  refine bodyPost_ret (v := (nodeAt A.word p).agg) (by simp [results, Tryd.results50, go_sem, d0, d1, d2, d3]; rw [V1, V2, V3, V4]; rfl) rfl ⟨rfl, ?_, ?_, ?_⟩
  · exact (((HA.out.other (by omega) (by omega)).other (by omega) (by omega)).other (by omega) (by omega)).other (by omega) (by omega)
  · have hne : rb ≠ w.heap.size := by omega
    rw [Below.heap_setCell _ _ _ _ hne, Below.heap_setCell _ _ _ _ hne, Below.heap_setCell _ _ _ _ hne, Below.heap_setCell _ _ _ _ hne]
    exact HR.out
  · have hf : Fr [rb] w w' := Fr.after (((((Fr.refl _ _).alloc _).alloc _).alloc _).alloc _) HF.out (by
      intro y hy
      simp at hy
      rcases hy with rfl | rfl | rfl
      · left; simp
      · right; omega
      · right; omega)
    exact (((hf.setCell (Or.inr (Nat.le_refl _)) _).setCell (Or.inr (Nat.le_refl _)) _).setCell (Or.inr (Nat.le_refl _)) _).setCell (Or.inr (Nat.le_refl _)) _
theorem or_high (a b : Nat) (ha : a < 65536) (hb : b < 65536) : bits BinOp.or IntKind.u32 (a : Int) ((b : Int) * 65536) = ((a + 65536 * b : Nat) : Int) := by
  have h1 := u32_or_nat a (b * 65536) (by omega) (by omega)
  have h2 := Nat.two_pow_add_eq_or_of_lt (i := 16) (b := a) ha b
  rw [Nat.or_comm] at h2
  rw [show (b : Int) * 65536 = ((b * 65536 : Nat) : Int) by omega, h1, show b * 65536 = 2 ^ 16 * b by omega, ← h2]
  congr 1
  omega
theorem lay_two (W : Nat → Nat) (p a b : Nat) : layW W p [a, b] = setW (setW W p a) (p + 1) b := by
  funext x
  unfold layW setW
  by_cases h1 : x = p
  · subst h1; simp
  · by_cases h2 : x = p + 1
    · subst h2; simp
    · rw [if_neg (by simp; omega), if_neg h2, if_neg h1]
theorem lay_one (W : Nat → Nat) (p a : Nat) : layW W p [a] = setW W p a := by
  funext x
  unfold layW setW
  by_cases h1 : x = p
  · subst h1; simp
  · rw [if_neg (by simp; omega), if_neg h1]
set_option maxHeartbeats 400000 in
set_option maxRecDepth 10000 in
theorem writeNode_any (A : Ar) (ab wb : Nat) (x : Int) (p : Nat) (n : NodeD) (w : World) (h : ArAt w ab wb A) (hn : n.ok) (hx : x = p) (hp : p + 1 < A.size) :
    Calls Tryd.prog 105 #[.pointer (some ⟨ab, 0, none⟩), .int .i64 x, .agg #[.int .u16 n.routes, .int .u16 n.ways, .int .i64 n.hops, .int .i64 n.children]] w fun e w' => e = .returned (.tuple #[]) ∧ ArAt w' ab wb (A.putN p n) ∧ Fr [wb] w w' := by
  subst hx
  obtain ⟨n1, n2, n3, n4⟩ := hn
  have hla := h.la
  have hlw := h.lw
  have O1 := hide (or_high n.routes n.ways n1 n2)
  have O2 := hide (or_high n.hops n.children n3 n4)
  go_enter Tryd.func105, Tryd.ntmps105
  go_wp2_with fail
  rw [O1.out, O2.out]
  refine (write_any A ab wb _ p 2 2 [n.routes + 65536 * n.ways, n.hops + 65536 * n.children] _ _ ((h.alloc _).alloc _) rfl (by simp) rfl hp ?_).mono ?_
  · intro j v hj
    rw [addr_add]
    match j, hj with
    | 0, hj => simp [wordVals] at hj; subst hj; rw [cell_new (by simp)]; rfl
    | 1, hj => simp [wordVals] at hj; subst hj; rw [cell_new (by simp)]; rfl
    | j + 2, hj => simp [wordVals] at hj
  rintro e w' ⟨rfl, hA', hF'⟩
  rw [lay_two] at hA'
  have HA := hide hA'
  have HF := hide (Fr.after (((Fr.refl [wb] w).alloc _).alloc _) hF' (fun y hy => Or.inl hy))
  clear hA' hF'
  go_wp2
  go_end0
  exact ⟨rfl, HA.out, HF.out⟩
end Go.Proofs.YtnapboelfimaaaaDoor
/- First bytes; a table's nodes. -/
namespace Go.Proofs.YtnapboelfimaaaaDoor
open Go.RowKit Go.Deep
set_option maxHeartbeats 400000 in
set_option maxRecDepth 10000 in
theorem readFirst_any (A : Ar) (ab wb rb : Nat) (x : Int) (p : Nat) (k : Int) (w : World) (h : ArAt w ab wb A) (hs : Sane A) (hx : x = p) (hp : p < A.size) (hsh : A.word p / 65536 < 256) (hr : w.heap[rb]? = some (.cells #[.pointer (some ⟨ab, 0, none⟩), .int .i64 k] 65 (0, 0))) (hk1 : 0 ≤ k) (hk2 : k ≤ 1000000000000) :
    Calls Tryd.prog 40 #[.pointer (some ⟨rb, 0, none⟩), .int .i64 x] w fun e w' => e = .returned (.agg #[.int .i64 ((A.word p % 65536 : Nat) : Int), .int .u8 ((A.word p / 65536 : Nat) : Int)]) ∧ ArAt w' ab wb A ∧ w'.heap[rb]? = some (.cells #[.pointer (some ⟨ab, 0, none⟩), .int .i64 (k + 1)] 65 (0, 0)) ∧ Fr [rb] w w' := by
  subst hx
  have hsz := hs.size
  have hw1 := hs.word p
  have hla := h.la
  have hlw := h.lw
  have hlr := lt_of_block hr
  have E1 := hide (show bits BinOp.and IntKind.u32 (A.word p : Int) 65535 = ((A.word p % 65536 : Nat) : Int) by
    have := u32_and_nat (A.word p) 65535 hw1 (by omega)
    rw [show (65535 : Nat) = 2 ^ 16 - 1 from rfl, Nat.and_two_pow_sub_one_eq_mod] at this
    exact this)
  go_enter Tryd.func40, Tryd.ntmps40
  go_wp2_with fail
  refine (read1_any A ab wb rb _ p (w.heap.size + 1) (w.heap.size + 1 + 1) 1 k _ (((h.alloc _).alloc _).alloc _) hsz rfl hp ?_ hk1 hk2 (.int .u32 0) ?_ ?_ (by omega)).mono ?_
  · exact block_ext hr (ext_trans (ext_trans (ext_alloc _ _) (ext_alloc _ _)) (ext_alloc _ _))
  · simp only [heap_al, World.size_alloc]; simp
  · simp only [World.cell?, heap_al, World.size_alloc]; simp
  rintro e w' ⟨rfl, hA', hr', hc', hF'⟩
  have b0 : w'.heap[w.heap.size]? = some (.cells #[.int .i64 0, .int .u8 0] 90 (0, 0)) := by
    refine hF'.at ?_ (by simp; omega)
    simp only [heap_al, World.size_alloc]
    rw [if_neg (by omega), if_neg (by omega), if_pos trivial]
  have d0 := cell_two0 b0
  have d1 := cell_two1 b0
  have f0 := free_two 0 b0
  have f1 := free_two 1 b0
  have k0 := cell_at hc' 0
  simp at k0
  have HA := hide hA'
  have HR := hide hr'
  have HF := hide hF'
  clear hA' hr' hF' hc' b0
  go_wp2
  have V2 : wrap64 (bits BinOp.and IntKind.u32 (A.word p : Int) 65535) = ((A.word p % 65536 : Nat) : Int) := by
    rw [E1.out, IntWalk.wrap64_in _ ⟨by omega, by omega⟩]
  refine bodyPost_ret (v := .agg #[.int .i64 ((A.word p % 65536 : Nat) : Int), .int .u8 ((A.word p / 65536 : Nat) : Int)]) (by simp [results, Tryd.results40, go_sem, d0, d1]; rw [V2]; omega) rfl ⟨rfl, ?_, ?_, ?_⟩
  · exact (HA.out.other (by omega) (by omega)).other (by omega) (by omega)
  · have hne : rb ≠ w.heap.size := by omega
    rw [Below.heap_setCell _ _ _ _ hne, Below.heap_setCell _ _ _ _ hne]
    exact HR.out
  · have hf : Fr [rb] w w' := Fr.after ((((Fr.refl _ _).alloc _).alloc _).alloc _) HF.out (by
      intro y hy
      simp at hy
      rcases hy with rfl | rfl
      · left; simp
      · right; omega)
    exact (hf.setCell (Or.inr (Nat.le_refl _)) _).setCell (Or.inr (Nat.le_refl _)) _
set_option maxHeartbeats 400000 in
set_option maxRecDepth 10000 in
theorem writeFirst_any (A : Ar) (ab wb : Nat) (x : Int) (p nd sh : Nat) (w : World) (h : ArAt w ab wb A) (h1 : nd < 65536) (h2 : sh < 256) (hx : x = p) (hp : p < A.size) :
    Calls Tryd.prog 102 #[.pointer (some ⟨ab, 0, none⟩), .int .i64 x, .agg #[.int .i64 nd, .int .u8 sh]] w fun e w' => e = .returned (.tuple #[]) ∧ ArAt w' ab wb { A with word := setW A.word p (nd + 65536 * sh) } ∧ Fr [wb] w w' := by
  subst hx
  have hla := h.la
  have hlw := h.lw
  have O1 := hide (or_high nd sh h1 (by omega))
  go_enter Tryd.func102, Tryd.ntmps102
  go_wp2_with fail
  rw [O1.out]
  refine (write_any A ab wb _ p 1 1 [nd + 65536 * sh] _ _ ((h.alloc _).alloc _) rfl (by simp) rfl hp ?_).mono ?_
  · intro j v hj
    rw [addr_add]
    match j, hj with
    | 0, hj => simp [wordVals] at hj; subst hj; rw [cell_new (by simp)]; rfl
    | j + 1, hj => simp [wordVals] at hj
  rintro e w' ⟨rfl, hA', hF'⟩
  rw [lay_one] at hA'
  have HA := hide hA'
  have HF := hide (Fr.after (((Fr.refl [wb] w).alloc _).alloc _) hF' (fun y hy => Or.inl hy))
  clear hA' hF'
  go_wp2
  go_end0
  exact ⟨rfl, HA.out, HF.out⟩
set_option maxHeartbeats 400000 in
theorem reader_any (ab : Nat) (w : World) : Calls Tryd.prog 30 #[.pointer (some ⟨ab, 0, none⟩)] w fun e w' => e = .returned (.agg #[.pointer (some ⟨ab, 0, none⟩), .int .i64 0]) ∧ Below w.heap.size w w' := by
  go_enter Tryd.func30, Tryd.ntmps30
  go_wp2
  refine bodyPost_ret (v := .agg #[.pointer (some ⟨ab, 0, none⟩), .int .i64 0]) (by simp [results, Tryd.results30, go_sem]) rfl ⟨rfl, ?_⟩
  exact ext_alloc _ _
end Go.Proofs.YtnapboelfimaaaaDoor
