/- ArE, ArF, BitsA: parts of the proof, one behind the other. -/
import Derived.Test.YtnapboelfimaaaaDoorK00
import Derived.Test.YtnapboelfimaaaaDoorK06
import Derived.Test.YtnapboelfimaaaaDoorK09
import Derived.Deep.RegionLaw
import Derived.BigQuiet
import Derived.Deep.QuietTactic
import Derived.Laws.BitsAllLaws
import Derived.Lib.BitFns
/- Blocks grow and shrink. -/
namespace Go.Proofs.YtnapboelfimaaaaDoor
open Go.RowKit Go.Deep
set_option maxHeartbeats 400000 in
set_option maxRecDepth 10000 in
theorem shrink_any (A : Ar) (ab wb b n : Nat) (gap less : Nat) (w : World) (h : ArAt w ab wb A) (hs : Sane A) (h1 : 1 ≤ less) (h2 : n ≤ 32) (h3 : gap + less ≤ n) (h4 : b + n ≤ A.size) (p : Nat) (hp : p = if n = less then 0 else b) :
    Calls Tryd.prog 115 #[.pointer (some ⟨ab, 0, none⟩), .agg #[.int .i64 b, .int .i64 n], .int .i64 gap, .int .i64 less] w fun e w' => e = .returned (.agg #[.int .i64 p, .int .i64 ((n - less : Nat) : Int)]) ∧ ArAt w' ab wb (A.shrink b n gap less) ∧ Fr [ab, wb] w w' := by
  have c0 := h.slice
  have hsz := hs.size
  have hla := h.la
  have hlw := h.lw
  have i1 : (b : Int) + n ≤ A.size := by omega
  have i2 : (b : Int) + n ≤ 65536 := by omega
  have i3 : (gap : Int) + less ≤ n := by omega
  have i4 : (n : Int) ≤ 32 := by omega
  have HA := hide h
  have HS := hide hs
  obtain ⟨ns, hns⟩ : ∃ ns, ns = (List.range (n - gap - less)).map fun i => A.word (b + gap + less + i) := ⟨_, rfl⟩
  have HN := hide hns
  have hnl : ns.length = n - gap - less := by rw [hns]; simp
  have HL := hide hnl
  clear h hs hns hnl
  go_enter Tryd.func115, Tryd.ntmps115
  go_wp2
  go_quiet (fail)
  obtain ⟨gl, hgl⟩ : ∃ gl, gl = gap + less := ⟨_, rfl⟩
  have hwr : IntKind.i64.wrap ((gap : Int) + less) = (gl : Int) := by rw [IntKind.wrap_i64]; omega
  have g1 : gap ≤ n := by omega
  have g2 : A.size - b ≠ gap := by omega
  have g3 : gl ≤ n := by omega
  have g4 : (gl : Int) ≤ n := by omega
  have HG := hide hgl
  have C1 := hide (show ns.length = Nat.min (n - gl) (n - gap) by rw [HL.out]; exact (by omega : n - gap - less = min (n - gl) (n - gap)))
  have C3 := hide (show b + gap + ns.length ≤ A.size by rw [HL.out]; omega)
  obtain ⟨sp, hsp⟩ : ∃ sp : Option Addr, (if A.size - b = gl then some ⟨wb, b, none⟩ else some ⟨wb, b + gl, none⟩) = sp := ⟨_, rfl⟩
  have C2 := hide (show ∀ w', ArAt w' ab wb A → 0 < ns.length → ∃ ad, sp = some ad ∧ ∀ j v, (wordVals ns)[j]? = some v → w'.cell? (ad.add j) = some v from by
    intro w' hw' hpos
    rw [HL.out] at hpos
    refine ⟨⟨wb, b + gl, none⟩, ?_, ?_⟩
    · rw [← hsp, if_neg (by omega)]
    · rw [HN.out, hgl, ← Nat.add_assoc]
      exact src_words hw' _ _ (by omega))
  clear hgl
  go_wp2
  go_region_law (refine step_copy_words rfl (.tmp 24) (.tmp 29) rfl rfl (some ⟨wb, b + gap, none⟩) sp (n - gap) (A.size - b - gap) (n - gl) (A.size - b - gl) (by simp [Act.eval, Act.put]) (by simp [Act.eval, Act.put]) A ab wb (b + gap) (((HA.out.alloc _).alloc _).drewN _).drew ns C1.out (fun hp => ⟨rfl, C2.out _ (((HA.out.alloc _).alloc _).drewN _).drew hp⟩) C3.out ?_; intro w4 hA4 hF4)
  have b4 : w4.heap[w.heap.size]? = some (.cells #[.int .i64 b, .int .i64 n] 146 (0, 0)) := by
    refine hF4.at ?_ (by simp; omega)
    show ((w.alloc _).alloc _).heap[w.heap.size]? = _
    rw [Below.heap_alloc _ _ _ (by simp)]
    exact heap_alloc_new _ _
  have b5 : w4.heap[w.heap.size + 1]? = some (.cells #[.int .i64 0, .int .i64 0] 146 (0, 0)) := by
    refine hF4.at ?_ (by simp; omega)
    show ((w.alloc _).alloc _).heap[w.heap.size + 1]? = _
    have := heap_alloc_new (w.alloc (.cells #[.int .i64 b, .int .i64 n] 146)) (.cells #[.int .i64 0, .int .i64 0] 146)
    simpa using this
  have k0 := cell_two0 b4
  have k1 := cell_two1 b4
  have k2 := cell_two0 b5
  have k3 := cell_two1 b5
  have k4 := free_two 0 b5
  have k5 := free_two 1 b5
  have HA4 := hide hA4
  have HF4 := hide hF4
  have B4 := hide b4
  have B5 := hide b5
  clear hA4 hF4 b4 b5
  have i6 : (less : Int) ≤ n := by omega
  go_wp2_with fail
  refine (give_at _ ab wb _ _ (b + n - less) less _ HA4.out ?_ rfl (by omega) ?_ ?_ ?_ ?_).mono ?_
  · omega
  · intro _; show b + n - less < A.size; omega
  · intro _
    show A.given less < 65536
    rcases HS.out.given less (by omega) (by omega) with q | q <;> omega
  · show -100000 ≤ A.free
    have := HS.out.free1; omega
  · show A.free ≤ 100000
    have := HS.out.free2; omega
  rintro e w5 ⟨rfl, hA5, hF5⟩
  have hB : ({ A with word := layW A.word (b + gap) ns } : Ar).give (b + n - less) less = A.shrink b n gap less := by
    unfold Ar.shrink
    rw [HN.out, lay_copy]
    rfl
  rw [hB] at hA5
  have b4 : w5.heap[w.heap.size]? = some (.cells #[.int .i64 b, .int .i64 n] 146 (0, 0)) := hF5.at B4.out (by simp; omega)
  have b5 : w5.heap[w.heap.size + 1]? = some (.cells #[.int .i64 0, .int .i64 0] 146 (0, 0)) := hF5.at B5.out (by simp; omega)
  have m0 := cell_two0 b4
  have m1 := cell_two1 b4
  have m2 := cell_two0 b5
  have m3 := cell_two1 b5
  have m4 := free_two 0 b5
  have m5 := free_two 1 b5
  have HA5 := hide hA5
  have HF5 := hide (show Fr [ab, wb] w w5 from ((((Fr.refl _ _).alloc _).alloc _).drewN _).drew.trans ((HF4.out.mono (fun k hk _ => by simp at hk ⊢; exact Or.inr hk)).trans hF5))
  clear hA5 hF5 b4 b5 hB HA4 HF4 B4 B5
  by_cases hn : n = less
  · have e0 : ((n : Int) == less) = true := by simp; omega
    rw [if_pos hn] at hp
    have HP := hide hp
    have HZ := hide (show n - less = 0 by omega)
    clear hn hp
    go_wp2
    refine bodyPost_ret (v := .agg #[.int .i64 p, .int .i64 ((n - less : Nat) : Int)]) (by rw [HP.out, HZ.out]; simp [results, Tryd.results115, go_sem, m2, m3]) rfl ⟨rfl, ?_, ?_⟩
    · exact (HA5.out.other (by omega) (by omega)).other (by omega) (by omega)
    · exact (HF5.out.setCell (Or.inr (by omega)) _).setCell (Or.inr (by omega)) _
  · have e0 : ((n : Int) == less) = false := by simp; omega
    rw [if_neg hn] at hp
    have HP := hide hp
    have HZ := hide (show ((n - less : Nat) : Int) = (n : Int) - less by omega)
    clear hp
    go_wp2
    refine bodyPost_ret (v := .agg #[.int .i64 p, .int .i64 ((n - less : Nat) : Int)]) (by rw [HP.out, HZ.out]; simp [results, Tryd.results115, go_sem, m2, m3]) rfl ⟨rfl, ?_, ?_⟩
    · exact (HA5.out.other (by omega) (by omega)).other (by omega) (by omega)
    · exact (HF5.out.setCell (Or.inr (by omega)) _).setCell (Or.inr (by omega)) _
end Go.Proofs.YtnapboelfimaaaaDoor
/- A block grows. -/
namespace Go.Proofs.YtnapboelfimaaaaDoor
open Go.RowKit Go.Deep
theorem give_sane {A : Ar} {b n : Nat} (h : Sane A) (hn : n ≤ 32) (hb : n ≠ 0 → b + n ≤ A.size) (h1 : A.free + n ≤ 70000) : Sane (A.give b n) := by
  unfold Ar.give
  by_cases hz : n = 0
  · rw [if_pos hz]; exact h
  · rw [if_neg hz]
    have hg := h.given n (by omega) hn
    have hs := h.size
    refine ⟨h.size, h.top, ?_, ?_, ?_, ?_⟩
    · intro s hs0 hs
      by_cases e : s = n
      · subst e; simp only [setW_same]; exact Or.inr (hb hz)
      · simp only [setW_ne e]; exact h.given s hs0 hs
    · intro a
      by_cases e : a = b
      · subst e; simp only [setW_same]; rcases hg with q | q <;> omega
      · simp only [setW_ne e]; exact h.word a
    · show -50000 ≤ A.free + n
      have := h.free1; omega
    · exact h1
set_option maxHeartbeats 400000 in
set_option maxRecDepth 10000 in
theorem grow_any (A : Ar) (ab wb b n gap more : Nat) (w : World) (h : ArAt w ab wb A) (hs : Sane A) (h1 : 1 ≤ more) (h2 : n + more ≤ 32) (h3 : gap ≤ n) (h4 : b + n ≤ A.size) (h5 : b < A.size)
    (hB : ∀ x B, A.take (n + more) = (B, some x) → B.size = A.size ∧ x + (n + more) ≤ A.size ∧ (n ≠ 0 → B.given n < 65536) ∧ -100000 ≤ B.free ∧ B.free ≤ 100000) (Q : Ending → World → Prop)
    (q1 : ∀ x B w', A.grow b n gap more = (B, some x) → ArAt w' ab wb B → Fr [ab, wb] w w' → Q (.returned (.tuple #[.agg #[.int .i64 (x : Nat), .int .i64 ((n + more : Nat) : Int)], .bool true])) w')
    (q0 : ∀ w', A.grow b n gap more = (A, none) → ArAt w' ab wb A → Fr [ab, wb] w w' → Q (.returned (.tuple #[.agg #[.int .i64 0, .int .i64 0], .bool false])) w') :
    Calls Tryd.prog 104 #[.pointer (some ⟨ab, 0, none⟩), .agg #[.int .i64 b, .int .i64 n], .int .i64 gap, .int .i64 more] w Q := by
  have hla := h.la
  have hlw := h.lw
  have hsz := hs.size
  have i1 : (b : Int) + n ≤ A.size := by omega
  have i2 : (b : Int) + n ≤ 65536 := by omega
  have g0 : A.size ≠ b := by omega
  have i4 : (n : Int) + more ≤ 32 := by omega
  obtain ⟨nm, hnm⟩ : ∃ nm, n + more = nm := ⟨_, rfl⟩
  have e1 : (n : Int) + more = (nm : Int) := by omega
  have HNM := hide hnm
  have HA := hide h
  have HS := hide hs
  have Q1 := hide q1
  have Q0 := hide q0
  have HB := hide hB
  clear h hs q1 q0 hB hnm
  go_enter Tryd.func104, Tryd.ntmps104
  go_wp2_with fail
  refine take_any A ab wb nm _ ?_ HS.out ?_ ?_ _ ?_ ?_
  · exact (HA.out.alloc _).alloc _
  · have := HNM.out; omega
  · have := HNM.out; omega
  · intro x B w1 ht hA1 hF1
    have hbs := HB.out x B (by rw [HNM.out]; exact ht)
    rw [HNM.out] at hbs
    obtain ⟨s1, s2, s3, s4, s5⟩ := hbs
    have b4 : w1.heap[w.heap.size]? = some (.cells #[.int .i64 b, .int .i64 n] 146 (0, 0)) := by
      refine hF1.at ?_ (by simp; omega)
      rw [Below.heap_alloc _ _ _ (by simp)]
      exact heap_alloc_new _ _
    have b5 : w1.heap[w.heap.size + 1]? = some (.cells #[.int .i64 0, .int .i64 0] 146 (0, 0)) := by
      refine hF1.at ?_ (by simp; omega)
      have := heap_alloc_new (w.alloc (.cells #[.int .i64 b, .int .i64 n] 146)) (.cells #[.int .i64 0, .int .i64 0] 146)
      simpa using this
    have k0 := cell_two0 b4
    have k1 := cell_two1 b4
    have k2 := cell_two0 b5
    have k3 := cell_two1 b5
    have k4 := free_two 0 b5
    have k5 := free_two 1 b5
    have c0 := hA1.slice
    rw [s1] at c0
    have hsz1 : w.heap.size + 1 < w1.heap.size := by have := hF1.size; simp at this; omega
    have hsz2 : w.heap.size < w1.heap.size := by omega
    have hsz3 : ab < w1.heap.size := by omega
    have hsz4 : wb < w1.heap.size := by omega
    have HT := hide ht
    have HA1 := hide hA1
    have HF1 := hide hF1
    have B4 := hide b4
    have B5 := hide b5
    have S3 := hide s3
    have S1 := hide s1
    have i5 : (x : Int) + nm ≤ A.size := by omega
    clear ht hA1 hF1 b4 b5 s3 s1
    obtain ⟨ns1, hns1⟩ : ∃ ns, ns = (List.range gap).map fun i => B.word (b + i) := ⟨_, rfl⟩
    have N1 := hide hns1
    have L1 := hide (show ns1.length = gap by rw [hns1]; simp)
    obtain ⟨W1, hW1⟩ : ∃ W, W = layW B.word x ns1 := ⟨_, rfl⟩
    have HW1 := hide hW1
    obtain ⟨ns2, hns2⟩ : ∃ ns, ns = (List.range (n - gap)).map fun i => W1 (b + gap + i) := ⟨_, rfl⟩
    have N2 := hide hns2
    have L2 := hide (show ns2.length = n - gap by rw [hns2]; simp)
    have C1 := hide (show ns1.length = Nat.min gap (A.size - x) by rw [L1.out]; have := HNM.out; exact (by omega : gap = min gap (A.size - x)))
    have C3 := hide (show x + ns1.length ≤ B.size by rw [L1.out, S1.out]; have := HNM.out; omega)
    have C2 := hide (show ∀ w', ArAt w' ab wb B → ∀ j v, (wordVals ns1)[j]? = some v → w'.cell? ((⟨wb, b, none⟩ : Addr).add j) = some v from by
      intro w' hw'
      rw [hns1]
      exact src_words hw' _ _ (by rw [S1.out]; omega))
    have g1 : A.size ≠ x := by have := HNM.out; omega
    have g2 : x ≤ A.size := by omega
    have g3 : gap ≤ A.size - b := by omega
    have g4 : (gap : Int) ≤ n := by omega
    obtain ⟨xg, hxg⟩ : ∃ y, y = x + gap := ⟨_, rfl⟩
    obtain ⟨xgm, hxgm⟩ : ∃ y, y = x + gap + more := ⟨_, rfl⟩
    have hw1 : IntKind.i64.wrap ((x : Int) + gap) = (xg : Int) := by rw [IntKind.wrap_i64]; omega
    have hw2 : IntKind.i64.wrap ((xg : Int) + more) = (xgm : Int) := by rw [IntKind.wrap_i64]; omega
    have XG := hide hxgm
    have g5 : xgm ≤ A.size := by have := HNM.out; omega
    have g6 : (xgm : Int) ≤ A.size := by omega
    obtain ⟨dp, hdp⟩ : ∃ dp : Option Addr, (if A.size = xgm then some ⟨wb, 0, none⟩ else some ⟨wb, xgm, none⟩) = dp := ⟨_, rfl⟩
    obtain ⟨sp, hsp⟩ : ∃ sp : Option Addr, (if A.size - b = gap then some ⟨wb, b, none⟩ else some ⟨wb, b + gap, none⟩) = sp := ⟨_, rfl⟩
    have D1 := hide (show ns2.length = Nat.min (n - gap) (A.size - xgm) by rw [L2.out]; have := HNM.out; exact (by omega : n - gap = min (n - gap) (A.size - xgm)))
    have D3 := hide (show xgm + ns2.length ≤ B.size by rw [L2.out, S1.out]; have := HNM.out; omega)
    have D2 := hide (show ∀ w', ArAt w' ab wb { B with word := layW B.word x ns1 } → 0 < ns2.length → dp = some ⟨wb, xgm, none⟩ ∧ ∃ ad, sp = some ad ∧ ∀ j v, (wordVals ns2)[j]? = some v → w'.cell? (ad.add j) = some v from by
      intro w' hw' hpos
      rw [L2.out] at hpos
      have := HNM.out
      refine ⟨by rw [← hdp, if_neg (by omega)], ⟨wb, b + gap, none⟩, by rw [← hsp, if_neg (by omega)], ?_⟩
      rw [hns2, hW1]
      exact src_words hw' _ _ (by show b + gap + (n - gap) ≤ B.size; rw [S1.out]; omega))
    clear hns1 hns2 hW1 hxg hxgm
    go_wp2
    go_quiet (fail)
    go_wp2
    go_region_law (refine step_copy_words rfl (.tmp 43) (.tmp 46) rfl rfl (some ⟨wb, x, none⟩) (some ⟨wb, b, none⟩) (A.size - x) (A.size - x) gap (A.size - b) (by simp [Act.eval, Act.put]) (by simp [Act.eval, Act.put]) B ab wb x ((HA1.out.alloc _).drewN _).drew ns1 C1.out (fun _ => ⟨rfl, _, rfl, C2.out _ ((HA1.out.alloc _).drewN _).drew⟩) C3.out ?_; intro w2 hA2 hF2)
    all_goals
      have b4 : w2.heap[w.heap.size]? = some (.cells #[.int .i64 b, .int .i64 n] 146 (0, 0)) := hF2.at (block_ext B4.out (below_drewN (ext_alloc _ _) _)) (by simp; omega)
      have b5 : w2.heap[w.heap.size + 1]? = some (.cells #[.int .i64 0, .int .i64 0] 146 (0, 0)) := hF2.at (block_ext B5.out (below_drewN (ext_alloc _ _) _)) (by simp; omega)
      have b6 : w2.heap[w1.heap.size]? = some (.cells #[.int .i64 x, .int .i64 nm] 146 (0, 0)) := hF2.at (heap_alloc_new w1 (.cells #[.int .i64 x, .int .i64 nm] 146)) (by simp; omega)
      have c2 : w2.cell? ⟨ab, 0, none⟩ = some (.slice (some ⟨wb, 0, none⟩) A.size A.size) := by rw [← S1.out]; exact hA2.slice
      have n0 := cell_two0 b6
      have HA2 := hide hA2
      have HF2 := hide (show Fr [ab, wb] w w2 from (((((Fr.refl _ _).alloc _).alloc _).trans HF1.out).alloc _).drewN _ |>.drew.trans (hF2.mono (fun k hk _ => by simp at hk ⊢; exact Or.inr hk)))
      have B42 := hide b4
      have B52 := hide b5
      have B62 := hide b6
      clear hA2 hF2 b4 b5 b6
    all_goals
      go_wp2
      go_region_law (refine step_copy_words rfl (.tmp 58) (.tmp 61) rfl rfl dp sp (A.size - xgm) (A.size - xgm) (n - gap) (A.size - b - gap) (by simp [Act.eval, Act.put]) (by simp [Act.eval, Act.put]) _ ab wb xgm HA2.out.drew ns2 D1.out (D2.out _ HA2.out.drew) D3.out ?_; intro w3 hA3 hF3)
    all_goals
      have b4 : w3.heap[w.heap.size]? = some (.cells #[.int .i64 b, .int .i64 n] 146 (0, 0)) := hF3.at B42.out (by simp; omega)
      have b5 : w3.heap[w.heap.size + 1]? = some (.cells #[.int .i64 0, .int .i64 0] 146 (0, 0)) := hF3.at B52.out (by simp; omega)
      have b6 : w3.heap[w1.heap.size]? = some (.cells #[.int .i64 x, .int .i64 nm] 146 (0, 0)) := hF3.at B62.out (by simp; omega)
      have m0 := cell_two0 b4
      have m1 := cell_two1 b4
      have HA3 := hide hA3
      have HF3 := hide (show Fr [ab, wb] w w3 from HF2.out.drew.trans (hF3.mono (fun k hk _ => by simp at hk ⊢; exact Or.inr hk)))
      have B43 := hide b4
      have B53 := hide b5
      have B63 := hide b6
      clear hA3 hF3 b4 b5 b6
      go_wp2_with fail
      refine (give_at _ ab wb _ _ b n _ HA3.out rfl rfl (by omega) (fun _ => by show b < B.size; rw [S1.out]; omega) S3.out s4 s5).mono ?_
      rintro e w5 ⟨rfl, hA5, hF5⟩
      have b5 : w5.heap[w.heap.size + 1]? = some (.cells #[.int .i64 0, .int .i64 0] 146 (0, 0)) := hF5.at B53.out (by simp; omega)
      have b6 : w5.heap[w1.heap.size]? = some (.cells #[.int .i64 x, .int .i64 nm] 146 (0, 0)) := hF5.at B63.out (by simp; omega)
      have p0 := cell_two0 b6
      have p1 := cell_two1 b6
      have p2 := cell_two0 b5
      have p3 := cell_two1 b5
      have p4 := free_two 0 b5
      have p5 := free_two 1 b5
      have HA5 := hide hA5
      have HF5 := hide (HF3.out.trans hF5)
      clear hA5 hF5 b5 b6
      go_wp2
      refine bodyPost_ret (v := .tuple #[.agg #[.int .i64 (x : Nat), .int .i64 ((n + more : Nat) : Int)], .bool true]) (by rw [HNM.out]; simp [results, Tryd.results104, go_sem, p2, p3]) rfl (Q1.out x _ _ ?_ ((HA5.out.other ?_ ?_).other ?_ ?_) ((HF5.out.setCell ?_ _).setCell ?_ _))
      · unfold Ar.grow
        rw [HNM.out, HT.out]
        simp only []
        unfold Ar.growAt
        rw [N2.out, HW1.out, N1.out, lay_copy, lay_copy, XG.out]
        rfl
      · omega
      · omega
      · omega
      · omega
      · exact Or.inr (by omega)
      · exact Or.inr (by omega)
  · intro w1 ht hA1 hF1
    have b5 : w1.heap[w.heap.size + 1]? = some (.cells #[.int .i64 0, .int .i64 0] 146 (0, 0)) := by
      refine hF1.at ?_ (by simp; omega)
      have := heap_alloc_new (w.alloc (.cells #[.int .i64 b, .int .i64 n] 146)) (.cells #[.int .i64 0, .int .i64 0] 146)
      simpa using this
    have k2 := cell_two0 b5
    have k3 := cell_two1 b5
    have k4 := free_two 0 b5
    have k5 := free_two 1 b5
    have hsz1 : w.heap.size + 1 < w1.heap.size := by have := hF1.size; simp at this; omega
    have hsz2 : w.heap.size < w1.heap.size := by omega
    have hsz3 : ab < w1.heap.size := by omega
    have hsz4 : wb < w1.heap.size := by omega
    have HT := hide (show A.grow b n gap more = (A, none) by unfold Ar.grow; rw [HNM.out, ht])
    have HA1 := hide hA1
    have HF1 := hide (show Fr [ab, wb] w w1 from (((Fr.refl _ _).alloc _).alloc _).trans hF1)
    clear ht hA1 hF1 b5
    go_wp2
    refine bodyPost_ret (v := .tuple #[.agg #[.int .i64 0, .int .i64 0], .bool false]) (by simp [results, Tryd.results104, go_sem, k2, k3, hsz1]) rfl (Q0.out _ HT.out ?_ ?_)
    · exact ((HA1.out.other (by omega) (by omega)).other (by omega) (by omega)).alloc _
    · exact ((HF1.out.setCell (Or.inr (by omega)) _).setCell (Or.inr (by omega)) _).alloc _
end Go.Proofs.YtnapboelfimaaaaDoor
/- Counting bits. -/
namespace Go.Proofs.YtnapboelfimaaaaDoor
open Go.RowKit Go.Deep
theorem retI {k : IntKind} {a b : Int} (h : a = b) : Ending.returned (.int k a) = .returned (.int k b) := by rw [h]
theorem retB {a b : Bool} (h : a = b) : Ending.returned (.bool a) = .returned (.bool b) := by rw [h]
theorem ones_split (x : Nat) : ones 16 x = ones 8 (x / 256) + ones 8 (x % 256) := by
  have e : List.range 16 = List.range 8 ++ (List.range 8).map (8 + ·) := by decide
  unfold ones
  rw [e, List.countP_append, List.countP_map, Nat.add_comm]
  congr 1
  · apply List.countP_congr
    intro i _
    simp only [Function.comp]
    rw [show x / 256 = x / 2 ^ 8 from rfl, Nat.testBit_div_two_pow, Nat.add_comm]
  · apply List.countP_congr
    intro i hi
    have := List.mem_range.1 hi
    rw [show x % 256 = x % 2 ^ 8 from rfl, Nat.testBit_mod_two_pow]
    simp [this]
theorem pop_ones : ∀ n : Fin 256, Lib.pop8 (n.val : Int) = (ones 8 n.val : Int) := by decide +kernel
/-- the bits below one -/
def below16 (bm bit : Nat) : Nat := ones bit bm
theorem ones_mask (bm bit : Nat) (h : bit ≤ 16) : ones 16 (bm % 2 ^ bit) = ones bit bm := by
  unfold ones
  obtain ⟨k, hk⟩ : ∃ k, 16 = bit + k := ⟨16 - bit, by omega⟩
  rw [hk, List.range_add, List.countP_append, List.countP_map]
  have e1 : (List.range bit).countP (fun i => (bm % 2 ^ bit).testBit i) = (List.range bit).countP (fun i => bm.testBit i) := by
    apply List.countP_congr
    intro i hi
    have := List.mem_range.1 hi
    rw [Nat.testBit_mod_two_pow]
    simp [this]
  have e2 : (List.range k).countP ((fun i => (bm % 2 ^ bit).testBit i) ∘ fun x => bit + x) = 0 := by
    rw [List.countP_eq_zero]
    intro i _
    simp only [Function.comp]
    rw [Nat.testBit_mod_two_pow]
    simp; omega
  rw [e1, e2, Nat.add_zero]
section
attribute [local go_sem] List.append_eq List.cons_append List.nil_append
set_option maxHeartbeats 1000000 in
set_option maxRecDepth 10000 in
theorem onesCount_any (x : Nat) (w : World) (h : x < 65536) : Calls Tryd.prog 60 #[.int .u16 x] w fun e w' => e = .returned (.int .i64 (ones 16 x)) ∧ ∃ n, w' = w.drewN n := by
  have h1 : (0 : Int) ≤ (x : Int) / 256 := by omega
  have h2 : (x : Int) / 256 ≤ 255 := by omega
  have h3 : bits BinOp.and IntKind.u16 (x : Int) 255 = (x : Int) % 256 := by
    have e := u16_and_nat x 255 h (by omega)
    rw [nat_mask8] at e
    exact e.trans (by omega)
  go_enter Tryd.func60, Tryd.ntmps60
  go_wp2
  go_quiet (fail)
  go_wp2
  go_ret
  refine ⟨retI ?_, _, rfl⟩
  show ((Lib.pop8 ((x : Int) / 256) + Lib.pop8 ((x : Int) % 256)) % 256) = _
  have e1 := pop_ones ⟨x / 256, by omega⟩
  have e2 := pop_ones ⟨x % 256, by omega⟩
  simp only [Int.natCast_ediv, Int.natCast_emod] at e1 e2
  rw [show (x : Int) / 256 = (x : Int) / (256 : Nat) from rfl, show (x : Int) % 256 = (x : Int) % (256 : Nat) from rfl, e1, e2, ones_split]
  have := ones_le 8 (x / 256)
  have := ones_le 8 (x % 256)
  omega
end
theorem two_pow_le {k n : Nat} (h : k ≤ n) : (1 : Int) ≤ (2 : Int) ^ k ∧ (2 : Int) ^ k ≤ (2 : Int) ^ n := by
  have h1 : 1 ≤ 2 ^ k := Nat.one_le_two_pow
  have h2 : 2 ^ k ≤ 2 ^ n := Nat.pow_le_pow_right (by decide) h
  exact ⟨by exact_mod_cast h1, by exact_mod_cast h2⟩
theorem mask_mod (bm bit : Nat) (h : bm < 65536) (hb : bit ≤ 15) : bits BinOp.and IntKind.u16 (bm : Int) ((2 : Int) ^ bit - 1) = ((bm % 2 ^ bit : Nat) : Int) := by
  have h1 : 1 ≤ 2 ^ bit := Nat.one_le_two_pow
  have h2 : 2 ^ bit ≤ 2 ^ 15 := Nat.pow_le_pow_right (by decide) hb
  have e := u16_and_nat bm (2 ^ bit - 1) h (by omega)
  rw [Nat.and_two_pow_sub_one_eq_mod] at e
  rw [← e]
  congr 1
  rw [Int.natCast_sub h1]
  norm_cast
set_option maxHeartbeats 400000 in
set_option maxRecDepth 10000 in
theorem before_any (bm bit : Nat) (w : World) (h : bm < 65536) (hb : bit ≤ 15) : Calls Tryd.prog 59 #[.int .u16 bm, .int .i64 bit] w fun e w' => e = .returned (.int .i64 (ones bit bm)) ∧ ∃ n, w' = w.drewN n := by
  obtain ⟨p1, p2⟩ := two_pow_le hb
  rw [show (2 : Int) ^ 15 = 32768 from rfl] at p2
  have HM := hide (mask_mod bm bit h hb)
  have hlt : bm % 2 ^ bit < 65536 := Nat.lt_of_le_of_lt (Nat.mod_le _ _) h
  have HO := hide (ones_mask bm bit (by omega))
  go_enter Tryd.func59, Tryd.ntmps59
  go_wp2_with fail
  rw [HM.out]
  refine (onesCount_any _ _ hlt).mono ?_
  rintro e w' ⟨rfl, n, rfl⟩
  rw [HO.out]
  go_wp2
  go_ret
  exact ⟨rfl, n, rfl⟩
set_option maxHeartbeats 400000 in
theorem numberOf_any (further value : Nat) (w : World) (h : further ≤ 3) (hv : value ≤ 15) : Calls Tryd.prog 52 #[.int .i64 further, .int .i64 value] w fun e w' => e = .returned (.int .i64 ((2 ^ further - 1 + value : Nat) : Int)) ∧ w' = w := by
  obtain ⟨p1, p2⟩ := two_pow_le h
  rw [show (2 : Int) ^ 3 = 8 from rfl] at p2
  go_enter Tryd.func52, Tryd.ntmps52
  go_wp2
  go_ret
  refine ⟨retI ?_, rfl⟩
  show (2 : Int) ^ further - 1 + value = _
  have h1 : 1 ≤ 2 ^ further := Nat.one_le_two_pow
  rw [Int.natCast_add, Int.natCast_sub h1]
  norm_cast
end Go.Proofs.YtnapboelfimaaaaDoor
