import Derived.Test.YtnapboelfimaaaaGreatDoorNewsB
namespace Go.Proofs.YtnapboelfimaaaaGreatDoor
open Go.RowKit Go.Deep
theorem NW_ext {b : Nat} {w w' : World} (h : NW b w) (hb : Below w.heap.size w w') : NW b w' := by
  obtain ⟨ao, cap, np, xs, h1, h2, h3⟩ := h
  exact ⟨ao, cap, np, xs, block_ext h1 hb, owns_ext h2 hb, h3⟩
theorem NW_lt {b : Nat} {w : World} (h : NW b w) : b < w.heap.size := by
  obtain ⟨ao, cap, np, xs, h1, h2, h3⟩ := h
  exact lt_of_block h1
theorem NW_store {b k j : Nat} {w : World} {c : Array Value} {fz : Nat × Nat} (h : NW b w) (hk : w.heap[k]? = some (.cells c 30 fz)) (v : Value) : NW b (w.setCell ⟨k, j, none⟩ v) := by
  obtain ⟨ao, cap, np, xs, h1, h2, h3⟩ := h
  refine ⟨ao, cap, np, xs, ?_, ownsRow_setCell_other h2 ?_ v, h3⟩
  · rw [Below.heap_setCell]
    · exact h1
    · rintro rfl
      rw [h1] at hk
      simp at hk
  · intro e
    rcases h2.2 with ⟨e1, _⟩ | ⟨g, cp, cur, e1, _, hh, _⟩
    · rw [e1] at e; simp [Value.ownBlock] at e
    · rw [e1] at e
      simp [Value.ownBlock] at e
      subst e
      rw [hh] at hk
      simp at hk
set_option maxHeartbeats 1000000 in
set_option maxRecDepth 10000 in
theorem created_full (b : Nat) (w : World) (k n f : Int) (words : Nat) (ops : Value) (h : 2048 ≤ words) (h2 : words ≤ 65536) (ao : Option Addr) (cap : Nat) (hb : w.heap[b]? = some (.cells #[.slice ao 4 cap, .slice none 0 0] 35 (0, 0))) :
    Calls Tryz.prog 11 #[.pointer (some ⟨b, 0, none⟩), .agg #[.int .i64 k, .int .i64 n, .int .i64 words, ops, .int .i64 f]] w fun e w' => e = .returned (.bool true) ∧ Below w.heap.size w w' := by
  have c0 := cell_two0 hb
  have hlt := lt_of_block hb
  clear hb
  go_enter Tryz.func11, Tryz.ntmps11
  go_wp2_with fail
  refine (bywayNew_ext words _ h h2).mono ?_
  rintro e w1 ⟨rfl, hb1, hs1, _, _, _⟩
  have d0 : w1.cell? ⟨b, 0, none⟩ = some (.slice ao 4 cap) := (hb1.cell (p := ⟨b, 0, none⟩) (by simp; omega)).trans (by rw [World.cell?_alloc_past _ _ _ hlt]; exact c0)
  have d2 : w1.cell? ⟨w.heap.size, 2, none⟩ = some (.int .i64 words) := (hb1.cell (p := ⟨w.heap.size, 2, none⟩) (by simp)).trans (by simp)
  simp only [World.size_alloc] at hs1
  have hlt1 : b < w1.heap.size := by omega
  have hne1 : b ≠ w1.heap.size := by omega
  have HE := hide (show Below w.heap.size w (w1.alloc (.cells #[.int .i64 words, .slice none 0 0, .slice none 0 0] 48)) from ext_trans (ext_trans (ext_alloc w _) hb1) (ext_alloc _ _))
  clear hb1
  go_wp2_with fail
  refine (refNew_yes words _ (by omega) (by omega)).mono ?_
  rintro e w2 ⟨rfl, rfl⟩
  go_wp2_with fail
  go_ret
  exact ⟨rfl, HE.out⟩

theorem created_any (b : Nat) (w : World) (k n words f : Int) (ops : Value) (hw : NW b w) :
    Calls Tryz.prog 11 #[.pointer (some ⟨b, 0, none⟩), .agg #[.int .i64 k, .int .i64 n, .int .i64 words, ops, .int .i64 f]] w fun e w' => e = .returned (.bool true) ∧ Below b w w' ∧ NW b w' ∧ KeepsT 30 w w' := by
  by_cases h : words < 2048 ∨ 65536 < words
  · refine (created_no b w k n words f ops h).mono ?_
    rintro e w' ⟨rfl, hb⟩
    exact ⟨rfl, hb.mono (Nat.le_of_lt (NW_lt hw)), NW_ext hw hb, KeepsT.ext hb⟩
  · obtain ⟨m, rfl⟩ := Int.eq_ofNat_of_zero_le (show 0 ≤ words by omega)
    have hw' := hw
    obtain ⟨ao, cap, np, xs, h1, h2, h3⟩ := hw
    by_cases h4 : np = 4
    · subst h4
      refine (created_full b w k n f m ops (by omega) (by omega) ao cap h1).mono ?_
      rintro e w' ⟨rfl, hb⟩
      exact ⟨rfl, hb.mono (Nat.le_of_lt (NW_lt hw')), NW_ext hw' hb, KeepsT.ext hb⟩
    · exact created_yes b w k n f m ops (by omega) (by omega) ao np cap xs h1 h2 (by omega)

set_option maxHeartbeats 400000 in
set_option maxRecDepth 10000 in
theorem step_new (b : Nat) (w : World) (n words f : Int) (ops : Value) (hw : NW b w) :
    Calls Tryz.prog 9 #[.pointer (some ⟨b, 0, none⟩), .agg #[.int .i64 1, .int .i64 n, .int .i64 words, ops, .int .i64 f]] w fun e w' => e = .returned (.bool true) ∧ Below b w w' ∧ NW b w' ∧ KeepsT 30 w w' := by
  have hlt := NW_lt hw
  go_enter Tryz.func9, Tryz.ntmps9
  go_wp2_with fail
  refine (created_any b _ 1 n words f ops (NW_ext hw (ext_alloc w _))).mono ?_
  rintro e w1 ⟨rfl, hb1, hn, hkp⟩
  have HE := hide (show Below b w w1 from ((ext_alloc w _).mono (Nat.le_of_lt hlt)).trans hb1)
  have HK := hide (show KeepsT 30 w w1 from (KeepsT.ext (ext_alloc w _)).trans hkp)
  clear hb1 hkp
  go_wp2_with fail
  go_ret
  exact ⟨rfl, HE.out, hn, HK.out⟩
set_option maxHeartbeats 400000 in
set_option maxRecDepth 10000 in
theorem step_none (b : Nat) (w : World) (k n words f : Int) (ops : Value) (hw : NW b w) (hk : k < 1) :
    Calls Tryz.prog 9 #[.pointer (some ⟨b, 0, none⟩), .agg #[.int .i64 k, .int .i64 n, .int .i64 words, ops, .int .i64 f]] w fun e w' => e = .returned (.bool true) ∧ Below b w w' ∧ NW b w' ∧ KeepsT 30 w w' := by
  have hlt := NW_lt hw
  have k1 : (k == 1) = false := by simp; omega
  have k2 : k < 2 := by omega
  go_enter Tryz.func9, Tryz.ntmps9
  go_wp2_with fail
  go_ret
  exact ⟨rfl, (ext_alloc w _).mono (Nat.le_of_lt hlt), NW_ext hw (ext_alloc w _), KeepsT.ext (ext_alloc w _)⟩
theorem step_news (b : Nat) (w : World) (k n words f : Int) (ops : Value) (hw : NW b w) (hk : k ≤ 1) :
    Calls Tryz.prog 9 #[.pointer (some ⟨b, 0, none⟩), .agg #[.int .i64 k, .int .i64 n, .int .i64 words, ops, .int .i64 f]] w fun e w' => e = .returned (.bool true) ∧ Below b w w' ∧ NW b w' ∧ KeepsT 30 w w' := by
  by_cases h : k = 1
  · subst h; exact step_new b w n words f ops hw
  · exact step_none b w k n words f ops hw (by omega)
end Go.Proofs.YtnapboelfimaaaaGreatDoor
