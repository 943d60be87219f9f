import Derived.Test.YtnapboelfimaaaaGreatDoorNewsA
namespace Go.Proofs.YtnapboelfimaaaaGreatDoor
open Go.RowKit Go.Deep
theorem bcell {W w1 : World} (hb : Below W.heap.size W w1) : (∀ b o, b < W.heap.size → w1.cell? ⟨b, o, none⟩ = W.cell? ⟨b, o, none⟩) ∧ (∀ b o, b < W.heap.size → w1.frozen? ⟨b, o, none⟩ = W.frozen? ⟨b, o, none⟩) :=
  ⟨fun b o h => hb.cell (p := ⟨b, o, none⟩) h, fun b o h => hb.frozen (p := ⟨b, o, none⟩) h⟩
set_option maxHeartbeats 1000000 in
theorem created_yes (b : Nat) (w : World) (k n f : Int) (words : Nat) (ops : Value) (h : 2048 ≤ words) (h2 : words ≤ 65536) (ao : Option Addr) (np cap : Nat) (xs : List Value) (hb : w.heap[b]? = some (.cells #[.slice ao np cap, .slice none 0 0] 35 (0, 0))) (hown : w.ownsRow (b + 1) 38 1 (.slice ao np cap) np xs) (h4 : np < 4) :
    Calls Tryz.prog 11 #[.pointer (some ⟨b, 0, none⟩), .agg #[.int .i64 k, .int .i64 n, .int .i64 words, ops, .int .i64 f]] w fun e w' => e = .returned (.bool true) ∧ Below b w w' ∧ NW b w' ∧ KeepsT 30 w w' := by
  obtain ⟨i0, hi, hz0, hz1, hz2⟩ := info_parts infoPlayer
  have c0 := cell_two0 hb
  have c1 := cell_two1 hb
  have fr := free_two 0 hb
  have hlt := lt_of_block hb
  have HB : Hid (w.heap[b]? = some (.cells #[.slice ao np cap, .slice none 0 0] 35 (0, 0))) := hb
  clear hb
  go_enter Tryz.func11, Tryz.ntmps11
  go_wp2_with fail
  refine (bywayNew_ext words _ h h2).mono ?_
  rintro e w1 ⟨rfl, hb1, hs1, y1, y2, y3⟩
  simp only [World.size_alloc] at y1 y2 y3
  have HY := hide (And.intro y1 (And.intro y2 y3))
  clear y1 y2 y3
  have d0 : w1.cell? ⟨b, 0, none⟩ = some (.slice ao np cap) := (hb1.cell (p := ⟨b, 0, none⟩) (by simp; omega)).trans (by rw [World.cell?_alloc_past _ _ _ hlt]; exact c0)
  have d1 : w1.frozen? ⟨b, 0, none⟩ = false := (hb1.frozen (p := ⟨b, 0, none⟩) (by simp; omega)).trans (by rw [World.frozen?_alloc_past _ _ _ hlt]; exact fr)
  have d2 : w1.cell? ⟨w.heap.size, 2, none⟩ = some (.int .i64 words) := (hb1.cell (p := ⟨w.heap.size, 2, none⟩) (by simp)).trans (by simp)
  simp only [World.size_alloc] at hs1
  have hlt1 : b < w1.heap.size := by omega
  have hne1 : b ≠ w1.heap.size := by omega
  have HO := hide (show w1.ownsRow (b + 1) 38 1 (.slice ao np cap) np xs from (hown.alloc _).kept (row := none) ⟨hb1.os, hb1.tape, hb1.output, hb1.size, fun k hk _ => hb1.block k hk⟩ (by cases ao <;> simp [Value.ownBlock]))
  set_option maxRecDepth 10000 in
  go_wp2_with fail
  refine (refNew_yes words _ (by omega) (by omega)).mono ?_
  rintro e w2 ⟨rfl, rfl⟩
  set_option maxRecDepth 10000 in
  go_wp2_with fail
  refine (free_any _ _ _ _ _ ((World.cell?_alloc_past _ _ _ hs1).trans HY.out.1) ((World.cell?_alloc_past _ _ _ (by omega)).trans HY.out.2.1) ((World.cell?_alloc_past _ _ _ (by omega)).trans HY.out.2.2)).mono ?_
  rintro e w' ⟨rfl, rfl⟩
  set_option maxRecDepth 10000 in
  go_wp2_with (at_builtin; refine wpList_append_own _ rfl _ _ 32 rfl (b + 1) 38 i0 (.pointer none) 1 8 Tryz.underlying32 hi hz0 hz1 hz2 rfl (by decide) _ _ _ rfl (((HO.out.alloc _).alloc _).alloc _) ⟨w1.heap.size + 1 + 1, 0, none⟩ 1 1 [.pointer (some ⟨w1.heap.size + 1, 0, none⟩)] rfl rfl ?c1 ?c2 ?c3 ?c4 ?c5 ?_)
  case c1 =>
    intro j u hj
    match j, hj with
    | 0, hj => simp at hj; subst hj; exact cell_new (by simp)
  case c2 => intro u hu; simp at hu; subst hu; rfl
  case c3 => unfold maxLen; omega
  case c4 => omega
  case c5 => simp; omega
  intro v' w3 hown' hgrow _
  obtain ⟨ao', cap', hv⟩ : ∃ ao' cap', v' = .slice ao' (np + 1) cap' := by
    rcases hown'.2 with ⟨_, h0⟩ | ⟨g, cp, cur, hv, _⟩
    · omega
    · exact ⟨_, _, hv⟩
  rw [hv] at hown' ⊢
  have hB := HB.out
  have hb3 : w3.heap[b]? = some (.cells #[.slice ao np cap, .slice none 0 0] 35 (0, 0)) := by
    rw [hgrow.block b (by simp; omega) ?_, Below.heap_alloc _ _ _ (by simp; omega), Below.heap_alloc _ _ _ (by simp; omega), Below.heap_alloc _ _ _ hlt1, hb1.block b (by simp; omega), Below.heap_alloc _ _ _ hlt]
    · exact hB
    · intro e
      have := hown.lt b (by rw [← e])
      omega
  have e0 := cell_two0 hb3
  have e1 := free_two 0 hb3
  have hbel : Below b w w3 := by
    refine ⟨?_, ?_, ?_, ?_, ?_⟩
    · rw [hgrow.os]; exact hb1.os
    · rw [hgrow.tape]; exact hb1.tape
    · rw [hgrow.output]; exact hb1.output
    · have := hgrow.size; simp at this; omega
    · intro j hj
      rw [hgrow.block j (by simp; omega) ?_, Below.heap_alloc _ _ _ (by simp; omega), Below.heap_alloc _ _ _ (by simp; omega), Below.heap_alloc _ _ _ (by omega), hb1.block j (by simp; omega), Below.heap_alloc _ _ _ (by omega)]
      intro e
      have := hown.lt j (by rw [← e])
      omega
  have hkp : KeepsT 30 w w3 := (KeepsT.ext (ext_trans (ext_trans (ext_trans (ext_trans (ext_alloc w _) hb1) (ext_alloc _ _)) (ext_alloc _ _)) (ext_alloc _ _))).trans (KeepsT.grown (((HO.out.alloc _).alloc _).alloc _) (by decide) hgrow)
  have HF := hide (show Below b w (w3.setCell ⟨b, 0, none⟩ (.slice ao' (np + 1) cap')) ∧ NW b (w3.setCell ⟨b, 0, none⟩ (.slice ao' (np + 1) cap')) ∧ KeepsT 30 w (w3.setCell ⟨b, 0, none⟩ (.slice ao' (np + 1) cap')) from ⟨hbel.setCell (by simp) _, ⟨ao', cap', np + 1, _, two_setCell0 hb3, ownsRow_setCell_below hown' (by simp) _, by omega⟩, hkp.trans (KeepsT.setCell hb3 (by decide) 0 _)⟩)
  clear hkp hb3 hbel hgrow hown' hown hb1 hB HB HO
  go_wp2
  go_ret
  exact ⟨rfl, HF.out⟩
end Go.Proofs.YtnapboelfimaaaaGreatDoor
