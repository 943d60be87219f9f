import Derived.Test.YtnapboelfimaaaaGreatDoorNewR
/- The steps of a script of which New alone is played. -/
namespace Go.Proofs.YtnapboelfimaaaaGreatDoor
open Go.RowKit Go.Deep

/-- THE SCRIPT's WORLD AS IT STANDS WHERE NEW ALONE IS PLAYED: at most four Fibs, no list held. -/
def NW (b : Nat) (w : World) : Prop :=
  ∃ ao cap np xs, w.heap[b]? = some (.cells #[.slice ao np cap, .slice none 0 0] 35 (0, 0)) ∧ w.ownsRow (b + 1) 38 1 (.slice ao np cap) np xs ∧ np ≤ 4

set_option maxHeartbeats 400000 in
theorem looks_none (b : Nat) (v : Value) (w : World) (h : w.heap[b]? = some (.cells #[v, .slice none 0 0] 35 (0, 0))) :
    Calls Tryz.prog 10 #[.pointer (some ⟨b, 0, none⟩)] w fun e w' => e = .returned (.bool true) ∧ w' = w := by
  have c1 := cell_two1 h
  clear h
  go_enter Tryz.func10, Tryz.ntmps10
  go_wp2
  refine wp_loop_rounds 1 ?_; rw [rounds_succ]
  go_wp2
  go_ret
  exact ⟨rfl, rfl⟩

set_option maxHeartbeats 400000 in
theorem created_no (b : Nat) (w : World) (k n words f : Int) (ops : Value) (h : words < 2048 ∨ 65536 < words) :
    Calls Tryz.prog 11 #[.pointer (some ⟨b, 0, none⟩), .agg #[.int .i64 k, .int .i64 n, .int .i64 words, ops, .int .i64 f]] w fun e w' => e = .returned (.bool true) ∧ Below w.heap.size w w' := by
  go_enter Tryz.func11, Tryz.ntmps11
  go_wp2_with (first | (go_at_call 17; refine (bywayNew_no words _ h).mono ?_; rintro e w' ⟨rfl, rfl⟩) | (go_at_call 18; refine (refNew_no words _ h).mono ?_; rintro e w' ⟨rfl, rfl⟩))
  go_ret
  exact ⟨rfl, (Below.refl _ _).alloc (Nat.le_refl _) _⟩
end Go.Proofs.YtnapboelfimaaaaGreatDoor
