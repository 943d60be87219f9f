import Derived.Test.YtnapboelfimaaaaGreatDoorNewsD
namespace Go.Proofs.YtnapboelfimaaaaGreatDoor
open Go.RowKit Go.Deep
set_option maxHeartbeats 400000 in
set_option maxRecDepth 10000 in
theorem upTo_none (w : World) (ao : Option Addr) (cap : Nat) (least last top code : Int) :
    Calls Tryz.prog 8 #[.slice ao 0 cap, .int .i64 least, .int .i64 last, .int .i64 top, .int .i64 code] w fun e w' => e = .returned (.int .i64 (-1)) ∧ Below w.heap.size w w' := by
  go_enter Tryz.func8, Tryz.ntmps8
  go_wp2
  refine wp_loop_rounds 1 ?_; rw [rounds_succ]
  go_wp2
  go_ret
  exact ⟨rfl, ext_alloc w _⟩
theorem upTo_news_any (w : World) (ao : Option Addr) (cap : Nat) (ss : List StepD) (last code : Int) (hn : ss.length * 56 ≤ 140737488351232) (hs : ScriptAt w ao ss) :
    Calls Tryz.prog 8 #[.slice ao ss.length cap, .int .i64 1, .int .i64 last, .int .i64 1, .int .i64 code] w fun e w' => e = .returned (.int .i64 (-1)) ∧ Below w.heap.size w w' := by
  by_cases h : ss = []
  · subst h
    exact upTo_none w ao cap 1 last 1 code
  · obtain ⟨b, off, rfl, hlt, hc⟩ := hs.2 h
    exact upTo_news w b off cap ss 1 last code rfl hn hs.1 hlt hc
/-- the script that every statement begins with -/
def bitsA : ByteArray := ⟨#[10, 0, 0, 0]⟩
def bitsB : ByteArray := ⟨#[10, 1, 0, 0]⟩
def soundOps : List OpD := [⟨1, 4, bitsA, 8, 1⟩, ⟨1, 4, bitsB, 16, 2⟩, ⟨3, 4, bitsB, 0, 0⟩, ⟨2, 4, bitsB, 16, 0⟩, ⟨3, 4, bitsB, 0, 0⟩, ⟨4, 0, .empty, 0, 0⟩]
def soundScript (k : Nat) : List StepD := [⟨1, 0, 2048, [], none, 0, 0⟩, ⟨2, 0, 0, soundOps, some ⟨k, 0, none⟩, 6, 0⟩, ⟨3, 0, 0, [], none, 0, 4⟩, ⟨4, 0, 0, [], none, 0, 0⟩]
def soundWorld (w : World) : World := (w.alloc (.cells (soundOps.flatMap OpD.cells).toArray 27)).alloc (.cells ((soundScript w.heap.size).flatMap StepD.cells).toArray 30)
theorem sound_ext (w : World) : Below w.heap.size w (soundWorld w) := ext_trans (ext_alloc _ _) (ext_alloc _ _)
theorem sound_at (w : World) : ScriptAt (soundWorld w) (some ⟨w.heap.size + 1, 0, none⟩) (soundScript w.heap.size) := by
  have h1 : (soundWorld w).heap[w.heap.size + 1]? = some (.cells ((soundScript w.heap.size).flatMap StepD.cells).toArray 30 (0, 0)) := by
    have := heap_alloc_new (w.alloc (.cells (soundOps.flatMap OpD.cells).toArray 27)) (.cells ((soundScript w.heap.size).flatMap StepD.cells).toArray 30)
    rw [World.size_alloc] at this
    exact this
  have h0 : (soundWorld w).heap[w.heap.size]? = some (.cells (soundOps.flatMap OpD.cells).toArray 27 (0, 0)) :=
    block_ext (heap_alloc_new w _) (ext_alloc _ _)
  refine ⟨?_, fun _ => ⟨_, _, rfl, lt_of_block h1, ?_⟩⟩
  · have e1 : (⟨1, 0, 2048, [], none, 0, 0⟩ : StepD).ok ∧ OpsAt (soundWorld w) none [] := ⟨by simp [StepD.ok, i64ok], by simp [OpsAt]⟩
    have e3 : (⟨3, 0, 0, [], none, 0, 4⟩ : StepD).ok ∧ OpsAt (soundWorld w) none [] := ⟨by simp [StepD.ok, i64ok], by simp [OpsAt]⟩
    have e4 : (⟨4, 0, 0, [], none, 0, 0⟩ : StepD).ok ∧ OpsAt (soundWorld w) none [] := ⟨by simp [StepD.ok, i64ok], by simp [OpsAt]⟩
    have e2 : (⟨2, 0, 0, soundOps, some ⟨w.heap.size, 0, none⟩, 6, 0⟩ : StepD).ok ∧ OpsAt (soundWorld w) (some ⟨w.heap.size, 0, none⟩) soundOps := by
      refine ⟨by simp [StepD.ok, i64ok, soundOps], ?_, fun _ => ⟨_, _, rfl, lt_of_block h0, ?_⟩⟩
      · intro o ho
        simp only [soundOps, List.mem_cons, List.not_mem_nil, or_false] at ho
        rcases ho with rfl | rfl | rfl | rfl | rfl | rfl <;> simp [OpD.ok, i64ok, bitsA, bitsB, maxLen, ByteArray.size]
      · intro i hi j hj
        rw [cell_at h0]
        simp only [soundOps, List.length_cons, List.length_nil] at hi
        rcases i with _ | _ | _ | _ | _ | _ | i
        all_goals first | (rcases j with _ | _ | _ | _ | _ | j <;> first | rfl | omega) | omega
    intro s hs
    simp only [soundScript, List.mem_cons, List.not_mem_nil, or_false] at hs
    rcases hs with rfl | rfl | rfl | rfl
    · exact e1
    · exact e2
    · exact e3
    · exact e4
  · intro i hi j hj
    rw [cell_at h1]
    simp only [soundScript, List.length_cons, List.length_nil] at hi
    rcases i with _ | _ | _ | _ | i
    all_goals first | (rcases j with _ | _ | _ | _ | _ | j <;> first | rfl | omega) | omega
end Go.Proofs.YtnapboelfimaaaaGreatDoor
