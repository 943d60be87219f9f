import Derived.Test.YtnapboelfimaaaaGreatDoorNewsE
namespace Go.Proofs.YtnapboelfimaaaaGreatDoor
open Go.RowKit Go.Deep
set_option maxHeartbeats 400000 in
set_option maxRecDepth 10000 in
theorem sound_news (w : World) (code : Int) :
    Calls Tryz.prog 7 #[.int .i64 1, .int .i64 code] w fun e w' => e = .returned (.bool true) ∧ Below w.heap.size w w' := by
  have hU := upTo_news_any (soundWorld w) (some ⟨w.heap.size + 1, 0, none⟩) 4 (soundScript w.heap.size) 4 code (by simp [soundScript]) (sound_at w)
  have HU := hide hU
  clear hU
  go_enter Tryz.func7, Tryz.ntmps7
  go_wp2_with fail
  refine HU.out.mono ?_
  rintro e w1 ⟨rfl, hb⟩
  have HB := hide (ext_trans (sound_ext w) hb)
  clear hb HU
  go_wp2
  go_ret
  exact ⟨rfl, HB.out⟩
set_option maxHeartbeats 400000 in
set_option maxRecDepth 10000 in
theorem news_walk (w : World) (ao : Option Addr) (cap : Nat) (ss : List StepD) (hn : ss.length * 56 ≤ 140737488351232) (hs : ScriptAt w ao ss) :
    Calls Tryz.prog 3 #[.slice ao ss.length cap] w fun e w' => e = .returned (.bool true) ∧ Below w.heap.size w w' := by
  have HS := hide hs
  clear hs
  go_enter Tryz.func3, Tryz.ntmps3
  go_wp2_with fail
  refine (sound_news w 0).mono ?_
  rintro e w1 ⟨rfl, hb1⟩
  have HS1 := hide (HS.out.ext (Nat.le_refl _) hb1)
  have HB1 := hide hb1
  clear hb1 HS
  go_wp2_with fail
  refine (upTo_news_any w1 ao cap ss 1 0 hn HS1.out).mono ?_
  rintro e w2 ⟨rfl, hb2⟩
  have HB2 := hide (ext_trans HB1.out hb2)
  clear hb2 HB1 HS1
  go_wp2
  go_ret
  exact ⟨rfl, HB2.out⟩
end Go.Proofs.YtnapboelfimaaaaGreatDoor
