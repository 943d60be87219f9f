import Derived.Test.YtnapboelfimaaaaGreatDoorNewsC
import Derived.Test.YtnapboelfimaaaaGreatDoorData
namespace Go.Proofs.YtnapboelfimaaaaGreatDoor
open Go.RowKit Go.Deep
theorem infoOp : (Tryz.prog.info? 27).map (fun i => (i.zero, i.size, i.bytes)) = some (some (.agg #[.int .i64 0, .int .i64 0, .string .empty, .int .i64 0, .int .i64 0]), 5, 48) := by kernel_rfl
set_option maxHeartbeats 1000000 in
set_option maxRecDepth 10000 in
theorem upTo_news (w : World) (b off cap : Nat) (ss : List StepD) (least last code : Int) (hl : least = 1) (hn : ss.length * 56 ≤ 140737488351232)
    (hs : ∀ s ∈ ss, s.ok ∧ OpsAt w s.opsAt s.ops) (hlt : b < w.heap.size) (hc : ∀ i, i < ss.length → ∀ j, j < 5 → w.cell? ⟨b, off + (i * 5 + j), none⟩ = ((ss.getD i StepD.zero).cells)[j]?) :
    Calls Tryz.prog 8 #[.slice (some ⟨b, off, none⟩) ss.length cap, .int .i64 least, .int .i64 last, .int .i64 1, .int .i64 code] w fun e w' => e = .returned (.int .i64 (-1)) ∧ Below w.heap.size w w' := by
  obtain ⟨i0, hi, hz0, hz1, hz2⟩ := info_parts infoOp
  subst hl
  go_enter Tryz.func8, Tryz.ntmps8
  go_wp2
  go_loopw [12] (fun i wr => ∃ k : Nat, k ≤ ss.length ∧ i = .int .i64 k ∧ NW w.heap.size wr ∧ Below w.heap.size w wr) (fun i _ => ss.length - (intOf i).toNat)
  case atStart => exact ⟨0, Nat.zero_le _, rfl, ⟨none, 0, 0, [], heap_alloc_new w _, World.ownsRow_nil _ _ _ _, by omega⟩, ext_alloc w _⟩
  case round =>
    obtain ⟨k, hk, rfl, hnw, hbel⟩ := hrel
    by_cases hkl : k < ss.length
    · obtain ⟨hok, hops⟩ := hs _ (getD_mem StepD.zero hkl)
      obtain ⟨c0, c1, c2, c3, c4⟩ := step_cells hlt (Nat.le_refl _) hbel hkl hc
      generalize ss.getD k StepD.zero = s at hok hops c0 c1 c2 c3 c4
      have hwlt := NW_lt hnw
      obtain ⟨wo, hwo⟩ : ∃ wo : World, wo = wr := ⟨_, rfl⟩
      subst hwo
      unfold StepD.opsVal at c3
      by_cases h1 : 1 < s.kind
      · go_wp2
        go_roundw
        case rel => exact ⟨k + 1, by omega, by go_num, NW_ext hnw (ext_alloc _ _), ext_trans hbel (ext_alloc _ _)⟩
        case measure => simp [intOf]; omega
      · go_wp2
        have hcl : s.ops.length * 48 ≤ 140737488351232 := hok.2.2.2.2
        obtain ⟨wi, hwi⟩ : ∃ wi : World, wi = wo.alloc (.cells #[.int .i64 s.kind, .int .i64 s.n, .int .i64 s.words, .slice s.opsAt s.ops.length s.opsCap, .int .i64 s.family] 30) := ⟨_, rfl⟩
        have hsz : wi.heap.size = wo.heap.size + 1 := by rw [hwi]; simp
        have hsb : wi.heap[wo.heap.size]? = some (.cells #[.int .i64 s.kind, .int .i64 s.n, .int .i64 s.words, .slice s.opsAt s.ops.length s.opsCap, .int .i64 s.family] 30 (0, 0)) := by rw [hwi]; exact heap_alloc_new wo _
        have hoi : OpsAt wi s.opsAt s.ops := (hops.ext (Nat.le_refl _) hbel).ext (Nat.le_refl _) (by rw [hwi]; exact ext_alloc _ _)
        have hni : NW w.heap.size wi := by rw [hwi]; exact NW_ext hnw (ext_alloc _ _)
        have hbi : Below w.heap.size w wi := by rw [hwi]; exact ext_trans hbel (ext_alloc _ _)
        rw [← hwi]
        clear hwi c0 c1 c2 c3 c4 hops hbel hnw
        go_loopw [14, 15] (fun v i wr => ∃ (m cp : Nat) (ao : Option Addr), m ≤ s.ops.length ∧ i = .int .i64 m ∧ v = .slice ao (keptOps code (s.ops.take m)).length cp ∧ wr.ownsRow (wo.heap.size + 1) 27 5 v (keptOps code (s.ops.take m)).length ((keptOps code (s.ops.take m)).flatMap OpD.cells) ∧ Below (wo.heap.size + 1) wi wr) (fun _ i _ => s.ops.length - (intOf i).toNat)
        case atStart => exact ⟨0, 0, none, Nat.zero_le _, rfl, rfl, World.ownsRow_nil _ _ _ _, Below.refl _ _⟩
        case round =>
          obtain ⟨m, cp, ao, hm, rfl, rfl, hown, hbr⟩ := hrel
          have hkl' := keptOps_le code s.ops m
          have q3 : wr.cell? ⟨wo.heap.size, 3, none⟩ = some (.slice s.opsAt s.ops.length s.opsCap) := (hbr.cell (p := ⟨wo.heap.size, 3, none⟩) (by simp)).trans (by simp [World.cell?, hsb])
          by_cases hml : m < s.ops.length
          · obtain ⟨bo, oo, hao, hblt, hoc⟩ := hoi.2 (by intro e; rw [e] at hml; simp at hml)
            obtain ⟨e0, e1, e2, e3, e4⟩ := op_cells hblt (Nat.le_refl _) (hbr.mono (by omega)) hml hoc
            have hky := keptOps_yes code s.ops m hml
            have hkn := keptOps_no code s.ops m hml
            rw [hao] at q3
            clear hao
            generalize s.ops.getD m ⟨0, 0, .empty, 0, 0⟩ = o at e0 e1 e2 e3 e4 hky hkn
            by_cases hy : o.code ≤ code ∨ 4 < o.code
            · have K := hide (hky hy)
              clear hky hkn
              by_cases hy1 : o.code ≤ code
              all_goals
                have hy2 : o.code ≤ code ∨ 4 < o.code := hy
                clear hy
                have hown2 := hown.alloc (.cells #[.int .i64 o.code, .int .i64 o.family, .string o.bits, .int .i64 o.len, .int .i64 o.hop] 27)
                have hz3 : wo.heap.size + 1 ≤ wr.heap.size := by have := hbr.size; omega
                go_wp2_with (at_builtin; refine wpList_append_own _ rfl _ _ 28 rfl (wo.heap.size + 1) 27 i0 (.agg #[.int .i64 0, .int .i64 0, .string .empty, .int .i64 0, .int .i64 0]) 5 48 Tryz.underlying28 hi hz0 hz1 hz2 rfl (by decide) _ _ _ rfl hown2 ⟨wr.heap.size, 0, none⟩ 1 1 o.cells rfl rfl ?_ ?_ ?_ ?_ ?_ ?_)
                · first | exact op_news wr o _ | (intro j u hj; simpa [OpD.cells] using hj)
                · exact op_one o
                · unfold maxLen; omega
                · omega
                · first | omega | (simp; omega)
                · intro v' w3 hown' hgrow _
                  obtain ⟨kl, kf⟩ := kept_snoc K.out
                  rw [← kl, ← kf] at hown'
                  obtain ⟨ao', cp', hv⟩ := owns_shape hown'
                  have HB := hide ((hbr.alloc hz3 (.cells #[.int .i64 o.code, .int .i64 o.family, .string o.bits, .int .i64 o.len, .int .i64 o.hop] 27)).grown hgrow (by simp; omega) (fun k hk => (hown2.lt k hk).1))
                  rw [hv] at hown' ⊢
                  have HO := hide hown'
                  clear hown' hgrow hown hown2 hbr K kf kl
                  go_wp2
                  go_roundw
                  case rel =>
                    first | exact ⟨m + 1, cp', ao', by omega, by go_num, rfl, HO.out, HB.out⟩ | ((repeat apply Exists.intro); refine ⟨?_, rfl⟩; exact ⟨m + 1, cp', ao', by omega, by go_num, rfl, HO.out, HB.out⟩)
                  case measure => simp [intOf]; omega
            · have K := hide (hkn hy)
              clear hky hkn
              have n1 : ¬ o.code ≤ code := fun h => hy (.inl h)
              have n2 : ¬ 4 < o.code := fun h => hy (.inr h)
              clear hy
              go_wp2
              go_roundw
              case rel => exact ⟨m + 1, cp, ao, by omega, by go_num, by rw [K.out], by rw [K.out]; exact hown, hbr⟩
              case measure => simp [intOf]; omega
          · have hbel1 : Below w.heap.size w wr := hbi.trans (hbr.mono (by have := NW_lt hni; omega))
            have hbr' : Below wi.heap.size wi wr := by rw [hsz]; exact hbr
            have hnr : NW w.heap.size wr := NW_ext hni hbr'
            have hsr := block_ext hsb hbr'
            have hlw : w.heap.size < wo.heap.size := hwlt
            have r0 := cell_at hsr 0
            have r1 := cell_at hsr 1
            have r2 := cell_at hsr 2
            have r4 := cell_at hsr 4
            have rf := free_at hsr 3
            simp at r0 r1 r2 r4
            have HN := hide (fun v => NW_store (j := 3) hnr hsr v)
            have HS := hide (fun v => heap_setCell_at (off := 3) v hsr)
            have HB := hide hbel1
            clear hsr hnr hbr hbr' hbel1 hown hsb hni hbi hoi
            go_wp2_with fail
            refine (step_news w.heap.size _ s.kind s.n s.words s.family _ (HN.out _) (by omega)).mono ?_
            rintro e w5 ⟨rfl, hb5, hn5, hk5⟩
            have hs5 := hk5 _ _ _ (HS.out _)
            have t0 := cell_at hs5 0
            simp at t0
            have HB5 := hide (show Below w.heap.size w w5 from (HB.out.setCell (by simp; omega) _).trans hb5)
            obtain ⟨ao4, cp4, np4, xs4, p1, p2, p3⟩ := hn5
            have HN5 := hide (show NW w.heap.size w5 from ⟨ao4, cp4, np4, xs4, p1, p2, p3⟩)
            clear p2 p3 hb5 hk5 hs5 HN HS HB
            go_wp2_with fail
            refine (looks_none w.heap.size _ _ p1).mono ?_
            rintro e w6 ⟨rfl, rfl⟩
            clear p1
            by_cases g1 : s.kind < 1
            · have g2 : decide (1 ≤ s.kind) = false := by simp; omega
              have g3 : (s.kind == 1) = false := by simp; omega
              go_wp2
              go_roundw
              case rel => exact ⟨k + 1, by omega, by go_num, HN5.out, HB5.out⟩
              case measure => simp [intOf]; omega
            · have g2 : 1 ≤ s.kind := by omega
              by_cases g3 : s.kind ≤ last
              · go_wp2
                go_roundw
                case rel => exact ⟨k + 1, by omega, by go_num, HN5.out, HB5.out⟩
                case measure => simp [intOf]; omega
              · have g4 : decide (s.kind ≤ last) = false := by simpa using g3
                have g5 : (s.kind == 1) = true := by simp; omega
                go_wp2
                go_roundw
                case rel => exact ⟨k + 1, by omega, by go_num, HN5.out, HB5.out⟩
                case measure => simp [intOf]; omega
    · go_wp2
      go_ret
      exact ⟨rfl, hbel⟩
end Go.Proofs.YtnapboelfimaaaaGreatDoor
