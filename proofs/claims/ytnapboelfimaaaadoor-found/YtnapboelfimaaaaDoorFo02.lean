/- FouW, LFo: parts of the proof, one behind the other. -/
import Derived.Test.YtnapboelfimaaaaDoorFo01
/- found, walked. -/
namespace Go.Proofs.YtnapboelfimaaaaDoor
open Go.RowKit Go.Deep
theorem tell_get {S : St} {f : Int} {i : Nat} {x : Nat × Nat × Nat} (h : (dumpR (S.M (fam f)) (dp (fam f)))[i]? = some x) : (tellL S f).getD i RouteD.zero = rdOf (famBytes f) x := by
  unfold tellL
  rw [List.getD_eq_getElem?_getD, List.getElem?_map, h]
  rfl
theorem look_ok' (f : Int) (s : ByteArray) (hf : f = 4 ∨ f = 6) (h : s.size ≤ 9223372036854775807) : (⟨3, f, s, 0, 0⟩ : OpD).ok := by
  rcases hf with rfl | rfl <;> constructor <;> first | exact h | simp
set_option maxHeartbeats 8000000 in
set_option maxRecDepth 10000 in
theorem found_any (S : St) (hS : S.ok) (b : FB) (K0 : Nat) (f : Int) (n : Nat) (hn : famBytes f = n) (hn0 : n ≠ 0) (s : ByteArray) (hs : s.size = n) (w : World) (hl : b.lies w S.A) (hge : b.ge K0) (hK0 : K0 ≤ w.heap.size) (hZ : TzTab w) :
    Calls Tryd.prog 13 #[.pointer (some ⟨b.fb, 0, none⟩), .int .i64 f, .string s] w fun e w' => e = .returned (.bool true) ∧ ∃ b' : FB, b'.fb = b.fb ∧ b'.lies w' S.A ∧ b'.ge K0 ∧ Below K0 w w' := by
  have hn16 : n ≤ 16 := by rw [← hn]; unfold famBytes; split <;> (try split) <;> omega
  have hn16' : (n : Int) ≤ 16 := by omega
  obtain ⟨D, hDd⟩ : ∃ D, D = dumpR (S.M (fam f)) (dp (fam f)) := ⟨_, rfl⟩
  have HRT := hide (fun (x : Nat × Nat × Nat) (hx : x ∈ D) => show RtOk (S.M (fam f)) n x from by rw [← hn]; exact rt_ok hS (by omega) (by rw [← hDd]; exact hx))
  have HOR := hide (fun (i : Nat) (x y : Nat × Nat × Nat) (hx : D[i]? = some x) (hy : D[i + 1]? = some y) => show (Op.bytesLess (keyS n (addr x)).toList (keyS n (addr y)).toList = true ∧ (keyS n (addr x)).toList ≠ (keyS n (addr y)).toList) ∨ ((keyS n (addr x)).toList = (keyS n (addr y)).toList ∧ x.1 < y.1) from by rw [← hn]; exact rt_order hS (by omega) (by rw [← hDd]; exact hx) (by rw [← hDd]; exact hy))
  have HTG := hide (fun (i : Nat) (x : Nat × Nat × Nat) (hx : D[i]? = some x) => show (tellL S f).getD i RouteD.zero = rdOf n x from by rw [← hn]; exact tell_get (by rw [← hDd]; exact hx))
  have HDL := hide (show (tellL S f).length = D.length by unfold tellL; rw [List.length_map, hDd])
  have HBA := hide (fun (best : Int) (hb : Best D (keyNum s) D.length best) => show (best = -1 ∧ hopN S.M (fam f) (keyNum s) = none) ∨ ∃ (j : Nat) (x : Nat × Nat × Nat), best = (j : Int) ∧ D[j]? = some x ∧ hopN S.M (fam f) (keyNum s) = some x.2.2 from by rw [hDd] at *; exact best_found hS hb)
  have hDle : D.length ≤ 67584 := by rw [hDd]; exact hS.len _
  obtain ⟨Ka, hKa⟩ : ∃ Ka, Ka = keyNum s := ⟨_, rfl⟩
  rw [← hKa] at HBA
  have hKlt : Ka < 2 ^ 136 := by rw [hKa]; exact keyNum_lt s
  have hKb : ∀ i, i < n → sbyte s i = kbyte Ka i := fun i hi => by rw [hKa]; exact (keyNum_byte s i (by omega)).symm
  have HFT := hide (fun (x : Nat × Nat × Nat) (hx : x ∈ D) (hop : Int) (w : World) => fits_any (keyS n (addr x)) s n x.1 (addr x) Ka hop w (keyS_size _ _) hs hn16 (HRT.out x hx).len (addr_lt (l := x.1) (v := x.2.1) (h := x.2.2) (by have := (HRT.out x hx).len; omega) (HRT.out x hx).val) hKlt (fun i hi => keyS_byte hi) hKb)
  have HBI := hide (fun (x : Nat × Nat × Nat) (k : Nat) (w : World) (hk : k < 8 * n) => bit_any (keyS n (addr x)) n k (addr x) w (keyS_size _ _) hn16 hk (fun i hi => keyS_byte hi))
  have HDU := hide (dump_any S hS b w hl hZ f f rfl (by omega))
  have HI := hide (And.intro hl (And.intro hge hK0))
  have HS := hide hS
  have HKA := hide hKa
  have HN := hide hn
  have hKS : (keyS n 0).size = n := keyS_size _ _
  clear hDd hl hge hZ hKa hKlt hKb hS hn hKS
  go_enter Tryd.func13, Tryd.ntmps13
  go_wp2_with fail
  refine HDU.out.mono ?_
  rintro e w5 ⟨v5, rfl, o5, e5⟩
  rw [HDL.out] at o5
  obtain ⟨ao, cp, rfl⟩ := owns_slice o5
  have O5 := hide o5
  have B5 := hide e5
  obtain ⟨N, hN⟩ : ∃ N, N = D.length := ⟨_, rfl⟩
  have HNN := hide hN
  rw [← hN] at hDle ⊢
  clear o5 e5 hN
  go_wp2_with fail
  go_loopw [8, 9] (fun bv v wr => ∃ (i : Nat) (best : Int), v = .int .i64 (i : Int) ∧ bv = .int .i64 best ∧ i ≤ N ∧ Best D Ka i best ∧ Below w5.heap.size w5 wr) (fun _ v _ => N - (intOf v).toNat)
  case atStart => exact ⟨0, -1, rfl, rfl, Nat.zero_le _, Or.inl ⟨rfl, fun j x hj => by omega⟩, Below.refl _ _⟩
  case round =>
    obtain ⟨i, best, rfl, rfl, hi, hbest, hbw⟩ := hrel
    have HBE := hide hbest
    have HBW := hide hbw
    clear hbest hbw
    by_cases hin : i < N
    · have hil : i < D.length := by rw [← HNN.out]; exact hin
      obtain ⟨x, hx⟩ : ∃ x, D[i]? = some x := ⟨_, List.getElem?_eq_getElem hil⟩
      have HX := hide hx
      have hrt := HRT.out x (List.mem_of_getElem? hx)
      have HRX := hide hrt
      have hown := owns_ext O5.out HBW.out
      rw [← HDL.out] at hown
      obtain ⟨g, hg, hlg, c0, c1, c2⟩ := route_cells (k := i) hown (by rw [HDL.out]; exact hil)
      rw [HTG.out i x hx] at c0 c1 c2
      simp only [rdOf] at c0 c1 c2
      subst hg
      obtain ⟨lx, hlx⟩ : ∃ lx, lx = x.1 := ⟨_, rfl⟩
      obtain ⟨hx2, hhx⟩ : ∃ hx2, hx2 = x.2.2 := ⟨_, rfl⟩
      obtain ⟨sx, hsx⟩ : ∃ sx, sx = keyS n (addr x) := ⟨_, rfl⟩
      have hss : sx.size = n := by rw [hsx]; exact keyS_size _ _
      have hln := hrt.len
      have hhn := hrt.hop
      rw [← hlx] at c1 hln
      rw [← hhx] at c2 hhn
      rw [← hsx] at c0
      have HLX := hide (And.intro hlx (And.intro hhx hsx))
      have hln' : (lx : Int) ≤ 8 * n := by omega
      have hhn' : (hx2 : Int) ≤ 65535 := by omega
      clear hx hrt hown hlx hhx hsx
      obtain ⟨w6, hw6⟩ : ∃ w6, w6 = wr.alloc (.cells #[.string sx, .int .i64 (lx : Int), .int .i64 (hx2 : Int)] 47) := ⟨_, rfl⟩
      have hb6 : Below wr.heap.size wr w6 := by rw [hw6]; exact ext_alloc _ _
      have bz : w6.heap[wr.heap.size]? = some (.cells #[.string sx, .int .i64 (lx : Int), .int .i64 (hx2 : Int)] 47 (0, 0)) := by rw [hw6]; exact heap_alloc_new _ _
      obtain ⟨rb, hrb⟩ : ∃ rb, rb = wr.heap.size := ⟨_, rfl⟩
      rw [← hrb] at bz
      have HBZ := hide bz
      have B6 := hide (ext_trans HBW.out hb6)
      have HW6 := hide hw6
      have HRB := hide hrb
      clear hw6 hb6 bz hrb
      go_wp2_with fail
      rw [← HW6.out, ← HRB.out]
      clear c0 c1 c2 hlg
      obtain ⟨z0, z1, z2⟩ := cells3 HBZ.out
      have hlz := lt_of_block HBZ.out
      go_loopw [11] (fun v wq => ∃ k : Nat, v = .int .i64 (k : Int) ∧ lx ≤ k ∧ k ≤ 8 * n ∧ wq = w6) (fun v _ => 8 * n - (intOf v).toNat)
      case atStart => exact ⟨lx, rfl, Nat.le_refl _, hln, rfl⟩
      case round =>
        obtain ⟨k, rfl, hk1, hk2, rfl⟩ := hrel
        by_cases hk : k < 8 * n
        · have hk' : (k : Int) < 8 * n := by omega
          have hbit := HBI.out x k wr hk
          rw [← HLX.out.2.2, show kb (addr x) k = 0 from kb_zero (l := x.1) (v := x.2.1) (h := x.2.2) (by rw [← HLX.out.1]; exact hk1) (by omega)] at hbit
          have HBT := hide hbit
          clear hbit
          go_wp2_with fail
          refine HBT.out.mono ?_
          rintro e w7 ⟨rfl, rfl⟩
          go_wp2
          exact ⟨⟨k + 1, by simp, by omega, by omega, trivial⟩, by simp [intOf]; omega⟩
        · have hk' : ¬ (k : Int) < 8 * n := by omega
          clear hk1 hk2
          cases i with
          | zero =>
            go_wp2
            go_quiet (fail)
            obtain ⟨w7, hw7⟩ : ∃ w7, w7 = wr.drewN nq := ⟨_, rfl⟩
            rw [← hw7]
            have e7 : Below wr.heap.size wr w7 := by rw [hw7]; exact drewN_ext _ _
            have B7 := hide (ext_trans B6.out e7)
            have Z7 := hide (block_ext HBZ.out e7)
            clear hw7 e7 z0 z1 z2 hlz
            obtain ⟨z0, z1, z2⟩ := cells3 Z7.out
            have hlz := lt_of_block Z7.out
            have hft := HFT.out x (List.mem_of_getElem? HX.out) (hx2 : Int) w7
            rw [← HLX.out.2.2, show fitK (addr x) x.1 = x.2.1 from fit_addr (l := x.1) (v := x.2.1) (h := x.2.2), ← HLX.out.1] at hft
            have HF7 := hide hft
            clear hft
            go_wp2_with fail
            refine HF7.out.mono ?_
            rintro e w8 ⟨rfl, e8⟩
            have B8 := hide (ext_trans B7.out e8)
            clear z0 z1 z2 hlz
            obtain ⟨z0, z1, z2⟩ := cells3 (block_ext Z7.out e8)
            have hlz := lt_of_block (block_ext Z7.out e8)
            clear e8
            by_cases hfit : x.2.1 = fitK Ka lx
            · have HFI := hide (show fitK Ka x.1 = x.2.1 by rw [← HLX.out.1]; exact hfit.symm)
              rw [decide_eq_true hfit]
              clear hfit
              rcases hbb : HBE.out with ⟨hm1, hno⟩ | ⟨jb, yb, hj1, hj2, hj3, hj4, hj5⟩
              · have HNB := hide (best_yes HBE.out HX.out HFI.out (Or.inl hm1))
                clear hbb hno
                subst hm1
                go_wp2
                go_quiet (fail)
                go_wp2
                exact ⟨⟨0 + 1, (0 : Nat), by simp, by simp, by omega, HNB.out, ext_trans B8.out (drewN_ext _ _)⟩, by simp [intOf]; omega⟩
              · clear hbb
                have hown := owns_ext O5.out B8.out
                rw [← HDL.out] at hown
                have hjl : jb < D.length := (List.getElem?_eq_some_iff.1 hj2).1
                obtain ⟨g', hg', hlg, d0, d1, d2⟩ := route_cells (k := jb) hown (by rw [HDL.out]; exact hjl)
                cases hg'
                rw [HTG.out jb yb hj2] at d1
                simp only [rdOf] at d1
                have hjN : (jb : Int) < N := by rw [HNN.out]; omega
                obtain ⟨ly, hly⟩ : ∃ ly, ly = yb.1 := ⟨_, rfl⟩
                rw [← hly] at d1
                by_cases hcmp : ly < lx
                · have hcmp' : (ly : Int) < lx := by omega
                  have HNB := hide (best_yes HBE.out HX.out HFI.out (Or.inr (fun j' y' e1 e2 => by
                    have : j' = jb := by omega
                    subst this
                    rw [hj2] at e2
                    cases e2
                    rw [← HLX.out.1, ← hly]
                    exact hcmp)))
                  clear hj1 hj2 hj4 hj5 hown hjl hly hcmp
                  subst hj3
                  go_wp2
                  go_quiet (fail)
                  go_wp2
                  exact ⟨⟨0 + 1, (0 : Nat), by simp, by simp, by omega, HNB.out, ext_trans B8.out (drewN_ext _ _)⟩, by simp [intOf]; omega⟩
                · have hcmp' : ¬ (ly : Int) < lx := by omega
                  have HNB := hide (show Best D Ka (0 + 1) (jb : Int) from best_keep (by have := HBE.out; rw [hj3] at this; exact this) HX.out hj2 (by rw [← HLX.out.1, ← hly]; omega))
                  clear hj1 hj2 hj4 hj5 hown hjl hly hcmp
                  subst hj3
                  go_wp2
                  go_quiet (fail)
                  go_wp2
                  exact ⟨⟨0 + 1, jb, by simp, by simp, by omega, HNB.out, ext_trans B8.out (drewN_ext _ _)⟩, by simp [intOf]; omega⟩
            · have HNB := hide (best_no HBE.out HX.out (fun e => hfit (by rw [HLX.out.1]; exact e.symm)))
              rw [decide_eq_false hfit]
              clear hfit
              go_wp2
              go_quiet (fail)
              go_wp2
              exact ⟨⟨0 + 1, best, by simp, by simp, by omega, HNB.out, ext_trans B8.out (drewN_ext _ _)⟩, by simp [intOf]; omega⟩
          | succ j =>
            obtain ⟨y, hy⟩ : ∃ y, D[j]? = some y := ⟨_, List.getElem?_eq_getElem (show j < D.length by omega)⟩
            have ord := HOR.out j y x hy HX.out
            have hown := owns_ext O5.out B6.out
            rw [← HDL.out] at hown
            obtain ⟨g', hg', hlg', d0, d1, d2⟩ := route_cells (k := j) hown (by rw [HDL.out]; omega)
            cases hg'
            rw [HTG.out j y hy] at d0 d1
            simp only [rdOf] at d0 d1
            obtain ⟨lp, hlp⟩ : ∃ lp, lp = y.1 := ⟨_, rfl⟩
            obtain ⟨sp, hsp⟩ : ∃ sp, sp = keyS n (addr y) := ⟨_, rfl⟩
            rw [← hlp] at d1 ord
            rw [← hsp] at d0 ord
            rw [← HLX.out.2.2, ← HLX.out.1] at ord
            have hordc : (Op.bytesLess sp.toList sx.toList = true ∧ (sp.toList == sx.toList) = false) ∨ ((sp.toList == sx.toList) = true ∧ ¬ ((lx : Int) ≤ lp)) := by
              rcases ord with ⟨o1, o2⟩ | ⟨o1, o2⟩
              · exact Or.inl ⟨o1, by simpa using o2⟩
              · exact Or.inr ⟨by rw [o1]; simp, by omega⟩
            have HDC := hide hordc
            have hjN : (j : Int) < N := by omega
            have EWJ : IntKind.i64.wrap (j : Int) = (j : Int) := by rw [IntKind.wrap_i64]; omega
            have EWK : IntKind.i64.wrap ((j : Int) + 1 - 1) = (j : Int) := by rw [IntKind.wrap_i64]; omega
            clear hy hown hlp hsp ord hordc d2
            go_wp2_with fail
            rcases HDC.out with ⟨el, ee⟩ | ⟨ee, hlt⟩
            · go_quiet (fail)
              clear d0 d1 hlg' HDC el ee
              obtain ⟨w7, hw7⟩ : ∃ w7, w7 = wr.drewN nq := ⟨_, rfl⟩
              rw [← hw7]
              have e7 : Below wr.heap.size wr w7 := by rw [hw7]; exact drewN_ext _ _
              have B7 := hide (ext_trans B6.out e7)
              have Z7 := hide (block_ext HBZ.out e7)
              clear hw7 e7 z0 z1 z2 hlz
              obtain ⟨z0, z1, z2⟩ := cells3 Z7.out
              have hlz := lt_of_block Z7.out
              have hft := HFT.out x (List.mem_of_getElem? HX.out) (hx2 : Int) w7
              rw [← HLX.out.2.2, show fitK (addr x) x.1 = x.2.1 from fit_addr (l := x.1) (v := x.2.1) (h := x.2.2), ← HLX.out.1] at hft
              have HF7 := hide hft
              clear hft
              go_wp2_with fail
              refine HF7.out.mono ?_
              rintro e w8 ⟨rfl, e8⟩
              have B8 := hide (ext_trans B7.out e8)
              clear z0 z1 z2 hlz
              obtain ⟨z0, z1, z2⟩ := cells3 (block_ext Z7.out e8)
              have hlz := lt_of_block (block_ext Z7.out e8)
              clear e8
              by_cases hfit : x.2.1 = fitK Ka lx
              · have HFI := hide (show fitK Ka x.1 = x.2.1 by rw [← HLX.out.1]; exact hfit.symm)
                rw [decide_eq_true hfit]
                clear hfit
                rcases hbb : HBE.out with ⟨hm1, hno⟩ | ⟨jb, yb, hj1, hj2, hj3, hj4, hj5⟩
                · have HNB := hide (best_yes HBE.out HX.out HFI.out (Or.inl hm1))
                  clear hbb hno
                  subst hm1
                  go_wp2
                  go_quiet (fail)
                  go_wp2
                  exact ⟨⟨(j + 1) + 1, ((j + 1 : Nat) : Int), by simp, by simp, by omega, HNB.out, ext_trans B8.out (drewN_ext _ _)⟩, by simp [intOf]; omega⟩
                · clear hbb
                  have hown := owns_ext O5.out B8.out
                  rw [← HDL.out] at hown
                  have hjl : jb < D.length := (List.getElem?_eq_some_iff.1 hj2).1
                  obtain ⟨g', hg', hlg, d0, d1, d2⟩ := route_cells (k := jb) hown (by rw [HDL.out]; exact hjl)
                  cases hg'
                  rw [HTG.out jb yb hj2] at d1
                  simp only [rdOf] at d1
                  have hjN : (jb : Int) < N := by rw [HNN.out]; omega
                  obtain ⟨ly, hly⟩ : ∃ ly, ly = yb.1 := ⟨_, rfl⟩
                  rw [← hly] at d1
                  by_cases hcmp : ly < lx
                  · have hcmp' : (ly : Int) < lx := by omega
                    have HNB := hide (best_yes HBE.out HX.out HFI.out (Or.inr (fun j' y' e1 e2 => by
                      have : j' = jb := by omega
                      subst this
                      rw [hj2] at e2
                      cases e2
                      rw [← HLX.out.1, ← hly]
                      exact hcmp)))
                    clear hj1 hj2 hj4 hj5 hown hjl hly hcmp
                    subst hj3
                    go_wp2
                    go_quiet (fail)
                    go_wp2
                    exact ⟨⟨(j + 1) + 1, ((j + 1 : Nat) : Int), by simp, by simp, by omega, HNB.out, ext_trans B8.out (drewN_ext _ _)⟩, by simp [intOf]; omega⟩
                  · have hcmp' : ¬ (ly : Int) < lx := by omega
                    have HNB := hide (show Best D Ka ((j + 1) + 1) (jb : Int) from best_keep (by have := HBE.out; rw [hj3] at this; exact this) HX.out hj2 (by rw [← HLX.out.1, ← hly]; omega))
                    clear hj1 hj2 hj4 hj5 hown hjl hly hcmp
                    subst hj3
                    go_wp2
                    go_quiet (fail)
                    go_wp2
                    exact ⟨⟨(j + 1) + 1, jb, by simp, by simp, by omega, HNB.out, ext_trans B8.out (drewN_ext _ _)⟩, by simp [intOf]; omega⟩
              · have HNB := hide (best_no HBE.out HX.out (fun e => hfit (by rw [HLX.out.1]; exact e.symm)))
                rw [decide_eq_false hfit]
                clear hfit
                go_wp2
                go_quiet (fail)
                go_wp2
                exact ⟨⟨(j + 1) + 1, best, by simp, by simp, by omega, HNB.out, ext_trans B8.out (drewN_ext _ _)⟩, by simp [intOf]; omega⟩
            · have hdec : decide (lx ≤ lp) = false := decide_eq_false (by omega)
              have hlt2 : (lp : Int) < lx := by omega
              go_quiet (fail)
              clear d0 d1 hlg' HDC ee hlt hlt2 hdec
              obtain ⟨w7, hw7⟩ : ∃ w7, w7 = wr.drewN nq := ⟨_, rfl⟩
              rw [← hw7]
              have e7 : Below wr.heap.size wr w7 := by rw [hw7]; exact drewN_ext _ _
              have B7 := hide (ext_trans B6.out e7)
              have Z7 := hide (block_ext HBZ.out e7)
              clear hw7 e7 z0 z1 z2 hlz
              obtain ⟨z0, z1, z2⟩ := cells3 Z7.out
              have hlz := lt_of_block Z7.out
              have hft := HFT.out x (List.mem_of_getElem? HX.out) (hx2 : Int) w7
              rw [← HLX.out.2.2, show fitK (addr x) x.1 = x.2.1 from fit_addr (l := x.1) (v := x.2.1) (h := x.2.2), ← HLX.out.1] at hft
              have HF7 := hide hft
              clear hft
              go_wp2_with fail
              refine HF7.out.mono ?_
              rintro e w8 ⟨rfl, e8⟩
              have B8 := hide (ext_trans B7.out e8)
              clear z0 z1 z2 hlz
              obtain ⟨z0, z1, z2⟩ := cells3 (block_ext Z7.out e8)
              have hlz := lt_of_block (block_ext Z7.out e8)
              clear e8
              by_cases hfit : x.2.1 = fitK Ka lx
              · have HFI := hide (show fitK Ka x.1 = x.2.1 by rw [← HLX.out.1]; exact hfit.symm)
                rw [decide_eq_true hfit]
                clear hfit
                rcases hbb : HBE.out with ⟨hm1, hno⟩ | ⟨jb, yb, hj1, hj2, hj3, hj4, hj5⟩
                · have HNB := hide (best_yes HBE.out HX.out HFI.out (Or.inl hm1))
                  clear hbb hno
                  subst hm1
                  go_wp2
                  go_quiet (fail)
                  go_wp2
                  exact ⟨⟨(j + 1) + 1, ((j + 1 : Nat) : Int), by simp, by simp, by omega, HNB.out, ext_trans B8.out (drewN_ext _ _)⟩, by simp [intOf]; omega⟩
                · clear hbb
                  have hown := owns_ext O5.out B8.out
                  rw [← HDL.out] at hown
                  have hjl : jb < D.length := (List.getElem?_eq_some_iff.1 hj2).1
                  obtain ⟨g', hg', hlg, d0, d1, d2⟩ := route_cells (k := jb) hown (by rw [HDL.out]; exact hjl)
                  cases hg'
                  rw [HTG.out jb yb hj2] at d1
                  simp only [rdOf] at d1
                  have hjN : (jb : Int) < N := by rw [HNN.out]; omega
                  obtain ⟨ly, hly⟩ : ∃ ly, ly = yb.1 := ⟨_, rfl⟩
                  rw [← hly] at d1
                  by_cases hcmp : ly < lx
                  · have hcmp' : (ly : Int) < lx := by omega
                    have HNB := hide (best_yes HBE.out HX.out HFI.out (Or.inr (fun j' y' e1 e2 => by
                      have : j' = jb := by omega
                      subst this
                      rw [hj2] at e2
                      cases e2
                      rw [← HLX.out.1, ← hly]
                      exact hcmp)))
                    clear hj1 hj2 hj4 hj5 hown hjl hly hcmp
                    subst hj3
                    go_wp2
                    go_quiet (fail)
                    go_wp2
                    exact ⟨⟨(j + 1) + 1, ((j + 1 : Nat) : Int), by simp, by simp, by omega, HNB.out, ext_trans B8.out (drewN_ext _ _)⟩, by simp [intOf]; omega⟩
                  · have hcmp' : ¬ (ly : Int) < lx := by omega
                    have HNB := hide (show Best D Ka ((j + 1) + 1) (jb : Int) from best_keep (by have := HBE.out; rw [hj3] at this; exact this) HX.out hj2 (by rw [← HLX.out.1, ← hly]; omega))
                    clear hj1 hj2 hj4 hj5 hown hjl hly hcmp
                    subst hj3
                    go_wp2
                    go_quiet (fail)
                    go_wp2
                    exact ⟨⟨(j + 1) + 1, jb, by simp, by simp, by omega, HNB.out, ext_trans B8.out (drewN_ext _ _)⟩, by simp [intOf]; omega⟩
              · have HNB := hide (best_no HBE.out HX.out (fun e => hfit (by rw [HLX.out.1]; exact e.symm)))
                rw [decide_eq_false hfit]
                clear hfit
                go_wp2
                go_quiet (fail)
                go_wp2
                exact ⟨⟨(j + 1) + 1, best, by simp, by simp, by omega, HNB.out, ext_trans B8.out (drewN_ext _ _)⟩, by simp [intOf]; omega⟩
    · obtain rfl : i = N := by omega
      have hfin := HBE.out
      rw [HNN.out] at hfin
      have hfin' := HBA.out best hfin
      have hf46 : f = 4 ∨ f = 6 := by
        have := HN.out
        unfold famBytes at this
        by_cases h4 : f = 4
        · exact Or.inl h4
        · rw [if_neg h4] at this
          by_cases h6 : f = 6
          · exact Or.inr h6
          · rw [if_neg h6] at this
            exact absurd this.symm hn0
      obtain ⟨a, ha⟩ : ∃ a, a = (S.step ⟨3, f, s, 0, 0⟩).2 := ⟨_, rfl⟩
      have hflt : opFault ⟨3, f, s, 0, 0⟩ = 0 := by
        unfold opFault addrFault
        simp only
        rw [if_neg (by decide), if_neg (by decide), if_pos (by decide), HN.out, if_neg hn0, if_pos hs]
      have hrd := step_reads (S := S) hflt rfl
      have hne : (S.step ⟨3, f, s, 0, 0⟩).2.err ≠ 8 := fun e => by have := (step_full HS.out e).1; simp at this
      obtain ⟨_, q2, q3⟩ := step_m HS.out hne
      have q2' : a.err = if (hopN S.M (fam f) Ka).isSome then 0 else 7 := by
        rw [ha, q2]
        unfold mErr
        rw [if_pos hflt, if_neg (show ¬ (3 : Int) = 2 by decide), if_pos rfl, HKA.out]
        rfl
      have q3' : a.hop = match hopN S.M (fam f) Ka with | some h => (h : Int) | none => 0 := by
        rw [ha, q3]
        unfold mHop
        rw [if_pos ⟨hflt, rfl⟩, HKA.out]
        rfl
      have hkeep : S = (S.step ⟨3, f, s, 0, 0⟩).1 := by
        unfold St.step
        rw [if_pos hflt, if_neg (show ¬ (3 : Int) = 1 by decide), if_neg (show ¬ (3 : Int) = 2 by decide), if_pos rfl]
      rw [← ha] at hrd
      have hok := look_ok' f s hf46 (by omega)
      have HON := hide (one_x S S ⟨3, f, s, 0, 0⟩ a b b.fb wr (HI.out.1.ext (ext_trans B5.out HBW.out)) HS.out hok rfl hkeep ha)
      have HFN := hide hfin'
      have HQ := hide (And.intro q2' q3')
      have hr1 : 1 ≤ a.reads := hrd.1
      have hr2 : a.reads ≤ (if f = 6 then 33 else 9) := by
        have := hrd.2
        rcases hf46 with rfl | rfl
        · simpa [fam, dp] using this
        · simpa [fam, dp] using this
      have hr1' : ¬ a.reads < 1 := by omega
      clear hfin hfin' hflt hrd hne q2 q3 q2' q3' hkeep ha hok
      have EF6 := hide hf46
      go_wp2_with fail
      refine HON.out.mono ?_
      rintro e w9 ⟨rfl, b9, hb9, hm9, _⟩
      obtain ⟨w10, hw10⟩ : ∃ w10, w10 = w9.alloc (.cells #[.int .i64 a.err, .int .i64 a.hop, .int .i64 a.reads] 33) := ⟨_, rfl⟩
      have hb10 : Below w9.heap.size w9 w10 := by rw [hw10]; exact ext_alloc _ _
      have bz : w10.heap[w9.heap.size]? = some (.cells #[.int .i64 a.err, .int .i64 a.hop, .int .i64 a.reads] 33 (0, 0)) := by rw [hw10]; exact heap_alloc_new _ _
      have hbwr : Below w.heap.size w wr := ext_trans B5.out HBW.out
      have hlr := HI.out.1.ext hbwr
      have hK1 : K0 ≤ wr.heap.size := Nat.le_trans HI.out.2.2 hbwr.size
      have hB9 : Below K0 w w9 := (hbwr.mono HI.out.2.2).trans (hm9.below HI.out.2.1 hK1)
      have hB10 : Below K0 w w10 := hB9.trans (hb10.mono (Nat.le_trans HI.out.2.2 hB9.size))
      have HEN := hide (And.intro hb9 (And.intro (hm9.lies.ext hb10) (And.intro (hm9.ge _ HI.out.2.1 hK1) hB10)))
      have OW := hide (owns_ext (hm9.owns hlr (owns_ext O5.out HBW.out)) hb10)
      have BZ := hide bz
      have HW10 := hide hw10
      clear hw10 hb10 bz hbwr hlr hK1 hB9 hB10 hm9 hb9
      rcases HFN.out with ⟨hb1, hno⟩ | ⟨jb, yb, hb1, hyb, hso⟩
      · have e7 : (a.err == 7) = true := by rw [HQ.out.1, hno]; rfl
        have e0 : (a.hop == 0) = true := by rw [HQ.out.2, hno]; rfl
        subst hb1
        clear hno
        have HEN' := hide HEN.out
        rw [HW10.out] at HEN'
        by_cases hf6 : f = 6
        · have ef6 : (f == 6) = true := by simpa using hf6
          rw [if_pos hf6] at hr2
          clear hf6 hf46
          go_wp2
          go_ret
          exact ⟨rfl, b9, HEN'.out⟩
        · have ef6 : (f == 6) = false := by simpa using hf6
          rw [if_neg hf6] at hr2
          clear hf6 hf46
          go_wp2
          go_ret
          exact ⟨rfl, b9, HEN'.out⟩
      · have hown := OW.out
        rw [← HDL.out] at hown
        have hjl : jb < D.length := (List.getElem?_eq_some_iff.1 hyb).1
        obtain ⟨g, rfl, hlg, d0, d1, d2⟩ := route_cells (k := jb) hown (by rw [HDL.out]; exact hjl)
        rw [HTG.out jb yb hyb] at d2
        simp only [rdOf] at d2
        have e0 : (a.err == 0) = true := by rw [HQ.out.1, hso]; rfl
        obtain ⟨hy2, hhy⟩ : ∃ hy2, hy2 = yb.2.2 := ⟨_, rfl⟩
        rw [← hhy] at d2
        have eh : (a.hop == (hy2 : Int)) = true := by rw [HQ.out.2, hso, hhy]; simp
        have hjN : (jb : Int) < i := by rw [HNN.out]; omega
        obtain ⟨t0, t1, t2⟩ := cells3 BZ.out
        have hlt := lt_of_block BZ.out
        subst hb1
        clear hso hown hjl d0 d1 hyb hhy
        by_cases hf6 : f = 6
        · have ef6 : (f == 6) = true := by simpa using hf6
          rw [if_pos hf6] at hr2
          clear hf6 hf46
          go_wp2_with fail
          rw [← HW10.out]
          go_quiet (fail)
          go_wp2
          go_ret
          exact ⟨rfl, b9, HEN.out.1, HEN.out.2.1.ext (drewN_ext _ _), HEN.out.2.2.1, HEN.out.2.2.2.trans ((drewN_ext _ _).mono (Nat.le_trans hK0 HEN.out.2.2.2.size))⟩
        · have ef6 : (f == 6) = false := by simpa using hf6
          rw [if_neg hf6] at hr2
          clear hf6 hf46
          go_wp2_with fail
          rw [← HW10.out]
          go_quiet (fail)
          go_wp2
          go_ret
          exact ⟨rfl, b9, HEN.out.1, HEN.out.2.1.ext (drewN_ext _ _), HEN.out.2.2.1, HEN.out.2.2.2.trans ((drewN_ext _ _).mono (Nat.le_trans hK0 HEN.out.2.2.2.size))⟩
end Go.Proofs.YtnapboelfimaaaaDoor
/- The law Found, walked. -/
namespace Go.Proofs.YtnapboelfimaaaaDoor
open Go.RowKit Go.Deep
theorem size_head (a z : ByteArray) (n : Nat) (hz : z.size = n) : ((a ++ z).extract 0 n).size = n := by
  rw [ByteArray.size_extract, ByteArray.size_append, hz]
  omega
set_option maxHeartbeats 4000000 in
set_option maxRecDepth 10000 in
theorem found_walk (n : Int) (h1 : -9223372036854775808 ≤ n) (h2 : n ≤ 9223372036854775807) (ao : Option Addr) (cap : Nat) (ops : List OpD) (four six : ByteArray) (h4 : four.size ≤ 140737488351232) (h6 : six.size ≤ 140737488351232) (w : World) (hO : OpsOn w ao ops) (hlen : ops.length ≤ 2932031007402) (hZ : TzTab w) :
    Calls Tryd.prog 3 #[.int .i64 n, .slice ao ops.length cap, .string four, .string six] w fun e w' => e = .returned (.bool true) ∧ Below w.heap.size w w' := by
  obtain ⟨N, hN⟩ : ∃ N, N = wordsN n := ⟨_, rfl⟩
  have hNi := wordsN_in n
  have HWO := hide (fun w => words_any n w h1 h2)
  rw [← hN] at hNi HWO
  clear hN
  have hS : (St.new N).ok := new_ok hNi.1 hNi.2
  obtain ⟨S, hSd⟩ : ∃ S, S = St.new N := ⟨_, rfl⟩
  have HSD := hide hSd
  rw [← hSd] at hS
  clear hSd
  have HO := hide hO
  have HZ := hide hZ
  have HS := hide hS
  obtain ⟨m, hm⟩ : ∃ m, m = ops.length := ⟨_, rfl⟩
  have HM := hide hm
  rw [← hm] at hlen ⊢
  clear hO hZ hS hm
  go_enter Tryd.func3, Tryd.ntmps3
  go_wp2_with fail
  refine (known_any w HZ.out).mono ?_
  rintro e w1 ⟨rfl, hb1⟩
  have B1 := hide hb1
  clear hb1
  go_wp2_with fail
  refine (HWO.out _).mono ?_
  rintro e w1' ⟨rfl, rfl⟩
  go_wp2_with fail
  refine (fib_x _ N _ rfl hNi.1 hNi.2).mono ?_
  rintro e w2 ⟨rfl, hb2, hl2⟩
  have L2 := hide hl2
  have B2 := hide (ext_trans B1.out hb2)
  have G2 := hide ((newB_ge w1').mono B1.out.size)
  obtain ⟨b, hb⟩ : ∃ b, b = newB w1' := ⟨_, rfl⟩
  rw [← hb] at L2 G2 ⊢
  rw [← HSD.out] at L2
  clear hb2 hl2 hb
  go_wp2_with fail
  have hrun := run_ops S ops b ao cap w.heap.size w w2 HO.out rfl B2.out L2.out G2.out HS.out (by rw [← HM.out]; exact hlen)
  rw [← HM.out] at hrun
  refine hrun.mono ?_
  clear hrun
  rintro e w4 ⟨rfl, ⟨b4, hb4⟩, _⟩
  have hRok := (run_ok HS.out ops).1
  obtain ⟨R, hR⟩ : ∃ R, R = (S.run ops).1 := ⟨_, rfl⟩
  rw [← hR] at hRok hb4
  have B4 := hide (B2.out.trans (hb4.below G2.out B2.out.size))
  have L4 := hide (And.intro hb4.lies (hb4.ge _ G2.out B2.out.size))
  have HR := hide hRok
  have hf4 := hb4.fb
  have HF4 := hide hf4
  have HFO := hide (fun (c : FB) (fb : Nat) (hfb : c.fb = fb) (f : Int) (n : Nat) (hn : famBytes f = n) (hn0 : n ≠ 0) (s : ByteArray) (hs : s.size = n) (w' : World) (hl : c.lies w' R.A) (hge : c.ge w.heap.size) (hK : w.heap.size ≤ w'.heap.size) (hz : TzTab w') => show Calls Tryd.prog 13 #[.pointer (some ⟨fb, 0, none⟩), .int .i64 f, .string s] w' fun e w'' => e = .returned (.bool true) ∧ ∃ b' : FB, b'.fb = fb ∧ b'.lies w'' R.A ∧ b'.ge w.heap.size ∧ Below w.heap.size w' w'' from by subst hfb; exact found_any R hRok c w.heap.size f n hn hn0 s hs w' hl hge hK hz)
  clear hb4 hRok hR hf4
  go_wp2_with fail
  refine (HFO.out b4 b.fb HF4.out 4 4 (by decide) (by decide) _ (size_head four _ 4 rfl) w4 L4.out.1 L4.out.2 B4.out.size (HZ.out.ext B4.out)).mono ?_
  rintro e w5 ⟨rfl, b5, hf5, hl5, hg5, hb5⟩
  have B5 := hide (B4.out.trans hb5)
  have L5 := hide (And.intro hl5 (And.intro hg5 hf5))
  clear hf5 hl5 hg5 hb5
  go_wp2_with fail
  refine (HFO.out b5 b.fb L5.out.2.2 6 16 (by decide) (by decide) _ (size_head six _ 16 rfl) w5 L5.out.1 L5.out.2.1 B5.out.size (HZ.out.ext B5.out)).mono ?_
  rintro e w6 ⟨rfl, b6, hf6, hl6, hg6, hb6⟩
  have B6 := hide (B5.out.trans hb6)
  clear hf6 hl6 hg6 hb6
  go_wp2
  go_ret
  exact ⟨rfl, B6.out⟩
end Go.Proofs.YtnapboelfimaaaaDoor
