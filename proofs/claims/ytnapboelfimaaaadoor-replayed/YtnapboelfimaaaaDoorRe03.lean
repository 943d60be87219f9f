/- Proved: what is dumped and put into a new Fib leaves as much free, and without its routes as much as in a new one (statement Replayed), for every number and every list of operations. This text: LRe, ReplayedP: parts of the proof, one behind the other. -/
import Derived.Test.YtnapboelfimaaaaDoorRe02
import Derived.Test.YtnapboelfimaaaaDoorK40
/- The law Replayed, walked. -/
namespace Go.Proofs.YtnapboelfimaaaaDoor
open Go.RowKit Go.Deep
/-- what the new Fib holds when so many families have been put in -/
structure RepI (R G : St) (N k : Nat) : Prop where
  low : G.M false = if 1 ≤ k then R.M false else noTab false
  high : G.M true = if 2 ≤ k then R.M true else noTab true
  sR : R.A.size = N
  sG : G.A.size = N
theorem tell_idx {S : St} {f : Int} {i : Nat} {x : Nat × Nat × Nat} (h : (dumpR (S.M (fam f)) (dp (fam f)))[i]? = some x) : (tellL S f).getD i RouteD.zero = rdOf (famBytes f) x := by
  unfold tellL
  rw [List.getD_eq_getElem?_getD, List.getElem?_map, h]
  rfl
theorem owns_block {w : World} {base : Nat} {e : TypeId} {size : Nat} {g m cap n : Nat} {xs : List Value} (h : w.ownsRow base e size (.slice (some ⟨g, 0, none⟩) m cap) n xs) : ∃ cur, w.heap[g]? = some (.cells cur e (0, 0)) := by
  rcases h.2 with ⟨e, _⟩ | ⟨g', cap', cur, e, _, hgg, _⟩
  · cases e
  · cases e
    exact ⟨cur, hgg⟩
theorem lies_set {b : FB} {w w' : World} {A : Ar} {zb : Nat} {cs : Array Value} {fz : Nat × Nat} (h : b.lies w A) (hz : w.heap[zb]? = some (.cells cs 33 fz)) (hf : Fr [zb] w w') : b.lies w' A := by
  have n0 := ty_ne h.fib hz (by decide)
  have n1 := ty_ne h.tab.tab hz (by decide)
  have n2 := ty_ne h.tab.ar.arena hz (by decide)
  have n3 := ty_ne h.tab.ar.words hz (by decide)
  exact ⟨hf.at h.fib (by simpa using n0), ⟨hf.at h.tab.tab (by simpa using n1), h.tab.ar.fr hf (by simpa using n2) (by simpa using n3)⟩⟩
theorem Duo.set {w0 : World} {b c : FB} {R G : St} {w w' : World} {zb : Nat} {cs : Array Value} {fz : Nat × Nat} (h : Duo w0 b c R G w) (hz : w.heap[zb]? = some (.cells cs 33 fz)) (hge : w0.heap.size ≤ zb) (hf : Fr [zb] w w') : Duo w0 b c R G w' :=
  ⟨lies_set h.lb hz hf, lies_set h.lc hz hf, h.ap, h.gb, h.gc, h.bw.trans (hf.below h.bw.size (by intro k hk; simp at hk; omega)), h.okR, h.okG⟩
theorem rep_start {R G : St} {N k : Nat} {f : Int} (h : RepI R G N k) (hk : k = 0 ∧ f = 4 ∨ k = 1 ∧ f = 6) : G.M (fam f) = tabL [] := by
  rcases hk with ⟨rfl, rfl⟩ | ⟨rfl, rfl⟩
  · rw [show fam 4 = false by decide, h.low, if_neg (by omega)]; rfl
  · rw [show fam 6 = true by decide, h.high, if_neg (by omega)]; rfl
theorem rep_next {R G G' : St} {N k : Nat} {f : Int} (h : RepI R G N k) (hk : k = 0 ∧ f = 4 ∨ k = 1 ∧ f = 6) (h1 : G'.M (fam f) = R.M (fam f)) (h2 : G'.M (!fam f) = G.M (!fam f)) (hs : G'.A.size = N) : RepI R G' N (k + 1) := by
  rcases hk with ⟨rfl, rfl⟩ | ⟨rfl, rfl⟩
  · rw [show fam 4 = false by decide] at h1 h2
    refine ⟨by rw [if_pos (by omega)]; exact h1, ?_, h.sR, hs⟩
    rw [show true = !false from rfl, h2]
    show G.M true = _
    rw [h.high, if_neg (by omega), if_neg (by omega)]
    rfl
  · rw [show fam 6 = true by decide] at h1 h2
    refine ⟨?_, by rw [if_pos (by omega)]; exact h1, h.sR, hs⟩
    rw [show false = !true from rfl, h2]
    show G.M false = _
    rw [h.low, if_pos (by omega), if_pos (by omega)]
    rfl
/-- what the old Fib holds when so many families have been taken out -/
structure DelI (R Q : St) (N k : Nat) : Prop where
  low : Q.M false = if 1 ≤ k then noTab false else R.M false
  high : Q.M true = if 2 ≤ k then noTab true else R.M true
  sQ : Q.A.size = N
theorem del_start {R Q : St} {N k : Nat} {f : Int} (h : DelI R Q N k) (hk : k = 0 ∧ f = 4 ∨ k = 1 ∧ f = 6) : Q.M (fam f) = R.M (fam f) := by
  rcases hk with ⟨rfl, rfl⟩ | ⟨rfl, rfl⟩
  · rw [show fam 4 = false by decide, h.low, if_neg (by omega)]
  · rw [show fam 6 = true by decide, h.high, if_neg (by omega)]
theorem del_next {R Q Q' : St} {N k : Nat} {f : Int} (h : DelI R Q N k) (hk : k = 0 ∧ f = 4 ∨ k = 1 ∧ f = 6) (h1 : Q'.M (fam f) = noTab (fam f)) (h2 : Q'.M (!fam f) = Q.M (!fam f)) (hs : Q'.A.size = N) : DelI R Q' N (k + 1) := by
  rcases hk with ⟨rfl, rfl⟩ | ⟨rfl, rfl⟩
  · rw [show fam 4 = false by decide] at h1 h2
    have h2' : Q'.M true = Q.M true := h2
    refine ⟨by rw [if_pos (by omega)]; exact h1, ?_, hs⟩
    rw [h2', h.high, if_neg (by omega), if_neg (by omega)]
  · rw [show fam 6 = true by decide] at h1 h2
    have h2' : Q'.M false = Q.M false := h2
    refine ⟨?_, by rw [if_pos (by omega)]; exact h1, hs⟩
    rw [h2', h.low, if_pos (by omega), if_pos (by omega)]
theorem count_q {S T : St} {q : Bool} (h : S.M (!q) = T.M (!q)) (hl : (dumpR (S.M q) (dp q)).length = (dumpR (T.M q) (dp q)).length + 1) : count2 S.M = count2 T.M + 1 := by
  unfold count2
  cases q with
  | false =>
    have h' : S.M true = T.M true := h
    rw [h']; omega
  | true =>
    have h' : S.M false = T.M false := h
    rw [h']; omega
set_option maxHeartbeats 8000000 in
set_option maxRecDepth 10000 in
theorem replayed_walk (n : Int) (h1 : -9223372036854775808 ≤ n) (h2 : n ≤ 9223372036854775807) (ao : Option Addr) (cap : Nat) (ops : List OpD) (w : World) (hO : OpsOn w ao ops) (hlen : ops.length ≤ 2932031007402) (hZ : TzTab w) :
    Calls Tryd.prog 8 #[.int .i64 n, .slice ao ops.length cap] w fun e w' => e = .returned (.bool true) ∧ Below w.heap.size w w' := by
  obtain ⟨N, hN⟩ : ∃ N, N = wordsN n := ⟨_, rfl⟩
  have hNi := wordsN_in n
  have HWO := hide (fun w => words_any n w h1 h2)
  rw [← hN] at hNi HWO
  clear hN
  have hS : (St.new N).ok := new_ok hNi.1 hNi.2
  obtain ⟨S, hSd⟩ : ∃ S, S = St.new N := ⟨_, rfl⟩
  have HSD := hide hSd
  have HSM := hide (show S.M = noTab ∧ S.A.size = N by rw [hSd]; exact ⟨rfl, rfl⟩)
  rw [← hSd] at hS
  clear hSd
  have HO := hide hO
  have HZ := hide hZ
  have HS := hide hS
  obtain ⟨m, hm⟩ : ∃ m, m = ops.length := ⟨_, rfl⟩
  have HM := hide hm
  rw [← hm] at hlen ⊢
  clear hO hZ hS hm
  go_enter Tryd.func8, Tryd.ntmps8
  go_wp2_with fail
  refine (known_any w HZ.out).mono ?_
  rintro e w1 ⟨rfl, hb1⟩
  have B1 := hide hb1
  clear hb1
  go_wp2_with fail
  refine (HWO.out _).mono ?_
  rintro e w1' ⟨rfl, rfl⟩
  go_wp2_with fail
  refine (fib_x _ N _ rfl hNi.1 hNi.2).mono ?_
  rintro e w2 ⟨rfl, hb2, hl2⟩
  have L2 := hide hl2
  have B2 := hide (ext_trans B1.out hb2)
  have G2 := hide ((newB_ge w1').mono B1.out.size)
  obtain ⟨b, hb⟩ : ∃ b, b = newB w1' := ⟨_, rfl⟩
  rw [← hb] at L2 G2 ⊢
  rw [← HSD.out] at L2
  clear hb2 hl2 hb
  go_wp2_with fail
  refine (fib_x _ N _ rfl hNi.1 hNi.2).mono ?_
  rintro e w3 ⟨rfl, hb3, hl3⟩
  obtain ⟨c, hc⟩ : ∃ c, c = newB w2 := ⟨_, rfl⟩
  have D3 := hide (show Duo w b c S S w3 from by
    rw [hc]
    exact ⟨L2.out.ext hb3, by rw [HSD.out]; exact hl3, FB.apart_new L2.out (newB_ge w2), G2.out, (newB_ge w2).mono B2.out.size, ext_trans B2.out hb3, HS.out, HS.out⟩)
  rw [← hc]
  clear hb3 hl3 hc
  go_wp2_with fail
  refine (free_x c S.A w3 D3.out.lc).mono ?_
  rintro e w3' ⟨rfl, rfl⟩
  obtain ⟨E, hE⟩ : ∃ E, E = S.A.free := ⟨_, rfl⟩
  have HE := hide hE
  rw [← hE]
  clear hE
  go_wp2_with fail
  have hrun := run_ops S ops b ao cap w.heap.size w w3' HO.out rfl D3.out.bw D3.out.lb D3.out.gb HS.out (by rw [← HM.out]; exact hlen)
  rw [← HM.out] at hrun
  refine hrun.mono ?_
  clear hrun
  rintro e w4 ⟨rfl, ⟨b4, hb4⟩, _⟩
  have hk4 := (run_ok HS.out ops).1
  have hs4 := (run_ok HS.out ops).2.1
  obtain ⟨R0, hR0⟩ : ∃ R0, R0 = (S.run ops).1 := ⟨_, rfl⟩
  rw [← hR0] at hb4 hk4 hs4
  have D4 := hide (D3.out.left hb4 hk4)
  have HF4 := hide hb4.fb
  have HS4 := hide (hs4.trans HSM.out.2)
  clear hb4 hk4 hs4 hR0
  go_wp2_with fail
  obtain ⟨wx, hwx⟩ : ∃ wx, wx = w4.alloc (.cells #[.int .i64 4, .int .i64 0, .string ⟨#[]⟩, .int .i64 0, .int .i64 0] 37) := ⟨_, rfl⟩
  rw [← hwx]
  have hbx : Below w4.heap.size w4 wx := by rw [hwx]; exact ext_alloc _ _
  have bx : wx.heap[w4.heap.size]? = some (.cells #[.int .i64 4, .int .i64 0, .string ⟨#[]⟩, .int .i64 0, .int .i64 0] 37 (0, 0)) := by rw [hwx]; exact heap_alloc_new _ _
  obtain ⟨R, hR⟩ : ∃ R, R = (R0.step cOp1).1 := ⟨_, rfl⟩
  refine (run_comp R0 R b4 b.fb w4.heap.size 1 wx (D4.out.lb.ext hbx) D4.out.okR HF4.out hR bx).mono ?_
  rintro e w5 ⟨⟨v5, rfl⟩, b5, hf5, hm5, hk5, hM5, hs5⟩
  have D5 := hide ((D4.out.ext hbx).left hm5 hk5)
  have HF5 := hide hf5
  have HSR := hide (hs5.trans HS4.out)
  clear hwx hbx bx hR hm5 hk5 hM5 hs5 hf5
  obtain ⟨w6, hw6⟩ : ∃ w6, w6 = w5.alloc (.cells #[.int .i64 4, .int .i64 6] 45) := ⟨_, rfl⟩
  have hb6 : Below w5.heap.size w5 w6 := by rw [hw6]; exact ext_alloc _ _
  obtain ⟨fa, hfa⟩ : ∃ fa, fa = w5.heap.size := ⟨_, rfl⟩
  have BFA := hide (show w6.heap[fa]? = some (.cells #[.int .i64 4, .int .i64 6] 45 (0, 0)) by rw [hw6, hfa]; exact heap_alloc_new _ _)
  have D6 := hide (D5.out.ext hb6)
  have HW6 := hide hw6
  have HFA := hide hfa
  clear hw6 hb6 hfa
  go_wp2_with fail
  rw [← HW6.out, ← HFA.out]
  go_loopw [11, 12] (fun tv kv wr => ∃ (k th : Nat) (c' : FB) (G : St), kv = .int .i64 (k : Int) ∧ tv = .int .i64 (th : Int) ∧ k ≤ 2 ∧ th = count2 G.M ∧ c'.fb = c.fb ∧ Duo w b5 c' R G wr ∧ RepI R G N k ∧ wr.heap[fa]? = some (.cells #[.int .i64 4, .int .i64 6] 45 (0, 0))) (fun _ v _ => 2 - (intOf v).toNat)
  case atStart => exact ⟨0, 0, c, S, rfl, rfl, by omega, by rw [HSM.out.1, count_none], rfl, D6.out, ⟨by rw [HSM.out.1, if_neg (by omega)], by rw [HSM.out.1, if_neg (by omega)], HSR.out, HSM.out.2⟩, BFA.out⟩
  case round =>
    obtain ⟨k, th, c', G, rfl, rfl, hk, hth, hcf, hD, hRI, hfa⟩ := hrel
    have HTH := hide hth
    have HCF := hide hcf
    have HD := hide hD
    have HRI := hide hRI
    have HFB := hide hfa
    clear hth hcf hD hRI hfa
    by_cases hk2 : k < 2
    · obtain ⟨f, hkf, hcell⟩ : ∃ f : Int, (k = 0 ∧ f = 4 ∨ k = 1 ∧ f = 6) ∧ wr.cell? ⟨fa, k, none⟩ = some (.int .i64 f) := by
        rcases (by omega : k = 0 ∨ k = 1) with rfl | rfl
        · exact ⟨4, Or.inl ⟨rfl, rfl⟩, by rw [cell_at HFB.out]; rfl⟩
        · exact ⟨6, Or.inr ⟨rfl, rfl⟩, by rw [cell_at HFB.out]; rfl⟩
      have hfb : famBytes f ≠ 0 := by rcases hkf with ⟨_, rfl⟩ | ⟨_, rfl⟩ <;> decide
      have hlfa := lt_of_block HFB.out
      have hdu := dump_any R HD.out.okR b5 wr HD.out.lb (HZ.out.ext HD.out.bw) f f rfl hfb
      rw [HF5.out] at hdu
      have HDU := hide hdu
      have HKF := hide (And.intro hkf hfb)
      have hk2' : (k : Int) < 2 := by omega
      clear hkf hdu
      go_wp2_with fail
      refine HDU.out.mono ?_
      rintro e w7 ⟨v7, rfl, o7, e7⟩
      obtain ⟨ar, cr, rfl⟩ := owns_slice o7
      have O7 := hide o7
      have D7 := hide (HD.out.ext e7)
      have F7 := hide (block_ext HFB.out e7)
      obtain ⟨D, hDd⟩ : ∃ D, D = dumpR (R.M (fam f)) (dp (fam f)) := ⟨_, rfl⟩
      have HDD := hide hDd
      have hDl : (tellL R f).length = D.length := by unfold tellL; rw [List.length_map, hDd]
      have HDL := hide hDl
      have hDle : D.length ≤ 67584 := by rw [hDd]; exact HD.out.okR.len _
      obtain ⟨N1, hN1⟩ : ∃ N1, N1 = D.length := ⟨_, rfl⟩
      rw [hDl, ← hN1]
      rw [← hN1] at hDle
      have HN1 := hide hN1
      clear o7 e7 hDd hDl hN1 hcell hlfa
      obtain ⟨bs, hbs⟩ : ∃ bs, bs = wr.heap.size := ⟨_, rfl⟩
      rw [← hbs] at O7
      clear hbs
      go_wp2_with fail
      go_loopw [11, 14] (fun tv iv wq => ∃ (i t2 : Nat) (c2 : FB) (G2 : St), iv = .int .i64 ((i : Int) - 1) ∧ tv = .int .i64 (t2 : Int) ∧ i ≤ N1 ∧ t2 = count2 G2.M ∧ c2.fb = c.fb ∧ Duo w b5 c2 R G2 wq ∧ G2.M (fam f) = tabL (D.drop i) ∧ G2.M (!fam f) = G.M (!fam f) ∧ G2.A.size = N ∧ wq.heap[fa]? = some (.cells #[.int .i64 4, .int .i64 6] 45 (0, 0)) ∧ wq.ownsRow bs 47 3 (.slice ar (tellL R f).length cr) (tellL R f).length (flatR (tellL R f))) (fun _ v _ => (intOf v + 1).toNat)
      case atStart => exact ⟨N1, th, c', G, rfl, rfl, Nat.le_refl _, HTH.out, HCF.out, D7.out, by rw [HN1.out, List.drop_length]; exact rep_start HRI.out HKF.out.1, rfl, HRI.out.sG, F7.out, O7.out⟩
      case round =>
        obtain ⟨i, t2, c2, G2, rfl, rfl, hi, ht2, hc2, hD2, hT2, hX2, hs2, hf2, ho2⟩ := hrel
        have HI := hide (And.intro ht2 (And.intro hD2 (And.intro hT2 (And.intro hX2 (And.intro hs2 (And.intro hf2 ho2))))))
        have HC2 := hide hc2
        clear ht2 hc2 hD2 hT2 hX2 hs2 hf2 ho2
        cases i with
        | zero =>
          obtain ⟨hJ1, hJ2, hJ3, hJ4, hJ5, hJ6, hJ7⟩ := HI.out
          have hMR : G2.M (fam f) = R.M (fam f) := by
            rw [hJ3, List.drop_zero, HDD.out]
            exact tabL_dump (hJ2.okR.tab _) (dp_le _)
          have HNX := hide (rep_next HRI.out HKF.out.1 hMR hJ4 hJ5)
          clear hJ1 hJ2 hJ3 hJ4 hJ5 hJ6 hJ7 hMR
          go_wp2
          exact ⟨⟨k + 1, t2, c2, G2, by simp, rfl, by omega, HI.out.1, HC2.out, HI.out.2.1, HNX.out, HI.out.2.2.2.2.2.1⟩, by simp [intOf]; omega⟩
        | succ j =>
          rw [show (((j + 1 : Nat) : Int) - 1) = (j : Int) by omega]
          obtain ⟨hJ1, hJ2, hJ3, hJ4, hJ5, hJ6, hJ7⟩ := HI.out
          have hjl : j < D.length := by rw [← HN1.out]; omega
          obtain ⟨x, hx⟩ : ∃ x, D[j]? = some x := ⟨_, List.getElem?_eq_getElem hjl⟩
          have hrt : RtOk (R.M (fam f)) (famBytes f) x := rt_ok hJ2.okR HKF.out.2 (by rw [← HDD.out]; exact List.mem_of_getElem? hx)
          obtain ⟨g, hg, hlg, c0, c1, c2'⟩ := route_cells (k := j) hJ7 (by rw [HDL.out]; exact hjl)
          rw [tell_idx (by rw [← HDD.out]; exact hx)] at c0 c1 c2'
          simp only [rdOf] at c0 c1 c2'
          obtain ⟨lx, hlx⟩ : ∃ lx, lx = x.1 := ⟨_, rfl⟩
          obtain ⟨hx2, hhx⟩ : ∃ hx2, hx2 = x.2.2 := ⟨_, rfl⟩
          obtain ⟨sx, hsx⟩ : ∃ sx, sx = keyS (famBytes f) (addr x) := ⟨_, rfl⟩
          rw [← hsx] at c0
          rw [← hlx] at c1
          rw [← hhx] at c2'
          have hcell : wr.cell? ⟨fa, k, none⟩ = some (.int .i64 f) := by
            rcases HKF.out.1 with ⟨rfl, rfl⟩ | ⟨rfl, rfl⟩ <;> (rw [cell_at hJ6]; rfl)
          subst hg
          obtain ⟨cur, hgg⟩ := owns_block hJ7
          obtain ⟨o, ho⟩ : ∃ o, o = rtOp 1 f (famBytes f) x := ⟨_, rfl⟩
          obtain ⟨T, hT⟩ : ∃ T, T = (G2.step o).1 := ⟨_, rfl⟩
          obtain ⟨a, ha⟩ : ∃ a, a = (G2.step o).2 := ⟨_, rfl⟩
          have hin := ins_step hJ2.okG rfl HKF.out.2 hx hrt hJ3
          rw [← ho, ← hT, ← ha, hJ5, ← hJ1] at hin
          have hok : o.ok := by rw [ho]; exact rtOp_ok rfl HKF.out.2 hrt (Or.inl rfl)
          have HSO := hide (show T.A.size = N by rw [hT]; exact (step_ok hJ2.okG o).2.trans hJ5)
          have HON := hide (fun (w' : World) (hl : c2.lies w' G2.A) => show Calls Tryd.prog 14 #[.pointer (some ⟨c.fb, 0, none⟩), .agg #[.int .i64 1, .int .i64 f, .string sx, .int .i64 (lx : Int), .int .i64 (hx2 : Int)]] w' fun e w'' => e = .returned (.tuple #[.agg #[.int .i64 a.err, .int .i64 a.hop, .int .i64 a.reads], .bool true]) ∧ ∃ b' : FB, b'.fb = c.fb ∧ c2.moved b' w' w'' T.A ∧ T.ok from by
            have := one_x G2 T o a c2 c.fb w' hl hJ2.okG hok HC2.out hT ha
            rw [ho] at this
            rw [hsx, hlx, hhx]
            exact this)
          have KS : ∀ w', w'.heap[fa]? = some (.cells #[.int .i64 4, .int .i64 6] 45 (0, 0)) → w'.heap[g]? = some (.cells cur 47 (0, 0)) → (fun w' : World => w'.cell? ⟨fa, k, none⟩ = some (.int .i64 f) ∧ w'.cell? ⟨g, j * 3, none⟩ = some (.string sx) ∧ w'.cell? ⟨g, j * 3 + 1, none⟩ = some (.int .i64 (lx : Int)) ∧ w'.cell? ⟨g, j * 3 + 2, none⟩ = some (.int .i64 (hx2 : Int))) w' := fun w' e1 e2 => by
            refine ⟨?_, ?_, ?_, ?_⟩
            · rcases HKF.out.1 with ⟨rfl, rfl⟩ | ⟨rfl, rfl⟩ <;> (rw [cell_at e1]; rfl)
            · rw [cell_at e2, ← cell_at hgg]; exact c0
            · rw [cell_at e2, ← cell_at hgg]; exact c1
            · rw [cell_at e2, ← cell_at hgg]; exact c2'
          simp only [] at KS
          have HIN := hide hin
          have HGG := hide (And.intro hJ6 hgg)
          have HX := hide hx
          have hjN : (j : Int) < N1 := by omega
          have hjN' : (j : Int) < (tellL R f).length := by rw [HDL.out]; omega
          clear hin hJ1 hJ2 hJ3 hJ4 hJ5 hJ6 hJ7 hx hrt c0 c1 c2' hlx hhx hsx hcell ho hT ha hok hgg hjl hlg
          go_wp2_with fail
          go_cut [15, 16] (fun v bv wc => ∃ (zb : Nat) (c3 : FB), v = .pointer (some ⟨zb, 0, none⟩) ∧ bv = .bool true ∧ c3.fb = c.fb ∧ wc.heap[zb]? = some (.cells #[.int .i64 a.err, .int .i64 a.hop, .int .i64 a.reads] 33 (0, 0)) ∧ Duo w b5 c3 R T wc ∧ wc.heap[fa]? = some (.cells #[.int .i64 4, .int .i64 6] 45 (0, 0)) ∧ wc.ownsRow bs 47 3 (.slice (some ⟨g, 0, none⟩) (tellL R f).length cr) (tellL R f).length (flatR (tellL R f)))
          case first =>
            refine wp_region_held_drew (S := (fun w' : World => w'.cell? ⟨fa, k, none⟩ = some (.int .i64 f) ∧ w'.cell? ⟨g, j * 3, none⟩ = some (.string sx) ∧ w'.cell? ⟨g, j * 3 + 1, none⟩ = some (.int .i64 (lx : Int)) ∧ w'.cell? ⟨g, j * 3 + 2, none⟩ = some (.int .i64 (hx2 : Int)))) (by kernel_rfl) (KS _ HGG.out.1 HGG.out.2) (fun hHeld => ?_)
            (refine wpAnyH_take (i := 0) (oi := _) (v := ?_) rfl (by kernel_rfl) (by kernel_rfl) (by kernel_rfl) (fun _ _ _ h => h) (Or.inl ⟨by rfl, ?_⟩) (by assumption) ?_; rotate_left; (intro w hSw; (try dsimp only at hSw); go_simp; try with_reducible rfl); (try simp only [Act.put]); (try simp only [List.getElem_toArray]); (try simp only [List.getElem_cons_succ]); (try simp only [List.getElem_cons_zero]); (try simp only [List.setIfInBounds_toArray]))
            (refine wpAnyH_take (i := 1) (oi := _) (v := ?_) rfl (by kernel_rfl) (by kernel_rfl) (by kernel_rfl) (fun _ _ _ h => h) (Or.inl ⟨by rfl, ?_⟩) (by assumption) ?_; rotate_left; (intro w hSw; (try dsimp only at hSw); go_simp; try with_reducible rfl); (try simp only [Act.put]); (try simp only [List.getElem_toArray]); (try simp only [List.getElem_cons_succ]); (try simp only [List.getElem_cons_zero]); (try simp only [List.setIfInBounds_toArray]))
            (refine wpAnyH_take (i := 2) (oi := _) (v := ?_) rfl (by kernel_rfl) (by kernel_rfl) (by kernel_rfl) (fun _ _ _ h => h) (Or.inl ⟨by rfl, ?_⟩) (by assumption) ?_; rotate_left; (intro w hSw; (try dsimp only at hSw); go_simp; try with_reducible rfl); (try simp only [Act.put]); (try simp only [List.getElem_toArray]); (try simp only [List.getElem_cons_succ]); (try simp only [List.getElem_cons_zero]); (try simp only [List.setIfInBounds_toArray]))
            (refine wpAnyH_take (i := 3) (oi := _) (v := ?_) rfl (by kernel_rfl) (by kernel_rfl) (by kernel_rfl) (fun _ _ _ h => h) (Or.inl ⟨by rfl, ?_⟩) (by assumption) ?_; rotate_left; (intro w hSw; (try dsimp only at hSw); go_simp; try with_reducible rfl); (try simp only [Act.put]); (try simp only [List.getElem_toArray]); (try simp only [List.getElem_cons_succ]); (try simp only [List.getElem_cons_zero]); (try simp only [List.setIfInBounds_toArray]))
            (refine wpAnyH_take (i := 4) (oi := _) (v := ?_) rfl (by kernel_rfl) (by kernel_rfl) (by kernel_rfl) (fun _ _ _ h => h) (Or.inl ⟨by rfl, ?_⟩) (by assumption) ?_; rotate_left; (intro w hSw; (try dsimp only at hSw); go_simp; try with_reducible rfl); (try simp only [Act.put]); (try simp only [List.getElem_toArray]); (try simp only [List.getElem_cons_succ]); (try simp only [List.getElem_cons_zero]); (try simp only [List.setIfInBounds_toArray]))
            (refine wpAnyH_take (i := 5) (oi := _) (v := ?_) rfl (by kernel_rfl) (by kernel_rfl) (by kernel_rfl) (fun _ _ _ h => h) (Or.inl ⟨by rfl, ?_⟩) (by assumption) ?_; rotate_left; (intro w hSw; (try dsimp only at hSw); go_simp; try with_reducible rfl); (try simp only [Act.put]); (try simp only [List.getElem_toArray]); (try simp only [List.getElem_cons_succ]); (try simp only [List.getElem_cons_zero]); (try simp only [List.setIfInBounds_toArray]))
            (refine wpAnyH_take (i := 6) (oi := _) (v := ?_) rfl (by kernel_rfl) (by kernel_rfl) (by kernel_rfl) (fun _ _ _ h => h) (Or.inl ⟨by rfl, ?_⟩) (by assumption) ?_; rotate_left; (intro w hSw; (try dsimp only at hSw); go_simp; try with_reducible rfl); (try simp only [Act.put]); (try simp only [List.getElem_toArray]); (try simp only [List.getElem_cons_succ]); (try simp only [List.getElem_cons_zero]); (try simp only [List.setIfInBounds_toArray]))
            (refine wpAnyH_take (i := 7) (oi := _) (v := ?_) rfl (by kernel_rfl) (by kernel_rfl) (by kernel_rfl) (fun _ _ _ h => h) (Or.inl ⟨by rfl, ?_⟩) (by assumption) ?_; rotate_left; (intro w hSw; (try dsimp only at hSw); go_simp; try with_reducible rfl); (try simp only [Act.put]); (try simp only [List.getElem_toArray]); (try simp only [List.getElem_cons_succ]); (try simp only [List.getElem_cons_zero]); (try simp only [List.setIfInBounds_toArray]))
            (refine wpAnyH_take (i := 8) (oi := _) (v := ?_) rfl (by kernel_rfl) (by kernel_rfl) (by kernel_rfl) (fun _ _ _ h => h) (Or.inl ⟨by rfl, ?_⟩) (by assumption) ?_; rotate_left; (intro w hSw; (try dsimp only at hSw); go_simp; try with_reducible rfl); (try simp only [Act.put]); (try simp only [List.getElem_toArray]); (try simp only [List.getElem_cons_succ]); (try simp only [List.getElem_cons_zero]); (try simp only [List.setIfInBounds_toArray]))
            (refine wpAnyH_take (i := 9) (oi := _) (v := ?_) rfl (by kernel_rfl) (by kernel_rfl) (by kernel_rfl) (fun _ _ _ h => h) (Or.inl ⟨by rfl, ?_⟩) (by assumption) ?_; rotate_left; (intro w hSw; (try dsimp only at hSw); go_simp; try with_reducible rfl); (try simp only [Act.put]); (try simp only [List.getElem_toArray]); (try simp only [List.getElem_cons_succ]); (try simp only [List.getElem_cons_zero]); (try simp only [List.setIfInBounds_toArray]))
            (refine wpAnyH_take (i := 10) (oi := _) (v := ?_) rfl (by kernel_rfl) (by kernel_rfl) (by kernel_rfl) (fun _ _ _ h => h) (Or.inl ⟨by rfl, ?_⟩) (by assumption) ?_; rotate_left; (intro w hSw; (try dsimp only at hSw); go_simp; try with_reducible rfl); (try simp only [Act.put]); (try simp only [List.getElem_toArray]); (try simp only [List.getElem_cons_succ]); (try simp only [List.getElem_cons_zero]); (try simp only [List.setIfInBounds_toArray]))
            (refine wpAnyH_take (i := 11) (oi := _) (v := ?_) rfl (by kernel_rfl) (by kernel_rfl) (by kernel_rfl) (fun _ _ _ h => h) (Or.inl ⟨by rfl, ?_⟩) (by assumption) ?_; rotate_left; (intro w hSw; (try dsimp only at hSw); go_simp; try with_reducible rfl); (try simp only [Act.put]); (try simp only [List.getElem_toArray]); (try simp only [List.getElem_cons_succ]); (try simp only [List.getElem_cons_zero]); (try simp only [List.setIfInBounds_toArray]))
            (refine wpAnyH_take (i := 12) (oi := _) (v := ?_) rfl (by kernel_rfl) (by kernel_rfl) (by kernel_rfl) (fun _ _ _ h => h) (Or.inl ⟨by rfl, ?_⟩) (by assumption) ?_; rotate_left; (intro w hSw; (try dsimp only at hSw); go_simp; try with_reducible rfl); (try simp only [Act.put]); (try simp only [List.getElem_toArray]); (try simp only [List.getElem_cons_succ]); (try simp only [List.getElem_cons_zero]); (try simp only [List.setIfInBounds_toArray]))
            (refine wpAnyH_take (i := 13) (oi := _) (v := ?_) rfl (by kernel_rfl) (by kernel_rfl) (by kernel_rfl) (fun _ _ _ h => h) (Or.inl ⟨by rfl, ?_⟩) (by assumption) ?_; rotate_left; (intro w hSw; (try dsimp only at hSw); go_simp; try with_reducible rfl); (try simp only [Act.put]); (try simp only [List.getElem_toArray]); (try simp only [List.getElem_cons_succ]); (try simp only [List.getElem_cons_zero]); (try simp only [List.setIfInBounds_toArray]))
            (refine wpAnyH_take (i := 14) (oi := _) (v := ?_) rfl (by kernel_rfl) (by kernel_rfl) (by kernel_rfl) (fun _ _ _ h => h) (Or.inl ⟨by rfl, ?_⟩) (by assumption) ?_; rotate_left; (intro w hSw; (try dsimp only at hSw); go_simp; try with_reducible rfl); (try simp only [Act.put]); (try simp only [List.getElem_toArray]); (try simp only [List.getElem_cons_succ]); (try simp only [List.getElem_cons_zero]); (try simp only [List.setIfInBounds_toArray]))
            (refine wpAnyH_take (i := 15) (oi := _) (v := ?_) rfl (by kernel_rfl) (by kernel_rfl) (by kernel_rfl) (fun _ _ _ h => h) (Or.inl ⟨by rfl, ?_⟩) (by assumption) ?_; rotate_left; (intro w hSw; (try dsimp only at hSw); go_simp; try with_reducible rfl); (try simp only [Act.put]); (try simp only [List.getElem_toArray]); (try simp only [List.getElem_cons_succ]); (try simp only [List.getElem_cons_zero]); (try simp only [List.setIfInBounds_toArray]))
            (refine wpAnyH_take (i := 16) (oi := _) (v := ?_) rfl (by kernel_rfl) (by kernel_rfl) (by kernel_rfl) (fun _ _ _ h => h) (Or.inl ⟨by rfl, ?_⟩) (by assumption) ?_; rotate_left; (intro w hSw; (try dsimp only at hSw); go_simp; try with_reducible rfl); (try simp only [Act.put]); (try simp only [List.getElem_toArray]); (try simp only [List.getElem_cons_succ]); (try simp only [List.getElem_cons_zero]); (try simp only [List.setIfInBounds_toArray]))
            (refine wpAnyH_take (i := 17) (oi := _) (v := ?_) rfl (by kernel_rfl) (by kernel_rfl) (by kernel_rfl) (fun _ _ _ h => h) (Or.inl ⟨by rfl, ?_⟩) (by assumption) ?_; rotate_left; (intro w hSw; (try dsimp only at hSw); go_simp; try with_reducible rfl); (try simp only [Act.put]); (try simp only [List.getElem_toArray]); (try simp only [List.getElem_cons_succ]); (try simp only [List.getElem_cons_zero]); (try simp only [List.setIfInBounds_toArray]))
            (refine wpAnyH_take (i := 18) (oi := _) (v := ?_) rfl (by kernel_rfl) (by kernel_rfl) (by kernel_rfl) (fun _ _ _ h => h) (Or.inl ⟨by rfl, ?_⟩) (by assumption) ?_; rotate_left; (intro w hSw; (try dsimp only at hSw); go_simp; try with_reducible rfl); (try simp only [Act.put]); (try simp only [List.getElem_toArray]); (try simp only [List.getElem_cons_succ]); (try simp only [List.getElem_cons_zero]); (try simp only [List.setIfInBounds_toArray]))
            (refine wpAnyH_take (i := 19) (oi := _) (v := ?_) rfl (by kernel_rfl) (by kernel_rfl) (by kernel_rfl) (fun _ _ _ h => h) (Or.inl ⟨by rfl, ?_⟩) (by assumption) ?_; rotate_left; (intro w hSw; (try dsimp only at hSw); go_simp; try with_reducible rfl); (try simp only [Act.put]); (try simp only [List.getElem_toArray]); (try simp only [List.getElem_cons_succ]); (try simp only [List.getElem_cons_zero]); (try simp only [List.setIfInBounds_toArray]))
            (refine wpAnyH_ready (rs := [20, 24]) (by kernel_rfl) (by simp) ?_)
            (refine AllReadyH.cons (o := _) rfl (fun KK hK => ?_) ?_)
            · go_simp
              go_at_call 14
              refine (HON.out _ (HI.out.2.1.lc.ext (drew_ext _))).mono ?_
              rintro e w8 ⟨rfl, c3, hc3, hm3, hk3⟩
              have D8 := hide ((HI.out.2.1.ext (drew_ext _)).right hm3 hk3)
              have F8 := hide (hm3.keep (HI.out.2.1.lc.ext (drew_ext _)) HGG.out.1 (by decide) (by decide) (by decide))
              have R8 := hide (hm3.keep (HI.out.2.1.lc.ext (drew_ext _)) HGG.out.2 (by decide) (by decide) (by decide))
              have O8 := hide (hm3.owns (HI.out.2.1.lc.ext (drew_ext _)) (owns_ext HI.out.2.2.2.2.2.2 (drew_ext _)))
              clear hm3 hk3
              go_wp2_with fail
              (refine hK.out _ _ (KS _ F8.out R8.out) (fun hHeld => ?_); clear hK KK; (try simp only [Act.put]); (try simp only [List.getElem_toArray]); (try simp only [List.getElem_cons_succ]); (try simp only [List.getElem_cons_zero]); (try simp only [List.setIfInBounds_toArray]))
              (refine wpAnyH_take (i := 21) (oi := _) (v := ?_) rfl (by kernel_rfl) (by kernel_rfl) (by kernel_rfl) (fun _ _ _ h => h) (Or.inl ⟨by rfl, ?_⟩) (by assumption) ?_; rotate_left; (intro w hSw; (try dsimp only at hSw); go_simp; try with_reducible rfl); (try simp only [Act.put]); (try simp only [List.getElem_toArray]); (try simp only [List.getElem_cons_succ]); (try simp only [List.getElem_cons_zero]); (try simp only [List.setIfInBounds_toArray]))
              (refine wpAnyH_take (i := 22) (oi := _) (v := ?_) rfl (by kernel_rfl) (by kernel_rfl) (by kernel_rfl) (fun _ _ _ h => h) (Or.inl ⟨by rfl, ?_⟩) (by assumption) ?_; rotate_left; (intro w hSw; (try dsimp only at hSw); go_simp; try with_reducible rfl); (try simp only [Act.put]); (try simp only [List.getElem_toArray]); (try simp only [List.getElem_cons_succ]); (try simp only [List.getElem_cons_zero]); (try simp only [List.setIfInBounds_toArray]))
              (refine wpAnyH_take (i := 23) (oi := _) (v := ?_) rfl (by kernel_rfl) (by kernel_rfl) (by kernel_rfl) (fun _ _ _ h => h) (Or.inl ⟨by rfl, ?_⟩) (by assumption) ?_; rotate_left; (intro w hSw; (try dsimp only at hSw); go_simp; try with_reducible rfl); (try simp only [Act.put]); (try simp only [List.getElem_toArray]); (try simp only [List.getElem_cons_succ]); (try simp only [List.getElem_cons_zero]); (try simp only [List.setIfInBounds_toArray]))
              ((refine wpAnyH_ready (rs := [24]) (by kernel_rfl) (by simp) ?_); (refine AllReadyH.cons (o := _) rfl (fun KK hK => ?_) ?_); rotate_left; exact AllReadyH.nil)
              go_simp
              (refine hK.out _ _ (KS _ (block_ext F8.out (ext_alloc _ _)) (block_ext R8.out (ext_alloc _ _))) (fun hHeld => ?_); clear hK KK; (try simp only [Act.put]); (try simp only [List.getElem_toArray]); (try simp only [List.getElem_cons_succ]); (try simp only [List.getElem_cons_zero]); (try simp only [List.setIfInBounds_toArray]))
              ((refine wpAnyH_ready (rs := [25]) (by kernel_rfl) (by simp) ?_); (refine AllReadyH.cons (o := _) rfl (fun KK hK => ?_) ?_); rotate_left; exact AllReadyH.nil)
              go_simp
              (refine hK.out _ _ (KS _ (block_ext F8.out (ext_alloc _ _)) (block_ext R8.out (ext_alloc _ _))) (fun hHeld => ?_); clear hK KK; (try simp only [Act.put]); (try simp only [List.getElem_toArray]); (try simp only [List.getElem_cons_succ]); (try simp only [List.getElem_cons_zero]); (try simp only [List.setIfInBounds_toArray]))
              (refine wpAnyH_take (i := 26) (oi := _) (v := ?_) rfl (by kernel_rfl) (by kernel_rfl) (by kernel_rfl) (fun _ _ _ h => h) (Or.inl ⟨by rfl, ?_⟩) (by assumption) ?_; rotate_left; (intro w hSw; (try dsimp only at hSw); go_simp; try with_reducible rfl); (try simp only [Act.put]); (try simp only [List.getElem_toArray]); (try simp only [List.getElem_cons_succ]); (try simp only [List.getElem_cons_zero]); (try simp only [List.setIfInBounds_toArray]))
              (refine wpAnyH_done (by kernel_rfl) ?_ _)
              go_wp2_with fail
              go_meet
              case rel => exact ⟨w8.heap.size, c3, rfl, rfl, hc3, heap_alloc_new _ _, D8.out.ext (ext_alloc _ _), block_ext F8.out (ext_alloc _ _), owns_ext O8.out (ext_alloc _ _)⟩
            · (refine AllReadyH.cons (o := _) rfl (fun KK hK => ?_) ?_)
              · go_simp
                (refine hK.out _ _ (KS _ (block_ext HGG.out.1 (Below.drew (ext_alloc _ _))) (block_ext HGG.out.2 (Below.drew (ext_alloc _ _)))) (fun hHeld => ?_); clear hK KK; (try simp only [Act.put]); (try simp only [List.getElem_toArray]); (try simp only [List.getElem_cons_succ]); (try simp only [List.getElem_cons_zero]); (try simp only [List.setIfInBounds_toArray]))
                ((refine wpAnyH_ready (rs := [20]) (by kernel_rfl) (by simp) ?_); (refine AllReadyH.cons (o := _) rfl (fun KK hK => ?_) ?_); rotate_left; exact AllReadyH.nil)
                go_simp
                go_at_call 14
                obtain ⟨wz, hwz⟩ : ∃ wz, wz = (wr.alloc (.cells #[.int .i64 0, .int .i64 0, .int .i64 0] 33)).drew := ⟨_, rfl⟩
                rw [← hwz]
                have ez : Below wr.heap.size wr wz := by rw [hwz]; exact Below.drew (ext_alloc _ _)
                have bz : wz.heap[wr.heap.size]? = some (.cells #[.int .i64 0, .int .i64 0, .int .i64 0] 33 (0, 0)) := by rw [hwz]; exact heap_alloc_new wr _
                refine (HON.out wz (HI.out.2.1.lc.ext ez)).mono ?_
                rintro e w8 ⟨rfl, c3, hc3, hm3, hk3⟩
                have D8 := hide ((HI.out.2.1.ext ez).right hm3 hk3)
                have F8 := hide (hm3.keep (HI.out.2.1.lc.ext ez) (block_ext HGG.out.1 ez) (by decide) (by decide) (by decide))
                have R8 := hide (hm3.keep (HI.out.2.1.lc.ext ez) (block_ext HGG.out.2 ez) (by decide) (by decide) (by decide))
                have Z8 := hide (hm3.keep (HI.out.2.1.lc.ext ez) bz (by decide) (by decide) (by decide))
                have O8 := hide (hm3.owns (HI.out.2.1.lc.ext ez) (owns_ext HI.out.2.2.2.2.2.2 ez))
                obtain ⟨z0, z1, z2⟩ := cells3 Z8.out
                have y0 := free_at Z8.out 0
                have y1 := free_at Z8.out 1
                have y2 := free_at Z8.out 2
                have hlz := lt_of_block Z8.out
                clear hm3 hk3 hwz ez bz
                go_wp2_with fail
                (refine hK.out _ _ (KS _ F8.out R8.out) (fun hHeld => ?_); clear hK KK; (try simp only [Act.put]); (try simp only [List.getElem_toArray]); (try simp only [List.getElem_cons_succ]); (try simp only [List.getElem_cons_zero]); (try simp only [List.setIfInBounds_toArray]))
                (refine wpAnyH_take (i := 21) (oi := _) (v := ?_) rfl (by kernel_rfl) (by kernel_rfl) (by kernel_rfl) (fun _ _ _ h => h) (Or.inl ⟨by rfl, ?_⟩) (by assumption) ?_; rotate_left; (intro w hSw; (try dsimp only at hSw); go_simp; try with_reducible rfl); (try simp only [Act.put]); (try simp only [List.getElem_toArray]); (try simp only [List.getElem_cons_succ]); (try simp only [List.getElem_cons_zero]); (try simp only [List.setIfInBounds_toArray]))
                (refine wpAnyH_take (i := 22) (oi := _) (v := ?_) rfl (by kernel_rfl) (by kernel_rfl) (by kernel_rfl) (fun _ _ _ h => h) (Or.inl ⟨by rfl, ?_⟩) (by assumption) ?_; rotate_left; (intro w hSw; (try dsimp only at hSw); go_simp; try with_reducible rfl); (try simp only [Act.put]); (try simp only [List.getElem_toArray]); (try simp only [List.getElem_cons_succ]); (try simp only [List.getElem_cons_zero]); (try simp only [List.setIfInBounds_toArray]))
                (refine wpAnyH_take (i := 23) (oi := _) (v := ?_) rfl (by kernel_rfl) (by kernel_rfl) (by kernel_rfl) (fun _ _ _ h => h) (Or.inl ⟨by rfl, ?_⟩) (by assumption) ?_; rotate_left; (intro w hSw; (try dsimp only at hSw); go_simp; try with_reducible rfl); (try simp only [Act.put]); (try simp only [List.getElem_toArray]); (try simp only [List.getElem_cons_succ]); (try simp only [List.getElem_cons_zero]); (try simp only [List.setIfInBounds_toArray]))
                ((refine wpAnyH_ready (rs := [25]) (by kernel_rfl) (by simp) ?_); (refine AllReadyH.cons (o := _) rfl (fun KK hK => ?_) ?_); rotate_left; exact AllReadyH.nil)
                go_simp
                obtain ⟨w9, hw9⟩ : ∃ w9, w9 = ((w8.setCell ⟨wr.heap.size, 0, none⟩ (.int .i64 a.err)).setCell ⟨wr.heap.size, 1, none⟩ (.int .i64 a.hop)).setCell ⟨wr.heap.size, 2, none⟩ (.int .i64 a.reads) := ⟨_, rfl⟩
                have hf9 : Fr [wr.heap.size] w8 w9 := by rw [hw9]; exact (((Fr.refl _ _).setCell (Or.inl (by simp)) _).setCell (Or.inl (by simp)) _).setCell (Or.inl (by simp)) _
                have hz9 : w9.heap[wr.heap.size]? = some (.cells #[.int .i64 a.err, .int .i64 a.hop, .int .i64 a.reads] 33 (0, 0)) := by rw [hw9]; exact store3 Z8.out
                have nf := ty_ne F8.out Z8.out (by decide)
                have ng := ty_ne R8.out Z8.out (by decide)
                have F9 := hide (hf9.at F8.out (by simpa using nf))
                have R9 := hide (hf9.at R8.out (by simpa using ng))
                have D9 := hide (D8.out.set Z8.out HI.out.2.1.bw.size hf9)
                have O9 := hide (owns_fr O8.out hf9 (fun g' hg' _ => by
                  simp [Value.ownBlock] at hg'
                  subst hg'
                  simpa using ng))
                have Z9 := hide hz9
                rw [← hw9]
                clear hw9 hf9 hz9 nf ng z0 z1 z2 y0 y1 y2 hlz
                (refine hK.out _ _ (KS _ F9.out R9.out) (fun hHeld => ?_); clear hK KK; (try simp only [Act.put]); (try simp only [List.getElem_toArray]); (try simp only [List.getElem_cons_succ]); (try simp only [List.getElem_cons_zero]); (try simp only [List.setIfInBounds_toArray]))
                (refine wpAnyH_take (i := 26) (oi := _) (v := ?_) rfl (by kernel_rfl) (by kernel_rfl) (by kernel_rfl) (fun _ _ _ h => h) (Or.inl ⟨by rfl, ?_⟩) (by assumption) ?_; rotate_left; (intro w hSw; (try dsimp only at hSw); go_simp; try with_reducible rfl); (try simp only [Act.put]); (try simp only [List.getElem_toArray]); (try simp only [List.getElem_cons_succ]); (try simp only [List.getElem_cons_zero]); (try simp only [List.setIfInBounds_toArray]))
                (refine wpAnyH_done (by kernel_rfl) ?_ _)
                go_wp2_with fail
                go_meet
                case rel => exact ⟨wr.heap.size, c3, rfl, rfl, hc3, Z9.out, D9.out, F9.out, O9.out⟩
              · exact AllReadyH.nil
          case rest =>
            obtain ⟨zb, c3, rfl, rfl, hc3, hz, hDc, hfc, hoc⟩ := hcut
            obtain ⟨z0, _, _⟩ := cells3 hz
            have hlz := lt_of_block hz
            have ht2N : t2 ≤ 200000 := by
              have l1 := HI.out.2.1.okG.len false
              have l2 := HI.out.2.1.okG.len true
              rw [HI.out.1]
              unfold count2
              omega
            have BE := hide hDc.bw
            by_cases h8 : a.err = 8
            · have e8 : (a.err == 8) = true := by simpa using h8
              have hlt := HIN.out.1 h8
              have hgt : (N : Int) < 64 * ((t2 : Int) + 1) + 1280 := by omega
              clear h8 hlt KS
              go_wp2
              go_ret
              exact ⟨rfl, BE.out⟩
            · have e8 : (a.err == 8) = false := by simpa using h8
              obtain ⟨i1, i2, i3⟩ := HIN.out.2 h8
              have e0 : (a.err != 0) = false := by rw [i1]; rfl
              have hcnt : t2 + 1 = count2 T.M := by
                have hsd : D.Pairwise before2 := by rw [HDD.out]; exact dumpR_sorted _ _ (by have := dp_le (fam f); omega)
                have hjl : j < D.length := (List.getElem?_eq_some_iff.1 HX.out).1
                have l1 := len_tabL hDc.okG (List.Pairwise.drop (i := j) hsd) i2
                have l2 := len_tabL HI.out.2.1.okG (List.Pairwise.drop (i := j + 1) hsd) HI.out.2.2.1
                rw [HI.out.1]
                refine (count_q (q := fam f) i3 ?_).symm
                rw [l1, l2, List.length_drop, List.length_drop]
                omega
              have HNX := hide (show count2 T.M = t2 + 1 ∧ T.M (fam f) = tabL (D.drop j) ∧ T.M (!fam f) = G.M (!fam f) from ⟨hcnt.symm, i2, i3.trans HI.out.2.2.2.1⟩)
              have HEC := hide (And.intro hc3 (And.intro hDc (And.intro hfc hoc)))
              clear h8 i1 i2 i3 hcnt KS hc3 hDc hfc hoc
              go_wp2
              exact ⟨⟨j, t2 + 1, c3, T, by simp, by simp, by omega, HNX.out.1.symm, HEC.out.1, HEC.out.2.1, HNX.out.2.1, HNX.out.2.2, HSO.out, HEC.out.2.2.1, HEC.out.2.2.2⟩, by simp [intOf]⟩
    · obtain rfl : k = 2 := by omega
      have hMe : G.M = R.M := by
        funext q
        cases q
        · rw [HRI.out.low, if_pos (by omega)]
        · rw [HRI.out.high, if_pos (by omega)]
      have HME := hide hMe
      clear hMe
      go_wp2_with fail
      obtain ⟨wx2, hwx2⟩ : ∃ wx2, wx2 = wr.alloc (.cells #[.int .i64 4, .int .i64 0, .string ⟨#[]⟩, .int .i64 0, .int .i64 0] 37) := ⟨_, rfl⟩
      rw [← hwx2]
      have hbx : Below wr.heap.size wr wx2 := by rw [hwx2]; exact ext_alloc _ _
      have bx : wx2.heap[wr.heap.size]? = some (.cells #[.int .i64 4, .int .i64 0, .string ⟨#[]⟩, .int .i64 0, .int .i64 0] 37 (0, 0)) := by rw [hwx2]; exact heap_alloc_new _ _
      obtain ⟨G1, hG1⟩ : ∃ G1, G1 = (G.step cOp1).1 := ⟨_, rfl⟩
      refine (run_comp G G1 c' c.fb wr.heap.size 1 wx2 (HD.out.lc.ext hbx) HD.out.okG HCF.out hG1 bx).mono ?_
      rintro e w8 ⟨⟨v8, rfl⟩, c8, hf8, hm8, hk8, hM8, hs8⟩
      have D8 := hide ((HD.out.ext hbx).right hm8 hk8)
      have HC8 := hide hf8
      have HM8 := hide (hM8.trans HME.out)
      have HS8 := hide (hs8.trans HRI.out.sG)
      have F8 := hide (hm8.keep (HD.out.lc.ext hbx) (block_ext HFB.out hbx) (by decide) (by decide) (by decide))
      clear hwx2 hbx bx hG1 hm8 hk8 hM8 hs8 hf8
      go_wp2_with fail
      refine (dumps_x R G1 D8.out.okR D8.out.okG b5 c8 b.fb c.fb w8 D8.out.lb D8.out.lc HM8.out.symm (HZ.out.ext D8.out.bw) HF5.out HC8.out).mono ?_
      rintro e w9 ⟨rfl, e9⟩
      have D9 := hide (D8.out.ext e9)
      have F9 := hide (block_ext F8.out e9)
      clear e9
      have hfr := free_x c8 G1.A w9 D9.out.lc
      rw [HC8.out] at hfr
      have HFR := hide hfr
      have hfr2 := free_x b5 R.A w9 D9.out.lb
      rw [HF5.out, free_eq D9.out.okR D9.out.okG HM8.out.symm (HSR.out.trans HS8.out.symm)] at hfr2
      have HFR2 := hide hfr2
      have hge1 : G1.A.free ≤ E := by
        rw [HE.out]
        exact free_sub HS.out D9.out.okG (HSM.out.2.trans HS8.out.symm) (fun q => by rw [HSM.out.1]; exact sub_none _ q)
      have hge2 : (N : Int) - 1280 - 64 * (th : Int) ≤ G1.A.free := by
        have := free_least D9.out.okG
        rw [HS8.out, HM8.out, ← HME.out, ← HTH.out] at this
        exact this
      obtain ⟨fr, hfrd⟩ : ∃ fr, fr = G1.A.free := ⟨_, rfl⟩
      rw [← hfrd] at HFR HFR2 hge1 hge2
      have HFD := hide hfrd
      clear hfr hfr2 hfrd
      go_wp2_with fail
      refine HFR.out.mono ?_
      rintro e wa ⟨rfl, rfl⟩
      go_wp2_with fail
      refine HFR2.out.mono ?_
      rintro e wb ⟨rfl, rfl⟩
      have hthN : th ≤ 200000 := by
        have l1 := HD.out.okG.len false
        have l2 := HD.out.okG.len true
        rw [HTH.out]
        unfold count2
        omega
      have hge1' : ¬ E < fr := by omega
      have hge2' : ¬ fr < (N : Int) - 1280 - 64 * (th : Int) := by omega
      go_wp2_with fail
      go_loopw [18, 19] (fun fv kv wr => ∃ (k : Nat) (b' : FB) (Q : St), kv = .int .i64 (k : Int) ∧ fv = .int .i64 Q.A.free ∧ k ≤ 2 ∧ b'.fb = b.fb ∧ Duo w b' c8 Q G1 wr ∧ DelI R Q N k ∧ wr.heap[fa]? = some (.cells #[.int .i64 4, .int .i64 6] 45 (0, 0))) (fun _ v _ => 2 - (intOf v).toNat)
      case atStart => exact ⟨0, b5, R, rfl, by rw [HFD.out, free_eq D9.out.okR D9.out.okG HM8.out.symm (HSR.out.trans HS8.out.symm)], by omega, HF5.out, D9.out, ⟨by rw [if_neg (by omega)], by rw [if_neg (by omega)], HSR.out⟩, F9.out⟩
      case round =>
        obtain ⟨k, b6, Q, rfl, rfl, hk, hbf, hD, hDI, hfa⟩ := hrel
        have HB6 := hide hbf
        have HQ := hide hD
        have HDI := hide hDI
        have HFB2 := hide hfa
        clear hbf hD hDI hfa
        by_cases hk2 : k < 2
        · obtain ⟨f, hkf, hcell⟩ : ∃ f : Int, (k = 0 ∧ f = 4 ∨ k = 1 ∧ f = 6) ∧ wr.cell? ⟨fa, k, none⟩ = some (.int .i64 f) := by
            rcases (by omega : k = 0 ∨ k = 1) with rfl | rfl
            · exact ⟨4, Or.inl ⟨rfl, rfl⟩, by rw [cell_at HFB2.out]; rfl⟩
            · exact ⟨6, Or.inr ⟨rfl, rfl⟩, by rw [cell_at HFB2.out]; rfl⟩
          have hfb : famBytes f ≠ 0 := by rcases hkf with ⟨_, rfl⟩ | ⟨_, rfl⟩ <;> decide
          have hlfa := lt_of_block HFB2.out
          have hst := del_start HDI.out hkf
          have hdu := dump_any Q HQ.out.okR b6 wr HQ.out.lb (HZ.out.ext HQ.out.bw) f f rfl hfb
          rw [HB6.out, tell_at hst] at hdu
          have HDU2 := hide hdu
          have HKF2 := hide (And.intro hkf hfb)
          have HST := hide hst
          have hk2' : (k : Int) < 2 := by omega
          clear hkf hdu hst
          go_wp2_with fail
          refine HDU2.out.mono ?_
          rintro e w10 ⟨v10, rfl, o10, e10⟩
          obtain ⟨ar, cr, rfl⟩ := owns_slice o10
          have O10 := hide o10
          have D10 := hide (HQ.out.ext e10)
          have F10 := hide (block_ext HFB2.out e10)
          obtain ⟨D, hDd⟩ : ∃ D, D = dumpR (R.M (fam f)) (dp (fam f)) := ⟨_, rfl⟩
          have HDD := hide hDd
          have hDl : (tellL R f).length = D.length := by unfold tellL; rw [List.length_map, hDd]
          have HDL := hide hDl
          have hDle : D.length ≤ 67584 := by rw [hDd]; exact D9.out.okR.len _
          have HSD2 := hide (show D.Pairwise before2 by rw [hDd]; exact dumpR_sorted _ _ (by have := dp_le (fam f); omega))
          obtain ⟨N1, hN1⟩ : ∃ N1, N1 = D.length := ⟨_, rfl⟩
          rw [hDl, ← hN1]
          rw [← hN1] at hDle
          have HN1 := hide hN1
          obtain ⟨bs, hbs⟩ : ∃ bs, bs = wr.heap.size := ⟨_, rfl⟩
          rw [← hbs] at O10
          clear o10 e10 hDd hDl hN1 hcell hlfa hbs
          go_wp2_with fail
          go_loopw [18, 21] (fun fv iv wq => ∃ (j : Nat) (b2 : FB) (Q2 : St), iv = .int .i64 (j : Int) ∧ fv = .int .i64 Q2.A.free ∧ j ≤ N1 ∧ b2.fb = b.fb ∧ Duo w b2 c8 Q2 G1 wq ∧ Q2.M (fam f) = tabL (D.drop j) ∧ Q2.M (!fam f) = Q.M (!fam f) ∧ Q2.A.size = N ∧ wq.heap[fa]? = some (.cells #[.int .i64 4, .int .i64 6] 45 (0, 0)) ∧ wq.ownsRow bs 47 3 (.slice ar (tellL R f).length cr) (tellL R f).length (flatR (tellL R f))) (fun _ v _ => N1 - (intOf v).toNat)
          case atStart => exact ⟨0, b6, Q, rfl, rfl, Nat.zero_le _, HB6.out, D10.out, by rw [HST.out, List.drop_zero, HDD.out]; exact (tabL_dump (D9.out.okR.tab _) (dp_le _)).symm, rfl, HDI.out.sQ, F10.out, O10.out⟩
          case round =>
            obtain ⟨j, b2, Q2, rfl, rfl, hj, hb2, hD2, hT2, hX2, hs2, hf2, ho2⟩ := hrel
            have HI := hide (And.intro hD2 (And.intro hT2 (And.intro hX2 (And.intro hs2 (And.intro hf2 ho2)))))
            have HB2 := hide hb2
            clear hb2 hD2 hT2 hX2 hs2 hf2 ho2
            by_cases hjN : j < N1
            · obtain ⟨hJ2, hJ3, hJ4, hJ5, hJ6, hJ7⟩ := HI.out
              have hjl : j < D.length := by rw [← HN1.out]; exact hjN
              obtain ⟨x, hx⟩ : ∃ x, D[j]? = some x := ⟨_, List.getElem?_eq_getElem hjl⟩
              have hrt : RtOk (R.M (fam f)) (famBytes f) x := rt_ok D9.out.okR HKF2.out.2 (by rw [← HDD.out]; exact List.mem_of_getElem? hx)
              obtain ⟨g, hg, hlg, c0, c1, _⟩ := route_cells (k := j) hJ7 (by rw [HDL.out]; exact hjl)
              rw [tell_idx (by rw [← HDD.out]; exact hx)] at c0 c1
              simp only [rdOf] at c0 c1
              obtain ⟨lx, hlx⟩ : ∃ lx, lx = x.1 := ⟨_, rfl⟩
              obtain ⟨sx, hsx⟩ : ∃ sx, sx = keyS (famBytes f) (addr x) := ⟨_, rfl⟩
              rw [← hsx] at c0
              rw [← hlx] at c1
              subst hg
              obtain ⟨cur, hgg⟩ := owns_block hJ7
              obtain ⟨o, ho⟩ : ∃ o : OpD, o = ⟨2, f, keyS (famBytes f) (addr x), (x.1 : Int), 0⟩ := ⟨_, rfl⟩
              obtain ⟨T1, hT1⟩ : ∃ T1, T1 = (Q2.step o).1 := ⟨_, rfl⟩
              obtain ⟨T, hT⟩ : ∃ T, T = (T1.step cOp1).1 := ⟨_, rfl⟩
              obtain ⟨a, ha⟩ : ∃ a, a = (Q2.step o).2 := ⟨_, rfl⟩
              have hdel := del_step (hp := 0) hJ2.okR rfl HKF2.out.2 HSD2.out hx hrt hJ3
              rw [← ho, ← hT1, ← ha] at hdel
              have hcm := (comp_step (S := T1) (o := cOp1) rfl).1
              rw [← hT] at hcm
              have hkT1 : T1.ok := by rw [hT1]; exact (step_ok hJ2.okR o).1
              have hkT : T.ok := by rw [hT]; exact (step_ok hkT1 cOp1).1
              have hsT : T.A.size = N := by rw [hT, (step_ok hkT1 cOp1).2, hT1, (step_ok hJ2.okR o).2]; exact hJ5
              have hok : o.ok := by
                have hr2 : RtOk (R.M (fam f)) (famBytes f) x := hrt
                have := rtOp_ok rfl HKF2.out.2 hr2 (c := 2) (Or.inr rfl)
                rw [ho]
                exact ⟨this.code1, this.code2, this.fam1, this.fam2, this.len1, this.len2, by simp, by simp, this.bits⟩
              have hrunT : (Q2.run [o, cOp1]).1 = T := by rw [hT, hT1]; rfl
              have hfge : Q2.A.free ≤ T.A.free := free_sub hkT hJ2.okR (hsT.trans hJ5.symm) (fun q => by
                rw [hcm]
                by_cases hq : q = fam f
                · rw [hq, hdel.2.1, hJ3, drop_cons hx]; exact sub_drop
                · have hq' : q = !fam f := by cases q <;> cases h9 : fam f <;> simp_all
                  rw [hq', hdel.2.2]
                  exact fun _ _ h => h)
              have HRN := hide (fun (ob : Nat) (w' : World) (hl : b2.lies w' Q2.A) (hb : w'.heap[ob]? = some (.cells #[.int .i64 2, .int .i64 f, .string sx, .int .i64 (lx : Int), .int .i64 0, .int .i64 4, .int .i64 0, .string ⟨#[]⟩, .int .i64 0, .int .i64 0] 37 (0, 0))) => show Calls Tryd.prog 12 #[.pointer (some ⟨b.fb, 0, none⟩), .slice (some ⟨ob, 0, none⟩) 2 2] w' fun e w'' => e = .returned (.slice (some ⟨w'.heap.size, 0, none⟩) 2 2) ∧ ∃ b' : FB, b'.fb = b.fb ∧ b2.moved b' w' w'' T.A ∧ w''.cell? ⟨w'.heap.size, 0, none⟩ = some (.int .i64 0) ∧ w'.heap.size < w''.heap.size from by
                have ho2 := ops_two hok cOp1_ok
                rw [ho] at ho2
                rw [hsx, hlx] at hb
                refine (run_lit Q2 [o, cOp1] _ b2 b.fb ob 2 2 w' hl hJ2.okR HB2.out hb (by rw [ho]; exact ho2) rfl (by omega)).mono ?_
                rintro e w'' ⟨rfl, b', h1, h2, _, X, hX, hA⟩
                rw [hrunT] at h2
                obtain ⟨x0, _, _⟩ := hA.get 0 a (by rw [ha]; rfl)
                rw [hdel.1, ← cell_at hX] at x0
                exact ⟨rfl, b', h1, h2, x0, lt_of_block hX⟩)
              have KS : ∀ w', w'.heap[fa]? = some (.cells #[.int .i64 4, .int .i64 6] 45 (0, 0)) → w'.heap[g]? = some (.cells cur 47 (0, 0)) → (fun w' : World => w'.cell? ⟨fa, k, none⟩ = some (.int .i64 f) ∧ w'.cell? ⟨g, j * 3, none⟩ = some (.string sx) ∧ w'.cell? ⟨g, j * 3 + 1, none⟩ = some (.int .i64 (lx : Int))) w' := fun w' e1 e2 => by
                refine ⟨?_, ?_, ?_⟩
                · rcases HKF2.out.1 with ⟨rfl, rfl⟩ | ⟨rfl, rfl⟩ <;> (rw [cell_at e1]; rfl)
                · rw [cell_at e2, ← cell_at hgg]; exact c0
                · rw [cell_at e2, ← cell_at hgg]; exact c1
              simp only [] at KS
              have HGG := hide (And.intro hJ6 hgg)
              have HNT := hide (And.intro hkT (And.intro hsT (show T.M (fam f) = tabL (D.drop (j + 1)) ∧ T.M (!fam f) = Q.M (!fam f) from ⟨by rw [hcm]; exact hdel.2.1, by rw [hcm, hdel.2.2]; exact hJ4⟩)))
              have hjN' : (j : Int) < N1 := by omega
              obtain ⟨fo, hfo⟩ : ∃ fo, fo = Q2.A.free := ⟨_, rfl⟩
              rw [← hfo] at hfge ⊢
              have hfge' : ¬ T.A.free < fo := by omega
              clear hJ2 hJ3 hJ4 hJ5 hJ6 hJ7 hx hrt c0 c1 hlx hsx ho hT1 hT ha hdel hcm hkT1 hkT hsT hok hrunT hgg hjl hlg hfo
              go_wp2_with fail
              refine wp_region_held_drew (S := (fun w' : World => w'.cell? ⟨fa, k, none⟩ = some (.int .i64 f) ∧ w'.cell? ⟨g, j * 3, none⟩ = some (.string sx) ∧ w'.cell? ⟨g, j * 3 + 1, none⟩ = some (.int .i64 (lx : Int)))) (by kernel_rfl) (KS _ HGG.out.1 HGG.out.2) (fun hHeld => ?_)
              (refine wpAnyH_take (i := 0) (oi := _) (v := ?_) rfl (by kernel_rfl) (by kernel_rfl) (by kernel_rfl) (fun _ _ _ h => h) (Or.inl ⟨by rfl, ?_⟩) (by assumption) ?_; rotate_left; (intro w hSw; (try dsimp only at hSw); go_simp; try with_reducible rfl); (try simp only [Act.put]); (try simp only [List.getElem_toArray]); (try simp only [List.getElem_cons_succ]); (try simp only [List.getElem_cons_zero]); (try simp only [List.setIfInBounds_toArray]))
              (refine wpAnyH_take (i := 1) (oi := _) (v := ?_) rfl (by kernel_rfl) (by kernel_rfl) (by kernel_rfl) (fun _ _ _ h => h) (Or.inl ⟨by rfl, ?_⟩) (by assumption) ?_; rotate_left; (intro w hSw; (try dsimp only at hSw); go_simp; try with_reducible rfl); (try simp only [Act.put]); (try simp only [List.getElem_toArray]); (try simp only [List.getElem_cons_succ]); (try simp only [List.getElem_cons_zero]); (try simp only [List.setIfInBounds_toArray]))
              (refine wpAnyH_take (i := 2) (oi := _) (v := ?_) rfl (by kernel_rfl) (by kernel_rfl) (by kernel_rfl) (fun _ _ _ h => h) (Or.inl ⟨by rfl, ?_⟩) (by assumption) ?_; rotate_left; (intro w hSw; (try dsimp only at hSw); go_simp; try with_reducible rfl); (try simp only [Act.put]); (try simp only [List.getElem_toArray]); (try simp only [List.getElem_cons_succ]); (try simp only [List.getElem_cons_zero]); (try simp only [List.setIfInBounds_toArray]))
              (refine wpAnyH_take (i := 3) (oi := _) (v := ?_) rfl (by kernel_rfl) (by kernel_rfl) (by kernel_rfl) (fun _ _ _ h => h) (Or.inl ⟨by rfl, ?_⟩) (by assumption) ?_; rotate_left; (intro w hSw; (try dsimp only at hSw); go_simp; try with_reducible rfl); (try simp only [Act.put]); (try simp only [List.getElem_toArray]); (try simp only [List.getElem_cons_succ]); (try simp only [List.getElem_cons_zero]); (try simp only [List.setIfInBounds_toArray]))
              (refine wpAnyH_take (i := 4) (oi := _) (v := ?_) rfl (by kernel_rfl) (by kernel_rfl) (by kernel_rfl) (fun _ _ _ h => h) (Or.inl ⟨by rfl, ?_⟩) (by assumption) ?_; rotate_left; (intro w hSw; (try dsimp only at hSw); go_simp; try with_reducible rfl); (try simp only [Act.put]); (try simp only [List.getElem_toArray]); (try simp only [List.getElem_cons_succ]); (try simp only [List.getElem_cons_zero]); (try simp only [List.setIfInBounds_toArray]))
              (refine wpAnyH_take (i := 5) (oi := _) (v := ?_) rfl (by kernel_rfl) (by kernel_rfl) (by kernel_rfl) (fun _ _ _ h => h) (Or.inl ⟨by rfl, ?_⟩) (by assumption) ?_; rotate_left; (intro w hSw; (try dsimp only at hSw); go_simp; try with_reducible rfl); (try simp only [Act.put]); (try simp only [List.getElem_toArray]); (try simp only [List.getElem_cons_succ]); (try simp only [List.getElem_cons_zero]); (try simp only [List.setIfInBounds_toArray]))
              (refine wpAnyH_take (i := 6) (oi := _) (v := ?_) rfl (by kernel_rfl) (by kernel_rfl) (by kernel_rfl) (fun _ _ _ h => h) (Or.inl ⟨by rfl, ?_⟩) (by assumption) ?_; rotate_left; (intro w hSw; (try dsimp only at hSw); go_simp; try with_reducible rfl); (try simp only [Act.put]); (try simp only [List.getElem_toArray]); (try simp only [List.getElem_cons_succ]); (try simp only [List.getElem_cons_zero]); (try simp only [List.setIfInBounds_toArray]))
              (refine wpAnyH_take (i := 7) (oi := _) (v := ?_) rfl (by kernel_rfl) (by kernel_rfl) (by kernel_rfl) (fun _ _ _ h => h) (Or.inl ⟨by rfl, ?_⟩) (by assumption) ?_; rotate_left; (intro w hSw; (try dsimp only at hSw); go_simp; try with_reducible rfl); (try simp only [Act.put]); (try simp only [List.getElem_toArray]); (try simp only [List.getElem_cons_succ]); (try simp only [List.getElem_cons_zero]); (try simp only [List.setIfInBounds_toArray]))
              (refine wpAnyH_take (i := 8) (oi := _) (v := ?_) rfl (by kernel_rfl) (by kernel_rfl) (by kernel_rfl) (fun _ _ _ h => h) (Or.inl ⟨by rfl, ?_⟩) (by assumption) ?_; rotate_left; (intro w hSw; (try dsimp only at hSw); go_simp; try with_reducible rfl); (try simp only [Act.put]); (try simp only [List.getElem_toArray]); (try simp only [List.getElem_cons_succ]); (try simp only [List.getElem_cons_zero]); (try simp only [List.setIfInBounds_toArray]))
              (refine wpAnyH_take (i := 9) (oi := _) (v := ?_) rfl (by kernel_rfl) (by kernel_rfl) (by kernel_rfl) (fun _ _ _ h => h) (Or.inl ⟨by rfl, ?_⟩) (by assumption) ?_; rotate_left; (intro w hSw; (try dsimp only at hSw); go_simp; try with_reducible rfl); (try simp only [Act.put]); (try simp only [List.getElem_toArray]); (try simp only [List.getElem_cons_succ]); (try simp only [List.getElem_cons_zero]); (try simp only [List.setIfInBounds_toArray]))
              (refine wpAnyH_take (i := 10) (oi := _) (v := ?_) rfl (by kernel_rfl) (by kernel_rfl) (by kernel_rfl) (fun _ _ _ h => h) (Or.inl ⟨by rfl, ?_⟩) (by assumption) ?_; rotate_left; (intro w hSw; (try dsimp only at hSw); go_simp; try with_reducible rfl); (try simp only [Act.put]); (try simp only [List.getElem_toArray]); (try simp only [List.getElem_cons_succ]); (try simp only [List.getElem_cons_zero]); (try simp only [List.setIfInBounds_toArray]))
              (refine wpAnyH_take (i := 11) (oi := _) (v := ?_) rfl (by kernel_rfl) (by kernel_rfl) (by kernel_rfl) (fun _ _ _ h => h) (Or.inl ⟨by rfl, ?_⟩) (by assumption) ?_; rotate_left; (intro w hSw; (try dsimp only at hSw); go_simp; try with_reducible rfl); (try simp only [Act.put]); (try simp only [List.getElem_toArray]); (try simp only [List.getElem_cons_succ]); (try simp only [List.getElem_cons_zero]); (try simp only [List.setIfInBounds_toArray]))
              (refine wpAnyH_take (i := 12) (oi := _) (v := ?_) rfl (by kernel_rfl) (by kernel_rfl) (by kernel_rfl) (fun _ _ _ h => h) (Or.inl ⟨by rfl, ?_⟩) (by assumption) ?_; rotate_left; (intro w hSw; (try dsimp only at hSw); go_simp; try with_reducible rfl); (try simp only [Act.put]); (try simp only [List.getElem_toArray]); (try simp only [List.getElem_cons_succ]); (try simp only [List.getElem_cons_zero]); (try simp only [List.setIfInBounds_toArray]))
              (refine wpAnyH_take (i := 13) (oi := _) (v := ?_) rfl (by kernel_rfl) (by kernel_rfl) (by kernel_rfl) (fun _ _ _ h => h) (Or.inl ⟨by rfl, ?_⟩) (by assumption) ?_; rotate_left; (intro w hSw; (try dsimp only at hSw); go_simp; try with_reducible rfl); (try simp only [Act.put]); (try simp only [List.getElem_toArray]); (try simp only [List.getElem_cons_succ]); (try simp only [List.getElem_cons_zero]); (try simp only [List.setIfInBounds_toArray]))
              (refine wpAnyH_take (i := 14) (oi := _) (v := ?_) rfl (by kernel_rfl) (by kernel_rfl) (by kernel_rfl) (fun _ _ _ h => h) (Or.inl ⟨by rfl, ?_⟩) (by assumption) ?_; rotate_left; (intro w hSw; (try dsimp only at hSw); go_simp; try with_reducible rfl); (try simp only [Act.put]); (try simp only [List.getElem_toArray]); (try simp only [List.getElem_cons_succ]); (try simp only [List.getElem_cons_zero]); (try simp only [List.setIfInBounds_toArray]))
              (refine wpAnyH_take (i := 15) (oi := _) (v := ?_) rfl (by kernel_rfl) (by kernel_rfl) (by kernel_rfl) (fun _ _ _ h => h) (Or.inl ⟨by rfl, ?_⟩) (by assumption) ?_; rotate_left; (intro w hSw; (try dsimp only at hSw); go_simp; try with_reducible rfl); (try simp only [Act.put]); (try simp only [List.getElem_toArray]); (try simp only [List.getElem_cons_succ]); (try simp only [List.getElem_cons_zero]); (try simp only [List.setIfInBounds_toArray]))
              ((refine wpAnyH_ready (rs := [16]) (by kernel_rfl) (by simp) ?_); (refine AllReadyH.cons (o := _) rfl (fun KK hK => ?_) ?_); rotate_left; exact AllReadyH.nil)
              go_simp
              obtain ⟨wz, hwz⟩ : ∃ wz, wz = (wr.alloc (.cells #[.int .i64 2, .int .i64 f, .string sx, .int .i64 (lx : Int), .int .i64 0, .int .i64 4, .int .i64 0, .string ⟨#[]⟩, .int .i64 0, .int .i64 0] 37)).drew := ⟨_, rfl⟩
              rw [← hwz]
              have ez : Below wr.heap.size wr wz := by rw [hwz]; exact Below.drew (ext_alloc _ _)
              have bz : wz.heap[wr.heap.size]? = some (.cells #[.int .i64 2, .int .i64 f, .string sx, .int .i64 (lx : Int), .int .i64 0, .int .i64 4, .int .i64 0, .string ⟨#[]⟩, .int .i64 0, .int .i64 0] 37 (0, 0)) := by rw [hwz]; exact heap_alloc_new wr _
              have EZ := hide (And.intro ez bz)
              clear hwz ez bz
              (refine hK.out _ _ (KS _ (block_ext HGG.out.1 EZ.out.1) (block_ext HGG.out.2 EZ.out.1)) (fun hHeld => ?_); clear hK KK; (try simp only [Act.put]); (try simp only [List.getElem_toArray]); (try simp only [List.getElem_cons_succ]); (try simp only [List.getElem_cons_zero]); (try simp only [List.setIfInBounds_toArray]))
              ((refine wpAnyH_ready (rs := [17]) (by kernel_rfl) (by simp) ?_); (refine AllReadyH.cons (o := _) rfl (fun KK hK => ?_) ?_); rotate_left; exact AllReadyH.nil)
              go_simp
              go_at_call 12
              refine (HRN.out wr.heap.size wz (HI.out.1.lb.ext EZ.out.1) EZ.out.2).mono ?_
              rintro e w12 ⟨rfl, b3, hb3, hm3, hx0, hlx0⟩
              have D12 := hide ((HI.out.1.ext EZ.out.1).left hm3 HNT.out.1)
              have F12 := hide (hm3.keep (HI.out.1.lb.ext EZ.out.1) (block_ext HGG.out.1 EZ.out.1) (by decide) (by decide) (by decide))
              have R12 := hide (hm3.keep (HI.out.1.lb.ext EZ.out.1) (block_ext HGG.out.2 EZ.out.1) (by decide) (by decide) (by decide))
              have O12 := hide (hm3.owns (HI.out.1.lb.ext EZ.out.1) (owns_ext HI.out.2.2.2.2.2 EZ.out.1))
              have hfr3 := free_x b3 T.A w12 hm3.lies
              rw [hb3] at hfr3
              have HFR3 := hide hfr3
              have HB3 := hide hb3
              clear hm3 hfr3 hb3
              go_wp2_with fail
              (refine hK.out _ _ (KS _ F12.out R12.out) (fun hHeld => ?_); clear hK KK; (try simp only [Act.put]); (try simp only [List.getElem_toArray]); (try simp only [List.getElem_cons_succ]); (try simp only [List.getElem_cons_zero]); (try simp only [List.setIfInBounds_toArray]))
              (refine wpAnyH_take (i := 18) (oi := _) (v := ?_) rfl (by kernel_rfl) (by kernel_rfl) (by kernel_rfl) (fun _ _ _ h => h) (Or.inl ⟨by rfl, ?_⟩) (by assumption) ?_; rotate_left; (intro w hSw; (try dsimp only at hSw); go_simp; try with_reducible rfl); (try simp only [Act.put]); (try simp only [List.getElem_toArray]); (try simp only [List.getElem_cons_succ]); (try simp only [List.getElem_cons_zero]); (try simp only [List.setIfInBounds_toArray]))
              (refine wpAnyH_done (by kernel_rfl) ?_ _)
              go_wp2_with fail
              refine HFR3.out.mono ?_
              rintro e w13 ⟨rfl, rfl⟩
              go_wp2
              exact ⟨⟨j + 1, b3, T, by simp, rfl, by omega, HB3.out, D12.out, HNT.out.2.2.1, HNT.out.2.2.2, HNT.out.2.1, F12.out, O12.out⟩, by simp [intOf]; omega⟩
            · obtain rfl : j = N1 := by omega
              obtain ⟨hJ2, hJ3, hJ4, hJ5, hJ6, hJ7⟩ := HI.out
              have hM0 : Q2.M (fam f) = noTab (fam f) := by
                rw [hJ3, HN1.out, List.drop_length]
                rfl
              have HNX := hide (del_next HDI.out HKF2.out.1 hM0 hJ4 hJ5)
              clear hJ2 hJ3 hJ4 hJ5 hJ6 hJ7 hM0
              go_wp2
              exact ⟨⟨k + 1, b2, Q2, by simp, rfl, by omega, HB2.out, HI.out.1, HNX.out, HI.out.2.2.2.2.1⟩, by simp [intOf]; omega⟩
        · obtain rfl : k = 2 := by omega
          have hM0 : Q.M = S.M := by
            rw [HSM.out.1]
            funext q
            cases q
            · rw [HDI.out.low, if_pos (by omega)]
            · rw [HDI.out.high, if_pos (by omega)]
          have hfe : Q.A.free = E := by rw [HE.out]; exact free_eq HQ.out.okR HS.out hM0 (HDI.out.sQ.trans HSM.out.2.symm)
          have ht4 : tellL Q 4 = [] := tell_none (by rw [hM0, HSM.out.1])
          have ht6 : tellL Q 6 = [] := tell_none (by rw [hM0, HSM.out.1])
          have hd4 := dump_any Q HQ.out.okR b6 wr HQ.out.lb (HZ.out.ext HQ.out.bw) 4 4 rfl (by decide)
          rw [HB6.out, ht4] at hd4
          have HD4 := hide hd4
          have hd6 := fun (w' : World) (e' : Below wr.heap.size wr w') => dump_any Q HQ.out.okR b6 w' (HQ.out.lb.ext e') (HZ.out.ext (ext_trans HQ.out.bw e')) 6 6 rfl (by decide)
          rw [HB6.out, ht6] at hd6
          have HD6 := hide hd6
          rw [hfe]
          clear hM0 hfe ht4 ht6 hd4 hd6
          go_wp2_with fail
          refine HD4.out.mono ?_
          rintro e w10 ⟨v10, rfl, o10, e10⟩
          obtain ⟨a10, c10, rfl⟩ := owns_slice o10
          have B10 := hide e10
          clear o10 e10
          go_wp2_with fail
          refine (HD6.out w10 B10.out).mono ?_
          rintro e w11 ⟨v11, rfl, o11, e11⟩
          obtain ⟨a11, c11, rfl⟩ := owns_slice o11
          have B11 := hide (ext_trans HQ.out.bw (ext_trans B10.out e11))
          clear o11 e11
          go_wp2
          go_ret
          exact ⟨rfl, B11.out⟩
end Go.Proofs.YtnapboelfimaaaaDoor
namespace Go.Proofs.YtnapboelfimaaaaDoor.replayed
open Go.ChangeShapes Go.WideShapes Go.ChangeAt Go.RowKit Go.Deep
theorem laidOut : laidOutB Tryd.prog = true := by kernel_rfl
theorem own : ownKnob Tryd.prog.godebug = none := by kernel_rfl
set_option maxRecDepth 10000 in
theorem contract (H : Type) (enc : TypeId × Value → H) (W : World) (base : Nat) (args : Array Value) (ds gs : List (DataW H)) (before : List MemPlace)
    (hval : ∀ (j : Nat) t v, Tryd.f8.params[j]? = some t → args[j]? = some v → Value.okWide Tryd.prog W .any base t v)
    (hW : DataW.Whole enc Tryd.prog Tryd.f8.params.toList Rows.replayedSpec.vars false W args.toList ds gs before)
    (hsz : (DataW.weightsEach Tryd.prog (Tryd.f8.params.toList ++ Rows.replayedSpec.plain.varTypes Tryd.prog) (ds ++ gs)).all (· ≤ reachBytes) = true)
    (hlaid : laidMet Tryd.prog Rows.replayedRow.laid W) :
    Calls Tryd.prog 8 args W fun e W' => ∃ v, e = .returned v ∧ Rows.replayedSpec.post enc Tryd.prog Tryd.f8 false true false false W args v W' := by
  have hW' := hW
  obtain ⟨p, q, hA0, hV, rfl, hfz, hnd⟩ := hW
  have hA : DataW.TrodAll enc Tryd.prog W 0 (fun _ => true) true Tryd.f8.params.toList args.toList ds p := hA0
  rw [Tryd.params8] at hA hval hsz
  obtain ⟨v0, vs0, d0, ds0, p0, q0, hargs, rfl, rfl, h0, r0⟩ := trodAll_cons hA
  obtain ⟨v1, vs1, d1, ds1, p1, q1, hargs1, rfl, rfl, h1, r1⟩ := trodAll_cons r0
  obtain ⟨rfl, rfl, rfl⟩ := trodAll_nil r1
  obtain rfl : args = #[v0, v1] := by cases args; simp_all
  obtain ⟨rfl, rfl⟩ := trodVars_none hV
  obtain ⟨n, rfl⟩ := okWide_int Tryd.underlying3 (hval 0 3 v0 rfl rfl)
  obtain ⟨a0, len, cap, rfl⟩ := okWide_slice Tryd.underlying22 (hval 1 22 v1 rfl rfl)
  have h0k := h0
  have h1k := h1
  obtain ⟨fuel0, hf0⟩ := h0
  obtain ⟨n', en, _, bn⟩ := DataW.trod_int Tryd.underlying3 hf0
  simp [Value.cells] at en
  subst en
  obtain ⟨bn1, bn2⟩ := bounds_i64 bn
  obtain ⟨fuel1, hf1⟩ := h1
  obtain ⟨ops, ao, cap', e, hs, hn⟩ := open_ops hf1
  have hn' := hn (fun n hn => by
    have := List.all_eq_true.1 hsz n (DataW.weights_mem_each (j := 1) (t := 22) rfl rfl n hn)
    simpa using this)
  simp [Value.cells] at e
  obtain ⟨rfl, rfl, rfl⟩ := e
  clear hA0 hsz hn
  simp only [List.append_nil] at hW'
  refine (replayed_walk n bn1 bn2 a0 cap ops W hs (by omega) (tz_of_laid hlaid)).mono fun e W' ⟨he, hg⟩ => ?_
  subst he
  have hlt : ∀ x ∈ p0 ++ p1, x.block < W.heap.size := fun x hx => by simpa using hW'.lt x (by simpa using hx)
  have hArg0 := Below.trod laidOut (by kernel_rfl) (of_decide_eq_true (by kernel_rfl)) h0k hg (fun x hx => hlt x (List.mem_append_left _ hx))
  have hArg1 := Below.trod laidOut (by kernel_rfl) (of_decide_eq_true (by kernel_rfl)) h1k hg (fun x hx => hlt x (List.mem_append_right _ hx))
  exact ⟨_, rfl, [d0, d1], [], p0 ++ p1, [], p0 ++ p1, [], hW', trodAll_cons_mk (shut_bool Tryd.underlying4 true) trodAll_mk0, (by have h1 := trodAll_cons_mk hArg0 (trodAll_cons_mk hArg1 trodAll_mk0); rw [List.append_nil] at h1; exact h1), rfl, hg.frame _, fun h => by cases h⟩

/-- a block that holds these bytes -/
def lay (xs : List Int) : Obj → Obj
  | .cells _ t frozen => .cells (xs.map (Value.int .u8)).toArray t frozen
  | o => o
def tab32 : List Int := [0, 1, 28, 2, 29, 14, 24, 3, 30, 22, 20, 15, 25, 17, 4, 8, 31, 27, 13, 23, 21, 19, 16, 7, 26, 12, 18, 6, 11, 5, 10, 9]
def tab64 : List Int := tzL
theorem laid_met (os : Os) : laidMet Tryd.prog Rows.replayedRow.laid (({ World.holding Tryd.prog os ⟨#[], #[], []⟩ with heap := ((World.holding Tryd.prog os ⟨#[], #[], []⟩).heap.modify 0 (lay tab32)).modify 1 (lay tab64) } : World).forCall (fun _ _ => 0) ⟨#[], #[.int .i64 0, .slice none 0 0], []⟩).memory :=
  laidMet_of_run' 8 (by kernel_rfl) (by kernel_rfl)
theorem reads (os : Os) {H : Type} (enc : TypeId × Value → H) : ∃ places, DataW.whole enc Tryd.prog (({ World.holding Tryd.prog os ⟨#[], #[], []⟩ with heap := ((World.holding Tryd.prog os ⟨#[], #[], []⟩).heap.modify 0 (lay tab32)).modify 1 (lay tab64) } : World).forCall (fun _ _ => 0) ⟨#[], #[.int .i64 0, .slice none 0 0], []⟩).memory Tryd.f8.params.toList Rows.replayedSpec.vars false #[.int .i64 0, Value.slice none 0 0].toList 8 = some ([.lit (.int .i64 0), .nil], [], places) :=
  ⟨[], by kernel_rfl⟩
set_option maxRecDepth 100000 in
theorem lifted (os : Os) (started : os.Started) (H : Type) (enc : TypeId × Value → H) (F : Stop.Interp) :
    ReturnsInHanded {} Tryd.checked os 8 .any ((OpenSpec.ofChange Rows.replayedSpec).preRow enc Tryd.prog Tryd.f8 Rows.replayedRow.domain false Rows.replayedRow.laid) (((OpenSpec.ofChange Rows.replayedSpec).at F).post enc Tryd.prog Tryd.f8 false true false false) := by
  obtain ⟨places, hx⟩ := reads os enc
  refine returnsInHanded_of_row (C := Tryd.checked) (s := OpenSpec.ofChange Rows.replayedSpec) own started (by kernel_rfl) Tryd.func8
    (witness_row_at (enc := enc) (C := Tryd.checked) false ({ World.holding Tryd.prog os ⟨#[], #[], []⟩ with heap := ((World.holding Tryd.prog os ⟨#[], #[], []⟩).heap.modify 0 (lay tab32)).modify 1 (lay tab64) } : World) #[.int .i64 0, .slice none 0 0] rfl (by kernel_rfl) (by kernel_rfl) (by kernel_rfl)
      (OpenSpec.preRow_of_cond 8 hx (by kernel_rfl) (fun k hk => by cases hk) (by kernel_rfl) (laid_met os))) ?_
  intro W base args ds gs before hval hW _ _ hsz hlaid _ _
  exact contract H enc W base args ds gs before hval hW hsz hlaid
theorem said : Rows.ReplayedSaid :=
  OpenClaim.holds_of_cond 8 Tryd.f8 rfl rfl rfl rfl rfl rfl rfl ⟨rfl, rfl, rfl, rfl, rfl⟩ rfl rfl rfl rfl rfl (by kernel_rfl) Tryd.func8 (by kernel_rfl)
    (of_decide_eq_true (by kernel_rfl)) (by unfold Func.isWrapper; first | (rw [if_pos (by decide +kernel)]; kernel_rfl) | (rw [if_neg (by decide +kernel)]; exact ⟨rfl, rfl⟩))
    (fun os started H enc _ F => by rw [OpenClaim.pre_eq_preRow]; exact lifted os started H enc F)
theorem plain (f : FuncId) (fn : Func) (hf : Tryd.pinned.checked.prog.funcNamed Rows.replayedRow.func = some f) (hfn : Tryd.pinned.checked.prog.funcs[f]? = some fn) :
    true = Tryd.pinned.checked.prog.looks [] ∧ ∀ (j : Nat) t, fn.params[j]? = some t → Tryd.pinned.checked.prog.wantsStandIn t = false := by
  obtain rfl : f = 8 := Option.some.inj ((show Tryd.prog.funcNamed Rows.replayedRow.func = some 8 by kernel_rfl).symm.trans hf) |>.symm
  obtain rfl : fn = Tryd.f8 := (Option.some.inj (Tryd.func8.symm.trans hfn)).symm
  refine ⟨by kernel_rfl, fun j t ht => ?_⟩
  rw [Tryd.params8] at ht
  have ht' := Array.mem_of_getElem? ht
  simp only [List.mem_toArray, List.mem_cons, List.not_mem_nil, or_false] at ht'
  rcases ht' with rfl | rfl
  · exact (show Tryd.prog.wantsStandIn 3 = false by kernel_rfl)
  · exact (show Tryd.prog.wantsStandIn 22 = false by kernel_rfl)
end Go.Proofs.YtnapboelfimaaaaDoor.replayed

namespace Go.Proofs.YtnapboelfimaaaaDoor
/-- THE CARD -/
theorem replayed_card : Rows.ReplayedCardSaid :=
  Claim7.holds_tied_plain_at .later [] _ _ _ _ replayed.said (fun _ h => by cases h) (by kernel_rfl) (fun _ h => by cases h) replayed_row_tie rfl ⟨rfl, rfl⟩ (by kernel_rfl) rfl replayed.plain (by kernel_rfl)
end Go.Proofs.YtnapboelfimaaaaDoor
