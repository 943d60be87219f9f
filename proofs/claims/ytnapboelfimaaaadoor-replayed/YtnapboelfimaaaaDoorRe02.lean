/- RepN, LPa, RepA: parts of the proof, one behind the other. -/
import Derived.Test.YtnapboelfimaaaaDoorRe00
import Derived.Test.YtnapboelfimaaaaDoorRe01
/- What Replayed does to two Fibs, by the tables. -/
namespace Go.Proofs.YtnapboelfimaaaaDoor
open Go.RowKit Go.Deep
theorem rtOp_ok {M : Tab} {f : Int} {n : Nat} {x : Nat × Nat × Nat} (hn : famBytes f = n) (hn0 : n ≠ 0) (h : RtOk M n x) {c : Int} (hc : c = 1 ∨ c = 2) : (rtOp c f n x).ok := by
  have hn16 : n ≤ 16 := by rw [← hn]; unfold famBytes; split <;> (try split) <;> omega
  have hf : f = 4 ∨ f = 6 := by
    unfold famBytes at hn
    by_cases h4 : f = 4
    · exact Or.inl h4
    · rw [if_neg h4] at hn
      by_cases h6 : f = 6
      · exact Or.inr h6
      · rw [if_neg h6] at hn; exact absurd hn.symm hn0
  have h1 := h.len
  have h2 := h.hop
  have h3 := keyS_size n (addr x)
  unfold rtOp
  constructor <;> simp only <;> omega
/-- a told route put into a Fib that holds those behind it -/
theorem ins_step {G : St} (hG : G.ok) {D : List (Nat × Nat × Nat)} {M : Tab} {f : Int} {n i : Nat} (hn : famBytes f = n) (hn0 : n ≠ 0) {x : Nat × Nat × Nat} (hx : D[i]? = some x) (hr : RtOk M n x) (hT : G.M (fam f) = tabL (D.drop (i + 1))) :
    ((G.step (rtOp 1 f n x)).2.err = 8 → G.A.size < 64 * (count2 G.M + 1) + 1280) ∧ ((G.step (rtOp 1 f n x)).2.err ≠ 8 → (G.step (rtOp 1 f n x)).2.err = 0 ∧ (G.step (rtOp 1 f n x)).1.M (fam f) = tabL (D.drop i) ∧ (G.step (rtOp 1 f n x)).1.M (!fam f) = G.M (!fam f)) := by
  obtain ⟨p1, p2, p3⟩ := rt_op hn hn0 hr 1
  have hop : hopFault (x.2.2 : Int) = 0 := by unfold hopFault; rw [if_pos ⟨by omega, by have := hr.hop; omega⟩]
  have hf : opFault (rtOp 1 f n x) = 0 := by
    unfold opFault
    rw [if_pos (show (rtOp 1 f n x).code = 1 from rfl)]
    show (if prefFault f (keyS n (addr x)) (x.1 : Int) = 0 then hopFault (x.2.2 : Int) else _) = 0
    rw [if_pos p1, hop]
  refine ⟨fun e => (step_full hG e).2.2, fun e => ?_⟩
  obtain ⟨m1, m2, _⟩ := step_m hG e
  have hfam : fam (rtOp 1 f n x).family = fam f := rfl
  refine ⟨?_, ?_, ?_⟩
  · rw [m2]
    unfold mErr
    rw [if_pos hf, if_neg (show ¬ (rtOp 1 f n x).code = 2 by show ¬ (1 : Int) = 2; decide), if_neg (show ¬ (rtOp 1 f n x).code = 3 by show ¬ (1 : Int) = 3; decide)]
  · rw [m1, next_at, if_pos hfam.symm, hT]
    unfold nextT
    rw [if_pos hf, if_pos (show (rtOp 1 f n x).code = 1 from rfl), p2, p3, drop_cons hx]
    show updT (tabL (D.drop (i + 1))) x.1 x.2.1 (some (x.2.2 : Int).toNat) = _
    rw [Int.toNat_natCast, tabL_ins]
  · rw [m1, next_at, if_neg (by rw [hfam]; cases fam f <;> decide)]
/-- a told route taken out of a Fib that holds it and those behind it -/
theorem del_step {F : St} (hF : F.ok) {D : List (Nat × Nat × Nat)} {M : Tab} {f : Int} {n i : Nat} (hn : famBytes f = n) (hn0 : n ≠ 0) (hs : D.Pairwise before2) {x : Nat × Nat × Nat} (hx : D[i]? = some x) (hr : RtOk M n x) {hp : Int} (hT : F.M (fam f) = tabL (D.drop i)) :
    (F.step ⟨2, f, keyS n (addr x), (x.1 : Int), hp⟩).2.err = 0 ∧ (F.step ⟨2, f, keyS n (addr x), (x.1 : Int), hp⟩).1.M (fam f) = tabL (D.drop (i + 1)) ∧ (F.step ⟨2, f, keyS n (addr x), (x.1 : Int), hp⟩).1.M (!fam f) = F.M (!fam f) := by
  obtain ⟨p1, p2, p3⟩ := rt_op hn hn0 hr 2
  obtain ⟨o, ho⟩ : ∃ o : OpD, o = ⟨2, f, keyS n (addr x), (x.1 : Int), hp⟩ := ⟨_, rfl⟩
  rw [← ho]
  have hc : o.code = 2 := by rw [ho]
  have hfam : fam o.family = fam f := by rw [ho]
  have hl : o.l = x.1 := by rw [ho]; exact p2
  have hv : o.v = x.2.1 := by rw [ho]; exact p3
  have hf : opFault o = 0 := by
    unfold opFault
    rw [if_neg (by omega), if_pos hc, ho]
    exact p1
  have e : (F.step o).2.err ≠ 8 := fun e => by have := (step_full hF e).1; omega
  obtain ⟨m1, m2, _⟩ := step_m hF e
  refine ⟨?_, ?_, ?_⟩
  · rw [m2]
    unfold mErr
    have hsome : F.M (fam o.family) o.l o.v = some x.2.2 := by
      rw [hfam, hT, hl, hv, drop_cons hx, tabL_cons]
      simp
    rw [if_pos hf, if_pos hc, hsome]
    rfl
  · rw [m1, next_at, if_pos hfam.symm, hT]
    unfold nextT
    rw [if_pos hf, if_neg (by omega), if_pos hc, hl, hv, drop_cons hx]
    exact tabL_del (by rw [← drop_cons hx]; exact List.Pairwise.drop hs)
  · rw [m1, next_at, if_neg (by rw [hfam]; cases fam f <;> decide)]
theorem free_eq {S T : St} (hS : S.ok) (hT : T.ok) (hM : S.M = T.M) (hs : S.A.size = T.A.size) : S.A.free = T.A.free := by
  obtain ⟨F, h1⟩ := hS.inv
  obtain ⟨F', h2⟩ := hT.inv
  rw [← hM] at h2
  exact free_same h1 h2 hs
end Go.Proofs.YtnapboelfimaaaaDoor
/- The law Packed, walked. -/
namespace Go.Proofs.YtnapboelfimaaaaDoor
open Go.RowKit Go.Deep
def cOp1 : OpD := ⟨4, 0, ⟨#[]⟩, 0, 0⟩
def cOp2 : OpD := ⟨4, 77, ⟨#[]⟩, -1, -1⟩
theorem cOp1_ok : cOp1.ok := by constructor <;> simp [cOp1, ByteArray.size]
theorem cOp2_ok : cOp2.ok := by constructor <;> simp [cOp2, ByteArray.size]
theorem comp_fault {o : OpD} (h : o.code = 4) : opFault o = 0 := by
  unfold opFault
  rw [if_neg (by omega), if_neg (by omega), if_neg (by omega), if_pos h]
theorem comp_step {S : St} {o : OpD} (h : o.code = 4) : (S.step o).1.M = S.M ∧ (S.step o).2 = ⟨0, 0, 0⟩ := by
  unfold St.step
  rw [if_pos (comp_fault h), if_neg (by omega), if_neg (by omega), if_neg (by omega)]
  exact ⟨rfl, rfl⟩
/-- the same operation on two Fibs that hold the same routes -/
theorem step_two {S T : St} (hS : S.ok) (hT : T.ok) (hM : S.M = T.M) (o : OpD) : ((S.step o).2.err = 8 → o.code = 1) ∧ ((T.step o).2.err = 8 → o.code = 1) ∧ ((S.step o).2.err ≠ 8 → (T.step o).2.err ≠ 8 → (S.step o).2.err = (T.step o).2.err ∧ (S.step o).2.hop = (T.step o).2.hop ∧ (S.step o).1.M = (T.step o).1.M) := by
  refine ⟨fun h => (step_full hS h).1, fun h => (step_full hT h).1, fun h1 h2 => ?_⟩
  obtain ⟨a1, a2, a3⟩ := step_m hS h1
  obtain ⟨b1, b2, b3⟩ := step_m hT h2
  rw [a1, a2, a3, b1, b2, b3, hM]
  exact ⟨rfl, rfl, rfl⟩
set_option maxHeartbeats 4000000 in
set_option maxRecDepth 10000 in
theorem packed_walk (n : Int) (h1 : -9223372036854775808 ≤ n) (h2 : n ≤ 9223372036854775807) (ao : Option Addr) (cap : Nat) (ops : List OpD) (w : World) (hO : OpsOn w ao ops) (hlen : ops.length ≤ 2932031007402) (hZ : TzTab w) :
    Calls Tryd.prog 7 #[.int .i64 n, .slice ao ops.length cap] w fun e w' => e = .returned (.bool true) ∧ Below w.heap.size w w' := by
  obtain ⟨N, hN⟩ : ∃ N, N = wordsN n := ⟨_, rfl⟩
  have hNi := wordsN_in n
  have HWO := hide (fun w => words_any n w h1 h2)
  rw [← hN] at hNi HWO
  clear hN
  have hS : (St.new N).ok := new_ok hNi.1 hNi.2
  obtain ⟨S, hSd⟩ : ∃ S, S = St.new N := ⟨_, rfl⟩
  have HSD := hide hSd
  rw [← hSd] at hS
  clear hSd
  have HO := hide hO
  have HZ := hide hZ
  have HS := hide hS
  obtain ⟨m, hm⟩ : ∃ m, m = ops.length := ⟨_, rfl⟩
  have HM := hide hm
  rw [← hm] at hlen ⊢
  clear hO hZ hS hm
  go_enter Tryd.func7, Tryd.ntmps7
  go_wp2_with fail
  refine (known_any w HZ.out).mono ?_
  rintro e w1 ⟨rfl, hb1⟩
  have B1 := hide hb1
  clear hb1
  go_wp2_with fail
  refine (HWO.out _).mono ?_
  rintro e w1' ⟨rfl, rfl⟩
  go_wp2_with fail
  refine (fib_x _ N _ rfl hNi.1 hNi.2).mono ?_
  rintro e w2 ⟨rfl, hb2, hl2⟩
  have L2 := hide hl2
  have B2 := hide (ext_trans B1.out hb2)
  have G2 := hide ((newB_ge w1').mono B1.out.size)
  obtain ⟨b, hb⟩ : ∃ b, b = newB w1' := ⟨_, rfl⟩
  rw [← hb] at L2 G2 ⊢
  rw [← HSD.out] at L2
  clear hb2 hl2 hb
  go_wp2_with fail
  refine (HWO.out _).mono ?_
  rintro e w2' ⟨rfl, rfl⟩
  go_wp2_with fail
  refine (fib_x _ N _ rfl hNi.1 hNi.2).mono ?_
  rintro e w3 ⟨rfl, hb3, hl3⟩
  have L3 := hide hl3
  have B3 := hide (ext_trans B2.out hb3)
  have G3 := hide ((newB_ge w2').mono B2.out.size)
  have A3 := hide (FB.apart_new L2.out (newB_ge w2'))
  have L2' := hide (L2.out.ext hb3)
  obtain ⟨c, hc⟩ : ∃ c, c = newB w2' := ⟨_, rfl⟩
  rw [← hc] at L3 G3 A3 ⊢
  rw [← HSD.out] at L3
  clear hb3 hl3 hc
  go_wp2_with fail
  go_loopw [8] (fun v wr => ∃ (i : Nat) (b' c' : FB) (R G : St), v = .int .i64 (i : Int) ∧ i ≤ m ∧ b'.fb = b.fb ∧ c'.fb = c.fb ∧ Duo w b' c' R G wr ∧ R.M = G.M) (fun v _ => m - (intOf v).toNat)
  case atStart => exact ⟨0, b, c, S, S, rfl, Nat.zero_le _, rfl, rfl, ⟨L2'.out, L3.out, A3.out, G2.out, G3.out, B3.out, HS.out, HS.out⟩, rfl⟩
  case round =>
    obtain ⟨i, b', c', R, G, rfl, hi, hbf, hcf, hD, hRG⟩ := hrel
    by_cases hin : i < m
    · have hil : i < ops.length := by rw [← HM.out]; exact hin
      obtain ⟨ob, off, o, rfl, ho, hok, hl0, _⟩ := HO.out.at hD.bw hil
      have HOI := hide (fun (w' : World) (hb : Below w.heap.size w w') => HO.out.cell hb ho)
      have HD := hide hD
      have HRG := hide hRG
      have HBF := hide hbf
      have HCF := hide hcf
      obtain ⟨m1, q1⟩ := comp_step (S := G) (o := cOp1) rfl
      obtain ⟨G1, hG1⟩ : ∃ G1, G1 = (G.step cOp1).1 := ⟨_, rfl⟩
      rw [← hG1] at m1
      have HON1 := hide (one_x G G1 cOp1 ⟨0, 0, 0⟩ c' c.fb wr hD.lc hD.okG cOp1_ok hcf hG1 q1.symm)
      obtain ⟨m2, q2⟩ := comp_step (S := G1) (o := cOp2) rfl
      obtain ⟨Q, hQ⟩ : ∃ Q, Q = (G1.step cOp2).1 := ⟨_, rfl⟩
      rw [← hQ] at m2
      have HMM := hide (show R.M = Q.M from hRG.trans (m1.symm.trans m2.symm))
      have HQ2 := hide (And.intro hQ q2)
      simp only [cOp1] at HON1
      clear hD hRG hbf hcf m1 q1 hG1 m2 q2 hQ ho
      go_wp2_with fail
      refine HON1.out.mono ?_
      rintro e wa ⟨rfl, c1, hc1, hm1, hk1⟩
      have hDa := HD.out.right hm1 hk1
      obtain ⟨wb, hwb⟩ : ∃ wb, wb = wa.alloc (.cells #[.int .i64 0, .int .i64 0, .int .i64 0] 33) := ⟨_, rfl⟩
      have hbb : Below wa.heap.size wa wb := by rw [hwb]; exact ext_alloc _ _
      have Z1 := hide (show wb.heap[wa.heap.size]? = some (.cells #[.int .i64 0, .int .i64 0, .int .i64 0] 33 (0, 0)) by rw [hwb]; exact heap_alloc_new _ _)
      have DB := hide (hDa.ext hbb)
      have HWB := hide hwb
      have HON2 := hide (one_x G1 Q cOp2 ⟨0, 0, 0⟩ c1 c.fb wb DB.out.lc hk1 cOp2_ok hc1 HQ2.out.1 HQ2.out.2.symm)
      obtain ⟨z1, hz1⟩ : ∃ z1, z1 = wa.heap.size := ⟨_, rfl⟩
      rw [← hz1] at Z1
      have HZ1 := hide hz1
      simp only [cOp2] at HON2
      clear hm1 hDa hwb hbb hc1 hz1 hk1
      go_wp2_with fail
      rw [← HWB.out, ← HZ1.out]
      refine HON2.out.mono ?_
      rintro e wc ⟨rfl, c2, hc2, hm2, hk2⟩
      have hDc := DB.out.right hm2 hk2
      have hZ1 := hm2.keep DB.out.lc Z1.out (by decide) (by decide) (by decide)
      obtain ⟨wd, hwd⟩ : ∃ wd, wd = wc.alloc (.cells #[.int .i64 0, .int .i64 0, .int .i64 0] 33) := ⟨_, rfl⟩
      have hbd : Below wc.heap.size wc wd := by rw [hwd]; exact ext_alloc _ _
      have Z2 := hide (And.intro (block_ext hZ1 hbd) (show wd.heap[wc.heap.size]? = some (.cells #[.int .i64 0, .int .i64 0, .int .i64 0] 33 (0, 0)) by rw [hwd]; exact heap_alloc_new _ _))
      have DD := hide (hDc.ext hbd)
      have HWD := hide hwd
      obtain ⟨hlo, d0, d1, d2, d3, d4⟩ := HOI.out wc hDc.bw
      obtain ⟨T, hT⟩ : ∃ T, T = (R.step o).1 := ⟨_, rfl⟩
      obtain ⟨a, ha⟩ : ∃ a, a = (R.step o).2 := ⟨_, rfl⟩
      obtain ⟨V, hV⟩ : ∃ V, V = (Q.step o).1 := ⟨_, rfl⟩
      obtain ⟨y, hy⟩ : ∃ y, y = (Q.step o).2 := ⟨_, rfl⟩
      have htwo := step_two DD.out.okR DD.out.okG HMM.out o
      rw [← hT, ← ha, ← hV, ← hy] at htwo
      have HTW := hide htwo
      have HON3 := hide (one_x R T o a b' b.fb wd DD.out.lb DD.out.okR hok HBF.out hT ha)
      have HY := hide (And.intro hV hy)
      obtain ⟨z2, hz2⟩ : ∃ z2, z2 = wc.heap.size := ⟨_, rfl⟩
      rw [← hz2] at Z2
      have HZ2 := hide hz2
      clear hm2 hDc hZ1 hwd hbd hz2 hT ha hV hy htwo
      go_wp2_with fail
      rw [← HWD.out, ← HZ2.out]
      refine HON3.out.mono ?_
      rintro e we ⟨rfl, b3, hb3, hm3, hk3⟩
      have hDe := DD.out.left hm3 hk3
      have hZ1 := hm3.keep DD.out.lb Z2.out.1 (by decide) (by decide) (by decide)
      have hZ2 := hm3.keep DD.out.lb Z2.out.2 (by decide) (by decide) (by decide)
      obtain ⟨wf, hwf⟩ : ∃ wf, wf = we.alloc (.cells #[.int .i64 a.err, .int .i64 a.hop, .int .i64 a.reads] 33) := ⟨_, rfl⟩
      have hbf : Below we.heap.size we wf := by rw [hwf]; exact ext_alloc _ _
      have Z3 := hide (And.intro (block_ext hZ1 hbf) (And.intro (block_ext hZ2 hbf) (show wf.heap[we.heap.size]? = some (.cells #[.int .i64 a.err, .int .i64 a.hop, .int .i64 a.reads] 33 (0, 0)) by rw [hwf]; exact heap_alloc_new _ _)))
      have DF := hide (hDe.ext hbf)
      have HWF := hide hwf
      clear d0 d1 d2 d3 d4 hlo
      obtain ⟨hlo, d0, d1, d2, d3, d4⟩ := HOI.out we hDe.bw
      have HON4 := hide (one_x Q V o y c2 c.fb wf DF.out.lc DF.out.okG hok hc2 HY.out.1 HY.out.2)
      obtain ⟨z3, hz3⟩ : ∃ z3, z3 = we.heap.size := ⟨_, rfl⟩
      rw [← hz3] at Z3
      have HZ3 := hide hz3
      clear hm3 hDe hZ1 hZ2 hwf hbf hz3 hc2 hk2
      go_wp2_with fail
      rw [← HWF.out, ← HZ3.out]
      refine HON4.out.mono ?_
      rintro e wg ⟨rfl, c4, hc4, hm4, hk4⟩
      have hDg := DF.out.right hm4 hk4
      have hZ1 := hm4.keep DF.out.lc Z3.out.1 (by decide) (by decide) (by decide)
      have hZ2 := hm4.keep DF.out.lc Z3.out.2.1 (by decide) (by decide) (by decide)
      have hZ3 := hm4.keep DF.out.lc Z3.out.2.2 (by decide) (by decide) (by decide)
      obtain ⟨x0, x1, x2⟩ := cells3 hZ1
      obtain ⟨y0, y1, y2⟩ := cells3 hZ2
      obtain ⟨t0, t1, t2⟩ := cells3 hZ3
      have l1 := lt_of_block hZ1
      have l2 := lt_of_block hZ2
      have l3 := lt_of_block hZ3
      clear d0 d1 d2 d3 d4 hlo
      obtain ⟨hlo, d0, _⟩ := HOI.out wg hDg.bw
      obtain ⟨wh, hwh⟩ : ∃ wh, wh = wg.alloc (.cells #[.int .i64 y.err, .int .i64 y.hop, .int .i64 y.reads] 33) := ⟨_, rfl⟩
      have hbh : Below wg.heap.size wg wh := by rw [hwh]; exact ext_alloc _ _
      have Z4 := hide (show wh.heap[wg.heap.size]? = some (.cells #[.int .i64 y.err, .int .i64 y.hop, .int .i64 y.reads] 33 (0, 0)) by rw [hwh]; exact heap_alloc_new _ _)
      have DH := hide (hDg.ext hbh)
      have ZH := hide (block_ext hZ3 hbh)
      have HWH := hide hwh
      have HB3 := hide (And.intro hb3 hc4)
      clear hm4 hDg hZ1 hZ2 hZ3 hwh hbh hk3 hk4 hb3 hc4
      by_cases hx : a.err = 8
      · have ex8 : (a.err == 8) = true := by simpa using hx
        have ec1 : (o.code == 1) = true := by simpa using HTW.out.1 hx
        have BE := hide DH.out.bw
        rw [HWH.out] at BE
        clear hx
        by_cases hy0 : y.err = 0
        · have ey0 : (y.err == 0) = true := by simpa using hy0
          clear hy0
          go_wp2
          go_ret
          exact ⟨rfl, BE.out⟩
        · have ey0 : (y.err == 0) = false := by simpa using hy0
          clear hy0
          go_wp2
          go_ret
          exact ⟨rfl, BE.out⟩
      · have ex8 : (a.err == 8) = false := by simpa using hx
        by_cases hy8 : y.err = 8
        · have ey8 : (y.err == 8) = true := by simpa using hy8
          have ey0 : (y.err == 0) = false := by rw [hy8]; rfl
          have ec1 : (o.code == 1) = true := by simpa using HTW.out.2.1 hy8
          have BE := hide DH.out.bw
          rw [HWH.out] at BE
          clear hx hy8
          go_wp2
          go_ret
          exact ⟨rfl, BE.out⟩
        · have ey8 : (y.err == 8) = false := by simpa using hy8
          obtain ⟨e1, e2, e3⟩ := HTW.out.2.2 hx hy8
          have exy : (a.err != y.err) = false := by simpa using e1
          have exh : (a.hop != y.hop) = false := by simpa using e2
          have HE3 := hide e3
          clear hx hy8 e1 e2 e3
          go_wp2_with fail
          rw [← HWH.out]
          refine (dumps_x T V DH.out.okR DH.out.okG b3 c4 b.fb c.fb wh DH.out.lb DH.out.lc HE3.out (HZ.out.ext DH.out.bw) HB3.out.1 HB3.out.2).mono ?_
          rintro e wi ⟨rfl, hbi⟩
          have DI := hide (DH.out.ext hbi)
          clear x0 x1 x2 y0 y1 y2 t0 t1 t2
          obtain ⟨t0, t1, t2⟩ := cells3 (block_ext ZH.out hbi)
          obtain ⟨s0, s1, s2⟩ := cells3 (block_ext Z4.out hbi)
          have l5 := lt_of_block (block_ext ZH.out hbi)
          have l6 := lt_of_block (block_ext Z4.out hbi)
          clear hbi
          go_wp2
          exact ⟨⟨i + 1, b3, c4, T, V, by simp, by omega, HB3.out.1, HB3.out.2, DI.out, HE3.out⟩, by simp [intOf]; omega⟩
    · obtain rfl : i = m := by omega
      have HB := hide hD.bw
      clear hD
      go_wp2
      go_ret
      exact ⟨rfl, HB.out⟩
end Go.Proofs.YtnapboelfimaaaaDoor
/- Run of operations that a caller has laid out himself. -/
namespace Go.Proofs.YtnapboelfimaaaaDoor
open Go.RowKit Go.Deep
theorem run_lit (S : St) (os : List OpD) (C : Array Value) (b : FB) (fb ob cap n : Nat) (w : World) (h : b.lies w S.A) (hS : S.ok) (hfb : b.fb = fb) (hb : w.heap[ob]? = some (.cells C 37 (0, 0))) (hC : OpsIn C 0 os) (hn : n = os.length) (hl : n ≤ 100) :
    Calls Tryd.prog 12 #[.pointer (some ⟨fb, 0, none⟩), .slice (some ⟨ob, 0, none⟩) n cap] w fun e w' => e = .returned (.slice (some ⟨w.heap.size, 0, none⟩) n n) ∧ ∃ b' : FB, b'.fb = fb ∧ b.moved b' w w' (S.run os).1.A ∧ (S.run os).1.ok ∧ ∃ X, w'.heap[w.heap.size]? = some (.cells X 33 (0, 0)) ∧ AnsIn X n (S.run os).2 := by
  subst hfb hn
  have n1 := ty_ne hb h.tab.tab (by decide)
  have n2 := ty_ne hb h.tab.ar.arena (by decide)
  have n3 := ty_ne hb h.tab.ar.words (by decide)
  refine (run_any S os b.fb b.tb b.ab b.wb ob 0 cap C 37 w h hS hb hC n1 n2 n3 (by omega)).mono ?_
  rintro e w' ⟨rfl, hM, hX⟩
  obtain ⟨b', hm⟩ := FB.move h hM
  exact ⟨rfl, b', hm.fb, hm, (run_ok hS os).1, hX⟩
theorem ops_two {o p : OpD} (ho : o.ok) (hp : p.ok) : OpsIn #[.int .i64 o.code, .int .i64 o.family, .string o.bits, .int .i64 o.len, .int .i64 o.hop, .int .i64 p.code, .int .i64 p.family, .string p.bits, .int .i64 p.len, .int .i64 p.hop] 0 [o, p] := by
  refine ⟨fun j q hj => ?_, fun q hq => ?_⟩
  · match j, hj with
    | 0, hj => cases hj; exact ⟨rfl, rfl, rfl, rfl, rfl⟩
    | 1, hj => cases hj; exact ⟨rfl, rfl, rfl, rfl, rfl⟩
    | j + 2, hj => simp at hj
  · simp only [List.mem_cons, List.not_mem_nil, or_false] at hq
    rcases hq with rfl | rfl
    · exact ho
    · exact hp
/-- the Compact alone -/
theorem run_comp (S T : St) (b : FB) (fb ob cap : Nat) (w : World) (h : b.lies w S.A) (hS : S.ok) (hfb : b.fb = fb) (hT : T = (S.step cOp1).1) (hb : w.heap[ob]? = some (.cells #[.int .i64 4, .int .i64 0, .string ⟨#[]⟩, .int .i64 0, .int .i64 0] 37 (0, 0))) :
    Calls Tryd.prog 12 #[.pointer (some ⟨fb, 0, none⟩), .slice (some ⟨ob, 0, none⟩) 1 cap] w fun e w' => (∃ v, e = .returned v) ∧ ∃ b' : FB, b'.fb = fb ∧ b.moved b' w w' T.A ∧ T.ok ∧ T.M = S.M ∧ T.A.size = S.A.size := by
  refine (run_lit S [cOp1] cOp1.arr b fb ob cap 1 w h hS hfb hb (ops_one cOp1_ok) rfl (by omega)).mono ?_
  rintro e w' ⟨rfl, b', h1, h2, h3, _⟩
  have e1 : (S.run [cOp1]).1 = T := by rw [hT]; rfl
  rw [e1] at h2 h3
  exact ⟨⟨_, rfl⟩, b', h1, h2, h3, by rw [hT]; exact (comp_step rfl).1, by rw [hT]; exact (step_ok hS cOp1).2⟩
/-- more routes: no more free -/
theorem free_sub {S T : St} (hS : S.ok) (hT : T.ok) (hs : S.A.size = T.A.size) (h : ∀ q, Sub (S.M q) (T.M q)) : T.A.free ≤ S.A.free := by
  obtain ⟨F, h1⟩ := hS.inv
  obtain ⟨F', h2⟩ := hT.inv
  exact free_le h1 h2 hs h
theorem sub_none (M : Tab) (q : Bool) : Sub (noTab q) M := fun _ _ h => by cases h
theorem sub_drop {x : Nat × Nat × Nat} {L : List (Nat × Nat × Nat)} : Sub (tabL L) (tabL (x :: L)) := fun l v h => by
  rw [tabL_cons]
  split
  · rfl
  · exact h
theorem free_least {S : St} (h : S.ok) : (S.A.size : Int) - 1280 - 64 * (count2 S.M : Nat) ≤ S.A.free := by
  obtain ⟨F, h1⟩ := h.inv
  have := free_room h1
  omega
/-- how many routes a Fib holds that holds so many of a dump -/
theorem len_tabL {S : St} (h : S.ok) {q : Bool} {L : List (Nat × Nat × Nat)} (hs : L.Pairwise before2) (hM : S.M q = tabL L) : (dumpR (S.M q) (dp q)).length = L.length := by
  have hT := h.tab q
  rw [hM] at hT ⊢
  rw [dump_tabL hT (dp_le q) hs]
end Go.Proofs.YtnapboelfimaaaaDoor
