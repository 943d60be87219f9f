/- Proved: a Compact anywhere changes no answer but Reads (statement Packed), for every number and every list of operations. This text: KeeF, LPa, PackedP: parts of the proof, one behind the other. -/
import Derived.Test.YtnapboelfimaaaaDoorK40
/- More of what stays; what an operation that is refused changes: nothing. -/
namespace Go.Proofs.YtnapboelfimaaaaDoor
open Go.RowKit Go.Deep
/-- rows of routes stay, whatever is done -/
theorem FB.moved.owns {b b' : FB} {w w' : World} {A B : Ar} {base size n : Nat} {v : Value} {xs : List Value} (h : b.moved b' w w' B) (hl : b.lies w A) (ho : w.ownsRow base 47 size v n xs) : w'.ownsRow base 47 size v n xs := by
  refine ⟨ho.1, ?_⟩
  rcases ho.2 with h0 | ⟨g, cap, cur, rfl, hbg, hgg, rest⟩
  · exact .inl h0
  · exact .inr ⟨g, cap, cur, rfl, hbg, h.keep hl hgg (by decide) (by decide) (by decide), rest⟩
theorem next_same {M : Bool → Tab} {o : OpD} (h : mErr M o ≠ 0 ∨ o.code = 3 ∨ o.code = 4) : mNext M o = M := by
  unfold mNext
  by_cases hf : opFault o = 0
  · rw [if_pos hf]
    unfold mErr at h
    rw [if_pos hf] at h
    rcases fault_code hf with hc | hc | hc | hc
    · rw [if_neg (by omega), if_neg (by omega)] at h
      omega
    · rw [if_neg (by omega), if_pos hc]
      rw [if_pos hc] at h
      cases hm : M (fam o.family) o.l o.v with
      | none => exact updM_id hm
      | some x =>
        rw [hm] at h
        simp at h
        omega
    · rw [if_neg (by omega), if_neg (by omega)]
    · rw [if_neg (by omega), if_neg (by omega)]
  · rw [if_neg hf]
/-- what is refused, a lookup, a Compact: the tables stay -/
theorem step_same {S : St} (h : S.ok) {o : OpD} (hc : (S.step o).2.err ≠ 0 ∨ o.code = 3 ∨ o.code = 4) : (S.step o).1.M = S.M := by
  by_cases h8 : (S.step o).2.err = 8
  · rw [(step_full h h8).2.1]
  · obtain ⟨m1, m2, _⟩ := step_m h h8
    rw [m1]
    rw [m2] at hc
    exact next_same hc
theorem tell_count (S : St) : (tellL S 4).length + (tellL S 6).length = count2 S.M := by
  unfold tellL count2
  rw [List.length_map, List.length_map, show fam 4 = false by decide, show fam 6 = true by decide]
theorem same_x (l : List RouteD) (n b1 b2 : Nat) (v1 v2 : Value) (w : World) (hn : n = l.length) (h1 : w.ownsRow b1 47 3 v1 n (flatR l)) (h2 : w.ownsRow b2 47 3 v2 n (flatR l)) (hl : n ≤ 4194304) :
    Calls Tryd.prog 16 #[v1, v2] w fun e w' => e = .returned (.bool true) ∧ Below w.heap.size w w' := by
  subst hn
  exact same_any l b1 b2 v1 v2 w h1 h2 hl
/-- two Fibs side by side, and what they hold -/
structure Duo (w0 : World) (b c : FB) (R G : St) (w : World) : Prop where
  lb : b.lies w R.A
  lc : c.lies w G.A
  ap : b.apart c
  gb : b.ge w0.heap.size
  gc : c.ge w0.heap.size
  bw : Below w0.heap.size w0 w
  okR : R.ok
  okG : G.ok
theorem Duo.ext {w0 : World} {b c : FB} {R G : St} {w w' : World} (h : Duo w0 b c R G w) (hb : Below w.heap.size w w') : Duo w0 b c R G w' := ⟨h.lb.ext hb, h.lc.ext hb, h.ap, h.gb, h.gc, ext_trans h.bw hb, h.okR, h.okG⟩
theorem Duo.left {w0 : World} {b b' c : FB} {R G T : St} {w w' : World} (h : Duo w0 b c R G w) (hm : b.moved b' w w' T.A) (hT : T.ok) : Duo w0 b' c T G w' :=
  ⟨hm.lies, hm.other h.lc h.ap, hm.apart c _ h.lc h.ap, hm.ge _ h.gb h.bw.size, h.gc, h.bw.trans (hm.below h.gb h.bw.size), hT, h.okG⟩
theorem Duo.right {w0 : World} {b c c' : FB} {R G T : St} {w w' : World} (h : Duo w0 b c R G w) (hm : c.moved c' w w' T.A) (hT : T.ok) : Duo w0 b c' R T w' :=
  ⟨hm.other h.lb h.ap.symm, hm.lies, (hm.apart b _ h.lb h.ap.symm).symm, h.gb, hm.ge _ h.gc h.bw.size, h.bw.trans (hm.below h.gc h.bw.size), h.okR, hT⟩
/-- one operation of the argument, in whatever world -/
theorem OpsOn.cell {w w' : World} {b off : Nat} {ops : List OpD} {i : Nat} {o : OpD} (h : OpsOn w (some ⟨b, off, none⟩) ops) (hb : Below w.heap.size w w') (ho : ops[i]? = some o) : b < w'.heap.size ∧ w'.cell? ⟨b, off + i * 5, none⟩ = some (.int .i64 o.code) ∧ w'.cell? ⟨b, off + i * 5 + 1, none⟩ = some (.int .i64 o.family) ∧ w'.cell? ⟨b, off + i * 5 + 2, none⟩ = some (.string o.bits) ∧ w'.cell? ⟨b, off + i * 5 + 3, none⟩ = some (.int .i64 o.len) ∧ w'.cell? ⟨b, off + i * 5 + 4, none⟩ = some (.int .i64 o.hop) := by
  obtain ⟨b', off', o', e1, e2, _, _, hl, r⟩ := h.at hb (List.getElem?_eq_some_iff.1 ho).1
  simp only [Option.some.injEq, Addr.mk.injEq, and_true] at e1
  obtain ⟨rfl, rfl⟩ := e1
  rw [ho] at e2
  cases e2
  exact ⟨hl, r⟩
/-- one, where the Fib is known by its first block alone -/
theorem one_x (S T : St) (o : OpD) (a : Ans) (b : FB) (fb : Nat) (w : World) (h : b.lies w S.A) (hS : S.ok) (hok : o.ok) (hfb : b.fb = fb) (hT : T = (S.step o).1) (ha : a = (S.step o).2) :
    Calls Tryd.prog 14 #[.pointer (some ⟨fb, 0, none⟩), .agg #[.int .i64 o.code, .int .i64 o.family, .string o.bits, .int .i64 o.len, .int .i64 o.hop]] w fun e w' => e = .returned (.tuple #[.agg #[.int .i64 a.err, .int .i64 a.hop, .int .i64 a.reads], .bool true]) ∧ ∃ b', b'.fb = fb ∧ b.moved b' w w' T.A ∧ T.ok := by
  subst hfb hT ha
  refine (one_any S o b w h hS hok).mono ?_
  rintro e w' ⟨rfl, b', hm⟩
  exact ⟨rfl, b', hm.fb, hm, (step_ok hS o).1⟩
theorem dumps_x (S T : St) (hS : S.ok) (hT : T.ok) (b c : FB) (fb gb : Nat) (w : World) (hb : b.lies w S.A) (hc : c.lies w T.A) (hM : S.M = T.M) (hZ : TzTab w) (h1 : b.fb = fb) (h2 : c.fb = gb) :
    Calls Tryd.prog 18 #[.pointer (some ⟨fb, 0, none⟩), .pointer (some ⟨gb, 0, none⟩)] w fun e w' => e = .returned (.bool true) ∧ Below w.heap.size w w' := by
  subst h1 h2
  exact dumps_any S T hS hT b c w hb hc hM hZ
end Go.Proofs.YtnapboelfimaaaaDoor
/- The law Packed, walked. -/
namespace Go.Proofs.YtnapboelfimaaaaDoor
open Go.RowKit Go.Deep
def cOp1 : OpD := ⟨4, 0, ⟨#[]⟩, 0, 0⟩
def cOp2 : OpD := ⟨4, 77, ⟨#[]⟩, -1, -1⟩
theorem cOp1_ok : cOp1.ok := by constructor <;> simp [cOp1, ByteArray.size]
theorem cOp2_ok : cOp2.ok := by constructor <;> simp [cOp2, ByteArray.size]
theorem comp_fault {o : OpD} (h : o.code = 4) : opFault o = 0 := by
  unfold opFault
  rw [if_neg (by omega), if_neg (by omega), if_neg (by omega), if_pos h]
theorem comp_step {S : St} {o : OpD} (h : o.code = 4) : (S.step o).1.M = S.M ∧ (S.step o).2 = ⟨0, 0, 0⟩ := by
  unfold St.step
  rw [if_pos (comp_fault h), if_neg (by omega), if_neg (by omega), if_neg (by omega)]
  exact ⟨rfl, rfl⟩
/-- the same operation on two Fibs that hold the same routes -/
theorem step_two {S T : St} (hS : S.ok) (hT : T.ok) (hM : S.M = T.M) (o : OpD) : ((S.step o).2.err = 8 → o.code = 1) ∧ ((T.step o).2.err = 8 → o.code = 1) ∧ ((S.step o).2.err ≠ 8 → (T.step o).2.err ≠ 8 → (S.step o).2.err = (T.step o).2.err ∧ (S.step o).2.hop = (T.step o).2.hop ∧ (S.step o).1.M = (T.step o).1.M) := by
  refine ⟨fun h => (step_full hS h).1, fun h => (step_full hT h).1, fun h1 h2 => ?_⟩
  obtain ⟨a1, a2, a3⟩ := step_m hS h1
  obtain ⟨b1, b2, b3⟩ := step_m hT h2
  rw [a1, a2, a3, b1, b2, b3, hM]
  exact ⟨rfl, rfl, rfl⟩
set_option maxHeartbeats 4000000 in
set_option maxRecDepth 10000 in
theorem packed_walk (n : Int) (h1 : -9223372036854775808 ≤ n) (h2 : n ≤ 9223372036854775807) (ao : Option Addr) (cap : Nat) (ops : List OpD) (w : World) (hO : OpsOn w ao ops) (hlen : ops.length ≤ 2932031007402) (hZ : TzTab w) :
    Calls Tryd.prog 7 #[.int .i64 n, .slice ao ops.length cap] w fun e w' => e = .returned (.bool true) ∧ Below w.heap.size w w' := by
  obtain ⟨N, hN⟩ : ∃ N, N = wordsN n := ⟨_, rfl⟩
  have hNi := wordsN_in n
  have HWO := hide (fun w => words_any n w h1 h2)
  rw [← hN] at hNi HWO
  clear hN
  have hS : (St.new N).ok := new_ok hNi.1 hNi.2
  obtain ⟨S, hSd⟩ : ∃ S, S = St.new N := ⟨_, rfl⟩
  have HSD := hide hSd
  rw [← hSd] at hS
  clear hSd
  have HO := hide hO
  have HZ := hide hZ
  have HS := hide hS
  obtain ⟨m, hm⟩ : ∃ m, m = ops.length := ⟨_, rfl⟩
  have HM := hide hm
  rw [← hm] at hlen ⊢
  clear hO hZ hS hm
  go_enter Tryd.func7, Tryd.ntmps7
  go_wp2_with fail
  refine (known_any w HZ.out).mono ?_
  rintro e w1 ⟨rfl, hb1⟩
  have B1 := hide hb1
  clear hb1
  go_wp2_with fail
  refine (HWO.out _).mono ?_
  rintro e w1' ⟨rfl, rfl⟩
  go_wp2_with fail
  refine (fib_x _ N _ rfl hNi.1 hNi.2).mono ?_
  rintro e w2 ⟨rfl, hb2, hl2⟩
  have L2 := hide hl2
  have B2 := hide (ext_trans B1.out hb2)
  have G2 := hide ((newB_ge w1').mono B1.out.size)
  obtain ⟨b, hb⟩ : ∃ b, b = newB w1' := ⟨_, rfl⟩
  rw [← hb] at L2 G2 ⊢
  rw [← HSD.out] at L2
  clear hb2 hl2 hb
  go_wp2_with fail
  refine (HWO.out _).mono ?_
  rintro e w2' ⟨rfl, rfl⟩
  go_wp2_with fail
  refine (fib_x _ N _ rfl hNi.1 hNi.2).mono ?_
  rintro e w3 ⟨rfl, hb3, hl3⟩
  have L3 := hide hl3
  have B3 := hide (ext_trans B2.out hb3)
  have G3 := hide ((newB_ge w2').mono B2.out.size)
  have A3 := hide (FB.apart_new L2.out (newB_ge w2'))
  have L2' := hide (L2.out.ext hb3)
  obtain ⟨c, hc⟩ : ∃ c, c = newB w2' := ⟨_, rfl⟩
  rw [← hc] at L3 G3 A3 ⊢
  rw [← HSD.out] at L3
  clear hb3 hl3 hc
  go_wp2_with fail
  go_loopw [8] (fun v wr => ∃ (i : Nat) (b' c' : FB) (R G : St), v = .int .i64 (i : Int) ∧ i ≤ m ∧ b'.fb = b.fb ∧ c'.fb = c.fb ∧ Duo w b' c' R G wr ∧ R.M = G.M) (fun v _ => m - (intOf v).toNat)
  case atStart => exact ⟨0, b, c, S, S, rfl, Nat.zero_le _, rfl, rfl, ⟨L2'.out, L3.out, A3.out, G2.out, G3.out, B3.out, HS.out, HS.out⟩, rfl⟩
  case round =>
    obtain ⟨i, b', c', R, G, rfl, hi, hbf, hcf, hD, hRG⟩ := hrel
    by_cases hin : i < m
    · have hil : i < ops.length := by rw [← HM.out]; exact hin
      obtain ⟨ob, off, o, rfl, ho, hok, hl0, _⟩ := HO.out.at hD.bw hil
      have HOI := hide (fun (w' : World) (hb : Below w.heap.size w w') => HO.out.cell hb ho)
      have HD := hide hD
      have HRG := hide hRG
      have HBF := hide hbf
      have HCF := hide hcf
      obtain ⟨m1, q1⟩ := comp_step (S := G) (o := cOp1) rfl
      obtain ⟨G1, hG1⟩ : ∃ G1, G1 = (G.step cOp1).1 := ⟨_, rfl⟩
      rw [← hG1] at m1
      have HON1 := hide (one_x G G1 cOp1 ⟨0, 0, 0⟩ c' c.fb wr hD.lc hD.okG cOp1_ok hcf hG1 q1.symm)
      obtain ⟨m2, q2⟩ := comp_step (S := G1) (o := cOp2) rfl
      obtain ⟨Q, hQ⟩ : ∃ Q, Q = (G1.step cOp2).1 := ⟨_, rfl⟩
      rw [← hQ] at m2
      have HMM := hide (show R.M = Q.M from hRG.trans (m1.symm.trans m2.symm))
      have HQ2 := hide (And.intro hQ q2)
      simp only [cOp1] at HON1
      clear hD hRG hbf hcf m1 q1 hG1 m2 q2 hQ ho
      go_wp2_with fail
      refine HON1.out.mono ?_
      rintro e wa ⟨rfl, c1, hc1, hm1, hk1⟩
      have hDa := HD.out.right hm1 hk1
      obtain ⟨wb, hwb⟩ : ∃ wb, wb = wa.alloc (.cells #[.int .i64 0, .int .i64 0, .int .i64 0] 33) := ⟨_, rfl⟩
      have hbb : Below wa.heap.size wa wb := by rw [hwb]; exact ext_alloc _ _
      have Z1 := hide (show wb.heap[wa.heap.size]? = some (.cells #[.int .i64 0, .int .i64 0, .int .i64 0] 33 (0, 0)) by rw [hwb]; exact heap_alloc_new _ _)
      have DB := hide (hDa.ext hbb)
      have HWB := hide hwb
      have HON2 := hide (one_x G1 Q cOp2 ⟨0, 0, 0⟩ c1 c.fb wb DB.out.lc hk1 cOp2_ok hc1 HQ2.out.1 HQ2.out.2.symm)
      obtain ⟨z1, hz1⟩ : ∃ z1, z1 = wa.heap.size := ⟨_, rfl⟩
      rw [← hz1] at Z1
      have HZ1 := hide hz1
      simp only [cOp2] at HON2
      clear hm1 hDa hwb hbb hc1 hz1 hk1
      go_wp2_with fail
      rw [← HWB.out, ← HZ1.out]
      refine HON2.out.mono ?_
      rintro e wc ⟨rfl, c2, hc2, hm2, hk2⟩
      have hDc := DB.out.right hm2 hk2
      have hZ1 := hm2.keep DB.out.lc Z1.out (by decide) (by decide) (by decide)
      obtain ⟨wd, hwd⟩ : ∃ wd, wd = wc.alloc (.cells #[.int .i64 0, .int .i64 0, .int .i64 0] 33) := ⟨_, rfl⟩
      have hbd : Below wc.heap.size wc wd := by rw [hwd]; exact ext_alloc _ _
      have Z2 := hide (And.intro (block_ext hZ1 hbd) (show wd.heap[wc.heap.size]? = some (.cells #[.int .i64 0, .int .i64 0, .int .i64 0] 33 (0, 0)) by rw [hwd]; exact heap_alloc_new _ _))
      have DD := hide (hDc.ext hbd)
      have HWD := hide hwd
      obtain ⟨hlo, d0, d1, d2, d3, d4⟩ := HOI.out wc hDc.bw
      obtain ⟨T, hT⟩ : ∃ T, T = (R.step o).1 := ⟨_, rfl⟩
      obtain ⟨a, ha⟩ : ∃ a, a = (R.step o).2 := ⟨_, rfl⟩
      obtain ⟨V, hV⟩ : ∃ V, V = (Q.step o).1 := ⟨_, rfl⟩
      obtain ⟨y, hy⟩ : ∃ y, y = (Q.step o).2 := ⟨_, rfl⟩
      have htwo := step_two DD.out.okR DD.out.okG HMM.out o
      rw [← hT, ← ha, ← hV, ← hy] at htwo
      have HTW := hide htwo
      have HON3 := hide (one_x R T o a b' b.fb wd DD.out.lb DD.out.okR hok HBF.out hT ha)
      have HY := hide (And.intro hV hy)
      obtain ⟨z2, hz2⟩ : ∃ z2, z2 = wc.heap.size := ⟨_, rfl⟩
      rw [← hz2] at Z2
      have HZ2 := hide hz2
      clear hm2 hDc hZ1 hwd hbd hz2 hT ha hV hy htwo
      go_wp2_with fail
      rw [← HWD.out, ← HZ2.out]
      refine HON3.out.mono ?_
      rintro e we ⟨rfl, b3, hb3, hm3, hk3⟩
      have hDe := DD.out.left hm3 hk3
      have hZ1 := hm3.keep DD.out.lb Z2.out.1 (by decide) (by decide) (by decide)
      have hZ2 := hm3.keep DD.out.lb Z2.out.2 (by decide) (by decide) (by decide)
      obtain ⟨wf, hwf⟩ : ∃ wf, wf = we.alloc (.cells #[.int .i64 a.err, .int .i64 a.hop, .int .i64 a.reads] 33) := ⟨_, rfl⟩
      have hbf : Below we.heap.size we wf := by rw [hwf]; exact ext_alloc _ _
      have Z3 := hide (And.intro (block_ext hZ1 hbf) (And.intro (block_ext hZ2 hbf) (show wf.heap[we.heap.size]? = some (.cells #[.int .i64 a.err, .int .i64 a.hop, .int .i64 a.reads] 33 (0, 0)) by rw [hwf]; exact heap_alloc_new _ _)))
      have DF := hide (hDe.ext hbf)
      have HWF := hide hwf
      clear d0 d1 d2 d3 d4 hlo
      obtain ⟨hlo, d0, d1, d2, d3, d4⟩ := HOI.out we hDe.bw
      have HON4 := hide (one_x Q V o y c2 c.fb wf DF.out.lc DF.out.okG hok hc2 HY.out.1 HY.out.2)
      obtain ⟨z3, hz3⟩ : ∃ z3, z3 = we.heap.size := ⟨_, rfl⟩
      rw [← hz3] at Z3
      have HZ3 := hide hz3
      clear hm3 hDe hZ1 hZ2 hwf hbf hz3 hc2 hk2
      go_wp2_with fail
      rw [← HWF.out, ← HZ3.out]
      refine HON4.out.mono ?_
      rintro e wg ⟨rfl, c4, hc4, hm4, hk4⟩
      have hDg := DF.out.right hm4 hk4
      have hZ1 := hm4.keep DF.out.lc Z3.out.1 (by decide) (by decide) (by decide)
      have hZ2 := hm4.keep DF.out.lc Z3.out.2.1 (by decide) (by decide) (by decide)
      have hZ3 := hm4.keep DF.out.lc Z3.out.2.2 (by decide) (by decide) (by decide)
      obtain ⟨x0, x1, x2⟩ := cells3 hZ1
      obtain ⟨y0, y1, y2⟩ := cells3 hZ2
      obtain ⟨t0, t1, t2⟩ := cells3 hZ3
      have l1 := lt_of_block hZ1
      have l2 := lt_of_block hZ2
      have l3 := lt_of_block hZ3
      clear d0 d1 d2 d3 d4 hlo
      obtain ⟨hlo, d0, _⟩ := HOI.out wg hDg.bw
      obtain ⟨wh, hwh⟩ : ∃ wh, wh = wg.alloc (.cells #[.int .i64 y.err, .int .i64 y.hop, .int .i64 y.reads] 33) := ⟨_, rfl⟩
      have hbh : Below wg.heap.size wg wh := by rw [hwh]; exact ext_alloc _ _
      have Z4 := hide (show wh.heap[wg.heap.size]? = some (.cells #[.int .i64 y.err, .int .i64 y.hop, .int .i64 y.reads] 33 (0, 0)) by rw [hwh]; exact heap_alloc_new _ _)
      have DH := hide (hDg.ext hbh)
      have ZH := hide (block_ext hZ3 hbh)
      have HWH := hide hwh
      have HB3 := hide (And.intro hb3 hc4)
      clear hm4 hDg hZ1 hZ2 hZ3 hwh hbh hk3 hk4 hb3 hc4
      by_cases hx : a.err = 8
      · have ex8 : (a.err == 8) = true := by simpa using hx
        have ec1 : (o.code == 1) = true := by simpa using HTW.out.1 hx
        have BE := hide DH.out.bw
        rw [HWH.out] at BE
        clear hx
        by_cases hy0 : y.err = 0
        · have ey0 : (y.err == 0) = true := by simpa using hy0
          clear hy0
          go_wp2
          go_ret
          exact ⟨rfl, BE.out⟩
        · have ey0 : (y.err == 0) = false := by simpa using hy0
          clear hy0
          go_wp2
          go_ret
          exact ⟨rfl, BE.out⟩
      · have ex8 : (a.err == 8) = false := by simpa using hx
        by_cases hy8 : y.err = 8
        · have ey8 : (y.err == 8) = true := by simpa using hy8
          have ey0 : (y.err == 0) = false := by rw [hy8]; rfl
          have ec1 : (o.code == 1) = true := by simpa using HTW.out.2.1 hy8
          have BE := hide DH.out.bw
          rw [HWH.out] at BE
          clear hx hy8
          go_wp2
          go_ret
          exact ⟨rfl, BE.out⟩
        · have ey8 : (y.err == 8) = false := by simpa using hy8
          obtain ⟨e1, e2, e3⟩ := HTW.out.2.2 hx hy8
          have exy : (a.err != y.err) = false := by simpa using e1
          have exh : (a.hop != y.hop) = false := by simpa using e2
          have HE3 := hide e3
          clear hx hy8 e1 e2 e3
          go_wp2_with fail
          rw [← HWH.out]
          refine (dumps_x T V DH.out.okR DH.out.okG b3 c4 b.fb c.fb wh DH.out.lb DH.out.lc HE3.out (HZ.out.ext DH.out.bw) HB3.out.1 HB3.out.2).mono ?_
          rintro e wi ⟨rfl, hbi⟩
          have DI := hide (DH.out.ext hbi)
          clear x0 x1 x2 y0 y1 y2 t0 t1 t2
          obtain ⟨t0, t1, t2⟩ := cells3 (block_ext ZH.out hbi)
          obtain ⟨s0, s1, s2⟩ := cells3 (block_ext Z4.out hbi)
          have l5 := lt_of_block (block_ext ZH.out hbi)
          have l6 := lt_of_block (block_ext Z4.out hbi)
          clear hbi
          go_wp2
          exact ⟨⟨i + 1, b3, c4, T, V, by simp, by omega, HB3.out.1, HB3.out.2, DI.out, HE3.out⟩, by simp [intOf]; omega⟩
    · obtain rfl : i = m := by omega
      have HB := hide hD.bw
      clear hD
      go_wp2
      go_ret
      exact ⟨rfl, HB.out⟩
end Go.Proofs.YtnapboelfimaaaaDoor
namespace Go.Proofs.YtnapboelfimaaaaDoor.packed
open Go.ChangeShapes Go.WideShapes Go.ChangeAt Go.RowKit Go.Deep
theorem laidOut : laidOutB Tryd.prog = true := by kernel_rfl
theorem own : ownKnob Tryd.prog.godebug = none := by kernel_rfl
set_option maxRecDepth 10000 in
theorem contract (H : Type) (enc : TypeId × Value → H) (W : World) (base : Nat) (args : Array Value) (ds gs : List (DataW H)) (before : List MemPlace)
    (hval : ∀ (j : Nat) t v, Tryd.f7.params[j]? = some t → args[j]? = some v → Value.okWide Tryd.prog W .any base t v)
    (hW : DataW.Whole enc Tryd.prog Tryd.f7.params.toList Rows.packedSpec.vars false W args.toList ds gs before)
    (hsz : (DataW.weightsEach Tryd.prog (Tryd.f7.params.toList ++ Rows.packedSpec.plain.varTypes Tryd.prog) (ds ++ gs)).all (· ≤ reachBytes) = true)
    (hlaid : laidMet Tryd.prog Rows.packedRow.laid W) :
    Calls Tryd.prog 7 args W fun e W' => ∃ v, e = .returned v ∧ Rows.packedSpec.post enc Tryd.prog Tryd.f7 false true false false W args v W' := by
  have hW' := hW
  obtain ⟨p, q, hA0, hV, rfl, hfz, hnd⟩ := hW
  have hA : DataW.TrodAll enc Tryd.prog W 0 (fun _ => true) true Tryd.f7.params.toList args.toList ds p := hA0
  rw [Tryd.params7] at hA hval hsz
  obtain ⟨v0, vs0, d0, ds0, p0, q0, hargs, rfl, rfl, h0, r0⟩ := trodAll_cons hA
  obtain ⟨v1, vs1, d1, ds1, p1, q1, hargs1, rfl, rfl, h1, r1⟩ := trodAll_cons r0
  obtain ⟨rfl, rfl, rfl⟩ := trodAll_nil r1
  obtain rfl : args = #[v0, v1] := by cases args; simp_all
  obtain ⟨rfl, rfl⟩ := trodVars_none hV
  obtain ⟨n, rfl⟩ := okWide_int Tryd.underlying3 (hval 0 3 v0 rfl rfl)
  obtain ⟨a0, len, cap, rfl⟩ := okWide_slice Tryd.underlying22 (hval 1 22 v1 rfl rfl)
  have h0k := h0
  have h1k := h1
  obtain ⟨fuel0, hf0⟩ := h0
  obtain ⟨n', en, _, bn⟩ := DataW.trod_int Tryd.underlying3 hf0
  simp [Value.cells] at en
  subst en
  obtain ⟨bn1, bn2⟩ := bounds_i64 bn
  obtain ⟨fuel1, hf1⟩ := h1
  obtain ⟨ops, ao, cap', e, hs, hn⟩ := open_ops hf1
  have hn' := hn (fun n hn => by
    have := List.all_eq_true.1 hsz n (DataW.weights_mem_each (j := 1) (t := 22) rfl rfl n hn)
    simpa using this)
  simp [Value.cells] at e
  obtain ⟨rfl, rfl, rfl⟩ := e
  clear hA0 hsz hn
  simp only [List.append_nil] at hW'
  refine (packed_walk n bn1 bn2 a0 cap ops W hs (by omega) (tz_of_laid hlaid)).mono fun e W' ⟨he, hg⟩ => ?_
  subst he
  have hlt : ∀ x ∈ p0 ++ p1, x.block < W.heap.size := fun x hx => by simpa using hW'.lt x (by simpa using hx)
  have hArg0 := Below.trod laidOut (by kernel_rfl) (of_decide_eq_true (by kernel_rfl)) h0k hg (fun x hx => hlt x (List.mem_append_left _ hx))
  have hArg1 := Below.trod laidOut (by kernel_rfl) (of_decide_eq_true (by kernel_rfl)) h1k hg (fun x hx => hlt x (List.mem_append_right _ hx))
  exact ⟨_, rfl, [d0, d1], [], p0 ++ p1, [], p0 ++ p1, [], hW', trodAll_cons_mk (shut_bool Tryd.underlying4 true) trodAll_mk0, (by have h1 := trodAll_cons_mk hArg0 (trodAll_cons_mk hArg1 trodAll_mk0); rw [List.append_nil] at h1; exact h1), rfl, hg.frame _, fun h => by cases h⟩

/-- a block that holds these bytes -/
def lay (xs : List Int) : Obj → Obj
  | .cells _ t frozen => .cells (xs.map (Value.int .u8)).toArray t frozen
  | o => o
def tab32 : List Int := [0, 1, 28, 2, 29, 14, 24, 3, 30, 22, 20, 15, 25, 17, 4, 8, 31, 27, 13, 23, 21, 19, 16, 7, 26, 12, 18, 6, 11, 5, 10, 9]
def tab64 : List Int := tzL
theorem laid_met (os : Os) : laidMet Tryd.prog Rows.packedRow.laid (({ World.holding Tryd.prog os ⟨#[], #[], []⟩ with heap := ((World.holding Tryd.prog os ⟨#[], #[], []⟩).heap.modify 0 (lay tab32)).modify 1 (lay tab64) } : World).forCall (fun _ _ => 0) ⟨#[], #[.int .i64 0, .slice none 0 0], []⟩).memory :=
  laidMet_of_run' 8 (by kernel_rfl) (by kernel_rfl)
theorem reads (os : Os) {H : Type} (enc : TypeId × Value → H) : ∃ places, DataW.whole enc Tryd.prog (({ World.holding Tryd.prog os ⟨#[], #[], []⟩ with heap := ((World.holding Tryd.prog os ⟨#[], #[], []⟩).heap.modify 0 (lay tab32)).modify 1 (lay tab64) } : World).forCall (fun _ _ => 0) ⟨#[], #[.int .i64 0, .slice none 0 0], []⟩).memory Tryd.f7.params.toList Rows.packedSpec.vars false #[.int .i64 0, Value.slice none 0 0].toList 8 = some ([.lit (.int .i64 0), .nil], [], places) :=
  ⟨[], by kernel_rfl⟩
set_option maxRecDepth 100000 in
theorem lifted (os : Os) (started : os.Started) (H : Type) (enc : TypeId × Value → H) (F : Stop.Interp) :
    ReturnsInHanded {} Tryd.checked os 7 .any ((OpenSpec.ofChange Rows.packedSpec).preRow enc Tryd.prog Tryd.f7 Rows.packedRow.domain false Rows.packedRow.laid) (((OpenSpec.ofChange Rows.packedSpec).at F).post enc Tryd.prog Tryd.f7 false true false false) := by
  obtain ⟨places, hx⟩ := reads os enc
  refine returnsInHanded_of_row (C := Tryd.checked) (s := OpenSpec.ofChange Rows.packedSpec) own started (by kernel_rfl) Tryd.func7
    (witness_row_at (enc := enc) (C := Tryd.checked) false ({ World.holding Tryd.prog os ⟨#[], #[], []⟩ with heap := ((World.holding Tryd.prog os ⟨#[], #[], []⟩).heap.modify 0 (lay tab32)).modify 1 (lay tab64) } : World) #[.int .i64 0, .slice none 0 0] rfl (by kernel_rfl) (by kernel_rfl) (by kernel_rfl)
      (OpenSpec.preRow_of_cond 8 hx (by kernel_rfl) (fun k hk => by cases hk) (by kernel_rfl) (laid_met os))) ?_
  intro W base args ds gs before hval hW _ _ hsz hlaid _ _
  exact contract H enc W base args ds gs before hval hW hsz hlaid
theorem said : Rows.PackedSaid :=
  OpenClaim.holds_of_cond 7 Tryd.f7 rfl rfl rfl rfl rfl rfl rfl ⟨rfl, rfl, rfl, rfl, rfl⟩ rfl rfl rfl rfl rfl (by kernel_rfl) Tryd.func7 (by kernel_rfl)
    (of_decide_eq_true (by kernel_rfl)) (by unfold Func.isWrapper; first | (rw [if_pos (by decide +kernel)]; kernel_rfl) | (rw [if_neg (by decide +kernel)]; exact ⟨rfl, rfl⟩))
    (fun os started H enc _ F => by rw [OpenClaim.pre_eq_preRow]; exact lifted os started H enc F)
theorem plain (f : FuncId) (fn : Func) (hf : Tryd.pinned.checked.prog.funcNamed Rows.packedRow.func = some f) (hfn : Tryd.pinned.checked.prog.funcs[f]? = some fn) :
    true = Tryd.pinned.checked.prog.looks [] ∧ ∀ (j : Nat) t, fn.params[j]? = some t → Tryd.pinned.checked.prog.wantsStandIn t = false := by
  obtain rfl : f = 7 := Option.some.inj ((show Tryd.prog.funcNamed Rows.packedRow.func = some 7 by kernel_rfl).symm.trans hf) |>.symm
  obtain rfl : fn = Tryd.f7 := (Option.some.inj (Tryd.func7.symm.trans hfn)).symm
  refine ⟨by kernel_rfl, fun j t ht => ?_⟩
  rw [Tryd.params7] at ht
  have ht' := Array.mem_of_getElem? ht
  simp only [List.mem_toArray, List.mem_cons, List.not_mem_nil, or_false] at ht'
  rcases ht' with rfl | rfl
  · exact (show Tryd.prog.wantsStandIn 3 = false by kernel_rfl)
  · exact (show Tryd.prog.wantsStandIn 22 = false by kernel_rfl)
end Go.Proofs.YtnapboelfimaaaaDoor.packed

namespace Go.Proofs.YtnapboelfimaaaaDoor
/-- THE CARD -/
theorem packed_card : Rows.PackedCardSaid :=
  Claim7.holds_tied_plain_at .later [] _ _ _ _ packed.said (fun _ h => by cases h) (by kernel_rfl) (fun _ h => by cases h) packed_row_tie rfl ⟨rfl, rfl⟩ (by kernel_rfl) rfl packed.plain (by kernel_rfl)
end Go.Proofs.YtnapboelfimaaaaDoor
