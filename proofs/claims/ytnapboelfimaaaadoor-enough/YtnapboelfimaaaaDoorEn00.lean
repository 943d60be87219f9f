/- Proved: there is room for a route wherever there must be, and what is refused changes nothing (statement Enough), for every number and every list of operations. This text: KeeF, LEn, EnoughP: parts of the proof, one behind the other. -/
import Derived.Test.YtnapboelfimaaaaDoorK40
/- More of what stays; what an operation that is refused changes: nothing. -/
namespace Go.Proofs.YtnapboelfimaaaaDoor
open Go.RowKit Go.Deep
/-- rows of routes stay, whatever is done -/
theorem FB.moved.owns {b b' : FB} {w w' : World} {A B : Ar} {base size n : Nat} {v : Value} {xs : List Value} (h : b.moved b' w w' B) (hl : b.lies w A) (ho : w.ownsRow base 47 size v n xs) : w'.ownsRow base 47 size v n xs := by
  refine ⟨ho.1, ?_⟩
  rcases ho.2 with h0 | ⟨g, cap, cur, rfl, hbg, hgg, rest⟩
  · exact .inl h0
  · exact .inr ⟨g, cap, cur, rfl, hbg, h.keep hl hgg (by decide) (by decide) (by decide), rest⟩
theorem next_same {M : Bool → Tab} {o : OpD} (h : mErr M o ≠ 0 ∨ o.code = 3 ∨ o.code = 4) : mNext M o = M := by
  unfold mNext
  by_cases hf : opFault o = 0
  · rw [if_pos hf]
    unfold mErr at h
    rw [if_pos hf] at h
    rcases fault_code hf with hc | hc | hc | hc
    · rw [if_neg (by omega), if_neg (by omega)] at h
      omega
    · rw [if_neg (by omega), if_pos hc]
      rw [if_pos hc] at h
      cases hm : M (fam o.family) o.l o.v with
      | none => exact updM_id hm
      | some x =>
        rw [hm] at h
        simp at h
        omega
    · rw [if_neg (by omega), if_neg (by omega)]
    · rw [if_neg (by omega), if_neg (by omega)]
  · rw [if_neg hf]
/-- what is refused, a lookup, a Compact: the tables stay -/
theorem step_same {S : St} (h : S.ok) {o : OpD} (hc : (S.step o).2.err ≠ 0 ∨ o.code = 3 ∨ o.code = 4) : (S.step o).1.M = S.M := by
  by_cases h8 : (S.step o).2.err = 8
  · rw [(step_full h h8).2.1]
  · obtain ⟨m1, m2, _⟩ := step_m h h8
    rw [m1]
    rw [m2] at hc
    exact next_same hc
theorem tell_count (S : St) : (tellL S 4).length + (tellL S 6).length = count2 S.M := by
  unfold tellL count2
  rw [List.length_map, List.length_map, show fam 4 = false by decide, show fam 6 = true by decide]
theorem same_x (l : List RouteD) (n b1 b2 : Nat) (v1 v2 : Value) (w : World) (hn : n = l.length) (h1 : w.ownsRow b1 47 3 v1 n (flatR l)) (h2 : w.ownsRow b2 47 3 v2 n (flatR l)) (hl : n ≤ 4194304) :
    Calls Tryd.prog 16 #[v1, v2] w fun e w' => e = .returned (.bool true) ∧ Below w.heap.size w w' := by
  subst hn
  exact same_any l b1 b2 v1 v2 w h1 h2 hl
/-- two Fibs side by side, and what they hold -/
structure Duo (w0 : World) (b c : FB) (R G : St) (w : World) : Prop where
  lb : b.lies w R.A
  lc : c.lies w G.A
  ap : b.apart c
  gb : b.ge w0.heap.size
  gc : c.ge w0.heap.size
  bw : Below w0.heap.size w0 w
  okR : R.ok
  okG : G.ok
theorem Duo.ext {w0 : World} {b c : FB} {R G : St} {w w' : World} (h : Duo w0 b c R G w) (hb : Below w.heap.size w w') : Duo w0 b c R G w' := ⟨h.lb.ext hb, h.lc.ext hb, h.ap, h.gb, h.gc, ext_trans h.bw hb, h.okR, h.okG⟩
theorem Duo.left {w0 : World} {b b' c : FB} {R G T : St} {w w' : World} (h : Duo w0 b c R G w) (hm : b.moved b' w w' T.A) (hT : T.ok) : Duo w0 b' c T G w' :=
  ⟨hm.lies, hm.other h.lc h.ap, hm.apart c _ h.lc h.ap, hm.ge _ h.gb h.bw.size, h.gc, h.bw.trans (hm.below h.gb h.bw.size), hT, h.okG⟩
theorem Duo.right {w0 : World} {b c c' : FB} {R G T : St} {w w' : World} (h : Duo w0 b c R G w) (hm : c.moved c' w w' T.A) (hT : T.ok) : Duo w0 b c' R T w' :=
  ⟨hm.other h.lb h.ap.symm, hm.lies, (hm.apart b _ h.lb h.ap.symm).symm, h.gb, hm.ge _ h.gc h.bw.size, h.bw.trans (hm.below h.gc h.bw.size), h.okR, hT⟩
/-- one operation of the argument, in whatever world -/
theorem OpsOn.cell {w w' : World} {b off : Nat} {ops : List OpD} {i : Nat} {o : OpD} (h : OpsOn w (some ⟨b, off, none⟩) ops) (hb : Below w.heap.size w w') (ho : ops[i]? = some o) : b < w'.heap.size ∧ w'.cell? ⟨b, off + i * 5, none⟩ = some (.int .i64 o.code) ∧ w'.cell? ⟨b, off + i * 5 + 1, none⟩ = some (.int .i64 o.family) ∧ w'.cell? ⟨b, off + i * 5 + 2, none⟩ = some (.string o.bits) ∧ w'.cell? ⟨b, off + i * 5 + 3, none⟩ = some (.int .i64 o.len) ∧ w'.cell? ⟨b, off + i * 5 + 4, none⟩ = some (.int .i64 o.hop) := by
  obtain ⟨b', off', o', e1, e2, _, _, hl, r⟩ := h.at hb (List.getElem?_eq_some_iff.1 ho).1
  simp only [Option.some.injEq, Addr.mk.injEq, and_true] at e1
  obtain ⟨rfl, rfl⟩ := e1
  rw [ho] at e2
  cases e2
  exact ⟨hl, r⟩
/-- one, where the Fib is known by its first block alone -/
theorem one_x (S T : St) (o : OpD) (a : Ans) (b : FB) (fb : Nat) (w : World) (h : b.lies w S.A) (hS : S.ok) (hok : o.ok) (hfb : b.fb = fb) (hT : T = (S.step o).1) (ha : a = (S.step o).2) :
    Calls Tryd.prog 14 #[.pointer (some ⟨fb, 0, none⟩), .agg #[.int .i64 o.code, .int .i64 o.family, .string o.bits, .int .i64 o.len, .int .i64 o.hop]] w fun e w' => e = .returned (.tuple #[.agg #[.int .i64 a.err, .int .i64 a.hop, .int .i64 a.reads], .bool true]) ∧ ∃ b', b'.fb = fb ∧ b.moved b' w w' T.A ∧ T.ok := by
  subst hfb hT ha
  refine (one_any S o b w h hS hok).mono ?_
  rintro e w' ⟨rfl, b', hm⟩
  exact ⟨rfl, b', hm.fb, hm, (step_ok hS o).1⟩
theorem dumps_x (S T : St) (hS : S.ok) (hT : T.ok) (b c : FB) (fb gb : Nat) (w : World) (hb : b.lies w S.A) (hc : c.lies w T.A) (hM : S.M = T.M) (hZ : TzTab w) (h1 : b.fb = fb) (h2 : c.fb = gb) :
    Calls Tryd.prog 18 #[.pointer (some ⟨fb, 0, none⟩), .pointer (some ⟨gb, 0, none⟩)] w fun e w' => e = .returned (.bool true) ∧ Below w.heap.size w w' := by
  subst h1 h2
  exact dumps_any S T hS hT b c w hb hc hM hZ
end Go.Proofs.YtnapboelfimaaaaDoor
/- The law Enough, walked. -/
namespace Go.Proofs.YtnapboelfimaaaaDoor
open Go.RowKit Go.Deep
set_option maxHeartbeats 4000000 in
set_option maxRecDepth 10000 in
theorem enough_walk (n : Int) (h1 : -9223372036854775808 ≤ n) (h2 : n ≤ 9223372036854775807) (ao : Option Addr) (cap : Nat) (ops : List OpD) (w : World) (hO : OpsOn w ao ops) (hlen : ops.length ≤ 2932031007402) (hZ : TzTab w) :
    Calls Tryd.prog 6 #[.int .i64 n, .slice ao ops.length cap] w fun e w' => e = .returned (.bool true) ∧ Below w.heap.size w w' := by
  obtain ⟨N, hN⟩ : ∃ N, N = wordsN n := ⟨_, rfl⟩
  have hNi := wordsN_in n
  have HWO := hide (fun w => words_any n w h1 h2)
  rw [← hN] at hNi HWO
  clear hN
  have hS : (St.new N).ok := new_ok hNi.1 hNi.2
  obtain ⟨S, hSd⟩ : ∃ S, S = St.new N := ⟨_, rfl⟩
  have HSD := hide hSd
  have HSZ := hide (show S.A.size = N by rw [hSd]; rfl)
  rw [← hSd] at hS
  clear hSd
  have HO := hide hO
  have HZ := hide hZ
  have HS := hide hS
  obtain ⟨m, hm⟩ : ∃ m, m = ops.length := ⟨_, rfl⟩
  have HM := hide hm
  rw [← hm] at hlen ⊢
  clear hO hZ hS hm
  go_enter Tryd.func6, Tryd.ntmps6
  go_wp2_with fail
  refine (known_any w HZ.out).mono ?_
  rintro e w1 ⟨rfl, hb1⟩
  have B1 := hide hb1
  clear hb1
  go_wp2_with fail
  refine (HWO.out _).mono ?_
  rintro e w1' ⟨rfl, rfl⟩
  go_wp2_with fail
  refine (fib_x _ N _ rfl hNi.1 hNi.2).mono ?_
  rintro e w2 ⟨rfl, hb2, hl2⟩
  have L2 := hide hl2
  have B2 := hide (ext_trans B1.out hb2)
  have G2 := hide ((newB_ge w1').mono B1.out.size)
  obtain ⟨b, hb⟩ : ∃ b, b = newB w1' := ⟨_, rfl⟩
  rw [← hb] at L2 G2 ⊢
  rw [← HSD.out] at L2
  clear hb2 hl2 hb
  go_wp2_with fail
  go_loopw [8] (fun v wr => ∃ (i : Nat) (b' : FB), v = .int .i64 (i : Int) ∧ i ≤ m ∧ b'.fb = b.fb ∧ b'.lies wr (S.run (ops.take i)).1.A ∧ b'.ge w.heap.size ∧ Below w.heap.size w wr) (fun v _ => m - (intOf v).toNat)
  case atStart => exact ⟨0, b, rfl, Nat.zero_le _, rfl, by rw [List.take_zero]; exact L2.out, G2.out, B2.out⟩
  case round =>
    obtain ⟨i, b', rfl, hi, hbf, hlb, hge, hbw⟩ := hrel
    by_cases hin : i < m
    · have hil : i < ops.length := by rw [← HM.out]; exact hin
      obtain ⟨ob, off, o, rfl, ho, hok, hl0, _⟩ := HO.out.at hbw hil
      obtain ⟨R, hR⟩ : ∃ R, R = (S.run (ops.take i)).1 := ⟨_, rfl⟩
      have hRok := (run_ok HS.out (ops.take i)).1
      have hRs := (run_ok HS.out (ops.take i)).2.1
      have hnx := run_next (S := S) ho
      rw [← hR] at hlb hRok hRs hnx
      rw [HSZ.out] at hRs
      obtain ⟨T, hT⟩ : ∃ T, T = (R.step o).1 := ⟨_, rfl⟩
      obtain ⟨a, ha⟩ : ∃ a, a = (R.step o).2 := ⟨_, rfl⟩
      have hTok := (step_ok hRok o).1
      have hsame := fun h => step_same hRok (o := o) h
      have hfull := fun h => step_full hRok (o := o) h
      rw [← hT] at hTok hsame hnx
      rw [← ha] at hsame hfull
      have HNX := hide hnx
      have HR := hide hRok
      have HT := hide hTok
      have HSA := hide hsame
      have HFU := hide hfull
      have HRS := hide hRs
      have HON := hide (fun (w : World) (hl : b'.lies w R.A) => one_any R o b' w hl hRok hok)
      rw [← hT, ← ha] at HON
      have HI := hide (And.intro hlb (And.intro hge hbw))
      have HOI := hide (fun (w' : World) (hb : Below w.heap.size w w') => HO.out.at hb hil)
      have HOO := hide ho
      clear hlb hge hbw hRok hRs hnx hT ha hR hTok hsame hfull ho
      have HDU := hide (fun (w : World) (hl : b'.lies w R.A) (hz : TzTab w) (x f : Int) (hx : x = f) (hf : famBytes f ≠ 0) => dump_any R HR.out b' w hl hz x f hx hf)
      rw [hbf] at HDU HON
      have HBF := hide hbf
      clear hbf
      go_wp2_with fail
      refine (HDU.out wr HI.out.1 (HZ.out.ext HI.out.2.2) _ 4 rfl (by decide)).mono ?_
      rintro e w3 ⟨v1, rfl, o1, e1⟩
      have O3 := hide o1
      have B3 := hide (ext_trans HI.out.2.2 e1)
      have L3 := hide (HI.out.1.ext e1)
      clear o1 e1
      go_wp2_with fail
      refine (HDU.out w3 L3.out (HZ.out.ext B3.out) _ 6 rfl (by decide)).mono ?_
      rintro e w4 ⟨v2, rfl, o2, e2⟩
      have O4 := hide (And.intro (owns_ext O3.out e2) o2)
      have B4 := hide (ext_trans B3.out e2)
      have L4 := hide (L3.out.ext e2)
      clear o2 e2
      obtain ⟨ob', off', o', he', ho', _, _, hl4, d0, d1, d2, d3, d4⟩ := HOI.out w4 B4.out
      simp only [Option.some.injEq, Addr.mk.injEq, and_true] at he'
      obtain ⟨rfl, rfl⟩ := he'
      rw [HOO.out] at ho'
      cases ho'
      have HON4 := hide (HON.out w4 L4.out)
      simp only [OpD.arr, Ans.val] at HON4
      go_wp2_with fail
      refine HON4.out.mono ?_
      rintro e w5 ⟨rfl, b5, hm5⟩
      have hf5 : b5.fb = b.fb := hm5.fb.trans HBF.out
      have HDT := hide (fun (w : World) (hl : b5.lies w T.A) (hz : TzTab w) (x f : Int) (hx : x = f) (hf : famBytes f ≠ 0) => dump_any T HT.out b5 w hl hz x f hx hf)
      rw [hf5] at HDT
      have HF5 := hide hf5
      obtain ⟨w6, hw6⟩ : ∃ w6, w6 = w5.alloc (.cells #[.int .i64 a.err, .int .i64 a.hop, .int .i64 a.reads] 33) := ⟨_, rfl⟩
      have hb6 : Below w5.heap.size w5 w6 := by rw [hw6]; exact ext_alloc _ _
      have bz : w6.heap[w5.heap.size]? = some (.cells #[.int .i64 a.err, .int .i64 a.hop, .int .i64 a.reads] 33 (0, 0)) := by rw [hw6]; exact heap_alloc_new _ _
      obtain ⟨z0, _, _⟩ := cells3 bz
      have hlz := lt_of_block bz
      have hB6 : Below w.heap.size w w6 := ext_trans (B4.out.trans (hm5.below HI.out.2.1 B4.out.size)) hb6
      have HE := hide (And.intro (hm5.lies.ext hb6) (And.intro hB6 (And.intro (owns_ext (hm5.owns L4.out O4.out.1) hb6) (owns_ext (hm5.owns L4.out O4.out.2) hb6))))
      have G9 := hide (hm5.ge _ HI.out.2.1 B4.out.size)
      obtain ⟨ob', off', o', he', ho', _, _, hl5, p0, _⟩ := HOI.out w5 (B4.out.trans (hm5.below HI.out.2.1 B4.out.size))
      simp only [Option.some.injEq, Addr.mk.injEq, and_true] at he'
      obtain ⟨rfl, rfl⟩ := he'
      rw [HOO.out] at ho'
      cases ho'
      obtain ⟨ob', off', o', he', ho', _, _, hl6, q0, _⟩ := HOI.out w6 hB6
      simp only [Option.some.injEq, Addr.mk.injEq, and_true] at he'
      obtain ⟨rfl, rfl⟩ := he'
      rw [HOO.out] at ho'
      cases ho'
      have HW6 := hide hw6
      clear hm5 hw6 hb6 bz hB6 d0 d1 d2 d3 d4 hf5 hl4
      obtain ⟨ca, cca, hca⟩ := owns_slice O4.out.1
      obtain ⟨cb, ccb, hcb⟩ := owns_slice O4.out.2
      subst hca hcb
      obtain ⟨la, hla⟩ : ∃ la, la = (tellL R 4).length := ⟨_, rfl⟩
      obtain ⟨lb, hlb⟩ : ∃ lb, lb = (tellL R 6).length := ⟨_, rfl⟩
      have hla' : la ≤ 67584 := by rw [hla]; exact tell_le HR.out 4
      have hlb' : lb ≤ 67584 := by rw [hlb]; exact tell_le HR.out 6
      have HLA := hide (And.intro hla hlb)
      rw [← hla, ← hlb] at HE
      rw [← hla, ← hlb]
      clear hla hlb
      by_cases he : a.err = 0
      · have ea0 : (a.err != 0) = false := by simpa using he
        have ea8 : (a.err == 8) = false := by rw [he]; rfl
        by_cases hc : o.code = 3
        · have HSM := hide (HSA.out (Or.inr (Or.inl hc)))
          have ec3 : (o.code == 3) = true := by simpa using hc
          clear he hc
          (go_wp2_with fail; rw [← HW6.out]; refine (HDT.out w6 HE.out.1 (HZ.out.ext HE.out.2.1) _ 4 rfl (by decide)).mono ?_; rintro e w7 ⟨v7, rfl, o7, e7⟩; have O7 := hide (And.intro (owns_ext HE.out.2.2.1 e7) (And.intro (owns_ext HE.out.2.2.2 e7) o7)); have B7 := hide (ext_trans HE.out.2.1 e7); have L7 := hide (HE.out.1.ext e7); clear o7; go_wp2_with fail; refine (HDT.out w7 L7.out (HZ.out.ext B7.out) _ 6 rfl (by decide)).mono ?_; rintro e w8 ⟨v8, rfl, o8, e8⟩; have O8 := hide (And.intro (owns_ext O7.out.1 e8) (And.intro (owns_ext O7.out.2.1 e8) (And.intro (owns_ext O7.out.2.2 e8) o8))); have B8 := hide (ext_trans B7.out e8); have L8 := hide (L7.out.ext e8); clear o8; go_wp2_with fail; refine (same_x (tellL R 4) la _ _ _ v7 w8 HLA.out.1 O8.out.1 (by have h := O8.out.2.2.1; rw [tell_same HSM.out, ← HLA.out.1] at h; exact h) (by omega)).mono ?_; rintro e wa ⟨rfl, ea⟩; have Oa := hide (And.intro (owns_ext O8.out.2.1 ea) (owns_ext O8.out.2.2.2 ea)); have Ba := hide (ext_trans B8.out ea); have La := hide (L8.out.ext ea); go_wp2_with fail; refine (same_x (tellL R 6) lb _ _ _ v8 wa HLA.out.2 Oa.out.1 (by have h := Oa.out.2; rw [tell_same HSM.out, ← HLA.out.2] at h; exact h) (by omega)).mono ?_; rintro e w9 ⟨rfl, e9⟩; have B9 := hide (ext_trans Ba.out e9); have L9 := hide (La.out.ext e9); replace z0 := cell_ext z0 (ext_trans e7 (ext_trans e8 (ext_trans ea e9))); replace q0 := cell_ext q0 (ext_trans e7 (ext_trans e8 (ext_trans ea e9))); have hz9 := Nat.lt_of_lt_of_le hlz (ext_trans e7 (ext_trans e8 (ext_trans ea e9))).size; have ho9 := Nat.lt_of_lt_of_le hl6 (ext_trans e7 (ext_trans e8 (ext_trans ea e9))).size; clear e7 e8 ea e9)
          go_wp2
          (exact ⟨⟨i + 1, b5, by simp, by omega, HF5.out, by rw [HNX.out]; exact L9.out, G9.out, B9.out⟩, by simp [intOf]; omega⟩)
        · have ec3 : (o.code == 3) = false := by simpa using hc
          by_cases hc4 : o.code = 4
          · have HSM := hide (HSA.out (Or.inr (Or.inr hc4)))
            have ec4 : (o.code == 4) = true := by simpa using hc4
            clear he hc hc4
            (go_wp2_with fail; rw [← HW6.out]; refine (HDT.out w6 HE.out.1 (HZ.out.ext HE.out.2.1) _ 4 rfl (by decide)).mono ?_; rintro e w7 ⟨v7, rfl, o7, e7⟩; have O7 := hide (And.intro (owns_ext HE.out.2.2.1 e7) (And.intro (owns_ext HE.out.2.2.2 e7) o7)); have B7 := hide (ext_trans HE.out.2.1 e7); have L7 := hide (HE.out.1.ext e7); clear o7; go_wp2_with fail; refine (HDT.out w7 L7.out (HZ.out.ext B7.out) _ 6 rfl (by decide)).mono ?_; rintro e w8 ⟨v8, rfl, o8, e8⟩; have O8 := hide (And.intro (owns_ext O7.out.1 e8) (And.intro (owns_ext O7.out.2.1 e8) (And.intro (owns_ext O7.out.2.2 e8) o8))); have B8 := hide (ext_trans B7.out e8); have L8 := hide (L7.out.ext e8); clear o8; go_wp2_with fail; refine (same_x (tellL R 4) la _ _ _ v7 w8 HLA.out.1 O8.out.1 (by have h := O8.out.2.2.1; rw [tell_same HSM.out, ← HLA.out.1] at h; exact h) (by omega)).mono ?_; rintro e wa ⟨rfl, ea⟩; have Oa := hide (And.intro (owns_ext O8.out.2.1 ea) (owns_ext O8.out.2.2.2 ea)); have Ba := hide (ext_trans B8.out ea); have La := hide (L8.out.ext ea); go_wp2_with fail; refine (same_x (tellL R 6) lb _ _ _ v8 wa HLA.out.2 Oa.out.1 (by have h := Oa.out.2; rw [tell_same HSM.out, ← HLA.out.2] at h; exact h) (by omega)).mono ?_; rintro e w9 ⟨rfl, e9⟩; have B9 := hide (ext_trans Ba.out e9); have L9 := hide (La.out.ext e9); replace z0 := cell_ext z0 (ext_trans e7 (ext_trans e8 (ext_trans ea e9))); replace q0 := cell_ext q0 (ext_trans e7 (ext_trans e8 (ext_trans ea e9))); have hz9 := Nat.lt_of_lt_of_le hlz (ext_trans e7 (ext_trans e8 (ext_trans ea e9))).size; have ho9 := Nat.lt_of_lt_of_le hl6 (ext_trans e7 (ext_trans e8 (ext_trans ea e9))).size; clear e7 e8 ea e9)
            go_wp2
            (exact ⟨⟨i + 1, b5, by simp, by omega, HF5.out, by rw [HNX.out]; exact L9.out, G9.out, B9.out⟩, by simp [intOf]; omega⟩)
          · have ec4 : (o.code == 4) = false := by simpa using hc4
            have L9 := hide HE.out.1
            have B9 := hide HE.out.2.1
            rw [HW6.out] at L9 B9
            clear he hc hc4
            go_wp2
            (exact ⟨⟨i + 1, b5, by simp, by omega, HF5.out, by rw [HNX.out]; exact L9.out, G9.out, B9.out⟩, by simp [intOf]; omega⟩)
      · have HSM := hide (HSA.out (Or.inl he))
        have ea0 : (a.err != 0) = true := by simpa using he
        by_cases h8 : a.err = 8
        · obtain ⟨f1, _, f3⟩ := HFU.out h8
          have hnot : ¬ (64 * ((la : Int) + lb + 1) + 1280 ≤ (N : Int)) := by
            have h1 := tell_count R
            rw [← HLA.out.1, ← HLA.out.2] at h1
            rw [HRS.out, ← h1] at f3
            omega
          have ea8 : (a.err == 8) = true := by simpa using h8
          have ec1 : (o.code != 1) = false := by simpa using f1
          clear he h8 f1 f3
          (go_wp2_with fail; rw [← HW6.out]; refine (HDT.out w6 HE.out.1 (HZ.out.ext HE.out.2.1) _ 4 rfl (by decide)).mono ?_; rintro e w7 ⟨v7, rfl, o7, e7⟩; have O7 := hide (And.intro (owns_ext HE.out.2.2.1 e7) (And.intro (owns_ext HE.out.2.2.2 e7) o7)); have B7 := hide (ext_trans HE.out.2.1 e7); have L7 := hide (HE.out.1.ext e7); clear o7; go_wp2_with fail; refine (HDT.out w7 L7.out (HZ.out.ext B7.out) _ 6 rfl (by decide)).mono ?_; rintro e w8 ⟨v8, rfl, o8, e8⟩; have O8 := hide (And.intro (owns_ext O7.out.1 e8) (And.intro (owns_ext O7.out.2.1 e8) (And.intro (owns_ext O7.out.2.2 e8) o8))); have B8 := hide (ext_trans B7.out e8); have L8 := hide (L7.out.ext e8); clear o8; go_wp2_with fail; refine (same_x (tellL R 4) la _ _ _ v7 w8 HLA.out.1 O8.out.1 (by have h := O8.out.2.2.1; rw [tell_same HSM.out, ← HLA.out.1] at h; exact h) (by omega)).mono ?_; rintro e wa ⟨rfl, ea⟩; have Oa := hide (And.intro (owns_ext O8.out.2.1 ea) (owns_ext O8.out.2.2.2 ea)); have Ba := hide (ext_trans B8.out ea); have La := hide (L8.out.ext ea); go_wp2_with fail; refine (same_x (tellL R 6) lb _ _ _ v8 wa HLA.out.2 Oa.out.1 (by have h := Oa.out.2; rw [tell_same HSM.out, ← HLA.out.2] at h; exact h) (by omega)).mono ?_; rintro e w9 ⟨rfl, e9⟩; have B9 := hide (ext_trans Ba.out e9); have L9 := hide (La.out.ext e9); replace z0 := cell_ext z0 (ext_trans e7 (ext_trans e8 (ext_trans ea e9))); replace q0 := cell_ext q0 (ext_trans e7 (ext_trans e8 (ext_trans ea e9))); have hz9 := Nat.lt_of_lt_of_le hlz (ext_trans e7 (ext_trans e8 (ext_trans ea e9))).size; have ho9 := Nat.lt_of_lt_of_le hl6 (ext_trans e7 (ext_trans e8 (ext_trans ea e9))).size; clear e7 e8 ea e9)
          go_wp2
          (exact ⟨⟨i + 1, b5, by simp, by omega, HF5.out, by rw [HNX.out]; exact L9.out, G9.out, B9.out⟩, by simp [intOf]; omega⟩)
        · have ea8 : (a.err == 8) = false := by simpa using h8
          clear he h8
          (go_wp2_with fail; rw [← HW6.out]; refine (HDT.out w6 HE.out.1 (HZ.out.ext HE.out.2.1) _ 4 rfl (by decide)).mono ?_; rintro e w7 ⟨v7, rfl, o7, e7⟩; have O7 := hide (And.intro (owns_ext HE.out.2.2.1 e7) (And.intro (owns_ext HE.out.2.2.2 e7) o7)); have B7 := hide (ext_trans HE.out.2.1 e7); have L7 := hide (HE.out.1.ext e7); clear o7; go_wp2_with fail; refine (HDT.out w7 L7.out (HZ.out.ext B7.out) _ 6 rfl (by decide)).mono ?_; rintro e w8 ⟨v8, rfl, o8, e8⟩; have O8 := hide (And.intro (owns_ext O7.out.1 e8) (And.intro (owns_ext O7.out.2.1 e8) (And.intro (owns_ext O7.out.2.2 e8) o8))); have B8 := hide (ext_trans B7.out e8); have L8 := hide (L7.out.ext e8); clear o8; go_wp2_with fail; refine (same_x (tellL R 4) la _ _ _ v7 w8 HLA.out.1 O8.out.1 (by have h := O8.out.2.2.1; rw [tell_same HSM.out, ← HLA.out.1] at h; exact h) (by omega)).mono ?_; rintro e wa ⟨rfl, ea⟩; have Oa := hide (And.intro (owns_ext O8.out.2.1 ea) (owns_ext O8.out.2.2.2 ea)); have Ba := hide (ext_trans B8.out ea); have La := hide (L8.out.ext ea); go_wp2_with fail; refine (same_x (tellL R 6) lb _ _ _ v8 wa HLA.out.2 Oa.out.1 (by have h := Oa.out.2; rw [tell_same HSM.out, ← HLA.out.2] at h; exact h) (by omega)).mono ?_; rintro e w9 ⟨rfl, e9⟩; have B9 := hide (ext_trans Ba.out e9); have L9 := hide (La.out.ext e9); replace z0 := cell_ext z0 (ext_trans e7 (ext_trans e8 (ext_trans ea e9))); replace q0 := cell_ext q0 (ext_trans e7 (ext_trans e8 (ext_trans ea e9))); have hz9 := Nat.lt_of_lt_of_le hlz (ext_trans e7 (ext_trans e8 (ext_trans ea e9))).size; have ho9 := Nat.lt_of_lt_of_le hl6 (ext_trans e7 (ext_trans e8 (ext_trans ea e9))).size; clear e7 e8 ea e9)
          go_wp2
          (exact ⟨⟨i + 1, b5, by simp, by omega, HF5.out, by rw [HNX.out]; exact L9.out, G9.out, B9.out⟩, by simp [intOf]; omega⟩)
    · obtain rfl : i = m := by omega
      have HB := hide hbw
      clear hlb hge hbw
      go_wp2
      go_ret
      exact ⟨rfl, HB.out⟩
end Go.Proofs.YtnapboelfimaaaaDoor
namespace Go.Proofs.YtnapboelfimaaaaDoor.enough
open Go.ChangeShapes Go.WideShapes Go.ChangeAt Go.RowKit Go.Deep
theorem laidOut : laidOutB Tryd.prog = true := by kernel_rfl
theorem own : ownKnob Tryd.prog.godebug = none := by kernel_rfl
set_option maxRecDepth 10000 in
theorem contract (H : Type) (enc : TypeId × Value → H) (W : World) (base : Nat) (args : Array Value) (ds gs : List (DataW H)) (before : List MemPlace)
    (hval : ∀ (j : Nat) t v, Tryd.f6.params[j]? = some t → args[j]? = some v → Value.okWide Tryd.prog W .any base t v)
    (hW : DataW.Whole enc Tryd.prog Tryd.f6.params.toList Rows.enoughSpec.vars false W args.toList ds gs before)
    (hsz : (DataW.weightsEach Tryd.prog (Tryd.f6.params.toList ++ Rows.enoughSpec.plain.varTypes Tryd.prog) (ds ++ gs)).all (· ≤ reachBytes) = true)
    (hlaid : laidMet Tryd.prog Rows.enoughRow.laid W) :
    Calls Tryd.prog 6 args W fun e W' => ∃ v, e = .returned v ∧ Rows.enoughSpec.post enc Tryd.prog Tryd.f6 false true false false W args v W' := by
  have hW' := hW
  obtain ⟨p, q, hA0, hV, rfl, hfz, hnd⟩ := hW
  have hA : DataW.TrodAll enc Tryd.prog W 0 (fun _ => true) true Tryd.f6.params.toList args.toList ds p := hA0
  rw [Tryd.params6] at hA hval hsz
  obtain ⟨v0, vs0, d0, ds0, p0, q0, hargs, rfl, rfl, h0, r0⟩ := trodAll_cons hA
  obtain ⟨v1, vs1, d1, ds1, p1, q1, hargs1, rfl, rfl, h1, r1⟩ := trodAll_cons r0
  obtain ⟨rfl, rfl, rfl⟩ := trodAll_nil r1
  obtain rfl : args = #[v0, v1] := by cases args; simp_all
  obtain ⟨rfl, rfl⟩ := trodVars_none hV
  obtain ⟨n, rfl⟩ := okWide_int Tryd.underlying3 (hval 0 3 v0 rfl rfl)
  obtain ⟨a0, len, cap, rfl⟩ := okWide_slice Tryd.underlying22 (hval 1 22 v1 rfl rfl)
  have h0k := h0
  have h1k := h1
  obtain ⟨fuel0, hf0⟩ := h0
  obtain ⟨n', en, _, bn⟩ := DataW.trod_int Tryd.underlying3 hf0
  simp [Value.cells] at en
  subst en
  obtain ⟨bn1, bn2⟩ := bounds_i64 bn
  obtain ⟨fuel1, hf1⟩ := h1
  obtain ⟨ops, ao, cap', e, hs, hn⟩ := open_ops hf1
  have hn' := hn (fun n hn => by
    have := List.all_eq_true.1 hsz n (DataW.weights_mem_each (j := 1) (t := 22) rfl rfl n hn)
    simpa using this)
  simp [Value.cells] at e
  obtain ⟨rfl, rfl, rfl⟩ := e
  clear hA0 hsz hn
  simp only [List.append_nil] at hW'
  refine (enough_walk n bn1 bn2 a0 cap ops W hs (by omega) (tz_of_laid hlaid)).mono fun e W' ⟨he, hg⟩ => ?_
  subst he
  have hlt : ∀ x ∈ p0 ++ p1, x.block < W.heap.size := fun x hx => by simpa using hW'.lt x (by simpa using hx)
  have hArg0 := Below.trod laidOut (by kernel_rfl) (of_decide_eq_true (by kernel_rfl)) h0k hg (fun x hx => hlt x (List.mem_append_left _ hx))
  have hArg1 := Below.trod laidOut (by kernel_rfl) (of_decide_eq_true (by kernel_rfl)) h1k hg (fun x hx => hlt x (List.mem_append_right _ hx))
  exact ⟨_, rfl, [d0, d1], [], p0 ++ p1, [], p0 ++ p1, [], hW', trodAll_cons_mk (shut_bool Tryd.underlying4 true) trodAll_mk0, (by have h1 := trodAll_cons_mk hArg0 (trodAll_cons_mk hArg1 trodAll_mk0); rw [List.append_nil] at h1; exact h1), rfl, hg.frame _, fun h => by cases h⟩

/-- a block that holds these bytes -/
def lay (xs : List Int) : Obj → Obj
  | .cells _ t frozen => .cells (xs.map (Value.int .u8)).toArray t frozen
  | o => o
def tab32 : List Int := [0, 1, 28, 2, 29, 14, 24, 3, 30, 22, 20, 15, 25, 17, 4, 8, 31, 27, 13, 23, 21, 19, 16, 7, 26, 12, 18, 6, 11, 5, 10, 9]
def tab64 : List Int := tzL
theorem laid_met (os : Os) : laidMet Tryd.prog Rows.enoughRow.laid (({ World.holding Tryd.prog os ⟨#[], #[], []⟩ with heap := ((World.holding Tryd.prog os ⟨#[], #[], []⟩).heap.modify 0 (lay tab32)).modify 1 (lay tab64) } : World).forCall (fun _ _ => 0) ⟨#[], #[.int .i64 0, .slice none 0 0], []⟩).memory :=
  laidMet_of_run' 8 (by kernel_rfl) (by kernel_rfl)
theorem reads (os : Os) {H : Type} (enc : TypeId × Value → H) : ∃ places, DataW.whole enc Tryd.prog (({ World.holding Tryd.prog os ⟨#[], #[], []⟩ with heap := ((World.holding Tryd.prog os ⟨#[], #[], []⟩).heap.modify 0 (lay tab32)).modify 1 (lay tab64) } : World).forCall (fun _ _ => 0) ⟨#[], #[.int .i64 0, .slice none 0 0], []⟩).memory Tryd.f6.params.toList Rows.enoughSpec.vars false #[.int .i64 0, Value.slice none 0 0].toList 8 = some ([.lit (.int .i64 0), .nil], [], places) :=
  ⟨[], by kernel_rfl⟩
set_option maxRecDepth 100000 in
theorem lifted (os : Os) (started : os.Started) (H : Type) (enc : TypeId × Value → H) (F : Stop.Interp) :
    ReturnsInHanded {} Tryd.checked os 6 .any ((OpenSpec.ofChange Rows.enoughSpec).preRow enc Tryd.prog Tryd.f6 Rows.enoughRow.domain false Rows.enoughRow.laid) (((OpenSpec.ofChange Rows.enoughSpec).at F).post enc Tryd.prog Tryd.f6 false true false false) := by
  obtain ⟨places, hx⟩ := reads os enc
  refine returnsInHanded_of_row (C := Tryd.checked) (s := OpenSpec.ofChange Rows.enoughSpec) own started (by kernel_rfl) Tryd.func6
    (witness_row_at (enc := enc) (C := Tryd.checked) false ({ World.holding Tryd.prog os ⟨#[], #[], []⟩ with heap := ((World.holding Tryd.prog os ⟨#[], #[], []⟩).heap.modify 0 (lay tab32)).modify 1 (lay tab64) } : World) #[.int .i64 0, .slice none 0 0] rfl (by kernel_rfl) (by kernel_rfl) (by kernel_rfl)
      (OpenSpec.preRow_of_cond 8 hx (by kernel_rfl) (fun k hk => by cases hk) (by kernel_rfl) (laid_met os))) ?_
  intro W base args ds gs before hval hW _ _ hsz hlaid _ _
  exact contract H enc W base args ds gs before hval hW hsz hlaid
theorem said : Rows.EnoughSaid :=
  OpenClaim.holds_of_cond 6 Tryd.f6 rfl rfl rfl rfl rfl rfl rfl ⟨rfl, rfl, rfl, rfl, rfl⟩ rfl rfl rfl rfl rfl (by kernel_rfl) Tryd.func6 (by kernel_rfl)
    (of_decide_eq_true (by kernel_rfl)) (by unfold Func.isWrapper; first | (rw [if_pos (by decide +kernel)]; kernel_rfl) | (rw [if_neg (by decide +kernel)]; exact ⟨rfl, rfl⟩))
    (fun os started H enc _ F => by rw [OpenClaim.pre_eq_preRow]; exact lifted os started H enc F)
theorem plain (f : FuncId) (fn : Func) (hf : Tryd.pinned.checked.prog.funcNamed Rows.enoughRow.func = some f) (hfn : Tryd.pinned.checked.prog.funcs[f]? = some fn) :
    true = Tryd.pinned.checked.prog.looks [] ∧ ∀ (j : Nat) t, fn.params[j]? = some t → Tryd.pinned.checked.prog.wantsStandIn t = false := by
  obtain rfl : f = 6 := Option.some.inj ((show Tryd.prog.funcNamed Rows.enoughRow.func = some 6 by kernel_rfl).symm.trans hf) |>.symm
  obtain rfl : fn = Tryd.f6 := (Option.some.inj (Tryd.func6.symm.trans hfn)).symm
  refine ⟨by kernel_rfl, fun j t ht => ?_⟩
  rw [Tryd.params6] at ht
  have ht' := Array.mem_of_getElem? ht
  simp only [List.mem_toArray, List.mem_cons, List.not_mem_nil, or_false] at ht'
  rcases ht' with rfl | rfl
  · exact (show Tryd.prog.wantsStandIn 3 = false by kernel_rfl)
  · exact (show Tryd.prog.wantsStandIn 22 = false by kernel_rfl)
end Go.Proofs.YtnapboelfimaaaaDoor.enough

namespace Go.Proofs.YtnapboelfimaaaaDoor
/-- THE CARD -/
theorem enough_card : Rows.EnoughCardSaid :=
  Claim7.holds_tied_plain_at .later [] _ _ _ _ enough.said (fun _ h => by cases h) (by kernel_rfl) (fun _ h => by cases h) enough_row_tie rfl ⟨rfl, rfl⟩ (by kernel_rfl) rfl enough.plain (by kernel_rfl)
end Go.Proofs.YtnapboelfimaaaaDoor
