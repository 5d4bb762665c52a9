/- What a cell is worth, the document's: any cell whose kinds fit; Worth. Written by genask.py. -/
import Derived.Test.YtafhgilikcablaaAwD
import Derived.Test.YtafhgilikcablaaCFit0
namespace Go.Proofs.Ytafhgilikcablaa
open Go.RowKit
set_option linter.unusedVariables false
set_option linter.unusedSimpArgs false
set_option maxRecDepth 100000
set_option maxHeartbeats 12800000 in
theorem ask_not (R : List (List Val)) (op : ByteArray) (p : CT) (ho : op.toList = [78, 79, 84]) (IHp : AskI R p) : AskI R (.mk 3 op 0 0 ⟨#[]⟩ 0 0 [p]) := by
  intro w Wb a len cap Q v hR hW hv
  obtain ⟨sa, sc, rfl, hrg, hel⟩ := hv
  obtain ⟨b, off, pa, pc, hsa, hbl, hat, hprg, hpl⟩ := hel.at (i := 0) (by simp [CT.parts])
  subst hsa
  have hat : CAt w b (off + 0 * 8) p pa pc := hat
  have hprg : CRg p pa pc := hprg
  have hpl : CL w Q pa p.parts := hpl
  rw [show off + 0 * 8 = off from rfl] at hat
  have HCvp := Lib.hid (show ∀ W, Below w.heap.size w W → CV W Q (.agg #[.int .i64 p.kind, .string p.op, .int .i64 p.vk, .int .i64 p.vn, .string p.vs, .int .i64 p.src, .int .i64 p.col, .slice pa p.parts.length pc]) p from fun W hW => ⟨pa, pc, rfl, hprg, hpl.keep hW⟩)
  have HAtp := Lib.hid (show ∀ W, Below w.heap.size w W → CAt W b (off) p pa pc from fun W hW => hat.below hbl hW)
  have HIHp := Lib.hid IHp
  have HBl := Lib.hid hbl
  have HR := Lib.hid hR
  have HWo := Lib.hid hW
  have hWl := (Array.getElem?_eq_some_iff.1 hW).1
  have HWl := Lib.hid hWl
  have e0 : (ctX (.mk 3 op 0 0 ⟨#[]⟩ 0 0 [p]) (some ⟨b, off, none⟩) sc).toArray = #[.int .i64 3, .string op, .int .i64 0, .int .i64 0, .string ⟨#[]⟩, .int .i64 0, .int .i64 0, .slice (some ⟨b, off, none⟩) 1 sc] := rfl
  rw [e0]
  obtain ⟨yp, hyp⟩ : ∃ y, y = askV R p := ⟨_, rfl⟩
  have HYp := Lib.hid hyp
  have HAq := Lib.hid (show askV R (.mk 3 op 0 0 ⟨#[]⟩ 0 0 [p]) = askH R 3 op (0, 0, ⟨#[]⟩) 0 0 [yp] by rw [hyp]; rfl)
  have HB := Lib.hid (bel0 (.cells #[.int .i64 0, .int .i64 0, .string ⟨#[]⟩] 38) (bel0 (.cells #[.int .i64 3, .string op, .int .i64 0, .int .i64 0, .string ⟨#[]⟩, .int .i64 0, .int .i64 0, .slice (some ⟨b, off, none⟩) 1 sc] 56) (Below.refl w.heap.size w)))
  have HBX := Lib.hid (boxes2 w (.cells #[.int .i64 3, .string op, .int .i64 0, .int .i64 0, .string ⟨#[]⟩, .int .i64 0, .int .i64 0, .slice (some ⟨b, off, none⟩) 1 sc] 56 (0, 0)) (.cells #[.int .i64 0, .int .i64 0, .string ⟨#[]⟩] 38 (0, 0)))
  clear hR hW hrg hel e0 IHp hyp hat hprg hpl hbl hWl
  go_enter Try.func71, Try.ntmps71
  go_upto_region 1 with (fail)
  generalize ((w.alloc (.cells #[.int .i64 3, .string op, .int .i64 0, .int .i64 0, .string ⟨#[]⟩, .int .i64 0, .int .i64 0, .slice (some ⟨b, off, none⟩) 1 sc] 56)).alloc (.cells #[.int .i64 0, .int .i64 0, .string ⟨#[]⟩] 38)) = w1 at *
  have HC := Lib.hid (show ∀ W : World, Below w1.heap.size w1 W → W.heap[w.heap.size]? = some (.cells #[.int .i64 3, .string op, .int .i64 0, .int .i64 0, .string ⟨#[]⟩, .int .i64 0, .int .i64 0, .slice (some ⟨b, off, none⟩) 1 sc] 56 (0, 0)) ∧ W.heap[w.heap.size + 1]? = some (.cells #[.int .i64 0, .int .i64 0, .string ⟨#[]⟩] 38 (0, 0)) ∧ W.heap[Wb]? = some (.cells #[.slice a len cap, .slice none 0 0, .slice none 0 0, .slice none 0 0, .bool false] 134 (0, 0)) ∧ w.heap.size + 1 < W.heap.size ∧ w.heap.size < W.heap.size from fun W h => by
    obtain ⟨⟨h0, h1⟩, hz⟩ := HBX.out
    have k2 := (h.block (w.heap.size + 1) (by omega)).trans h1
    have := HWl.out
    exact ⟨(h.block w.heap.size (by omega)).trans h0, k2, (h.block Wb (by omega)).trans ((HB.out.block Wb this).trans HWo.out), (Array.getElem?_eq_some_iff.1 k2).1, by have := (Array.getElem?_eq_some_iff.1 k2).1; omega⟩)
  obtain ⟨hE, -, hWy, c6, c5⟩ := HC.out w1 (Below.refl _ _)
  obtain ⟨q0, q4, q5⟩ := worthy5 hWy
  clear hE hWy
  go_upto_region 9 with (fail)
  have HN8 := Lib.hid (Go.heap_alloc_new w1 (.cells #[.int .i64 0, .int .i64 0, .string ⟨#[]⟩] 38 (0, 0)))
  have HB12 := Lib.hid (show Below w1.heap.size w1 (w1.alloc (.cells #[.int .i64 0, .int .i64 0, .string ⟨#[]⟩] 38)) from bel0 _ (Below.refl _ _))
  generalize (w1.alloc (.cells #[.int .i64 0, .int .i64 0, .string ⟨#[]⟩] 38)) = w2 at *
  have HBw2 := Lib.hid (bt HB.out HB12.out)
  obtain ⟨hE, -, -, c6, c5⟩ := HC.out w2 HB12.out
  obtain ⟨e0, e1, e2, e3, e4, e5, e6, e7⟩ := cellsE hE
  obtain ⟨a0, a1, a2, a3, a4, a5, a6, a7⟩ := HAtp.out w2 HBw2.out
  have hbw : b < w2.heap.size := Nat.lt_of_lt_of_le HBl.out HBw2.out.size
  clear hE q0 q4 q5
  go_wp2_with fail
  refine (HIHp.out _ Wb a len cap Q _ (HR.out.below HBw2.out) (HC.out w2 HB12.out).2.2.1 (HCvp.out w2 HBw2.out)).mono ?_
  rintro e' w3 ⟨rfl, hb3⟩
  rw [← HYp.out]
  have HB23 := Lib.hid (show Below w2.heap.size w2 w3 from hb3)
  clear hb3 e0 e1 e2 e3 e4 e5 e6 e7 a0 a1 a2 a3 a4 a5 a6 a7 c6 c5 hbw
  go_upto_region 18 with (fail)
  have HN11 := Lib.hid (Go.heap_alloc_new w3 (.cells #[.int .i64 yp.1.1, .int .i64 yp.1.2.1, .string yp.1.2.2] 38 (0, 0)))
  have HB34 := Lib.hid (show Below w3.heap.size w3 (w3.alloc (.cells #[.int .i64 yp.1.1, .int .i64 yp.1.2.1, .string yp.1.2.2] 38)) from bel0 _ (Below.refl _ _))
  generalize (w3.alloc (.cells #[.int .i64 yp.1.1, .int .i64 yp.1.2.1, .string yp.1.2.2] 38)) = w4 at *
  have HB24 := Lib.hid (bt HB23.out HB34.out)
  have HB14 := Lib.hid (bt HB12.out HB24.out)
  have HBw4 := Lib.hid (bt HB.out HB14.out)
  have HN8b := Lib.hid ((HB24.out.block _ (Array.getElem?_eq_some_iff.1 HN8.out).1).trans HN8.out)
  obtain ⟨n0, n1, n2, -, -, -, n6⟩ := v3 HN8b.out
  obtain ⟨m0, m1, m2, -, -, -, m6⟩ := v3 HN11.out
  obtain ⟨hE, hX, -, c6, c5⟩ := HC.out w4 HB14.out
  obtain ⟨e0, e1, e2, e3, e4, e5, e6, e7⟩ := cellsE hE
  clear hE
  by_cases hz : yp.2.2 = 0
  rotate_left
  · have hne : (yp.2.2 != 0) = true := by simp [hz]
    have HQ := Lib.hid (show askV R (.mk 3 op 0 0 ⟨#[]⟩ 0 0 [p]) = (noV, 0, yp.2.2) by rw [HAq.out]; unfold askH; rw [if_neg (by decide), if_neg (by decide), if_pos (show ((yp :: _ : List Wo).getD 0 noW).2.2 ≠ 0 from hz)]; rfl)
    have HX9 := Lib.hid (vbox3 hX (.int .i64 0) (.int .i64 0) (.string ⟨#[]⟩))
    have HB9 := Lib.hid (v3_below (K := w.heap.size) (N := w.heap.size + 1) (by omega) HBw4.out (.int .i64 0) (.int .i64 0) (.string ⟨#[]⟩))
    obtain ⟨b0, b1, b2, b3, b4, b5, b6⟩ := v3 hX
    clear hX
    go_wp2
    refine bodyPost_ret (results_v3 rfl _ _ (w.heap.size + 1) _ _ _ rfl HX9.out) rfl ?_
    rw [HQ.out]
    exact ⟨rfl, HB9.out⟩
  have ho1 : (op.toList == [78, 79, 84]) = true := by simp [ho]
  clear HN8 HN11 HN8b
  go_upto_region 21 with (fail)
  have j0 := Fut.cell n0
  have j1 := Fut.cell n1
  have j2 := Fut.cell n2
  clear n0 n1 n2 m0 m1 m2 e0 e1 e2 e3 e4 e5 e6 e7
  refine wp_region_fut_tail 3 (by kernel_rfl) (by kernel_rfl) ?_
  simp only [List.take_succ_cons, List.take_zero, List.drop_succ_cons, List.drop_zero]
  repeat (go_big_quiet_step ((go_at_call 110; exact calls_fut ((rnot_any _ _).mono (fun _ _ ⟨h1, h2⟩ => ⟨h1, h2 ▸ Below.refl _ _⟩)))))
  refine wpQuiet_nil ?_
  intro s
  have hb6 := s.bel
  generalize s.to = w6 at *
  clear s j0 j1 j2
  have HBw6 := Lib.hid (bt HBw4.out hb6)
  have HQ := Lib.hid (show askV R (.mk 3 op 0 0 ⟨#[]⟩ 0 0 [p]) = (noV, notI yp.2.1, 0) by rw [HAq.out]; unfold askH; rw [if_neg (by decide), if_neg (by decide), if_neg (show ¬ (([yp] : List Wo).getD 0 noW).2.2 ≠ 0 from fun h => h hz), if_pos rfl, if_pos ho]; rfl)
  have hX := (hb6.block _ c6).trans hX
  have HX9 := Lib.hid (vbox3 hX (.int .i64 0) (.int .i64 0) (.string ⟨#[]⟩))
  have HB9 := Lib.hid (v3_below (K := w.heap.size) (N := w.heap.size + 1) (by omega) HBw6.out (.int .i64 0) (.int .i64 0) (.string ⟨#[]⟩))
  obtain ⟨b0, b1, b2, b3, b4, b5, b6⟩ := v3 hX
  clear hX
  go_wp2
  refine bodyPost_ret (results_v3 rfl _ _ (w.heap.size + 1) _ _ _ rfl HX9.out) rfl ?_
  rw [HQ.out]
  exact ⟨rfl, HB9.out⟩
end Go.Proofs.Ytafhgilikcablaa
namespace Go.Proofs.Ytafhgilikcablaa
open Go.RowKit
set_option linter.unusedVariables false
set_option linter.unusedSimpArgs false
set_option maxRecDepth 100000
set_option maxHeartbeats 12800000 in
theorem ask_neg (R : List (List Val)) (op : ByteArray) (p : CT) (ho : op.toList = [45]) (hin : InR (askV R p).1.2.1) (IHp : AskI R p) : AskI R (.mk 3 op 0 0 ⟨#[]⟩ 0 0 [p]) := by
  intro w Wb a len cap Q v hR hW hv
  obtain ⟨sa, sc, rfl, hrg, hel⟩ := hv
  obtain ⟨b, off, pa, pc, hsa, hbl, hat, hprg, hpl⟩ := hel.at (i := 0) (by simp [CT.parts])
  subst hsa
  have hat : CAt w b (off + 0 * 8) p pa pc := hat
  have hprg : CRg p pa pc := hprg
  have hpl : CL w Q pa p.parts := hpl
  rw [show off + 0 * 8 = off from rfl] at hat
  have HCvp := Lib.hid (show ∀ W, Below w.heap.size w W → CV W Q (.agg #[.int .i64 p.kind, .string p.op, .int .i64 p.vk, .int .i64 p.vn, .string p.vs, .int .i64 p.src, .int .i64 p.col, .slice pa p.parts.length pc]) p from fun W hW => ⟨pa, pc, rfl, hprg, hpl.keep hW⟩)
  have HAtp := Lib.hid (show ∀ W, Below w.heap.size w W → CAt W b (off) p pa pc from fun W hW => hat.below hbl hW)
  have HIHp := Lib.hid IHp
  have HBl := Lib.hid hbl
  have HR := Lib.hid hR
  have HWo := Lib.hid hW
  have hWl := (Array.getElem?_eq_some_iff.1 hW).1
  have HWl := Lib.hid hWl
  have e0 : (ctX (.mk 3 op 0 0 ⟨#[]⟩ 0 0 [p]) (some ⟨b, off, none⟩) sc).toArray = #[.int .i64 3, .string op, .int .i64 0, .int .i64 0, .string ⟨#[]⟩, .int .i64 0, .int .i64 0, .slice (some ⟨b, off, none⟩) 1 sc] := rfl
  rw [e0]
  obtain ⟨yp, hyp⟩ : ∃ y, y = askV R p := ⟨_, rfl⟩
  have HYp := Lib.hid hyp
  have HAq := Lib.hid (show askV R (.mk 3 op 0 0 ⟨#[]⟩ 0 0 [p]) = askH R 3 op (0, 0, ⟨#[]⟩) 0 0 [yp] by rw [hyp]; rfl)
  have HB := Lib.hid (bel0 (.cells #[.int .i64 0, .int .i64 0, .string ⟨#[]⟩] 38) (bel0 (.cells #[.int .i64 3, .string op, .int .i64 0, .int .i64 0, .string ⟨#[]⟩, .int .i64 0, .int .i64 0, .slice (some ⟨b, off, none⟩) 1 sc] 56) (Below.refl w.heap.size w)))
  have HBX := Lib.hid (boxes2 w (.cells #[.int .i64 3, .string op, .int .i64 0, .int .i64 0, .string ⟨#[]⟩, .int .i64 0, .int .i64 0, .slice (some ⟨b, off, none⟩) 1 sc] 56 (0, 0)) (.cells #[.int .i64 0, .int .i64 0, .string ⟨#[]⟩] 38 (0, 0)))
  rw [hyp.symm] at hin
  have HIn := Lib.hid hin
  clear hin
  clear hR hW hrg hel e0 IHp hyp hat hprg hpl hbl hWl
  go_enter Try.func71, Try.ntmps71
  go_upto_region 1 with (fail)
  generalize ((w.alloc (.cells #[.int .i64 3, .string op, .int .i64 0, .int .i64 0, .string ⟨#[]⟩, .int .i64 0, .int .i64 0, .slice (some ⟨b, off, none⟩) 1 sc] 56)).alloc (.cells #[.int .i64 0, .int .i64 0, .string ⟨#[]⟩] 38)) = w1 at *
  have HC := Lib.hid (show ∀ W : World, Below w1.heap.size w1 W → W.heap[w.heap.size]? = some (.cells #[.int .i64 3, .string op, .int .i64 0, .int .i64 0, .string ⟨#[]⟩, .int .i64 0, .int .i64 0, .slice (some ⟨b, off, none⟩) 1 sc] 56 (0, 0)) ∧ W.heap[w.heap.size + 1]? = some (.cells #[.int .i64 0, .int .i64 0, .string ⟨#[]⟩] 38 (0, 0)) ∧ W.heap[Wb]? = some (.cells #[.slice a len cap, .slice none 0 0, .slice none 0 0, .slice none 0 0, .bool false] 134 (0, 0)) ∧ w.heap.size + 1 < W.heap.size ∧ w.heap.size < W.heap.size from fun W h => by
    obtain ⟨⟨h0, h1⟩, hz⟩ := HBX.out
    have k2 := (h.block (w.heap.size + 1) (by omega)).trans h1
    have := HWl.out
    exact ⟨(h.block w.heap.size (by omega)).trans h0, k2, (h.block Wb (by omega)).trans ((HB.out.block Wb this).trans HWo.out), (Array.getElem?_eq_some_iff.1 k2).1, by have := (Array.getElem?_eq_some_iff.1 k2).1; omega⟩)
  obtain ⟨hE, -, hWy, c6, c5⟩ := HC.out w1 (Below.refl _ _)
  obtain ⟨q0, q4, q5⟩ := worthy5 hWy
  clear hE hWy
  go_upto_region 9 with (fail)
  have HN8 := Lib.hid (Go.heap_alloc_new w1 (.cells #[.int .i64 0, .int .i64 0, .string ⟨#[]⟩] 38 (0, 0)))
  have HB12 := Lib.hid (show Below w1.heap.size w1 (w1.alloc (.cells #[.int .i64 0, .int .i64 0, .string ⟨#[]⟩] 38)) from bel0 _ (Below.refl _ _))
  generalize (w1.alloc (.cells #[.int .i64 0, .int .i64 0, .string ⟨#[]⟩] 38)) = w2 at *
  have HBw2 := Lib.hid (bt HB.out HB12.out)
  obtain ⟨hE, -, -, c6, c5⟩ := HC.out w2 HB12.out
  obtain ⟨e0, e1, e2, e3, e4, e5, e6, e7⟩ := cellsE hE
  obtain ⟨a0, a1, a2, a3, a4, a5, a6, a7⟩ := HAtp.out w2 HBw2.out
  have hbw : b < w2.heap.size := Nat.lt_of_lt_of_le HBl.out HBw2.out.size
  clear hE q0 q4 q5
  go_wp2_with fail
  refine (HIHp.out _ Wb a len cap Q _ (HR.out.below HBw2.out) (HC.out w2 HB12.out).2.2.1 (HCvp.out w2 HBw2.out)).mono ?_
  rintro e' w3 ⟨rfl, hb3⟩
  rw [← HYp.out]
  have HB23 := Lib.hid (show Below w2.heap.size w2 w3 from hb3)
  clear hb3 e0 e1 e2 e3 e4 e5 e6 e7 a0 a1 a2 a3 a4 a5 a6 a7 c6 c5 hbw
  go_upto_region 18 with (fail)
  have HN11 := Lib.hid (Go.heap_alloc_new w3 (.cells #[.int .i64 yp.1.1, .int .i64 yp.1.2.1, .string yp.1.2.2] 38 (0, 0)))
  have HB34 := Lib.hid (show Below w3.heap.size w3 (w3.alloc (.cells #[.int .i64 yp.1.1, .int .i64 yp.1.2.1, .string yp.1.2.2] 38)) from bel0 _ (Below.refl _ _))
  generalize (w3.alloc (.cells #[.int .i64 yp.1.1, .int .i64 yp.1.2.1, .string yp.1.2.2] 38)) = w4 at *
  have HB24 := Lib.hid (bt HB23.out HB34.out)
  have HB14 := Lib.hid (bt HB12.out HB24.out)
  have HBw4 := Lib.hid (bt HB.out HB14.out)
  have HN8b := Lib.hid ((HB24.out.block _ (Array.getElem?_eq_some_iff.1 HN8.out).1).trans HN8.out)
  obtain ⟨n0, n1, n2, -, -, -, n6⟩ := v3 HN8b.out
  obtain ⟨m0, m1, m2, -, -, -, m6⟩ := v3 HN11.out
  obtain ⟨hE, hX, -, c6, c5⟩ := HC.out w4 HB14.out
  obtain ⟨e0, e1, e2, e3, e4, e5, e6, e7⟩ := cellsE hE
  clear hE
  by_cases hz : yp.2.2 = 0
  rotate_left
  · have hne : (yp.2.2 != 0) = true := by simp [hz]
    have HQ := Lib.hid (show askV R (.mk 3 op 0 0 ⟨#[]⟩ 0 0 [p]) = (noV, 0, yp.2.2) by rw [HAq.out]; unfold askH; rw [if_neg (by decide), if_neg (by decide), if_pos (show ((yp :: _ : List Wo).getD 0 noW).2.2 ≠ 0 from hz)]; rfl)
    have HX9 := Lib.hid (vbox3 hX (.int .i64 0) (.int .i64 0) (.string ⟨#[]⟩))
    have HB9 := Lib.hid (v3_below (K := w.heap.size) (N := w.heap.size + 1) (by omega) HBw4.out (.int .i64 0) (.int .i64 0) (.string ⟨#[]⟩))
    obtain ⟨b0, b1, b2, b3, b4, b5, b6⟩ := v3 hX
    clear hX
    go_wp2
    refine bodyPost_ret (results_v3 rfl _ _ (w.heap.size + 1) _ _ _ rfl HX9.out) rfl ?_
    rw [HQ.out]
    exact ⟨rfl, HB9.out⟩
  have ho1 : (op.toList == [78, 79, 84]) = false := by simp [ho]
  obtain ⟨rk, rn, re, hre⟩ : ∃ k n e, recF ⟨#[45]⟩ 1 0 ⟨#[]⟩ yp.1.1 yp.1.2.1 yp.1.2.2 = (k, n, e) := ⟨_, _, _, rfl⟩
  have HRe := Lib.hid hre
  clear hre hX HN8 HN11 HN8b n0 n1 n2 n6
  go_wp2_with fail
  refine (rec25_any ⟨#[45]⟩ 1 0 ⟨#[]⟩ yp.1.1 yp.1.2.1 yp.1.2.2 (Lib.hid (show InR 0 from ⟨by decide, by decide⟩)) HIn rk rn re HRe.out _).mono ?_
  rintro e' w5 ⟨rfl, hb5⟩
  have HB45 := Lib.hid (show Below w4.heap.size w4 w5 from hb5)
  unfold recE
  clear hb5 m0 m1 m2 m6 e0 e1 e2 e3 e4 e5 e6 e7 c6 c5
  go_upto_region 24 with (fail)
  have HN14 := Lib.hid (Go.heap_alloc_new w5 (.cells #[.int .i64 rk, .int .i64 rn, .string ⟨#[]⟩] 38 (0, 0)))
  have HB56 := Lib.hid (show Below w5.heap.size w5 (w5.alloc (.cells #[.int .i64 rk, .int .i64 rn, .string ⟨#[]⟩] 38)) from bel0 _ (Below.refl _ _))
  generalize (w5.alloc (.cells #[.int .i64 rk, .int .i64 rn, .string ⟨#[]⟩] 38)) = w6 at *
  have HB46 := Lib.hid (bt HB45.out HB56.out)
  have HBw6 := Lib.hid (bt HBw4.out HB46.out)
  obtain ⟨m0, m1, m2, -, -, -, m6⟩ := v3 HN14.out
  clear HN14
  go_wp2_with fail
  refine (argued_any (rk, rn, ⟨#[]⟩) 0 re _).mono ?_
  rintro e' w7 ⟨rfl, hb7⟩
  obtain ⟨z, hzz⟩ : ∃ z, z = argF (rk, rn, ⟨#[]⟩) 0 re := ⟨_, rfl⟩
  have HQ := Lib.hid (show askV R (.mk 3 op 0 0 ⟨#[]⟩ 0 0 [p]) = (z.1, z.2.1, z.2.2) by rw [HAq.out]; unfold askH; rw [if_neg (by decide), if_neg (by decide), if_neg (show ¬ (([yp] : List Wo).getD 0 noW).2.2 ≠ 0 from fun h => h hz), if_pos rfl, if_neg (by rw [ho]; decide)]; rw [hzz]; unfold recV recX; show argF ((recF ⟨#[45]⟩ 1 0 ⟨#[]⟩ yp.1.1 yp.1.2.1 yp.1.2.2).1, (recF ⟨#[45]⟩ 1 0 ⟨#[]⟩ yp.1.1 yp.1.2.1 yp.1.2.2).2.1, ⟨#[]⟩) 0 (recF ⟨#[45]⟩ 1 0 ⟨#[]⟩ yp.1.1 yp.1.2.1 yp.1.2.2).2.2 = _; rw [HRe.out])
  rw [← hzz]
  clear hzz
  have HB67 := Lib.hid (show Below w6.heap.size w6 w7 from hb7)
  have HBw7 := Lib.hid (bt HBw6.out hb7)
  have HB47 := Lib.hid (bt HB46.out HB67.out)
  clear hb7 m0 m1 m2 m6
  obtain ⟨-, hX, -, c6, c5⟩ := HC.out w7 (bt HB14.out HB47.out)
  have HX9 := Lib.hid (vbox3 hX (.int .i64 z.1.1) (.int .i64 z.1.2.1) (.string z.1.2.2))
  have HB9 := Lib.hid (v3_below (K := w.heap.size) (N := w.heap.size + 1) (by omega) HBw7.out (.int .i64 z.1.1) (.int .i64 z.1.2.1) (.string z.1.2.2))
  obtain ⟨b0, b1, b2, b3, b4, b5, b6⟩ := v3 hX
  clear hX
  go_wp2
  refine bodyPost_ret (results_v3 rfl _ _ (w.heap.size + 1) _ _ _ rfl HX9.out) rfl ?_
  rw [HQ.out]
  exact ⟨rfl, HB9.out⟩
end Go.Proofs.Ytafhgilikcablaa
namespace Go.Proofs.Ytafhgilikcablaa
open Go.RowKit
set_option linter.unusedVariables false
set_option linter.unusedSimpArgs false
set_option maxRecDepth 100000
set_option maxHeartbeats 12800000 in
theorem ask_test (R : List (List Val)) (op : ByteArray) (p : CT)  (IHp : AskI R p) : AskI R (.mk 5 op 0 0 ⟨#[]⟩ 0 0 [p]) := by
  intro w Wb a len cap Q v hR hW hv
  obtain ⟨sa, sc, rfl, hrg, hel⟩ := hv
  obtain ⟨b, off, pa, pc, hsa, hbl, hat, hprg, hpl⟩ := hel.at (i := 0) (by simp [CT.parts])
  subst hsa
  have hat : CAt w b (off + 0 * 8) p pa pc := hat
  have hprg : CRg p pa pc := hprg
  have hpl : CL w Q pa p.parts := hpl
  rw [show off + 0 * 8 = off from rfl] at hat
  have HCvp := Lib.hid (show ∀ W, Below w.heap.size w W → CV W Q (.agg #[.int .i64 p.kind, .string p.op, .int .i64 p.vk, .int .i64 p.vn, .string p.vs, .int .i64 p.src, .int .i64 p.col, .slice pa p.parts.length pc]) p from fun W hW => ⟨pa, pc, rfl, hprg, hpl.keep hW⟩)
  have HAtp := Lib.hid (show ∀ W, Below w.heap.size w W → CAt W b (off) p pa pc from fun W hW => hat.below hbl hW)
  have HIHp := Lib.hid IHp
  have HBl := Lib.hid hbl
  have HR := Lib.hid hR
  have HWo := Lib.hid hW
  have hWl := (Array.getElem?_eq_some_iff.1 hW).1
  have HWl := Lib.hid hWl
  have e0 : (ctX (.mk 5 op 0 0 ⟨#[]⟩ 0 0 [p]) (some ⟨b, off, none⟩) sc).toArray = #[.int .i64 5, .string op, .int .i64 0, .int .i64 0, .string ⟨#[]⟩, .int .i64 0, .int .i64 0, .slice (some ⟨b, off, none⟩) 1 sc] := rfl
  rw [e0]
  obtain ⟨yp, hyp⟩ : ∃ y, y = askV R p := ⟨_, rfl⟩
  have HYp := Lib.hid hyp
  have HAq := Lib.hid (show askV R (.mk 5 op 0 0 ⟨#[]⟩ 0 0 [p]) = askH R 5 op (0, 0, ⟨#[]⟩) 0 0 [yp] by rw [hyp]; rfl)
  have HB := Lib.hid (bel0 (.cells #[.int .i64 0, .int .i64 0, .string ⟨#[]⟩] 38) (bel0 (.cells #[.int .i64 5, .string op, .int .i64 0, .int .i64 0, .string ⟨#[]⟩, .int .i64 0, .int .i64 0, .slice (some ⟨b, off, none⟩) 1 sc] 56) (Below.refl w.heap.size w)))
  have HBX := Lib.hid (boxes2 w (.cells #[.int .i64 5, .string op, .int .i64 0, .int .i64 0, .string ⟨#[]⟩, .int .i64 0, .int .i64 0, .slice (some ⟨b, off, none⟩) 1 sc] 56 (0, 0)) (.cells #[.int .i64 0, .int .i64 0, .string ⟨#[]⟩] 38 (0, 0)))
  clear hR hW hrg hel e0 IHp hyp hat hprg hpl hbl hWl
  go_enter Try.func71, Try.ntmps71
  go_upto_region 1 with (fail)
  generalize ((w.alloc (.cells #[.int .i64 5, .string op, .int .i64 0, .int .i64 0, .string ⟨#[]⟩, .int .i64 0, .int .i64 0, .slice (some ⟨b, off, none⟩) 1 sc] 56)).alloc (.cells #[.int .i64 0, .int .i64 0, .string ⟨#[]⟩] 38)) = w1 at *
  have HC := Lib.hid (show ∀ W : World, Below w1.heap.size w1 W → W.heap[w.heap.size]? = some (.cells #[.int .i64 5, .string op, .int .i64 0, .int .i64 0, .string ⟨#[]⟩, .int .i64 0, .int .i64 0, .slice (some ⟨b, off, none⟩) 1 sc] 56 (0, 0)) ∧ W.heap[w.heap.size + 1]? = some (.cells #[.int .i64 0, .int .i64 0, .string ⟨#[]⟩] 38 (0, 0)) ∧ W.heap[Wb]? = some (.cells #[.slice a len cap, .slice none 0 0, .slice none 0 0, .slice none 0 0, .bool false] 134 (0, 0)) ∧ w.heap.size + 1 < W.heap.size ∧ w.heap.size < W.heap.size from fun W h => by
    obtain ⟨⟨h0, h1⟩, hz⟩ := HBX.out
    have k2 := (h.block (w.heap.size + 1) (by omega)).trans h1
    have := HWl.out
    exact ⟨(h.block w.heap.size (by omega)).trans h0, k2, (h.block Wb (by omega)).trans ((HB.out.block Wb this).trans HWo.out), (Array.getElem?_eq_some_iff.1 k2).1, by have := (Array.getElem?_eq_some_iff.1 k2).1; omega⟩)
  obtain ⟨hE, -, hWy, c6, c5⟩ := HC.out w1 (Below.refl _ _)
  obtain ⟨q0, q4, q5⟩ := worthy5 hWy
  clear hE hWy
  go_upto_region 9 with (fail)
  have HN8 := Lib.hid (Go.heap_alloc_new w1 (.cells #[.int .i64 0, .int .i64 0, .string ⟨#[]⟩] 38 (0, 0)))
  have HB12 := Lib.hid (show Below w1.heap.size w1 (w1.alloc (.cells #[.int .i64 0, .int .i64 0, .string ⟨#[]⟩] 38)) from bel0 _ (Below.refl _ _))
  generalize (w1.alloc (.cells #[.int .i64 0, .int .i64 0, .string ⟨#[]⟩] 38)) = w2 at *
  have HBw2 := Lib.hid (bt HB.out HB12.out)
  obtain ⟨hE, -, -, c6, c5⟩ := HC.out w2 HB12.out
  obtain ⟨e0, e1, e2, e3, e4, e5, e6, e7⟩ := cellsE hE
  obtain ⟨a0, a1, a2, a3, a4, a5, a6, a7⟩ := HAtp.out w2 HBw2.out
  have hbw : b < w2.heap.size := Nat.lt_of_lt_of_le HBl.out HBw2.out.size
  clear hE q0 q4 q5
  go_wp2_with fail
  refine (HIHp.out _ Wb a len cap Q _ (HR.out.below HBw2.out) (HC.out w2 HB12.out).2.2.1 (HCvp.out w2 HBw2.out)).mono ?_
  rintro e' w3 ⟨rfl, hb3⟩
  rw [← HYp.out]
  have HB23 := Lib.hid (show Below w2.heap.size w2 w3 from hb3)
  clear hb3 e0 e1 e2 e3 e4 e5 e6 e7 a0 a1 a2 a3 a4 a5 a6 a7 c6 c5 hbw
  go_upto_region 18 with (fail)
  have HN11 := Lib.hid (Go.heap_alloc_new w3 (.cells #[.int .i64 yp.1.1, .int .i64 yp.1.2.1, .string yp.1.2.2] 38 (0, 0)))
  have HB34 := Lib.hid (show Below w3.heap.size w3 (w3.alloc (.cells #[.int .i64 yp.1.1, .int .i64 yp.1.2.1, .string yp.1.2.2] 38)) from bel0 _ (Below.refl _ _))
  generalize (w3.alloc (.cells #[.int .i64 yp.1.1, .int .i64 yp.1.2.1, .string yp.1.2.2] 38)) = w4 at *
  have HB24 := Lib.hid (bt HB23.out HB34.out)
  have HB14 := Lib.hid (bt HB12.out HB24.out)
  have HBw4 := Lib.hid (bt HB.out HB14.out)
  have HN8b := Lib.hid ((HB24.out.block _ (Array.getElem?_eq_some_iff.1 HN8.out).1).trans HN8.out)
  obtain ⟨n0, n1, n2, -, -, -, n6⟩ := v3 HN8b.out
  obtain ⟨m0, m1, m2, -, -, -, m6⟩ := v3 HN11.out
  obtain ⟨hE, hX, -, c6, c5⟩ := HC.out w4 HB14.out
  obtain ⟨e0, e1, e2, e3, e4, e5, e6, e7⟩ := cellsE hE
  clear hE
  by_cases hz : yp.2.2 = 0
  rotate_left
  · have hne : (yp.2.2 != 0) = true := by simp [hz]
    have HQ := Lib.hid (show askV R (.mk 5 op 0 0 ⟨#[]⟩ 0 0 [p]) = (noV, 0, yp.2.2) by rw [HAq.out]; unfold askH; rw [if_neg (by decide), if_neg (by decide), if_pos (show ((yp :: _ : List Wo).getD 0 noW).2.2 ≠ 0 from hz)]; rfl)
    have HX9 := Lib.hid (vbox3 hX (.int .i64 0) (.int .i64 0) (.string ⟨#[]⟩))
    have HB9 := Lib.hid (v3_below (K := w.heap.size) (N := w.heap.size + 1) (by omega) HBw4.out (.int .i64 0) (.int .i64 0) (.string ⟨#[]⟩))
    obtain ⟨b0, b1, b2, b3, b4, b5, b6⟩ := v3 hX
    clear hX
    go_wp2
    refine bodyPost_ret (results_v3 rfl _ _ (w.heap.size + 1) _ _ _ rfl HX9.out) rfl ?_
    rw [HQ.out]
    exact ⟨rfl, HB9.out⟩
  obtain ⟨bo, hbo⟩ : ∃ bo, bo = (op.toList == [73, 83, 32, 78, 85, 76, 76]) := ⟨_, rfl⟩
  have HBo := Lib.hid hbo
  clear HN8 HN11 HN8b
  go_upto_region 26 with (fail)
  have j0 := Fut.cell n0
  have j1 := Fut.cell n1
  have j2 := Fut.cell n2
  have k0 := Fut.cell m0
  have k1 := Fut.cell e1
  clear n0 n1 n2 m0 m1 m2 e0 e1 e2 e3 e4 e5 e6 e7
  refine wp_region_fut_tail 9 (by kernel_rfl) (by kernel_rfl) ?_
  simp only [List.take_succ_cons, List.take_zero, List.drop_succ_cons, List.drop_zero]
  repeat (go_big_quiet_step ((go_at_call 113; exact calls_fut ((vrtruth_any _ _).mono (fun _ _ ⟨h1, h2⟩ => ⟨h1, h2 ▸ Below.refl _ _⟩)))))
  refine wpQuiet_nil ?_
  intro s
  have hb6 := s.bel
  generalize s.to = w6 at *
  clear s j0 j1 j2 k0 k1 hbo
  have HBw6 := Lib.hid (bt HBw4.out hb6)
  have HQ := Lib.hid (show askV R (.mk 5 op 0 0 ⟨#[]⟩ 0 0 [p]) = (noV, truthI ((yp.1.1 == 0) == (op.toList == [73, 83, 32, 78, 85, 76, 76])), 0) by rw [HAq.out]; unfold askH; rw [if_neg (by decide), if_neg (by decide), if_neg (show ¬ (([yp] : List Wo).getD 0 noW).2.2 ≠ 0 from fun h => h hz), if_neg (by decide), if_pos rfl]; rfl)
  have hX := (hb6.block _ c6).trans hX
  have HX9 := Lib.hid (vbox3 hX (.int .i64 0) (.int .i64 0) (.string ⟨#[]⟩))
  have HB9 := Lib.hid (v3_below (K := w.heap.size) (N := w.heap.size + 1) (by omega) HBw6.out (.int .i64 0) (.int .i64 0) (.string ⟨#[]⟩))
  obtain ⟨b0, b1, b2, b3, b4, b5, b6⟩ := v3 hX
  clear hX
  go_wp2
  refine bodyPost_ret (results_v3 rfl _ _ (w.heap.size + 1) _ _ _ rfl HX9.out) rfl ?_
  rw [HQ.out]
  exact ⟨rfl, HB9.out⟩
end Go.Proofs.Ytafhgilikcablaa
namespace Go.Proofs.Ytafhgilikcablaa
open Go.RowKit
set_option linter.unusedVariables false
set_option linter.unusedSimpArgs false
set_option maxRecDepth 100000
set_option maxHeartbeats 12800000 in
theorem ask_rec (R : List (List Val)) (op : ByteArray) (p q : CT) (ho : op.toList = [43] ∨ op.toList = [45] ∨ op.toList = [42]) (hin : InR (askV R p).1.2.1) (hin2 : InR (askV R q).1.2.1) (IHp : AskI R p) (IHq : AskI R q) : AskI R (.mk 4 op 0 0 ⟨#[]⟩ 0 0 [p, q]) := by
  intro w Wb a len cap Q v hR hW hv
  obtain ⟨sa, sc, rfl, hrg, hel⟩ := hv
  obtain ⟨b, off, pa, pc, hsa, hbl, hat, hprg, hpl⟩ := hel.at (i := 0) (by simp [CT.parts])
  subst hsa
  have hat : CAt w b (off + 0 * 8) p pa pc := hat
  have hprg : CRg p pa pc := hprg
  have hpl : CL w Q pa p.parts := hpl
  rw [show off + 0 * 8 = off from rfl] at hat
  have HCvp := Lib.hid (show ∀ W, Below w.heap.size w W → CV W Q (.agg #[.int .i64 p.kind, .string p.op, .int .i64 p.vk, .int .i64 p.vn, .string p.vs, .int .i64 p.src, .int .i64 p.col, .slice pa p.parts.length pc]) p from fun W hW => ⟨pa, pc, rfl, hprg, hpl.keep hW⟩)
  have HAtp := Lib.hid (show ∀ W, Below w.heap.size w W → CAt W b (off) p pa pc from fun W hW => hat.below hbl hW)
  have HIHp := Lib.hid IHp
  obtain ⟨b', off', qa, qc, hsa', hbl', hat', hprg', hpl'⟩ := hel.at (i := 1) (by simp [CT.parts])
  cases hsa'
  have hat' : CAt w b (off + 1 * 8) q qa qc := hat'
  have hprg' : CRg q qa qc := hprg'
  have hpl' : CL w Q qa q.parts := hpl'
  rw [show off + 1 * 8 = off + 8 from rfl] at hat'
  have HCvq := Lib.hid (show ∀ W, Below w.heap.size w W → CV W Q (.agg #[.int .i64 q.kind, .string q.op, .int .i64 q.vk, .int .i64 q.vn, .string q.vs, .int .i64 q.src, .int .i64 q.col, .slice qa q.parts.length qc]) q from fun W hW => ⟨qa, qc, rfl, hprg', hpl'.keep hW⟩)
  have HAtq := Lib.hid (show ∀ W, Below w.heap.size w W → CAt W b (off + 8) q qa qc from fun W hW => hat'.below hbl' hW)
  have HIHq := Lib.hid IHq
  have HBl := Lib.hid hbl
  have HR := Lib.hid hR
  have HWo := Lib.hid hW
  have hWl := (Array.getElem?_eq_some_iff.1 hW).1
  have HWl := Lib.hid hWl
  have e0 : (ctX (.mk 4 op 0 0 ⟨#[]⟩ 0 0 [p, q]) (some ⟨b, off, none⟩) sc).toArray = #[.int .i64 4, .string op, .int .i64 0, .int .i64 0, .string ⟨#[]⟩, .int .i64 0, .int .i64 0, .slice (some ⟨b, off, none⟩) 2 sc] := rfl
  rw [e0]
  obtain ⟨yp, hyp⟩ : ∃ y, y = askV R p := ⟨_, rfl⟩
  have HYp := Lib.hid hyp
  obtain ⟨yq, hyq⟩ : ∃ y, y = askV R q := ⟨_, rfl⟩
  have HYq := Lib.hid hyq
  have HAq := Lib.hid (show askV R (.mk 4 op 0 0 ⟨#[]⟩ 0 0 [p, q]) = askH R 4 op (0, 0, ⟨#[]⟩) 0 0 [yp, yq] by rw [hyp, hyq]; rfl)
  have HB := Lib.hid (bel0 (.cells #[.int .i64 0, .int .i64 0, .string ⟨#[]⟩] 38) (bel0 (.cells #[.int .i64 4, .string op, .int .i64 0, .int .i64 0, .string ⟨#[]⟩, .int .i64 0, .int .i64 0, .slice (some ⟨b, off, none⟩) 2 sc] 56) (Below.refl w.heap.size w)))
  have HBX := Lib.hid (boxes2 w (.cells #[.int .i64 4, .string op, .int .i64 0, .int .i64 0, .string ⟨#[]⟩, .int .i64 0, .int .i64 0, .slice (some ⟨b, off, none⟩) 2 sc] 56 (0, 0)) (.cells #[.int .i64 0, .int .i64 0, .string ⟨#[]⟩] 38 (0, 0)))
  rw [hyp.symm] at hin
  rw [hyq.symm] at hin2
  have HIn := Lib.hid hin
  have HIn2 := Lib.hid hin2
  clear hin hin2
  clear hR hW hrg hel e0 IHp IHq hyp hyq hat hprg hpl hbl hWl hat' hprg' hpl' hbl'
  go_enter Try.func71, Try.ntmps71
  go_upto_region 1 with (fail)
  generalize ((w.alloc (.cells #[.int .i64 4, .string op, .int .i64 0, .int .i64 0, .string ⟨#[]⟩, .int .i64 0, .int .i64 0, .slice (some ⟨b, off, none⟩) 2 sc] 56)).alloc (.cells #[.int .i64 0, .int .i64 0, .string ⟨#[]⟩] 38)) = w1 at *
  have HC := Lib.hid (show ∀ W : World, Below w1.heap.size w1 W → W.heap[w.heap.size]? = some (.cells #[.int .i64 4, .string op, .int .i64 0, .int .i64 0, .string ⟨#[]⟩, .int .i64 0, .int .i64 0, .slice (some ⟨b, off, none⟩) 2 sc] 56 (0, 0)) ∧ W.heap[w.heap.size + 1]? = some (.cells #[.int .i64 0, .int .i64 0, .string ⟨#[]⟩] 38 (0, 0)) ∧ W.heap[Wb]? = some (.cells #[.slice a len cap, .slice none 0 0, .slice none 0 0, .slice none 0 0, .bool false] 134 (0, 0)) ∧ w.heap.size + 1 < W.heap.size ∧ w.heap.size < W.heap.size from fun W h => by
    obtain ⟨⟨h0, h1⟩, hz⟩ := HBX.out
    have k2 := (h.block (w.heap.size + 1) (by omega)).trans h1
    have := HWl.out
    exact ⟨(h.block w.heap.size (by omega)).trans h0, k2, (h.block Wb (by omega)).trans ((HB.out.block Wb this).trans HWo.out), (Array.getElem?_eq_some_iff.1 k2).1, by have := (Array.getElem?_eq_some_iff.1 k2).1; omega⟩)
  obtain ⟨hE, -, hWy, c6, c5⟩ := HC.out w1 (Below.refl _ _)
  obtain ⟨q0, q4, q5⟩ := worthy5 hWy
  clear hE hWy
  go_upto_region 9 with (fail)
  have HN8 := Lib.hid (Go.heap_alloc_new w1 (.cells #[.int .i64 0, .int .i64 0, .string ⟨#[]⟩] 38 (0, 0)))
  have HB12 := Lib.hid (show Below w1.heap.size w1 (w1.alloc (.cells #[.int .i64 0, .int .i64 0, .string ⟨#[]⟩] 38)) from bel0 _ (Below.refl _ _))
  generalize (w1.alloc (.cells #[.int .i64 0, .int .i64 0, .string ⟨#[]⟩] 38)) = w2 at *
  have HBw2 := Lib.hid (bt HB.out HB12.out)
  obtain ⟨hE, -, -, c6, c5⟩ := HC.out w2 HB12.out
  obtain ⟨e0, e1, e2, e3, e4, e5, e6, e7⟩ := cellsE hE
  obtain ⟨a0, a1, a2, a3, a4, a5, a6, a7⟩ := HAtp.out w2 HBw2.out
  have hbw : b < w2.heap.size := Nat.lt_of_lt_of_le HBl.out HBw2.out.size
  clear hE q0 q4 q5
  go_wp2_with fail
  refine (HIHp.out _ Wb a len cap Q _ (HR.out.below HBw2.out) (HC.out w2 HB12.out).2.2.1 (HCvp.out w2 HBw2.out)).mono ?_
  rintro e' w3 ⟨rfl, hb3⟩
  rw [← HYp.out]
  have HB23 := Lib.hid (show Below w2.heap.size w2 w3 from hb3)
  clear hb3 e0 e1 e2 e3 e4 e5 e6 e7 a0 a1 a2 a3 a4 a5 a6 a7 c6 c5 hbw
  go_upto_region 18 with (fail)
  have HN11 := Lib.hid (Go.heap_alloc_new w3 (.cells #[.int .i64 yp.1.1, .int .i64 yp.1.2.1, .string yp.1.2.2] 38 (0, 0)))
  have HB34 := Lib.hid (show Below w3.heap.size w3 (w3.alloc (.cells #[.int .i64 yp.1.1, .int .i64 yp.1.2.1, .string yp.1.2.2] 38)) from bel0 _ (Below.refl _ _))
  generalize (w3.alloc (.cells #[.int .i64 yp.1.1, .int .i64 yp.1.2.1, .string yp.1.2.2] 38)) = w4 at *
  have HB24 := Lib.hid (bt HB23.out HB34.out)
  have HB14 := Lib.hid (bt HB12.out HB24.out)
  have HBw4 := Lib.hid (bt HB.out HB14.out)
  have HN8b := Lib.hid ((HB24.out.block _ (Array.getElem?_eq_some_iff.1 HN8.out).1).trans HN8.out)
  obtain ⟨n0, n1, n2, -, -, -, n6⟩ := v3 HN8b.out
  obtain ⟨m0, m1, m2, -, -, -, m6⟩ := v3 HN11.out
  obtain ⟨hE, hX, -, c6, c5⟩ := HC.out w4 HB14.out
  obtain ⟨e0, e1, e2, e3, e4, e5, e6, e7⟩ := cellsE hE
  clear hE
  by_cases hz : yp.2.2 = 0
  rotate_left
  · have hne : (yp.2.2 != 0) = true := by simp [hz]
    have HQ := Lib.hid (show askV R (.mk 4 op 0 0 ⟨#[]⟩ 0 0 [p, q]) = (noV, 0, yp.2.2) by rw [HAq.out]; unfold askH; rw [if_neg (by decide), if_neg (by decide), if_pos (show ((yp :: _ : List Wo).getD 0 noW).2.2 ≠ 0 from hz)]; rfl)
    have HX9 := Lib.hid (vbox3 hX (.int .i64 0) (.int .i64 0) (.string ⟨#[]⟩))
    have HB9 := Lib.hid (v3_below (K := w.heap.size) (N := w.heap.size + 1) (by omega) HBw4.out (.int .i64 0) (.int .i64 0) (.string ⟨#[]⟩))
    obtain ⟨b0, b1, b2, b3, b4, b5, b6⟩ := v3 hX
    clear hX
    go_wp2
    refine bodyPost_ret (results_v3 rfl _ _ (w.heap.size + 1) _ _ _ rfl HX9.out) rfl ?_
    rw [HQ.out]
    exact ⟨rfl, HB9.out⟩
  have ho1 : (op.toList == [65, 78, 68]) = false := by rcases ho with h | h | h <;> simp [h]
  have ho2 : (op.toList == [79, 82]) = false := by rcases ho with h | h | h <;> simp [h]
  have hsc : ¬ ((op.toList = [65, 78, 68] ∧ (([yp, yq] : List Wo).getD 0 noW).2.1 = 0) ∨ (op.toList = [79, 82] ∧ (([yp, yq] : List Wo).getD 0 noW).2.1 = 1)) := by rcases ho with h | h | h <;> simp [h]
  have hrk : reckB op = true := by unfold reckB; rcases ho with h | h | h <;> simp [h]
  have HSc := Lib.hid hsc
  have HRk := Lib.hid hrk
  clear hsc hrk
  obtain ⟨a0, a1, a2, a3, a4, a5, a6, a7⟩ := HAtq.out w4 HBw4.out
  have hbw : b < w4.heap.size := Nat.lt_of_lt_of_le HBl.out HBw4.out.size
  clear n0 n1 n2 n6 m0 m1 m2 m6 hX
  go_wp2_with fail
  refine (HIHq.out _ Wb a len cap Q _ (HR.out.below HBw4.out) (HC.out w4 HB14.out).2.2.1 (HCvq.out w4 HBw4.out)).mono ?_
  rintro e' w5 ⟨rfl, hb5⟩
  rw [← HYq.out]
  have HB45 := Lib.hid (show Below w4.heap.size w4 w5 from hb5)
  clear hb5 e0 e1 e2 e3 e4 e5 e6 e7 a0 a1 a2 a3 a4 a5 a6 a7 c6 c5 hbw
  go_upto_region 30 with (fail)
  have HN16 := Lib.hid (Go.heap_alloc_new w5 (.cells #[.int .i64 yq.1.1, .int .i64 yq.1.2.1, .string yq.1.2.2] 38 (0, 0)))
  have HB56 := Lib.hid (show Below w5.heap.size w5 (w5.alloc (.cells #[.int .i64 yq.1.1, .int .i64 yq.1.2.1, .string yq.1.2.2] 38)) from bel0 _ (Below.refl _ _))
  generalize (w5.alloc (.cells #[.int .i64 yq.1.1, .int .i64 yq.1.2.1, .string yq.1.2.2] 38)) = w6 at *
  have HB46 := Lib.hid (bt HB45.out HB56.out)
  have HB16 := Lib.hid (bt HB14.out HB46.out)
  have HBw6 := Lib.hid (bt HBw4.out HB46.out)
  have HN8c := Lib.hid ((HB46.out.block _ (Array.getElem?_eq_some_iff.1 HN8b.out).1).trans HN8b.out)
  have HN11c := Lib.hid ((HB46.out.block _ (Array.getElem?_eq_some_iff.1 HN11.out).1).trans HN11.out)
  obtain ⟨n0, n1, n2, -, -, -, n6⟩ := v3 HN8c.out
  obtain ⟨m0, m1, m2, -, -, -, m6⟩ := v3 HN11c.out
  obtain ⟨l0, l1, l2, -, -, -, l6⟩ := v3 HN16.out
  obtain ⟨hE, hX, -, c6, c5⟩ := HC.out w6 HB16.out
  obtain ⟨e0, e1, e2, e3, e4, e5, e6, e7⟩ := cellsE hE
  clear hE
  by_cases hz2 : yq.2.2 = 0
  rotate_left
  · have hne : (yq.2.2 != 0) = true := by simp [hz2]
    have HQ := Lib.hid (show askV R (.mk 4 op 0 0 ⟨#[]⟩ 0 0 [p, q]) = (noV, 0, yq.2.2) by rw [HAq.out]; unfold askH; rw [if_neg (by decide), if_neg (by decide), if_neg (show ¬ (([yp, yq] : List Wo).getD 0 noW).2.2 ≠ 0 from fun h => h hz), if_neg (by decide), if_neg (by decide), if_neg HSc.out, if_pos (show (([yp, yq] : List Wo).getD 1 noW).2.2 ≠ 0 from hz2)]; rfl)
    have HX9 := Lib.hid (vbox3 hX (.int .i64 0) (.int .i64 0) (.string ⟨#[]⟩))
    have HB9 := Lib.hid (v3_below (K := w.heap.size) (N := w.heap.size + 1) (by omega) HBw6.out (.int .i64 0) (.int .i64 0) (.string ⟨#[]⟩))
    obtain ⟨b0, b1, b2, b3, b4, b5, b6⟩ := v3 hX
    clear hX
    go_wp2
    refine bodyPost_ret (results_v3 rfl _ _ (w.heap.size + 1) _ _ _ rfl HX9.out) rfl ?_
    rw [HQ.out]
    exact ⟨rfl, HB9.out⟩
  obtain ⟨rk, rn, re, hre⟩ : ∃ k n e, recF op yp.1.1 yp.1.2.1 yp.1.2.2 yq.1.1 yq.1.2.1 yq.1.2.2 = (k, n, e) := ⟨_, _, _, rfl⟩
  have HRe := Lib.hid hre
  clear hre hX HN8 HN11 HN8b HN8c HN11c HN16 n0 n1 n2 n6
  go_wp2_with fail
  refine (reckons14_any _ _).mono ?_
  rintro e' w9 ⟨rfl, hw9⟩
  obtain rfl := hw9.symm
  rw [HRk.out]
  go_wp2_with fail
  refine (rec25_any op yp.1.1 yp.1.2.1 yp.1.2.2 yq.1.1 yq.1.2.1 yq.1.2.2 HIn HIn2 rk rn re HRe.out _).mono ?_
  rintro e' w7 ⟨rfl, hb7⟩
  have HB67 := Lib.hid (show Below w6.heap.size w6 w7 from hb7)
  unfold recE
  clear hb7 m0 m1 m2 m6 l0 l1 l2 l6 e0 e1 e2 e3 e4 e5 e6 e7 c6 c5
  go_upto_region 34 with (fail)
  have HN14 := Lib.hid (Go.heap_alloc_new w7 (.cells #[.int .i64 rk, .int .i64 rn, .string ⟨#[]⟩] 38 (0, 0)))
  have HB78 := Lib.hid (show Below w7.heap.size w7 (w7.alloc (.cells #[.int .i64 rk, .int .i64 rn, .string ⟨#[]⟩] 38)) from bel0 _ (Below.refl _ _))
  generalize (w7.alloc (.cells #[.int .i64 rk, .int .i64 rn, .string ⟨#[]⟩] 38)) = w8 at *
  have HB68 := Lib.hid (bt HB67.out HB78.out)
  have HBw8 := Lib.hid (bt HBw6.out HB68.out)
  obtain ⟨m0, m1, m2, -, -, -, m6⟩ := v3 HN14.out
  clear HN14
  go_wp2_with fail
  refine (argued_any (rk, rn, ⟨#[]⟩) 0 re _).mono ?_
  rintro e' w9 ⟨rfl, hb9⟩
  obtain ⟨z, hzz⟩ : ∃ z, z = argF (rk, rn, ⟨#[]⟩) 0 re := ⟨_, rfl⟩
  have HQ := Lib.hid (show askV R (.mk 4 op 0 0 ⟨#[]⟩ 0 0 [p, q]) = (z.1, z.2.1, z.2.2) by rw [HAq.out]; unfold askH; rw [if_neg (by decide), if_neg (by decide), if_neg (show ¬ (([yp, yq] : List Wo).getD 0 noW).2.2 ≠ 0 from fun h => h hz), if_neg (by decide), if_neg (by decide), if_neg HSc.out, if_neg (show ¬ (([yp, yq] : List Wo).getD 1 noW).2.2 ≠ 0 from fun h => h hz2), if_pos HRk.out]; rw [hzz]; unfold recV recX; show argF ((recF op yp.1.1 yp.1.2.1 yp.1.2.2 yq.1.1 yq.1.2.1 yq.1.2.2).1, (recF op yp.1.1 yp.1.2.1 yp.1.2.2 yq.1.1 yq.1.2.1 yq.1.2.2).2.1, ⟨#[]⟩) 0 (recF op yp.1.1 yp.1.2.1 yp.1.2.2 yq.1.1 yq.1.2.1 yq.1.2.2).2.2 = _; rw [HRe.out])
  rw [← hzz]
  clear hzz
  have HBw9 := Lib.hid (bt HBw8.out hb9)
  have HB19 := Lib.hid (bt HB16.out (bt HB68.out hb9))
  clear hb9 m0 m1 m2 m6
  obtain ⟨-, hX, -, c6, c5⟩ := HC.out w9 HB19.out
  have HX9 := Lib.hid (vbox3 hX (.int .i64 z.1.1) (.int .i64 z.1.2.1) (.string z.1.2.2))
  have HB9 := Lib.hid (v3_below (K := w.heap.size) (N := w.heap.size + 1) (by omega) HBw9.out (.int .i64 z.1.1) (.int .i64 z.1.2.1) (.string z.1.2.2))
  obtain ⟨b0, b1, b2, b3, b4, b5, b6⟩ := v3 hX
  clear hX
  go_wp2
  refine bodyPost_ret (results_v3 rfl _ _ (w.heap.size + 1) _ _ _ rfl HX9.out) rfl ?_
  rw [HQ.out]
  exact ⟨rfl, HB9.out⟩
end Go.Proofs.Ytafhgilikcablaa
namespace Go.Proofs.Ytafhgilikcablaa
open Go.RowKit
set_option linter.unusedVariables false
set_option linter.unusedSimpArgs false
set_option maxRecDepth 100000
set_option maxHeartbeats 12800000 in
theorem ask_cmp (R : List (List Val)) (op : ByteArray) (p q : CT) (ho : op.toList = [61] ∨ op.toList = [60, 62] ∨ op.toList = [60] ∨ op.toList = [60, 61] ∨ op.toList = [62] ∨ op.toList = [62, 61]) (IHp : AskI R p) (IHq : AskI R q) : AskI R (.mk 4 op 0 0 ⟨#[]⟩ 0 0 [p, q]) := by
  intro w Wb a len cap Q v hR hW hv
  obtain ⟨sa, sc, rfl, hrg, hel⟩ := hv
  obtain ⟨b, off, pa, pc, hsa, hbl, hat, hprg, hpl⟩ := hel.at (i := 0) (by simp [CT.parts])
  subst hsa
  have hat : CAt w b (off + 0 * 8) p pa pc := hat
  have hprg : CRg p pa pc := hprg
  have hpl : CL w Q pa p.parts := hpl
  rw [show off + 0 * 8 = off from rfl] at hat
  have HCvp := Lib.hid (show ∀ W, Below w.heap.size w W → CV W Q (.agg #[.int .i64 p.kind, .string p.op, .int .i64 p.vk, .int .i64 p.vn, .string p.vs, .int .i64 p.src, .int .i64 p.col, .slice pa p.parts.length pc]) p from fun W hW => ⟨pa, pc, rfl, hprg, hpl.keep hW⟩)
  have HAtp := Lib.hid (show ∀ W, Below w.heap.size w W → CAt W b (off) p pa pc from fun W hW => hat.below hbl hW)
  have HIHp := Lib.hid IHp
  obtain ⟨b', off', qa, qc, hsa', hbl', hat', hprg', hpl'⟩ := hel.at (i := 1) (by simp [CT.parts])
  cases hsa'
  have hat' : CAt w b (off + 1 * 8) q qa qc := hat'
  have hprg' : CRg q qa qc := hprg'
  have hpl' : CL w Q qa q.parts := hpl'
  rw [show off + 1 * 8 = off + 8 from rfl] at hat'
  have HCvq := Lib.hid (show ∀ W, Below w.heap.size w W → CV W Q (.agg #[.int .i64 q.kind, .string q.op, .int .i64 q.vk, .int .i64 q.vn, .string q.vs, .int .i64 q.src, .int .i64 q.col, .slice qa q.parts.length qc]) q from fun W hW => ⟨qa, qc, rfl, hprg', hpl'.keep hW⟩)
  have HAtq := Lib.hid (show ∀ W, Below w.heap.size w W → CAt W b (off + 8) q qa qc from fun W hW => hat'.below hbl' hW)
  have HIHq := Lib.hid IHq
  have HBl := Lib.hid hbl
  have HR := Lib.hid hR
  have HWo := Lib.hid hW
  have hWl := (Array.getElem?_eq_some_iff.1 hW).1
  have HWl := Lib.hid hWl
  have e0 : (ctX (.mk 4 op 0 0 ⟨#[]⟩ 0 0 [p, q]) (some ⟨b, off, none⟩) sc).toArray = #[.int .i64 4, .string op, .int .i64 0, .int .i64 0, .string ⟨#[]⟩, .int .i64 0, .int .i64 0, .slice (some ⟨b, off, none⟩) 2 sc] := rfl
  rw [e0]
  obtain ⟨yp, hyp⟩ : ∃ y, y = askV R p := ⟨_, rfl⟩
  have HYp := Lib.hid hyp
  obtain ⟨yq, hyq⟩ : ∃ y, y = askV R q := ⟨_, rfl⟩
  have HYq := Lib.hid hyq
  have HAq := Lib.hid (show askV R (.mk 4 op 0 0 ⟨#[]⟩ 0 0 [p, q]) = askH R 4 op (0, 0, ⟨#[]⟩) 0 0 [yp, yq] by rw [hyp, hyq]; rfl)
  have HB := Lib.hid (bel0 (.cells #[.int .i64 0, .int .i64 0, .string ⟨#[]⟩] 38) (bel0 (.cells #[.int .i64 4, .string op, .int .i64 0, .int .i64 0, .string ⟨#[]⟩, .int .i64 0, .int .i64 0, .slice (some ⟨b, off, none⟩) 2 sc] 56) (Below.refl w.heap.size w)))
  have HBX := Lib.hid (boxes2 w (.cells #[.int .i64 4, .string op, .int .i64 0, .int .i64 0, .string ⟨#[]⟩, .int .i64 0, .int .i64 0, .slice (some ⟨b, off, none⟩) 2 sc] 56 (0, 0)) (.cells #[.int .i64 0, .int .i64 0, .string ⟨#[]⟩] 38 (0, 0)))
  clear hR hW hrg hel e0 IHp IHq hyp hyq hat hprg hpl hbl hWl hat' hprg' hpl' hbl'
  go_enter Try.func71, Try.ntmps71
  go_upto_region 1 with (fail)
  generalize ((w.alloc (.cells #[.int .i64 4, .string op, .int .i64 0, .int .i64 0, .string ⟨#[]⟩, .int .i64 0, .int .i64 0, .slice (some ⟨b, off, none⟩) 2 sc] 56)).alloc (.cells #[.int .i64 0, .int .i64 0, .string ⟨#[]⟩] 38)) = w1 at *
  have HC := Lib.hid (show ∀ W : World, Below w1.heap.size w1 W → W.heap[w.heap.size]? = some (.cells #[.int .i64 4, .string op, .int .i64 0, .int .i64 0, .string ⟨#[]⟩, .int .i64 0, .int .i64 0, .slice (some ⟨b, off, none⟩) 2 sc] 56 (0, 0)) ∧ W.heap[w.heap.size + 1]? = some (.cells #[.int .i64 0, .int .i64 0, .string ⟨#[]⟩] 38 (0, 0)) ∧ W.heap[Wb]? = some (.cells #[.slice a len cap, .slice none 0 0, .slice none 0 0, .slice none 0 0, .bool false] 134 (0, 0)) ∧ w.heap.size + 1 < W.heap.size ∧ w.heap.size < W.heap.size from fun W h => by
    obtain ⟨⟨h0, h1⟩, hz⟩ := HBX.out
    have k2 := (h.block (w.heap.size + 1) (by omega)).trans h1
    have := HWl.out
    exact ⟨(h.block w.heap.size (by omega)).trans h0, k2, (h.block Wb (by omega)).trans ((HB.out.block Wb this).trans HWo.out), (Array.getElem?_eq_some_iff.1 k2).1, by have := (Array.getElem?_eq_some_iff.1 k2).1; omega⟩)
  obtain ⟨hE, -, hWy, c6, c5⟩ := HC.out w1 (Below.refl _ _)
  obtain ⟨q0, q4, q5⟩ := worthy5 hWy
  clear hE hWy
  go_upto_region 9 with (fail)
  have HN8 := Lib.hid (Go.heap_alloc_new w1 (.cells #[.int .i64 0, .int .i64 0, .string ⟨#[]⟩] 38 (0, 0)))
  have HB12 := Lib.hid (show Below w1.heap.size w1 (w1.alloc (.cells #[.int .i64 0, .int .i64 0, .string ⟨#[]⟩] 38)) from bel0 _ (Below.refl _ _))
  generalize (w1.alloc (.cells #[.int .i64 0, .int .i64 0, .string ⟨#[]⟩] 38)) = w2 at *
  have HBw2 := Lib.hid (bt HB.out HB12.out)
  obtain ⟨hE, -, -, c6, c5⟩ := HC.out w2 HB12.out
  obtain ⟨e0, e1, e2, e3, e4, e5, e6, e7⟩ := cellsE hE
  obtain ⟨a0, a1, a2, a3, a4, a5, a6, a7⟩ := HAtp.out w2 HBw2.out
  have hbw : b < w2.heap.size := Nat.lt_of_lt_of_le HBl.out HBw2.out.size
  clear hE q0 q4 q5
  go_wp2_with fail
  refine (HIHp.out _ Wb a len cap Q _ (HR.out.below HBw2.out) (HC.out w2 HB12.out).2.2.1 (HCvp.out w2 HBw2.out)).mono ?_
  rintro e' w3 ⟨rfl, hb3⟩
  rw [← HYp.out]
  have HB23 := Lib.hid (show Below w2.heap.size w2 w3 from hb3)
  clear hb3 e0 e1 e2 e3 e4 e5 e6 e7 a0 a1 a2 a3 a4 a5 a6 a7 c6 c5 hbw
  go_upto_region 18 with (fail)
  have HN11 := Lib.hid (Go.heap_alloc_new w3 (.cells #[.int .i64 yp.1.1, .int .i64 yp.1.2.1, .string yp.1.2.2] 38 (0, 0)))
  have HB34 := Lib.hid (show Below w3.heap.size w3 (w3.alloc (.cells #[.int .i64 yp.1.1, .int .i64 yp.1.2.1, .string yp.1.2.2] 38)) from bel0 _ (Below.refl _ _))
  generalize (w3.alloc (.cells #[.int .i64 yp.1.1, .int .i64 yp.1.2.1, .string yp.1.2.2] 38)) = w4 at *
  have HB24 := Lib.hid (bt HB23.out HB34.out)
  have HB14 := Lib.hid (bt HB12.out HB24.out)
  have HBw4 := Lib.hid (bt HB.out HB14.out)
  have HN8b := Lib.hid ((HB24.out.block _ (Array.getElem?_eq_some_iff.1 HN8.out).1).trans HN8.out)
  obtain ⟨n0, n1, n2, -, -, -, n6⟩ := v3 HN8b.out
  obtain ⟨m0, m1, m2, -, -, -, m6⟩ := v3 HN11.out
  obtain ⟨hE, hX, -, c6, c5⟩ := HC.out w4 HB14.out
  obtain ⟨e0, e1, e2, e3, e4, e5, e6, e7⟩ := cellsE hE
  clear hE
  by_cases hz : yp.2.2 = 0
  rotate_left
  · have hne : (yp.2.2 != 0) = true := by simp [hz]
    have HQ := Lib.hid (show askV R (.mk 4 op 0 0 ⟨#[]⟩ 0 0 [p, q]) = (noV, 0, yp.2.2) by rw [HAq.out]; unfold askH; rw [if_neg (by decide), if_neg (by decide), if_pos (show ((yp :: _ : List Wo).getD 0 noW).2.2 ≠ 0 from hz)]; rfl)
    have HX9 := Lib.hid (vbox3 hX (.int .i64 0) (.int .i64 0) (.string ⟨#[]⟩))
    have HB9 := Lib.hid (v3_below (K := w.heap.size) (N := w.heap.size + 1) (by omega) HBw4.out (.int .i64 0) (.int .i64 0) (.string ⟨#[]⟩))
    obtain ⟨b0, b1, b2, b3, b4, b5, b6⟩ := v3 hX
    clear hX
    go_wp2
    refine bodyPost_ret (results_v3 rfl _ _ (w.heap.size + 1) _ _ _ rfl HX9.out) rfl ?_
    rw [HQ.out]
    exact ⟨rfl, HB9.out⟩
  have ho1 : (op.toList == [65, 78, 68]) = false := by rcases ho with h | h | h | h | h | h <;> simp [h]
  have ho2 : (op.toList == [79, 82]) = false := by rcases ho with h | h | h | h | h | h <;> simp [h]
  have hsc : ¬ ((op.toList = [65, 78, 68] ∧ (([yp, yq] : List Wo).getD 0 noW).2.1 = 0) ∨ (op.toList = [79, 82] ∧ (([yp, yq] : List Wo).getD 0 noW).2.1 = 1)) := by rcases ho with h | h | h | h | h | h <;> simp [h]
  have hrk : reckB op = false := by unfold reckB; rcases ho with h | h | h | h | h | h <;> simp [h]
  have hn1 : ¬ op.toList = [65, 78, 68] := by rcases ho with h | h | h | h | h | h <;> simp [h]
  have hn2 : ¬ op.toList = [79, 82] := by rcases ho with h | h | h | h | h | h <;> simp [h]
  have HSc := Lib.hid hsc
  have HRk := Lib.hid hrk
  have HN1 := Lib.hid hn1
  have HN2 := Lib.hid hn2
  clear hsc hrk hn1 hn2
  obtain ⟨a0, a1, a2, a3, a4, a5, a6, a7⟩ := HAtq.out w4 HBw4.out
  have hbw : b < w4.heap.size := Nat.lt_of_lt_of_le HBl.out HBw4.out.size
  clear n0 n1 n2 n6 m0 m1 m2 m6 hX
  go_wp2_with fail
  refine (HIHq.out _ Wb a len cap Q _ (HR.out.below HBw4.out) (HC.out w4 HB14.out).2.2.1 (HCvq.out w4 HBw4.out)).mono ?_
  rintro e' w5 ⟨rfl, hb5⟩
  rw [← HYq.out]
  have HB45 := Lib.hid (show Below w4.heap.size w4 w5 from hb5)
  clear hb5 e0 e1 e2 e3 e4 e5 e6 e7 a0 a1 a2 a3 a4 a5 a6 a7 c6 c5 hbw
  go_upto_region 30 with (fail)
  have HN16 := Lib.hid (Go.heap_alloc_new w5 (.cells #[.int .i64 yq.1.1, .int .i64 yq.1.2.1, .string yq.1.2.2] 38 (0, 0)))
  have HB56 := Lib.hid (show Below w5.heap.size w5 (w5.alloc (.cells #[.int .i64 yq.1.1, .int .i64 yq.1.2.1, .string yq.1.2.2] 38)) from bel0 _ (Below.refl _ _))
  generalize (w5.alloc (.cells #[.int .i64 yq.1.1, .int .i64 yq.1.2.1, .string yq.1.2.2] 38)) = w6 at *
  have HB46 := Lib.hid (bt HB45.out HB56.out)
  have HB16 := Lib.hid (bt HB14.out HB46.out)
  have HBw6 := Lib.hid (bt HBw4.out HB46.out)
  have HN8c := Lib.hid ((HB46.out.block _ (Array.getElem?_eq_some_iff.1 HN8b.out).1).trans HN8b.out)
  have HN11c := Lib.hid ((HB46.out.block _ (Array.getElem?_eq_some_iff.1 HN11.out).1).trans HN11.out)
  obtain ⟨n0, n1, n2, -, -, -, n6⟩ := v3 HN8c.out
  obtain ⟨m0, m1, m2, -, -, -, m6⟩ := v3 HN11c.out
  obtain ⟨l0, l1, l2, -, -, -, l6⟩ := v3 HN16.out
  obtain ⟨hE, hX, -, c6, c5⟩ := HC.out w6 HB16.out
  obtain ⟨e0, e1, e2, e3, e4, e5, e6, e7⟩ := cellsE hE
  clear hE
  by_cases hz2 : yq.2.2 = 0
  rotate_left
  · have hne : (yq.2.2 != 0) = true := by simp [hz2]
    have HQ := Lib.hid (show askV R (.mk 4 op 0 0 ⟨#[]⟩ 0 0 [p, q]) = (noV, 0, yq.2.2) by rw [HAq.out]; unfold askH; rw [if_neg (by decide), if_neg (by decide), if_neg (show ¬ (([yp, yq] : List Wo).getD 0 noW).2.2 ≠ 0 from fun h => h hz), if_neg (by decide), if_neg (by decide), if_neg HSc.out, if_pos (show (([yp, yq] : List Wo).getD 1 noW).2.2 ≠ 0 from hz2)]; rfl)
    have HX9 := Lib.hid (vbox3 hX (.int .i64 0) (.int .i64 0) (.string ⟨#[]⟩))
    have HB9 := Lib.hid (v3_below (K := w.heap.size) (N := w.heap.size + 1) (by omega) HBw6.out (.int .i64 0) (.int .i64 0) (.string ⟨#[]⟩))
    obtain ⟨b0, b1, b2, b3, b4, b5, b6⟩ := v3 hX
    clear hX
    go_wp2
    refine bodyPost_ret (results_v3 rfl _ _ (w.heap.size + 1) _ _ _ rfl HX9.out) rfl ?_
    rw [HQ.out]
    exact ⟨rfl, HB9.out⟩
  obtain ⟨cn, ce, hce⟩ : ∃ n e, cmpF op yp.1.1 yp.1.2.1 yp.1.2.2 yq.1.1 yq.1.2.1 yq.1.2.2 = (n, e) := ⟨_, _, rfl⟩
  have HCe := Lib.hid hce
  clear hce hX HN8 HN11 HN8b HN11c HN16
  go_wp2_with fail
  refine (reckons14_any _ _).mono ?_
  rintro e' w9 ⟨rfl, hw9⟩
  obtain rfl := hw9.symm
  rw [HRk.out]
  go_wp2_with fail
  refine (rcompare_any op yp.1.1 yp.1.2.1 yp.1.2.2 yq.1.1 yq.1.2.1 yq.1.2.2 cn ce HCe.out _).mono ?_
  rintro e' w7 ⟨rfl, hb7⟩
  have HB67 := Lib.hid (show Below w6.heap.size w6 w7 from hb7)
  have HBw7 := Lib.hid (bt HBw6.out hb7)
  have HN8d := Lib.hid ((hb7.block _ (Array.getElem?_eq_some_iff.1 HN8c.out).1).trans HN8c.out)
  clear hb7 n0 n1 n2 n6 m0 m1 m2 m6 l0 l1 l2 l6 e0 e1 e2 e3 e4 e5 e6 e7 c6 c5
  obtain ⟨n0, n1, n2, -, -, -, n6⟩ := v3 HN8d.out
  clear HN8c HN8d
  go_wp2_with fail
  refine (argued_any noV cn ce _).mono ?_
  rintro e' w9 ⟨rfl, hb9⟩
  obtain ⟨z, hzz⟩ : ∃ z, z = argF noV cn ce := ⟨_, rfl⟩
  have HQ := Lib.hid (show askV R (.mk 4 op 0 0 ⟨#[]⟩ 0 0 [p, q]) = (z.1, z.2.1, z.2.2) by rw [HAq.out]; unfold askH; rw [if_neg (by decide), if_neg (by decide), if_neg (show ¬ (([yp, yq] : List Wo).getD 0 noW).2.2 ≠ 0 from fun h => h hz), if_neg (by decide), if_neg (by decide), if_neg HSc.out, if_neg (show ¬ (([yp, yq] : List Wo).getD 1 noW).2.2 ≠ 0 from fun h => h hz2), if_neg (by rw [HRk.out]; decide), if_neg HN1.out, if_neg HN2.out]; rw [hzz]; unfold cmpV; show argF noV (cmpF op yp.1.1 yp.1.2.1 yp.1.2.2 yq.1.1 yq.1.2.1 yq.1.2.2).1 (cmpF op yp.1.1 yp.1.2.1 yp.1.2.2 yq.1.1 yq.1.2.1 yq.1.2.2).2 = _; rw [HCe.out])
  rw [← hzz]
  clear hzz
  have HBw9 := Lib.hid (bt HBw7.out hb9)
  have HB19 := Lib.hid (bt HB16.out (bt HB67.out hb9))
  clear hb9 n0 n1 n2 n6
  obtain ⟨-, hX, -, c6, c5⟩ := HC.out w9 HB19.out
  have HX9 := Lib.hid (vbox3 hX (.int .i64 z.1.1) (.int .i64 z.1.2.1) (.string z.1.2.2))
  have HB9 := Lib.hid (v3_below (K := w.heap.size) (N := w.heap.size + 1) (by omega) HBw9.out (.int .i64 z.1.1) (.int .i64 z.1.2.1) (.string z.1.2.2))
  obtain ⟨b0, b1, b2, b3, b4, b5, b6⟩ := v3 hX
  clear hX
  go_wp2
  refine bodyPost_ret (results_v3 rfl _ _ (w.heap.size + 1) _ _ _ rfl HX9.out) rfl ?_
  rw [HQ.out]
  exact ⟨rfl, HB9.out⟩
end Go.Proofs.Ytafhgilikcablaa
namespace Go.Proofs.Ytafhgilikcablaa
open Go.RowKit
set_option linter.unusedVariables false
set_option linter.unusedSimpArgs false
set_option maxRecDepth 100000
set_option maxHeartbeats 12800000 in
theorem ask_and (R : List (List Val)) (op : ByteArray) (p q : CT) (ho : op = ⟨#[65, 78, 68]⟩) (IHp : AskI R p) (IHq : AskI R q) : AskI R (.mk 4 op 0 0 ⟨#[]⟩ 0 0 [p, q]) := by
  subst ho
  intro w Wb a len cap Q v hR hW hv
  obtain ⟨sa, sc, rfl, hrg, hel⟩ := hv
  obtain ⟨b, off, pa, pc, hsa, hbl, hat, hprg, hpl⟩ := hel.at (i := 0) (by simp [CT.parts])
  subst hsa
  have hat : CAt w b (off + 0 * 8) p pa pc := hat
  have hprg : CRg p pa pc := hprg
  have hpl : CL w Q pa p.parts := hpl
  rw [show off + 0 * 8 = off from rfl] at hat
  have HCvp := Lib.hid (show ∀ W, Below w.heap.size w W → CV W Q (.agg #[.int .i64 p.kind, .string p.op, .int .i64 p.vk, .int .i64 p.vn, .string p.vs, .int .i64 p.src, .int .i64 p.col, .slice pa p.parts.length pc]) p from fun W hW => ⟨pa, pc, rfl, hprg, hpl.keep hW⟩)
  have HAtp := Lib.hid (show ∀ W, Below w.heap.size w W → CAt W b (off) p pa pc from fun W hW => hat.below hbl hW)
  have HIHp := Lib.hid IHp
  obtain ⟨b', off', qa, qc, hsa', hbl', hat', hprg', hpl'⟩ := hel.at (i := 1) (by simp [CT.parts])
  cases hsa'
  have hat' : CAt w b (off + 1 * 8) q qa qc := hat'
  have hprg' : CRg q qa qc := hprg'
  have hpl' : CL w Q qa q.parts := hpl'
  rw [show off + 1 * 8 = off + 8 from rfl] at hat'
  have HCvq := Lib.hid (show ∀ W, Below w.heap.size w W → CV W Q (.agg #[.int .i64 q.kind, .string q.op, .int .i64 q.vk, .int .i64 q.vn, .string q.vs, .int .i64 q.src, .int .i64 q.col, .slice qa q.parts.length qc]) q from fun W hW => ⟨qa, qc, rfl, hprg', hpl'.keep hW⟩)
  have HAtq := Lib.hid (show ∀ W, Below w.heap.size w W → CAt W b (off + 8) q qa qc from fun W hW => hat'.below hbl' hW)
  have HIHq := Lib.hid IHq
  have HBl := Lib.hid hbl
  have HR := Lib.hid hR
  have HWo := Lib.hid hW
  have hWl := (Array.getElem?_eq_some_iff.1 hW).1
  have HWl := Lib.hid hWl
  have e0 : (ctX (.mk 4 ⟨#[65, 78, 68]⟩ 0 0 ⟨#[]⟩ 0 0 [p, q]) (some ⟨b, off, none⟩) sc).toArray = #[.int .i64 4, .string ⟨#[65, 78, 68]⟩, .int .i64 0, .int .i64 0, .string ⟨#[]⟩, .int .i64 0, .int .i64 0, .slice (some ⟨b, off, none⟩) 2 sc] := rfl
  rw [e0]
  obtain ⟨yp, hyp⟩ : ∃ y, y = askV R p := ⟨_, rfl⟩
  have HYp := Lib.hid hyp
  obtain ⟨yq, hyq⟩ : ∃ y, y = askV R q := ⟨_, rfl⟩
  have HYq := Lib.hid hyq
  have HAq := Lib.hid (show askV R (.mk 4 ⟨#[65, 78, 68]⟩ 0 0 ⟨#[]⟩ 0 0 [p, q]) = askH R 4 ⟨#[65, 78, 68]⟩ (0, 0, ⟨#[]⟩) 0 0 [yp, yq] by rw [hyp, hyq]; rfl)
  have HB := Lib.hid (bel0 (.cells #[.int .i64 0, .int .i64 0, .string ⟨#[]⟩] 38) (bel0 (.cells #[.int .i64 4, .string ⟨#[65, 78, 68]⟩, .int .i64 0, .int .i64 0, .string ⟨#[]⟩, .int .i64 0, .int .i64 0, .slice (some ⟨b, off, none⟩) 2 sc] 56) (Below.refl w.heap.size w)))
  have HBX := Lib.hid (boxes2 w (.cells #[.int .i64 4, .string ⟨#[65, 78, 68]⟩, .int .i64 0, .int .i64 0, .string ⟨#[]⟩, .int .i64 0, .int .i64 0, .slice (some ⟨b, off, none⟩) 2 sc] 56 (0, 0)) (.cells #[.int .i64 0, .int .i64 0, .string ⟨#[]⟩] 38 (0, 0)))
  clear hR hW hrg hel e0 IHp IHq hyp hyq hat hprg hpl hbl hWl hat' hprg' hpl' hbl'
  go_enter Try.func71, Try.ntmps71
  go_upto_region 1 with (fail)
  generalize ((w.alloc (.cells #[.int .i64 4, .string ⟨#[65, 78, 68]⟩, .int .i64 0, .int .i64 0, .string ⟨#[]⟩, .int .i64 0, .int .i64 0, .slice (some ⟨b, off, none⟩) 2 sc] 56)).alloc (.cells #[.int .i64 0, .int .i64 0, .string ⟨#[]⟩] 38)) = w1 at *
  have HC := Lib.hid (show ∀ W : World, Below w1.heap.size w1 W → W.heap[w.heap.size]? = some (.cells #[.int .i64 4, .string ⟨#[65, 78, 68]⟩, .int .i64 0, .int .i64 0, .string ⟨#[]⟩, .int .i64 0, .int .i64 0, .slice (some ⟨b, off, none⟩) 2 sc] 56 (0, 0)) ∧ W.heap[w.heap.size + 1]? = some (.cells #[.int .i64 0, .int .i64 0, .string ⟨#[]⟩] 38 (0, 0)) ∧ W.heap[Wb]? = some (.cells #[.slice a len cap, .slice none 0 0, .slice none 0 0, .slice none 0 0, .bool false] 134 (0, 0)) ∧ w.heap.size + 1 < W.heap.size ∧ w.heap.size < W.heap.size from fun W h => by
    obtain ⟨⟨h0, h1⟩, hz⟩ := HBX.out
    have k2 := (h.block (w.heap.size + 1) (by omega)).trans h1
    have := HWl.out
    exact ⟨(h.block w.heap.size (by omega)).trans h0, k2, (h.block Wb (by omega)).trans ((HB.out.block Wb this).trans HWo.out), (Array.getElem?_eq_some_iff.1 k2).1, by have := (Array.getElem?_eq_some_iff.1 k2).1; omega⟩)
  obtain ⟨hE, -, hWy, c6, c5⟩ := HC.out w1 (Below.refl _ _)
  obtain ⟨q0, q4, q5⟩ := worthy5 hWy
  clear hE hWy
  go_upto_region 9 with (fail)
  have HN8 := Lib.hid (Go.heap_alloc_new w1 (.cells #[.int .i64 0, .int .i64 0, .string ⟨#[]⟩] 38 (0, 0)))
  have HB12 := Lib.hid (show Below w1.heap.size w1 (w1.alloc (.cells #[.int .i64 0, .int .i64 0, .string ⟨#[]⟩] 38)) from bel0 _ (Below.refl _ _))
  generalize (w1.alloc (.cells #[.int .i64 0, .int .i64 0, .string ⟨#[]⟩] 38)) = w2 at *
  have HBw2 := Lib.hid (bt HB.out HB12.out)
  obtain ⟨hE, -, -, c6, c5⟩ := HC.out w2 HB12.out
  obtain ⟨e0, e1, e2, e3, e4, e5, e6, e7⟩ := cellsE hE
  obtain ⟨a0, a1, a2, a3, a4, a5, a6, a7⟩ := HAtp.out w2 HBw2.out
  have hbw : b < w2.heap.size := Nat.lt_of_lt_of_le HBl.out HBw2.out.size
  clear hE q0 q4 q5
  go_wp2_with fail
  refine (HIHp.out _ Wb a len cap Q _ (HR.out.below HBw2.out) (HC.out w2 HB12.out).2.2.1 (HCvp.out w2 HBw2.out)).mono ?_
  rintro e' w3 ⟨rfl, hb3⟩
  rw [← HYp.out]
  have HB23 := Lib.hid (show Below w2.heap.size w2 w3 from hb3)
  clear hb3 e0 e1 e2 e3 e4 e5 e6 e7 a0 a1 a2 a3 a4 a5 a6 a7 c6 c5 hbw
  go_upto_region 18 with (fail)
  have HN11 := Lib.hid (Go.heap_alloc_new w3 (.cells #[.int .i64 yp.1.1, .int .i64 yp.1.2.1, .string yp.1.2.2] 38 (0, 0)))
  have HB34 := Lib.hid (show Below w3.heap.size w3 (w3.alloc (.cells #[.int .i64 yp.1.1, .int .i64 yp.1.2.1, .string yp.1.2.2] 38)) from bel0 _ (Below.refl _ _))
  generalize (w3.alloc (.cells #[.int .i64 yp.1.1, .int .i64 yp.1.2.1, .string yp.1.2.2] 38)) = w4 at *
  have HB24 := Lib.hid (bt HB23.out HB34.out)
  have HB14 := Lib.hid (bt HB12.out HB24.out)
  have HBw4 := Lib.hid (bt HB.out HB14.out)
  have HN8b := Lib.hid ((HB24.out.block _ (Array.getElem?_eq_some_iff.1 HN8.out).1).trans HN8.out)
  obtain ⟨n0, n1, n2, -, -, -, n6⟩ := v3 HN8b.out
  obtain ⟨m0, m1, m2, -, -, -, m6⟩ := v3 HN11.out
  obtain ⟨hE, hX, -, c6, c5⟩ := HC.out w4 HB14.out
  obtain ⟨e0, e1, e2, e3, e4, e5, e6, e7⟩ := cellsE hE
  clear hE
  by_cases hz : yp.2.2 = 0
  rotate_left
  · have hne : (yp.2.2 != 0) = true := by simp [hz]
    have HQ := Lib.hid (show askV R (.mk 4 ⟨#[65, 78, 68]⟩ 0 0 ⟨#[]⟩ 0 0 [p, q]) = (noV, 0, yp.2.2) by rw [HAq.out]; unfold askH; rw [if_neg (by decide), if_neg (by decide), if_pos (show ((yp :: _ : List Wo).getD 0 noW).2.2 ≠ 0 from hz)]; rfl)
    have HX9 := Lib.hid (vbox3 hX (.int .i64 0) (.int .i64 0) (.string ⟨#[]⟩))
    have HB9 := Lib.hid (v3_below (K := w.heap.size) (N := w.heap.size + 1) (by omega) HBw4.out (.int .i64 0) (.int .i64 0) (.string ⟨#[]⟩))
    obtain ⟨b0, b1, b2, b3, b4, b5, b6⟩ := v3 hX
    clear hX
    go_wp2
    refine bodyPost_ret (results_v3 rfl _ _ (w.heap.size + 1) _ _ _ rfl HX9.out) rfl ?_
    rw [HQ.out]
    exact ⟨rfl, HB9.out⟩
  have htl : (⟨#[65, 78, 68]⟩ : ByteArray).toList = [65, 78, 68] := by decide +kernel
  have HTl := Lib.hid htl
  clear htl
  by_cases hs : yp.2.1 = 0
  · have HQ0 := Lib.hid (show askV R (.mk 4 ⟨#[65, 78, 68]⟩ 0 0 ⟨#[]⟩ 0 0 [p, q]) = (noV, yp.2.1, 0) by rw [HAq.out]; unfold askH; rw [if_neg (by decide), if_neg (by decide), if_neg (show ¬ (([yp, yq] : List Wo).getD 0 noW).2.2 ≠ 0 from fun h => h hz), if_neg (by decide), if_neg (by decide), if_pos (show _ ∨ _ from Or.inl ⟨HTl.out, hs⟩)]; rfl)
    have HQ := HQ0
    have HX9 := Lib.hid (vbox3 hX (.int .i64 0) (.int .i64 0) (.string ⟨#[]⟩))
    have HB9 := Lib.hid (v3_below (K := w.heap.size) (N := w.heap.size + 1) (by omega) HBw4.out (.int .i64 0) (.int .i64 0) (.string ⟨#[]⟩))
    obtain ⟨b0, b1, b2, b3, b4, b5, b6⟩ := v3 hX
    clear hX
    go_wp2
    refine bodyPost_ret (results_v3 rfl _ _ (w.heap.size + 1) _ _ _ rfl HX9.out) rfl ?_
    rw [HQ.out]
    exact ⟨rfl, HB9.out⟩
  have hsn : (yp.2.1 == 0) = false := by simp [hs]
  have hsc : ¬ (((⟨#[65, 78, 68]⟩ : ByteArray).toList = [65, 78, 68] ∧ (([yp, yq] : List Wo).getD 0 noW).2.1 = 0) ∨ ((⟨#[65, 78, 68]⟩ : ByteArray).toList = [79, 82] ∧ (([yp, yq] : List Wo).getD 0 noW).2.1 = 1)) := by rw [HTl.out]; simp [hs]
  have HSc := Lib.hid hsc
  clear hsc
  obtain ⟨a0, a1, a2, a3, a4, a5, a6, a7⟩ := HAtq.out w4 HBw4.out
  have hbw : b < w4.heap.size := Nat.lt_of_lt_of_le HBl.out HBw4.out.size
  clear n0 n1 n2 n6 m0 m1 m2 m6 hX
  go_wp2_with fail
  refine (HIHq.out _ Wb a len cap Q _ (HR.out.below HBw4.out) (HC.out w4 HB14.out).2.2.1 (HCvq.out w4 HBw4.out)).mono ?_
  rintro e' w5 ⟨rfl, hb5⟩
  rw [← HYq.out]
  have HB45 := Lib.hid (show Below w4.heap.size w4 w5 from hb5)
  clear hb5 e0 e1 e2 e3 e4 e5 e6 e7 a0 a1 a2 a3 a4 a5 a6 a7 c6 c5 hbw
  go_upto_region 30 with (fail)
  have HN16 := Lib.hid (Go.heap_alloc_new w5 (.cells #[.int .i64 yq.1.1, .int .i64 yq.1.2.1, .string yq.1.2.2] 38 (0, 0)))
  have HB56 := Lib.hid (show Below w5.heap.size w5 (w5.alloc (.cells #[.int .i64 yq.1.1, .int .i64 yq.1.2.1, .string yq.1.2.2] 38)) from bel0 _ (Below.refl _ _))
  generalize (w5.alloc (.cells #[.int .i64 yq.1.1, .int .i64 yq.1.2.1, .string yq.1.2.2] 38)) = w6 at *
  have HB46 := Lib.hid (bt HB45.out HB56.out)
  have HB16 := Lib.hid (bt HB14.out HB46.out)
  have HBw6 := Lib.hid (bt HBw4.out HB46.out)
  have HN8c := Lib.hid ((HB46.out.block _ (Array.getElem?_eq_some_iff.1 HN8b.out).1).trans HN8b.out)
  have HN11c := Lib.hid ((HB46.out.block _ (Array.getElem?_eq_some_iff.1 HN11.out).1).trans HN11.out)
  obtain ⟨n0, n1, n2, -, -, -, n6⟩ := v3 HN8c.out
  obtain ⟨m0, m1, m2, -, -, -, m6⟩ := v3 HN11c.out
  obtain ⟨l0, l1, l2, -, -, -, l6⟩ := v3 HN16.out
  obtain ⟨hE, hX, -, c6, c5⟩ := HC.out w6 HB16.out
  obtain ⟨e0, e1, e2, e3, e4, e5, e6, e7⟩ := cellsE hE
  clear hE
  by_cases hz2 : yq.2.2 = 0
  rotate_left
  · have hne : (yq.2.2 != 0) = true := by simp [hz2]
    have HQ := Lib.hid (show askV R (.mk 4 ⟨#[65, 78, 68]⟩ 0 0 ⟨#[]⟩ 0 0 [p, q]) = (noV, 0, yq.2.2) by rw [HAq.out]; unfold askH; rw [if_neg (by decide), if_neg (by decide), if_neg (show ¬ (([yp, yq] : List Wo).getD 0 noW).2.2 ≠ 0 from fun h => h hz), if_neg (by decide), if_neg (by decide), if_neg HSc.out, if_pos (show (([yp, yq] : List Wo).getD 1 noW).2.2 ≠ 0 from hz2)]; rfl)
    have HX9 := Lib.hid (vbox3 hX (.int .i64 0) (.int .i64 0) (.string ⟨#[]⟩))
    have HB9 := Lib.hid (v3_below (K := w.heap.size) (N := w.heap.size + 1) (by omega) HBw6.out (.int .i64 0) (.int .i64 0) (.string ⟨#[]⟩))
    obtain ⟨b0, b1, b2, b3, b4, b5, b6⟩ := v3 hX
    clear hX
    go_wp2
    refine bodyPost_ret (results_v3 rfl _ _ (w.heap.size + 1) _ _ _ rfl HX9.out) rfl ?_
    rw [HQ.out]
    exact ⟨rfl, HB9.out⟩
  clear HN8 HN11 HN8b HN11c HN16
  go_wp2_with fail
  refine (reckons14_any _ _).mono ?_
  rintro e' w9 ⟨rfl, hw9⟩
  obtain rfl := hw9.symm
  rw [show reckB ⟨#[65, 78, 68]⟩ = false by decide +kernel]
  go_upto_region 36 with (fail)
  have j0 := Fut.cell n0
  have j1 := Fut.cell n1
  have j2 := Fut.cell n2
  have k1 := Fut.cell e1
  clear n0 n1 n2 m0 m1 m2 l0 l1 l2 e0 e1 e2 e3 e4 e5 e6 e7
  refine wp_region_fut_tail 6 (by kernel_rfl) (by kernel_rfl) ?_
  simp only [List.take_succ_cons, List.take_zero, List.drop_succ_cons, List.drop_zero]
  repeat (go_big_quiet_step ((go_at_call 114; exact calls_fut ((vand_any _ _ _).mono (fun _ _ ⟨h1, h2⟩ => ⟨h1, h2 ▸ Below.refl _ _⟩)))))
  refine wpQuiet_nil ?_
  intro s
  have hb7 := s.bel
  generalize s.to = w7 at *
  clear s j0 j1 j2 k1
  have HBw7 := Lib.hid (bt HBw6.out hb7)
  have HQ := Lib.hid (show askV R (.mk 4 ⟨#[65, 78, 68]⟩ 0 0 ⟨#[]⟩ 0 0 [p, q]) = (noV, andI yp.2.1 yq.2.1, 0) by rw [HAq.out]; unfold askH; rw [if_neg (by decide), if_neg (by decide), if_neg (show ¬ (([yp, yq] : List Wo).getD 0 noW).2.2 ≠ 0 from fun h => h hz), if_neg (by decide), if_neg (by decide), if_neg HSc.out, if_neg (show ¬ (([yp, yq] : List Wo).getD 1 noW).2.2 ≠ 0 from fun h => h hz2), if_neg (by decide +kernel), if_pos HTl.out]; rfl)
  have hX := (hb7.block _ c6).trans hX
  have HX9 := Lib.hid (vbox3 hX (.int .i64 0) (.int .i64 0) (.string ⟨#[]⟩))
  have HB9 := Lib.hid (v3_below (K := w.heap.size) (N := w.heap.size + 1) (by omega) HBw7.out (.int .i64 0) (.int .i64 0) (.string ⟨#[]⟩))
  obtain ⟨b0, b1, b2, b3, b4, b5, b6⟩ := v3 hX
  clear hX
  go_wp2
  refine bodyPost_ret (results_v3 rfl _ _ (w.heap.size + 1) _ _ _ rfl HX9.out) rfl ?_
  rw [HQ.out]
  exact ⟨rfl, HB9.out⟩
end Go.Proofs.Ytafhgilikcablaa
namespace Go.Proofs.Ytafhgilikcablaa
open Go.RowKit
set_option linter.unusedVariables false
set_option linter.unusedSimpArgs false
set_option maxRecDepth 100000
set_option maxHeartbeats 12800000 in
theorem ask_or (R : List (List Val)) (op : ByteArray) (p q : CT) (ho : op = ⟨#[79, 82]⟩) (IHp : AskI R p) (IHq : AskI R q) : AskI R (.mk 4 op 0 0 ⟨#[]⟩ 0 0 [p, q]) := by
  subst ho
  intro w Wb a len cap Q v hR hW hv
  obtain ⟨sa, sc, rfl, hrg, hel⟩ := hv
  obtain ⟨b, off, pa, pc, hsa, hbl, hat, hprg, hpl⟩ := hel.at (i := 0) (by simp [CT.parts])
  subst hsa
  have hat : CAt w b (off + 0 * 8) p pa pc := hat
  have hprg : CRg p pa pc := hprg
  have hpl : CL w Q pa p.parts := hpl
  rw [show off + 0 * 8 = off from rfl] at hat
  have HCvp := Lib.hid (show ∀ W, Below w.heap.size w W → CV W Q (.agg #[.int .i64 p.kind, .string p.op, .int .i64 p.vk, .int .i64 p.vn, .string p.vs, .int .i64 p.src, .int .i64 p.col, .slice pa p.parts.length pc]) p from fun W hW => ⟨pa, pc, rfl, hprg, hpl.keep hW⟩)
  have HAtp := Lib.hid (show ∀ W, Below w.heap.size w W → CAt W b (off) p pa pc from fun W hW => hat.below hbl hW)
  have HIHp := Lib.hid IHp
  obtain ⟨b', off', qa, qc, hsa', hbl', hat', hprg', hpl'⟩ := hel.at (i := 1) (by simp [CT.parts])
  cases hsa'
  have hat' : CAt w b (off + 1 * 8) q qa qc := hat'
  have hprg' : CRg q qa qc := hprg'
  have hpl' : CL w Q qa q.parts := hpl'
  rw [show off + 1 * 8 = off + 8 from rfl] at hat'
  have HCvq := Lib.hid (show ∀ W, Below w.heap.size w W → CV W Q (.agg #[.int .i64 q.kind, .string q.op, .int .i64 q.vk, .int .i64 q.vn, .string q.vs, .int .i64 q.src, .int .i64 q.col, .slice qa q.parts.length qc]) q from fun W hW => ⟨qa, qc, rfl, hprg', hpl'.keep hW⟩)
  have HAtq := Lib.hid (show ∀ W, Below w.heap.size w W → CAt W b (off + 8) q qa qc from fun W hW => hat'.below hbl' hW)
  have HIHq := Lib.hid IHq
  have HBl := Lib.hid hbl
  have HR := Lib.hid hR
  have HWo := Lib.hid hW
  have hWl := (Array.getElem?_eq_some_iff.1 hW).1
  have HWl := Lib.hid hWl
  have e0 : (ctX (.mk 4 ⟨#[79, 82]⟩ 0 0 ⟨#[]⟩ 0 0 [p, q]) (some ⟨b, off, none⟩) sc).toArray = #[.int .i64 4, .string ⟨#[79, 82]⟩, .int .i64 0, .int .i64 0, .string ⟨#[]⟩, .int .i64 0, .int .i64 0, .slice (some ⟨b, off, none⟩) 2 sc] := rfl
  rw [e0]
  obtain ⟨yp, hyp⟩ : ∃ y, y = askV R p := ⟨_, rfl⟩
  have HYp := Lib.hid hyp
  obtain ⟨yq, hyq⟩ : ∃ y, y = askV R q := ⟨_, rfl⟩
  have HYq := Lib.hid hyq
  have HAq := Lib.hid (show askV R (.mk 4 ⟨#[79, 82]⟩ 0 0 ⟨#[]⟩ 0 0 [p, q]) = askH R 4 ⟨#[79, 82]⟩ (0, 0, ⟨#[]⟩) 0 0 [yp, yq] by rw [hyp, hyq]; rfl)
  have HB := Lib.hid (bel0 (.cells #[.int .i64 0, .int .i64 0, .string ⟨#[]⟩] 38) (bel0 (.cells #[.int .i64 4, .string ⟨#[79, 82]⟩, .int .i64 0, .int .i64 0, .string ⟨#[]⟩, .int .i64 0, .int .i64 0, .slice (some ⟨b, off, none⟩) 2 sc] 56) (Below.refl w.heap.size w)))
  have HBX := Lib.hid (boxes2 w (.cells #[.int .i64 4, .string ⟨#[79, 82]⟩, .int .i64 0, .int .i64 0, .string ⟨#[]⟩, .int .i64 0, .int .i64 0, .slice (some ⟨b, off, none⟩) 2 sc] 56 (0, 0)) (.cells #[.int .i64 0, .int .i64 0, .string ⟨#[]⟩] 38 (0, 0)))
  clear hR hW hrg hel e0 IHp IHq hyp hyq hat hprg hpl hbl hWl hat' hprg' hpl' hbl'
  go_enter Try.func71, Try.ntmps71
  go_upto_region 1 with (fail)
  generalize ((w.alloc (.cells #[.int .i64 4, .string ⟨#[79, 82]⟩, .int .i64 0, .int .i64 0, .string ⟨#[]⟩, .int .i64 0, .int .i64 0, .slice (some ⟨b, off, none⟩) 2 sc] 56)).alloc (.cells #[.int .i64 0, .int .i64 0, .string ⟨#[]⟩] 38)) = w1 at *
  have HC := Lib.hid (show ∀ W : World, Below w1.heap.size w1 W → W.heap[w.heap.size]? = some (.cells #[.int .i64 4, .string ⟨#[79, 82]⟩, .int .i64 0, .int .i64 0, .string ⟨#[]⟩, .int .i64 0, .int .i64 0, .slice (some ⟨b, off, none⟩) 2 sc] 56 (0, 0)) ∧ W.heap[w.heap.size + 1]? = some (.cells #[.int .i64 0, .int .i64 0, .string ⟨#[]⟩] 38 (0, 0)) ∧ W.heap[Wb]? = some (.cells #[.slice a len cap, .slice none 0 0, .slice none 0 0, .slice none 0 0, .bool false] 134 (0, 0)) ∧ w.heap.size + 1 < W.heap.size ∧ w.heap.size < W.heap.size from fun W h => by
    obtain ⟨⟨h0, h1⟩, hz⟩ := HBX.out
    have k2 := (h.block (w.heap.size + 1) (by omega)).trans h1
    have := HWl.out
    exact ⟨(h.block w.heap.size (by omega)).trans h0, k2, (h.block Wb (by omega)).trans ((HB.out.block Wb this).trans HWo.out), (Array.getElem?_eq_some_iff.1 k2).1, by have := (Array.getElem?_eq_some_iff.1 k2).1; omega⟩)
  obtain ⟨hE, -, hWy, c6, c5⟩ := HC.out w1 (Below.refl _ _)
  obtain ⟨q0, q4, q5⟩ := worthy5 hWy
  clear hE hWy
  go_upto_region 9 with (fail)
  have HN8 := Lib.hid (Go.heap_alloc_new w1 (.cells #[.int .i64 0, .int .i64 0, .string ⟨#[]⟩] 38 (0, 0)))
  have HB12 := Lib.hid (show Below w1.heap.size w1 (w1.alloc (.cells #[.int .i64 0, .int .i64 0, .string ⟨#[]⟩] 38)) from bel0 _ (Below.refl _ _))
  generalize (w1.alloc (.cells #[.int .i64 0, .int .i64 0, .string ⟨#[]⟩] 38)) = w2 at *
  have HBw2 := Lib.hid (bt HB.out HB12.out)
  obtain ⟨hE, -, -, c6, c5⟩ := HC.out w2 HB12.out
  obtain ⟨e0, e1, e2, e3, e4, e5, e6, e7⟩ := cellsE hE
  obtain ⟨a0, a1, a2, a3, a4, a5, a6, a7⟩ := HAtp.out w2 HBw2.out
  have hbw : b < w2.heap.size := Nat.lt_of_lt_of_le HBl.out HBw2.out.size
  clear hE q0 q4 q5
  go_wp2_with fail
  refine (HIHp.out _ Wb a len cap Q _ (HR.out.below HBw2.out) (HC.out w2 HB12.out).2.2.1 (HCvp.out w2 HBw2.out)).mono ?_
  rintro e' w3 ⟨rfl, hb3⟩
  rw [← HYp.out]
  have HB23 := Lib.hid (show Below w2.heap.size w2 w3 from hb3)
  clear hb3 e0 e1 e2 e3 e4 e5 e6 e7 a0 a1 a2 a3 a4 a5 a6 a7 c6 c5 hbw
  go_upto_region 18 with (fail)
  have HN11 := Lib.hid (Go.heap_alloc_new w3 (.cells #[.int .i64 yp.1.1, .int .i64 yp.1.2.1, .string yp.1.2.2] 38 (0, 0)))
  have HB34 := Lib.hid (show Below w3.heap.size w3 (w3.alloc (.cells #[.int .i64 yp.1.1, .int .i64 yp.1.2.1, .string yp.1.2.2] 38)) from bel0 _ (Below.refl _ _))
  generalize (w3.alloc (.cells #[.int .i64 yp.1.1, .int .i64 yp.1.2.1, .string yp.1.2.2] 38)) = w4 at *
  have HB24 := Lib.hid (bt HB23.out HB34.out)
  have HB14 := Lib.hid (bt HB12.out HB24.out)
  have HBw4 := Lib.hid (bt HB.out HB14.out)
  have HN8b := Lib.hid ((HB24.out.block _ (Array.getElem?_eq_some_iff.1 HN8.out).1).trans HN8.out)
  obtain ⟨n0, n1, n2, -, -, -, n6⟩ := v3 HN8b.out
  obtain ⟨m0, m1, m2, -, -, -, m6⟩ := v3 HN11.out
  obtain ⟨hE, hX, -, c6, c5⟩ := HC.out w4 HB14.out
  obtain ⟨e0, e1, e2, e3, e4, e5, e6, e7⟩ := cellsE hE
  clear hE
  by_cases hz : yp.2.2 = 0
  rotate_left
  · have hne : (yp.2.2 != 0) = true := by simp [hz]
    have HQ := Lib.hid (show askV R (.mk 4 ⟨#[79, 82]⟩ 0 0 ⟨#[]⟩ 0 0 [p, q]) = (noV, 0, yp.2.2) by rw [HAq.out]; unfold askH; rw [if_neg (by decide), if_neg (by decide), if_pos (show ((yp :: _ : List Wo).getD 0 noW).2.2 ≠ 0 from hz)]; rfl)
    have HX9 := Lib.hid (vbox3 hX (.int .i64 0) (.int .i64 0) (.string ⟨#[]⟩))
    have HB9 := Lib.hid (v3_below (K := w.heap.size) (N := w.heap.size + 1) (by omega) HBw4.out (.int .i64 0) (.int .i64 0) (.string ⟨#[]⟩))
    obtain ⟨b0, b1, b2, b3, b4, b5, b6⟩ := v3 hX
    clear hX
    go_wp2
    refine bodyPost_ret (results_v3 rfl _ _ (w.heap.size + 1) _ _ _ rfl HX9.out) rfl ?_
    rw [HQ.out]
    exact ⟨rfl, HB9.out⟩
  have htl : (⟨#[79, 82]⟩ : ByteArray).toList = [79, 82] := by decide +kernel
  have HTl := Lib.hid htl
  clear htl
  by_cases hs : yp.2.1 = 1
  · have HQ0 := Lib.hid (show askV R (.mk 4 ⟨#[79, 82]⟩ 0 0 ⟨#[]⟩ 0 0 [p, q]) = (noV, yp.2.1, 0) by rw [HAq.out]; unfold askH; rw [if_neg (by decide), if_neg (by decide), if_neg (show ¬ (([yp, yq] : List Wo).getD 0 noW).2.2 ≠ 0 from fun h => h hz), if_neg (by decide), if_neg (by decide), if_pos (show _ ∨ _ from Or.inr ⟨HTl.out, hs⟩)]; rfl)
    have HQ := HQ0
    have HX9 := Lib.hid (vbox3 hX (.int .i64 0) (.int .i64 0) (.string ⟨#[]⟩))
    have HB9 := Lib.hid (v3_below (K := w.heap.size) (N := w.heap.size + 1) (by omega) HBw4.out (.int .i64 0) (.int .i64 0) (.string ⟨#[]⟩))
    obtain ⟨b0, b1, b2, b3, b4, b5, b6⟩ := v3 hX
    clear hX
    go_wp2
    refine bodyPost_ret (results_v3 rfl _ _ (w.heap.size + 1) _ _ _ rfl HX9.out) rfl ?_
    rw [HQ.out]
    exact ⟨rfl, HB9.out⟩
  have hsn : (yp.2.1 == 1) = false := by simp [hs]
  have hsc : ¬ (((⟨#[79, 82]⟩ : ByteArray).toList = [65, 78, 68] ∧ (([yp, yq] : List Wo).getD 0 noW).2.1 = 0) ∨ ((⟨#[79, 82]⟩ : ByteArray).toList = [79, 82] ∧ (([yp, yq] : List Wo).getD 0 noW).2.1 = 1)) := by rw [HTl.out]; simp [hs]
  have HSc := Lib.hid hsc
  clear hsc
  obtain ⟨a0, a1, a2, a3, a4, a5, a6, a7⟩ := HAtq.out w4 HBw4.out
  have hbw : b < w4.heap.size := Nat.lt_of_lt_of_le HBl.out HBw4.out.size
  clear n0 n1 n2 n6 m0 m1 m2 m6 hX
  go_wp2_with fail
  refine (HIHq.out _ Wb a len cap Q _ (HR.out.below HBw4.out) (HC.out w4 HB14.out).2.2.1 (HCvq.out w4 HBw4.out)).mono ?_
  rintro e' w5 ⟨rfl, hb5⟩
  rw [← HYq.out]
  have HB45 := Lib.hid (show Below w4.heap.size w4 w5 from hb5)
  clear hb5 e0 e1 e2 e3 e4 e5 e6 e7 a0 a1 a2 a3 a4 a5 a6 a7 c6 c5 hbw
  go_upto_region 30 with (fail)
  have HN16 := Lib.hid (Go.heap_alloc_new w5 (.cells #[.int .i64 yq.1.1, .int .i64 yq.1.2.1, .string yq.1.2.2] 38 (0, 0)))
  have HB56 := Lib.hid (show Below w5.heap.size w5 (w5.alloc (.cells #[.int .i64 yq.1.1, .int .i64 yq.1.2.1, .string yq.1.2.2] 38)) from bel0 _ (Below.refl _ _))
  generalize (w5.alloc (.cells #[.int .i64 yq.1.1, .int .i64 yq.1.2.1, .string yq.1.2.2] 38)) = w6 at *
  have HB46 := Lib.hid (bt HB45.out HB56.out)
  have HB16 := Lib.hid (bt HB14.out HB46.out)
  have HBw6 := Lib.hid (bt HBw4.out HB46.out)
  have HN8c := Lib.hid ((HB46.out.block _ (Array.getElem?_eq_some_iff.1 HN8b.out).1).trans HN8b.out)
  have HN11c := Lib.hid ((HB46.out.block _ (Array.getElem?_eq_some_iff.1 HN11.out).1).trans HN11.out)
  obtain ⟨n0, n1, n2, -, -, -, n6⟩ := v3 HN8c.out
  obtain ⟨m0, m1, m2, -, -, -, m6⟩ := v3 HN11c.out
  obtain ⟨l0, l1, l2, -, -, -, l6⟩ := v3 HN16.out
  obtain ⟨hE, hX, -, c6, c5⟩ := HC.out w6 HB16.out
  obtain ⟨e0, e1, e2, e3, e4, e5, e6, e7⟩ := cellsE hE
  clear hE
  by_cases hz2 : yq.2.2 = 0
  rotate_left
  · have hne : (yq.2.2 != 0) = true := by simp [hz2]
    have HQ := Lib.hid (show askV R (.mk 4 ⟨#[79, 82]⟩ 0 0 ⟨#[]⟩ 0 0 [p, q]) = (noV, 0, yq.2.2) by rw [HAq.out]; unfold askH; rw [if_neg (by decide), if_neg (by decide), if_neg (show ¬ (([yp, yq] : List Wo).getD 0 noW).2.2 ≠ 0 from fun h => h hz), if_neg (by decide), if_neg (by decide), if_neg HSc.out, if_pos (show (([yp, yq] : List Wo).getD 1 noW).2.2 ≠ 0 from hz2)]; rfl)
    have HX9 := Lib.hid (vbox3 hX (.int .i64 0) (.int .i64 0) (.string ⟨#[]⟩))
    have HB9 := Lib.hid (v3_below (K := w.heap.size) (N := w.heap.size + 1) (by omega) HBw6.out (.int .i64 0) (.int .i64 0) (.string ⟨#[]⟩))
    obtain ⟨b0, b1, b2, b3, b4, b5, b6⟩ := v3 hX
    clear hX
    go_wp2
    refine bodyPost_ret (results_v3 rfl _ _ (w.heap.size + 1) _ _ _ rfl HX9.out) rfl ?_
    rw [HQ.out]
    exact ⟨rfl, HB9.out⟩
  clear HN8 HN11 HN8b HN11c HN16
  go_wp2_with fail
  refine (reckons14_any _ _).mono ?_
  rintro e' w9 ⟨rfl, hw9⟩
  obtain rfl := hw9.symm
  rw [show reckB ⟨#[79, 82]⟩ = false by decide +kernel]
  go_upto_region 36 with (fail)
  have j0 := Fut.cell n0
  have j1 := Fut.cell n1
  have j2 := Fut.cell n2
  have k1 := Fut.cell e1
  clear n0 n1 n2 m0 m1 m2 l0 l1 l2 e0 e1 e2 e3 e4 e5 e6 e7
  refine wp_region_fut_tail 6 (by kernel_rfl) (by kernel_rfl) ?_
  simp only [List.take_succ_cons, List.take_zero, List.drop_succ_cons, List.drop_zero]
  repeat (go_big_quiet_step ((go_at_call 114; exact calls_fut ((vor_any _ _ _).mono (fun _ _ ⟨h1, h2⟩ => ⟨h1, h2 ▸ Below.refl _ _⟩)))))
  refine wpQuiet_nil ?_
  intro s
  have hb7 := s.bel
  generalize s.to = w7 at *
  clear s j0 j1 j2 k1
  have HBw7 := Lib.hid (bt HBw6.out hb7)
  have HQ := Lib.hid (show askV R (.mk 4 ⟨#[79, 82]⟩ 0 0 ⟨#[]⟩ 0 0 [p, q]) = (noV, orI yp.2.1 yq.2.1, 0) by rw [HAq.out]; unfold askH; rw [if_neg (by decide), if_neg (by decide), if_neg (show ¬ (([yp, yq] : List Wo).getD 0 noW).2.2 ≠ 0 from fun h => h hz), if_neg (by decide), if_neg (by decide), if_neg HSc.out, if_neg (show ¬ (([yp, yq] : List Wo).getD 1 noW).2.2 ≠ 0 from fun h => h hz2), if_neg (by decide +kernel), if_neg (by rw [HTl.out]; decide), if_pos HTl.out]; rfl)
  have hX := (hb7.block _ c6).trans hX
  have HX9 := Lib.hid (vbox3 hX (.int .i64 0) (.int .i64 0) (.string ⟨#[]⟩))
  have HB9 := Lib.hid (v3_below (K := w.heap.size) (N := w.heap.size + 1) (by omega) HBw7.out (.int .i64 0) (.int .i64 0) (.string ⟨#[]⟩))
  obtain ⟨b0, b1, b2, b3, b4, b5, b6⟩ := v3 hX
  clear hX
  go_wp2
  refine bodyPost_ret (results_v3 rfl _ _ (w.heap.size + 1) _ _ _ rfl HX9.out) rfl ?_
  rw [HQ.out]
  exact ⟨rfl, HB9.out⟩
end Go.Proofs.Ytafhgilikcablaa
namespace Go.Proofs.Ytafhgilikcablaa
open Go.RowKit
set_option linter.unusedVariables false
set_option linter.unusedSimpArgs false
set_option maxRecDepth 100000
set_option maxHeartbeats 6400000 in
theorem ask_lit (R : List (List Val)) (vk vn : Int) (vs : ByteArray) : AskI R (.mk 1 ⟨#[]⟩ vk vn vs 0 0 []) := by
  intro w Wb a len cap Q v hR hW hv
  obtain ⟨sa, sc, rfl, hrg, hel⟩ := hv
  have HR := Lib.hid hR
  have HWo := Lib.hid hW
  have HWl := Lib.hid (Array.getElem?_eq_some_iff.1 hW).1
  have HRg := Lib.hid hrg
  have e0 : (ctX (.mk 1 ⟨#[]⟩ vk vn vs 0 0 []) sa sc).toArray = #[.int .i64 1, .string ⟨#[]⟩, .int .i64 vk, .int .i64 vn, .string vs, .int .i64 0, .int .i64 0, .slice sa 0 sc] := rfl
  rw [e0]
  have HB := Lib.hid (bel0 (.cells #[.int .i64 0, .int .i64 0, .string ⟨#[]⟩] 38) (bel0 (.cells #[.int .i64 1, .string ⟨#[]⟩, .int .i64 vk, .int .i64 vn, .string vs, .int .i64 0, .int .i64 0, .slice sa 0 sc] 56) (Below.refl w.heap.size w)))
  have HBX := Lib.hid (boxes2 w (.cells #[.int .i64 1, .string ⟨#[]⟩, .int .i64 vk, .int .i64 vn, .string vs, .int .i64 0, .int .i64 0, .slice sa 0 sc] 56 (0, 0)) (.cells #[.int .i64 0, .int .i64 0, .string ⟨#[]⟩] 38 (0, 0)))
  clear hR hW hrg hel e0
  go_enter Try.func71, Try.ntmps71
  go_upto_region 1 with (fail)
  generalize ((w.alloc (.cells #[.int .i64 1, .string ⟨#[]⟩, .int .i64 vk, .int .i64 vn, .string vs, .int .i64 0, .int .i64 0, .slice sa 0 sc] 56)).alloc (.cells #[.int .i64 0, .int .i64 0, .string ⟨#[]⟩] 38)) = w1 at *
  have HC := Lib.hid (show ∀ W : World, Below w1.heap.size w1 W → W.heap[w.heap.size]? = some (.cells #[.int .i64 1, .string ⟨#[]⟩, .int .i64 vk, .int .i64 vn, .string vs, .int .i64 0, .int .i64 0, .slice sa 0 sc] 56 (0, 0)) ∧ W.heap[w.heap.size + 1]? = some (.cells #[.int .i64 0, .int .i64 0, .string ⟨#[]⟩] 38 (0, 0)) ∧ W.heap[Wb]? = some (.cells #[.slice a len cap, .slice none 0 0, .slice none 0 0, .slice none 0 0, .bool false] 134 (0, 0)) ∧ w.heap.size + 1 < W.heap.size ∧ w.heap.size < W.heap.size from fun W h => by
    obtain ⟨⟨h0, h1⟩, hz⟩ := HBX.out
    have k2 := (h.block (w.heap.size + 1) (by omega)).trans h1
    have := HWl.out
    exact ⟨(h.block w.heap.size (by omega)).trans h0, k2, (h.block Wb (by omega)).trans ((HB.out.block Wb this).trans HWo.out), (Array.getElem?_eq_some_iff.1 k2).1, by have := (Array.getElem?_eq_some_iff.1 k2).1; omega⟩)
  obtain ⟨hE, -, hWy, c6, c5⟩ := HC.out w1 (Below.refl _ _)
  obtain ⟨q0, q4, q5⟩ := worthy5 hWy
  clear hE hWy
  go_upto_region 9 with (fail)
  have HB12 := Lib.hid (show Below w1.heap.size w1 (w1.alloc (.cells #[.int .i64 0, .int .i64 0, .string ⟨#[]⟩] 38)) from bel0 _ (Below.refl _ _))
  generalize (w1.alloc (.cells #[.int .i64 0, .int .i64 0, .string ⟨#[]⟩] 38)) = w2 at *
  have HBw2 := Lib.hid (bt HB.out HB12.out)
  obtain ⟨hE, hX, hWy, c6, c5⟩ := HC.out w2 HB12.out
  obtain ⟨e0, e1, e2, e3, e4, e5, e6, e7⟩ := cellsE hE
  clear hE q0 q4 q5
  clear hWy
  have HQ := Lib.hid (show askV R (.mk 1 ⟨#[]⟩ vk vn vs 0 0 []) = ((vk, vn, vs), 0, 0) from rfl)
  have HX9 := Lib.hid (vbox3 hX (.int .i64 vk) (.int .i64 vn) (.string vs))
  have HB9 := Lib.hid (v3_below (K := w.heap.size) (N := w.heap.size + 1) (by omega) HBw2.out (.int .i64 vk) (.int .i64 vn) (.string vs))
  obtain ⟨b0, b1, b2, b3, b4, b5, b6⟩ := v3 hX
  clear hX
  go_wp2
  refine bodyPost_ret (results_v3 rfl _ _ (w.heap.size + 1) _ _ _ rfl HX9.out) rfl ?_
  rw [HQ.out]
  exact ⟨rfl, HB9.out⟩
set_option maxHeartbeats 6400000 in
theorem ask_col (R : List (List Val)) (I J : Nat) : AskI R (.mk 2 ⟨#[]⟩ 0 0 ⟨#[]⟩ (I : Int) (J : Int) []) := by
  intro w Wb a len cap Q v hR hW hv
  obtain ⟨sa, sc, rfl, hrg, hel⟩ := hv
  have HR := Lib.hid hR
  have HWo := Lib.hid hW
  have HWl := Lib.hid (Array.getElem?_eq_some_iff.1 hW).1
  have HRg := Lib.hid hrg
  have e0 : (ctX (.mk 2 ⟨#[]⟩ 0 0 ⟨#[]⟩ (I : Int) (J : Int) []) sa sc).toArray = #[.int .i64 2, .string ⟨#[]⟩, .int .i64 0, .int .i64 0, .string ⟨#[]⟩, .int .i64 (I : Int), .int .i64 (J : Int), .slice sa 0 sc] := rfl
  rw [e0]
  have HB := Lib.hid (bel0 (.cells #[.int .i64 0, .int .i64 0, .string ⟨#[]⟩] 38) (bel0 (.cells #[.int .i64 2, .string ⟨#[]⟩, .int .i64 0, .int .i64 0, .string ⟨#[]⟩, .int .i64 (I : Int), .int .i64 (J : Int), .slice sa 0 sc] 56) (Below.refl w.heap.size w)))
  have HBX := Lib.hid (boxes2 w (.cells #[.int .i64 2, .string ⟨#[]⟩, .int .i64 0, .int .i64 0, .string ⟨#[]⟩, .int .i64 (I : Int), .int .i64 (J : Int), .slice sa 0 sc] 56 (0, 0)) (.cells #[.int .i64 0, .int .i64 0, .string ⟨#[]⟩] 38 (0, 0)))
  clear hR hW hrg hel e0
  go_enter Try.func71, Try.ntmps71
  go_upto_region 1 with (fail)
  generalize ((w.alloc (.cells #[.int .i64 2, .string ⟨#[]⟩, .int .i64 0, .int .i64 0, .string ⟨#[]⟩, .int .i64 (I : Int), .int .i64 (J : Int), .slice sa 0 sc] 56)).alloc (.cells #[.int .i64 0, .int .i64 0, .string ⟨#[]⟩] 38)) = w1 at *
  have HC := Lib.hid (show ∀ W : World, Below w1.heap.size w1 W → W.heap[w.heap.size]? = some (.cells #[.int .i64 2, .string ⟨#[]⟩, .int .i64 0, .int .i64 0, .string ⟨#[]⟩, .int .i64 (I : Int), .int .i64 (J : Int), .slice sa 0 sc] 56 (0, 0)) ∧ W.heap[w.heap.size + 1]? = some (.cells #[.int .i64 0, .int .i64 0, .string ⟨#[]⟩] 38 (0, 0)) ∧ W.heap[Wb]? = some (.cells #[.slice a len cap, .slice none 0 0, .slice none 0 0, .slice none 0 0, .bool false] 134 (0, 0)) ∧ w.heap.size + 1 < W.heap.size ∧ w.heap.size < W.heap.size from fun W h => by
    obtain ⟨⟨h0, h1⟩, hz⟩ := HBX.out
    have k2 := (h.block (w.heap.size + 1) (by omega)).trans h1
    have := HWl.out
    exact ⟨(h.block w.heap.size (by omega)).trans h0, k2, (h.block Wb (by omega)).trans ((HB.out.block Wb this).trans HWo.out), (Array.getElem?_eq_some_iff.1 k2).1, by have := (Array.getElem?_eq_some_iff.1 k2).1; omega⟩)
  obtain ⟨hE, -, hWy, c6, c5⟩ := HC.out w1 (Below.refl _ _)
  obtain ⟨q0, q4, q5⟩ := worthy5 hWy
  clear hE hWy
  go_upto_region 9 with (fail)
  have HB12 := Lib.hid (show Below w1.heap.size w1 (w1.alloc (.cells #[.int .i64 0, .int .i64 0, .string ⟨#[]⟩] 38)) from bel0 _ (Below.refl _ _))
  generalize (w1.alloc (.cells #[.int .i64 0, .int .i64 0, .string ⟨#[]⟩] 38)) = w2 at *
  have HBw2 := Lib.hid (bt HB.out HB12.out)
  obtain ⟨hE, hX, hWy, c6, c5⟩ := HC.out w2 HB12.out
  obtain ⟨e0, e1, e2, e3, e4, e5, e6, e7⟩ := cellsE hE
  clear hE q0 q4 q5
  obtain ⟨q0, q4, q5⟩ := worthy5 hWy
  have hq0 := Lib.hid q0
  clear hWy hX q4
  have hI := (bounds_i64 HRg.out.t).2
  have hJ := (bounds_i64 HRg.out.c).2
  have HI := Lib.hid (show (I : Int) ≤ 9223372036854775807 from hI)
  have HJ := Lib.hid (show (J : Int) ≤ 9223372036854775807 from hJ)
  clear hI hJ q0
  go_wp2_with fail
  refine (rcolumnK_any 2 (.slice sa 0 sc) Wb a len cap R I J w2 (HR.out.below HBw2.out) HI.out HJ.out hq0.out).mono ?_
  rintro e' w3 ⟨rfl, hb3⟩
  obtain ⟨y, hy⟩ : ∃ y, y = colF R I J := ⟨_, rfl⟩
  have HQ := Lib.hid (show askV R (.mk 2 ⟨#[]⟩ 0 0 ⟨#[]⟩ (I : Int) (J : Int) []) = (y.1, 0, y.2) by rw [hy]; rfl)
  rw [← hy]
  clear hy
  unfold valV
  have HB23 := Lib.hid (show Below w2.heap.size w2 w3 from hb3)
  clear hb3 e0 e1 e2 e3 e4 e5 e6 e7 c6 c5 q5
  go_upto_region 14 with (fail)
  have HN9 := Lib.hid (Go.heap_alloc_new w3 (.cells #[.int .i64 y.1.1, .int .i64 y.1.2.1, .string y.1.2.2] 38 (0, 0)))
  have HB34 := Lib.hid (show Below w3.heap.size w3 (w3.alloc (.cells #[.int .i64 y.1.1, .int .i64 y.1.2.1, .string y.1.2.2] 38)) from bel0 _ (Below.refl _ _))
  generalize (w3.alloc (.cells #[.int .i64 y.1.1, .int .i64 y.1.2.1, .string y.1.2.2] 38)) = w4 at *
  have HB14 := Lib.hid (bt HB12.out (bt HB23.out HB34.out))
  have HBw4 := Lib.hid (bt HB.out HB14.out)
  obtain ⟨m0, m1, m2, -, -, -, m6⟩ := v3 HN9.out
  clear HN9
  obtain ⟨-, hX, -, c6, c5⟩ := HC.out w4 HB14.out
  have HX9 := Lib.hid (vbox3 hX (.int .i64 y.1.1) (.int .i64 y.1.2.1) (.string y.1.2.2))
  have HB9 := Lib.hid (v3_below (K := w.heap.size) (N := w.heap.size + 1) (by omega) HBw4.out (.int .i64 y.1.1) (.int .i64 y.1.2.1) (.string y.1.2.2))
  obtain ⟨b0, b1, b2, b3, b4, b5, b6⟩ := v3 hX
  clear hX
  go_wp2
  refine bodyPost_ret (results_v3 rfl _ _ (w.heap.size + 1) _ _ _ rfl HX9.out) rfl ?_
  rw [HQ.out]
  exact ⟨rfl, HB9.out⟩
end Go.Proofs.Ytafhgilikcablaa
namespace Go.Proofs.Ytafhgilikcablaa
open Go.RowKit
set_option linter.unusedVariables false
set_option linter.unusedSimpArgs false
set_option maxRecDepth 100000
def OkW (x : Wo) : Prop := InR x.1.2.1
theorem ite_ok {p : Prop} [Decidable p] {a b : Wo} (ha : OkW a) (hb : OkW b) : OkW (if p then a else b) := by split <;> assumption
theorem okW_no (t e : Int) : OkW (noV, t, e) := (show InR 0 from ⟨by decide, by decide⟩)
theorem okW_rec (op : ByteArray) (a b : Val) : InR (recV op a b).2.1 := by
  show InR (recF op a.1 a.2.1 a.2.2 b.1 b.2.1 b.2.2).2.1
  have z : InR 0 := ⟨by decide, by decide⟩
  unfold recF
  split
  · exact z
  · split
    · exact z
    · split
      · exact z
      · split
        · rename_i hf
          exact (fitB_iff _).1 hf
        · exact z
theorem okW_arg {v : Val} (t e : Int) (h : InR v.2.1) : OkW (argF v t e) := ite_ok (okW_no _ _) h
theorem askH_ok {R : List (List Val)} (hR : RowsR R) {k : Int} (hk : k ≠ 1) (op : ByteArray) (v : Val) (s c : Int) (rs : List Wo) : OkW (askH R k op v s c rs) := by
  unfold askH
  rw [if_neg hk]
  exact ite_ok (colF_inR hR _ _) (ite_ok (okW_no _ _) (ite_ok (ite_ok (okW_no _ _) (okW_arg _ _ (okW_rec _ _ _))) (ite_ok (okW_no _ _) (ite_ok (okW_no _ _) (ite_ok (okW_no _ _) (ite_ok (okW_arg _ _ (okW_rec _ _ _)) (ite_ok (okW_no _ _) (ite_ok (okW_no _ _) (okW_arg _ _ (show InR 0 from ⟨by decide, by decide⟩))))))))))
theorem askV_inR {R : List (List Val)} (hR : RowsR R) {c : CT} {k : Int} (h : Wk c k) : InR (askV R c).1.2.1 := by
  cases h with
  | lit vk vn vs hf hn => exact hn
  | col s c k hk => exact askH_ok hR (by decide) _ _ _ _ _
  | not op p ho hp => exact askH_ok hR (by decide) _ _ _ _ _
  | neg op p k ho hk hp => exact askH_ok hR (by decide) _ _ _ _ _
  | test op p k ho hk hp => exact askH_ok hR (by decide) _ _ _ _ _
  | reck op p q k l ho hk hl hp hq => exact askH_ok hR (by decide) _ _ _ _ _
  | and op p q ho hp hq => exact askH_ok hR (by decide) _ _ _ _ _
  | or op p q ho hp hq => exact askH_ok hR (by decide) _ _ _ _ _
  | cmp op p q k l ho hk hl hp hq => exact askH_ok hR (by decide) _ _ _ _ _
theorem of_toList2 {s : ByteArray} {l : List UInt8} (h : s.toList = l) : s = ⟨l.toArray⟩ := by subst h; rw [ByteArray.toList_eq]
theorem ask_all {R : List (List Val)} (hR : RowsR R) {c : CT} {k : Int} (h : Wk c k) : AskI R c := by
  induction h with
  | lit vk vn vs hf hn => exact ask_lit R vk vn vs
  | col s c k hk => exact ask_col R s c
  | not op p ho hp ih => exact ask_not R op p ho ih
  | neg op p k ho hk hp ih => exact ask_neg R op p ho (askV_inR hR hp) ih
  | test op p k ho hk hp ih => exact ask_test R op p ih
  | reck op p q k l ho hk hl hp hq ih1 ih2 => exact ask_rec R op p q ho (askV_inR hR hp) (askV_inR hR hq) ih1 ih2
  | and op p q ho hp hq ih1 ih2 => exact ask_and R op p q (of_toList2 ho) ih1 ih2
  | or op p q ho hp hq ih1 ih2 => exact ask_or R op p q (of_toList2 ho) ih1 ih2
  | cmp op p q k l ho hk hl hp hq ih1 ih2 => exact ask_cmp R op p q ho ih1 ih2
set_option maxHeartbeats 3200000 in
theorem rworth_any {R : List (List Val)} (hRR : RowsR R) {c : CT} {k : Int} (h : Wk c k) (w : World) (a : Option Addr) (len cap : Nat) (Q : Nat → Prop) (v : Value) (hR : IsRR w a len R) (hv : CV w Q v c) :
    Calls Try.prog 31 #[v, .slice a len cap] w (AskP w (askV R c)) := by
  have HAll := Lib.hid (ask_all hRR h)
  obtain ⟨sa, sc, rfl, hrg, hel⟩ := hv
  have HCv := Lib.hid (show ∀ W, Below w.heap.size w W → CV W Q (.agg #[.int .i64 c.kind, .string c.op, .int .i64 c.vk, .int .i64 c.vn, .string c.vs, .int .i64 c.src, .int .i64 c.col, .slice sa c.parts.length sc]) c from fun W hW => ⟨sa, sc, rfl, hrg, hel.keep hW⟩)
  have HR := Lib.hid hR
  have e0 : (ctX c sa sc).toArray = #[.int .i64 c.kind, .string c.op, .int .i64 c.vk, .int .i64 c.vn, .string c.vs, .int .i64 c.src, .int .i64 c.col, .slice sa c.parts.length sc] := rfl
  rw [e0]
  have HB := Lib.hid (bel0 (.cells #[.int .i64 0, .int .i64 0, .string ⟨#[]⟩] 38) (bel0 (.cells #[.int .i64 c.kind, .string c.op, .int .i64 c.vk, .int .i64 c.vn, .string c.vs, .int .i64 c.src, .int .i64 c.col, .slice sa c.parts.length sc] 56) (Below.refl w.heap.size w)))
  have HBX := Lib.hid (boxes2 w (.cells #[.int .i64 c.kind, .string c.op, .int .i64 c.vk, .int .i64 c.vn, .string c.vs, .int .i64 c.src, .int .i64 c.col, .slice sa c.parts.length sc] 56 (0, 0)) (.cells #[.int .i64 0, .int .i64 0, .string ⟨#[]⟩] 38 (0, 0)))
  clear hR hrg hel e0
  go_enter Try.func31, Try.ntmps31
  go_upto_region 1 with (fail)
  generalize ((w.alloc (.cells #[.int .i64 c.kind, .string c.op, .int .i64 c.vk, .int .i64 c.vn, .string c.vs, .int .i64 c.src, .int .i64 c.col, .slice sa c.parts.length sc] 56)).alloc (.cells #[.int .i64 0, .int .i64 0, .string ⟨#[]⟩] 38)) = w1 at *
  obtain ⟨⟨hE, hX⟩, hz⟩ := HBX.out
  have HX := Lib.hid hX
  obtain ⟨e0, e1, e2, e3, e4, e5, e6, e7⟩ := cellsE hE
  have c5 : w.heap.size < w1.heap.size := by omega
  have HSz := Lib.hid hz
  clear hE hX hz HBX
  have HWn := Lib.hid (Go.heap_alloc_new w1 (.cells #[.slice a len cap, .slice none 0 0, .slice none 0 0, .slice none 0 0, .bool false] 134 (0, 0)))
  have HBn := Lib.hid (show Below w1.heap.size w1 (w1.alloc (.cells #[.slice a len cap, .slice none 0 0, .slice none 0 0, .slice none 0 0, .bool false] 134)) from bel0 _ (Below.refl _ _))
  go_wp2_with fail
  refine (HAll.out _ w1.heap.size a len cap Q _ (HR.out.below (bt HB.out HBn.out)) HWn.out (HCv.out _ (bt HB.out HBn.out))).mono ?_
  rintro e' w3 ⟨rfl, hb3⟩
  obtain ⟨y, hy⟩ : ∃ y, y = askV R c := ⟨_, rfl⟩
  have HQ := Lib.hid (show askV R c = (y.1, y.2.1, y.2.2) by rw [hy])
  rw [← hy]
  have HB13 := Lib.hid (bt HBn.out hb3)
  have HBw3 := Lib.hid (bt HB.out HB13.out)
  clear hb3 hy e0 e1 e2 e3 e4 e5 e6 e7 c5
  have hX := (HB13.out.block (w.heap.size + 1) (by have := HSz.out; omega)).trans HX.out
  have HX9 := Lib.hid (vbox3 hX (.int .i64 y.1.1) (.int .i64 y.1.2.1) (.string y.1.2.2))
  have HB9 := Lib.hid (v3_below (K := w.heap.size) (N := w.heap.size + 1) (by omega) HBw3.out (.int .i64 y.1.1) (.int .i64 y.1.2.1) (.string y.1.2.2))
  obtain ⟨b0, b1, b2, b3, b4, b5, b6⟩ := v3 hX
  clear hX
  go_wp2
  refine bodyPost_ret (results_v3 rfl _ _ (w.heap.size + 1) _ _ _ rfl HX9.out) rfl ?_
  rw [HQ.out]
  exact ⟨rfl, HB9.out⟩
end Go.Proofs.Ytafhgilikcablaa
