/- The writer's value: an arm a theorem. Written by gencw.py. -/
import Derived.Test.YtafhgilikcablaaCmW0
namespace Go.Proofs.Ytafhgilikcablaa
open Go.RowKit
set_option linter.unusedVariables false
set_option linter.unusedSimpArgs false
set_option maxRecDepth 100000
set_option maxHeartbeats 6400000 in
theorem vw_neg (op : ByteArray) (p : CT) (ho : op.toList = [45])  {kp : Int} (hwp : Wk p kp) (IHp : CmpI 75 p) : CmpI 75 (.mk 3 op 0 0 ⟨#[]⟩ 0 0 [p]) := by
  intro w N v xs rg r Q cv hst hv hQ hok
  obtain ⟨sa, sc, rfl, hrg, hel⟩ := hv
  have HRg := Lib.hid hrg
  have HEl := Lib.hid hel
  have HQ := Lib.hid hQ
  have HOk := Lib.hid hok
  have hsz : ctSz (.mk 3 op 0 0 ⟨#[]⟩ 0 0 [p]) = 1 + ctSz p := sz_one _ _ _
  have HSzC := Lib.hid hsz
  clear hsz
  obtain ⟨b, off, pa, pc, hsa, hbl, hat, hprg, hpl⟩ := hel.at (i := 0) (by simp [CT.parts])
  subst hsa
  have hqb : Q b := CL.qAt hel (by simp [CT.parts])
  have hat : CAt w b (off + 0 * 8) p pa pc := hat
  have hprg : CRg p pa pc := hprg
  have hpl : CL w Q pa p.parts := hpl
  rw [show off + 0 * 8 = off from rfl] at hat
  have HCvp := Lib.hid (show ∀ W, Below N w W → CV W Q (.agg #[.int .i64 p.kind, .string p.op, .int .i64 p.vk, .int .i64 p.vn, .string p.vs, .int .i64 p.src, .int .i64 p.col, .slice pa p.parts.length pc]) p from fun W hW => ⟨pa, pc, rfl, hprg, hpl.far hW.size (fun b hq _ => hW.block b (hQ b hq))⟩)
  have HAtp := Lib.hid (show ∀ W, Below N w W → CAt W b (off) p pa pc ∧ b < W.heap.size from fun W hW => ⟨hat.far (hW.block b (hQ b hqb)), Nat.lt_of_lt_of_le hbl hW.size⟩)
  have HIHp := Lib.hid IHp
  have HWkp := Lib.hid hwp
  have HCv := Lib.hid (show ∀ W, Below N w W → CV W Q (.agg #[.int .i64 3, .string op, .int .i64 0, .int .i64 0, .string ⟨#[]⟩, .int .i64 0, .int .i64 0, .slice (some ⟨b, off, none⟩) 1 sc]) (.mk 3 op 0 0 ⟨#[]⟩ 0 0 [p]) from fun W hW => ⟨_, sc, rfl, HRg.out, HEl.out.far hW.size (fun b hq _ => hW.block b (HQ.out b hq))⟩)
  have e0 : (ctX (.mk 3 op 0 0 ⟨#[]⟩ 0 0 [p]) (some ⟨b, off, none⟩) sc).toArray = #[.int .i64 3, .string op, .int .i64 0, .int .i64 0, .string ⟨#[]⟩, .int .i64 0, .int .i64 0, .slice (some ⟨b, off, none⟩) 1 sc] := rfl
  rw [e0]
  have hbl0 := hbl
  clear hbl hwp
  have hNlt := hst.low
  have hB1 := bel0 (.cells #[.int .i64 3, .string op, .int .i64 0, .int .i64 0, .string ⟨#[]⟩, .int .i64 0, .int .i64 0, .slice (some ⟨b, off, none⟩) 1 sc] 46) (Below.refl w.heap.size w)
  have HSt1 := Lib.hid (hst.below hB1)
  have HT := Lib.hid (show WTo N v v w (w.alloc (.cells #[.int .i64 3, .string op, .int .i64 0, .int .i64 0, .string ⟨#[]⟩, .int .i64 0, .int .i64 0, .slice (some ⟨b, off, none⟩) 1 sc] 46)) from .of_below hB1 (Nat.le_of_lt hst.low))
  have HBx := Lib.hid (Go.heap_alloc_new w (.cells #[.int .i64 3, .string op, .int .i64 0, .int .i64 0, .string ⟨#[]⟩, .int .i64 0, .int .i64 0, .slice (some ⟨b, off, none⟩) 1 sc] 46 (0, 0)))
  have HSz := Lib.hid (show (w.alloc (.cells #[.int .i64 3, .string op, .int .i64 0, .int .i64 0, .string ⟨#[]⟩, .int .i64 0, .int .i64 0, .slice (some ⟨b, off, none⟩) 1 sc] 46)).heap.size = w.heap.size + 1 by simp)
  have HOb := Lib.hid (own_blk hst)
  clear hB1 hst hQ hok hrg hel e0 IHp hqb hat hprg hpl
  go_enter Try.func75, Try.ntmps75
  go_upto_region 4 with (fail)
  generalize (w.alloc (.cells #[.int .i64 3, .string op, .int .i64 0, .int .i64 0, .string ⟨#[]⟩, .int .i64 0, .int .i64 0, .slice (some ⟨b, off, none⟩) 1 sc] 46)) = w1 at *
  have HC := Lib.hid (show ∀ (W : World) (v' : Value), WTo N v v' w1 W → W.heap[w.heap.size]? = some (.cells #[.int .i64 3, .string op, .int .i64 0, .int .i64 0, .string ⟨#[]⟩, .int .i64 0, .int .i64 0, .slice (some ⟨b, off, none⟩) 1 sc] 46 (0, 0)) ∧ w.heap.size < W.heap.size from fun W v' h => by
    have k0 := (h.block w.heap.size (by have := HSz.out; omega) (by omega) HOb.out).trans HBx.out
    exact ⟨k0, (Array.getElem?_eq_some_iff.1 k0).1⟩)
  have HTr := Lib.hid (show truB (.mk 3 op 0 0 ⟨#[]⟩ 0 0 [p]) = false by simp [truB, CT.kind, CT.op, reckP, ho])
  have HO := Lib.hid ho
  clear ho
  obtain ⟨hE, cN⟩ := HC.out w1 _ (WTo.refl N v w1)
  obtain ⟨e0, e1, e2, e3, e4, e5, e6, e7⟩ := cellsE hE
  clear hE
  go_wp2_with fail
  refine (truthful_any (.mk 3 op 0 0 ⟨#[]⟩ 0 0 [p]) _ Q _ (HCv.out _ HT.out.below)).mono ?_
  rintro e' wp ⟨rfl, hbp⟩
  rw [HTr.out]
  have HT0 := Lib.hid (show WTo N v v w1 wp from .of_below hbp (by have := HSz.out; omega))
  have HS0 := Lib.hid (HSt1.out.below hbp)
  clear hbp
  clear e0 e1 e2 e3 e4 e5 e6 e7 cN
  obtain ⟨hE, cN⟩ := HC.out wp _ HT0.out
  obtain ⟨e0, e1, e2, e3, e4, e5, e6, e7⟩ := cellsE hE
  clear hE
  obtain ⟨⟨a0, a1, a2, a3, a4, a5, a6, a7⟩, hbw⟩ := HAtp.out wp (HT.out.below.trans HT0.out.below)
  have HOp := Lib.hid (show WOk xs.length rg r (ctSz p) from ⟨by have := HOk.out.l; have := HSzC.out; omega, by have := HOk.out.r; have := HSzC.out; omega, HOk.out.lo, HOk.out.hi⟩)
  have HN3 := Lib.hid (cm_num HWkp.out HOp.out xs.length)
  go_wp2_with fail
  refine (HIHp.out _ N v xs rg r Q _ HS0.out (HCvp.out _ (HT.out.below.trans HT0.out.below)) HQ.out HOp.out).mono ?_
  rintro e' w3 ⟨rfl, v3, hs, ht⟩
  have HS3 := Lib.hid hs
  have HT3 := Lib.hid (HT0.out.trans ht)
  clear hs ht
  clear e0 e1 e2 e3 e4 e5 e6 e7 cN
  clear a0 a1 a2 a3 a4 a5 a6 a7 hbw
  go_wp2_with fail
  refine (wadd_any _ N v3 _ _ ⟨oNeg, (r : Nat), (r : Nat), 0, noV⟩ HS3.out (by rw [List.length_append]; have := HN3.out.1; have := HOp.out.l; omega) ⟨by show (0 : Int) ≤ (r : Int); omega, by show (r : Int) ≤ 1000; have := HOp.out.r; omega⟩ ⟨HN3.out.2.1, by have := HN3.out.2.2; omega⟩).mono ?_
  rintro e' w4 ⟨rfl, v4, hs, ht⟩
  have HS4 := Lib.hid hs
  have HT4 := Lib.hid (HT3.out.trans ht)
  clear hs ht
  go_wp2_with fail
  go_end0
  rw [cmp_neg HO.out]
  rw [← List.append_assoc, regs_snoc]
  exact ⟨rfl, v4, HS4.out, HT.out.trans HT4.out⟩
set_option maxHeartbeats 6400000 in
theorem vw_rec (op : ByteArray) (p q : CT) (ho : op.toList = [43] ∨ op.toList = [45] ∨ op.toList = [42]) {kp : Int} (hwp : Wk p kp) {kq : Int} (hwq : Wk q kq) (IHp : CmpI 75 p) (IHq : CmpI 75 q) : CmpI 75 (.mk 4 op 0 0 ⟨#[]⟩ 0 0 [p, q]) := by
  intro w N v xs rg r Q cv hst hv hQ hok
  obtain ⟨sa, sc, rfl, hrg, hel⟩ := hv
  have HRg := Lib.hid hrg
  have HEl := Lib.hid hel
  have HQ := Lib.hid hQ
  have HOk := Lib.hid hok
  have hsz : ctSz (.mk 4 op 0 0 ⟨#[]⟩ 0 0 [p, q]) = 1 + (ctSz p + ctSz q) := sz_two _ _ _ _
  have HSzC := Lib.hid hsz
  clear hsz
  obtain ⟨b, off, pa, pc, hsa, hbl, hat, hprg, hpl⟩ := hel.at (i := 0) (by simp [CT.parts])
  subst hsa
  have hqb : Q b := CL.qAt hel (by simp [CT.parts])
  have hat : CAt w b (off + 0 * 8) p pa pc := hat
  have hprg : CRg p pa pc := hprg
  have hpl : CL w Q pa p.parts := hpl
  rw [show off + 0 * 8 = off from rfl] at hat
  have HCvp := Lib.hid (show ∀ W, Below N w W → CV W Q (.agg #[.int .i64 p.kind, .string p.op, .int .i64 p.vk, .int .i64 p.vn, .string p.vs, .int .i64 p.src, .int .i64 p.col, .slice pa p.parts.length pc]) p from fun W hW => ⟨pa, pc, rfl, hprg, hpl.far hW.size (fun b hq _ => hW.block b (hQ b hq))⟩)
  have HAtp := Lib.hid (show ∀ W, Below N w W → CAt W b (off) p pa pc ∧ b < W.heap.size from fun W hW => ⟨hat.far (hW.block b (hQ b hqb)), Nat.lt_of_lt_of_le hbl hW.size⟩)
  have HIHp := Lib.hid IHp
  have HWkp := Lib.hid hwp
  obtain ⟨b', off', qa, qc, hsa', hbl', hat', hprg', hpl'⟩ := hel.at (i := 1) (by simp [CT.parts])
  cases hsa'
  have hat' : CAt w b (off + 1 * 8) q qa qc := hat'
  have hprg' : CRg q qa qc := hprg'
  have hpl' : CL w Q qa q.parts := hpl'
  rw [show off + 1 * 8 = off + 8 from rfl] at hat'
  have HCvq := Lib.hid (show ∀ W, Below N w W → CV W Q (.agg #[.int .i64 q.kind, .string q.op, .int .i64 q.vk, .int .i64 q.vn, .string q.vs, .int .i64 q.src, .int .i64 q.col, .slice qa q.parts.length qc]) q from fun W hW => ⟨qa, qc, rfl, hprg', hpl'.far hW.size (fun b hq _ => hW.block b (hQ b hq))⟩)
  have HAtq := Lib.hid (show ∀ W, Below N w W → CAt W b (off + 8) q qa qc ∧ b < W.heap.size from fun W hW => ⟨hat'.far (hW.block b (hQ b hqb)), Nat.lt_of_lt_of_le hbl hW.size⟩)
  have HIHq := Lib.hid IHq
  have HWkq := Lib.hid hwq
  have HCv := Lib.hid (show ∀ W, Below N w W → CV W Q (.agg #[.int .i64 4, .string op, .int .i64 0, .int .i64 0, .string ⟨#[]⟩, .int .i64 0, .int .i64 0, .slice (some ⟨b, off, none⟩) 2 sc]) (.mk 4 op 0 0 ⟨#[]⟩ 0 0 [p, q]) from fun W hW => ⟨_, sc, rfl, HRg.out, HEl.out.far hW.size (fun b hq _ => hW.block b (HQ.out b hq))⟩)
  have e0 : (ctX (.mk 4 op 0 0 ⟨#[]⟩ 0 0 [p, q]) (some ⟨b, off, none⟩) sc).toArray = #[.int .i64 4, .string op, .int .i64 0, .int .i64 0, .string ⟨#[]⟩, .int .i64 0, .int .i64 0, .slice (some ⟨b, off, none⟩) 2 sc] := rfl
  rw [e0]
  have hbl0 := hbl
  clear hbl hwp hwq
  have hNlt := hst.low
  have hB1 := bel0 (.cells #[.int .i64 4, .string op, .int .i64 0, .int .i64 0, .string ⟨#[]⟩, .int .i64 0, .int .i64 0, .slice (some ⟨b, off, none⟩) 2 sc] 46) (Below.refl w.heap.size w)
  have HSt1 := Lib.hid (hst.below hB1)
  have HT := Lib.hid (show WTo N v v w (w.alloc (.cells #[.int .i64 4, .string op, .int .i64 0, .int .i64 0, .string ⟨#[]⟩, .int .i64 0, .int .i64 0, .slice (some ⟨b, off, none⟩) 2 sc] 46)) from .of_below hB1 (Nat.le_of_lt hst.low))
  have HBx := Lib.hid (Go.heap_alloc_new w (.cells #[.int .i64 4, .string op, .int .i64 0, .int .i64 0, .string ⟨#[]⟩, .int .i64 0, .int .i64 0, .slice (some ⟨b, off, none⟩) 2 sc] 46 (0, 0)))
  have HSz := Lib.hid (show (w.alloc (.cells #[.int .i64 4, .string op, .int .i64 0, .int .i64 0, .string ⟨#[]⟩, .int .i64 0, .int .i64 0, .slice (some ⟨b, off, none⟩) 2 sc] 46)).heap.size = w.heap.size + 1 by simp)
  have HOb := Lib.hid (own_blk hst)
  clear hB1 hst hQ hok hrg hel e0 IHp IHq hqb hat hprg hpl hat' hprg' hpl' hbl'
  go_enter Try.func75, Try.ntmps75
  go_upto_region 4 with (fail)
  generalize (w.alloc (.cells #[.int .i64 4, .string op, .int .i64 0, .int .i64 0, .string ⟨#[]⟩, .int .i64 0, .int .i64 0, .slice (some ⟨b, off, none⟩) 2 sc] 46)) = w1 at *
  have HC := Lib.hid (show ∀ (W : World) (v' : Value), WTo N v v' w1 W → W.heap[w.heap.size]? = some (.cells #[.int .i64 4, .string op, .int .i64 0, .int .i64 0, .string ⟨#[]⟩, .int .i64 0, .int .i64 0, .slice (some ⟨b, off, none⟩) 2 sc] 46 (0, 0)) ∧ w.heap.size < W.heap.size from fun W v' h => by
    have k0 := (h.block w.heap.size (by have := HSz.out; omega) (by omega) HOb.out).trans HBx.out
    exact ⟨k0, (Array.getElem?_eq_some_iff.1 k0).1⟩)
  have HTr := Lib.hid (show truB (.mk 4 op 0 0 ⟨#[]⟩ 0 0 [p, q]) = false by rcases ho with ho | ho | ho <;> simp [truB, CT.kind, CT.op, reckP, ho])
  have HO := Lib.hid ho
  clear ho
  obtain ⟨hw1, hw2⟩ := (wrp1 r (by have := HOk.out.r; omega))
  obtain ⟨hE, cN⟩ := HC.out w1 _ (WTo.refl N v w1)
  obtain ⟨e0, e1, e2, e3, e4, e5, e6, e7⟩ := cellsE hE
  clear hE
  go_wp2_with fail
  refine (truthful_any (.mk 4 op 0 0 ⟨#[]⟩ 0 0 [p, q]) _ Q _ (HCv.out _ HT.out.below)).mono ?_
  rintro e' wp ⟨rfl, hbp⟩
  rw [HTr.out]
  have HT0 := Lib.hid (show WTo N v v w1 wp from .of_below hbp (by have := HSz.out; omega))
  have HS0 := Lib.hid (HSt1.out.below hbp)
  clear hbp
  clear e0 e1 e2 e3 e4 e5 e6 e7 cN
  obtain ⟨hE, cN⟩ := HC.out wp _ HT0.out
  obtain ⟨e0, e1, e2, e3, e4, e5, e6, e7⟩ := cellsE hE
  clear hE
  obtain ⟨⟨a0, a1, a2, a3, a4, a5, a6, a7⟩, hbw⟩ := HAtp.out wp (HT.out.below.trans HT0.out.below)
  have HOp := Lib.hid (show WOk xs.length rg r (ctSz p) from ⟨by have := HOk.out.l; have := HSzC.out; omega, by have := HOk.out.r; have := HSzC.out; omega, HOk.out.lo, HOk.out.hi⟩)
  have HN3 := Lib.hid (cm_num HWkp.out HOp.out xs.length)
  go_wp2_with fail
  refine (HIHp.out _ N v xs rg r Q _ HS0.out (HCvp.out _ (HT.out.below.trans HT0.out.below)) HQ.out HOp.out).mono ?_
  rintro e' w3 ⟨rfl, v3, hs, ht⟩
  have HS3 := Lib.hid hs
  have HT3 := Lib.hid (HT0.out.trans ht)
  clear hs ht
  clear e0 e1 e2 e3 e4 e5 e6 e7 cN
  clear a0 a1 a2 a3 a4 a5 a6 a7 hbw
  obtain ⟨hE, cN⟩ := HC.out w3 _ HT3.out
  obtain ⟨e0, e1, e2, e3, e4, e5, e6, e7⟩ := cellsE hE
  clear hE
  obtain ⟨⟨a0, a1, a2, a3, a4, a5, a6, a7⟩, hbw⟩ := HAtq.out w3 (HT.out.below.trans HT3.out.below)
  have HOq := Lib.hid (show WOk (xs ++ cmpC p r xs.length).length (regsF rg (cmpC p r xs.length)) (r + 1) (ctSz q) from ⟨by rw [List.length_append]; have := HN3.out.1; have := HOk.out.l; have := HSzC.out; omega, by have := HOk.out.r; have := HSzC.out; omega, HN3.out.2.1, HN3.out.2.2⟩)
  have HN5 := Lib.hid (cm_num HWkq.out HOq.out (xs ++ cmpC p r xs.length).length)
  go_wp2_with fail
  refine (HIHq.out _ N v3 _ _ (r + 1) Q _ HS3.out (HCvq.out _ (HT.out.below.trans HT3.out.below)) HQ.out HOq.out).mono ?_
  rintro e' w5 ⟨rfl, v5, hs, ht⟩
  have HS5 := Lib.hid hs
  have HT5 := Lib.hid (HT3.out.trans ht)
  clear hs ht
  clear e0 e1 e2 e3 e4 e5 e6 e7 cN
  clear a0 a1 a2 a3 a4 a5 a6 a7 hbw
  obtain ⟨hE, cN⟩ := HC.out w5 _ HT5.out
  obtain ⟨e0, e1, e2, e3, e4, e5, e6, e7⟩ := cellsE hE
  clear hE
  go_wp2_with fail
  refine (wadd_any _ N v5 _ _ ⟨op, (r : Nat), (r : Nat), (r : Int) + 1, noV⟩ HS5.out (by have := HOq.out.l; have := HN5.out.1; rw [List.length_append]; omega) ⟨by show (0 : Int) ≤ (r : Int); omega, by show (r : Int) ≤ 1000; have := HOk.out.r; omega⟩ ⟨HN5.out.2.1, by have := HN5.out.2.2; omega⟩).mono ?_
  rintro e' w6 ⟨rfl, v6, hs, ht⟩
  have HS6 := Lib.hid hs
  have HT6 := Lib.hid (HT5.out.trans ht)
  clear hs ht
  clear e0 e1 e2 e3 e4 e5 e6 e7 cN
  go_wp2_with fail
  go_end0
  rw [cmp_reck HO.out, fin3, app3, ← List.length_append]
  exact ⟨rfl, v6, HS6.out, HT.out.trans HT6.out⟩
set_option maxHeartbeats 6400000 in
theorem vw_lit (vk vn : Int) (vs : ByteArray) : CmpI 75 (.mk 1 ⟨#[]⟩ vk vn vs 0 0 []) := by
  intro w N v xs rg r Q cv hst hv hQ hok
  obtain ⟨sa, sc, rfl, hrg, hel⟩ := hv
  have HRg := Lib.hid hrg
  have HOk := Lib.hid hok
  have e0 : (ctX (.mk 1 ⟨#[]⟩ vk vn vs 0 0 []) sa sc).toArray = #[.int .i64 1, .string ⟨#[]⟩, .int .i64 vk, .int .i64 vn, .string vs, .int .i64 0, .int .i64 0, .slice sa 0 sc] := rfl
  rw [e0]
  have HCv := Lib.hid (show ∀ W, Below N w W → CV W Q (.agg #[.int .i64 1, .string ⟨#[]⟩, .int .i64 vk, .int .i64 vn, .string vs, .int .i64 0, .int .i64 0, .slice sa 0 sc]) (.mk 1 ⟨#[]⟩ vk vn vs 0 0 []) from fun W hW => ⟨sa, sc, rfl, hrg, hel.far hW.size (fun b hq _ => hW.block b (hQ b hq))⟩)
  have hNlt := hst.low
  have hB1 := bel0 (.cells #[.int .i64 1, .string ⟨#[]⟩, .int .i64 vk, .int .i64 vn, .string vs, .int .i64 0, .int .i64 0, .slice sa 0 sc] 46) (Below.refl w.heap.size w)
  have HSt1 := Lib.hid (hst.below hB1)
  have HT := Lib.hid (show WTo N v v w (w.alloc (.cells #[.int .i64 1, .string ⟨#[]⟩, .int .i64 vk, .int .i64 vn, .string vs, .int .i64 0, .int .i64 0, .slice sa 0 sc] 46)) from .of_below hB1 (Nat.le_of_lt hst.low))
  have HBx := Lib.hid (Go.heap_alloc_new w (.cells #[.int .i64 1, .string ⟨#[]⟩, .int .i64 vk, .int .i64 vn, .string vs, .int .i64 0, .int .i64 0, .slice sa 0 sc] 46 (0, 0)))
  have HSz := Lib.hid (show (w.alloc (.cells #[.int .i64 1, .string ⟨#[]⟩, .int .i64 vk, .int .i64 vn, .string vs, .int .i64 0, .int .i64 0, .slice sa 0 sc] 46)).heap.size = w.heap.size + 1 by simp)
  have HOb := Lib.hid (own_blk hst)
  clear hB1 hst hQ hok hrg hel e0
  go_enter Try.func75, Try.ntmps75
  go_upto_region 4 with (fail)
  generalize (w.alloc (.cells #[.int .i64 1, .string ⟨#[]⟩, .int .i64 vk, .int .i64 vn, .string vs, .int .i64 0, .int .i64 0, .slice sa 0 sc] 46)) = w1 at *
  have HC := Lib.hid (show ∀ (W : World) (v' : Value), WTo N v v' w1 W → W.heap[w.heap.size]? = some (.cells #[.int .i64 1, .string ⟨#[]⟩, .int .i64 vk, .int .i64 vn, .string vs, .int .i64 0, .int .i64 0, .slice sa 0 sc] 46 (0, 0)) ∧ w.heap.size < W.heap.size from fun W v' h => by
    have k0 := (h.block w.heap.size (by have := HSz.out; omega) (by omega) HOb.out).trans HBx.out
    exact ⟨k0, (Array.getElem?_eq_some_iff.1 k0).1⟩)
  have HTr := Lib.hid (show truB (.mk 1 ⟨#[]⟩ vk vn vs 0 0 []) = false by simp [truB, CT.kind, CT.op, reckP])
  obtain ⟨hE, cN⟩ := HC.out w1 _ (WTo.refl N v w1)
  obtain ⟨e0, e1, e2, e3, e4, e5, e6, e7⟩ := cellsE hE
  clear hE
  go_wp2_with fail
  refine (truthful_any (.mk 1 ⟨#[]⟩ vk vn vs 0 0 []) _ Q _ (HCv.out _ HT.out.below)).mono ?_
  rintro e' wp ⟨rfl, hbp⟩
  rw [HTr.out]
  have HT0 := Lib.hid (show WTo N v v w1 wp from .of_below hbp (by have := HSz.out; omega))
  have HS0 := Lib.hid (HSt1.out.below hbp)
  clear hbp
  clear e0 e1 e2 e3 e4 e5 e6 e7 cN
  obtain ⟨hE, cN⟩ := HC.out wp _ HT0.out
  obtain ⟨e0, e1, e2, e3, e4, e5, e6, e7⟩ := cellsE hE
  clear hE
  go_wp2_with fail
  refine (wadd_any _ N v xs rg ⟨oConst, (r : Nat), 0, 0, (vk, vn, vs)⟩ HS0.out (by have := HOk.out.l; omega) ⟨by show (0 : Int) ≤ (r : Int); omega, by show (r : Int) ≤ 1000; have := HOk.out.r; omega⟩ ⟨HOk.out.lo, by have := HOk.out.hi; omega⟩).mono ?_
  rintro e' w3 ⟨rfl, v3, hs, ht⟩
  have HS3 := Lib.hid hs
  have HT3 := Lib.hid (HT0.out.trans ht)
  clear hs ht
  clear e0 e1 e2 e3 e4 e5 e6 e7 cN
  go_wp2_with fail
  go_end0
  rw [cmp_lit]
  exact ⟨rfl, v3, HS3.out, HT.out.trans HT3.out⟩
set_option maxHeartbeats 6400000 in
theorem vw_col (s c : Int) : CmpI 75 (.mk 2 ⟨#[]⟩ 0 0 ⟨#[]⟩ s c []) := by
  intro w N v xs rg r Q cv hst hv hQ hok
  obtain ⟨sa, sc, rfl, hrg, hel⟩ := hv
  have HRg := Lib.hid hrg
  have HOk := Lib.hid hok
  have e0 : (ctX (.mk 2 ⟨#[]⟩ 0 0 ⟨#[]⟩ s c []) sa sc).toArray = #[.int .i64 2, .string ⟨#[]⟩, .int .i64 0, .int .i64 0, .string ⟨#[]⟩, .int .i64 s, .int .i64 c, .slice sa 0 sc] := rfl
  rw [e0]
  have HCv := Lib.hid (show ∀ W, Below N w W → CV W Q (.agg #[.int .i64 2, .string ⟨#[]⟩, .int .i64 0, .int .i64 0, .string ⟨#[]⟩, .int .i64 s, .int .i64 c, .slice sa 0 sc]) (.mk 2 ⟨#[]⟩ 0 0 ⟨#[]⟩ s c []) from fun W hW => ⟨sa, sc, rfl, hrg, hel.far hW.size (fun b hq _ => hW.block b (hQ b hq))⟩)
  have hNlt := hst.low
  have hB1 := bel0 (.cells #[.int .i64 2, .string ⟨#[]⟩, .int .i64 0, .int .i64 0, .string ⟨#[]⟩, .int .i64 s, .int .i64 c, .slice sa 0 sc] 46) (Below.refl w.heap.size w)
  have HSt1 := Lib.hid (hst.below hB1)
  have HT := Lib.hid (show WTo N v v w (w.alloc (.cells #[.int .i64 2, .string ⟨#[]⟩, .int .i64 0, .int .i64 0, .string ⟨#[]⟩, .int .i64 s, .int .i64 c, .slice sa 0 sc] 46)) from .of_below hB1 (Nat.le_of_lt hst.low))
  have HBx := Lib.hid (Go.heap_alloc_new w (.cells #[.int .i64 2, .string ⟨#[]⟩, .int .i64 0, .int .i64 0, .string ⟨#[]⟩, .int .i64 s, .int .i64 c, .slice sa 0 sc] 46 (0, 0)))
  have HSz := Lib.hid (show (w.alloc (.cells #[.int .i64 2, .string ⟨#[]⟩, .int .i64 0, .int .i64 0, .string ⟨#[]⟩, .int .i64 s, .int .i64 c, .slice sa 0 sc] 46)).heap.size = w.heap.size + 1 by simp)
  have HOb := Lib.hid (own_blk hst)
  clear hB1 hst hQ hok hrg hel e0
  go_enter Try.func75, Try.ntmps75
  go_upto_region 4 with (fail)
  generalize (w.alloc (.cells #[.int .i64 2, .string ⟨#[]⟩, .int .i64 0, .int .i64 0, .string ⟨#[]⟩, .int .i64 s, .int .i64 c, .slice sa 0 sc] 46)) = w1 at *
  have HC := Lib.hid (show ∀ (W : World) (v' : Value), WTo N v v' w1 W → W.heap[w.heap.size]? = some (.cells #[.int .i64 2, .string ⟨#[]⟩, .int .i64 0, .int .i64 0, .string ⟨#[]⟩, .int .i64 s, .int .i64 c, .slice sa 0 sc] 46 (0, 0)) ∧ w.heap.size < W.heap.size from fun W v' h => by
    have k0 := (h.block w.heap.size (by have := HSz.out; omega) (by omega) HOb.out).trans HBx.out
    exact ⟨k0, (Array.getElem?_eq_some_iff.1 k0).1⟩)
  have HTr := Lib.hid (show truB (.mk 2 ⟨#[]⟩ 0 0 ⟨#[]⟩ s c []) = false by simp [truB, CT.kind, CT.op, reckP])
  obtain ⟨hE, cN⟩ := HC.out w1 _ (WTo.refl N v w1)
  obtain ⟨e0, e1, e2, e3, e4, e5, e6, e7⟩ := cellsE hE
  clear hE
  go_wp2_with fail
  refine (truthful_any (.mk 2 ⟨#[]⟩ 0 0 ⟨#[]⟩ s c []) _ Q _ (HCv.out _ HT.out.below)).mono ?_
  rintro e' wp ⟨rfl, hbp⟩
  rw [HTr.out]
  have HT0 := Lib.hid (show WTo N v v w1 wp from .of_below hbp (by have := HSz.out; omega))
  have HS0 := Lib.hid (HSt1.out.below hbp)
  clear hbp
  clear e0 e1 e2 e3 e4 e5 e6 e7 cN
  obtain ⟨hE, cN⟩ := HC.out wp _ HT0.out
  obtain ⟨e0, e1, e2, e3, e4, e5, e6, e7⟩ := cellsE hE
  clear hE
  go_wp2_with fail
  refine (wadd_any _ N v xs rg ⟨oCol, (r : Nat), s, c, noV⟩ HS0.out (by have := HOk.out.l; omega) ⟨by show (0 : Int) ≤ (r : Int); omega, by show (r : Int) ≤ 1000; have := HOk.out.r; omega⟩ ⟨HOk.out.lo, by have := HOk.out.hi; omega⟩).mono ?_
  rintro e' w3 ⟨rfl, v3, hs, ht⟩
  have HS3 := Lib.hid hs
  have HT3 := Lib.hid (HT0.out.trans ht)
  clear hs ht
  clear e0 e1 e2 e3 e4 e5 e6 e7 cN
  go_wp2_with fail
  go_end0
  rw [cmp_col]
  exact ⟨rfl, v3, HS3.out, HT.out.trans HT3.out⟩
end Go.Proofs.Ytafhgilikcablaa
