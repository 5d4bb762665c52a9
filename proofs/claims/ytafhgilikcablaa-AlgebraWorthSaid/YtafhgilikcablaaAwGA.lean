/- What a cell is worth, the program's: any cell whose kinds fit; Worth. Written by genaw.py. -/
import Derived.Test.YtafhgilikcablaaAwF4
import Derived.Test.YtafhgilikcablaaAwF2
import Derived.Test.YtafhgilikcablaaAwF1
import Derived.Test.YtafhgilikcablaaAwDA
namespace Go.Proofs.Ytafhgilikcablaa
open Go.RowKit
set_option linter.unusedVariables false
set_option linter.unusedSimpArgs false
set_option maxRecDepth 100000
set_option maxHeartbeats 12800000 in
theorem val_neg (R : List (List Val)) (op : ByteArray) (p : CT) (ho : op.toList = [45]) (hin : InR (askV R p).1.2.1) (IHp : ValI R p) (w : World) (a : Option Addr) (len cap : Nat) (Q : Nat → Prop) (v : Value) (hR : IsRR w a len R) (hv : CV w Q v (.mk 3 op 0 0 ⟨#[]⟩ 0 0 [p])) :
    Calls Try.prog 70 #[v, .slice a len cap] w (Val2 w (askV R (.mk 3 op 0 0 ⟨#[]⟩ 0 0 [p])).1 (askV R (.mk 3 op 0 0 ⟨#[]⟩ 0 0 [p])).2.2) := by
  obtain ⟨sa, sc, rfl, hrg, hel⟩ := hv
  have HRg := Lib.hid hrg
  have HEl := Lib.hid hel
  obtain ⟨b, off, pa, pc, hsa, hbl, hat, hprg, hpl⟩ := hel.at (i := 0) (by simp [CT.parts])
  subst hsa
  have hat : CAt w b (off + 0 * 8) p pa pc := hat
  have hprg : CRg p pa pc := hprg
  have hpl : CL w Q pa p.parts := hpl
  rw [show off + 0 * 8 = off from rfl] at hat
  have HCvp := Lib.hid (show ∀ W, Below w.heap.size w W → CV W Q (.agg #[.int .i64 p.kind, .string p.op, .int .i64 p.vk, .int .i64 p.vn, .string p.vs, .int .i64 p.src, .int .i64 p.col, .slice pa p.parts.length pc]) p from fun W hW => ⟨pa, pc, rfl, hprg, hpl.keep hW⟩)
  have HAtp := Lib.hid (show ∀ W, Below w.heap.size w W → CAt W b (off) p pa pc from fun W hW => hat.below hbl hW)
  have HIHp := Lib.hid IHp
  have HBl := Lib.hid hbl
  have HR := Lib.hid hR
  have HCv := Lib.hid (show ∀ W, Below w.heap.size w W → CV W Q (.agg #[.int .i64 3, .string op, .int .i64 0, .int .i64 0, .string ⟨#[]⟩, .int .i64 0, .int .i64 0, .slice (some ⟨b, off, none⟩) 1 sc]) (.mk 3 op 0 0 ⟨#[]⟩ 0 0 [p]) from fun W hW => ⟨_, sc, rfl, HRg.out, HEl.out.keep hW⟩)
  have e0 : (ctX (.mk 3 op 0 0 ⟨#[]⟩ 0 0 [p]) (some ⟨b, off, none⟩) sc).toArray = #[.int .i64 3, .string op, .int .i64 0, .int .i64 0, .string ⟨#[]⟩, .int .i64 0, .int .i64 0, .slice (some ⟨b, off, none⟩) 1 sc] := rfl
  rw [e0]
  obtain ⟨yp, hyp⟩ : ∃ y, y = askV R p := ⟨_, rfl⟩
  have HYp := Lib.hid hyp
  have HAq := Lib.hid (show askV R (.mk 3 op 0 0 ⟨#[]⟩ 0 0 [p]) = askH R 3 op (0, 0, ⟨#[]⟩) 0 0 [yp] by rw [hyp]; rfl)
  have HB := Lib.hid (bel0 (.cells #[.int .i64 0, .int .i64 0, .string ⟨#[]⟩] 38) (bel0 (.cells #[.int .i64 3, .string op, .int .i64 0, .int .i64 0, .string ⟨#[]⟩, .int .i64 0, .int .i64 0, .slice (some ⟨b, off, none⟩) 1 sc] 46) (Below.refl w.heap.size w)))
  have HBX := Lib.hid (boxes2 w (.cells #[.int .i64 3, .string op, .int .i64 0, .int .i64 0, .string ⟨#[]⟩, .int .i64 0, .int .i64 0, .slice (some ⟨b, off, none⟩) 1 sc] 46 (0, 0)) (.cells #[.int .i64 0, .int .i64 0, .string ⟨#[]⟩] 38 (0, 0)))
  rw [hyp.symm] at hin
  have HIn := Lib.hid hin
  clear hin
  clear hR hrg hel e0 IHp hyp hat hprg hpl hbl
  go_enter Try.func70, Try.ntmps70
  go_upto_region 1 with (fail)
  generalize ((w.alloc (.cells #[.int .i64 3, .string op, .int .i64 0, .int .i64 0, .string ⟨#[]⟩, .int .i64 0, .int .i64 0, .slice (some ⟨b, off, none⟩) 1 sc] 46)).alloc (.cells #[.int .i64 0, .int .i64 0, .string ⟨#[]⟩] 38)) = w1 at *
  have HC := Lib.hid (show ∀ W : World, Below w1.heap.size w1 W → W.heap[w.heap.size]? = some (.cells #[.int .i64 3, .string op, .int .i64 0, .int .i64 0, .string ⟨#[]⟩, .int .i64 0, .int .i64 0, .slice (some ⟨b, off, none⟩) 1 sc] 46 (0, 0)) ∧ W.heap[w.heap.size + 1]? = some (.cells #[.int .i64 0, .int .i64 0, .string ⟨#[]⟩] 38 (0, 0)) ∧ w.heap.size + 1 < W.heap.size from fun W h => by
    obtain ⟨⟨h0, h1⟩, hz⟩ := HBX.out
    have k0 := (h.block (w.heap.size) (by omega)).trans h0
    have k1 := (h.block (w.heap.size + 1) (by omega)).trans h1
    exact ⟨k0, k1, (Array.getElem?_eq_some_iff.1 k1).1⟩)
  have ho1 : (op.toList == [45]) = true := by simp [ho]
  have HO := Lib.hid ho
  clear ho
  obtain ⟨hE, -, cN⟩ := HC.out w1 (Below.refl _ _)
  obtain ⟨e0, e1, e2, e3, e4, e5, e6, e7⟩ := cellsE hE
  clear hE
  have cE : w.heap.size < w1.heap.size := by omega
  go_wp2_with fail
  refine (parts_any (.mk 3 op 0 0 ⟨#[]⟩ 0 0 [p]) 1 _ Q _ (HCv.out _ (bt HB.out (Below.refl w1.heap.size w1)))).mono ?_
  rintro e' wp ⟨rfl, hbp⟩
  rw [show decide (((.mk 3 op 0 0 ⟨#[]⟩ 0 0 [p]) : CT).parts.length = 1) = true from rfl]
  have HBp := Lib.hid (bt (Below.refl w1.heap.size w1) hbp)
  clear hbp
  clear e0 e1 e2 e3 e4 e5 e6 e7 cN cE
  obtain ⟨hE, -, cN⟩ := HC.out wp HBp.out
  obtain ⟨e0, e1, e2, e3, e4, e5, e6, e7⟩ := cellsE hE
  clear hE
  have cE : w.heap.size < wp.heap.size := by omega
  obtain ⟨a0, a1, a2, a3, a4, a5, a6, a7⟩ := HAtp.out wp (bt HB.out HBp.out)
  have hbw : b < wp.heap.size := Nat.lt_of_lt_of_le HBl.out (bt HB.out HBp.out).size
  have HBwp := Lib.hid (bt HB.out HBp.out)
  go_wp2_with fail
  refine (HIHp.out _ a len cap Q _ (HR.out.below HBwp.out) (HCvp.out _ HBwp.out)).mono ?_
  rintro e' w3 ⟨rfl, hb3⟩
  rw [← HYp.out]
  have HB3 := Lib.hid (bt HBp.out hb3)
  clear hb3
  clear e0 e1 e2 e3 e4 e5 e6 e7 cN cE
  clear a0 a1 a2 a3 a4 a5 a6 a7 hbw
  go_upto_region 7 with (fail)
  have HNw4 := Lib.hid (Go.heap_alloc_new w3 (.cells #[.int .i64 yp.1.1, .int .i64 yp.1.2.1, .string yp.1.2.2] 38 (0, 0)))
  have HBnw4 := Lib.hid (show Below w3.heap.size w3 (w3.alloc (.cells #[.int .i64 yp.1.1, .int .i64 yp.1.2.1, .string yp.1.2.2] 38)) from bel0 _ (Below.refl _ _))
  generalize (w3.alloc (.cells #[.int .i64 yp.1.1, .int .i64 yp.1.2.1, .string yp.1.2.2] 38)) = w4 at *
  have HBiw4 := Lib.hid (bt HB3.out HBnw4.out)
  have HBw4 := Lib.hid (bt HB.out HBiw4.out)
  by_cases hz : yp.2.2 = 0
  rotate_left
  · have hne : (yp.2.2 != 0) = true := by simp [hz]
    have HQ := Lib.hid (show askV R (.mk 3 op 0 0 ⟨#[]⟩ 0 0 [p]) = (noV, 0, yp.2.2) from by rw [HAq.out]; unfold askH; rw [if_neg (by decide), if_neg (by decide), if_pos (show ((yp :: _ : List Wo).getD 0 noW).2.2 ≠ 0 from hz)]; rfl)
    obtain ⟨-, hX, cN⟩ := HC.out w4 HBiw4.out
    have HX9 := Lib.hid (vbox3 hX (.int .i64 0) (.int .i64 0) (.string ⟨#[]⟩))
    have HB9 := Lib.hid (v3_below (K := w.heap.size) (N := w.heap.size + 1) (by omega) (bt HB.out HBiw4.out) (.int .i64 0) (.int .i64 0) (.string ⟨#[]⟩))
    obtain ⟨p0, p1, p2, p3, p4, p5, p6⟩ := v3 hX
    clear hX
    go_wp2
    refine bodyPost_ret (results_v2 rfl _ _ (w.heap.size + 1) _ _ _ rfl HX9.out) rfl ?_
    rw [HQ.out]
    exact ⟨rfl, HB9.out⟩
  obtain ⟨m0, m1, m2, -, -, -, m6⟩ := v3 HNw4.out
  have HQ := Lib.hid (show askV R (.mk 3 op 0 0 ⟨#[]⟩ 0 0 [p]) = (recV ⟨#[45]⟩ (1, 0, ⟨#[]⟩) yp.1, 0, unfE (recX ⟨#[45]⟩ (1, 0, ⟨#[]⟩) yp.1)) by rw [HAq.out, ← argF_rec]; unfold askH; rw [if_neg (by decide), if_neg (by decide), if_neg (show ¬ (([yp] : List Wo).getD 0 noW).2.2 ≠ 0 from fun h => h hz), if_pos rfl, if_neg (by rw [HO.out]; decide)]; rfl)
  have HRk := Lib.hid (show ∀ W : World, Calls Try.prog 107 #[.string ⟨#[45]⟩, .agg #[.int .i64 1, .int .i64 0, .string ⟨#[]⟩], .agg #[.int .i64 yp.1.1, .int .i64 yp.1.2.1, .string yp.1.2.2]] W (Val2 W (recV ⟨#[45]⟩ (1, 0, ⟨#[]⟩) yp.1) (unfE (recX ⟨#[45]⟩ (1, 0, ⟨#[]⟩) yp.1))) from fun W => reckoned_any ⟨#[45]⟩ (1, 0, ⟨#[]⟩) yp.1 ⟨by decide, by decide⟩ HIn.out W)
  go_wp2_with fail
  refine (HRk.out _).mono ?_
  rintro e' w5 ⟨rfl, hb5⟩
  obtain ⟨z, hzz⟩ : ∃ z, z = recV ⟨#[45]⟩ (1, 0, ⟨#[]⟩) yp.1 := ⟨_, rfl⟩
  rw [← hzz] at HQ ⊢
  obtain ⟨ze, hze⟩ : ∃ ze, ze = unfE (recX ⟨#[45]⟩ (1, 0, ⟨#[]⟩) yp.1) := ⟨_, rfl⟩
  rw [← hze] at HQ ⊢
  clear hzz hze
  have HB5 := Lib.hid (bt HBiw4.out hb5)
  clear hb5 m0 m1 m2 m6
  obtain ⟨-, hX, cN⟩ := HC.out w5 HB5.out
  have HX9 := Lib.hid (vbox3 hX (.int .i64 z.1) (.int .i64 z.2.1) (.string z.2.2))
  have HB9 := Lib.hid (v3_below (K := w.heap.size) (N := w.heap.size + 1) (by omega) (bt HB.out HB5.out) (.int .i64 z.1) (.int .i64 z.2.1) (.string z.2.2))
  obtain ⟨p0, p1, p2, p3, p4, p5, p6⟩ := v3 hX
  clear hX
  go_wp2
  refine bodyPost_ret (results_v2 rfl _ _ (w.heap.size + 1) _ _ _ rfl HX9.out) rfl ?_
  rw [HQ.out]
  exact ⟨rfl, HB9.out⟩
end Go.Proofs.Ytafhgilikcablaa
namespace Go.Proofs.Ytafhgilikcablaa
open Go.RowKit
set_option linter.unusedVariables false
set_option linter.unusedSimpArgs false
set_option maxRecDepth 100000
set_option maxHeartbeats 12800000 in
theorem val_rec (R : List (List Val)) (op : ByteArray) (p q : CT) (ho : op.toList = [43] ∨ op.toList = [45] ∨ op.toList = [42]) (hin : InR (askV R p).1.2.1) (hin2 : InR (askV R q).1.2.1) (IHp : ValI R p) (IHq : ValI R q) (w : World) (a : Option Addr) (len cap : Nat) (Q : Nat → Prop) (v : Value) (hR : IsRR w a len R) (hv : CV w Q v (.mk 4 op 0 0 ⟨#[]⟩ 0 0 [p, q])) :
    Calls Try.prog 70 #[v, .slice a len cap] w (Val2 w (askV R (.mk 4 op 0 0 ⟨#[]⟩ 0 0 [p, q])).1 (askV R (.mk 4 op 0 0 ⟨#[]⟩ 0 0 [p, q])).2.2) := by
  obtain ⟨sa, sc, rfl, hrg, hel⟩ := hv
  have HRg := Lib.hid hrg
  have HEl := Lib.hid hel
  obtain ⟨b, off, pa, pc, hsa, hbl, hat, hprg, hpl⟩ := hel.at (i := 0) (by simp [CT.parts])
  subst hsa
  have hat : CAt w b (off + 0 * 8) p pa pc := hat
  have hprg : CRg p pa pc := hprg
  have hpl : CL w Q pa p.parts := hpl
  rw [show off + 0 * 8 = off from rfl] at hat
  have HCvp := Lib.hid (show ∀ W, Below w.heap.size w W → CV W Q (.agg #[.int .i64 p.kind, .string p.op, .int .i64 p.vk, .int .i64 p.vn, .string p.vs, .int .i64 p.src, .int .i64 p.col, .slice pa p.parts.length pc]) p from fun W hW => ⟨pa, pc, rfl, hprg, hpl.keep hW⟩)
  have HAtp := Lib.hid (show ∀ W, Below w.heap.size w W → CAt W b (off) p pa pc from fun W hW => hat.below hbl hW)
  have HIHp := Lib.hid IHp
  obtain ⟨b', off', qa, qc, hsa', hbl', hat', hprg', hpl'⟩ := hel.at (i := 1) (by simp [CT.parts])
  cases hsa'
  have hat' : CAt w b (off + 1 * 8) q qa qc := hat'
  have hprg' : CRg q qa qc := hprg'
  have hpl' : CL w Q qa q.parts := hpl'
  rw [show off + 1 * 8 = off + 8 from rfl] at hat'
  have HCvq := Lib.hid (show ∀ W, Below w.heap.size w W → CV W Q (.agg #[.int .i64 q.kind, .string q.op, .int .i64 q.vk, .int .i64 q.vn, .string q.vs, .int .i64 q.src, .int .i64 q.col, .slice qa q.parts.length qc]) q from fun W hW => ⟨qa, qc, rfl, hprg', hpl'.keep hW⟩)
  have HAtq := Lib.hid (show ∀ W, Below w.heap.size w W → CAt W b (off + 8) q qa qc from fun W hW => hat'.below hbl' hW)
  have HIHq := Lib.hid IHq
  have HBl := Lib.hid hbl
  have HR := Lib.hid hR
  have HCv := Lib.hid (show ∀ W, Below w.heap.size w W → CV W Q (.agg #[.int .i64 4, .string op, .int .i64 0, .int .i64 0, .string ⟨#[]⟩, .int .i64 0, .int .i64 0, .slice (some ⟨b, off, none⟩) 2 sc]) (.mk 4 op 0 0 ⟨#[]⟩ 0 0 [p, q]) from fun W hW => ⟨_, sc, rfl, HRg.out, HEl.out.keep hW⟩)
  have e0 : (ctX (.mk 4 op 0 0 ⟨#[]⟩ 0 0 [p, q]) (some ⟨b, off, none⟩) sc).toArray = #[.int .i64 4, .string op, .int .i64 0, .int .i64 0, .string ⟨#[]⟩, .int .i64 0, .int .i64 0, .slice (some ⟨b, off, none⟩) 2 sc] := rfl
  rw [e0]
  obtain ⟨yp, hyp⟩ : ∃ y, y = askV R p := ⟨_, rfl⟩
  have HYp := Lib.hid hyp
  obtain ⟨yq, hyq⟩ : ∃ y, y = askV R q := ⟨_, rfl⟩
  have HYq := Lib.hid hyq
  have HAq := Lib.hid (show askV R (.mk 4 op 0 0 ⟨#[]⟩ 0 0 [p, q]) = askH R 4 op (0, 0, ⟨#[]⟩) 0 0 [yp, yq] by rw [hyp, hyq]; rfl)
  have HB := Lib.hid (bel0 (.cells #[.int .i64 0, .int .i64 0, .string ⟨#[]⟩] 38) (bel0 (.cells #[.int .i64 4, .string op, .int .i64 0, .int .i64 0, .string ⟨#[]⟩, .int .i64 0, .int .i64 0, .slice (some ⟨b, off, none⟩) 2 sc] 46) (Below.refl w.heap.size w)))
  have HBX := Lib.hid (boxes2 w (.cells #[.int .i64 4, .string op, .int .i64 0, .int .i64 0, .string ⟨#[]⟩, .int .i64 0, .int .i64 0, .slice (some ⟨b, off, none⟩) 2 sc] 46 (0, 0)) (.cells #[.int .i64 0, .int .i64 0, .string ⟨#[]⟩] 38 (0, 0)))
  rw [hyp.symm] at hin
  rw [hyq.symm] at hin2
  have HIn := Lib.hid hin
  have HIn2 := Lib.hid hin2
  clear hin hin2
  clear hR hrg hel e0 IHp IHq hyp hyq hat hprg hpl hbl hat' hprg' hpl' hbl'
  go_enter Try.func70, Try.ntmps70
  go_upto_region 1 with (fail)
  generalize ((w.alloc (.cells #[.int .i64 4, .string op, .int .i64 0, .int .i64 0, .string ⟨#[]⟩, .int .i64 0, .int .i64 0, .slice (some ⟨b, off, none⟩) 2 sc] 46)).alloc (.cells #[.int .i64 0, .int .i64 0, .string ⟨#[]⟩] 38)) = w1 at *
  have HC := Lib.hid (show ∀ W : World, Below w1.heap.size w1 W → W.heap[w.heap.size]? = some (.cells #[.int .i64 4, .string op, .int .i64 0, .int .i64 0, .string ⟨#[]⟩, .int .i64 0, .int .i64 0, .slice (some ⟨b, off, none⟩) 2 sc] 46 (0, 0)) ∧ W.heap[w.heap.size + 1]? = some (.cells #[.int .i64 0, .int .i64 0, .string ⟨#[]⟩] 38 (0, 0)) ∧ w.heap.size + 1 < W.heap.size from fun W h => by
    obtain ⟨⟨h0, h1⟩, hz⟩ := HBX.out
    have k0 := (h.block (w.heap.size) (by omega)).trans h0
    have k1 := (h.block (w.heap.size + 1) (by omega)).trans h1
    exact ⟨k0, k1, (Array.getElem?_eq_some_iff.1 k1).1⟩)
  have HTr := Lib.hid (show truB (.mk 4 op 0 0 ⟨#[]⟩ 0 0 [p, q]) = false by rcases ho with h | h | h <;> simp [truB, CT.kind, CT.op, reckP, h])
  have HSc := Lib.hid (show ¬ ((op.toList = [65, 78, 68] ∧ (([yp, yq] : List Wo).getD 0 noW).2.1 = 0) ∨ (op.toList = [79, 82] ∧ (([yp, yq] : List Wo).getD 0 noW).2.1 = 1)) by rcases ho with h | h | h <;> simp [h])
  have HRk0 := Lib.hid (show reckB op = true by unfold reckB; rcases ho with h | h | h <;> simp [h])
  clear ho
  obtain ⟨hE, -, cN⟩ := HC.out w1 (Below.refl _ _)
  obtain ⟨e0, e1, e2, e3, e4, e5, e6, e7⟩ := cellsE hE
  clear hE
  have cE : w.heap.size < w1.heap.size := by omega
  go_wp2_with fail
  refine (truthful_any (.mk 4 op 0 0 ⟨#[]⟩ 0 0 [p, q]) _ Q _ (HCv.out _ (bt HB.out (Below.refl w1.heap.size w1)))).mono ?_
  rintro e' wp ⟨rfl, hbp⟩
  rw [HTr.out]
  have HBp := Lib.hid (bt (Below.refl w1.heap.size w1) hbp)
  clear hbp
  clear e0 e1 e2 e3 e4 e5 e6 e7 cN cE
  obtain ⟨hE, -, cN⟩ := HC.out wp HBp.out
  obtain ⟨e0, e1, e2, e3, e4, e5, e6, e7⟩ := cellsE hE
  clear hE
  have cE : w.heap.size < wp.heap.size := by omega
  have HBwp := Lib.hid (bt HB.out HBp.out)
  go_wp2_with fail
  refine (bothOf_any R op p q HIHp.out HIHq.out _ a len cap Q _ (HR.out.below HBwp.out) (HCv.out _ HBwp.out)).mono ?_
  rintro e' w3 ⟨rfl, hb3⟩
  have HBo := Lib.hid (show boV (askV R p) (askV R q) = boV yp yq by rw [← HYp.out, ← HYq.out])
  rw [HBo.out]
  obtain ⟨z, hz0⟩ : ∃ z, z = boV yp yq := ⟨_, rfl⟩
  have HZ := Lib.hid hz0
  rw [← hz0]
  clear hz0
  have HB3 := Lib.hid (bt HBp.out hb3)
  clear hb3
  clear e0 e1 e2 e3 e4 e5 e6 e7 cN cE
  go_upto_region 12 with (fail)
  have HT2 := Lib.hid (boxes2 w3 (.cells #[.int .i64 z.1.1, .int .i64 z.1.2.1, .string z.1.2.2] 38 (0, 0)) (.cells #[.int .i64 z.2.1.1, .int .i64 z.2.1.2.1, .string z.2.1.2.2] 38 (0, 0)))
  have HBn4 := Lib.hid (show Below w3.heap.size w3 ((w3.alloc (.cells #[.int .i64 z.1.1, .int .i64 z.1.2.1, .string z.1.2.2] 38)).alloc (.cells #[.int .i64 z.2.1.1, .int .i64 z.2.1.2.1, .string z.2.1.2.2] 38)) from bel0 _ (bel0 _ (Below.refl _ _)))
  generalize ((w3.alloc (.cells #[.int .i64 z.1.1, .int .i64 z.1.2.1, .string z.1.2.2] 38)).alloc (.cells #[.int .i64 z.2.1.1, .int .i64 z.2.1.2.1, .string z.2.1.2.2] 38)) = w4 at *
  have HB4 := Lib.hid (bt HB3.out HBn4.out)
  have HBw4 := Lib.hid (bt HB.out HB4.out)
  obtain ⟨m0, m1, m2, -, -, -, m6⟩ := v3 HT2.out.1.1
  obtain ⟨n0, n1, n2, -, -, -, n6⟩ := v3 HT2.out.1.2
  by_cases hzz : z.2.2 = 0
  rotate_left
  · have hne : (z.2.2 != 0) = true := by simp [hzz]
    have HQ := Lib.hid (show askV R (.mk 4 op 0 0 ⟨#[]⟩ 0 0 [p, q]) = (noV, 0, z.2.2) by
      by_cases hz : yp.2.2 = 0
      · have h2 : z.2.2 = yq.2.2 := by rw [HZ.out]; unfold boV; rw [if_neg (fun h => h hz)]
        rw [h2] at hzz ⊢
        rw [HAq.out]; unfold askH; rw [if_neg (by decide), if_neg (by decide), if_neg (show ¬ (([yp, yq] : List Wo).getD 0 noW).2.2 ≠ 0 from fun h => h hz), if_neg (by decide), if_neg (by decide), if_neg HSc.out, if_pos (show (([yp, yq] : List Wo).getD 1 noW).2.2 ≠ 0 from hzz)]; rfl
      · have h2 : z.2.2 = yp.2.2 := by rw [HZ.out]; unfold boV; rw [if_pos hz]
        rw [h2]
        exact by rw [HAq.out]; unfold askH; rw [if_neg (by decide), if_neg (by decide), if_pos (show ((yp :: _ : List Wo).getD 0 noW).2.2 ≠ 0 from hz)]; rfl)
    obtain ⟨-, hX, cN⟩ := HC.out w4 HB4.out
    have HX9 := Lib.hid (vbox3 hX (.int .i64 0) (.int .i64 0) (.string ⟨#[]⟩))
    have HB9 := Lib.hid (v3_below (K := w.heap.size) (N := w.heap.size + 1) (by omega) (bt HB.out HB4.out) (.int .i64 0) (.int .i64 0) (.string ⟨#[]⟩))
    obtain ⟨p0, p1, p2, p3, p4, p5, p6⟩ := v3 hX
    clear hX
    go_wp2
    refine bodyPost_ret (results_v2 rfl _ _ (w.heap.size + 1) _ _ _ rfl HX9.out) rfl ?_
    rw [HQ.out]
    exact ⟨rfl, HB9.out⟩
  have HZ2 := Lib.hid (show yp.2.2 = 0 ∧ yq.2.2 = 0 ∧ z.1 = yp.1 ∧ z.2.1 = yq.1 by
    by_cases hz : yp.2.2 = 0
    · have h2 : z = (yp.1, yq.1, yq.2.2) := by rw [HZ.out]; unfold boV; rw [if_neg (fun h => h hz)]
      rw [h2] at hzz ⊢
      exact ⟨hz, hzz, rfl, rfl⟩
    · have h2 : z.2.2 = yp.2.2 := by rw [HZ.out]; unfold boV; rw [if_pos hz]
      rw [h2] at hzz
      exact absurd hzz hz)
  have HQ := Lib.hid (show askV R (.mk 4 op 0 0 ⟨#[]⟩ 0 0 [p, q]) = (recV op z.1 z.2.1, 0, unfE (recX op z.1 z.2.1)) by rw [HAq.out, ← argF_rec, HZ2.out.2.2.1, HZ2.out.2.2.2]; unfold askH; rw [if_neg (by decide), if_neg (by decide), if_neg (show ¬ (([yp, yq] : List Wo).getD 0 noW).2.2 ≠ 0 from fun h => h HZ2.out.1), if_neg (by decide), if_neg (by decide), if_neg HSc.out, if_neg (show ¬ (([yp, yq] : List Wo).getD 1 noW).2.2 ≠ 0 from fun h => h HZ2.out.2.1), if_pos HRk0.out]; rfl)
  have HRk := Lib.hid (show ∀ W : World, Calls Try.prog 107 #[.string op, .agg #[.int .i64 z.1.1, .int .i64 z.1.2.1, .string z.1.2.2], .agg #[.int .i64 z.2.1.1, .int .i64 z.2.1.2.1, .string z.2.1.2.2]] W (Val2 W (recV op z.1 z.2.1) (unfE (recX op z.1 z.2.1))) from fun W => reckoned_any op z.1 z.2.1 (by rw [HZ2.out.2.2.1]; exact HIn.out) (by rw [HZ2.out.2.2.2]; exact HIn2.out) W)
  obtain ⟨hE, -, cN⟩ := HC.out w4 HB4.out
  obtain ⟨e0, e1, e2, e3, e4, e5, e6, e7⟩ := cellsE hE
  clear hE
  have cE : w.heap.size < w4.heap.size := by omega
  go_wp2_with fail
  refine (HRk.out _).mono ?_
  rintro e' w5 ⟨rfl, hb5⟩
  obtain ⟨x, hx⟩ : ∃ x, x = recV op z.1 z.2.1 := ⟨_, rfl⟩
  rw [← hx] at HQ ⊢
  obtain ⟨xe, hxe⟩ : ∃ xe, xe = unfE (recX op z.1 z.2.1) := ⟨_, rfl⟩
  rw [← hxe] at HQ ⊢
  clear hx hxe
  have HB5 := Lib.hid (bt HB4.out hb5)
  clear hb5 m0 m1 m2 m6 n0 n1 n2 n6
  clear e0 e1 e2 e3 e4 e5 e6 e7 cN cE
  obtain ⟨-, hX, cN⟩ := HC.out w5 HB5.out
  have HX9 := Lib.hid (vbox3 hX (.int .i64 x.1) (.int .i64 x.2.1) (.string x.2.2))
  have HB9 := Lib.hid (v3_below (K := w.heap.size) (N := w.heap.size + 1) (by omega) (bt HB.out HB5.out) (.int .i64 x.1) (.int .i64 x.2.1) (.string x.2.2))
  obtain ⟨p0, p1, p2, p3, p4, p5, p6⟩ := v3 hX
  clear hX
  go_wp2
  refine bodyPost_ret (results_v2 rfl _ _ (w.heap.size + 1) _ _ _ rfl HX9.out) rfl ?_
  rw [HQ.out]
  exact ⟨rfl, HB9.out⟩
end Go.Proofs.Ytafhgilikcablaa
namespace Go.Proofs.Ytafhgilikcablaa
open Go.RowKit
set_option linter.unusedVariables false
set_option linter.unusedSimpArgs false
set_option maxRecDepth 100000
set_option maxHeartbeats 12800000 in
theorem tru_cmp (R : List (List Val)) (op : ByteArray) (p q : CT) (ho : op.toList = [61] ∨ op.toList = [60, 62] ∨ op.toList = [60] ∨ op.toList = [60, 61] ∨ op.toList = [62] ∨ op.toList = [62, 61]) (IHp : ValI R p) (IHq : ValI R q) (w : World) (a : Option Addr) (len cap : Nat) (Q : Nat → Prop) (v : Value) (hR : IsRR w a len R) (hv : CV w Q v (.mk 4 op 0 0 ⟨#[]⟩ 0 0 [p, q])) :
    Calls Try.prog 69 #[v, .slice a len cap] w (Tru2 w (askV R (.mk 4 op 0 0 ⟨#[]⟩ 0 0 [p, q])).2.1 (askV R (.mk 4 op 0 0 ⟨#[]⟩ 0 0 [p, q])).2.2) := by
  obtain ⟨sa, sc, rfl, hrg, hel⟩ := hv
  have HRg := Lib.hid hrg
  have HEl := Lib.hid hel
  obtain ⟨b, off, pa, pc, hsa, hbl, hat, hprg, hpl⟩ := hel.at (i := 0) (by simp [CT.parts])
  subst hsa
  have hat : CAt w b (off + 0 * 8) p pa pc := hat
  have hprg : CRg p pa pc := hprg
  have hpl : CL w Q pa p.parts := hpl
  rw [show off + 0 * 8 = off from rfl] at hat
  have HCvp := Lib.hid (show ∀ W, Below w.heap.size w W → CV W Q (.agg #[.int .i64 p.kind, .string p.op, .int .i64 p.vk, .int .i64 p.vn, .string p.vs, .int .i64 p.src, .int .i64 p.col, .slice pa p.parts.length pc]) p from fun W hW => ⟨pa, pc, rfl, hprg, hpl.keep hW⟩)
  have HAtp := Lib.hid (show ∀ W, Below w.heap.size w W → CAt W b (off) p pa pc from fun W hW => hat.below hbl hW)
  have HIHp := Lib.hid IHp
  obtain ⟨b', off', qa, qc, hsa', hbl', hat', hprg', hpl'⟩ := hel.at (i := 1) (by simp [CT.parts])
  cases hsa'
  have hat' : CAt w b (off + 1 * 8) q qa qc := hat'
  have hprg' : CRg q qa qc := hprg'
  have hpl' : CL w Q qa q.parts := hpl'
  rw [show off + 1 * 8 = off + 8 from rfl] at hat'
  have HCvq := Lib.hid (show ∀ W, Below w.heap.size w W → CV W Q (.agg #[.int .i64 q.kind, .string q.op, .int .i64 q.vk, .int .i64 q.vn, .string q.vs, .int .i64 q.src, .int .i64 q.col, .slice qa q.parts.length qc]) q from fun W hW => ⟨qa, qc, rfl, hprg', hpl'.keep hW⟩)
  have HAtq := Lib.hid (show ∀ W, Below w.heap.size w W → CAt W b (off + 8) q qa qc from fun W hW => hat'.below hbl' hW)
  have HIHq := Lib.hid IHq
  have HBl := Lib.hid hbl
  have HR := Lib.hid hR
  have HCv := Lib.hid (show ∀ W, Below w.heap.size w W → CV W Q (.agg #[.int .i64 4, .string op, .int .i64 0, .int .i64 0, .string ⟨#[]⟩, .int .i64 0, .int .i64 0, .slice (some ⟨b, off, none⟩) 2 sc]) (.mk 4 op 0 0 ⟨#[]⟩ 0 0 [p, q]) from fun W hW => ⟨_, sc, rfl, HRg.out, HEl.out.keep hW⟩)
  have e0 : (ctX (.mk 4 op 0 0 ⟨#[]⟩ 0 0 [p, q]) (some ⟨b, off, none⟩) sc).toArray = #[.int .i64 4, .string op, .int .i64 0, .int .i64 0, .string ⟨#[]⟩, .int .i64 0, .int .i64 0, .slice (some ⟨b, off, none⟩) 2 sc] := rfl
  rw [e0]
  obtain ⟨yp, hyp⟩ : ∃ y, y = askV R p := ⟨_, rfl⟩
  have HYp := Lib.hid hyp
  obtain ⟨yq, hyq⟩ : ∃ y, y = askV R q := ⟨_, rfl⟩
  have HYq := Lib.hid hyq
  have HAq := Lib.hid (show askV R (.mk 4 op 0 0 ⟨#[]⟩ 0 0 [p, q]) = askH R 4 op (0, 0, ⟨#[]⟩) 0 0 [yp, yq] by rw [hyp, hyq]; rfl)
  have HB := Lib.hid (bel0 (.cells #[.int .i64 4, .string op, .int .i64 0, .int .i64 0, .string ⟨#[]⟩, .int .i64 0, .int .i64 0, .slice (some ⟨b, off, none⟩) 2 sc] 46) (Below.refl w.heap.size w))
  have HBX := Lib.hid (show (w.alloc (.cells #[.int .i64 4, .string op, .int .i64 0, .int .i64 0, .string ⟨#[]⟩, .int .i64 0, .int .i64 0, .slice (some ⟨b, off, none⟩) 2 sc] 46)).heap[w.heap.size]? = some (.cells #[.int .i64 4, .string op, .int .i64 0, .int .i64 0, .string ⟨#[]⟩, .int .i64 0, .int .i64 0, .slice (some ⟨b, off, none⟩) 2 sc] 46 (0, 0)) ∧ (w.alloc (.cells #[.int .i64 4, .string op, .int .i64 0, .int .i64 0, .string ⟨#[]⟩, .int .i64 0, .int .i64 0, .slice (some ⟨b, off, none⟩) 2 sc] 46)).heap.size = w.heap.size + 1 from ⟨Go.heap_alloc_new w _, by simp⟩)
  clear hR hrg hel e0 IHp IHq hyp hyq hat hprg hpl hbl hat' hprg' hpl' hbl'
  go_enter Try.func69, Try.ntmps69
  go_upto_region 1 with (fail)
  generalize (w.alloc (.cells #[.int .i64 4, .string op, .int .i64 0, .int .i64 0, .string ⟨#[]⟩, .int .i64 0, .int .i64 0, .slice (some ⟨b, off, none⟩) 2 sc] 46)) = w1 at *
  have HC := Lib.hid (show ∀ W : World, Below w1.heap.size w1 W → W.heap[w.heap.size]? = some (.cells #[.int .i64 4, .string op, .int .i64 0, .int .i64 0, .string ⟨#[]⟩, .int .i64 0, .int .i64 0, .slice (some ⟨b, off, none⟩) 2 sc] 46 (0, 0)) ∧ w.heap.size < W.heap.size from fun W h => by
    obtain ⟨h0, hz⟩ := HBX.out
    have k0 := (h.block (w.heap.size) (by omega)).trans h0
    exact ⟨k0, (Array.getElem?_eq_some_iff.1 k0).1⟩)
  have HTr := Lib.hid (show truB (.mk 4 op 0 0 ⟨#[]⟩ 0 0 [p, q]) = true by rcases ho with h | h | h | h | h | h <;> simp [truB, CT.kind, CT.op, reckP, h])
  have HSc := Lib.hid (show ¬ ((op.toList = [65, 78, 68] ∧ (([yp, yq] : List Wo).getD 0 noW).2.1 = 0) ∨ (op.toList = [79, 82] ∧ (([yp, yq] : List Wo).getD 0 noW).2.1 = 1)) by rcases ho with h | h | h | h | h | h <;> simp [h])
  have HRk0 := Lib.hid (show reckB op = false by unfold reckB; rcases ho with h | h | h | h | h | h <;> simp [h])
  have hn1 : (op.toList == [65, 78, 68]) = false := by rcases ho with h | h | h | h | h | h <;> simp [h]
  have hn2 : (op.toList == [79, 82]) = false := by rcases ho with h | h | h | h | h | h <;> simp [h]
  have HN1 := Lib.hid (show ¬ op.toList = [65, 78, 68] from by simpa using hn1)
  have HN2 := Lib.hid (show ¬ op.toList = [79, 82] from by simpa using hn2)
  clear ho
  obtain ⟨hE, cN⟩ := HC.out w1 (Below.refl _ _)
  obtain ⟨e0, e1, e2, e3, e4, e5, e6, e7⟩ := cellsE hE
  clear hE
  have cE : w.heap.size < w1.heap.size := by omega
  go_wp2_with fail
  refine (truthful_any (.mk 4 op 0 0 ⟨#[]⟩ 0 0 [p, q]) _ Q _ (HCv.out _ (bt HB.out (Below.refl w1.heap.size w1)))).mono ?_
  rintro e' wp ⟨rfl, hbp⟩
  rw [HTr.out]
  have HBp := Lib.hid (bt (Below.refl w1.heap.size w1) hbp)
  clear hbp
  clear e0 e1 e2 e3 e4 e5 e6 e7 cN cE
  obtain ⟨hE, cN⟩ := HC.out wp HBp.out
  obtain ⟨e0, e1, e2, e3, e4, e5, e6, e7⟩ := cellsE hE
  clear hE
  have cE : w.heap.size < wp.heap.size := by omega
  have HBwp := Lib.hid (bt HB.out HBp.out)
  go_wp2_with fail
  refine (bothOf_any R op p q HIHp.out HIHq.out _ a len cap Q _ (HR.out.below HBwp.out) (HCv.out _ HBwp.out)).mono ?_
  rintro e' w3 ⟨rfl, hb3⟩
  have HBo := Lib.hid (show boV (askV R p) (askV R q) = boV yp yq by rw [← HYp.out, ← HYq.out])
  rw [HBo.out]
  obtain ⟨z, hz0⟩ : ∃ z, z = boV yp yq := ⟨_, rfl⟩
  have HZ := Lib.hid hz0
  rw [← hz0]
  clear hz0
  have HB3 := Lib.hid (bt HBp.out hb3)
  clear hb3
  clear e0 e1 e2 e3 e4 e5 e6 e7 cN cE
  go_upto_region 17 with (fail)
  have HT2 := Lib.hid (boxes2 w3 (.cells #[.int .i64 z.1.1, .int .i64 z.1.2.1, .string z.1.2.2] 38 (0, 0)) (.cells #[.int .i64 z.2.1.1, .int .i64 z.2.1.2.1, .string z.2.1.2.2] 38 (0, 0)))
  have HBn4 := Lib.hid (show Below w3.heap.size w3 ((w3.alloc (.cells #[.int .i64 z.1.1, .int .i64 z.1.2.1, .string z.1.2.2] 38)).alloc (.cells #[.int .i64 z.2.1.1, .int .i64 z.2.1.2.1, .string z.2.1.2.2] 38)) from bel0 _ (bel0 _ (Below.refl _ _)))
  generalize ((w3.alloc (.cells #[.int .i64 z.1.1, .int .i64 z.1.2.1, .string z.1.2.2] 38)).alloc (.cells #[.int .i64 z.2.1.1, .int .i64 z.2.1.2.1, .string z.2.1.2.2] 38)) = w4 at *
  have HB4 := Lib.hid (bt HB3.out HBn4.out)
  have HBw4 := Lib.hid (bt HB.out HB4.out)
  obtain ⟨m0, m1, m2, -, -, -, m6⟩ := v3 HT2.out.1.1
  obtain ⟨n0, n1, n2, -, -, -, n6⟩ := v3 HT2.out.1.2
  by_cases hzz : z.2.2 = 0
  rotate_left
  · have hne : (z.2.2 != 0) = true := by simp [hzz]
    have HQ := Lib.hid (show askV R (.mk 4 op 0 0 ⟨#[]⟩ 0 0 [p, q]) = (noV, 0, z.2.2) by
      by_cases hz : yp.2.2 = 0
      · have h2 : z.2.2 = yq.2.2 := by rw [HZ.out]; unfold boV; rw [if_neg (fun h => h hz)]
        rw [h2] at hzz ⊢
        rw [HAq.out]; unfold askH; rw [if_neg (by decide), if_neg (by decide), if_neg (show ¬ (([yp, yq] : List Wo).getD 0 noW).2.2 ≠ 0 from fun h => h hz), if_neg (by decide), if_neg (by decide), if_neg HSc.out, if_pos (show (([yp, yq] : List Wo).getD 1 noW).2.2 ≠ 0 from hzz)]; rfl
      · have h2 : z.2.2 = yp.2.2 := by rw [HZ.out]; unfold boV; rw [if_pos hz]
        rw [h2]
        exact by rw [HAq.out]; unfold askH; rw [if_neg (by decide), if_neg (by decide), if_pos (show ((yp :: _ : List Wo).getD 0 noW).2.2 ≠ 0 from hz)]; rfl)
    go_wp2
    go_ret2
    rw [HQ.out]
    exact ⟨rfl, HBw4.out⟩
  have HZ2 := Lib.hid (show yp.2.2 = 0 ∧ yq.2.2 = 0 ∧ z.1 = yp.1 ∧ z.2.1 = yq.1 by
    by_cases hz : yp.2.2 = 0
    · have h2 : z = (yp.1, yq.1, yq.2.2) := by rw [HZ.out]; unfold boV; rw [if_neg (fun h => h hz)]
      rw [h2] at hzz ⊢
      exact ⟨hz, hzz, rfl, rfl⟩
    · have h2 : z.2.2 = yp.2.2 := by rw [HZ.out]; unfold boV; rw [if_pos hz]
      rw [h2] at hzz
      exact absurd hzz hz)
  obtain ⟨cn, ce, hce⟩ : ∃ n e, cmpF op z.1.1 z.1.2.1 z.1.2.2 z.2.1.1 z.2.1.2.1 z.2.1.2.2 = (n, e) := ⟨_, _, rfl⟩
  have HCe := Lib.hid hce
  clear hce
  have HQ := Lib.hid (show askV R (.mk 4 op 0 0 ⟨#[]⟩ 0 0 [p, q]) = (noV, cn, unfE ce) by
    have h2 : cmpV op yp.1 yq.1 = (cn, ce) := by rw [← HZ2.out.2.2.1, ← HZ2.out.2.2.2]; exact HCe.out
    have h3 := argF_cmp op yp.1 yq.1
    rw [h2] at h3
    rw [HAq.out]; unfold askH; rw [if_neg (by decide), if_neg (by decide), if_neg (show ¬ (([yp, yq] : List Wo).getD 0 noW).2.2 ≠ 0 from fun h => h HZ2.out.1), if_neg (by decide), if_neg (by decide), if_neg HSc.out, if_neg (show ¬ (([yp, yq] : List Wo).getD 1 noW).2.2 ≠ 0 from fun h => h HZ2.out.2.1), if_neg (by rw [HRk0.out]; decide), if_neg HN1.out, if_neg HN2.out]
    exact (congrArg (fun x : Int × Int => argF noV x.1 x.2) h2).trans h3)
  obtain ⟨hE, cN⟩ := HC.out w4 HB4.out
  obtain ⟨e0, e1, e2, e3, e4, e5, e6, e7⟩ := cellsE hE
  clear hE
  have cE : w.heap.size < w4.heap.size := by omega
  go_wp2_with fail
  refine (compare_any op z.1.1 z.1.2.1 z.1.2.2 z.2.1.1 z.2.1.2.1 z.2.1.2.2 cn ce HCe.out _).mono ?_
  rintro e' w5 ⟨rfl, hb5⟩
  have HBw5 := Lib.hid (bt HBw4.out hb5)
  clear hb5 m0 m1 m2 m6 n0 n1 n2 n6
  clear e0 e1 e2 e3 e4 e5 e6 e7 cN cE
  go_wp2_with fail
  refine (unfit_any _ _).mono ?_
  rintro e' w6 ⟨rfl, hw6⟩
  subst hw6
  go_wp2_with fail
  go_ret2
  rw [HQ.out]
  exact ⟨rfl, HBw5.out⟩
end Go.Proofs.Ytafhgilikcablaa
namespace Go.Proofs.Ytafhgilikcablaa
open Go.RowKit
set_option linter.unusedVariables false
set_option linter.unusedSimpArgs false
set_option maxRecDepth 100000
set_option maxHeartbeats 12800000 in
theorem tru_test (R : List (List Val)) (op : ByteArray) (p : CT) (ho : op.toList = [73, 83, 32, 78, 85, 76, 76] ∨ op.toList = [73, 83, 32, 78, 79, 84, 32, 78, 85, 76, 76]) (IHp : ValI R p) (w : World) (a : Option Addr) (len cap : Nat) (Q : Nat → Prop) (v : Value) (hR : IsRR w a len R) (hv : CV w Q v (.mk 5 op 0 0 ⟨#[]⟩ 0 0 [p])) :
    Calls Try.prog 69 #[v, .slice a len cap] w (Tru2 w (askV R (.mk 5 op 0 0 ⟨#[]⟩ 0 0 [p])).2.1 (askV R (.mk 5 op 0 0 ⟨#[]⟩ 0 0 [p])).2.2) := by
  obtain ⟨sa, sc, rfl, hrg, hel⟩ := hv
  have HRg := Lib.hid hrg
  have HEl := Lib.hid hel
  obtain ⟨b, off, pa, pc, hsa, hbl, hat, hprg, hpl⟩ := hel.at (i := 0) (by simp [CT.parts])
  subst hsa
  have hat : CAt w b (off + 0 * 8) p pa pc := hat
  have hprg : CRg p pa pc := hprg
  have hpl : CL w Q pa p.parts := hpl
  rw [show off + 0 * 8 = off from rfl] at hat
  have HCvp := Lib.hid (show ∀ W, Below w.heap.size w W → CV W Q (.agg #[.int .i64 p.kind, .string p.op, .int .i64 p.vk, .int .i64 p.vn, .string p.vs, .int .i64 p.src, .int .i64 p.col, .slice pa p.parts.length pc]) p from fun W hW => ⟨pa, pc, rfl, hprg, hpl.keep hW⟩)
  have HAtp := Lib.hid (show ∀ W, Below w.heap.size w W → CAt W b (off) p pa pc from fun W hW => hat.below hbl hW)
  have HIHp := Lib.hid IHp
  have HBl := Lib.hid hbl
  have HR := Lib.hid hR
  have HCv := Lib.hid (show ∀ W, Below w.heap.size w W → CV W Q (.agg #[.int .i64 5, .string op, .int .i64 0, .int .i64 0, .string ⟨#[]⟩, .int .i64 0, .int .i64 0, .slice (some ⟨b, off, none⟩) 1 sc]) (.mk 5 op 0 0 ⟨#[]⟩ 0 0 [p]) from fun W hW => ⟨_, sc, rfl, HRg.out, HEl.out.keep hW⟩)
  have e0 : (ctX (.mk 5 op 0 0 ⟨#[]⟩ 0 0 [p]) (some ⟨b, off, none⟩) sc).toArray = #[.int .i64 5, .string op, .int .i64 0, .int .i64 0, .string ⟨#[]⟩, .int .i64 0, .int .i64 0, .slice (some ⟨b, off, none⟩) 1 sc] := rfl
  rw [e0]
  obtain ⟨yp, hyp⟩ : ∃ y, y = askV R p := ⟨_, rfl⟩
  have HYp := Lib.hid hyp
  have HAq := Lib.hid (show askV R (.mk 5 op 0 0 ⟨#[]⟩ 0 0 [p]) = askH R 5 op (0, 0, ⟨#[]⟩) 0 0 [yp] by rw [hyp]; rfl)
  have HB := Lib.hid (bel0 (.cells #[.int .i64 5, .string op, .int .i64 0, .int .i64 0, .string ⟨#[]⟩, .int .i64 0, .int .i64 0, .slice (some ⟨b, off, none⟩) 1 sc] 46) (Below.refl w.heap.size w))
  have HBX := Lib.hid (show (w.alloc (.cells #[.int .i64 5, .string op, .int .i64 0, .int .i64 0, .string ⟨#[]⟩, .int .i64 0, .int .i64 0, .slice (some ⟨b, off, none⟩) 1 sc] 46)).heap[w.heap.size]? = some (.cells #[.int .i64 5, .string op, .int .i64 0, .int .i64 0, .string ⟨#[]⟩, .int .i64 0, .int .i64 0, .slice (some ⟨b, off, none⟩) 1 sc] 46 (0, 0)) ∧ (w.alloc (.cells #[.int .i64 5, .string op, .int .i64 0, .int .i64 0, .string ⟨#[]⟩, .int .i64 0, .int .i64 0, .slice (some ⟨b, off, none⟩) 1 sc] 46)).heap.size = w.heap.size + 1 from ⟨Go.heap_alloc_new w _, by simp⟩)
  clear hR hrg hel e0 IHp hyp hat hprg hpl hbl
  go_enter Try.func69, Try.ntmps69
  go_upto_region 1 with (fail)
  generalize (w.alloc (.cells #[.int .i64 5, .string op, .int .i64 0, .int .i64 0, .string ⟨#[]⟩, .int .i64 0, .int .i64 0, .slice (some ⟨b, off, none⟩) 1 sc] 46)) = w1 at *
  have HC := Lib.hid (show ∀ W : World, Below w1.heap.size w1 W → W.heap[w.heap.size]? = some (.cells #[.int .i64 5, .string op, .int .i64 0, .int .i64 0, .string ⟨#[]⟩, .int .i64 0, .int .i64 0, .slice (some ⟨b, off, none⟩) 1 sc] 46 (0, 0)) ∧ w.heap.size < W.heap.size from fun W h => by
    obtain ⟨h0, hz⟩ := HBX.out
    have k0 := (h.block (w.heap.size) (by omega)).trans h0
    exact ⟨k0, (Array.getElem?_eq_some_iff.1 k0).1⟩)
  have HTr := Lib.hid (show truB (.mk 5 op 0 0 ⟨#[]⟩ 0 0 [p]) = true from rfl)
  have HO := Lib.hid ho
  clear ho
  obtain ⟨hE, cN⟩ := HC.out w1 (Below.refl _ _)
  obtain ⟨e0, e1, e2, e3, e4, e5, e6, e7⟩ := cellsE hE
  clear hE
  have cE : w.heap.size < w1.heap.size := by omega
  go_wp2_with fail
  refine (truthful_any (.mk 5 op 0 0 ⟨#[]⟩ 0 0 [p]) _ Q _ (HCv.out _ (bt HB.out (Below.refl w1.heap.size w1)))).mono ?_
  rintro e' wp ⟨rfl, hbp⟩
  rw [HTr.out]
  have HBp := Lib.hid (bt (Below.refl w1.heap.size w1) hbp)
  clear hbp
  clear e0 e1 e2 e3 e4 e5 e6 e7 cN cE
  obtain ⟨hE, cN⟩ := HC.out wp HBp.out
  obtain ⟨e0, e1, e2, e3, e4, e5, e6, e7⟩ := cellsE hE
  clear hE
  have cE : w.heap.size < wp.heap.size := by omega
  have HBwp := Lib.hid (bt HB.out HBp.out)
  go_wp2_with fail
  refine (testOf_any R op p HO.out HIHp.out _ a len cap Q _ (HR.out.below HBwp.out) (HCv.out _ HBwp.out)).mono ?_
  rintro e' w3 ⟨rfl, hb3⟩
  have HBw3 := Lib.hid (bt HBwp.out hb3)
  clear hb3
  clear e0 e1 e2 e3 e4 e5 e6 e7 cN cE
  go_wp2_with fail
  go_ret2
  exact ⟨rfl, HBw3.out⟩
set_option maxHeartbeats 12800000 in
theorem tru_not (R : List (List Val)) (op : ByteArray) (p : CT) (ho : op.toList = [78, 79, 84]) (IHp : TruI R p) (w : World) (a : Option Addr) (len cap : Nat) (Q : Nat → Prop) (v : Value) (hR : IsRR w a len R) (hv : CV w Q v (.mk 3 op 0 0 ⟨#[]⟩ 0 0 [p])) :
    Calls Try.prog 69 #[v, .slice a len cap] w (Tru2 w (askV R (.mk 3 op 0 0 ⟨#[]⟩ 0 0 [p])).2.1 (askV R (.mk 3 op 0 0 ⟨#[]⟩ 0 0 [p])).2.2) := by
  obtain ⟨sa, sc, rfl, hrg, hel⟩ := hv
  have HRg := Lib.hid hrg
  have HEl := Lib.hid hel
  obtain ⟨b, off, pa, pc, hsa, hbl, hat, hprg, hpl⟩ := hel.at (i := 0) (by simp [CT.parts])
  subst hsa
  have hat : CAt w b (off + 0 * 8) p pa pc := hat
  have hprg : CRg p pa pc := hprg
  have hpl : CL w Q pa p.parts := hpl
  rw [show off + 0 * 8 = off from rfl] at hat
  have HCvp := Lib.hid (show ∀ W, Below w.heap.size w W → CV W Q (.agg #[.int .i64 p.kind, .string p.op, .int .i64 p.vk, .int .i64 p.vn, .string p.vs, .int .i64 p.src, .int .i64 p.col, .slice pa p.parts.length pc]) p from fun W hW => ⟨pa, pc, rfl, hprg, hpl.keep hW⟩)
  have HAtp := Lib.hid (show ∀ W, Below w.heap.size w W → CAt W b (off) p pa pc from fun W hW => hat.below hbl hW)
  have HIHp := Lib.hid IHp
  have HBl := Lib.hid hbl
  have HR := Lib.hid hR
  have HCv := Lib.hid (show ∀ W, Below w.heap.size w W → CV W Q (.agg #[.int .i64 3, .string op, .int .i64 0, .int .i64 0, .string ⟨#[]⟩, .int .i64 0, .int .i64 0, .slice (some ⟨b, off, none⟩) 1 sc]) (.mk 3 op 0 0 ⟨#[]⟩ 0 0 [p]) from fun W hW => ⟨_, sc, rfl, HRg.out, HEl.out.keep hW⟩)
  have e0 : (ctX (.mk 3 op 0 0 ⟨#[]⟩ 0 0 [p]) (some ⟨b, off, none⟩) sc).toArray = #[.int .i64 3, .string op, .int .i64 0, .int .i64 0, .string ⟨#[]⟩, .int .i64 0, .int .i64 0, .slice (some ⟨b, off, none⟩) 1 sc] := rfl
  rw [e0]
  obtain ⟨yp, hyp⟩ : ∃ y, y = askV R p := ⟨_, rfl⟩
  have HYp := Lib.hid hyp
  have HAq := Lib.hid (show askV R (.mk 3 op 0 0 ⟨#[]⟩ 0 0 [p]) = askH R 3 op (0, 0, ⟨#[]⟩) 0 0 [yp] by rw [hyp]; rfl)
  have HB := Lib.hid (bel0 (.cells #[.int .i64 3, .string op, .int .i64 0, .int .i64 0, .string ⟨#[]⟩, .int .i64 0, .int .i64 0, .slice (some ⟨b, off, none⟩) 1 sc] 46) (Below.refl w.heap.size w))
  have HBX := Lib.hid (show (w.alloc (.cells #[.int .i64 3, .string op, .int .i64 0, .int .i64 0, .string ⟨#[]⟩, .int .i64 0, .int .i64 0, .slice (some ⟨b, off, none⟩) 1 sc] 46)).heap[w.heap.size]? = some (.cells #[.int .i64 3, .string op, .int .i64 0, .int .i64 0, .string ⟨#[]⟩, .int .i64 0, .int .i64 0, .slice (some ⟨b, off, none⟩) 1 sc] 46 (0, 0)) ∧ (w.alloc (.cells #[.int .i64 3, .string op, .int .i64 0, .int .i64 0, .string ⟨#[]⟩, .int .i64 0, .int .i64 0, .slice (some ⟨b, off, none⟩) 1 sc] 46)).heap.size = w.heap.size + 1 from ⟨Go.heap_alloc_new w _, by simp⟩)
  clear hR hrg hel e0 IHp hyp hat hprg hpl hbl
  go_enter Try.func69, Try.ntmps69
  go_upto_region 1 with (fail)
  generalize (w.alloc (.cells #[.int .i64 3, .string op, .int .i64 0, .int .i64 0, .string ⟨#[]⟩, .int .i64 0, .int .i64 0, .slice (some ⟨b, off, none⟩) 1 sc] 46)) = w1 at *
  have HC := Lib.hid (show ∀ W : World, Below w1.heap.size w1 W → W.heap[w.heap.size]? = some (.cells #[.int .i64 3, .string op, .int .i64 0, .int .i64 0, .string ⟨#[]⟩, .int .i64 0, .int .i64 0, .slice (some ⟨b, off, none⟩) 1 sc] 46 (0, 0)) ∧ w.heap.size < W.heap.size from fun W h => by
    obtain ⟨h0, hz⟩ := HBX.out
    have k0 := (h.block (w.heap.size) (by omega)).trans h0
    exact ⟨k0, (Array.getElem?_eq_some_iff.1 k0).1⟩)
  have HTr := Lib.hid (show truB (.mk 3 op 0 0 ⟨#[]⟩ 0 0 [p]) = true by simp [truB, CT.kind, CT.op, reckP, ho])
  have HO := Lib.hid ho
  clear ho
  obtain ⟨hE, cN⟩ := HC.out w1 (Below.refl _ _)
  obtain ⟨e0, e1, e2, e3, e4, e5, e6, e7⟩ := cellsE hE
  clear hE
  have cE : w.heap.size < w1.heap.size := by omega
  go_wp2_with fail
  refine (truthful_any (.mk 3 op 0 0 ⟨#[]⟩ 0 0 [p]) _ Q _ (HCv.out _ (bt HB.out (Below.refl w1.heap.size w1)))).mono ?_
  rintro e' wp ⟨rfl, hbp⟩
  rw [HTr.out]
  have HBp := Lib.hid (bt (Below.refl w1.heap.size w1) hbp)
  clear hbp
  clear e0 e1 e2 e3 e4 e5 e6 e7 cN cE
  obtain ⟨hE, cN⟩ := HC.out wp HBp.out
  obtain ⟨e0, e1, e2, e3, e4, e5, e6, e7⟩ := cellsE hE
  clear hE
  have cE : w.heap.size < wp.heap.size := by omega
  go_wp2_with fail
  refine (parts_any (.mk 3 op 0 0 ⟨#[]⟩ 0 0 [p]) 1 _ Q _ (HCv.out _ (bt HB.out HBp.out))).mono ?_
  rintro e' wq ⟨rfl, hbq⟩
  rw [show decide (((.mk 3 op 0 0 ⟨#[]⟩ 0 0 [p]) : CT).parts.length = 1) = true from rfl]
  have HBq := Lib.hid (bt HBp.out hbq)
  clear hbq
  clear e0 e1 e2 e3 e4 e5 e6 e7 cN cE
  obtain ⟨hE, cN⟩ := HC.out wq HBq.out
  obtain ⟨e0, e1, e2, e3, e4, e5, e6, e7⟩ := cellsE hE
  clear hE
  have cE : w.heap.size < wq.heap.size := by omega
  obtain ⟨a0, a1, a2, a3, a4, a5, a6, a7⟩ := HAtp.out wq (bt HB.out HBq.out)
  have hbw : b < wq.heap.size := Nat.lt_of_lt_of_le HBl.out (bt HB.out HBq.out).size
  have HBwq := Lib.hid (bt HB.out HBq.out)
  go_wp2_with fail
  refine (HIHp.out _ a len cap Q _ (HR.out.below HBwq.out) (HCvp.out _ HBwq.out)).mono ?_
  rintro e' w3 ⟨rfl, hb3⟩
  rw [← HYp.out]
  have HBw3 := Lib.hid (bt HBwq.out hb3)
  clear hb3
  clear e0 e1 e2 e3 e4 e5 e6 e7 cN cE
  clear a0 a1 a2 a3 a4 a5 a6 a7 hbw
  by_cases hz : yp.2.2 = 0
  rotate_left
  · have hne : (yp.2.2 != 0) = true := by simp [hz]
    have HQ := Lib.hid (show askV R (.mk 3 op 0 0 ⟨#[]⟩ 0 0 [p]) = (noV, 0, yp.2.2) from by rw [HAq.out]; unfold askH; rw [if_neg (by decide), if_neg (by decide), if_pos (show ((yp :: _ : List Wo).getD 0 noW).2.2 ≠ 0 from hz)]; rfl)
    go_wp2
    go_ret2
    rw [HQ.out]
    exact ⟨rfl, HBw3.out⟩
  have HQ := Lib.hid (show askV R (.mk 3 op 0 0 ⟨#[]⟩ 0 0 [p]) = (noV, notI yp.2.1, 0) by rw [HAq.out]; unfold askH; rw [if_neg (by decide), if_neg (by decide), if_neg (show ¬ (([yp] : List Wo).getD 0 noW).2.2 ≠ 0 from fun h => h hz), if_pos rfl, if_pos HO.out]; rfl)
  go_wp2_with fail
  refine (not_any _ _).mono ?_
  rintro e' w6 ⟨rfl, hw6⟩
  subst hw6
  go_wp2_with fail
  go_ret2
  rw [HQ.out]
  exact ⟨rfl, HBw3.out⟩
set_option maxHeartbeats 12800000 in
theorem tru_and (R : List (List Val)) (op : ByteArray) (p q : CT) (ho : op.toList = [65, 78, 68]) (IHp : TruI R p) (IHq : TruI R q) (w : World) (a : Option Addr) (len cap : Nat) (Q : Nat → Prop) (v : Value) (hR : IsRR w a len R) (hv : CV w Q v (.mk 4 op 0 0 ⟨#[]⟩ 0 0 [p, q])) :
    Calls Try.prog 69 #[v, .slice a len cap] w (Tru2 w (askV R (.mk 4 op 0 0 ⟨#[]⟩ 0 0 [p, q])).2.1 (askV R (.mk 4 op 0 0 ⟨#[]⟩ 0 0 [p, q])).2.2) := by
  obtain ⟨sa, sc, rfl, hrg, hel⟩ := hv
  have HRg := Lib.hid hrg
  have HEl := Lib.hid hel
  obtain ⟨b, off, pa, pc, hsa, hbl, hat, hprg, hpl⟩ := hel.at (i := 0) (by simp [CT.parts])
  subst hsa
  have hat : CAt w b (off + 0 * 8) p pa pc := hat
  have hprg : CRg p pa pc := hprg
  have hpl : CL w Q pa p.parts := hpl
  rw [show off + 0 * 8 = off from rfl] at hat
  have HCvp := Lib.hid (show ∀ W, Below w.heap.size w W → CV W Q (.agg #[.int .i64 p.kind, .string p.op, .int .i64 p.vk, .int .i64 p.vn, .string p.vs, .int .i64 p.src, .int .i64 p.col, .slice pa p.parts.length pc]) p from fun W hW => ⟨pa, pc, rfl, hprg, hpl.keep hW⟩)
  have HAtp := Lib.hid (show ∀ W, Below w.heap.size w W → CAt W b (off) p pa pc from fun W hW => hat.below hbl hW)
  have HIHp := Lib.hid IHp
  obtain ⟨b', off', qa, qc, hsa', hbl', hat', hprg', hpl'⟩ := hel.at (i := 1) (by simp [CT.parts])
  cases hsa'
  have hat' : CAt w b (off + 1 * 8) q qa qc := hat'
  have hprg' : CRg q qa qc := hprg'
  have hpl' : CL w Q qa q.parts := hpl'
  rw [show off + 1 * 8 = off + 8 from rfl] at hat'
  have HCvq := Lib.hid (show ∀ W, Below w.heap.size w W → CV W Q (.agg #[.int .i64 q.kind, .string q.op, .int .i64 q.vk, .int .i64 q.vn, .string q.vs, .int .i64 q.src, .int .i64 q.col, .slice qa q.parts.length qc]) q from fun W hW => ⟨qa, qc, rfl, hprg', hpl'.keep hW⟩)
  have HAtq := Lib.hid (show ∀ W, Below w.heap.size w W → CAt W b (off + 8) q qa qc from fun W hW => hat'.below hbl' hW)
  have HIHq := Lib.hid IHq
  have HBl := Lib.hid hbl
  have HR := Lib.hid hR
  have HCv := Lib.hid (show ∀ W, Below w.heap.size w W → CV W Q (.agg #[.int .i64 4, .string op, .int .i64 0, .int .i64 0, .string ⟨#[]⟩, .int .i64 0, .int .i64 0, .slice (some ⟨b, off, none⟩) 2 sc]) (.mk 4 op 0 0 ⟨#[]⟩ 0 0 [p, q]) from fun W hW => ⟨_, sc, rfl, HRg.out, HEl.out.keep hW⟩)
  have e0 : (ctX (.mk 4 op 0 0 ⟨#[]⟩ 0 0 [p, q]) (some ⟨b, off, none⟩) sc).toArray = #[.int .i64 4, .string op, .int .i64 0, .int .i64 0, .string ⟨#[]⟩, .int .i64 0, .int .i64 0, .slice (some ⟨b, off, none⟩) 2 sc] := rfl
  rw [e0]
  obtain ⟨yp, hyp⟩ : ∃ y, y = askV R p := ⟨_, rfl⟩
  have HYp := Lib.hid hyp
  obtain ⟨yq, hyq⟩ : ∃ y, y = askV R q := ⟨_, rfl⟩
  have HYq := Lib.hid hyq
  have HAq := Lib.hid (show askV R (.mk 4 op 0 0 ⟨#[]⟩ 0 0 [p, q]) = askH R 4 op (0, 0, ⟨#[]⟩) 0 0 [yp, yq] by rw [hyp, hyq]; rfl)
  have HB := Lib.hid (bel0 (.cells #[.int .i64 4, .string op, .int .i64 0, .int .i64 0, .string ⟨#[]⟩, .int .i64 0, .int .i64 0, .slice (some ⟨b, off, none⟩) 2 sc] 46) (Below.refl w.heap.size w))
  have HBX := Lib.hid (show (w.alloc (.cells #[.int .i64 4, .string op, .int .i64 0, .int .i64 0, .string ⟨#[]⟩, .int .i64 0, .int .i64 0, .slice (some ⟨b, off, none⟩) 2 sc] 46)).heap[w.heap.size]? = some (.cells #[.int .i64 4, .string op, .int .i64 0, .int .i64 0, .string ⟨#[]⟩, .int .i64 0, .int .i64 0, .slice (some ⟨b, off, none⟩) 2 sc] 46 (0, 0)) ∧ (w.alloc (.cells #[.int .i64 4, .string op, .int .i64 0, .int .i64 0, .string ⟨#[]⟩, .int .i64 0, .int .i64 0, .slice (some ⟨b, off, none⟩) 2 sc] 46)).heap.size = w.heap.size + 1 from ⟨Go.heap_alloc_new w _, by simp⟩)
  clear hR hrg hel e0 IHp IHq hyp hyq hat hprg hpl hbl hat' hprg' hpl' hbl'
  go_enter Try.func69, Try.ntmps69
  go_upto_region 1 with (fail)
  generalize (w.alloc (.cells #[.int .i64 4, .string op, .int .i64 0, .int .i64 0, .string ⟨#[]⟩, .int .i64 0, .int .i64 0, .slice (some ⟨b, off, none⟩) 2 sc] 46)) = w1 at *
  have HC := Lib.hid (show ∀ W : World, Below w1.heap.size w1 W → W.heap[w.heap.size]? = some (.cells #[.int .i64 4, .string op, .int .i64 0, .int .i64 0, .string ⟨#[]⟩, .int .i64 0, .int .i64 0, .slice (some ⟨b, off, none⟩) 2 sc] 46 (0, 0)) ∧ w.heap.size < W.heap.size from fun W h => by
    obtain ⟨h0, hz⟩ := HBX.out
    have k0 := (h.block (w.heap.size) (by omega)).trans h0
    exact ⟨k0, (Array.getElem?_eq_some_iff.1 k0).1⟩)
  have HTr := Lib.hid (show truB (.mk 4 op 0 0 ⟨#[]⟩ 0 0 [p, q]) = true by simp [truB, CT.kind, CT.op, reckP, ho])
  have HO := Lib.hid ho
  have hn1 : (op.toList == [65, 78, 68]) = true := by simp [ho]
  have hn2 : (op.toList == [79, 82]) = false := by simp [ho]
  clear ho
  obtain ⟨hE, cN⟩ := HC.out w1 (Below.refl _ _)
  obtain ⟨e0, e1, e2, e3, e4, e5, e6, e7⟩ := cellsE hE
  clear hE
  have cE : w.heap.size < w1.heap.size := by omega
  go_wp2_with fail
  refine (truthful_any (.mk 4 op 0 0 ⟨#[]⟩ 0 0 [p, q]) _ Q _ (HCv.out _ (bt HB.out (Below.refl w1.heap.size w1)))).mono ?_
  rintro e' wp ⟨rfl, hbp⟩
  rw [HTr.out]
  have HBp := Lib.hid (bt (Below.refl w1.heap.size w1) hbp)
  clear hbp
  clear e0 e1 e2 e3 e4 e5 e6 e7 cN cE
  obtain ⟨hE, cN⟩ := HC.out wp HBp.out
  obtain ⟨e0, e1, e2, e3, e4, e5, e6, e7⟩ := cellsE hE
  clear hE
  have cE : w.heap.size < wp.heap.size := by omega
  have HBwp := Lib.hid (bt HB.out HBp.out)
  go_wp2_with fail
  refine (joined_and R op p q HO.out HIHp.out HIHq.out _ a len cap Q _ (HR.out.below HBwp.out) (HCv.out _ HBwp.out)).mono ?_
  rintro e' w3 ⟨rfl, hb3⟩
  have HBw3 := Lib.hid (bt HBwp.out hb3)
  clear hb3
  clear e0 e1 e2 e3 e4 e5 e6 e7 cN cE
  go_wp2_with fail
  go_ret2
  exact ⟨rfl, HBw3.out⟩
set_option maxHeartbeats 12800000 in
theorem tru_or (R : List (List Val)) (op : ByteArray) (p q : CT) (ho : op.toList = [79, 82]) (IHp : TruI R p) (IHq : TruI R q) (w : World) (a : Option Addr) (len cap : Nat) (Q : Nat → Prop) (v : Value) (hR : IsRR w a len R) (hv : CV w Q v (.mk 4 op 0 0 ⟨#[]⟩ 0 0 [p, q])) :
    Calls Try.prog 69 #[v, .slice a len cap] w (Tru2 w (askV R (.mk 4 op 0 0 ⟨#[]⟩ 0 0 [p, q])).2.1 (askV R (.mk 4 op 0 0 ⟨#[]⟩ 0 0 [p, q])).2.2) := by
  obtain ⟨sa, sc, rfl, hrg, hel⟩ := hv
  have HRg := Lib.hid hrg
  have HEl := Lib.hid hel
  obtain ⟨b, off, pa, pc, hsa, hbl, hat, hprg, hpl⟩ := hel.at (i := 0) (by simp [CT.parts])
  subst hsa
  have hat : CAt w b (off + 0 * 8) p pa pc := hat
  have hprg : CRg p pa pc := hprg
  have hpl : CL w Q pa p.parts := hpl
  rw [show off + 0 * 8 = off from rfl] at hat
  have HCvp := Lib.hid (show ∀ W, Below w.heap.size w W → CV W Q (.agg #[.int .i64 p.kind, .string p.op, .int .i64 p.vk, .int .i64 p.vn, .string p.vs, .int .i64 p.src, .int .i64 p.col, .slice pa p.parts.length pc]) p from fun W hW => ⟨pa, pc, rfl, hprg, hpl.keep hW⟩)
  have HAtp := Lib.hid (show ∀ W, Below w.heap.size w W → CAt W b (off) p pa pc from fun W hW => hat.below hbl hW)
  have HIHp := Lib.hid IHp
  obtain ⟨b', off', qa, qc, hsa', hbl', hat', hprg', hpl'⟩ := hel.at (i := 1) (by simp [CT.parts])
  cases hsa'
  have hat' : CAt w b (off + 1 * 8) q qa qc := hat'
  have hprg' : CRg q qa qc := hprg'
  have hpl' : CL w Q qa q.parts := hpl'
  rw [show off + 1 * 8 = off + 8 from rfl] at hat'
  have HCvq := Lib.hid (show ∀ W, Below w.heap.size w W → CV W Q (.agg #[.int .i64 q.kind, .string q.op, .int .i64 q.vk, .int .i64 q.vn, .string q.vs, .int .i64 q.src, .int .i64 q.col, .slice qa q.parts.length qc]) q from fun W hW => ⟨qa, qc, rfl, hprg', hpl'.keep hW⟩)
  have HAtq := Lib.hid (show ∀ W, Below w.heap.size w W → CAt W b (off + 8) q qa qc from fun W hW => hat'.below hbl' hW)
  have HIHq := Lib.hid IHq
  have HBl := Lib.hid hbl
  have HR := Lib.hid hR
  have HCv := Lib.hid (show ∀ W, Below w.heap.size w W → CV W Q (.agg #[.int .i64 4, .string op, .int .i64 0, .int .i64 0, .string ⟨#[]⟩, .int .i64 0, .int .i64 0, .slice (some ⟨b, off, none⟩) 2 sc]) (.mk 4 op 0 0 ⟨#[]⟩ 0 0 [p, q]) from fun W hW => ⟨_, sc, rfl, HRg.out, HEl.out.keep hW⟩)
  have e0 : (ctX (.mk 4 op 0 0 ⟨#[]⟩ 0 0 [p, q]) (some ⟨b, off, none⟩) sc).toArray = #[.int .i64 4, .string op, .int .i64 0, .int .i64 0, .string ⟨#[]⟩, .int .i64 0, .int .i64 0, .slice (some ⟨b, off, none⟩) 2 sc] := rfl
  rw [e0]
  obtain ⟨yp, hyp⟩ : ∃ y, y = askV R p := ⟨_, rfl⟩
  have HYp := Lib.hid hyp
  obtain ⟨yq, hyq⟩ : ∃ y, y = askV R q := ⟨_, rfl⟩
  have HYq := Lib.hid hyq
  have HAq := Lib.hid (show askV R (.mk 4 op 0 0 ⟨#[]⟩ 0 0 [p, q]) = askH R 4 op (0, 0, ⟨#[]⟩) 0 0 [yp, yq] by rw [hyp, hyq]; rfl)
  have HB := Lib.hid (bel0 (.cells #[.int .i64 4, .string op, .int .i64 0, .int .i64 0, .string ⟨#[]⟩, .int .i64 0, .int .i64 0, .slice (some ⟨b, off, none⟩) 2 sc] 46) (Below.refl w.heap.size w))
  have HBX := Lib.hid (show (w.alloc (.cells #[.int .i64 4, .string op, .int .i64 0, .int .i64 0, .string ⟨#[]⟩, .int .i64 0, .int .i64 0, .slice (some ⟨b, off, none⟩) 2 sc] 46)).heap[w.heap.size]? = some (.cells #[.int .i64 4, .string op, .int .i64 0, .int .i64 0, .string ⟨#[]⟩, .int .i64 0, .int .i64 0, .slice (some ⟨b, off, none⟩) 2 sc] 46 (0, 0)) ∧ (w.alloc (.cells #[.int .i64 4, .string op, .int .i64 0, .int .i64 0, .string ⟨#[]⟩, .int .i64 0, .int .i64 0, .slice (some ⟨b, off, none⟩) 2 sc] 46)).heap.size = w.heap.size + 1 from ⟨Go.heap_alloc_new w _, by simp⟩)
  clear hR hrg hel e0 IHp IHq hyp hyq hat hprg hpl hbl hat' hprg' hpl' hbl'
  go_enter Try.func69, Try.ntmps69
  go_upto_region 1 with (fail)
  generalize (w.alloc (.cells #[.int .i64 4, .string op, .int .i64 0, .int .i64 0, .string ⟨#[]⟩, .int .i64 0, .int .i64 0, .slice (some ⟨b, off, none⟩) 2 sc] 46)) = w1 at *
  have HC := Lib.hid (show ∀ W : World, Below w1.heap.size w1 W → W.heap[w.heap.size]? = some (.cells #[.int .i64 4, .string op, .int .i64 0, .int .i64 0, .string ⟨#[]⟩, .int .i64 0, .int .i64 0, .slice (some ⟨b, off, none⟩) 2 sc] 46 (0, 0)) ∧ w.heap.size < W.heap.size from fun W h => by
    obtain ⟨h0, hz⟩ := HBX.out
    have k0 := (h.block (w.heap.size) (by omega)).trans h0
    exact ⟨k0, (Array.getElem?_eq_some_iff.1 k0).1⟩)
  have HTr := Lib.hid (show truB (.mk 4 op 0 0 ⟨#[]⟩ 0 0 [p, q]) = true by simp [truB, CT.kind, CT.op, reckP, ho])
  have HO := Lib.hid ho
  have hn1 : (op.toList == [65, 78, 68]) = false := by simp [ho]
  have hn2 : (op.toList == [79, 82]) = true := by simp [ho]
  clear ho
  obtain ⟨hE, cN⟩ := HC.out w1 (Below.refl _ _)
  obtain ⟨e0, e1, e2, e3, e4, e5, e6, e7⟩ := cellsE hE
  clear hE
  have cE : w.heap.size < w1.heap.size := by omega
  go_wp2_with fail
  refine (truthful_any (.mk 4 op 0 0 ⟨#[]⟩ 0 0 [p, q]) _ Q _ (HCv.out _ (bt HB.out (Below.refl w1.heap.size w1)))).mono ?_
  rintro e' wp ⟨rfl, hbp⟩
  rw [HTr.out]
  have HBp := Lib.hid (bt (Below.refl w1.heap.size w1) hbp)
  clear hbp
  clear e0 e1 e2 e3 e4 e5 e6 e7 cN cE
  obtain ⟨hE, cN⟩ := HC.out wp HBp.out
  obtain ⟨e0, e1, e2, e3, e4, e5, e6, e7⟩ := cellsE hE
  clear hE
  have cE : w.heap.size < wp.heap.size := by omega
  have HBwp := Lib.hid (bt HB.out HBp.out)
  go_wp2_with fail
  refine (joined_or R op p q HO.out HIHp.out HIHq.out _ a len cap Q _ (HR.out.below HBwp.out) (HCv.out _ HBwp.out)).mono ?_
  rintro e' w3 ⟨rfl, hb3⟩
  have HBw3 := Lib.hid (bt HBwp.out hb3)
  clear hb3
  clear e0 e1 e2 e3 e4 e5 e6 e7 cN cE
  go_wp2_with fail
  go_ret2
  exact ⟨rfl, HBw3.out⟩
end Go.Proofs.Ytafhgilikcablaa
namespace Go.Proofs.Ytafhgilikcablaa
open Go.RowKit
set_option linter.unusedVariables false
set_option linter.unusedSimpArgs false
set_option maxRecDepth 100000
set_option maxHeartbeats 6400000 in
theorem val_lit (R : List (List Val)) (vk vn : Int) (vs : ByteArray) (hf : formedB vk vn vs = true) (w : World) (a : Option Addr) (len cap : Nat) (Q : Nat → Prop) (v : Value) (hR : IsRR w a len R) (hv : CV w Q v (.mk 1 ⟨#[]⟩ vk vn vs 0 0 [])) : Calls Try.prog 70 #[v, .slice a len cap] w (Val2 w (askV R (.mk 1 ⟨#[]⟩ vk vn vs 0 0 [])).1 (askV R (.mk 1 ⟨#[]⟩ vk vn vs 0 0 [])).2.2) := by
  obtain ⟨sa, sc, rfl, hrg, hel⟩ := hv
  have HR := Lib.hid hR
  have HRg := Lib.hid hrg
  have e0 : (ctX (.mk 1 ⟨#[]⟩ vk vn vs 0 0 []) sa sc).toArray = #[.int .i64 1, .string ⟨#[]⟩, .int .i64 vk, .int .i64 vn, .string vs, .int .i64 0, .int .i64 0, .slice sa 0 sc] := rfl
  rw [e0]
  have HB := Lib.hid (bel0 (.cells #[.int .i64 0, .int .i64 0, .string ⟨#[]⟩] 38) (bel0 (.cells #[.int .i64 1, .string ⟨#[]⟩, .int .i64 vk, .int .i64 vn, .string vs, .int .i64 0, .int .i64 0, .slice sa 0 sc] 46) (Below.refl w.heap.size w)))
  have HBX := Lib.hid (boxes2 w (.cells #[.int .i64 1, .string ⟨#[]⟩, .int .i64 vk, .int .i64 vn, .string vs, .int .i64 0, .int .i64 0, .slice sa 0 sc] 46 (0, 0)) (.cells #[.int .i64 0, .int .i64 0, .string ⟨#[]⟩] 38 (0, 0)))
  clear hR hrg hel e0
  go_enter Try.func70, Try.ntmps70
  go_upto_region 1 with (fail)
  generalize ((w.alloc (.cells #[.int .i64 1, .string ⟨#[]⟩, .int .i64 vk, .int .i64 vn, .string vs, .int .i64 0, .int .i64 0, .slice sa 0 sc] 46)).alloc (.cells #[.int .i64 0, .int .i64 0, .string ⟨#[]⟩] 38)) = w1 at *
  have HC := Lib.hid (show ∀ W : World, Below w1.heap.size w1 W → W.heap[w.heap.size]? = some (.cells #[.int .i64 1, .string ⟨#[]⟩, .int .i64 vk, .int .i64 vn, .string vs, .int .i64 0, .int .i64 0, .slice sa 0 sc] 46 (0, 0)) ∧ W.heap[w.heap.size + 1]? = some (.cells #[.int .i64 0, .int .i64 0, .string ⟨#[]⟩] 38 (0, 0)) ∧ w.heap.size + 1 < W.heap.size from fun W h => by
    obtain ⟨⟨h0, h1⟩, hz⟩ := HBX.out
    have k0 := (h.block w.heap.size (by omega)).trans h0
    have k1 := (h.block (w.heap.size + 1) (by omega)).trans h1
    exact ⟨k0, k1, (Array.getElem?_eq_some_iff.1 k1).1⟩)
  obtain ⟨hE, -, cN⟩ := HC.out w1 (Below.refl _ _)
  obtain ⟨e0, e1, e2, e3, e4, e5, e6, e7⟩ := cellsE hE
  have cE : w.heap.size < w1.heap.size := by omega
  clear hE
  have HF := Lib.hid (show ∀ W : World, Calls Try.prog 105 #[.agg #[.int .i64 vk, .int .i64 vn, .string vs]] W (Val2 W (vk, vn, vs) 0) from fun W => by
    have h := pformed_v (vk, vn, vs) W
    have h1 : formedV (vk, vn, vs) = true := hf
    have h2 : fmV (vk, vn, vs) = (vk, vn, vs) := if_pos h1
    have h3 : fmX (vk, vn, vs) = 0 := if_pos h1
    rw [h2, h3] at h
    exact h)
  clear hf
  have HQ := Lib.hid (show askV R (.mk 1 ⟨#[]⟩ vk vn vs 0 0 []) = ((vk, vn, vs), 0, 0) from rfl)
  go_wp2_with fail
  refine (HF.out _).mono ?_
  rintro e' w3 ⟨rfl, hb3⟩
  have HB3 := Lib.hid (show Below w1.heap.size w1 w3 from hb3)
  clear hb3
  clear e0 e1 e2 e3 e4 e5 e6 e7 cN cE
  obtain ⟨-, hX, cN⟩ := HC.out w3 HB3.out
  have HX9 := Lib.hid (vbox3 hX (.int .i64 vk) (.int .i64 vn) (.string vs))
  have HB9 := Lib.hid (v3_below (K := w.heap.size) (N := w.heap.size + 1) (by omega) (bt HB.out HB3.out) (.int .i64 vk) (.int .i64 vn) (.string vs))
  obtain ⟨p0, p1, p2, p3, p4, p5, p6⟩ := v3 hX
  clear hX
  go_wp2
  refine bodyPost_ret (results_v2 rfl _ _ (w.heap.size + 1) _ _ _ rfl HX9.out) rfl ?_
  rw [HQ.out]
  exact ⟨rfl, HB9.out⟩
set_option maxHeartbeats 6400000 in
theorem val_col (R : List (List Val)) (I J : Nat) (w : World) (a : Option Addr) (len cap : Nat) (Q : Nat → Prop) (v : Value) (hR : IsRR w a len R) (hv : CV w Q v (.mk 2 ⟨#[]⟩ 0 0 ⟨#[]⟩ (I : Int) (J : Int) [])) : Calls Try.prog 70 #[v, .slice a len cap] w (Val2 w (askV R (.mk 2 ⟨#[]⟩ 0 0 ⟨#[]⟩ (I : Int) (J : Int) [])).1 (askV R (.mk 2 ⟨#[]⟩ 0 0 ⟨#[]⟩ (I : Int) (J : Int) [])).2.2) := by
  obtain ⟨sa, sc, rfl, hrg, hel⟩ := hv
  have HR := Lib.hid hR
  have HRg := Lib.hid hrg
  have e0 : (ctX (.mk 2 ⟨#[]⟩ 0 0 ⟨#[]⟩ (I : Int) (J : Int) []) sa sc).toArray = #[.int .i64 2, .string ⟨#[]⟩, .int .i64 0, .int .i64 0, .string ⟨#[]⟩, .int .i64 (I : Int), .int .i64 (J : Int), .slice sa 0 sc] := rfl
  rw [e0]
  have HB := Lib.hid (bel0 (.cells #[.int .i64 0, .int .i64 0, .string ⟨#[]⟩] 38) (bel0 (.cells #[.int .i64 2, .string ⟨#[]⟩, .int .i64 0, .int .i64 0, .string ⟨#[]⟩, .int .i64 (I : Int), .int .i64 (J : Int), .slice sa 0 sc] 46) (Below.refl w.heap.size w)))
  have HBX := Lib.hid (boxes2 w (.cells #[.int .i64 2, .string ⟨#[]⟩, .int .i64 0, .int .i64 0, .string ⟨#[]⟩, .int .i64 (I : Int), .int .i64 (J : Int), .slice sa 0 sc] 46 (0, 0)) (.cells #[.int .i64 0, .int .i64 0, .string ⟨#[]⟩] 38 (0, 0)))
  clear hR hrg hel e0
  go_enter Try.func70, Try.ntmps70
  go_upto_region 1 with (fail)
  generalize ((w.alloc (.cells #[.int .i64 2, .string ⟨#[]⟩, .int .i64 0, .int .i64 0, .string ⟨#[]⟩, .int .i64 (I : Int), .int .i64 (J : Int), .slice sa 0 sc] 46)).alloc (.cells #[.int .i64 0, .int .i64 0, .string ⟨#[]⟩] 38)) = w1 at *
  have HC := Lib.hid (show ∀ W : World, Below w1.heap.size w1 W → W.heap[w.heap.size]? = some (.cells #[.int .i64 2, .string ⟨#[]⟩, .int .i64 0, .int .i64 0, .string ⟨#[]⟩, .int .i64 (I : Int), .int .i64 (J : Int), .slice sa 0 sc] 46 (0, 0)) ∧ W.heap[w.heap.size + 1]? = some (.cells #[.int .i64 0, .int .i64 0, .string ⟨#[]⟩] 38 (0, 0)) ∧ w.heap.size + 1 < W.heap.size from fun W h => by
    obtain ⟨⟨h0, h1⟩, hz⟩ := HBX.out
    have k0 := (h.block w.heap.size (by omega)).trans h0
    have k1 := (h.block (w.heap.size + 1) (by omega)).trans h1
    exact ⟨k0, k1, (Array.getElem?_eq_some_iff.1 k1).1⟩)
  obtain ⟨hE, -, cN⟩ := HC.out w1 (Below.refl _ _)
  obtain ⟨e0, e1, e2, e3, e4, e5, e6, e7⟩ := cellsE hE
  have cE : w.heap.size < w1.heap.size := by omega
  clear hE
  have HI := Lib.hid (show (I : Int) ≤ 9223372036854775807 from (bounds_i64 HRg.out.t).2)
  have HJ := Lib.hid (show (J : Int) ≤ 9223372036854775807 from (bounds_i64 HRg.out.c).2)
  have HQ := Lib.hid (show askV R (.mk 2 ⟨#[]⟩ 0 0 ⟨#[]⟩ (I : Int) (J : Int) []) = ((colF R I J).1, 0, (colF R I J).2) from rfl)
  go_wp2_with fail
  refine (pcolumnOf_any R I J _ a len cap sa sc (HR.out.below HB.out) HI.out HJ.out).mono ?_
  rintro e' w3 ⟨rfl, hb3⟩
  obtain ⟨z, hz⟩ : ∃ z, z = colF R I J := ⟨_, rfl⟩
  rw [← hz] at HQ ⊢
  clear hz
  have HB3 := Lib.hid (show Below w1.heap.size w1 w3 from hb3)
  clear hb3
  clear e0 e1 e2 e3 e4 e5 e6 e7 cN cE
  obtain ⟨-, hX, cN⟩ := HC.out w3 HB3.out
  have HX9 := Lib.hid (vbox3 hX (.int .i64 z.1.1) (.int .i64 z.1.2.1) (.string z.1.2.2))
  have HB9 := Lib.hid (v3_below (K := w.heap.size) (N := w.heap.size + 1) (by omega) (bt HB.out HB3.out) (.int .i64 z.1.1) (.int .i64 z.1.2.1) (.string z.1.2.2))
  obtain ⟨p0, p1, p2, p3, p4, p5, p6⟩ := v3 hX
  clear hX
  go_wp2
  refine bodyPost_ret (results_v2 rfl _ _ (w.heap.size + 1) _ _ _ rfl HX9.out) rfl ?_
  rw [HQ.out]
  exact ⟨rfl, HB9.out⟩
theorem worth_all {R : List (List Val)} (hR : RowsR R) {c : CT} {k : Int} (h : Wk c k) : (k ≠ 3 → ValI R c) ∧ (k = 3 → TruI R c) := by
  induction h with
  | lit vk vn vs hf hn => exact ⟨fun _ w a len cap Q v h1 h2 => val_lit R vk vn vs hf w a len cap Q v h1 h2, fun h => absurd h (lit_kind hf)⟩
  | col s c k hk => exact ⟨fun _ w a len cap Q v h1 h2 => val_col R s c w a len cap Q v h1 h2, fun h => by omega⟩
  | not op p ho hp ih => exact ⟨fun h => absurd rfl h, fun _ w a len cap Q v h1 h2 => tru_not R op p ho (ih.2 rfl) w a len cap Q v h1 h2⟩
  | neg op p k ho hk hp ih => exact ⟨fun _ w a len cap Q v h1 h2 => val_neg R op p ho (askV_inR hR hp) (ih.1 hk) w a len cap Q v h1 h2, fun h => absurd h (by decide)⟩
  | test op p k ho hk hp ih => exact ⟨fun h => absurd rfl h, fun _ w a len cap Q v h1 h2 => tru_test R op p ho (ih.1 hk) w a len cap Q v h1 h2⟩
  | reck op p q k l ho hk hl hp hq ih1 ih2 => exact ⟨fun _ w a len cap Q v h1 h2 => val_rec R op p q ho (askV_inR hR hp) (askV_inR hR hq) (ih1.1 hk) (ih2.1 hl) w a len cap Q v h1 h2, fun h => absurd h (by decide)⟩
  | and op p q ho hp hq ih1 ih2 => exact ⟨fun h => absurd rfl h, fun _ w a len cap Q v h1 h2 => tru_and R op p q ho (ih1.2 rfl) (ih2.2 rfl) w a len cap Q v h1 h2⟩
  | or op p q ho hp hq ih1 ih2 => exact ⟨fun h => absurd rfl h, fun _ w a len cap Q v h1 h2 => tru_or R op p q ho (ih1.2 rfl) (ih2.2 rfl) w a len cap Q v h1 h2⟩
  | cmp op p q k l ho hk hl hp hq ih1 ih2 => exact ⟨fun h => absurd rfl h, fun _ w a len cap Q v h1 h2 => tru_cmp R op p q ho (ih1.1 hk) (ih2.1 hl) w a len cap Q v h1 h2⟩
/-- a truth has no value, a value is no truth -/
theorem askV_split (R : List (List Val)) {c : CT} {k : Int} (h : Wk c k) : (k = 3 → (askV R c).1 = noV) ∧ (k ≠ 3 → (askV R c).2.1 = 0) := by
  have hite1 : ∀ {p : Prop} [Decidable p] {a b : Wo}, a.1 = noV → b.1 = noV → (if p then a else b).1 = noV := fun {p} _ {a b} ha hb => by split <;> assumption
  have hite2 : ∀ {p : Prop} [Decidable p] {a b : Wo}, a.2.1 = 0 → b.2.1 = 0 → (if p then a else b).2.1 = 0 := fun {p} _ {a b} ha hb => by split <;> assumption
  have harg1 : ∀ (t e : Int), (argF noV t e).1 = noV := fun t e => by unfold argF; split <;> rfl
  have harg2 : ∀ (v : Val) (e : Int), (argF v 0 e).2.1 = 0 := fun v e => by unfold argF; split <;> rfl
  cases h with
  | lit vk vn vs hf hn => exact ⟨fun h => absurd h (lit_kind hf), fun _ => rfl⟩
  | col s c k hk => exact ⟨fun h => by omega, fun _ => rfl⟩
  | not op p ho hp =>
    refine ⟨fun _ => ?_, fun h => absurd rfl h⟩
    show (askH R 3 op _ 0 0 [askV R p]).1 = noV
    unfold askH
    rw [if_neg (by decide), if_neg (by decide), if_pos (show (3 : Int) = 3 from rfl), if_pos ho]
    exact hite1 rfl rfl
  | neg op p k ho hk hp =>
    refine ⟨fun h => absurd h (by decide), fun _ => ?_⟩
    show (askH R 3 op _ 0 0 [askV R p]).2.1 = 0
    unfold askH
    rw [if_neg (by decide), if_neg (by decide), if_pos (show (3 : Int) = 3 from rfl), if_neg (show ¬ op.toList = [78, 79, 84] by rw [ho]; decide)]
    exact hite2 rfl (harg2 _ _)
  | test op p k ho hk hp =>
    refine ⟨fun _ => ?_, fun h => absurd rfl h⟩
    show (askH R 5 op _ 0 0 [askV R p]).1 = noV
    unfold askH
    rw [if_neg (by decide), if_neg (by decide), if_neg (show ¬ (5 : Int) = 3 by decide), if_pos (show (5 : Int) = 5 from rfl)]
    exact hite1 rfl rfl
  | reck op p q k l ho hk hl hp hq =>
    refine ⟨fun h => absurd h (by decide), fun _ => ?_⟩
    have h1 : ¬ op.toList = [65, 78, 68] := by rcases ho with h | h | h <;> simp [h]
    have h2 : ¬ op.toList = [79, 82] := by rcases ho with h | h | h <;> simp [h]
    have h3 : reckB op = true := by unfold reckB; rcases ho with h | h | h <;> simp [h]
    show (askH R 4 op _ 0 0 [askV R p, askV R q]).2.1 = 0
    unfold askH
    rw [if_neg (by decide), if_neg (by decide), if_neg (show ¬ (4 : Int) = 3 by decide), if_neg (show ¬ (4 : Int) = 5 by decide), if_neg (show ¬ ((op.toList = [65, 78, 68] ∧ ([askV R p, askV R q].getD 0 noW).2.1 = 0) ∨ (op.toList = [79, 82] ∧ ([askV R p, askV R q].getD 0 noW).2.1 = 1)) from fun h => h.elim (fun h => h1 h.1) (fun h => h2 h.1)), if_pos h3]
    exact hite2 rfl (hite2 rfl (harg2 _ _))
  | and op p q ho hp hq =>
    refine ⟨fun _ => ?_, fun h => absurd rfl h⟩
    have h3 : reckB op = false := by unfold reckB; simp [ho]
    show (askH R 4 op _ 0 0 [askV R p, askV R q]).1 = noV
    unfold askH
    rw [if_neg (by decide), if_neg (by decide), if_neg (show ¬ (4 : Int) = 3 by decide), if_neg (show ¬ (4 : Int) = 5 by decide), if_neg (show ¬ reckB op = true by rw [h3]; decide)]
    exact hite1 rfl (hite1 rfl (hite1 rfl (hite1 rfl (hite1 rfl (harg1 _ _)))))
  | or op p q ho hp hq =>
    refine ⟨fun _ => ?_, fun h => absurd rfl h⟩
    have h3 : reckB op = false := by unfold reckB; simp [ho]
    show (askH R 4 op _ 0 0 [askV R p, askV R q]).1 = noV
    unfold askH
    rw [if_neg (by decide), if_neg (by decide), if_neg (show ¬ (4 : Int) = 3 by decide), if_neg (show ¬ (4 : Int) = 5 by decide), if_neg (show ¬ reckB op = true by rw [h3]; decide)]
    exact hite1 rfl (hite1 rfl (hite1 rfl (hite1 rfl (hite1 rfl (harg1 _ _)))))
  | cmp op p q k l ho hk hl hp hq =>
    refine ⟨fun _ => ?_, fun h => absurd rfl h⟩
    have h3 : reckB op = false := by unfold reckB; rcases ho with h | h | h | h | h | h <;> simp [h]
    show (askH R 4 op _ 0 0 [askV R p, askV R q]).1 = noV
    unfold askH
    rw [if_neg (by decide), if_neg (by decide), if_neg (show ¬ (4 : Int) = 3 by decide), if_neg (show ¬ (4 : Int) = 5 by decide), if_neg (show ¬ reckB op = true by rw [h3]; decide)]
    exact hite1 rfl (hite1 rfl (hite1 rfl (hite1 rfl (hite1 rfl (harg1 _ _)))))
set_option maxHeartbeats 3200000 in
theorem pworth_any {R : List (List Val)} (hRR : RowsR R) {c : CT} {k : Int} (h : Wk c k) (w : World) (a : Option Addr) (len cap : Nat) (Q : Nat → Prop) (v : Value) (hR : IsRR w a len R) (hv : CV w Q v c) :
    Calls Try.prog 30 #[v, .slice a len cap] w (AskP w (askV R c)) := by
  have HVal := Lib.hid (worth_all hRR h).1
  have HTru := Lib.hid (worth_all hRR h).2
  have HSp := Lib.hid (askV_split R h)
  have HTr := Lib.hid (wk_tru h)
  obtain ⟨sa, sc, rfl, hrg, hel⟩ := hv
  have HCv := Lib.hid (show ∀ W, Below w.heap.size w W → CV W Q (.agg #[.int .i64 c.kind, .string c.op, .int .i64 c.vk, .int .i64 c.vn, .string c.vs, .int .i64 c.src, .int .i64 c.col, .slice sa c.parts.length sc]) c from fun W hW => ⟨sa, sc, rfl, hrg, hel.keep hW⟩)
  have HR := Lib.hid hR
  have e0 : (ctX c sa sc).toArray = #[.int .i64 c.kind, .string c.op, .int .i64 c.vk, .int .i64 c.vn, .string c.vs, .int .i64 c.src, .int .i64 c.col, .slice sa c.parts.length sc] := rfl
  rw [e0]
  have HB := Lib.hid (bel0 (.cells #[.int .i64 0, .int .i64 0, .string ⟨#[]⟩] 38) (bel0 (.cells #[.int .i64 c.kind, .string c.op, .int .i64 c.vk, .int .i64 c.vn, .string c.vs, .int .i64 c.src, .int .i64 c.col, .slice sa c.parts.length sc] 46) (Below.refl w.heap.size w)))
  have HBX := Lib.hid (boxes2 w (.cells #[.int .i64 c.kind, .string c.op, .int .i64 c.vk, .int .i64 c.vn, .string c.vs, .int .i64 c.src, .int .i64 c.col, .slice sa c.parts.length sc] 46 (0, 0)) (.cells #[.int .i64 0, .int .i64 0, .string ⟨#[]⟩] 38 (0, 0)))
  clear hR hrg hel e0
  obtain ⟨y, hy⟩ : ∃ y, y = askV R c := ⟨_, rfl⟩
  have HY := Lib.hid hy
  rw [← hy]
  clear hy
  go_enter Try.func30, Try.ntmps30
  go_upto_region 1 with (fail)
  generalize ((w.alloc (.cells #[.int .i64 c.kind, .string c.op, .int .i64 c.vk, .int .i64 c.vn, .string c.vs, .int .i64 c.src, .int .i64 c.col, .slice sa c.parts.length sc] 46)).alloc (.cells #[.int .i64 0, .int .i64 0, .string ⟨#[]⟩] 38)) = w1 at *
  have HC := Lib.hid (show ∀ W : World, Below w1.heap.size w1 W → W.heap[w.heap.size]? = some (.cells #[.int .i64 c.kind, .string c.op, .int .i64 c.vk, .int .i64 c.vn, .string c.vs, .int .i64 c.src, .int .i64 c.col, .slice sa c.parts.length sc] 46 (0, 0)) ∧ W.heap[w.heap.size + 1]? = some (.cells #[.int .i64 0, .int .i64 0, .string ⟨#[]⟩] 38 (0, 0)) ∧ w.heap.size + 1 < W.heap.size from fun W h => by
    obtain ⟨⟨h0, h1⟩, hz⟩ := HBX.out
    have k0 := (h.block w.heap.size (by omega)).trans h0
    have k1 := (h.block (w.heap.size + 1) (by omega)).trans h1
    exact ⟨k0, k1, (Array.getElem?_eq_some_iff.1 k1).1⟩)
  obtain ⟨hE, -, cN⟩ := HC.out w1 (Below.refl _ _)
  obtain ⟨e0, e1, e2, e3, e4, e5, e6, e7⟩ := cellsE hE
  have cE : w.heap.size < w1.heap.size := by omega
  clear hE
  go_wp2_with fail
  refine (truthful_any c _ Q _ (HCv.out _ HB.out)).mono ?_
  rintro e' wp ⟨rfl, hbp⟩
  have HBp := Lib.hid (show Below w1.heap.size w1 wp from hbp)
  have HBwp := Lib.hid (bt HB.out hbp)
  clear hbp e0 e1 e2 e3 e4 e5 e6 e7 cN cE
  rw [HTr.out]
  obtain ⟨hE, -, cN⟩ := HC.out wp HBp.out
  obtain ⟨e0, e1, e2, e3, e4, e5, e6, e7⟩ := cellsE hE
  have cE : w.heap.size < wp.heap.size := by omega
  clear hE
  by_cases hk : k = 3
  · have hkb : (k == 3) = true := by simp [hk]
    have HT := Lib.hid (HTru.out hk)
    have HQ := Lib.hid (show y = (noV, y.2.1, y.2.2) by have := HSp.out.1 hk; rw [← HY.out] at this; rw [← this])
    rw [hkb]
    clear hkb hk
    go_wp2_with fail
    refine (HT.out _ a len cap Q _ (HR.out.below HBwp.out) (HCv.out _ HBwp.out)).mono ?_
    rintro e' w3 ⟨rfl, hb3⟩
    rw [← HY.out]
    have HB3 := Lib.hid (bt HBp.out hb3)
    clear hb3 e0 e1 e2 e3 e4 e5 e6 e7 cN cE
    obtain ⟨t, ht⟩ : ∃ t, t = y.2.1 := ⟨_, rfl⟩
    obtain ⟨x, hx⟩ : ∃ x, x = y.2.2 := ⟨_, rfl⟩
    rw [← ht, ← hx] at HQ ⊢
    clear ht hx
    obtain ⟨-, hX, cN⟩ := HC.out w3 HB3.out
    have HX9 := Lib.hid (vbox3 hX (.int .i64 0) (.int .i64 0) (.string ⟨#[]⟩))
    have HB9 := Lib.hid (v3_below (K := w.heap.size) (N := w.heap.size + 1) (by omega) (bt HB.out HB3.out) (.int .i64 0) (.int .i64 0) (.string ⟨#[]⟩))
    obtain ⟨p0, p1, p2, p3, p4, p5, p6⟩ := v3 hX
    clear hX
    go_wp2
    refine bodyPost_ret (results_v3 rfl _ _ (w.heap.size + 1) _ _ _ rfl HX9.out) rfl ?_
    rw [HQ.out]
    exact ⟨rfl, HB9.out⟩
  · have hkb : (k == 3) = false := by simp [hk]
    have HT := Lib.hid (HVal.out hk)
    have HQ := Lib.hid (show y = (y.1, 0, y.2.2) by have := HSp.out.2 hk; rw [← HY.out] at this; rw [← this])
    rw [hkb]
    clear hkb hk
    go_wp2_with fail
    refine (HT.out _ a len cap Q _ (HR.out.below HBwp.out) (HCv.out _ HBwp.out)).mono ?_
    rintro e' w3 ⟨rfl, hb3⟩
    rw [← HY.out]
    have HB3 := Lib.hid (bt HBp.out hb3)
    clear hb3 e0 e1 e2 e3 e4 e5 e6 e7 cN cE
    obtain ⟨z, hz⟩ : ∃ z, z = y.1 := ⟨_, rfl⟩
    obtain ⟨x, hx⟩ : ∃ x, x = y.2.2 := ⟨_, rfl⟩
    rw [← hz, ← hx] at HQ ⊢
    clear hz hx
    go_upto_region 5 with (fail)
    have HNw4 := Lib.hid (Go.heap_alloc_new w3 (.cells #[.int .i64 z.1, .int .i64 z.2.1, .string z.2.2] 38 (0, 0)))
    have HBnw4 := Lib.hid (show Below w3.heap.size w3 (w3.alloc (.cells #[.int .i64 z.1, .int .i64 z.2.1, .string z.2.2] 38)) from bel0 _ (Below.refl _ _))
    generalize (w3.alloc (.cells #[.int .i64 z.1, .int .i64 z.2.1, .string z.2.2] 38)) = w4 at *
    have HBiw4 := Lib.hid (bt HB3.out HBnw4.out)
    have HBw4 := Lib.hid (bt HB.out HBiw4.out)
    obtain ⟨m0, m1, m2, -, -, -, m6⟩ := v3 HNw4.out
    obtain ⟨-, hX, cN⟩ := HC.out w4 HBiw4.out
    have HX9 := Lib.hid (vbox3 hX (.int .i64 z.1) (.int .i64 z.2.1) (.string z.2.2))
    have HB9 := Lib.hid (v3_below (K := w.heap.size) (N := w.heap.size + 1) (by omega) (bt HB.out HBiw4.out) (.int .i64 z.1) (.int .i64 z.2.1) (.string z.2.2))
    obtain ⟨p0, p1, p2, p3, p4, p5, p6⟩ := v3 hX
    clear hX
    go_wp2
    refine bodyPost_ret (results_v3 rfl _ _ (w.heap.size + 1) _ _ _ rfl HX9.out) rfl ?_
    rw [HQ.out]
    exact ⟨rfl, HB9.out⟩
end Go.Proofs.Ytafhgilikcablaa
