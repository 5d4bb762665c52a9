/- What a cell is worth, the program's: OR. Written by genaw.py. -/
import Derived.Test.YtafhgilikcablaaAwF1
namespace Go.Proofs.Ytafhgilikcablaa
open Go.RowKit
set_option linter.unusedVariables false
set_option linter.unusedSimpArgs false
set_option maxRecDepth 100000
theorem askV_zero (R : List (List Val)) (c : CT) (h : (askV R c).2.2 ≠ 0) : (askV R c).2.1 = 0 := by
  obtain ⟨k, op, vk, vn, vs, s, cl, ps⟩ := c
  have e : askV R (.mk k op vk vn vs s cl ps) = askH R k op (vk, vn, vs) s cl (askL R ps) := rfl
  rw [e] at h ⊢
  have harg : ∀ (v : Val) (t e : Int), (argF v t e).2.2 ≠ 0 → (argF v t e).2.1 = 0 := fun v t e h => by
    unfold argF at h ⊢
    split
    · rfl
    · rename_i hn
      rw [if_neg hn] at h
      exact absurd rfl h
  have hite : ∀ {p : Prop} [Decidable p] {a b : Wo}, (a.2.2 ≠ 0 → a.2.1 = 0) → (b.2.2 ≠ 0 → b.2.1 = 0) → (if p then a else b).2.2 ≠ 0 → (if p then a else b).2.1 = 0 := fun {p} _ {a b} ha hb => by split <;> assumption
  have z : ∀ {t : Int}, ((noV, t, 0) : Wo).2.2 ≠ 0 → ((noV, t, 0) : Wo).2.1 = 0 := fun h => absurd rfl h
  have z2 : ∀ {v : Val} {e : Int}, ((v, 0, e) : Wo).2.2 ≠ 0 → ((v, 0, e) : Wo).2.1 = 0 := fun _ => rfl
  unfold askH at h ⊢
  exact hite z2 (hite z2 (hite z2 (hite (hite z (harg _ _ _)) (hite z (hite z (hite z2 (hite (harg _ _ _) (hite z (hite z (harg _ _ _)))))))))) h
set_option maxHeartbeats 12800000 in
theorem joined_and (R : List (List Val)) (op : ByteArray) (p q : CT) (ho : op.toList = [65, 78, 68]) (IHp : TruI R p) (IHq : TruI R q) (w : World) (a : Option Addr) (len cap : Nat) (Q : Nat → Prop) (v : Value) (hR : IsRR w a len R) (hv : CV w Q v (.mk 4 op 0 0 ⟨#[]⟩ 0 0 [p, q])) :
    Calls Try.prog 102 #[v, .slice a len cap, .int .i64 0, .func (Fn.func 82) #[] #[]] w (Tru2 w (askV R (.mk 4 op 0 0 ⟨#[]⟩ 0 0 [p, q])).2.1 (askV R (.mk 4 op 0 0 ⟨#[]⟩ 0 0 [p, q])).2.2) := by
  obtain ⟨sa, sc, rfl, hrg, hel⟩ := hv
  have HRg := Lib.hid hrg
  have HEl := Lib.hid hel
  obtain ⟨b, off, pa, pc, hsa, hbl, hat, hprg, hpl⟩ := hel.at (i := 0) (by simp [CT.parts])
  subst hsa
  have hat : CAt w b (off + 0 * 8) p pa pc := hat
  have hprg : CRg p pa pc := hprg
  have hpl : CL w Q pa p.parts := hpl
  rw [show off + 0 * 8 = off from rfl] at hat
  have HCvp := Lib.hid (show ∀ W, Below w.heap.size w W → CV W Q (.agg #[.int .i64 p.kind, .string p.op, .int .i64 p.vk, .int .i64 p.vn, .string p.vs, .int .i64 p.src, .int .i64 p.col, .slice pa p.parts.length pc]) p from fun W hW => ⟨pa, pc, rfl, hprg, hpl.keep hW⟩)
  have HAtp := Lib.hid (show ∀ W, Below w.heap.size w W → CAt W b (off) p pa pc from fun W hW => hat.below hbl hW)
  have HIHp := Lib.hid IHp
  obtain ⟨b', off', qa, qc, hsa', hbl', hat', hprg', hpl'⟩ := hel.at (i := 1) (by simp [CT.parts])
  cases hsa'
  have hat' : CAt w b (off + 1 * 8) q qa qc := hat'
  have hprg' : CRg q qa qc := hprg'
  have hpl' : CL w Q qa q.parts := hpl'
  rw [show off + 1 * 8 = off + 8 from rfl] at hat'
  have HCvq := Lib.hid (show ∀ W, Below w.heap.size w W → CV W Q (.agg #[.int .i64 q.kind, .string q.op, .int .i64 q.vk, .int .i64 q.vn, .string q.vs, .int .i64 q.src, .int .i64 q.col, .slice qa q.parts.length qc]) q from fun W hW => ⟨qa, qc, rfl, hprg', hpl'.keep hW⟩)
  have HAtq := Lib.hid (show ∀ W, Below w.heap.size w W → CAt W b (off + 8) q qa qc from fun W hW => hat'.below hbl' hW)
  have HIHq := Lib.hid IHq
  have HBl := Lib.hid hbl
  have HR := Lib.hid hR
  have HCv := Lib.hid (show ∀ W, Below w.heap.size w W → CV W Q (.agg #[.int .i64 4, .string op, .int .i64 0, .int .i64 0, .string ⟨#[]⟩, .int .i64 0, .int .i64 0, .slice (some ⟨b, off, none⟩) 2 sc]) (.mk 4 op 0 0 ⟨#[]⟩ 0 0 [p, q]) from fun W hW => ⟨_, sc, rfl, HRg.out, HEl.out.keep hW⟩)
  have e0 : (ctX (.mk 4 op 0 0 ⟨#[]⟩ 0 0 [p, q]) (some ⟨b, off, none⟩) sc).toArray = #[.int .i64 4, .string op, .int .i64 0, .int .i64 0, .string ⟨#[]⟩, .int .i64 0, .int .i64 0, .slice (some ⟨b, off, none⟩) 2 sc] := rfl
  rw [e0]
  obtain ⟨yp, hyp⟩ : ∃ y, y = askV R p := ⟨_, rfl⟩
  have HYp := Lib.hid hyp
  obtain ⟨yq, hyq⟩ : ∃ y, y = askV R q := ⟨_, rfl⟩
  have HYq := Lib.hid hyq
  have HAq := Lib.hid (show askV R (.mk 4 op 0 0 ⟨#[]⟩ 0 0 [p, q]) = askH R 4 op (0, 0, ⟨#[]⟩) 0 0 [yp, yq] by rw [hyp, hyq]; rfl)
  have HB := Lib.hid (bel0 (.cells #[.int .i64 4, .string op, .int .i64 0, .int .i64 0, .string ⟨#[]⟩, .int .i64 0, .int .i64 0, .slice (some ⟨b, off, none⟩) 2 sc] 46) (Below.refl w.heap.size w))
  have HBX := Lib.hid (show (w.alloc (.cells #[.int .i64 4, .string op, .int .i64 0, .int .i64 0, .string ⟨#[]⟩, .int .i64 0, .int .i64 0, .slice (some ⟨b, off, none⟩) 2 sc] 46)).heap[w.heap.size]? = some (.cells #[.int .i64 4, .string op, .int .i64 0, .int .i64 0, .string ⟨#[]⟩, .int .i64 0, .int .i64 0, .slice (some ⟨b, off, none⟩) 2 sc] 46 (0, 0)) ∧ (w.alloc (.cells #[.int .i64 4, .string op, .int .i64 0, .int .i64 0, .string ⟨#[]⟩, .int .i64 0, .int .i64 0, .slice (some ⟨b, off, none⟩) 2 sc] 46)).heap.size = w.heap.size + 1 from ⟨Go.heap_alloc_new w _, by simp⟩)
  clear hR hrg hel e0 IHp IHq hyp hyq hat hprg hpl hbl hat' hprg' hpl' hbl'
  go_enter Try.func102, Try.ntmps102
  go_upto_region 1 with (fail)
  generalize (w.alloc (.cells #[.int .i64 4, .string op, .int .i64 0, .int .i64 0, .string ⟨#[]⟩, .int .i64 0, .int .i64 0, .slice (some ⟨b, off, none⟩) 2 sc] 46)) = w1 at *
  have HC := Lib.hid (show ∀ W : World, Below w1.heap.size w1 W → W.heap[w.heap.size]? = some (.cells #[.int .i64 4, .string op, .int .i64 0, .int .i64 0, .string ⟨#[]⟩, .int .i64 0, .int .i64 0, .slice (some ⟨b, off, none⟩) 2 sc] 46 (0, 0)) ∧ w.heap.size < W.heap.size from fun W h => by
    obtain ⟨h0, hz⟩ := HBX.out
    have k0 := (h.block (w.heap.size) (by omega)).trans h0
    exact ⟨k0, (Array.getElem?_eq_some_iff.1 k0).1⟩)
  have hre : reckB op = false := by unfold reckB; simp [ho]
  have HRe := Lib.hid hre
  have HO := Lib.hid ho
  clear hre ho
  obtain ⟨hE, cN⟩ := HC.out w1 (Below.refl _ _)
  obtain ⟨e0, e1, e2, e3, e4, e5, e6, e7⟩ := cellsE hE
  clear hE
  have cE : w.heap.size < w1.heap.size := by omega
  go_wp2_with fail
  refine (parts_any (.mk 4 op 0 0 ⟨#[]⟩ 0 0 [p, q]) 2 _ Q _ (HCv.out _ (bt HB.out (Below.refl w1.heap.size w1)))).mono ?_
  rintro e' wp ⟨rfl, hbp⟩
  rw [show decide (((.mk 4 op 0 0 ⟨#[]⟩ 0 0 [p, q]) : CT).parts.length = 2) = true from rfl]
  have HBp := Lib.hid (bt (Below.refl w1.heap.size w1) hbp)
  clear hbp
  clear e0 e1 e2 e3 e4 e5 e6 e7 cN cE
  obtain ⟨hE, cN⟩ := HC.out wp HBp.out
  obtain ⟨e0, e1, e2, e3, e4, e5, e6, e7⟩ := cellsE hE
  clear hE
  have cE : w.heap.size < wp.heap.size := by omega
  obtain ⟨a0, a1, a2, a3, a4, a5, a6, a7⟩ := HAtp.out wp (bt HB.out HBp.out)
  have hbw : b < wp.heap.size := Nat.lt_of_lt_of_le HBl.out (bt HB.out HBp.out).size
  have HBwp := Lib.hid (bt HB.out HBp.out)
  go_wp2_with fail
  refine (HIHp.out _ a len cap Q _ (HR.out.below HBwp.out) (HCvp.out _ HBwp.out)).mono ?_
  rintro e' w3 ⟨rfl, hb3⟩
  rw [← HYp.out]
  have HB3 := Lib.hid (bt HBp.out hb3)
  have HBw3 := Lib.hid (bt HB.out HB3.out)
  clear hb3
  clear e0 e1 e2 e3 e4 e5 e6 e7 cN cE
  clear a0 a1 a2 a3 a4 a5 a6 a7 hbw
  by_cases hz : yp.2.2 = 0
  rotate_left
  · have hne : (yp.2.2 != 0) = true := by simp [hz]
    have HQ := Lib.hid (show askV R (.mk 4 op 0 0 ⟨#[]⟩ 0 0 [p, q]) = (noV, 0, yp.2.2) from by rw [HAq.out]; unfold askH; rw [if_neg (by decide), if_neg (by decide), if_pos (show ((yp :: _ : List Wo).getD 0 noW).2.2 ≠ 0 from hz)]; rfl)
    have hz2 : yp.2.1 = 0 := by rw [HYp.out]; exact askV_zero R p (by rw [← HYp.out]; exact hz)
    go_wp2
    go_ret2
    rw [HQ.out]
    exact ⟨by first | rfl | simp [hz2], HBw3.out⟩
  by_cases hs : yp.2.1 = 0
  · have HQ := Lib.hid (show askV R (.mk 4 op 0 0 ⟨#[]⟩ 0 0 [p, q]) = (noV, yp.2.1, 0) by rw [HAq.out]; unfold askH; rw [if_neg (by decide), if_neg (by decide), if_neg (show ¬ (([yp, yq] : List Wo).getD 0 noW).2.2 ≠ 0 from fun h => h hz), if_neg (by decide), if_neg (by decide), if_pos (show _ ∨ _ from Or.inl ⟨HO.out, hs⟩)]; rfl)
    go_wp2
    go_ret2
    rw [HQ.out]
    exact ⟨by first | rfl | simp [hs, hz], HBw3.out⟩
  have hsn : (yp.2.1 == 0) = false := by simp [hs]
  have HSc := Lib.hid (show ¬ ((op.toList = [65, 78, 68] ∧ (([yp, yq] : List Wo).getD 0 noW).2.1 = 0) ∨ (op.toList = [79, 82] ∧ (([yp, yq] : List Wo).getD 0 noW).2.1 = 1)) by rw [HO.out]; simp [hs])
  obtain ⟨hE, cN⟩ := HC.out w3 HB3.out
  obtain ⟨e0, e1, e2, e3, e4, e5, e6, e7⟩ := cellsE hE
  clear hE
  have cE : w.heap.size < w3.heap.size := by omega
  obtain ⟨a0, a1, a2, a3, a4, a5, a6, a7⟩ := HAtq.out w3 (bt HB.out HB3.out)
  have hbw : b < w3.heap.size := Nat.lt_of_lt_of_le HBl.out (bt HB.out HB3.out).size
  go_wp2_with fail
  refine (HIHq.out _ a len cap Q _ (HR.out.below HBw3.out) (HCvq.out _ HBw3.out)).mono ?_
  rintro e' w5 ⟨rfl, hb5⟩
  rw [← HYq.out]
  have HB5 := Lib.hid (bt HB3.out hb5)
  have HBw5 := Lib.hid (bt HB.out HB5.out)
  clear hb5
  clear e0 e1 e2 e3 e4 e5 e6 e7 cN cE
  clear a0 a1 a2 a3 a4 a5 a6 a7 hbw
  by_cases hz2 : yq.2.2 = 0
  rotate_left
  · have hne : (yq.2.2 != 0) = true := by simp [hz2]
    have HQ := Lib.hid (show askV R (.mk 4 op 0 0 ⟨#[]⟩ 0 0 [p, q]) = (noV, 0, yq.2.2) by rw [HAq.out]; unfold askH; rw [if_neg (by decide), if_neg (by decide), if_neg (show ¬ (([yp, yq] : List Wo).getD 0 noW).2.2 ≠ 0 from fun h => h hz), if_neg (by decide), if_neg (by decide), if_neg HSc.out, if_pos (show (([yp, yq] : List Wo).getD 1 noW).2.2 ≠ 0 from hz2)]; rfl)
    go_wp2
    go_ret2
    rw [HQ.out]
    exact ⟨rfl, HBw5.out⟩
  have HQ := Lib.hid (show askV R (.mk 4 op 0 0 ⟨#[]⟩ 0 0 [p, q]) = (noV, andI yp.2.1 yq.2.1, 0) by rw [HAq.out]; unfold askH; rw [if_neg (by decide), if_neg (by decide), if_neg (show ¬ (([yp, yq] : List Wo).getD 0 noW).2.2 ≠ 0 from fun h => h hz), if_neg (by decide), if_neg (by decide), if_neg HSc.out, if_neg (show ¬ (([yp, yq] : List Wo).getD 1 noW).2.2 ≠ 0 from fun h => h hz2), if_neg (by rw [HRe.out]; decide), if_pos HO.out]; rfl)
  go_wp2_with fail
  refine (and_any _ _ _).mono ?_
  rintro e' w6 ⟨rfl, hw6⟩
  subst hw6
  go_wp2_with fail
  go_ret2
  rw [HQ.out]
  exact ⟨rfl, HBw5.out⟩
end Go.Proofs.Ytafhgilikcablaa
namespace Go.Proofs.Ytafhgilikcablaa
open Go.RowKit
set_option linter.unusedVariables false
set_option linter.unusedSimpArgs false
set_option maxRecDepth 100000
set_option maxHeartbeats 12800000 in
theorem joined_or (R : List (List Val)) (op : ByteArray) (p q : CT) (ho : op.toList = [79, 82]) (IHp : TruI R p) (IHq : TruI R q) (w : World) (a : Option Addr) (len cap : Nat) (Q : Nat → Prop) (v : Value) (hR : IsRR w a len R) (hv : CV w Q v (.mk 4 op 0 0 ⟨#[]⟩ 0 0 [p, q])) :
    Calls Try.prog 102 #[v, .slice a len cap, .int .i64 1, .func (Fn.func 83) #[] #[]] w (Tru2 w (askV R (.mk 4 op 0 0 ⟨#[]⟩ 0 0 [p, q])).2.1 (askV R (.mk 4 op 0 0 ⟨#[]⟩ 0 0 [p, q])).2.2) := by
  obtain ⟨sa, sc, rfl, hrg, hel⟩ := hv
  have HRg := Lib.hid hrg
  have HEl := Lib.hid hel
  obtain ⟨b, off, pa, pc, hsa, hbl, hat, hprg, hpl⟩ := hel.at (i := 0) (by simp [CT.parts])
  subst hsa
  have hat : CAt w b (off + 0 * 8) p pa pc := hat
  have hprg : CRg p pa pc := hprg
  have hpl : CL w Q pa p.parts := hpl
  rw [show off + 0 * 8 = off from rfl] at hat
  have HCvp := Lib.hid (show ∀ W, Below w.heap.size w W → CV W Q (.agg #[.int .i64 p.kind, .string p.op, .int .i64 p.vk, .int .i64 p.vn, .string p.vs, .int .i64 p.src, .int .i64 p.col, .slice pa p.parts.length pc]) p from fun W hW => ⟨pa, pc, rfl, hprg, hpl.keep hW⟩)
  have HAtp := Lib.hid (show ∀ W, Below w.heap.size w W → CAt W b (off) p pa pc from fun W hW => hat.below hbl hW)
  have HIHp := Lib.hid IHp
  obtain ⟨b', off', qa, qc, hsa', hbl', hat', hprg', hpl'⟩ := hel.at (i := 1) (by simp [CT.parts])
  cases hsa'
  have hat' : CAt w b (off + 1 * 8) q qa qc := hat'
  have hprg' : CRg q qa qc := hprg'
  have hpl' : CL w Q qa q.parts := hpl'
  rw [show off + 1 * 8 = off + 8 from rfl] at hat'
  have HCvq := Lib.hid (show ∀ W, Below w.heap.size w W → CV W Q (.agg #[.int .i64 q.kind, .string q.op, .int .i64 q.vk, .int .i64 q.vn, .string q.vs, .int .i64 q.src, .int .i64 q.col, .slice qa q.parts.length qc]) q from fun W hW => ⟨qa, qc, rfl, hprg', hpl'.keep hW⟩)
  have HAtq := Lib.hid (show ∀ W, Below w.heap.size w W → CAt W b (off + 8) q qa qc from fun W hW => hat'.below hbl' hW)
  have HIHq := Lib.hid IHq
  have HBl := Lib.hid hbl
  have HR := Lib.hid hR
  have HCv := Lib.hid (show ∀ W, Below w.heap.size w W → CV W Q (.agg #[.int .i64 4, .string op, .int .i64 0, .int .i64 0, .string ⟨#[]⟩, .int .i64 0, .int .i64 0, .slice (some ⟨b, off, none⟩) 2 sc]) (.mk 4 op 0 0 ⟨#[]⟩ 0 0 [p, q]) from fun W hW => ⟨_, sc, rfl, HRg.out, HEl.out.keep hW⟩)
  have e0 : (ctX (.mk 4 op 0 0 ⟨#[]⟩ 0 0 [p, q]) (some ⟨b, off, none⟩) sc).toArray = #[.int .i64 4, .string op, .int .i64 0, .int .i64 0, .string ⟨#[]⟩, .int .i64 0, .int .i64 0, .slice (some ⟨b, off, none⟩) 2 sc] := rfl
  rw [e0]
  obtain ⟨yp, hyp⟩ : ∃ y, y = askV R p := ⟨_, rfl⟩
  have HYp := Lib.hid hyp
  obtain ⟨yq, hyq⟩ : ∃ y, y = askV R q := ⟨_, rfl⟩
  have HYq := Lib.hid hyq
  have HAq := Lib.hid (show askV R (.mk 4 op 0 0 ⟨#[]⟩ 0 0 [p, q]) = askH R 4 op (0, 0, ⟨#[]⟩) 0 0 [yp, yq] by rw [hyp, hyq]; rfl)
  have HB := Lib.hid (bel0 (.cells #[.int .i64 4, .string op, .int .i64 0, .int .i64 0, .string ⟨#[]⟩, .int .i64 0, .int .i64 0, .slice (some ⟨b, off, none⟩) 2 sc] 46) (Below.refl w.heap.size w))
  have HBX := Lib.hid (show (w.alloc (.cells #[.int .i64 4, .string op, .int .i64 0, .int .i64 0, .string ⟨#[]⟩, .int .i64 0, .int .i64 0, .slice (some ⟨b, off, none⟩) 2 sc] 46)).heap[w.heap.size]? = some (.cells #[.int .i64 4, .string op, .int .i64 0, .int .i64 0, .string ⟨#[]⟩, .int .i64 0, .int .i64 0, .slice (some ⟨b, off, none⟩) 2 sc] 46 (0, 0)) ∧ (w.alloc (.cells #[.int .i64 4, .string op, .int .i64 0, .int .i64 0, .string ⟨#[]⟩, .int .i64 0, .int .i64 0, .slice (some ⟨b, off, none⟩) 2 sc] 46)).heap.size = w.heap.size + 1 from ⟨Go.heap_alloc_new w _, by simp⟩)
  clear hR hrg hel e0 IHp IHq hyp hyq hat hprg hpl hbl hat' hprg' hpl' hbl'
  go_enter Try.func102, Try.ntmps102
  go_upto_region 1 with (fail)
  generalize (w.alloc (.cells #[.int .i64 4, .string op, .int .i64 0, .int .i64 0, .string ⟨#[]⟩, .int .i64 0, .int .i64 0, .slice (some ⟨b, off, none⟩) 2 sc] 46)) = w1 at *
  have HC := Lib.hid (show ∀ W : World, Below w1.heap.size w1 W → W.heap[w.heap.size]? = some (.cells #[.int .i64 4, .string op, .int .i64 0, .int .i64 0, .string ⟨#[]⟩, .int .i64 0, .int .i64 0, .slice (some ⟨b, off, none⟩) 2 sc] 46 (0, 0)) ∧ w.heap.size < W.heap.size from fun W h => by
    obtain ⟨h0, hz⟩ := HBX.out
    have k0 := (h.block (w.heap.size) (by omega)).trans h0
    exact ⟨k0, (Array.getElem?_eq_some_iff.1 k0).1⟩)
  have hre : reckB op = false := by unfold reckB; simp [ho]
  have HRe := Lib.hid hre
  have HO := Lib.hid ho
  clear hre ho
  obtain ⟨hE, cN⟩ := HC.out w1 (Below.refl _ _)
  obtain ⟨e0, e1, e2, e3, e4, e5, e6, e7⟩ := cellsE hE
  clear hE
  have cE : w.heap.size < w1.heap.size := by omega
  go_wp2_with fail
  refine (parts_any (.mk 4 op 0 0 ⟨#[]⟩ 0 0 [p, q]) 2 _ Q _ (HCv.out _ (bt HB.out (Below.refl w1.heap.size w1)))).mono ?_
  rintro e' wp ⟨rfl, hbp⟩
  rw [show decide (((.mk 4 op 0 0 ⟨#[]⟩ 0 0 [p, q]) : CT).parts.length = 2) = true from rfl]
  have HBp := Lib.hid (bt (Below.refl w1.heap.size w1) hbp)
  clear hbp
  clear e0 e1 e2 e3 e4 e5 e6 e7 cN cE
  obtain ⟨hE, cN⟩ := HC.out wp HBp.out
  obtain ⟨e0, e1, e2, e3, e4, e5, e6, e7⟩ := cellsE hE
  clear hE
  have cE : w.heap.size < wp.heap.size := by omega
  obtain ⟨a0, a1, a2, a3, a4, a5, a6, a7⟩ := HAtp.out wp (bt HB.out HBp.out)
  have hbw : b < wp.heap.size := Nat.lt_of_lt_of_le HBl.out (bt HB.out HBp.out).size
  have HBwp := Lib.hid (bt HB.out HBp.out)
  go_wp2_with fail
  refine (HIHp.out _ a len cap Q _ (HR.out.below HBwp.out) (HCvp.out _ HBwp.out)).mono ?_
  rintro e' w3 ⟨rfl, hb3⟩
  rw [← HYp.out]
  have HB3 := Lib.hid (bt HBp.out hb3)
  have HBw3 := Lib.hid (bt HB.out HB3.out)
  clear hb3
  clear e0 e1 e2 e3 e4 e5 e6 e7 cN cE
  clear a0 a1 a2 a3 a4 a5 a6 a7 hbw
  by_cases hz : yp.2.2 = 0
  rotate_left
  · have hne : (yp.2.2 != 0) = true := by simp [hz]
    have HQ := Lib.hid (show askV R (.mk 4 op 0 0 ⟨#[]⟩ 0 0 [p, q]) = (noV, 0, yp.2.2) from by rw [HAq.out]; unfold askH; rw [if_neg (by decide), if_neg (by decide), if_pos (show ((yp :: _ : List Wo).getD 0 noW).2.2 ≠ 0 from hz)]; rfl)
    have hz2 : yp.2.1 = 0 := by rw [HYp.out]; exact askV_zero R p (by rw [← HYp.out]; exact hz)
    go_wp2
    go_ret2
    rw [HQ.out]
    exact ⟨by first | rfl | simp [hz2], HBw3.out⟩
  by_cases hs : yp.2.1 = 1
  · have HQ := Lib.hid (show askV R (.mk 4 op 0 0 ⟨#[]⟩ 0 0 [p, q]) = (noV, yp.2.1, 0) by rw [HAq.out]; unfold askH; rw [if_neg (by decide), if_neg (by decide), if_neg (show ¬ (([yp, yq] : List Wo).getD 0 noW).2.2 ≠ 0 from fun h => h hz), if_neg (by decide), if_neg (by decide), if_pos (show _ ∨ _ from Or.inr ⟨HO.out, hs⟩)]; rfl)
    go_wp2
    go_ret2
    rw [HQ.out]
    exact ⟨by first | rfl | simp [hs, hz], HBw3.out⟩
  have hsn : (yp.2.1 == 1) = false := by simp [hs]
  have HSc := Lib.hid (show ¬ ((op.toList = [65, 78, 68] ∧ (([yp, yq] : List Wo).getD 0 noW).2.1 = 0) ∨ (op.toList = [79, 82] ∧ (([yp, yq] : List Wo).getD 0 noW).2.1 = 1)) by rw [HO.out]; simp [hs])
  obtain ⟨hE, cN⟩ := HC.out w3 HB3.out
  obtain ⟨e0, e1, e2, e3, e4, e5, e6, e7⟩ := cellsE hE
  clear hE
  have cE : w.heap.size < w3.heap.size := by omega
  obtain ⟨a0, a1, a2, a3, a4, a5, a6, a7⟩ := HAtq.out w3 (bt HB.out HB3.out)
  have hbw : b < w3.heap.size := Nat.lt_of_lt_of_le HBl.out (bt HB.out HB3.out).size
  go_wp2_with fail
  refine (HIHq.out _ a len cap Q _ (HR.out.below HBw3.out) (HCvq.out _ HBw3.out)).mono ?_
  rintro e' w5 ⟨rfl, hb5⟩
  rw [← HYq.out]
  have HB5 := Lib.hid (bt HB3.out hb5)
  have HBw5 := Lib.hid (bt HB.out HB5.out)
  clear hb5
  clear e0 e1 e2 e3 e4 e5 e6 e7 cN cE
  clear a0 a1 a2 a3 a4 a5 a6 a7 hbw
  by_cases hz2 : yq.2.2 = 0
  rotate_left
  · have hne : (yq.2.2 != 0) = true := by simp [hz2]
    have HQ := Lib.hid (show askV R (.mk 4 op 0 0 ⟨#[]⟩ 0 0 [p, q]) = (noV, 0, yq.2.2) by rw [HAq.out]; unfold askH; rw [if_neg (by decide), if_neg (by decide), if_neg (show ¬ (([yp, yq] : List Wo).getD 0 noW).2.2 ≠ 0 from fun h => h hz), if_neg (by decide), if_neg (by decide), if_neg HSc.out, if_pos (show (([yp, yq] : List Wo).getD 1 noW).2.2 ≠ 0 from hz2)]; rfl)
    go_wp2
    go_ret2
    rw [HQ.out]
    exact ⟨rfl, HBw5.out⟩
  have HQ := Lib.hid (show askV R (.mk 4 op 0 0 ⟨#[]⟩ 0 0 [p, q]) = (noV, orI yp.2.1 yq.2.1, 0) by rw [HAq.out]; unfold askH; rw [if_neg (by decide), if_neg (by decide), if_neg (show ¬ (([yp, yq] : List Wo).getD 0 noW).2.2 ≠ 0 from fun h => h hz), if_neg (by decide), if_neg (by decide), if_neg HSc.out, if_neg (show ¬ (([yp, yq] : List Wo).getD 1 noW).2.2 ≠ 0 from fun h => h hz2), if_neg (by rw [HRe.out]; decide), if_neg (by rw [HO.out]; decide), if_pos HO.out]; rfl)
  go_wp2_with fail
  refine (or_any _ _ _).mono ?_
  rintro e' w6 ⟨rfl, hw6⟩
  subst hw6
  go_wp2_with fail
  go_ret2
  rw [HQ.out]
  exact ⟨rfl, HBw5.out⟩
end Go.Proofs.Ytafhgilikcablaa
