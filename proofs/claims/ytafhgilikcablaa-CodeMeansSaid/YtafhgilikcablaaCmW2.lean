/- The writer's joined: AND and OR. Written by gencw.py. -/
import Derived.Test.YtafhgilikcablaaCmW0
namespace Go.Proofs.Ytafhgilikcablaa
open Go.RowKit
set_option linter.unusedVariables false
set_option linter.unusedSimpArgs false
set_option maxRecDepth 100000
theorem own_sliceG {w : World} {B n size : Nat} {e : TypeId} {v : Value} {xs : List Value} (h : w.ownsRow B e size v n xs) (hn : n ≠ 0) : ∃ g c, v = .slice (some ⟨g, 0, none⟩) n c ∧ B ≤ g := by
  rcases h.2 with ⟨rfl, h0⟩ | ⟨g, cap, cur, rfl, hb, _⟩
  · exact absurd h0 hn
  · exact ⟨g, cap, rfl, hb⟩
/-- an instruction of the writer's row is told anew where it goes -/
theorem WSt.setC {w : World} {N g c : Nat} {xs : List Ins} {rg : Int} {n : Nat} (h : WSt w N (.slice (some ⟨g, 0, none⟩) n c) xs rg) (hg : N + 1 ≤ g) (j : Nat) (hj : j < xs.length) (C : Int) : WSt (w.setCell ⟨g, j * 7 + 3, none⟩ (.int .i64 C)) N (.slice (some ⟨g, 0, none⟩) n c) (xs.set j { xs.getD j noI with c := C }) rg := by
  have hn : n = xs.length := by
    have h1 := h.own.1
    rcases h.own.2 with ⟨h', _⟩ | ⟨g', cap', cur, he, _⟩
    · cases h'
    · simp only [Value.slice.injEq] at he
      exact he.2.1
  subst hn
  refine ⟨?_, ?_⟩
  · rw [heap_setCell_other _ _ _ _ (by show N ≠ g; omega)]
    exact h.rd
  · rw [List.length_set]
    exact own_setI h.own j hj C
theorem WTo.setG {N g n c : Nat} {v : Value} {a b : World} (h : WTo N v (.slice (some ⟨g, 0, none⟩) n c) a b) (hg : N + 1 ≤ g) (j : Nat) (u : Value) : WTo N v (.slice (some ⟨g, 0, none⟩) n c) a (b.setCell ⟨g, j, none⟩ u) :=
  ⟨h.below.setCell (p := ⟨g, j, none⟩) (by show N ≤ g; omega) u, fun i hi hn hv => (heap_setCell_other b ⟨g, j, none⟩ i u (by
    intro e
    subst e
    exact (h.own _ rfl).elim hv (fun hge => absurd hi (Nat.not_lt.2 hge)))).trans (h.block i hi hn hv), h.own⟩
theorem own_setC_cell {w : World} {N g c : Nat} {xs : List Ins} {rg : Int} {n : Nat} (h : WSt w N (.slice (some ⟨g, 0, none⟩) n c) xs rg) (j : Nat) (hj : j < xs.length) : w.cell? ⟨g, j * 7 + 3, none⟩ = some (.int .i64 (xs.getD j noI).c) ∧ w.frozen? ⟨g, j * 7 + 3, none⟩ = false := by
  have hn : n = xs.length := by
    rcases h.own.2 with ⟨h', _⟩ | ⟨g', cap', cur, he, _⟩
    · cases h'
    · simp only [Value.slice.injEq] at he
      exact he.2.1
  subst hn
  refine ⟨?_, ?_⟩
  · rw [h.own.cellAt (j * 7 + 3) (by omega), insOf_at xs j 3 hj (by omega)]
    rfl
  · rcases h.own.2 with ⟨h', _⟩ | ⟨g', cap', cur, he, hb, hg, h1, h2, hs, ht⟩
    · cases h'
    · simp only [Value.slice.injEq, Option.some.injEq, Addr.mk.injEq] at he
      obtain ⟨⟨rfl, _⟩, _, rfl⟩ := he
      exact frozen_of_row w g (j * 7 + 3) cur _ hg
set_option maxHeartbeats 6400000 in
theorem wjoin_any (s o op : ByteArray) (p q : CT) {kp kq : Int} (hwp : Wk p kp) (hwq : Wk q kq) (IHp : CmpI 74 p) (IHq : CmpI 74 q) (w : World) (N : Nat) (v : Value) (xs : List Ins) (rg : Int) (r : Nat) (Q : Nat → Prop) (cv : Value) (hst : WSt w N v xs rg) (hv : CV w Q cv (.mk 4 op 0 0 ⟨#[]⟩ 0 0 [p, q])) (hQ : ∀ b, Q b → b < N) (hok : WOk xs.length rg r (ctSz (.mk 4 op 0 0 ⟨#[]⟩ 0 0 [p, q]))) : Calls Try.prog 119 #[.pointer (some ⟨N, 0, none⟩), cv, .int .i64 (r : Int), .string s, .string o] w (WMore w N v (xs ++ joinC s o (cmpC p r xs.length) (cmpC q (r + 1) (xs.length + (cmpC p r xs.length).length + 1)) r xs.length) (regsF rg (joinC s o (cmpC p r xs.length) (cmpC q (r + 1) (xs.length + (cmpC p r xs.length).length + 1)) r xs.length))) := by
  obtain ⟨sa, sc, rfl, hrg, hel⟩ := hv
  have HRg := Lib.hid hrg
  have HEl := Lib.hid hel
  have HQ := Lib.hid hQ
  have HOk := Lib.hid hok
  have hsz : ctSz (.mk 4 op 0 0 ⟨#[]⟩ 0 0 [p, q]) = 1 + (ctSz p + ctSz q) := sz_two _ _ _ _
  have HSzC := Lib.hid hsz
  clear hsz
  obtain ⟨b, off, pa, pc, hsa, hbl, hat, hprg, hpl⟩ := hel.at (i := 0) (by simp [CT.parts])
  subst hsa
  have hqb : Q b := CL.qAt hel (by simp [CT.parts])
  have hat : CAt w b (off + 0 * 8) p pa pc := hat
  have hprg : CRg p pa pc := hprg
  have hpl : CL w Q pa p.parts := hpl
  rw [show off + 0 * 8 = off from rfl] at hat
  have HCvp := Lib.hid (show ∀ W, Below N w W → CV W Q (.agg #[.int .i64 p.kind, .string p.op, .int .i64 p.vk, .int .i64 p.vn, .string p.vs, .int .i64 p.src, .int .i64 p.col, .slice pa p.parts.length pc]) p from fun W hW => ⟨pa, pc, rfl, hprg, hpl.far hW.size (fun b hq _ => hW.block b (hQ b hq))⟩)
  have HAtp := Lib.hid (show ∀ W, Below N w W → CAt W b (off) p pa pc ∧ b < W.heap.size from fun W hW => ⟨hat.far (hW.block b (hQ b hqb)), Nat.lt_of_lt_of_le hbl hW.size⟩)
  have HIHp := Lib.hid IHp
  have HWkp := Lib.hid hwp
  obtain ⟨b', off', qa, qc, hsa', hbl', hat', hprg', hpl'⟩ := hel.at (i := 1) (by simp [CT.parts])
  cases hsa'
  have hat' : CAt w b (off + 1 * 8) q qa qc := hat'
  have hprg' : CRg q qa qc := hprg'
  have hpl' : CL w Q qa q.parts := hpl'
  rw [show off + 1 * 8 = off + 8 from rfl] at hat'
  have HCvq := Lib.hid (show ∀ W, Below N w W → CV W Q (.agg #[.int .i64 q.kind, .string q.op, .int .i64 q.vk, .int .i64 q.vn, .string q.vs, .int .i64 q.src, .int .i64 q.col, .slice qa q.parts.length qc]) q from fun W hW => ⟨qa, qc, rfl, hprg', hpl'.far hW.size (fun b hq _ => hW.block b (hQ b hq))⟩)
  have HAtq := Lib.hid (show ∀ W, Below N w W → CAt W b (off + 8) q qa qc ∧ b < W.heap.size from fun W hW => ⟨hat'.far (hW.block b (hQ b hqb)), Nat.lt_of_lt_of_le hbl hW.size⟩)
  have HIHq := Lib.hid IHq
  have HWkq := Lib.hid hwq
  have HCv := Lib.hid (show ∀ W, Below N w W → CV W Q (.agg #[.int .i64 4, .string op, .int .i64 0, .int .i64 0, .string ⟨#[]⟩, .int .i64 0, .int .i64 0, .slice (some ⟨b, off, none⟩) 2 sc]) (.mk 4 op 0 0 ⟨#[]⟩ 0 0 [p, q]) from fun W hW => ⟨_, sc, rfl, HRg.out, HEl.out.far hW.size (fun b hq _ => hW.block b (HQ.out b hq))⟩)
  have e0 : (ctX (.mk 4 op 0 0 ⟨#[]⟩ 0 0 [p, q]) (some ⟨b, off, none⟩) sc).toArray = #[.int .i64 4, .string op, .int .i64 0, .int .i64 0, .string ⟨#[]⟩, .int .i64 0, .int .i64 0, .slice (some ⟨b, off, none⟩) 2 sc] := rfl
  rw [e0]
  have hbl0 := hbl
  clear hbl hwp hwq
  have hNlt := hst.low
  have hB1 := bel0 (.cells #[.int .i64 4, .string op, .int .i64 0, .int .i64 0, .string ⟨#[]⟩, .int .i64 0, .int .i64 0, .slice (some ⟨b, off, none⟩) 2 sc] 46) (Below.refl w.heap.size w)
  have HSt1 := Lib.hid (hst.below hB1)
  have HT := Lib.hid (show WTo N v v w (w.alloc (.cells #[.int .i64 4, .string op, .int .i64 0, .int .i64 0, .string ⟨#[]⟩, .int .i64 0, .int .i64 0, .slice (some ⟨b, off, none⟩) 2 sc] 46)) from .of_below hB1 (Nat.le_of_lt hst.low))
  have HBx := Lib.hid (Go.heap_alloc_new w (.cells #[.int .i64 4, .string op, .int .i64 0, .int .i64 0, .string ⟨#[]⟩, .int .i64 0, .int .i64 0, .slice (some ⟨b, off, none⟩) 2 sc] 46 (0, 0)))
  have HSz := Lib.hid (show (w.alloc (.cells #[.int .i64 4, .string op, .int .i64 0, .int .i64 0, .string ⟨#[]⟩, .int .i64 0, .int .i64 0, .slice (some ⟨b, off, none⟩) 2 sc] 46)).heap.size = w.heap.size + 1 by simp)
  have HOb := Lib.hid (own_blk hst)
  clear hB1 hst hQ hok hrg hel e0 IHp IHq hqb hat hprg hpl hat' hprg' hpl' hbl'
  go_enter Try.func119, Try.ntmps119
  go_upto_region 1 with (fail)
  generalize (w.alloc (.cells #[.int .i64 4, .string op, .int .i64 0, .int .i64 0, .string ⟨#[]⟩, .int .i64 0, .int .i64 0, .slice (some ⟨b, off, none⟩) 2 sc] 46)) = w1 at *
  have HC := Lib.hid (show ∀ (W : World) (v' : Value), WTo N v v' w1 W → W.heap[w.heap.size]? = some (.cells #[.int .i64 4, .string op, .int .i64 0, .int .i64 0, .string ⟨#[]⟩, .int .i64 0, .int .i64 0, .slice (some ⟨b, off, none⟩) 2 sc] 46 (0, 0)) ∧ w.heap.size < W.heap.size from fun W v' h => by
    have k0 := (h.block w.heap.size (by have := HSz.out; omega) (by omega) HOb.out).trans HBx.out
    exact ⟨k0, (Array.getElem?_eq_some_iff.1 k0).1⟩)
  obtain ⟨hw1, hw2⟩ := (wrp1 r (by have := HOk.out.r; omega))
  obtain ⟨hE, cN⟩ := HC.out w1 _ (WTo.refl N v w1)
  obtain ⟨e0, e1, e2, e3, e4, e5, e6, e7⟩ := cellsE hE
  clear hE
  obtain ⟨⟨a0, a1, a2, a3, a4, a5, a6, a7⟩, hbw⟩ := HAtp.out w1 (HT.out.below.trans (WTo.refl N v w1).below)
  have HT0 := Lib.hid (WTo.refl N v w1)
  have HOp := Lib.hid (show WOk xs.length rg r (ctSz p) from ⟨by have := HOk.out.l; have := HSzC.out; omega, by have := HOk.out.r; have := HSzC.out; omega, HOk.out.lo, HOk.out.hi⟩)
  have HN3 := Lib.hid (cm_num HWkp.out HOp.out xs.length)
  go_wp2_with fail
  refine (HIHp.out _ N v xs rg r Q _ HSt1.out (HCvp.out _ (HT.out.below.trans HT0.out.below)) HQ.out HOp.out).mono ?_
  rintro e' w3 ⟨rfl, v3, hs, ht⟩
  have HS3 := Lib.hid hs
  have HT3 := Lib.hid (HT0.out.trans ht)
  clear hs ht
  clear e0 e1 e2 e3 e4 e5 e6 e7 cN
  clear a0 a1 a2 a3 a4 a5 a6 a7 hbw
  obtain ⟨P, hP⟩ : ∃ P, P = cmpC p r xs.length := ⟨_, rfl⟩
  have HP := Lib.hid hP
  rw [← hP] at HS3 HN3
  clear hP
  obtain ⟨rp, hrp⟩ : ∃ rp, rp = regsF rg P := ⟨_, rfl⟩
  have HRp := Lib.hid hrp
  rw [← hrp] at HS3 HN3
  clear hrp
  obtain ⟨j, hj⟩ : ∃ j, j = (xs ++ P).length := ⟨_, rfl⟩
  have HJ := Lib.hid (show j = xs.length + P.length by rw [hj, List.length_append])
  obtain ⟨a3, c3, he⟩ := own_sliceW HS3.out.own
  subst he
  rw [← hj] at HS3 HT3
  have f0 : w3.cell? ⟨N, 0, none⟩ = some (.slice a3 j c3) := cell_of_row _ _ 0 _ _ _ HS3.out.rd
  have hN3 := HS3.out.low
  clear hj
  obtain ⟨hE, cN⟩ := HC.out w3 _ HT3.out
  obtain ⟨e0, e1, e2, e3, e4, e5, e6, e7⟩ := cellsE hE
  clear hE
  go_wp2_with fail
  refine (wadd_any _ N _ _ _ ⟨s, 0, (r : Nat), 0, noV⟩ HS3.out (by rw [List.length_append]; have := HN3.out.1; have := HOp.out.l; omega) ⟨by show (0 : Int) ≤ 0; omega, by show (0 : Int) ≤ 1000; omega⟩ ⟨HN3.out.2.1, by have := HN3.out.2.2; omega⟩).mono ?_
  rintro e' w4 ⟨rfl, v4, hs, ht⟩
  have HS4 := Lib.hid hs
  have HT4 := Lib.hid (HT3.out.trans ht)
  clear hs ht
  clear e0 e1 e2 e3 e4 e5 e6 e7 cN
  clear f0 hN3
  have HLn := Lib.hid (show ((xs ++ P) ++ [(⟨s, 0, (r : Nat), 0, noV⟩ : Ins)]).length = xs.length + P.length + 1 by simp; omega)
  obtain ⟨hE, cN⟩ := HC.out w4 _ HT4.out
  obtain ⟨e0, e1, e2, e3, e4, e5, e6, e7⟩ := cellsE hE
  clear hE
  obtain ⟨⟨a0, a1, a2, a3, a4, a5, a6, a7⟩, hbw⟩ := HAtq.out w4 (HT.out.below.trans HT4.out.below)
  have HOq := Lib.hid (show WOk ((xs ++ P) ++ [(⟨s, 0, (r : Nat), 0, noV⟩ : Ins)]).length (max rp (0 + 1)) (r + 1) (ctSz q) from ⟨by rw [HLn.out]; have := HN3.out.1; have := HOk.out.l; have := HSzC.out; omega, by have := HOk.out.r; have := HSzC.out; omega, by have := HN3.out.2.1; omega, by have := HN3.out.2.2; omega⟩)
  have HN5 := Lib.hid (cm_num HWkq.out HOq.out ((xs ++ P) ++ [(⟨s, 0, (r : Nat), 0, noV⟩ : Ins)]).length)
  go_wp2_with fail
  refine (HIHq.out _ N v4 _ _ (r + 1) Q _ HS4.out (HCvq.out _ (HT.out.below.trans HT4.out.below)) HQ.out HOq.out).mono ?_
  rintro e' w5 ⟨rfl, v5, hs, ht⟩
  have HS5 := Lib.hid hs
  have HT5 := Lib.hid (HT4.out.trans ht)
  clear hs ht
  clear e0 e1 e2 e3 e4 e5 e6 e7 cN
  clear a0 a1 a2 a3 a4 a5 a6 a7 hbw
  rw [HLn.out] at HS5 HN5
  obtain ⟨K, hK⟩ : ∃ K, K = cmpC q (r + 1) (xs.length + P.length + 1) := ⟨_, rfl⟩
  have HK := Lib.hid hK
  rw [← hK] at HS5 HN5
  clear hK
  obtain ⟨hE, cN⟩ := HC.out w5 _ HT5.out
  obtain ⟨e0, e1, e2, e3, e4, e5, e6, e7⟩ := cellsE hE
  clear hE
  go_wp2_with fail
  refine (wadd_any _ N v5 _ _ ⟨o, (r : Nat), (r : Nat), (r : Int) + 1, noV⟩ HS5.out (by rw [List.length_append, HLn.out]; have := HN5.out.1; have := HOq.out.l; rw [HLn.out] at this; omega) ⟨by show (0 : Int) ≤ (r : Int); omega, by show (r : Int) ≤ 1000; have := HOk.out.r; omega⟩ ⟨HN5.out.2.1, by have := HN5.out.2.2; omega⟩).mono ?_
  rintro e' w6 ⟨rfl, v6, hs, ht⟩
  have HS6 := Lib.hid hs
  have HT6 := Lib.hid (HT5.out.trans ht)
  clear hs ht
  clear e0 e1 e2 e3 e4 e5 e6 e7 cN
  obtain ⟨n6, hn6⟩ : ∃ n, n = ((((xs ++ P) ++ [(⟨s, 0, (r : Nat), 0, noV⟩ : Ins)]) ++ K) ++ [(⟨o, (r : Nat), (r : Nat), (r : Int) + 1, noV⟩ : Ins)]).length := ⟨_, rfl⟩
  have HN6 := Lib.hid (show n6 = xs.length + P.length + 1 + K.length + 1 by rw [hn6]; simp; omega)
  obtain ⟨g, c6, he, hgN⟩ := own_sliceG HS6.out.own (by simp)
  subst he
  rw [← hn6] at HS6 HT6
  have f0 : w6.cell? ⟨N, 0, none⟩ = some (.slice (some ⟨g, 0, none⟩) n6 c6) := cell_of_row _ _ 0 _ _ _ HS6.out.rd
  have hN6 := HS6.out.low
  obtain ⟨f1, f2⟩ := own_setC_cell HS6.out j (by rw [← hn6, HN6.out, HJ.out]; omega)
  have hjn : j < n6 := by rw [HN6.out, HJ.out]; omega
  have hg6 : g < w6.heap.size := (HS6.out.own.lt g rfl).2
  have HGN := Lib.hid hgN
  have HJn := Lib.hid hjn
  have hn6b : n6 ≤ 9223372036854775807 := by have := HOq.out.l; have := HN5.out.1; rw [HLn.out] at *; rw [HN6.out]; omega
  have HR6 := Lib.hid (HS6.out.setC hgN j (by rw [← hn6]; exact hjn) (n6 : Int))
  have HU6 := Lib.hid (HT6.out.setG hgN (j * 7 + 3) (.int .i64 (n6 : Int)))
  have hj0 : (0 : Int) ≤ (j : Int) := by omega
  have hji : (j : Int) < (n6 : Int) := by omega
  clear hn6 hgN
  have HEq := Lib.hid (join_set xs P K s o r)
  have HRg := Lib.hid (regs_join rg s o P K r xs.length)
  go_upto_region 6 with (fail)
  go_region_law (fail)
  all_goals
    go_wp2
  all_goals
    go_end0
    rw [← HP.out, ← HK.out, HRg.out, ← HEq.out, ← HN6.out, ← HJ.out, ← HRp.out]
    refine ⟨rfl, .slice (some ⟨g, 0, none⟩) n6 c6, ?_, ?_⟩
    · repeat (first | exact HR6.out | refine WSt.drew ?_)
    · repeat (first | exact HT.out.trans HU6.out | refine WTo.drew ?_)
end Go.Proofs.Ytafhgilikcablaa
