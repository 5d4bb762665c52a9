/- What a cell is worth, the program's: both parts. Written by genaw.py. -/
import Derived.Test.YtafhgilikcablaaAwF1
namespace Go.Proofs.Ytafhgilikcablaa
open Go.RowKit
set_option linter.unusedVariables false
set_option linter.unusedSimpArgs false
set_option maxRecDepth 100000
theorem fm_col {R : List (List Val)} {I J : Nat} (h1 : I < R.length) (h2 : J < (R.getD I []).length) : colF R I J = (fmV ((R.getD I []).getD J noV), fmX ((R.getD I []).getD J noV)) := by
  unfold colF fmV fmX
  simp only [Int.toNat_natCast]
  by_cases hf : formedV ((R.getD I []).getD J noV) = true
  · rw [if_pos hf, if_pos hf, if_pos ⟨by omega, by omega, h1, h2, hf⟩]
  · rw [if_neg hf, if_neg hf, if_neg (fun h => hf h.2.2.2.2)]
theorem fm_out {R : List (List Val)} {I J : Nat} (h : ¬ (I < R.length ∧ J < (R.getD I []).length)) : colF R I J = (noV, 1) := by
  unfold colF
  simp only [Int.toNat_natCast]
  rw [if_neg (fun h' => h ⟨h'.2.2.1, h'.2.2.2.1⟩)]
set_option maxHeartbeats 6400000 in
theorem pcolumnOf_any (R : List (List Val)) (I J : Nat) (w : World) (a : Option Addr) (len cap : Nat) (sa : Option Addr) (sc : Nat) (hR : IsRR w a len R) (hI : (I : Int) ≤ 9223372036854775807) (hJ : (J : Int) ≤ 9223372036854775807) :
    Calls Try.prog 106 #[.agg #[.int .i64 2, .string ⟨#[]⟩, .int .i64 0, .int .i64 0, .string ⟨#[]⟩, .int .i64 (I : Int), .int .i64 (J : Int), .slice sa 0 sc], .slice a len cap] w (Val2 w (colF R I J).1 (colF R I J).2) := by
  have HB := Lib.hid (bel0 (.cells #[.int .i64 0, .int .i64 0, .string ⟨#[]⟩] 38) (bel0 (.cells #[.int .i64 2, .string ⟨#[]⟩, .int .i64 0, .int .i64 0, .string ⟨#[]⟩, .int .i64 (I : Int), .int .i64 (J : Int), .slice sa 0 sc] 46) (Below.refl w.heap.size w)))
  have HBX := Lib.hid (boxes2 w (.cells #[.int .i64 2, .string ⟨#[]⟩, .int .i64 0, .int .i64 0, .string ⟨#[]⟩, .int .i64 (I : Int), .int .i64 (J : Int), .slice sa 0 sc] 46 (0, 0)) (.cells #[.int .i64 0, .int .i64 0, .string ⟨#[]⟩] 38 (0, 0)))
  have hlen := hR.2.1
  have HRl := Lib.hid hR.1
  have HRR := Lib.hid hR
  clear hR
  obtain ⟨y, hy⟩ : ∃ y, y = colF R I J := ⟨_, rfl⟩
  have HY := Lib.hid hy
  rw [← hy]
  clear hy
  go_enter Try.func106, Try.ntmps106
  go_upto_region 1 with (fail)
  generalize ((w.alloc (.cells #[.int .i64 2, .string ⟨#[]⟩, .int .i64 0, .int .i64 0, .string ⟨#[]⟩, .int .i64 (I : Int), .int .i64 (J : Int), .slice sa 0 sc] 46)).alloc (.cells #[.int .i64 0, .int .i64 0, .string ⟨#[]⟩] 38)) = w1 at *
  have HC := Lib.hid (show ∀ W : World, Below w1.heap.size w1 W → W.heap[w.heap.size]? = some (.cells #[.int .i64 2, .string ⟨#[]⟩, .int .i64 0, .int .i64 0, .string ⟨#[]⟩, .int .i64 (I : Int), .int .i64 (J : Int), .slice sa 0 sc] 46 (0, 0)) ∧ W.heap[w.heap.size + 1]? = some (.cells #[.int .i64 0, .int .i64 0, .string ⟨#[]⟩] 38 (0, 0)) ∧ w.heap.size + 1 < W.heap.size from fun W h => by
    obtain ⟨⟨h0, h1⟩, hz⟩ := HBX.out
    have k0 := (h.block w.heap.size (by omega)).trans h0
    have k1 := (h.block (w.heap.size + 1) (by omega)).trans h1
    exact ⟨k0, k1, (Array.getElem?_eq_some_iff.1 k1).1⟩)
  obtain ⟨hE, -, cN⟩ := HC.out w1 (Below.refl _ _)
  obtain ⟨e0, e1, e2, e3, e4, e5, e6, e7⟩ := cellsE hE
  have i5 := Fut.cell e5
  have i6 := Fut.cell e6
  clear hE e0 e1 e2 e3 e4 e5 e6 e7
  have hI0 : (0 : Int) ≤ (I : Int) := by omega
  have hJ0 : (0 : Int) ≤ (J : Int) := by omega
  have hdI : decide ((I : Int) < 0) = false := decide_eq_false (by omega)
  have hdJ : decide ((J : Int) < 0) = false := decide_eq_false (by omega)
  have hnI : ¬ (I : Int) < 0 := by omega
  have hnJ : ¬ (J : Int) < 0 := by omega
  by_cases h1 : I < len
  · have d1 : decide ((len : Int) ≤ (I : Int)) = false := decide_eq_false (by omega)
    have d1n : decide (len ≤ I) = false := decide_eq_false (by omega)
    have d1i : (I : Int) < (len : Int) := by omega
    rcases (HRR.out.below HB.out).2.2 with h0 | ⟨b, off, rfl, hbl, hc⟩
    · omega
    obtain ⟨ra, rl, rc, g0, hv⟩ := hc I h1
    have hrl := hv.2.1
    have HVl := Lib.hid hv.1
    have k0 := Fut.cell g0
    by_cases h2 : J < rl
    · have d2 : decide ((rl : Int) ≤ (J : Int)) = false := decide_eq_false (by omega)
      have d2n : decide (rl ≤ J) = false := decide_eq_false (by omega)
      have d2i : (J : Int) < (rl : Int) := by omega
      obtain ⟨b2, o2, rfl, hb2, v0, v1, v2⟩ := hv.at (Below.refl _ _) h2
      have HQ := Lib.hid (show y = (fmV ((R.getD I []).getD J noV), fmX ((R.getD I []).getD J noV)) by rw [HY.out]; exact fm_col (by have := HRl.out; omega) (by have := HVl.out; omega))
      have l0 := Fut.cell v0
      have l1 := Fut.cell v1
      have l2 := Fut.cell v2
      obtain ⟨x, hx⟩ : ∃ x, x = (R.getD I []).getD J noV := ⟨_, rfl⟩
      rw [← hx] at l0 l1 l2 HQ
      clear hv hc v0 v1 v2 g0 hx h1 h2
      refine wp_region_fut (by kernel_rfl) (by kernel_rfl) ?_
      repeat (go_big_quiet_step (fail))
      refine wpQuiet_nil ?_
      rintro _ ⟨s, rfl⟩
      have hb3 := s.bel
      have n5 := Fut.cell (i5 s)
      have n6 := Fut.cell (i6 s)
      have m0 := Fut.cell (k0 s)
      have p0 := Fut.cell (l0 s)
      have p1 := Fut.cell (l1 s)
      have p2 := Fut.cell (l2 s)
      generalize s.to = w3 at *
      clear s i5 i6 k0 l0 l1 l2
      have HB3 := Lib.hid hb3
      clear hb3
      have HF := Lib.hid (show ∀ s : Fut w3, Calls Try.prog 105 #[.agg #[.int .i64 x.1, .int .i64 x.2.1, .string x.2.2]] s.to fun e w' => e = .returned (.tuple #[.agg #[.int .i64 (fmV x).1, .int .i64 (fmV x).2.1, .string (fmV x).2.2], .int .i64 (fmX x)]) ∧ Below s.to.heap.size s.to w' from fun s => pformed_v x s.to)
      go_upto_region 3 with (fail)
      refine wp_region_fut_float 12 [11] (by kernel_rfl) (by kernel_rfl) ?_
      simp only [List.take_succ_cons, List.take_zero, List.drop_succ_cons, List.drop_zero]
      repeat (go_big_quiet_step ((go_at_call 105; exact calls_fut (HF.out _))))
      refine wpQuiet_nil ?_
      intro s
      have hb4 := s.bel
      generalize s.to = w4 at *
      clear s n5 n6 m0 p0 p1 p2
      have HB4 := Lib.hid (bt HB3.out hb4)
      have HBw := Lib.hid (bt HB.out HB4.out)
      clear hb4
      obtain ⟨-, hX, cN4⟩ := HC.out w4 HB4.out
      have HX9 := Lib.hid (vbox3 hX (.int .i64 (fmV x).1) (.int .i64 (fmV x).2.1) (.string (fmV x).2.2))
      have HB9 := Lib.hid (v3_below (K := w.heap.size) (N := w.heap.size + 1) (by omega) HBw.out (.int .i64 (fmV x).1) (.int .i64 (fmV x).2.1) (.string (fmV x).2.2))
      obtain ⟨b0, b1, b2', b3, b4, b5, b6⟩ := v3 hX
      clear hX
      go_wp2
      refine NoPanic.normal ?_
      go_wp2_with fail
      refine bodyPost_ret (results_v2 rfl _ _ (w.heap.size + 1) _ _ _ rfl HX9.out) rfl ?_
      rw [HQ.out]
      exact ⟨rfl, HB9.out⟩
    · have d2 : decide ((rl : Int) ≤ (J : Int)) = true := decide_eq_true (by omega)
      have d2n : decide (rl ≤ J) = true := decide_eq_true (by omega)
      have d2i : (rl : Int) ≤ (J : Int) := by omega
      have HQ := Lib.hid (show y = (noV, 1) by rw [HY.out]; exact fm_out (fun h => h2 (by have := HVl.out; omega)))
      clear hv hc g0 h1 h2
      refine wp_region_fut (by kernel_rfl) (by kernel_rfl) ?_
      repeat (go_big_quiet_step (fail))
      refine wpQuiet_nil ?_
      rintro _ ⟨s, rfl⟩
      have hb3 := s.bel
      generalize s.to = w3 at *
      clear s i5 i6 k0
      have HBw := Lib.hid (bt HB.out hb3)
      obtain ⟨-, hX, cN4⟩ := HC.out w3 hb3
      have HX9 := Lib.hid (vbox3 hX (.int .i64 0) (.int .i64 0) (.string ⟨#[]⟩))
      have HB9 := Lib.hid (v3_below (K := w.heap.size) (N := w.heap.size + 1) (by omega) HBw.out (.int .i64 0) (.int .i64 0) (.string ⟨#[]⟩))
      obtain ⟨b0, b1, b2', b3, b4, b5, b6⟩ := v3 hX
      clear hX hb3
      go_wp2
      refine bodyPost_ret (results_v2 rfl _ _ (w.heap.size + 1) _ _ _ rfl HX9.out) rfl ?_
      rw [HQ.out]
      exact ⟨rfl, HB9.out⟩
  · have d1 : decide ((len : Int) ≤ (I : Int)) = true := decide_eq_true (by omega)
    have d1n : decide (len ≤ I) = true := decide_eq_true (by omega)
    have d1i : (len : Int) ≤ (I : Int) := by omega
    have HQ := Lib.hid (show y = (noV, 1) by rw [HY.out]; exact fm_out (fun h => h1 (by have := HRl.out; omega)))
    clear h1
    refine wp_region_fut (by kernel_rfl) (by kernel_rfl) ?_
    repeat (go_big_quiet_step (fail))
    refine wpQuiet_nil ?_
    rintro _ ⟨s, rfl⟩
    have hb3 := s.bel
    generalize s.to = w3 at *
    clear s i5 i6
    have HBw := Lib.hid (bt HB.out hb3)
    obtain ⟨-, hX, cN4⟩ := HC.out w3 hb3
    have HX9 := Lib.hid (vbox3 hX (.int .i64 0) (.int .i64 0) (.string ⟨#[]⟩))
    have HB9 := Lib.hid (v3_below (K := w.heap.size) (N := w.heap.size + 1) (by omega) HBw.out (.int .i64 0) (.int .i64 0) (.string ⟨#[]⟩))
    obtain ⟨b0, b1, b2', b3, b4, b5, b6⟩ := v3 hX
    clear hX hb3
    go_wp2
    refine bodyPost_ret (results_v2 rfl _ _ (w.heap.size + 1) _ _ _ rfl HX9.out) rfl ?_
    rw [HQ.out]
    exact ⟨rfl, HB9.out⟩
end Go.Proofs.Ytafhgilikcablaa
namespace Go.Proofs.Ytafhgilikcablaa
open Go.RowKit
set_option linter.unusedVariables false
set_option linter.unusedSimpArgs false
set_option maxRecDepth 100000
theorem results_v22 {fn : Func} {p q u : Tmp} (h : fn.results = #[.cell p 38, .cell q 38, .tmp u]) (tmps : Array Value) (w : World) (g g' : Nat) (x y z x' y' z' : Value)
    (hp : tmps.getD p undef = .pointer (some ⟨g, 0, none⟩)) (hq : tmps.getD q undef = .pointer (some ⟨g', 0, none⟩)) (hg : w.heap[g]? = some (.cells #[x, y, z] 38 (0, 0))) (hg' : w.heap[g']? = some (.cells #[x', y', z'] 38 (0, 0))) :
    (results fn tmps).run Try.prog w = .ok (.tuple #[.agg #[x, y, z], .agg #[x', y', z'], tmps.getD u undef]) w := by
  have hp' : tmps[p]?.getD undef = .pointer (some ⟨g, 0, none⟩) := by simpa using hp
  have hq' : tmps[q]?.getD undef = .pointer (some ⟨g', 0, none⟩) := by simpa using hq
  have hs : (Try.prog.info? 38).map (·.size) = some 3 := by kernel_rfl
  have hl := run_loadVar_row (P := Try.prog) w g 38 38 #[x, y, z] (0, 0) _ hg Try.underlying38 rfl hs
  have hl' := run_loadVar_row (P := Try.prog) w g' 38 38 #[x', y', z'] (0, 0) _ hg' Try.underlying38 rfl hs
  simp [results, h, hp', hq', asAddr, hl, hl']
theorem two3 {w : World} {A B : Nat} {x y z x' y' z' : Value} {T : TypeId} (hne : B ≠ A) (hA : w.heap[A]? = some (.cells #[x, y, z] T (0, 0))) (hB : w.heap[B]? = some (.cells #[x', y', z'] T (0, 0))) (a b c d e f : Value) :
    ((((((w.setCell ⟨A, 0, none⟩ a).setCell ⟨A, 1, none⟩ b).setCell ⟨A, 2, none⟩ c).setCell ⟨B, 0, none⟩ d).setCell ⟨B, 1, none⟩ e).setCell ⟨B, 2, none⟩ f).heap[A]? = some (.cells #[a, b, c] T (0, 0)) ∧ ((((((w.setCell ⟨A, 0, none⟩ a).setCell ⟨A, 1, none⟩ b).setCell ⟨A, 2, none⟩ c).setCell ⟨B, 0, none⟩ d).setCell ⟨B, 1, none⟩ e).setCell ⟨B, 2, none⟩ f).heap[B]? = some (.cells #[d, e, f] T (0, 0)) := by
  have h1 := vbox3 hA a b c
  have k : ∀ (W : World) (j : Nat) (v : Value), (W.setCell ⟨B, j, none⟩ v).heap[A]? = W.heap[A]? := fun W j v => heap_setCell_other _ _ _ _ hne.symm
  have k' : ∀ (W : World) (j : Nat) (v : Value), (W.setCell ⟨A, j, none⟩ v).heap[B]? = W.heap[B]? := fun W j v => heap_setCell_other _ _ _ _ hne
  have h2 : (((w.setCell ⟨A, 0, none⟩ a).setCell ⟨A, 1, none⟩ b).setCell ⟨A, 2, none⟩ c).heap[B]? = some (.cells #[x', y', z'] T (0, 0)) := (k' _ _ _).trans ((k' _ _ _).trans ((k' _ _ _).trans hB))
  exact ⟨(k _ _ _).trans ((k _ _ _).trans ((k _ _ _).trans h1)), vbox3 h2 d e f⟩
def boV (p q : Wo) : Val × Val × Int := if p.2.2 ≠ 0 then (noV, noV, p.2.2) else (p.1, q.1, q.2.2)
def Bo2 (w : World) (y : Val × Val × Int) (e : Ending) (w' : World) : Prop := e = .returned (.tuple #[.agg #[.int .i64 y.1.1, .int .i64 y.1.2.1, .string y.1.2.2], .agg #[.int .i64 y.2.1.1, .int .i64 y.2.1.2.1, .string y.2.1.2.2], .int .i64 y.2.2]) ∧ Below w.heap.size w w'
set_option maxHeartbeats 12800000 in
theorem bothOf_any (R : List (List Val)) (op : ByteArray) (p q : CT)  (IHp : ValI R p) (IHq : ValI R q) (w : World) (a : Option Addr) (len cap : Nat) (Q : Nat → Prop) (v : Value) (hR : IsRR w a len R) (hv : CV w Q v (.mk 4 op 0 0 ⟨#[]⟩ 0 0 [p, q])) :
    Calls Try.prog 103 #[v, .slice a len cap] w (Bo2 w (boV (askV R p) (askV R q))) := by
  obtain ⟨sa, sc, rfl, hrg, hel⟩ := hv
  have HRg := Lib.hid hrg
  have HEl := Lib.hid hel
  obtain ⟨b, off, pa, pc, hsa, hbl, hat, hprg, hpl⟩ := hel.at (i := 0) (by simp [CT.parts])
  subst hsa
  have hat : CAt w b (off + 0 * 8) p pa pc := hat
  have hprg : CRg p pa pc := hprg
  have hpl : CL w Q pa p.parts := hpl
  rw [show off + 0 * 8 = off from rfl] at hat
  have HCvp := Lib.hid (show ∀ W, Below w.heap.size w W → CV W Q (.agg #[.int .i64 p.kind, .string p.op, .int .i64 p.vk, .int .i64 p.vn, .string p.vs, .int .i64 p.src, .int .i64 p.col, .slice pa p.parts.length pc]) p from fun W hW => ⟨pa, pc, rfl, hprg, hpl.keep hW⟩)
  have HAtp := Lib.hid (show ∀ W, Below w.heap.size w W → CAt W b (off) p pa pc from fun W hW => hat.below hbl hW)
  have HIHp := Lib.hid IHp
  obtain ⟨b', off', qa, qc, hsa', hbl', hat', hprg', hpl'⟩ := hel.at (i := 1) (by simp [CT.parts])
  cases hsa'
  have hat' : CAt w b (off + 1 * 8) q qa qc := hat'
  have hprg' : CRg q qa qc := hprg'
  have hpl' : CL w Q qa q.parts := hpl'
  rw [show off + 1 * 8 = off + 8 from rfl] at hat'
  have HCvq := Lib.hid (show ∀ W, Below w.heap.size w W → CV W Q (.agg #[.int .i64 q.kind, .string q.op, .int .i64 q.vk, .int .i64 q.vn, .string q.vs, .int .i64 q.src, .int .i64 q.col, .slice qa q.parts.length qc]) q from fun W hW => ⟨qa, qc, rfl, hprg', hpl'.keep hW⟩)
  have HAtq := Lib.hid (show ∀ W, Below w.heap.size w W → CAt W b (off + 8) q qa qc from fun W hW => hat'.below hbl' hW)
  have HIHq := Lib.hid IHq
  have HBl := Lib.hid hbl
  have HR := Lib.hid hR
  have HCv := Lib.hid (show ∀ W, Below w.heap.size w W → CV W Q (.agg #[.int .i64 4, .string op, .int .i64 0, .int .i64 0, .string ⟨#[]⟩, .int .i64 0, .int .i64 0, .slice (some ⟨b, off, none⟩) 2 sc]) (.mk 4 op 0 0 ⟨#[]⟩ 0 0 [p, q]) from fun W hW => ⟨_, sc, rfl, HRg.out, HEl.out.keep hW⟩)
  have e0 : (ctX (.mk 4 op 0 0 ⟨#[]⟩ 0 0 [p, q]) (some ⟨b, off, none⟩) sc).toArray = #[.int .i64 4, .string op, .int .i64 0, .int .i64 0, .string ⟨#[]⟩, .int .i64 0, .int .i64 0, .slice (some ⟨b, off, none⟩) 2 sc] := rfl
  rw [e0]
  obtain ⟨yp, hyp⟩ : ∃ y, y = askV R p := ⟨_, rfl⟩
  have HYp := Lib.hid hyp
  obtain ⟨yq, hyq⟩ : ∃ y, y = askV R q := ⟨_, rfl⟩
  have HYq := Lib.hid hyq
  have HAq := Lib.hid (show askV R (.mk 4 op 0 0 ⟨#[]⟩ 0 0 [p, q]) = askH R 4 op (0, 0, ⟨#[]⟩) 0 0 [yp, yq] by rw [hyp, hyq]; rfl)
  have HB := Lib.hid (bel0 (.cells #[.int .i64 0, .int .i64 0, .string ⟨#[]⟩] 38) (bel0 (.cells #[.int .i64 0, .int .i64 0, .string ⟨#[]⟩] 38) (bel0 (.cells #[.int .i64 4, .string op, .int .i64 0, .int .i64 0, .string ⟨#[]⟩, .int .i64 0, .int .i64 0, .slice (some ⟨b, off, none⟩) 2 sc] 46) (Below.refl w.heap.size w))))
  have HBX := Lib.hid (boxes3 w (.cells #[.int .i64 4, .string op, .int .i64 0, .int .i64 0, .string ⟨#[]⟩, .int .i64 0, .int .i64 0, .slice (some ⟨b, off, none⟩) 2 sc] 46 (0, 0)) (.cells #[.int .i64 0, .int .i64 0, .string ⟨#[]⟩] 38 (0, 0)) (.cells #[.int .i64 0, .int .i64 0, .string ⟨#[]⟩] 38 (0, 0)))
  clear hR hrg hel e0 IHp IHq hyp hyq hat hprg hpl hbl hat' hprg' hpl' hbl'
  go_enter Try.func103, Try.ntmps103
  go_upto_region 1 with (fail)
  generalize (((w.alloc (.cells #[.int .i64 4, .string op, .int .i64 0, .int .i64 0, .string ⟨#[]⟩, .int .i64 0, .int .i64 0, .slice (some ⟨b, off, none⟩) 2 sc] 46)).alloc (.cells #[.int .i64 0, .int .i64 0, .string ⟨#[]⟩] 38)).alloc (.cells #[.int .i64 0, .int .i64 0, .string ⟨#[]⟩] 38)) = w1 at *
  have HC := Lib.hid (show ∀ W : World, Below w1.heap.size w1 W → W.heap[w.heap.size]? = some (.cells #[.int .i64 4, .string op, .int .i64 0, .int .i64 0, .string ⟨#[]⟩, .int .i64 0, .int .i64 0, .slice (some ⟨b, off, none⟩) 2 sc] 46 (0, 0)) ∧ W.heap[w.heap.size + 1]? = some (.cells #[.int .i64 0, .int .i64 0, .string ⟨#[]⟩] 38 (0, 0)) ∧ W.heap[w.heap.size + 1 + 1]? = some (.cells #[.int .i64 0, .int .i64 0, .string ⟨#[]⟩] 38 (0, 0)) ∧ w.heap.size + 1 + 1 < W.heap.size from fun W h => by
    obtain ⟨⟨h0, h1, h2⟩, hz⟩ := HBX.out
    have k0 := (h.block (w.heap.size) (by omega)).trans h0
    have k1 := (h.block (w.heap.size + 1) (by omega)).trans h1
    have k2 := (h.block (w.heap.size + 1 + 1) (by omega)).trans h2
    exact ⟨k0, k1, k2, (Array.getElem?_eq_some_iff.1 k2).1⟩)
  obtain ⟨hE, -, -, cN⟩ := HC.out w1 (Below.refl _ _)
  obtain ⟨e0, e1, e2, e3, e4, e5, e6, e7⟩ := cellsE hE
  clear hE
  have cE : w.heap.size < w1.heap.size := by omega
  go_wp2_with fail
  refine (parts_any (.mk 4 op 0 0 ⟨#[]⟩ 0 0 [p, q]) 2 _ Q _ (HCv.out _ (bt HB.out (Below.refl w1.heap.size w1)))).mono ?_
  rintro e' wp ⟨rfl, hbp⟩
  rw [show decide (((.mk 4 op 0 0 ⟨#[]⟩ 0 0 [p, q]) : CT).parts.length = 2) = true from rfl]
  have HBp := Lib.hid (bt (Below.refl w1.heap.size w1) hbp)
  clear hbp
  clear e0 e1 e2 e3 e4 e5 e6 e7 cN cE
  obtain ⟨hE, -, -, cN⟩ := HC.out wp HBp.out
  obtain ⟨e0, e1, e2, e3, e4, e5, e6, e7⟩ := cellsE hE
  clear hE
  have cE : w.heap.size < wp.heap.size := by omega
  obtain ⟨a0, a1, a2, a3, a4, a5, a6, a7⟩ := HAtp.out wp (bt HB.out HBp.out)
  have hbw : b < wp.heap.size := Nat.lt_of_lt_of_le HBl.out (bt HB.out HBp.out).size
  have HBwp := Lib.hid (bt HB.out HBp.out)
  go_wp2_with fail
  refine (HIHp.out _ a len cap Q _ (HR.out.below HBwp.out) (HCvp.out _ HBwp.out)).mono ?_
  rintro e' w3 ⟨rfl, hb3⟩
  rw [← HYp.out]
  have HB3 := Lib.hid (bt HBp.out hb3)
  clear hb3
  clear e0 e1 e2 e3 e4 e5 e6 e7 cN cE
  clear a0 a1 a2 a3 a4 a5 a6 a7 hbw
  go_upto_region 4 with (fail)
  have HNw4 := Lib.hid (Go.heap_alloc_new w3 (.cells #[.int .i64 yp.1.1, .int .i64 yp.1.2.1, .string yp.1.2.2] 38 (0, 0)))
  have HBnw4 := Lib.hid (show Below w3.heap.size w3 (w3.alloc (.cells #[.int .i64 yp.1.1, .int .i64 yp.1.2.1, .string yp.1.2.2] 38)) from bel0 _ (Below.refl _ _))
  generalize (w3.alloc (.cells #[.int .i64 yp.1.1, .int .i64 yp.1.2.1, .string yp.1.2.2] 38)) = w4 at *
  have HBiw4 := Lib.hid (bt HB3.out HBnw4.out)
  have HBw4 := Lib.hid (bt HB.out HBiw4.out)
  by_cases hz : yp.2.2 = 0
  rotate_left
  · have hne : (yp.2.2 != 0) = true := by simp [hz]
    have HQ := Lib.hid (show boV (askV R p) (askV R q) = (noV, noV, yp.2.2) by rw [← HYp.out]; unfold boV; rw [if_pos hz])
    obtain ⟨-, hX, hY, cN⟩ := HC.out w4 HBiw4.out
    have HX9 := Lib.hid (two3 (show w.heap.size + 1 + 1 ≠ w.heap.size + 1 by omega) hX hY (.int .i64 0) (.int .i64 0) (.string ⟨#[]⟩) (.int .i64 0) (.int .i64 0) (.string ⟨#[]⟩))
    have HB9 := Lib.hid (v3_below (K := w.heap.size) (N := w.heap.size + 1 + 1) (by omega) (v3_below (K := w.heap.size) (N := w.heap.size + 1) (by omega) HBw4.out (.int .i64 0) (.int .i64 0) (.string ⟨#[]⟩)) (.int .i64 0) (.int .i64 0) (.string ⟨#[]⟩))
    obtain ⟨p0, p1, p2, p3, p4, p5, p6⟩ := v3 hX
    obtain ⟨r0, r1, r2, r3, r4, r5, r6⟩ := v3 hY
    clear hX hY
    go_wp2
    refine bodyPost_ret (results_v22 rfl _ _ (w.heap.size + 1) (w.heap.size + 1 + 1) _ _ _ _ _ _ rfl rfl HX9.out.1 HX9.out.2) rfl ?_
    rw [HQ.out]
    exact ⟨rfl, HB9.out⟩
  obtain ⟨hE, -, -, cN⟩ := HC.out w4 HBiw4.out
  obtain ⟨e0, e1, e2, e3, e4, e5, e6, e7⟩ := cellsE hE
  clear hE
  have cE : w.heap.size < w4.heap.size := by omega
  obtain ⟨a0, a1, a2, a3, a4, a5, a6, a7⟩ := HAtq.out w4 (bt HB.out HBiw4.out)
  have hbw : b < w4.heap.size := Nat.lt_of_lt_of_le HBl.out (bt HB.out HBiw4.out).size
  go_wp2_with fail
  refine (HIHq.out _ a len cap Q _ (HR.out.below HBw4.out) (HCvq.out _ HBw4.out)).mono ?_
  rintro e' w5 ⟨rfl, hb5⟩
  rw [← HYq.out]
  have HB45 := Lib.hid (show Below w4.heap.size w4 w5 from hb5)
  have HB5 := Lib.hid (bt HBiw4.out hb5)
  clear hb5
  clear e0 e1 e2 e3 e4 e5 e6 e7 cN cE
  clear a0 a1 a2 a3 a4 a5 a6 a7 hbw
  go_upto_region 7 with (fail)
  have HNw6 := Lib.hid (Go.heap_alloc_new w5 (.cells #[.int .i64 yq.1.1, .int .i64 yq.1.2.1, .string yq.1.2.2] 38 (0, 0)))
  have HBnw6 := Lib.hid (show Below w5.heap.size w5 (w5.alloc (.cells #[.int .i64 yq.1.1, .int .i64 yq.1.2.1, .string yq.1.2.2] 38)) from bel0 _ (Below.refl _ _))
  generalize (w5.alloc (.cells #[.int .i64 yq.1.1, .int .i64 yq.1.2.1, .string yq.1.2.2] 38)) = w6 at *
  have HBiw6 := Lib.hid (bt HB5.out HBnw6.out)
  have HBw6 := Lib.hid (bt HB.out HBiw6.out)
  have HN4b := Lib.hid (((bt HB45.out HBnw6.out).block _ (Array.getElem?_eq_some_iff.1 HNw4.out).1).trans HNw4.out)
  obtain ⟨n0, n1, n2, -, -, -, n6⟩ := v3 HN4b.out
  obtain ⟨m0, m1, m2, -, -, -, m6⟩ := v3 HNw6.out
  have hl3 : w.heap.size + 1 + 1 < w3.heap.size := (HC.out w3 HB3.out).2.2.2
  have hl5 : w.heap.size + 1 + 1 < w5.heap.size := (HC.out w5 HB5.out).2.2.2
  have g1 : w.heap.size + 1 ≠ w3.heap.size := by omega
  have g2 : w.heap.size + 1 ≠ w5.heap.size := by omega
  have g3 : w3.heap.size ≠ w.heap.size + 1 := by omega
  have g4 : w5.heap.size ≠ w.heap.size + 1 := by omega
  clear hl3 hl5
  have HQ := Lib.hid (show boV (askV R p) (askV R q) = (yp.1, yq.1, yq.2.2) by rw [← HYp.out, ← HYq.out]; unfold boV; rw [if_neg (fun h => h hz)])
  obtain ⟨-, hX, hY, cN⟩ := HC.out w6 (bt HB5.out HBnw6.out)
  obtain ⟨s0, s1, s2, s3, s4, s5, s6⟩ := v3 hX
  obtain ⟨t0, t1, t2, t3, t4, t5, t6⟩ := v3 hY
  have HXd := Lib.hid hX
  have HYd := Lib.hid hY
  have HBx7 := Lib.hid (show Below w1.heap.size w1 w6 from (bt HB5.out HBnw6.out))
  clear hX hY
  go_region
  have HT9 := Lib.hid (two3 (show w.heap.size + 1 + 1 ≠ w.heap.size + 1 by omega) HXd.out HYd.out (.int .i64 yp.1.1) (.int .i64 yp.1.2.1) (.string yp.1.2.2) (.int .i64 yq.1.1) (.int .i64 yq.1.2.1) (.string yq.1.2.2))
  have HX9 := Lib.hid (show ((((((w6.setCell ⟨w.heap.size + 1, 0, none⟩ (.int .i64 yp.1.1)).setCell ⟨w.heap.size + 1, 1, none⟩ (.int .i64 yp.1.2.1)).setCell ⟨w.heap.size + 1, 2, none⟩ (.string yp.1.2.2)).setCell ⟨w.heap.size + 1 + 1, 0, none⟩ (.int .i64 yq.1.1)).setCell ⟨w.heap.size + 1 + 1, 1, none⟩ (.int .i64 yq.1.2.1)).setCell ⟨w.heap.size + 1 + 1, 2, none⟩ (.string yq.1.2.2)).drew.heap[w.heap.size + 1]? = some (.cells #[.int .i64 yp.1.1, .int .i64 yp.1.2.1, .string yp.1.2.2] 38 (0, 0)) ∧ ((((((w6.setCell ⟨w.heap.size + 1, 0, none⟩ (.int .i64 yp.1.1)).setCell ⟨w.heap.size + 1, 1, none⟩ (.int .i64 yp.1.2.1)).setCell ⟨w.heap.size + 1, 2, none⟩ (.string yp.1.2.2)).setCell ⟨w.heap.size + 1 + 1, 0, none⟩ (.int .i64 yq.1.1)).setCell ⟨w.heap.size + 1 + 1, 1, none⟩ (.int .i64 yq.1.2.1)).setCell ⟨w.heap.size + 1 + 1, 2, none⟩ (.string yq.1.2.2)).drew.heap[w.heap.size + 1 + 1]? = some (.cells #[.int .i64 yq.1.1, .int .i64 yq.1.2.1, .string yq.1.2.2] 38 (0, 0)) from ⟨(drew_at _ _).trans HT9.out.1, (drew_at _ _).trans HT9.out.2⟩)
  have HB9 := Lib.hid (show Below w.heap.size w ((((((w6.setCell ⟨w.heap.size + 1, 0, none⟩ (.int .i64 yp.1.1)).setCell ⟨w.heap.size + 1, 1, none⟩ (.int .i64 yp.1.2.1)).setCell ⟨w.heap.size + 1, 2, none⟩ (.string yp.1.2.2)).setCell ⟨w.heap.size + 1 + 1, 0, none⟩ (.int .i64 yq.1.1)).setCell ⟨w.heap.size + 1 + 1, 1, none⟩ (.int .i64 yq.1.2.1)).setCell ⟨w.heap.size + 1 + 1, 2, none⟩ (.string yq.1.2.2)).drew from (v3_below (K := w.heap.size) (N := w.heap.size + 1 + 1) (by omega) (v3_below (K := w.heap.size) (N := w.heap.size + 1) (by omega) (bt HB.out HBx7.out) (.int .i64 yp.1.1) (.int .i64 yp.1.2.1) (.string yp.1.2.2)) (.int .i64 yq.1.1) (.int .i64 yq.1.2.1) (.string yq.1.2.2)).drew)
  go_wp2_with fail
  refine bodyPost_ret (results_v22 rfl _ _ (w.heap.size + 1) (w.heap.size + 1 + 1) _ _ _ _ _ _ rfl rfl HX9.out.1 HX9.out.2) rfl ?_
  rw [HQ.out]
  exact ⟨rfl, HB9.out⟩
end Go.Proofs.Ytafhgilikcablaa
