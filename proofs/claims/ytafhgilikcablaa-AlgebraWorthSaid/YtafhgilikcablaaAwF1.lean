/- What a cell is worth, the program's: IS NULL. Written by genaw.py. -/
import Derived.Test.YtafhgilikcablaaAwD
import Derived.Test.YtafhgilikcablaaSvFp
namespace Go.Proofs.Ytafhgilikcablaa
open Go.RowKit
set_option linter.unusedVariables false
set_option linter.unusedSimpArgs false
set_option maxRecDepth 100000
theorem results_v2 {fn : Func} {p u : Tmp} (h : fn.results = #[.cell p 38, .tmp u]) (tmps : Array Value) (w : World) (g : Nat) (x y z : Value)
    (hp : tmps.getD p undef = .pointer (some ⟨g, 0, none⟩)) (hg : w.heap[g]? = some (.cells #[x, y, z] 38 (0, 0))) :
    (results fn tmps).run Try.prog w = .ok (.tuple #[.agg #[x, y, z], tmps.getD u undef]) w := by
  have hp' : tmps[p]?.getD undef = .pointer (some ⟨g, 0, none⟩) := by simpa using hp
  have hl := run_loadVar_row (P := Try.prog) w g 38 38 #[x, y, z] (0, 0) _ hg Try.underlying38 rfl (by
    have : (Try.prog.info? 38).map (·.size) = some 3 := by kernel_rfl
    exact this)
  simp [results, h, hp', asAddr, hl]
theorem argF_rec (op : ByteArray) (a b : Val) : argF (recV op a b) 0 (recX op a b) = (recV op a b, 0, unfE (recX op a b)) := by
  unfold argF
  by_cases h : unfE (recX op a b) = 0
  · rw [if_neg (fun hn => hn h), h]
  · rw [if_pos h]
    have : recV op a b = noV := by
      unfold recX recF unfE at h
      unfold recV recF
      split
      · rfl
      · rename_i h1
        rw [if_neg h1] at h
        split
        · rfl
        · rename_i h2
          rw [if_neg h2] at h
          split
          · rfl
          · rename_i h3
            rw [if_neg h3] at h
            split
            · rename_i h4
              rw [if_pos h4] at h
              exact absurd rfl h
            · rfl
    rw [this]
theorem argF_cmp (op : ByteArray) (a b : Val) : argF noV (cmpV op a b).1 (cmpV op a b).2 = (noV, (cmpV op a b).1, unfE (cmpV op a b).2) := by
  unfold argF
  by_cases h : unfE (cmpV op a b).2 = 0
  · rw [if_neg (fun hn => hn h), h]
  · rw [if_pos h]
    have : (cmpV op a b).1 = 0 := by
      unfold cmpV cmpF unfE at h
      unfold cmpV cmpF
      split
      · rfl
      · rename_i h1
        rw [if_neg h1] at h
        split
        · rename_i h2
          rw [if_pos h2] at h
          exact absurd rfl h
        · rename_i h2
          rw [if_neg h2] at h
          split
          · rename_i h3
            rw [if_pos h3] at h
            exact absurd rfl h
          · rfl
    rw [this]
/-- a cell that is a truth -/
def truB (c : CT) : Bool := (c.kind == 5) || (((c.kind == 3) || (c.kind == 4)) && !reckP c.kind c.op)
theorem lit_kind {k n : Int} {s : ByteArray} (h : formedB k n s = true) : k ≠ 3 := by
  unfold formedB at h
  have h := of_decide_eq_true h
  rcases h with h | h | h <;> omega
theorem wk_tru {c : CT} {k : Int} (h : Wk c k) : truB c = (k == 3) := by
  cases h with
  | lit vk vn vs hf hn => have := lit_kind hf; simp [truB, CT.kind, this]
  | col s c k hk => have : k ≠ 3 := by omega
                    simp [truB, CT.kind, this]
  | not op p ho hp => simp [truB, CT.kind, CT.op, reckP, ho]
  | neg op p k ho hk hp => simp [truB, CT.kind, CT.op, reckP, ho]
  | test op p k ho hk hp => simp [truB, CT.kind]
  | reck op p q k l ho hk hl hp hq => rcases ho with ho | ho | ho <;> simp [truB, CT.kind, CT.op, reckP, ho]
  | and op p q ho hp hq => simp [truB, CT.kind, CT.op, reckP, ho]
  | or op p q ho hp hq => simp [truB, CT.kind, CT.op, reckP, ho]
  | cmp op p q k l ho hk hl hp hq => rcases ho with ho | ho | ho | ho | ho | ho <;> simp [truB, CT.kind, CT.op, reckP, ho]
set_option maxHeartbeats 3200000 in
theorem truthful_any (c : CT) (w : World) (Q : Nat → Prop) (v : Value) (hv : CV w Q v c) : Calls Try.prog 68 #[v] w fun e w' => e = .returned (.bool (truB c)) ∧ Below w.heap.size w w' := by
  obtain ⟨sa, sc, rfl, hrg, hel⟩ := hv
  have e0 : (ctX c sa sc).toArray = #[.int .i64 c.kind, .string c.op, .int .i64 c.vk, .int .i64 c.vn, .string c.vs, .int .i64 c.src, .int .i64 c.col, .slice sa c.parts.length sc] := rfl
  rw [e0]
  have HB := Lib.hid (bel0 (.cells #[.int .i64 c.kind, .string c.op, .int .i64 c.vk, .int .i64 c.vn, .string c.vs, .int .i64 c.src, .int .i64 c.col, .slice sa c.parts.length sc] 46) (Below.refl w.heap.size w))
  have HX := Lib.hid (Go.heap_alloc_new w (.cells #[.int .i64 c.kind, .string c.op, .int .i64 c.vk, .int .i64 c.vn, .string c.vs, .int .i64 c.src, .int .i64 c.col, .slice sa c.parts.length sc] 46 (0, 0)))
  have hs : w.heap.size < (w.alloc (.cells #[.int .i64 c.kind, .string c.op, .int .i64 c.vk, .int .i64 c.vn, .string c.vs, .int .i64 c.src, .int .i64 c.col, .slice sa c.parts.length sc] 46)).heap.size := by simp
  clear hrg hel e0
  unfold truB
  go_enter Try.func68, Try.ntmps68
  go_upto_region 1 with (fail)
  generalize (w.alloc (.cells #[.int .i64 c.kind, .string c.op, .int .i64 c.vk, .int .i64 c.vn, .string c.vs, .int .i64 c.src, .int .i64 c.col, .slice sa c.parts.length sc] 46)) = w1 at *
  obtain ⟨e0, e1, e2, e3, e4, e5, e6, e7⟩ := cellsE HX.out
  go_wp2_with (go_at_call 65; refine (reckonsP_any _ _ _).mono ?_; rintro e' w2 ⟨rfl, hw2⟩; obtain rfl := hw2.symm)
  all_goals
    go_ret
    exact ⟨by simp [*], HB.out⟩
set_option maxHeartbeats 3200000 in
theorem parts_any (c : CT) (n : Nat) (w : World) (Q : Nat → Prop) (v : Value) (hv : CV w Q v c) : Calls Try.prog 101 #[v, .int .i64 (n : Int)] w fun e w' => e = .returned (.bool (decide (c.parts.length = n))) ∧ Below w.heap.size w w' := by
  obtain ⟨sa, sc, rfl, hrg, hel⟩ := hv
  have e0 : (ctX c sa sc).toArray = #[.int .i64 c.kind, .string c.op, .int .i64 c.vk, .int .i64 c.vn, .string c.vs, .int .i64 c.src, .int .i64 c.col, .slice sa c.parts.length sc] := rfl
  rw [e0]
  have hlen : c.parts.length ≤ 9223372036854775807 := by have := hrg.le; have := hrg.cap; unfold maxLen at this; omega
  obtain ⟨m, hm⟩ : ∃ m, m = c.parts.length := ⟨_, rfl⟩
  rw [← hm] at hlen ⊢
  have HB := Lib.hid (bel0 (.cells #[.int .i64 c.kind, .string c.op, .int .i64 c.vk, .int .i64 c.vn, .string c.vs, .int .i64 c.src, .int .i64 c.col, .slice sa m sc] 46) (Below.refl w.heap.size w))
  have HX := Lib.hid (Go.heap_alloc_new w (.cells #[.int .i64 c.kind, .string c.op, .int .i64 c.vk, .int .i64 c.vn, .string c.vs, .int .i64 c.src, .int .i64 c.col, .slice sa m sc] 46 (0, 0)))
  have hs : w.heap.size < (w.alloc (.cells #[.int .i64 c.kind, .string c.op, .int .i64 c.vk, .int .i64 c.vn, .string c.vs, .int .i64 c.src, .int .i64 c.col, .slice sa m sc] 46)).heap.size := by simp
  have hmn : ((m : Int) == (n : Int)) = decide (m = n) := by rw [Bool.eq_iff_iff]; simp; omega
  clear hrg hel e0 hm
  go_enter Try.func101, Try.ntmps101
  go_upto_region 1 with (fail)
  generalize (w.alloc (.cells #[.int .i64 c.kind, .string c.op, .int .i64 c.vk, .int .i64 c.vn, .string c.vs, .int .i64 c.src, .int .i64 c.col, .slice sa m sc] 46)) = w1 at *
  obtain ⟨e0, e1, e2, e3, e4, e5, e6, e7⟩ := cellsE HX.out
  go_wp2
  all_goals
    go_ret
    exact ⟨by first | rfl | (simp [*]; done) | (simp; omega), HB.out⟩
theorem unfit_any (e : Int) (w : World) : Calls Try.prog 104 #[.int .i64 e] w fun x w' => x = .returned (.int .i64 (unfE e)) ∧ w' = w := by
  unfold unfE
  go_enter Try.func104, Try.ntmps104
  by_cases h : e = 7
  · subst h
    go_wp2
    go_ret
    exact ⟨rfl, rfl⟩
  · go_wp2
    go_ret
    exact ⟨by first | rfl | rw [if_neg h], rfl⟩
def Val2 (w : World) (y : Val) (x : Int) (e : Ending) (w' : World) : Prop := e = .returned (.tuple #[.agg #[.int .i64 y.1, .int .i64 y.2.1, .string y.2.2], .int .i64 x]) ∧ Below w.heap.size w w'
def fmV (v : Val) : Val := if formedV v = true then v else noV
def fmX (v : Val) : Int := if formedV v = true then 0 else 1
set_option maxHeartbeats 3200000 in
theorem pformed_v (v : Val) (w : World) : Calls Try.prog 105 #[.agg #[.int .i64 v.1, .int .i64 v.2.1, .string v.2.2]] w (Val2 w (fmV v) (fmX v)) := by
  have HB := Lib.hid (bel0 (.cells #[.int .i64 0, .int .i64 0, .string ⟨#[]⟩] 38) (bel0 (.cells #[.int .i64 v.1, .int .i64 v.2.1, .string v.2.2] 38) (Below.refl w.heap.size w)))
  have HBX := Lib.hid (boxes2 w (.cells #[.int .i64 v.1, .int .i64 v.2.1, .string v.2.2] 38 (0, 0)) (.cells #[.int .i64 0, .int .i64 0, .string ⟨#[]⟩] 38 (0, 0)))
  go_enter Try.func105, Try.ntmps105
  go_upto_region 1 with (fail)
  generalize ((w.alloc (.cells #[.int .i64 v.1, .int .i64 v.2.1, .string v.2.2] 38)).alloc (.cells #[.int .i64 0, .int .i64 0, .string ⟨#[]⟩] 38)) = w1 at *
  obtain ⟨⟨h0, h1⟩, hz⟩ := HBX.out
  have H0 := Lib.hid h0
  have H1 := Lib.hid h1
  have HZ := Lib.hid hz
  obtain ⟨a0, a1, a2, a3, a4, a5, a6⟩ := v3 h0
  clear h0 h1 hz HBX
  go_wp2_with fail
  refine (formed_any v.1 v.2.1 v.2.2 _).mono ?_
  rintro e' w2 ⟨rfl, hw2⟩
  have HB2 := Lib.hid (show Below w1.heap.size w1 w2 by rw [← hw2]; exact bel0 _ (Below.refl _ _))
  have HBw := Lib.hid (bt HB.out HB2.out)
  clear hw2 a0 a1 a2 a3 a4 a5 a6
  have hX := (HB2.out.block (w.heap.size + 1) (by have := HZ.out; omega)).trans H1.out
  have hV := (HB2.out.block w.heap.size (by have := HZ.out; omega)).trans H0.out
  obtain ⟨a0, a1, a2, a3, a4, a5, a6⟩ := v3 hV
  have HX0 := Lib.hid (vbox3 hX (.int .i64 0) (.int .i64 0) (.string ⟨#[]⟩))
  have HX1 := Lib.hid (vbox3 hX (.int .i64 v.1) (.int .i64 v.2.1) (.string v.2.2))
  have HB0 := Lib.hid (v3_below (K := w.heap.size) (N := w.heap.size + 1) (by omega) HBw.out (.int .i64 0) (.int .i64 0) (.string ⟨#[]⟩))
  have HB1 := Lib.hid (v3_below (K := w.heap.size) (N := w.heap.size + 1) (by omega) HBw.out (.int .i64 v.1) (.int .i64 v.2.1) (.string v.2.2))
  obtain ⟨b0, b1, b2, b3, b4, b5, b6⟩ := v3 hX
  clear hX hV
  cases hf : formedB v.1 v.2.1 v.2.2 with
  | false =>
    have HQ := Lib.hid (show fmV v = noV ∧ fmX v = 1 by unfold fmV fmX formedV; rw [hf]; exact ⟨rfl, rfl⟩)
    go_wp2
    refine bodyPost_ret (results_v2 rfl _ _ (w.heap.size + 1) _ _ _ rfl HX0.out) rfl ?_
    rw [HQ.out.1, HQ.out.2]
    exact ⟨rfl, HB0.out⟩
  | true =>
    have HQ := Lib.hid (show fmV v = v ∧ fmX v = 0 by unfold fmV fmX formedV; rw [hf]; exact ⟨rfl, rfl⟩)
    go_wp2
    refine bodyPost_ret (results_v2 rfl _ _ (w.heap.size + 1) _ _ _ rfl HX1.out) rfl ?_
    rw [HQ.out.1, HQ.out.2]
    exact ⟨rfl, HB1.out⟩
set_option maxHeartbeats 3200000 in
theorem reckoned_any (op : ByteArray) (a b : Val) (ha : InR a.2.1) (hb : InR b.2.1) (w : World) : Calls Try.prog 107 #[.string op, .agg #[.int .i64 a.1, .int .i64 a.2.1, .string a.2.2], .agg #[.int .i64 b.1, .int .i64 b.2.1, .string b.2.2]] w (Val2 w (recV op a b) (unfE (recX op a b))) := by
  have HIa := Lib.hid ha
  have HIb := Lib.hid hb
  have HB := Lib.hid (bel0 (.cells #[.int .i64 0, .int .i64 0, .string ⟨#[]⟩] 38) (bel0 (.cells #[.int .i64 b.1, .int .i64 b.2.1, .string b.2.2] 38) (bel0 (.cells #[.int .i64 a.1, .int .i64 a.2.1, .string a.2.2] 38) (Below.refl w.heap.size w))))
  have HBX := Lib.hid (boxes3 w (.cells #[.int .i64 a.1, .int .i64 a.2.1, .string a.2.2] 38 (0, 0)) (.cells #[.int .i64 b.1, .int .i64 b.2.1, .string b.2.2] 38 (0, 0)) (.cells #[.int .i64 0, .int .i64 0, .string ⟨#[]⟩] 38 (0, 0)))
  obtain ⟨rk, rn, re, hre⟩ : ∃ k n e, recF op a.1 a.2.1 a.2.2 b.1 b.2.1 b.2.2 = (k, n, e) := ⟨_, _, _, rfl⟩
  have HRe := Lib.hid hre
  have HQ := Lib.hid (show recV op a b = (rk, rn, ⟨#[]⟩) ∧ recX op a b = re by unfold recV recX; rw [hre]; exact ⟨rfl, rfl⟩)
  clear ha hb hre
  go_enter Try.func107, Try.ntmps107
  go_upto_region 1 with (fail)
  generalize (((w.alloc (.cells #[.int .i64 a.1, .int .i64 a.2.1, .string a.2.2] 38)).alloc (.cells #[.int .i64 b.1, .int .i64 b.2.1, .string b.2.2] 38)).alloc (.cells #[.int .i64 0, .int .i64 0, .string ⟨#[]⟩] 38)) = w1 at *
  obtain ⟨⟨h0, h1, h2⟩, hz⟩ := HBX.out
  have H2 := Lib.hid h2
  have HZ := Lib.hid hz
  obtain ⟨a0, a1, a2, a3, a4, a5, a6⟩ := v3 h0
  obtain ⟨b0, b1, b2, b3, b4, b5, b6⟩ := v3 h1
  clear h0 h1 h2 hz HBX
  go_wp2_with fail
  refine (rec24_any op a.1 a.2.1 a.2.2 b.1 b.2.1 b.2.2 HIa HIb rk rn re HRe.out _).mono ?_
  rintro e' w2 ⟨rfl, hb2⟩
  have HB2 := Lib.hid (show Below w1.heap.size w1 w2 from hb2)
  clear hb2 a0 a1 a2 a3 a4 a5 a6 b0 b1 b2 b3 b4 b5 b6
  unfold recE
  go_upto_region 2 with (fail)
  have HN8 := Lib.hid (Go.heap_alloc_new w2 (.cells #[.int .i64 rk, .int .i64 rn, .string ⟨#[]⟩] 38 (0, 0)))
  have HB23 := Lib.hid (show Below w2.heap.size w2 (w2.alloc (.cells #[.int .i64 rk, .int .i64 rn, .string ⟨#[]⟩] 38)) from bel0 _ (Below.refl _ _))
  generalize (w2.alloc (.cells #[.int .i64 rk, .int .i64 rn, .string ⟨#[]⟩] 38)) = w3 at *
  obtain ⟨n0, n1, n2, -, -, -, n6⟩ := v3 HN8.out
  have j0 := Fut.cell n0
  have j1 := Fut.cell n1
  have j2 := Fut.cell n2
  clear n0 n1 n2
  refine wp_region_fut_tail 3 (by kernel_rfl) (by kernel_rfl) ?_
  simp only [List.take_succ_cons, List.take_zero, List.drop_succ_cons, List.drop_zero]
  repeat (go_big_quiet_step ((go_at_call 104; exact calls_fut ((unfit_any _ _).mono (fun _ _ ⟨h1, h2⟩ => ⟨h1, h2 ▸ Below.refl _ _⟩)))))
  refine wpQuiet_nil ?_
  intro s
  have hb4 := s.bel
  generalize s.to = w4 at *
  clear s j0 j1 j2
  have HB14 := Lib.hid (bt HB2.out (bt HB23.out hb4))
  have HBw := Lib.hid (bt HB.out HB14.out)
  have hX := (HB14.out.block (w.heap.size + 1 + 1) (by have := HZ.out; omega)).trans H2.out
  have HX1 := Lib.hid (vbox3 hX (.int .i64 rk) (.int .i64 rn) (.string ⟨#[]⟩))
  have HB1 := Lib.hid (v3_below (K := w.heap.size) (N := w.heap.size + 1 + 1) (by omega) HBw.out (.int .i64 rk) (.int .i64 rn) (.string ⟨#[]⟩))
  obtain ⟨b0, b1, b2, b3, b4, b5, b6⟩ := v3 hX
  clear hX hb4
  go_wp2
  refine bodyPost_ret (results_v2 rfl _ _ (w.heap.size + 1 + 1) _ _ _ rfl HX1.out) rfl ?_
  rw [HQ.out.1, HQ.out.2]
  exact ⟨rfl, HB1.out⟩
end Go.Proofs.Ytafhgilikcablaa
namespace Go.Proofs.Ytafhgilikcablaa
open Go.RowKit
set_option linter.unusedVariables false
set_option linter.unusedSimpArgs false
set_option maxRecDepth 100000
def ValI (R : List (List Val)) (c : CT) : Prop := ∀ (w : World) (a : Option Addr) (len cap : Nat) (Q : Nat → Prop) (v : Value), IsRR w a len R → CV w Q v c → Calls Try.prog 70 #[v, .slice a len cap] w (Val2 w (askV R c).1 (askV R c).2.2)
def Tru2 (w : World) (t x : Int) (e : Ending) (w' : World) : Prop := e = .returned (.tuple #[.int .i64 t, .int .i64 x]) ∧ Below w.heap.size w w'
def TruI (R : List (List Val)) (c : CT) : Prop := ∀ (w : World) (a : Option Addr) (len cap : Nat) (Q : Nat → Prop) (v : Value), IsRR w a len R → CV w Q v c → Calls Try.prog 69 #[v, .slice a len cap] w (Tru2 w (askV R c).2.1 (askV R c).2.2)
set_option maxHeartbeats 12800000 in
theorem testOf_any (R : List (List Val)) (op : ByteArray) (p : CT) (ho : op.toList = [73, 83, 32, 78, 85, 76, 76] ∨ op.toList = [73, 83, 32, 78, 79, 84, 32, 78, 85, 76, 76]) (IHp : ValI R p) (w : World) (a : Option Addr) (len cap : Nat) (Q : Nat → Prop) (v : Value) (hR : IsRR w a len R) (hv : CV w Q v (.mk 5 op 0 0 ⟨#[]⟩ 0 0 [p])) :
    Calls Try.prog 100 #[v, .slice a len cap] w (Tru2 w (askV R (.mk 5 op 0 0 ⟨#[]⟩ 0 0 [p])).2.1 (askV R (.mk 5 op 0 0 ⟨#[]⟩ 0 0 [p])).2.2) := by
  obtain ⟨sa, sc, rfl, hrg, hel⟩ := hv
  have HRg := Lib.hid hrg
  have HEl := Lib.hid hel
  obtain ⟨b, off, pa, pc, hsa, hbl, hat, hprg, hpl⟩ := hel.at (i := 0) (by simp [CT.parts])
  subst hsa
  have hat : CAt w b (off + 0 * 8) p pa pc := hat
  have hprg : CRg p pa pc := hprg
  have hpl : CL w Q pa p.parts := hpl
  rw [show off + 0 * 8 = off from rfl] at hat
  have HCvp := Lib.hid (show ∀ W, Below w.heap.size w W → CV W Q (.agg #[.int .i64 p.kind, .string p.op, .int .i64 p.vk, .int .i64 p.vn, .string p.vs, .int .i64 p.src, .int .i64 p.col, .slice pa p.parts.length pc]) p from fun W hW => ⟨pa, pc, rfl, hprg, hpl.keep hW⟩)
  have HAtp := Lib.hid (show ∀ W, Below w.heap.size w W → CAt W b (off) p pa pc from fun W hW => hat.below hbl hW)
  have HIHp := Lib.hid IHp
  have HBl := Lib.hid hbl
  have HR := Lib.hid hR
  have HCv := Lib.hid (show ∀ W, Below w.heap.size w W → CV W Q (.agg #[.int .i64 5, .string op, .int .i64 0, .int .i64 0, .string ⟨#[]⟩, .int .i64 0, .int .i64 0, .slice (some ⟨b, off, none⟩) 1 sc]) (.mk 5 op 0 0 ⟨#[]⟩ 0 0 [p]) from fun W hW => ⟨_, sc, rfl, HRg.out, HEl.out.keep hW⟩)
  have e0 : (ctX (.mk 5 op 0 0 ⟨#[]⟩ 0 0 [p]) (some ⟨b, off, none⟩) sc).toArray = #[.int .i64 5, .string op, .int .i64 0, .int .i64 0, .string ⟨#[]⟩, .int .i64 0, .int .i64 0, .slice (some ⟨b, off, none⟩) 1 sc] := rfl
  rw [e0]
  obtain ⟨yp, hyp⟩ : ∃ y, y = askV R p := ⟨_, rfl⟩
  have HYp := Lib.hid hyp
  have HAq := Lib.hid (show askV R (.mk 5 op 0 0 ⟨#[]⟩ 0 0 [p]) = askH R 5 op (0, 0, ⟨#[]⟩) 0 0 [yp] by rw [hyp]; rfl)
  have HB := Lib.hid (bel0 (.cells #[.int .i64 5, .string op, .int .i64 0, .int .i64 0, .string ⟨#[]⟩, .int .i64 0, .int .i64 0, .slice (some ⟨b, off, none⟩) 1 sc] 46) (Below.refl w.heap.size w))
  have HBX := Lib.hid (show (w.alloc (.cells #[.int .i64 5, .string op, .int .i64 0, .int .i64 0, .string ⟨#[]⟩, .int .i64 0, .int .i64 0, .slice (some ⟨b, off, none⟩) 1 sc] 46)).heap[w.heap.size]? = some (.cells #[.int .i64 5, .string op, .int .i64 0, .int .i64 0, .string ⟨#[]⟩, .int .i64 0, .int .i64 0, .slice (some ⟨b, off, none⟩) 1 sc] 46 (0, 0)) ∧ (w.alloc (.cells #[.int .i64 5, .string op, .int .i64 0, .int .i64 0, .string ⟨#[]⟩, .int .i64 0, .int .i64 0, .slice (some ⟨b, off, none⟩) 1 sc] 46)).heap.size = w.heap.size + 1 from ⟨Go.heap_alloc_new w _, by simp⟩)
  clear hR hrg hel e0 IHp hyp hat hprg hpl hbl
  go_enter Try.func100, Try.ntmps100
  go_upto_region 1 with (fail)
  generalize (w.alloc (.cells #[.int .i64 5, .string op, .int .i64 0, .int .i64 0, .string ⟨#[]⟩, .int .i64 0, .int .i64 0, .slice (some ⟨b, off, none⟩) 1 sc] 46)) = w1 at *
  have HC := Lib.hid (show ∀ W : World, Below w1.heap.size w1 W → W.heap[w.heap.size]? = some (.cells #[.int .i64 5, .string op, .int .i64 0, .int .i64 0, .string ⟨#[]⟩, .int .i64 0, .int .i64 0, .slice (some ⟨b, off, none⟩) 1 sc] 46 (0, 0)) ∧ w.heap.size < W.heap.size from fun W h => by
    obtain ⟨h0, hz⟩ := HBX.out
    have k0 := (h.block (w.heap.size) (by omega)).trans h0
    exact ⟨k0, (Array.getElem?_eq_some_iff.1 k0).1⟩)
  obtain ⟨hE, cN⟩ := HC.out w1 (Below.refl _ _)
  obtain ⟨e0, e1, e2, e3, e4, e5, e6, e7⟩ := cellsE hE
  clear hE
  have cE : w.heap.size < w1.heap.size := by omega
  go_wp2_with fail
  refine (parts_any (.mk 5 op 0 0 ⟨#[]⟩ 0 0 [p]) 1 _ Q _ (HCv.out _ (bt HB.out (Below.refl w1.heap.size w1)))).mono ?_
  rintro e' wp ⟨rfl, hbp⟩
  rw [show decide (((.mk 5 op 0 0 ⟨#[]⟩ 0 0 [p]) : CT).parts.length = 1) = true from rfl]
  have HBp := Lib.hid (bt (Below.refl w1.heap.size w1) hbp)
  clear hbp
  clear e0 e1 e2 e3 e4 e5 e6 e7 cN cE
  obtain ⟨hE, cN⟩ := HC.out wp HBp.out
  obtain ⟨e0, e1, e2, e3, e4, e5, e6, e7⟩ := cellsE hE
  clear hE
  have cE : w.heap.size < wp.heap.size := by omega
  obtain ⟨a0, a1, a2, a3, a4, a5, a6, a7⟩ := HAtp.out wp (bt HB.out HBp.out)
  have hbw : b < wp.heap.size := Nat.lt_of_lt_of_le HBl.out (bt HB.out HBp.out).size
  have ho1 : ((op.toList == [73, 83, 32, 78, 85, 76, 76]) = true ∧ op.toList = op.toList) ∨ ((op.toList == [73, 83, 32, 78, 85, 76, 76]) = false ∧ (op.toList == [73, 83, 32, 78, 79, 84, 32, 78, 85, 76, 76]) = true) := by rcases ho with h | h <;> simp [h]
  have HBwp := Lib.hid (bt HB.out HBp.out)
  obtain ⟨bo, hbo⟩ : ∃ bo, bo = (op.toList == [73, 83, 32, 78, 85, 76, 76]) := ⟨_, rfl⟩
  have HBo := Lib.hid hbo
  clear hbo
  clear ho
  rcases ho1 with ⟨ho1, -⟩ | ⟨ho1, ho2⟩
  all_goals
    go_wp2_with fail
    refine (HIHp.out _ a len cap Q _ (HR.out.below HBwp.out) (HCvp.out _ HBwp.out)).mono ?_
    rintro e' w3 ⟨rfl, hb3⟩
    rw [← HYp.out]
    have HB3 := Lib.hid (bt HBp.out hb3)
    clear hb3
    clear e0 e1 e2 e3 e4 e5 e6 e7 cN cE
    clear a0 a1 a2 a3 a4 a5 a6 a7 hbw
    go_upto_region 4 with (fail)
    have HN := Lib.hid (Go.heap_alloc_new w3 (.cells #[.int .i64 yp.1.1, .int .i64 yp.1.2.1, .string yp.1.2.2] 38 (0, 0)))
    have HB34 := Lib.hid (show Below w3.heap.size w3 (w3.alloc (.cells #[.int .i64 yp.1.1, .int .i64 yp.1.2.1, .string yp.1.2.2] 38)) from bel0 _ (Below.refl _ _))
    generalize (w3.alloc (.cells #[.int .i64 yp.1.1, .int .i64 yp.1.2.1, .string yp.1.2.2] 38)) = w4 at *
    have HB4 := Lib.hid (bt HB3.out HB34.out)
    have HBw4 := Lib.hid (bt HB.out HB4.out)
    obtain ⟨m0, m1, m2, -, -, -, m6⟩ := v3 HN.out
    obtain ⟨hE, cN⟩ := HC.out w4 HB4.out
    obtain ⟨e0, e1, e2, e3, e4, e5, e6, e7⟩ := cellsE hE
    clear hE
    have cE : w.heap.size < w4.heap.size := by omega
    by_cases hz : yp.2.2 = 0
    · have hbe : ((yp.1.1 == 0) == (op.toList == [73, 83, 32, 78, 85, 76, 76])) = true ∨ ((yp.1.1 == 0) == (op.toList == [73, 83, 32, 78, 85, 76, 76])) = false := by cases ((yp.1.1 == 0) == (op.toList == [73, 83, 32, 78, 85, 76, 76])) <;> simp
      have HQ := Lib.hid (show askV R (.mk 5 op 0 0 ⟨#[]⟩ 0 0 [p]) = (noV, truthI ((yp.1.1 == 0) == (op.toList == [73, 83, 32, 78, 85, 76, 76])), 0) by rw [HAq.out]; unfold askH; rw [if_neg (by decide), if_neg (by decide), if_neg (show ¬ (([yp] : List Wo).getD 0 noW).2.2 ≠ 0 from fun h => h hz), if_neg (by decide), if_pos rfl]; rfl)
      rcases hbe with hbe | hbe
      all_goals
        have HQ2 := Lib.hid (congrArg truthI hbe)
        go_wp2
        all_goals
          go_ret2
          rw [HQ.out]
          exact ⟨by rw [HQ2.out]; first | rfl | (simp_all; done), HBw4.out⟩
    · have hne : (yp.2.2 != 0) = true := by simp [hz]
      have HQ := Lib.hid (show askV R (.mk 5 op 0 0 ⟨#[]⟩ 0 0 [p]) = (noV, 0, yp.2.2) from by rw [HAq.out]; unfold askH; rw [if_neg (by decide), if_neg (by decide), if_pos (show ((yp :: _ : List Wo).getD 0 noW).2.2 ≠ 0 from hz)]; rfl)
      go_wp2
      go_ret2
      rw [HQ.out]
      exact ⟨rfl, HBw4.out⟩
end Go.Proofs.Ytafhgilikcablaa
